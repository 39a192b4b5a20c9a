/-
  Small laws for the texts on elements: bytes as cells, slices of bytes that a call has made itself, a string's byte at a number that has been reckoned, results that lie in a variable. Nothing is claimed of the program here.
  Small laws for the texts on strings of names: a string's bytes at numbers that have been reckoned, slices of bytes that a call has made itself, pairs of strings in cells. Nothing is claimed of the program here.
  One-time signatures without a program: the digits of a digest, the steps of a chain, and that of the digits of two digests neither row is at most the other. Nothing is claimed of the program here.
  One-time signatures without a program: keys, signatures and what a signature leads to, over any hash of one size. Nothing is claimed of the program here.
  Trees of one-time keys without a program: nodes, siblings, the way from a leaf to the root. Nothing is claimed of the program here.
  The contracts of strings.SplitN at a point, strings.HasPrefix, strings.Join, strconv.Itoa, cmp.Compare and bits.Len: the library's theorems, laid at the program's own numbers. Nothing is claimed of the program beyond its bodies.
  Object identifiers as lists of numbers: their texts, their contents, and that each of both determines the numbers. Nothing is claimed of the program here.
  Small laws for the texts on object identifiers: a string's bytes at numbers that have been reckoned, slices of numbers and of bytes that a call has made itself. Nothing is claimed of the program here.
  Plain mathematics, no program: SHA-256 as functions on 32-bit words and lists of bytes, and the words as the integers that the model's slots hold.
  Nothing is claimed of the program here.
-/
import Derived.WalkKit
import Derived.WalkSpells
import Derived.Deep.MidRow
import Derived.Deep.Draws
import Derived.Lib.Hide
import Derived.Deep.QuietTactic
import Derived.BigQuiet
import Derived.RegionTactic
import Derived.ChangeAlike
import Derived.LoopTactic
import Derived.OwnWalk
import Derived.Laws.BytesString
import Derived.Deep.RegionLaw
import Derived.Deep.RegionHeld3
import Derived.Deep.OwnRows
import Derived.Test.YtphgpakfdhdklaaDoorChecked
import Derived.Shelf.Strings.Builder1
import Derived.Lib.Split
import Derived.Lib.ItoaNum
import Derived.Lib.AppendIntMem
import Derived.Lib.IndexLaws
import Derived.Lib.IndexBytes
import Derived.Lib.Join
namespace Go.Proofs.YtphgpakfdhdklaaDoor
open Go.RowKit

/-- A byte as a cell. -/
def bcell (b : UInt8) : Value := .int .u8 (b.toNat : Nat)
theorem bcells_one (l : List UInt8) : ∀ v ∈ l.map bcell, v.oneCell' = true := by
  intro v hv; obtain ⟨b, _, rfl⟩ := List.mem_map.1 hv; rfl

/-- The slice value v, of memory from block B on, holds the bytes l. -/
def OwnB (E : TypeId) (w : World) (B : Nat) (v : Value) (l : List UInt8) : Prop := w.ownsRow B E 1 v l.length (l.map bcell)

theorem step_append_own {P : Program} {ops : Array Oper} {o : Oper} {a : Act} {w : World} {K : Act → World → Prop} {Q : Exit → Act → World → Prop} {E : Prop} (hgd : o.guard = none) (s x : Operand) (t : TypeId)
    (ho : o.op = .call { callee := .builtin .append, args := #[s, x], argTypes := #[t, t] })
    (base : Nat) (e : TypeId) (i : TypeInfo) (z : Value) (bytes : Nat) (ht : P.underlying t = some (.slice e)) (hi : P.info? e = some i) (hz : i.zero = some z)
    (hsize : i.size = 1) (hby : i.bytes = bytes) (hzs : z.cells.size = 1)
    (v : Value) (n : Nat) (xs : List Value) (hs : a.eval s = v) (hown : w.ownsRow base e 1 v n xs)
    (ad : Addr) (m c : Nat) (news : List Value) (hx : a.eval x = .slice (some ad) m c) (hl : news.length = m * 1) (hnews : ∀ j u, news[j]? = some u → w.cell? (ad.add j) = some u) (h1 : ∀ u ∈ news, u.oneCell' = true)
    (h63 : n + m ≤ maxLen) (hbytes : (n + m) * bytes ≤ 140737488355328) (hbase : base ≤ w.heap.size)
    (h : ∀ v' w', w'.ownsRow base e 1 v' (n + m) (xs ++ news) → w.grownBy w' v.ownBlock → (v' = .slice none 0 0 ↔ v = .slice none 0 0 ∧ m = 0) → K (a.put o.dst v') w') :
    if Region.wanted o (yielded ops a.tmps) = true then Oper.wp P o a w K Q else E := by
  have hw : Region.wanted o (yielded ops a.tmps) = true := by simp [Region.wanted, hgd]
  rw [if_pos hw]
  exact wp_append_own w s x t ho base e i z 1 bytes ht hi hz hsize hby hzs (by omega) v n xs hs hown ad m c news hx hl hnews h1 h63 hbytes hbase h

theorem OwnB.grown {E : TypeId} {w : World} {B : Nat} {v : Value} {l : List UInt8} (h : OwnB E w B v l) {B0 : Nat} {w0 w' : World} (hb : Below B0 w0 w) (hg : w.grownBy w' v.ownBlock) (hB : B0 ≤ w.heap.size) (hB2 : B0 ≤ B) : Below B0 w0 w' :=
  hb.grown hg hB (fun k e => Nat.le_trans hB2 (h.lt k e).1)

/-- Its text. -/
theorem run_convert_own {P : Program} {w : World} {src dst e : TypeId} {B : Nat} {v : Value} {l : List UInt8} (hs : P.underlying src = some (.slice e)) (he : P.underlying e = some (.int .u8)) (hd : P.underlying dst = some .string) (h : OwnB e w B v l) :
    (convert src dst v).run P w = .ok (.string ⟨l.toArray⟩) w := by
  rcases h.2 with ⟨rfl, h0⟩ | ⟨g, cap, cur, rfl, _, hg, hn, _, hcs, htk⟩
  · obtain rfl := List.eq_nil_of_length_eq_zero h0
    rw [run_convert_bytes_string w src dst e none 0 0 hs he hd]
    unfold Conv.bytesToString
    simp
    rfl
  · refine run_convert_bytes_back w src dst e ⟨g, 0, none⟩ cap l hs he hd (fun j hj => ?_)
    have hadd : (⟨g, 0, none⟩ : Addr).add j = ⟨g, j, none⟩ := by unfold Addr.add; split <;> simp_all
    rw [hadd, cell_of_row w g j _ _ _ hg]
    have : (cur.toList.take (l.length * 1))[j]? = some (bcell l[j]) := by rw [htk]; simp [hj]
    rw [List.getElem?_take_of_lt (by omega)] at this
    simpa [bcell] using this
theorem news_row (W : World) (cs : Array Value) (E : TypeId) : ∀ j u, cs.toList[j]? = some u → (W.alloc (.cells cs E)).cell? ((⟨W.heap.size, 0, none⟩ : Addr).add j) = some u := fun j u h => by
  have hadd : (⟨W.heap.size, 0, none⟩ : Addr).add j = ⟨W.heap.size, j, none⟩ := by unfold Addr.add; split <;> simp_all
  rw [hadd, cell_of_row _ _ j _ _ _ (heap_alloc_new W _)]
  simpa using h


theorem run_index_at {P : Program} {t : TypeId} (ht : P.underlying t = some .string) (b : ByteArray) (j : Nat) (x : UInt8) (h : j < b.size) (hx : b[j] = x) (i : Int) (hi : i = (j : Int)) (w : World) :
    (Instr.index t (.string b) (.int .i64 i)).run P w = .ok (.int .u8 ((x.toNat : Nat) : Int)) w := by
  rw [run_index_string w t b .i64 i ht, dif_pos (by omega)]
  subst hi
  simp [hx]

theorem Below.drawn {B : Nat} {a w : World} (h : Below B a w) (n : Nat) : Below B a (w.drewN n) := ⟨h.os, h.tape, h.output, h.size, h.block⟩
theorem OwnB.drawn {E : TypeId} {w : World} {B : Nat} {v : Value} {l : List UInt8} (h : OwnB E w B v l) (n : Nat) : OwnB E (w.drewN n) B v l := h

/-- A result that lies in a variable of a struct's type, one or two others beside it. -/
theorem results_cell_row2 {P : Program} {fn : Func} {p u : Tmp} {ty : TypeId} (h : fn.results = #[.cell p ty, .tmp u]) (tmps : Array Value) (w : World) (g : Nat) (t : TypeId) (cs : Array Value) (fr : Nat × Nat) (d : TypeDesc)
    (hp : tmps.getD p undef = .pointer (some ⟨g, 0, none⟩)) (hg : w.heap[g]? = some (.cells cs t fr))
    (hu : P.underlying ty = some d) (hd : (match d with | .struct _ | .array _ _ => true | _ => false) = true) (hi : (P.info? ty).map (·.size) = some cs.size) :
    (results fn tmps).run P w = .ok (.tuple #[.agg cs, tmps.getD u undef]) w := by
  have hp' : tmps[p]?.getD undef = .pointer (some ⟨g, 0, none⟩) := by simpa using hp
  simp [results, h, hp', asAddr, run_loadVar_row w g t ty cs fr d hg hu hd hi]
end Go.Proofs.YtphgpakfdhdklaaDoor
namespace Go.Proofs.YtphgpakfdhdklaaDoor
open Go.RowKit

/-- The byte at a place (0 behind the end). -/
def u8at (b : ByteArray) (i : Nat) : Nat := (b.data.toList.getD i 0).toNat
theorem u8at_lt (b : ByteArray) (i : Nat) : u8at b i < 256 := (b.data.toList.getD i 0).toNat_lt
theorem u8at_get (b : ByteArray) (i : Nat) (h : i < b.size) : u8at b i = (b[i]).toNat := by
  have : i < b.data.toList.length := h
  unfold u8at
  rw [List.getD_eq_getElem?_getD, List.getElem?_eq_getElem this]
  rfl
theorem u8at_list (b : ByteArray) (i : Nat) (h : i < b.size) : ∃ c : UInt8, b.data.toList[i]? = some c ∧ u8at b i = c.toNat := by
  have : i < b.data.toList.length := h
  refine ⟨b.data.toList[i], List.getElem?_eq_getElem this, ?_⟩
  unfold u8at
  rw [List.getD_eq_getElem?_getD, List.getElem?_eq_getElem this]
  rfl
theorem run_index_u8 {P : Program} {t : TypeId} (ht : P.underlying t = some .string) (b : ByteArray) (j : Nat) (h : j < b.size) (i : Int) (hi : i = (j : Int)) (w : World) :
    (Instr.index t (.string b) (.int .i64 i)).run P w = .ok (.int .u8 ((u8at b j : Nat) : Int)) w := by
  rw [u8at_get b j h]
  exact run_index_at ht b j b[j] h rfl i hi w
theorem nonempty_list {c : ByteArray} (h : c.size ≠ 0) : c.toList.isEmpty = false := by
  rw [ByteArray.toList_eq]
  cases e : c.data.toList with
  | nil => exact absurd (show c.data.toList.length = 0 by rw [e]; rfl) h
  | cons => rfl
theorem toList_eq_list (c : ByteArray) : c.toList = c.data.toList := ByteArray.toList_eq c
theorem belowNew (w : World) (o : Obj) : Below w.heap.size w (w.alloc o) := (Below.refl _ w).alloc (Nat.le_refl _) o
/-- The string of these bytes. -/
def strOf (l : List UInt8) : ByteArray := ⟨l.toArray⟩
theorem strOf_list (l : List UInt8) : (strOf l).data.toList = l := rfl
theorem strOf_of {b : ByteArray} {l : List UInt8} (h : b.data.toList = l) : b = strOf l := by
  apply ByteArray.ext
  apply Array.ext'
  exact h
theorem list_inj {a b : ByteArray} (h : a.data.toList = b.data.toList) : a = b := by rw [strOf_of (b := a) rfl, strOf_of (b := b) rfl, h]
theorem str_add (a b : ByteArray) : (a ++ b).data.toList = a.data.toList ++ b.data.toList := by rw [ByteArray.data_append, Array.toList_append]
theorem take_snoc {l : List UInt8} {k : Nat} {c : UInt8} (h : l[k]? = some c) : l.take (k + 1) = l.take k ++ [c] := by rw [List.take_add_one, h]; rfl

/-! ### Rows that a call has made itself -/
/-- A number as a cell; the slice value v, of memory from block B on, holds the numbers a. -/
def icell (n : Nat) : Value := .int .i64 ((n : Nat) : Int)
theorem icells_one (l : List Nat) : ∀ v ∈ l.map icell, v.oneCell' = true := by
  intro v hv; obtain ⟨b, _, rfl⟩ := List.mem_map.1 hv; rfl
theorem own_str {w : World} {B : Nat} {v : Value} {l : List UInt8} (h : OwnB 5 w B v l) : (convert 36 9 v).run Tryd.prog w = .ok (.string (strOf l)) w :=
  run_convert_own Tryd.underlying36 Tryd.underlying5 Tryd.underlying9 h
theorem wrap_i64 (n : Int) : IntKind.i64.wrap n = (n + 9223372036854775808) % 18446744073709551616 - 9223372036854775808 := by
  simp [IntKind.wrap, IntKind.bits, IntKind.signed]
  split <;> omega
/-! ### Pairs of strings as cells -/
/-! ### Bytes that were handed in -/
/-- The bytes l can be read from the address a on. -/
def BLies (w : World) (a : Option Addr) (l : List UInt8) : Prop := l = [] ∨ ∃ b o, a = some ⟨b, o, none⟩ ∧ ∀ i (h : i < l.length), w.cell? ⟨b, o + i, none⟩ = some (bcell l[i])
theorem BLies.below {w w' : World} {a : Option Addr} {l : List UInt8} (h : BLies w a l) (hb : Below w.heap.size w w') : BLies w' a l := by
  rcases h with h | ⟨b, off, h1, h2⟩
  · exact .inl h
  · refine .inr ⟨b, off, h1, fun i hi => ?_⟩
    rw [← h2 i hi]
    exact hb.cell (World.block_lt_of_cell? _ _ (h2 i hi))
end Go.Proofs.YtphgpakfdhdklaaDoor
namespace Go.Proofs.YtphgpakfdhdklaaDoor
open Go.RowKit

/-- The halves of the bytes. -/
def halves : List UInt8 → List Nat
  | [] => []
  | b :: r => b.toNat / 16 :: b.toNat % 16 :: halves r
/-- The sum of what the digits lack. -/
def lack : List Nat → Nat
  | [] => 0
  | d :: r => (15 - d) + lack r
def sumD (n : Nat) : List Nat := [n / 256, n / 16 % 16, n % 16]
def digs (l : List UInt8) : List Nat := halves l ++ sumD (lack (halves l))
theorem halves_len : ∀ l : List UInt8, (halves l).length = 2 * l.length
  | [] => rfl
  | b :: r => by
    show (halves r).length + 1 + 1 = 2 * (r.length + 1)
    rw [halves_len r]
    omega
theorem halves_le : ∀ (l : List UInt8), ∀ d ∈ halves l, d ≤ 15
  | [], d, h => by cases h
  | b :: r, d, h => by
    have hb := b.toNat_lt
    rcases List.mem_cons.1 h with rfl | h
    · omega
    · rcases List.mem_cons.1 h with rfl | h
      · omega
      · exact halves_le r d h
theorem lack_le : ∀ (l : List Nat), lack l ≤ 15 * l.length
  | [] => Nat.le_refl _
  | d :: r => by
    have := lack_le r
    show (15 - d) + lack r ≤ 15 * (r.length + 1)
    omega
theorem digs_len (l : List UInt8) : (digs l).length = 2 * l.length + 3 := by
  unfold digs
  rw [List.length_append, halves_len]
  rfl
theorem digs_le (l : List UInt8) (hl : l.length ≤ 16) : ∀ d ∈ digs l, d ≤ 15 := by
  intro d hd
  have h1 := lack_le (halves l)
  rw [halves_len] at h1
  rcases List.mem_append.1 hd with hd | hd
  · exact halves_le l d hd
  · unfold sumD at hd
    simp at hd
    omega
/-! ### Chains -/
/-- n steps from position p. -/
def stepsF (f : Nat → ByteArray → ByteArray) : Nat → Nat → ByteArray → ByteArray
  | _, 0, v => v
  | p, n + 1, v => stepsF f (p + 1) n (f p v)
theorem steps_add (f : Nat → ByteArray → ByteArray) : ∀ (m n p : Nat) (v : ByteArray), stepsF f p (m + n) v = stepsF f (p + m) n (stepsF f p m v)
  | 0, n, p, v => by rw [Nat.zero_add]; rfl
  | m + 1, n, p, v => by
    rw [show m + 1 + n = (m + n) + 1 by omega]
    show stepsF f (p + 1) (m + n) (f p v) = stepsF f (p + (m + 1)) n (stepsF f (p + 1) m (f p v))
    rw [steps_add f m n (p + 1) (f p v), show p + 1 + m = p + (m + 1) by omega]
theorem steps_last (f : Nat → ByteArray → ByteArray) (n p : Nat) (v : ByteArray) : stepsF f p (n + 1) v = f (p + n) (stepsF f p n v) := steps_add f n 1 p v
theorem steps_size {f : Nat → ByteArray → ByteArray} {z : Nat} (hf : ∀ p v, (f p v).size = z) : ∀ (n p : Nat) (v : ByteArray), v.size = z → (stepsF f p n v).size = z
  | 0, _, _, h => h
  | n + 1, p, v, _ => steps_size hf n (p + 1) (f p v) (hf p v)
end Go.Proofs.YtphgpakfdhdklaaDoor
namespace Go.Proofs.YtphgpakfdhdklaaDoor
open Go.RowKit

/-- A number as four bytes, as one byte. -/
def b4 (n : Nat) : List UInt8 := [UInt8.ofNat (n / 16777216 % 256), UInt8.ofNat (n / 65536 % 256), UInt8.ofNat (n / 256 % 256), UInt8.ofNat (n % 256)]
def b1 (n : Nat) : List UInt8 := [UInt8.ofNat (n % 256)]
/-- One step of a chain from position p. -/
def stepQ (H : List UInt8 → ByteArray) (id : List UInt8) (leaf c p : Nat) (v : ByteArray) : ByteArray := H (67 :: (id ++ b4 leaf ++ b1 c ++ b1 p ++ v.data.toList))
def secQ (H : List UInt8 → ByteArray) (seed : List UInt8) (leaf c : Nat) : ByteArray := H (83 :: (seed ++ b4 leaf ++ b1 c))
/-- The value of chain c at position d. -/
def valQ (H : List UInt8 → ByteArray) (id seed : List UInt8) (leaf c d : Nat) : ByteArray := stepsF (stepQ H id leaf c) 0 d (secQ H seed leaf c)
def catQ (l : List ByteArray) : List UInt8 := l.flatMap fun s => s.data.toList
def keyQ (H : List UInt8 → ByteArray) (id : List UInt8) (leaf : Nat) (ends : List ByteArray) : ByteArray := H (76 :: (id ++ b4 leaf ++ catQ ends))
def pubQ (H : List UInt8 → ByteArray) (id seed : List UInt8) (leaf : Nat) : ByteArray := keyQ H id leaf ((List.range 35).map fun c => valQ H id seed leaf c 15)
def sigQ (H : List UInt8 → ByteArray) (id seed : List UInt8) (leaf : Nat) (d : List Nat) : List ByteArray := (List.range 35).map fun c => valQ H id seed leaf c (d.getD c 0)
/-- The part of a signature that belongs to chain c. -/
def partQ (s : ByteArray) (c : Nat) : ByteArray := s.extract (c * 16) ((c + 1) * 16)
def recQ (H : List UInt8 → ByteArray) (id : List UInt8) (leaf : Nat) (d : List Nat) (s : ByteArray) : ByteArray := keyQ H id leaf ((List.range 35).map fun c => stepsF (stepQ H id leaf c) (d.getD c 0) (15 - d.getD c 0) (partQ s c))
theorem valQ_size {H : List UInt8 → ByteArray} (hH : ∀ l, (H l).size = 16) (id seed : List UInt8) (leaf c d : Nat) : (valQ H id seed leaf c d).size = 16 := steps_size (fun _ _ => hH _) d 0 _ (hH _)
theorem extract_listq (s : ByteArray) (i j : Nat) : (s.extract i j).data.toList = (s.data.toList.take j).drop i := by
  rw [ByteArray.data_extract, Array.toList_extract]
  simp [List.drop_take]
theorem catQ_part : ∀ {l : List ByteArray}, (∀ s ∈ l, s.size = 16) → ∀ c, c < l.length → ((catQ l).take ((c + 1) * 16)).drop (c * 16) = (l.getD c ⟨#[]⟩).data.toList
  | [], _, c, h => absurd h (Nat.not_lt_zero _)
  | s :: r, h, 0, _ => by
    have h2 : s.data.toList.length = 16 := h s (by simp)
    show ((s.data.toList ++ catQ r).take 16).drop 0 = s.data.toList
    rw [List.drop_zero, List.take_append_of_le_length (by omega), List.take_of_length_le (by omega)]
  | s :: r, h, c + 1, hc => by
    have h2 : s.data.toList.length = 16 := h s (by simp)
    have h3 := catQ_part (l := r) (fun x hx => h x (List.mem_cons_of_mem _ hx)) c (by simpa using hc)
    show ((s.data.toList ++ catQ r).take ((c + 1 + 1) * 16)).drop ((c + 1) * 16) = (r.getD c ⟨#[]⟩).data.toList
    rw [show (c + 1 + 1) * 16 = s.data.toList.length + (c + 1) * 16 by omega, List.take_length_add_append, show (c + 1) * 16 = s.data.toList.length + c * 16 by omega, List.drop_length_add_append, ← h3]
    congr 2
    omega
theorem partQ_cat {l : List ByteArray} (h : ∀ s ∈ l, s.size = 16) {c : Nat} (hc : c < l.length) : partQ ⟨(catQ l).toArray⟩ c = l.getD c ⟨#[]⟩ := by
  apply ByteArray.ext
  apply Array.toList_inj.1
  unfold partQ
  rw [extract_listq]
  exact catQ_part h c hc
/-- A signature leads to the public key of its leaf. -/
theorem rec_sig {H : List UInt8 → ByteArray} (hH : ∀ l, (H l).size = 16) (id seed : List UInt8) (leaf : Nat) {d : List Nat} (hd : ∀ x ∈ d, x ≤ 15) : recQ H id leaf d ⟨(catQ (sigQ H id seed leaf d)).toArray⟩ = pubQ H id seed leaf := by
  unfold recQ pubQ
  congr 1
  refine List.map_congr_left fun c hc => ?_
  have hc35 : c < 35 := List.mem_range.1 hc
  have hs : ∀ s ∈ sigQ H id seed leaf d, s.size = 16 := fun s hs => by
    obtain ⟨x, _, rfl⟩ := List.mem_map.1 hs
    exact valQ_size hH _ _ _ _ _
  have hl : (sigQ H id seed leaf d).length = 35 := by unfold sigQ; rw [List.length_map, List.length_range]
  rw [partQ_cat hs (by omega)]
  have e : (sigQ H id seed leaf d).getD c ⟨#[]⟩ = valQ H id seed leaf c (d.getD c 0) := by
    unfold sigQ
    rw [List.getD_eq_getElem?_getD, List.getElem?_map, List.getElem?_range hc35]
    rfl
  have hx : d.getD c 0 ≤ 15 := by
    by_cases h : c < d.length
    · rw [List.getD_eq_getElem?_getD, List.getElem?_eq_getElem h]
      exact hd _ (List.getElem_mem h)
    · rw [List.getD_eq_getElem?_getD, List.getElem?_eq_none (by omega)]
      exact Nat.zero_le _
  rw [e]
  unfold valQ
  have h2 := steps_add (stepQ H id leaf c) (d.getD c 0) (15 - d.getD c 0) 0 (secQ H seed leaf c)
  rw [Nat.zero_add, show d.getD c 0 + (15 - d.getD c 0) = 15 by omega] at h2
  exact h2.symm
end Go.Proofs.YtphgpakfdhdklaaDoor
namespace Go.Proofs.YtphgpakfdhdklaaDoor
open Go.RowKit

def joinQ (H : List UInt8 → ByteArray) (id : List UInt8) (l i : Nat) (x y : ByteArray) : ByteArray := H (78 :: (id ++ b1 l ++ b4 i ++ x.data.toList ++ y.data.toList))
/-- Node i of level l over the leaves' keys. -/
def nodeQ (H : List UInt8 → ByteArray) (id : List UInt8) (g : Nat → ByteArray) : Nat → Nat → ByteArray
  | 0, i => g i
  | l + 1, i => joinQ H id l i (nodeQ H id g l (2 * i)) (nodeQ H id g l (2 * i + 1))
/-- The other child of the same node. -/
def sibQ (i : Nat) : Nat := if i % 2 = 1 then i - 1 else i + 1
/-- The way up from a value at level 0, with the siblings s. -/
def climbQ (H : List UInt8 → ByteArray) (id : List UInt8) (leaf : Nat) (s : Nat → ByteArray) : Nat → ByteArray → ByteArray
  | 0, v => v
  | l + 1, v => if leaf / 2 ^ l % 2 = 1 then joinQ H id l (leaf / 2 ^ l / 2) (s l) (climbQ H id leaf s l v) else joinQ H id l (leaf / 2 ^ l / 2) (climbQ H id leaf s l v) (s l)
theorem climb_node (H : List UInt8 → ByteArray) (id : List UInt8) (g : Nat → ByteArray) (leaf : Nat) : ∀ l, climbQ H id leaf (fun k => nodeQ H id g k (sibQ (leaf / 2 ^ k))) l (g leaf) = nodeQ H id g l (leaf / 2 ^ l)
  | 0 => by
    show g leaf = g (leaf / 2 ^ 0)
    rw [Nat.pow_zero, Nat.div_one]
  | l + 1 => by
    have h := climb_node H id g leaf l
    have e : leaf / 2 ^ (l + 1) = leaf / 2 ^ l / 2 := by rw [Nat.pow_succ, Nat.div_div_eq_div_mul]
    unfold climbQ
    rw [h, e]
    generalize leaf / 2 ^ l = i
    show (if i % 2 = 1 then joinQ H id l (i / 2) (nodeQ H id g l (sibQ i)) (nodeQ H id g l i) else joinQ H id l (i / 2) (nodeQ H id g l i) (nodeQ H id g l (sibQ i))) = joinQ H id l (i / 2) (nodeQ H id g l (2 * (i / 2))) (nodeQ H id g l (2 * (i / 2) + 1))
    unfold sibQ
    by_cases hi : i % 2 = 1
    · rw [if_pos hi, if_pos hi, show 2 * (i / 2) = i - 1 by omega, show i - 1 + 1 = i by omega]
    · rw [if_neg hi, if_neg hi, show 2 * (i / 2) = i by omega]
/-- From a leaf of a tree of height h the way leads to the root. -/
theorem climb_root (H : List UInt8 → ByteArray) (id : List UInt8) (g : Nat → ByteArray) {leaf h : Nat} (hl : leaf < 2 ^ h) : climbQ H id leaf (fun k => nodeQ H id g k (sibQ (leaf / 2 ^ k))) h (g leaf) = nodeQ H id g h 0 := by
  rw [climb_node, Nat.div_eq_of_lt hl]
end Go.Proofs.YtphgpakfdhdklaaDoor
namespace Go.Proofs.YtphgpakfdhdklaaDoor
open Go.Shelf Go.RowKit

/-- The table of powers of ten holds what the program's text lays, and no new block changes that. -/
def Pow10 (w : World) : Prop := Lib.TabBelow Tryd.prog w.heap.size w "internal/strconv.uint64pow10" .u64 Lib.pow10Tab
theorem Pow10.below {w w' : World} (h : Pow10 w) (hb : Below w.heap.size w w') : Pow10 w' := fun x hx => h x (hb.trans (hx.mono hb.size))
end Go.Proofs.YtphgpakfdhdklaaDoor
namespace Go.Proofs.YtphgpakfdhdklaaDoor

/-- The numbers' codes, one behind the other. -/
def cat (f : Nat → List UInt8) : List Nat → List UInt8
  | [] => []
  | v :: r => f v ++ cat f r
/-! ### Decimal numbers -/
def fdot (v : Nat) : List UInt8 := Lib.decDigits v ++ [46]
/-- The numbers of an object identifier. -/
def Good (a : List Nat) : Prop := 2 ≤ a.length ∧ a.length ≤ 12 ∧ (∀ v ∈ a, v ≤ 2147483647) ∧ a.getD 0 0 ≤ 2 ∧ (a.getD 0 0 < 2 → a.getD 1 0 ≤ 39)
/-- The text l is the object identifier with the numbers a. -/
def Oid (l : List UInt8) (a : List Nat) : Prop := Good a ∧ l ++ [46] = cat fdot a
/-! ### The pieces between the points -/
/-! ### A text that is scanned byte by byte -/
/-! ### Numbers in base 128 -/
def hd7 (n : Nat) : List UInt8 := if _h : n = 0 then [] else hd7 (n / 128) ++ [UInt8.ofNat (128 + n % 128)]
termination_by n
decreasing_by omega
def e128 (n : Nat) : List UInt8 := hd7 (n / 128) ++ [UInt8.ofNat (n % 128)]
/-! ### The contents of an object identifier -/
def numsOf : List Nat → List Nat
  | a :: b :: r => (40 * a + b) :: r
  | l => l
def enc (a : List Nat) : List UInt8 := cat e128 (numsOf a)
/-! ### The order, and what lies under what -/
/-- The arcs of b are the first ones of a. -/
def under (a b : List Nat) : Bool := decide (b.length ≤ a.length) && decide (a.take b.length = b)
end Go.Proofs.YtphgpakfdhdklaaDoor
namespace Go.Proofs.YtphgpakfdhdklaaDoor
open Go.RowKit

/-! ### Rows that a call has made itself -/
def OwnI (w : World) (B : Nat) (v : Value) (a : List Nat) : Prop := w.ownsRow B 3 1 v a.length (a.map icell)
/-- The numbers a lie from the beginning of block g on. -/
def ILie (w : World) (g : Nat) (a : List Nat) : Prop := g < w.heap.size ∧ ∀ j, j < a.length → w.cell? ⟨g, j, none⟩ = some (.int .i64 ((a.getD j 0 : Nat) : Int))
theorem ILie.cell {w : World} {g : Nat} {a : List Nat} (h : ILie w g a) (j : Nat) (hj : j < a.length) : w.cell? ⟨g, j, none⟩ = some (.int .i64 ((a.getD j 0 : Nat) : Int)) := h.2 j hj
theorem ILie.below {w w' : World} {g : Nat} {a : List Nat} (h : ILie w g a) (hb : Below w.heap.size w w') : ILie w' g a :=
  ⟨Nat.lt_of_lt_of_le h.1 hb.size, fun j hj => by
    have e := h.2 j hj
    rw [← e]
    exact hb.cell h.1⟩
theorem ILie.alloc {w : World} {g : Nat} {a : List Nat} (h : ILie w g a) (o : Obj) : ILie (w.alloc o) g a := h.below (belowNew w o)
theorem ILie.drawn {w : World} {g : Nat} {a : List Nat} (h : ILie w g a) (n : Nat) : ILie (w.drewN n) g a := h
theorem OwnI.open {w : World} {B : Nat} {v : Value} {a : List Nat} (h : OwnI w B v a) (ha : a ≠ []) : ∃ g cap, v = .slice (some ⟨g, 0, none⟩) a.length cap ∧ B ≤ g ∧ ILie w g a ∧ a.length ≤ cap := by
  rcases h.2 with ⟨rfl, h0⟩ | ⟨g, cap, cur, rfl, hB, hg, hn, _, hcs, htk⟩
  · exact absurd (List.eq_nil_of_length_eq_zero h0) ha
  · refine ⟨g, cap, rfl, hB, ⟨(Array.getElem?_eq_some_iff.1 hg).1, fun j hj => ?_⟩, hn⟩
    rw [cell_of_row w g j _ _ _ hg]
    have : (cur.toList.take (a.length * 1))[j]? = some (icell (a.getD j 0)) := by rw [htk]; simp [hj]
    rw [List.getElem?_take_of_lt (by omega)] at this
    simpa [icell] using this
theorem intInfo : (Tryd.prog.info? 3).map (fun i => (i.zero, i.size, i.bytes)) = some (some (.int .i64 0), 1, 8) := by kernel_rfl
theorem strInfo : (Tryd.prog.info? 9).map (fun i => (i.zero, i.size, i.bytes)) = some (some (.string ByteArray.empty), 1, 16) := by kernel_rfl
theorem OwnI.form {w : World} {B : Nat} {v : Value} {a : List Nat} (h : OwnI w B v a) : ∃ p cap, v = .slice p a.length cap := by
  rcases h.2 with ⟨rfl, h0⟩ | ⟨g, cap, cur, rfl, _⟩
  · exact ⟨none, 0, by rw [h0]⟩
  · exact ⟨_, cap, rfl⟩
end Go.Proofs.YtphgpakfdhdklaaDoor
namespace Go.Proofs.YtphgpakfdhdklaaDoor

/-- A word as the integer that a slot of type uint32 holds. -/
def u32 (x : BitVec 32) : Int := (x.toNat : Int)

theorem u32_lo (x : BitVec 32) : 0 ≤ u32 x := by unfold u32; omega
theorem u32_hi (x : BitVec 32) : u32 x ≤ 4294967295 := by unfold u32; have := x.isLt; omega
theorem wrap_u32_emod (n : Int) : IntKind.u32.wrap n = n % 4294967296 := by simp [IntKind.wrap, IntKind.bits, IntKind.signed]
@[go_sem] theorem u32_and_bv (x y : BitVec 32) : bits .and .u32 (u32 x) (u32 y) = u32 (x &&& y) := by
  unfold u32; rw [u32_and_nat _ _ x.isLt y.isLt, BitVec.toNat_and]
@[go_sem] theorem u32_or_bv (x y : BitVec 32) : bits .or .u32 (u32 x) (u32 y) = u32 (x ||| y) := by
  unfold u32; rw [u32_or_nat _ _ x.isLt y.isLt, BitVec.toNat_or]
@[go_sem] theorem u32_xor_bv (x y : BitVec 32) : bits .xor .u32 (u32 x) (u32 y) = u32 (x ^^^ y) := by
  unfold u32; rw [u32_xor_nat _ _ x.isLt y.isLt, BitVec.toNat_xor]
@[go_sem] theorem u32_add_bv (x y : BitVec 32) : IntKind.u32.wrap (u32 x + u32 y) = u32 (x + y) := by
  unfold u32; rw [wrap_u32_emod, BitVec.toNat_add]; omega
@[go_sem] theorem u32_not_bv (x : BitVec 32) : bits .xor .u32 4294967295 (u32 x) = u32 (~~~x) := by
  have h : (4294967295 : Int) = u32 (BitVec.allOnes 32) := by decide
  rw [h, u32_xor_bv, BitVec.allOnes_xor]
@[go_sem] theorem u32_signed : IntKind.u32.signed = false := rfl
@[go_sem] theorem u32_max : IntKind.u32.max = 4294967295 := by decide
theorem u32_shr_bv (x : BitVec 32) (n : Nat) : u32 x / 2 ^ n = u32 (x >>> n) := by
  unfold u32; rw [BitVec.toNat_ushiftRight, Nat.shiftRight_eq_div_pow]; simp
theorem u32_shl_bv (x : BitVec 32) (n : Nat) : IntKind.u32.wrap (u32 x * 2 ^ n) = u32 (x <<< n) := by
  unfold u32; rw [wrap_u32_emod, BitVec.toNat_shiftLeft, Nat.shiftLeft_eq]
  simp

@[go_sem] theorem u32_shl8 (x : BitVec 32) : IntKind.u32.wrap (u32 x * (256 : Int)) = u32 (x <<< 8) := u32_shl_bv x 8
@[go_sem] theorem u32_shr3 (x : BitVec 32) : u32 x / (8 : Int) = u32 (x >>> 3) := u32_shr_bv x 3
@[go_sem] theorem u32_shr10 (x : BitVec 32) : u32 x / (1024 : Int) = u32 (x >>> 10) := u32_shr_bv x 10

/-- A rotation to the right. -/
def rotr (x : BitVec 32) (n : Nat) : BitVec 32 := x <<< (32 - n) ||| x >>> n
/-- A byte as a word. -/
def bw (b : UInt8) : BitVec 32 := BitVec.ofNat 32 b.toNat
theorem bw_u32 (b : UInt8) : ((b.toNat : Nat) : Int) = u32 (bw b) := by
  unfold u32 bw; rw [BitVec.toNat_ofNat]; have := b.toNat_lt; omega
@[go_sem] theorem wrap_byte (b : UInt8) : IntKind.u32.wrap ((b.toNat : Nat) : Int) = u32 (bw b) := by
  rw [wrap_u32_emod, ← bw_u32]; have := b.toNat_lt; omega
@[go_sem] theorem wrap_word (x : BitVec 32) : IntKind.u32.wrap (u32 x) = u32 x := by
  rw [wrap_u32_emod]; have := u32_lo x; have := u32_hi x; omega

/-- The element at a place; nought behind the end. -/
def at8 (l : List UInt8) (j : Nat) : UInt8 := l.getD j 0
def at32 (L : List (BitVec 32)) (j : Nat) : BitVec 32 := L.getD j 0#32

/-- The word that bytes make, the most significant one first. -/
def wordOf (l : List UInt8) : BitVec 32 := l.foldl (fun a c => a <<< 8 ||| bw c) 0#32
theorem wordOf_snoc (l : List UInt8) (c : UInt8) : wordOf (l ++ [c]) = wordOf l <<< 8 ||| bw c := by
  simp [wordOf]

/-- The state between two blocks, and the eight words within a block. -/
structure St where
  a : BitVec 32
  b : BitVec 32
  c : BitVec 32
  d : BitVec 32
  e : BitVec 32
  f : BitVec 32
  g : BitVec 32
  h : BitVec 32

def small0 (x : BitVec 32) : BitVec 32 := rotr x 7 ^^^ rotr x 18 ^^^ x >>> 3
def small1 (x : BitVec 32) : BitVec 32 := rotr x 17 ^^^ rotr x 19 ^^^ x >>> 10
def big0 (x : BitVec 32) : BitVec 32 := rotr x 2 ^^^ rotr x 13 ^^^ rotr x 22
def big1 (x : BitVec 32) : BitVec 32 := rotr x 6 ^^^ rotr x 11 ^^^ rotr x 25
def choose (e f g : BitVec 32) : BitVec 32 := e &&& f ^^^ ~~~e &&& g
def major (a b c : BitVec 32) : BitVec 32 := a &&& b ^^^ a &&& c ^^^ b &&& c

/-- The words that the rounds add: those of the block, then k further ones. -/
def newWord (L : List (BitVec 32)) (i : Nat) : BitVec 32 :=
  at32 L (i - 16) + small0 (at32 L (i - 15)) + at32 L (i - 7) + small1 (at32 L (i - 2))
def words16 (l : List UInt8) : List (BitVec 32) := (List.range 16).map fun j => wordOf ((l.drop (4 * j)).take 4)
/-- The first 16 words when k bytes have been read. -/
def partW (l : List UInt8) (k : Nat) : List (BitVec 32) := (List.range 16).map fun j => wordOf (((l.take k).drop (4 * j)).take 4)
theorem at32_partW (l : List UInt8) (k j : Nat) (hj : j < 16) : at32 (partW l k) j = wordOf (((l.take k).drop (4 * j)).take 4) := by simp [at32, partW, hj]
theorem at32_partW_out (l : List UInt8) (k j : Nat) (hj : 16 ≤ j) : at32 (partW l k) j = 0#32 := by simp [at32, partW, show ¬ j < 16 by omega]
theorem partW_zero (l : List UInt8) (j : Nat) : at32 (partW l 0) j = 0#32 := by
  by_cases h : j < 16
  · rw [at32_partW _ _ _ h]; simp [wordOf]
  · exact at32_partW_out _ _ _ (by omega)
theorem partW_full (l : List UInt8) (hl : l.length = 64) : partW l 64 = words16 l := by
  unfold partW words16; rw [List.take_of_length_le (by omega)]
theorem partW_step (l : List UInt8) (hl : l.length = 64) (k : Nat) (hk : k < 64) (j : Nat) :
    at32 (partW l (k + 1)) j = if j = k / 4 then at32 (partW l k) (k / 4) <<< 8 ||| bw (at8 l k) else at32 (partW l k) j := by
  have ht : l.take (k + 1) = l.take k ++ [at8 l k] := by
    rw [List.take_succ_eq_append_getElem (by omega)]; simp [at8, show k < l.length by omega]
  by_cases h : j < 16
  · rw [at32_partW _ _ _ h, ht]
    have hlen : (l.take k).length = k := by simp; omega
    by_cases e : j = k / 4
    · subst e
      rw [if_pos rfl, at32_partW _ _ _ h, ← wordOf_snoc, List.drop_append_of_le_length (by omega)]
      have h3 : (List.drop (4 * (k / 4)) (List.take k l)).length ≤ 3 := by simp; omega
      rw [List.take_of_length_le (l := List.drop (4 * (k / 4)) (List.take k l) ++ [at8 l k]) (by simp only [List.length_append, List.length_singleton]; omega),
        List.take_of_length_le (l := List.drop (4 * (k / 4)) (List.take k l)) (by omega)]
    · rw [if_neg e, at32_partW _ _ _ h]
      by_cases hlt : j < k / 4
      · rw [List.drop_append_of_le_length (by omega), List.take_append_of_le_length (by simp; omega)]
      · rw [List.drop_eq_nil_of_le (by simp; omega), List.drop_eq_nil_of_le (by omega)]
  · rw [at32_partW_out _ (k + 1) _ (by omega), if_neg (by omega), at32_partW_out _ k _ (by omega)]
def sched (l : List UInt8) : Nat → List (BitVec 32)
  | 0 => words16 l
  | k + 1 => sched l k ++ [newWord (sched l k) (16 + k)]
theorem at32_sched_step (l : List UInt8) (k j : Nat) : at32 (sched l (k + 1)) j = if j = 16 + k then newWord (sched l k) (16 + k) else at32 (sched l k) j := by
  have hl : ∀ k, (sched l k).length = 16 + k := fun k => by
    induction k with
    | zero => simp [sched, words16]
    | succ k ih => simp [sched, ih]; omega
  have h := hl k
  unfold at32
  rw [sched]
  by_cases e : j = 16 + k
  · subst e; rw [if_pos rfl]; simp [h]
  · rw [if_neg e]
    by_cases hlt : j < 16 + k
    · simp [List.getElem?_append, h, hlt]
    · rw [List.getD_eq_getElem?_getD, List.getD_eq_getElem?_getD, List.getElem?_append_right (by omega), List.getElem?_eq_none (by simp; omega), List.getElem?_eq_none (by omega)]
def kWords : List (BitVec 32) := [
  0x428a2f98, 0x71374491, 0xb5c0fbcf, 0xe9b5dba5, 0x3956c25b, 0x59f111f1, 0x923f82a4, 0xab1c5ed5,
  0xd807aa98, 0x12835b01, 0x243185be, 0x550c7dc3, 0x72be5d74, 0x80deb1fe, 0x9bdc06a7, 0xc19bf174,
  0xe49b69c1, 0xefbe4786, 0x0fc19dc6, 0x240ca1cc, 0x2de92c6f, 0x4a7484aa, 0x5cb0a9dc, 0x76f988da,
  0x983e5152, 0xa831c66d, 0xb00327c8, 0xbf597fc7, 0xc6e00bf3, 0xd5a79147, 0x06ca6351, 0x14292967,
  0x27b70a85, 0x2e1b2138, 0x4d2c6dfc, 0x53380d13, 0x650a7354, 0x766a0abb, 0x81c2c92e, 0x92722c85,
  0xa2bfe8a1, 0xa81a664b, 0xc24b8b70, 0xc76c51a3, 0xd192e819, 0xd6990624, 0xf40e3585, 0x106aa070,
  0x19a4c116, 0x1e376c08, 0x2748774c, 0x34b0bcb5, 0x391c0cb3, 0x4ed8aa4a, 0x5b9cca4f, 0x682e6ff3,
  0x748f82ee, 0x78a5636f, 0x84c87814, 0x8cc70208, 0x90befffa, 0xa4506ceb, 0xbef9a3f7, 0xc67178f2]
def iv : St := ⟨0x6a09e667, 0xbb67ae85, 0x3c6ef372, 0xa54ff53a, 0x510e527f, 0x9b05688c, 0x1f83d9ab, 0x5be0cd19⟩

/-- One round; n rounds; a block. -/
def step (k w : BitVec 32) (s : St) : St :=
  ⟨s.h + big1 s.e + choose s.e s.f s.g + k + w + (big0 s.a + major s.a s.b s.c), s.a, s.b, s.c, s.d + (s.h + big1 s.e + choose s.e s.f s.g + k + w), s.e, s.f, s.g⟩
def rounds (W : List (BitVec 32)) (s : St) : Nat → St
  | 0 => s
  | i + 1 => step (at32 kWords i) (at32 W i) (rounds W s i)
def addSt (s t : St) : St := ⟨s.a + t.a, s.b + t.b, s.c + t.c, s.d + t.d, s.e + t.e, s.f + t.f, s.g + t.g, s.h + t.h⟩
def compress (s : St) (l : List UInt8) : St := addSt s (rounds (sched l 48) s 64)

/-- The state behind n blocks of l. -/
def chain (l : List UInt8) : Nat → St
  | 0 => iv
  | n + 1 => compress (chain l n) ((l.drop (64 * n)).take 64)

/-- A word's bytes; a state's. -/
def wordBytes (x : BitVec 32) : List UInt8 := [UInt8.ofNat (x >>> 24).toNat, UInt8.ofNat (x >>> 16).toNat, UInt8.ofNat (x >>> 8).toNat, UInt8.ofNat x.toNat]
def stWords (s : St) : List (BitVec 32) := [s.a, s.b, s.c, s.d, s.e, s.f, s.g, s.h]
def stBytes (s : St) : List UInt8 := (stWords s).flatMap wordBytes

/-- The eight bytes of the number of bits. -/
def lenBytes (n : Nat) : List UInt8 := (List.range 8).map fun i => UInt8.ofNat (8 * n / 256 ^ (7 - i))
/-- What is put behind n bytes. -/
def padding (n : Nat) : List UInt8 := 0x80 :: (List.replicate ((119 - n % 64) % 64) 0 ++ lenBytes n)
theorem padding_length (n : Nat) : (padding n).length = 9 + (119 - n % 64) % 64 := by simp [padding, lenBytes]; omega
def padded (l : List UInt8) : List UInt8 := l ++ padding l.length
theorem padded_length (l : List UInt8) : (padded l).length % 64 = 0 := by
  simp only [padded, List.length_append, padding_length]; omega
/-- SHA-256. -/
def sha (l : List UInt8) : List UInt8 := stBytes (chain (padded l) ((padded l).length / 64))

/-! The bytes of the number of bits, put one by one from the last place of the block; the bytes of a state, by their places. -/
theorem byte_wrap (n : Nat) : IntKind.u8.wrap (n : Int) = (((UInt8.ofNat n).toNat : Nat) : Int) := by
  rw [UInt8.toNat_ofNat']; simp [IntKind.wrap, IntKind.bits, IntKind.signed]
theorem byte_wrap_u32 (x : BitVec 32) : IntKind.u8.wrap (u32 x) = (((UInt8.ofNat x.toNat).toNat : Nat) : Int) := byte_wrap x.toNat
def lenBlk (blk : List UInt8) (N k : Nat) : List UInt8 := blk.take (64 - k) ++ (lenBytes N).drop (8 - k)
theorem lenBlk_length (blk : List UInt8) (N k : Nat) (h : blk.length = 64) (hk : k ≤ 8) : (lenBlk blk N k).length = 64 := by simp [lenBlk, lenBytes, h]; omega
theorem lenBlk_zero (blk : List UInt8) (N : Nat) (h : blk.length = 64) : lenBlk blk N 0 = blk := by
  unfold lenBlk
  rw [List.take_of_length_le (by omega), List.drop_eq_nil_of_le (by simp [lenBytes]), List.append_nil]
theorem lenBlk_step (blk : List UInt8) (N k : Nat) (h : blk.length = 64) (hk : k < 8) (i : Nat) (hi : i < 64) :
    at8 (lenBlk blk N (k + 1)) i = if i = 63 - k then UInt8.ofNat (8 * N / 256 ^ k) else at8 (lenBlk blk N k) i := by
  unfold at8 lenBlk
  have hl : (lenBytes N).length = 8 := by simp [lenBytes]
  have h1 : (blk.take (64 - k)).length = 64 - k := by simp; omega
  have h2 : (blk.take (64 - (k + 1))).length = 63 - k := by simp; omega
  rw [List.getD_eq_getElem?_getD, List.getD_eq_getElem?_getD]
  by_cases e : i = 63 - k
  · subst e
    rw [if_pos rfl, List.getElem?_append_right (by omega), h2, Nat.sub_self, List.getElem?_drop]
    simp only [lenBytes, List.getElem?_map]
    rw [show 8 - (k + 1) + 0 = 7 - k by omega, List.getElem?_range (by omega)]
    simp only [Option.map_some, Option.getD_some]
    rw [show 7 - (7 - k) = k by omega]
  · rw [if_neg e]
    congr 1
    by_cases hlt : i < 63 - k
    · rw [List.getElem?_append_left (by omega), List.getElem?_append_left (by omega), List.getElem?_take_of_lt (by omega), List.getElem?_take_of_lt (by omega)]
    · rw [List.getElem?_append_right (by omega), List.getElem?_append_right (by omega), h1, h2, List.getElem?_drop, List.getElem?_drop]
      congr 1; omega
def digestAt (s : St) (i : Nat) : UInt8 := UInt8.ofNat (at32 (stWords s) (i / 4) >>> (8 * (3 - i % 4))).toNat
theorem stBytes_eq (s : St) : stBytes s = (List.range 32).map (digestAt s) := by
  simp only [stBytes, stWords, wordBytes, List.range_eq_range', List.flatMap_cons, List.flatMap_nil, List.cons_append, List.nil_append, List.append_nil]
  simp only [List.range', List.map_cons, List.map_nil, digestAt, at32, stWords]
  simp
theorem stBytes_length (s : St) : (stBytes s).length = 32 := by rw [stBytes_eq]; simp

end Go.Proofs.YtphgpakfdhdklaaDoor
