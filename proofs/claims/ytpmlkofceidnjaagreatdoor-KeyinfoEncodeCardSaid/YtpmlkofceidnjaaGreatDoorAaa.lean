/-
  Plain laws on the pieces of a text between bytes of one kind: a text has one list of pieces; what the library's cutting at all instances gives is that list. Nothing is claimed of the program here.
  Small laws for the texts on elements: bytes as cells, slices of bytes that a call has made itself, a string's byte at a number that has been reckoned, results that lie in a variable. Nothing is claimed of the program here.
  Small laws for the texts on strings of names: a string's bytes at numbers that have been reckoned, slices of bytes that a call has made itself, pairs of strings in cells. Nothing is claimed of the program here.
  The two tables of unicode/utf8: what the program's text lays, and that calls which leave old memory alone leave them. Nothing is claimed of the program here.
  The plain functions: letters and digits, the folded form of a string, its escaped form, hexadecimal digits. Nothing is claimed of the program here.
  Nothing is left of this text.
  Nothing is left of this text.
  Nothing is left of this text.
  Nothing is left of this text.
  The contracts of text.Fold and text.Match: the folded form of a string, and whether two strings have the same; nothing that was there before the call has changed.
  Nothing is left of this text.
  Nothing is left of this text.
  Nothing is left of this text.
  Nothing is left of this text.
  Nothing is left of this text.
  Nothing is left of this text.
  Nothing is left of this text.
-/
import Derived.Lib.SplitLaws
import Derived.Lib.IndexBytes
import Derived.Lib.Join
import Derived.Lib.JoinLaws
import Derived.WalkKit
import Derived.WalkSpells
import Derived.Deep.MidRow
import Derived.Deep.Draws
import Derived.Lib.Hide
import Derived.Deep.QuietTactic
import Derived.BigQuiet
import Derived.RegionTactic
import Derived.ChangeAlike
import Derived.LoopTactic
import Derived.OwnWalk
import Derived.Laws.BytesString
import Derived.Deep.RegionLaw
import Derived.Deep.RegionHeld3
import Derived.Deep.OwnRows
import Derived.Test.YtpmlkofceidnjaaGreatDoorChecked
import Derived.Lib.DecodeN
import Derived.Shelf.Strings.Builder1
import Derived.Lib.ValidLaws
import Derived.Laws.Runes
import Derived.Lib.OthersKept
import Derived.Deep.LoopGhost
import Derived.Deep.RegionWith
namespace Go.Proofs.YtpmlkofceidnjaaGreatDoor
open Go.RowKit

/-- The pieces ps, none of which holds c, stand in l with one c between each two. -/
def Spl (c : UInt8) (l : List UInt8) (ps : List (List UInt8)) : Prop := ps ≠ [] ∧ Lib.join ps [c] = l ∧ ∀ p ∈ ps, c ∉ p

theorem join_two (c : UInt8) (p q : List UInt8) (r : List (List UInt8)) : Lib.join (p :: q :: r) [c] = p ++ c :: Lib.join (q :: r) [c] := by
  rw [Lib.join_cons, Lib.join_cons]; simp [Lib.joinTail]
theorem spl_one {c : UInt8} {l : List UInt8} (h : c ∉ l) : Spl c l [l] := ⟨by simp, Lib.join_one _ _, by simpa using h⟩
theorem spl_cons {c : UInt8} {p l : List UInt8} {ps : List (List UInt8)} (hp : c ∉ p) (h : Spl c l ps) : Spl c (p ++ c :: l) (p :: ps) := by
  obtain ⟨h1, h2, h3⟩ := h
  cases ps with
  | nil => exact absurd rfl h1
  | cons q r =>
    refine ⟨by simp, by rw [join_two, h2], fun x hx => ?_⟩
    rcases List.mem_cons.1 hx with rfl | hx
    · exact hp
    · exact h3 x hx
theorem mem_at {α : Type} {l : List α} {x : α} (h : x ∈ l) : ∃ j : Nat, l[j]? = some x := by
  obtain ⟨k, hk, e⟩ := List.mem_iff_getElem.1 h
  exact ⟨k, List.getElem?_eq_some_iff.2 ⟨hk, e⟩⟩
theorem first_cut {c : UInt8} {l : List UInt8} {i : Nat} (h : Lib.indexByte l c = i) : l = l.take i ++ c :: l.drop (i + 1) ∧ c ∉ l.take i := by
  obtain ⟨h1, h2⟩ := Lib.indexByte_some h
  obtain ⟨hi, e⟩ := List.getElem?_eq_some_iff.1 h1
  refine ⟨?_, fun hm => ?_⟩
  · conv => lhs; rw [← List.take_append_drop i l]
    rw [List.drop_eq_getElem_cons hi, e]
  · obtain ⟨j, e⟩ := mem_at hm
    by_cases hj : j < i
    · rw [List.getElem?_take_of_lt hj] at e; exact h2 j hj e
    · rw [List.getElem?_eq_none (by simp; omega)] at e; cases e
theorem index_cases (l : List UInt8) (c : UInt8) : (Lib.indexByte l c = -1 ∧ c ∉ l) ∨ ∃ i : Nat, Lib.indexByte l c = i ∧ i < l.length := by
  have hge := Lib.indexByte_ge l c
  by_cases h : Lib.indexByte l c = -1
  · refine .inl ⟨h, fun hm => ?_⟩
    obtain ⟨j, e⟩ := mem_at hm
    exact Lib.indexByte_none h j e
  · obtain ⟨i, hi⟩ : ∃ i : Nat, Lib.indexByte l c = i := ⟨(Lib.indexByte l c).toNat, by omega⟩
    exact .inr ⟨i, hi, (List.getElem?_eq_some_iff.1 (Lib.indexByte_some hi).1).1⟩
theorem split_all (c : UInt8) : ∀ (k : Nat) (l : List UInt8), l.count c = k → Spl c l (Lib.splitK [c] 0 k l)
  | 0, l, h => by
    rw [Lib.splitK]
    exact spl_one (List.count_eq_zero.1 h)
  | k + 1, l, h => by
    unfold Lib.splitK
    rcases index_cases l c with ⟨h1, h2⟩ | ⟨i, h1, h2⟩
    · rw [List.count_eq_zero.2 h2] at h; omega
    · have e0 : Lib.index l [c] = i := by rw [Lib.index_one]; exact h1
      rw [if_neg (fun e => by have := beq_iff_eq.1 e; omega), e0]
      obtain ⟨e1, e2⟩ := first_cut h1
      have hc : (l.drop (i + 1)).count c = k := by
        rw [e1, List.count_append, List.count_cons_self, List.count_eq_zero.2 e2] at h
        omega
      have := spl_cons e2 (split_all c k (l.drop (i + 1)) hc)
      rw [← e1] at this
      simpa using this
theorem split_pieces (c : UInt8) (s : ByteArray) : Spl c s.data.toList ((Lib.splitB ⟨#[c]⟩ 0 (Lib.countB s ⟨#[c]⟩) s).map (·.data.toList)) := by
  rw [Lib.splitB_data]
  show Spl c s.data.toList (Lib.splitK [c] 0 (Lib.count s.data.toList [c]) s.data.toList)
  rw [Lib.count_one]
  exact split_all c _ _ rfl
end Go.Proofs.YtpmlkofceidnjaaGreatDoor
namespace Go.Proofs.YtpmlkofceidnjaaGreatDoor
open Go.RowKit

/-- A byte as a cell. -/
def bcell (b : UInt8) : Value := .int .u8 (b.toNat : Nat)
theorem bcells_one (l : List UInt8) : ∀ v ∈ l.map bcell, v.oneCell' = true := by
  intro v hv; obtain ⟨b, _, rfl⟩ := List.mem_map.1 hv; rfl

/-- The slice value v, of memory from block B on, holds the bytes l. -/
def OwnB (E : TypeId) (w : World) (B : Nat) (v : Value) (l : List UInt8) : Prop := w.ownsRow B E 1 v l.length (l.map bcell)

theorem step_append_own {P : Program} {ops : Array Oper} {o : Oper} {a : Act} {w : World} {K : Act → World → Prop} {Q : Exit → Act → World → Prop} {E : Prop} (hgd : o.guard = none) (s x : Operand) (t : TypeId)
    (ho : o.op = .call { callee := .builtin .append, args := #[s, x], argTypes := #[t, t] })
    (base : Nat) (e : TypeId) (i : TypeInfo) (z : Value) (bytes : Nat) (ht : P.underlying t = some (.slice e)) (hi : P.info? e = some i) (hz : i.zero = some z)
    (hsize : i.size = 1) (hby : i.bytes = bytes) (hzs : z.cells.size = 1)
    (v : Value) (n : Nat) (xs : List Value) (hs : a.eval s = v) (hown : w.ownsRow base e 1 v n xs)
    (ad : Addr) (m c : Nat) (news : List Value) (hx : a.eval x = .slice (some ad) m c) (hl : news.length = m * 1) (hnews : ∀ j u, news[j]? = some u → w.cell? (ad.add j) = some u) (h1 : ∀ u ∈ news, u.oneCell' = true)
    (h63 : n + m ≤ maxLen) (hbytes : (n + m) * bytes ≤ 140737488355328) (hbase : base ≤ w.heap.size)
    (h : ∀ v' w', w'.ownsRow base e 1 v' (n + m) (xs ++ news) → w.grownBy w' v.ownBlock → (v' = .slice none 0 0 ↔ v = .slice none 0 0 ∧ m = 0) → K (a.put o.dst v') w') :
    if Region.wanted o (yielded ops a.tmps) = true then Oper.wp P o a w K Q else E := by
  have hw : Region.wanted o (yielded ops a.tmps) = true := by simp [Region.wanted, hgd]
  rw [if_pos hw]
  exact wp_append_own w s x t ho base e i z 1 bytes ht hi hz hsize hby hzs (by omega) v n xs hs hown ad m c news hx hl hnews h1 h63 hbytes hbase h

theorem OwnB.grown {E : TypeId} {w : World} {B : Nat} {v : Value} {l : List UInt8} (h : OwnB E w B v l) {B0 : Nat} {w0 w' : World} (hb : Below B0 w0 w) (hg : w.grownBy w' v.ownBlock) (hB : B0 ≤ w.heap.size) (hB2 : B0 ≤ B) : Below B0 w0 w' :=
  hb.grown hg hB (fun k e => Nat.le_trans hB2 (h.lt k e).1)

/-- Its text. -/
theorem run_convert_own {P : Program} {w : World} {src dst e : TypeId} {B : Nat} {v : Value} {l : List UInt8} (hs : P.underlying src = some (.slice e)) (he : P.underlying e = some (.int .u8)) (hd : P.underlying dst = some .string) (h : OwnB e w B v l) :
    (convert src dst v).run P w = .ok (.string ⟨l.toArray⟩) w := by
  rcases h.2 with ⟨rfl, h0⟩ | ⟨g, cap, cur, rfl, _, hg, hn, _, hcs, htk⟩
  · obtain rfl := List.eq_nil_of_length_eq_zero h0
    rw [run_convert_bytes_string w src dst e none 0 0 hs he hd]
    unfold Conv.bytesToString
    simp
    rfl
  · refine run_convert_bytes_back w src dst e ⟨g, 0, none⟩ cap l hs he hd (fun j hj => ?_)
    have hadd : (⟨g, 0, none⟩ : Addr).add j = ⟨g, j, none⟩ := by unfold Addr.add; split <;> simp_all
    rw [hadd, cell_of_row w g j _ _ _ hg]
    have : (cur.toList.take (l.length * 1))[j]? = some (bcell l[j]) := by rw [htk]; simp [hj]
    rw [List.getElem?_take_of_lt (by omega)] at this
    simpa [bcell] using this
theorem news_row (W : World) (cs : Array Value) (E : TypeId) : ∀ j u, cs.toList[j]? = some u → (W.alloc (.cells cs E)).cell? ((⟨W.heap.size, 0, none⟩ : Addr).add j) = some u := fun j u h => by
  have hadd : (⟨W.heap.size, 0, none⟩ : Addr).add j = ⟨W.heap.size, j, none⟩ := by unfold Addr.add; split <;> simp_all
  rw [hadd, cell_of_row _ _ j _ _ _ (heap_alloc_new W _)]
  simpa using h


theorem byteInfo : (Tryz.prog.info? 5).map (fun i => (i.zero, i.size, i.bytes)) = some (some (.int .u8 0), 1, 1) := by kernel_rfl

theorem run_index_at {P : Program} {t : TypeId} (ht : P.underlying t = some .string) (b : ByteArray) (j : Nat) (x : UInt8) (h : j < b.size) (hx : b[j] = x) (i : Int) (hi : i = (j : Int)) (w : World) :
    (Instr.index t (.string b) (.int .i64 i)).run P w = .ok (.int .u8 ((x.toNat : Nat) : Int)) w := by
  rw [run_index_string w t b .i64 i ht, dif_pos (by omega)]
  subst hi
  simp [hx]

theorem Below.drawn {B : Nat} {a w : World} (h : Below B a w) (n : Nat) : Below B a (w.drewN n) := ⟨h.os, h.tape, h.output, h.size, h.block⟩
theorem OwnB.drawn {E : TypeId} {w : World} {B : Nat} {v : Value} {l : List UInt8} (h : OwnB E w B v l) (n : Nat) : OwnB E (w.drewN n) B v l := h

/-- A result that lies in a variable of a struct's type, one or two others beside it. -/
theorem results_cell_row2 {P : Program} {fn : Func} {p u : Tmp} {ty : TypeId} (h : fn.results = #[.cell p ty, .tmp u]) (tmps : Array Value) (w : World) (g : Nat) (t : TypeId) (cs : Array Value) (fr : Nat × Nat) (d : TypeDesc)
    (hp : tmps.getD p undef = .pointer (some ⟨g, 0, none⟩)) (hg : w.heap[g]? = some (.cells cs t fr))
    (hu : P.underlying ty = some d) (hd : (match d with | .struct _ | .array _ _ => true | _ => false) = true) (hi : (P.info? ty).map (·.size) = some cs.size) :
    (results fn tmps).run P w = .ok (.tuple #[.agg cs, tmps.getD u undef]) w := by
  have hp' : tmps[p]?.getD undef = .pointer (some ⟨g, 0, none⟩) := by simpa using hp
  simp [results, h, hp', asAddr, run_loadVar_row w g t ty cs fr d hg hu hd hi]
theorem results_cell_row3 {P : Program} {fn : Func} {p u v : Tmp} {ty : TypeId} (h : fn.results = #[.cell p ty, .tmp u, .tmp v]) (tmps : Array Value) (w : World) (g : Nat) (t : TypeId) (cs : Array Value) (fr : Nat × Nat) (d : TypeDesc)
    (hp : tmps.getD p undef = .pointer (some ⟨g, 0, none⟩)) (hg : w.heap[g]? = some (.cells cs t fr))
    (hu : P.underlying ty = some d) (hd : (match d with | .struct _ | .array _ _ => true | _ => false) = true) (hi : (P.info? ty).map (·.size) = some cs.size) :
    (results fn tmps).run P w = .ok (.tuple #[.agg cs, tmps.getD u undef, tmps.getD v undef]) w := by
  have hp' : tmps[p]?.getD undef = .pointer (some ⟨g, 0, none⟩) := by simpa using hp
  simp [results, h, hp', asAddr, run_loadVar_row w g t ty cs fr d hg hu hd hi]
end Go.Proofs.YtpmlkofceidnjaaGreatDoor
namespace Go.Proofs.YtpmlkofceidnjaaGreatDoor
open Go.RowKit

/-- The byte at a place (0 behind the end). -/
def u8at (b : ByteArray) (i : Nat) : Nat := (b.data.toList.getD i 0).toNat
theorem u8at_lt (b : ByteArray) (i : Nat) : u8at b i < 256 := (b.data.toList.getD i 0).toNat_lt
theorem u8at_get (b : ByteArray) (i : Nat) (h : i < b.size) : u8at b i = (b[i]).toNat := by
  have : i < b.data.toList.length := h
  unfold u8at
  rw [List.getD_eq_getElem?_getD, List.getElem?_eq_getElem this]
  rfl
theorem u8at_list (b : ByteArray) (i : Nat) (h : i < b.size) : ∃ c : UInt8, b.data.toList[i]? = some c ∧ u8at b i = c.toNat := by
  have : i < b.data.toList.length := h
  refine ⟨b.data.toList[i], List.getElem?_eq_getElem this, ?_⟩
  unfold u8at
  rw [List.getD_eq_getElem?_getD, List.getElem?_eq_getElem this]
  rfl
theorem run_index_u8 {P : Program} {t : TypeId} (ht : P.underlying t = some .string) (b : ByteArray) (j : Nat) (h : j < b.size) (i : Int) (hi : i = (j : Int)) (w : World) :
    (Instr.index t (.string b) (.int .i64 i)).run P w = .ok (.int .u8 ((u8at b j : Nat) : Int)) w := by
  rw [u8at_get b j h]
  exact run_index_at ht b j b[j] h rfl i hi w
theorem empty_of_size {c : ByteArray} (h : c.size = 0) : c = ⟨#[]⟩ := by
  apply ByteArray.ext
  exact Array.eq_empty_of_size_eq_zero h
theorem nonempty_list {c : ByteArray} (h : c.size ≠ 0) : c.toList.isEmpty = false := by
  rw [ByteArray.toList_eq]
  cases e : c.data.toList with
  | nil => exact absurd (show c.data.toList.length = 0 by rw [e]; rfl) h
  | cons => rfl
theorem toList_eq_list (c : ByteArray) : c.toList = c.data.toList := ByteArray.toList_eq c
theorem belowNew (w : World) (o : Obj) : Below w.heap.size w (w.alloc o) := (Below.refl _ w).alloc (Nat.le_refl _) o
theorem below_next {B : World} {a b : World} (h : Below B.heap.size B a) (k : Below a.heap.size a b) : Below B.heap.size B b := h.trans (k.mono h.size)
/-- The string of these bytes. -/
def strOf (l : List UInt8) : ByteArray := ⟨l.toArray⟩
theorem strOf_size (l : List UInt8) : (strOf l).size = l.length := rfl
theorem strOf_list (l : List UInt8) : (strOf l).data.toList = l := rfl
theorem strOf_of {b : ByteArray} {l : List UInt8} (h : b.data.toList = l) : b = strOf l := by
  apply ByteArray.ext
  apply Array.ext'
  exact h
theorem list_inj {a b : ByteArray} (h : a.data.toList = b.data.toList) : a = b := by rw [strOf_of (b := a) rfl, strOf_of (b := b) rfl, h]
theorem str_add (a b : ByteArray) : (a ++ b).data.toList = a.data.toList ++ b.data.toList := by rw [ByteArray.data_append, Array.toList_append]
theorem take_snoc {l : List UInt8} {k : Nat} {c : UInt8} (h : l[k]? = some c) : l.take (k + 1) = l.take k ++ [c] := by rw [List.take_add_one, h]; rfl

/-! ### Rows that a call has made itself -/
theorem own_below {w w' : World} {B : Nat} {e : TypeId} {k n : Nat} {v : Value} {xs : List Value} (h : w.ownsRow B e k v n xs) (hb : Below w.heap.size w w') : w'.ownsRow B e k v n xs := by
  refine ⟨h.1, ?_⟩
  rcases h.2 with h0 | ⟨g, cap, cur, hv, hB, hg, r⟩
  · exact .inl h0
  · exact .inr ⟨g, cap, cur, hv, hB, (hb.block g (Array.getElem?_eq_some_iff.1 hg).1).trans hg, r⟩
/-- A number as a cell; the slice value v, of memory from block B on, holds the numbers a. -/
def icell (n : Nat) : Value := .int .i64 ((n : Nat) : Int)
theorem icells_one (l : List Nat) : ∀ v ∈ l.map icell, v.oneCell' = true := by
  intro v hv; obtain ⟨b, _, rfl⟩ := List.mem_map.1 hv; rfl
theorem own_str {w : World} {B : Nat} {v : Value} {l : List UInt8} (h : OwnB 5 w B v l) : (convert 53 9 v).run Tryz.prog w = .ok (.string (strOf l)) w :=
  run_convert_own Tryz.underlying53 Tryz.underlying5 Tryz.underlying9 h
theorem own_cell {w : World} {B g n cap : Nat} {l : List UInt8} (h : OwnB 5 w B (.slice (some ⟨g, 0, none⟩) n cap) l) (hl : l.length = n) (j : Nat) (hj : j < n) : w.cell? ⟨g, j, none⟩ = some (.int .u8 (((l.getD j 0).toNat : Nat) : Int)) := by
  subst hl
  have := World.ownsRow.cellAt h j (by omega)
  rw [this]
  simp [hj, bcell]
theorem own_free {w : World} {B g n cap : Nat} {l : List UInt8} (h : OwnB 5 w B (.slice (some ⟨g, 0, none⟩) n cap) l) (hl : l.length = n) (j : Nat) : w.frozen? ⟨g, j, none⟩ = false := by
  subst hl
  exact World.ownsRow.frozenAt h j
theorem own_set {w : World} {B g n cap : Nat} {l : List UInt8} (h : OwnB 5 w B (.slice (some ⟨g, 0, none⟩) n cap) l) (hl : l.length = n) (j : Nat) (b : UInt8) :
    OwnB 5 (w.setCell ⟨g, j, none⟩ (.int .u8 ((b.toNat : Nat) : Int))) B (.slice (some ⟨g, 0, none⟩) n cap) (l.set j b) := by
  subst hl
  unfold OwnB at h ⊢
  have := (World.ownsRow.stored h j (bcell b)).1
  rw [List.length_set, List.map_set]
  exact this
theorem own_base {w : World} {B B' : Nat} {e : TypeId} {k n : Nat} {v : Value} {xs : List Value} (h : w.ownsRow B e k v n xs) (hB : B' ≤ B) : w.ownsRow B' e k v n xs := by
  refine ⟨h.1, ?_⟩
  rcases h.2 with h0 | ⟨g, cap, cur, hv, h1, r⟩
  · exact .inl h0
  · exact .inr ⟨g, cap, cur, hv, Nat.le_trans hB h1, r⟩
theorem wrap_i64 (n : Int) : IntKind.i64.wrap n = (n + 9223372036854775808) % 18446744073709551616 - 9223372036854775808 := by
  simp [IntKind.wrap, IntKind.bits, IntKind.signed]
  split <;> omega
theorem own_nil (E : TypeId) (w : World) (B : Nat) : OwnB E w B (.slice none 0 0) [] := World.ownsRow_nil _ _ _ _
theorem str_cat (a b : List UInt8) : strOf a ++ strOf b = strOf (a ++ b) := list_inj (by rw [str_add, strOf_list, strOf_list, strOf_list])
theorem row_ints (W : World) (l : List Int) (k : Nat) (hk : k < l.length) : (W.alloc (.cells (l.map (Value.int .i64)).toArray 3)).cell? ⟨W.heap.size, k, none⟩ = some (.int .i64 (l.getD k 0)) := by
  rw [cell_of_row _ _ k _ _ _ (heap_alloc_new W _)]
  simp [hk]
/-! ### Pairs of strings as cells -/
/-! ### Bytes that were handed in -/
/-- The bytes l can be read from the address a on. -/
def BLies (w : World) (a : Option Addr) (l : List UInt8) : Prop := l = [] ∨ ∃ b o, a = some ⟨b, o, none⟩ ∧ ∀ i (h : i < l.length), w.cell? ⟨b, o + i, none⟩ = some (bcell l[i])
theorem BLies.below {w w' : World} {a : Option Addr} {l : List UInt8} (h : BLies w a l) (hb : Below w.heap.size w w') : BLies w' a l := by
  rcases h with h | ⟨b, off, h1, h2⟩
  · exact .inl h
  · refine .inr ⟨b, off, h1, fun i hi => ?_⟩
    rw [← h2 i hi]
    exact hb.cell (World.block_lt_of_cell? _ _ (h2 i hi))
end Go.Proofs.YtpmlkofceidnjaaGreatDoor
namespace Go.Proofs.YtpmlkofceidnjaaGreatDoor
open Go.RowKit

/-! ### The tables -/
/-- The two tables of unicode/utf8 lie as the library's text lays them. -/
def Tab (w : World) : Prop :=
  (∀ c, c < 256 → w.cell? ⟨5, c, none⟩ = some (.int .u8 (Lib.firstT c))) ∧
  (∀ i, i < 16 → w.cell? ⟨6, 2 * i, none⟩ = some (.int .u8 (Lib.accLo i)) ∧ w.cell? ⟨6, 2 * i + 1, none⟩ = some (.int .u8 (Lib.accHi i)))
theorem Tab.lt {w : World} (h : Tab w) : 5 < w.heap.size ∧ 6 < w.heap.size :=
  ⟨block_lt_of_cell (h.1 0 (by omega)), block_lt_of_cell (h.2 0 (by omega)).1⟩
theorem Tab.below {w w' : World} (h : Tab w) (hb : Below w.heap.size w w') : Tab w' :=
  ⟨fun c hc => (hb.cell (p := ⟨5, c, none⟩) h.lt.1).trans (h.1 c hc),
   fun i hi => ⟨(hb.cell (p := ⟨6, 2 * i, none⟩) h.lt.2).trans (h.2 i hi).1, (hb.cell (p := ⟨6, 2 * i + 1, none⟩) h.lt.2).trans (h.2 i hi).2⟩⟩
theorem Tab.alloc {w : World} (h : Tab w) (o : Obj) : Tab (w.alloc o) := h.below (belowNew w o)
theorem Tab.drawn {w : World} (h : Tab w) (n : Nat) : Tab (w.drewN n) := h
end Go.Proofs.YtpmlkofceidnjaaGreatDoor
namespace Go.Proofs.YtpmlkofceidnjaaGreatDoor
open Go.RowKit

/-! ### Letters and digits -/
def alnum (n : Nat) : Bool := decide (65 ≤ n ∧ n ≤ 90) || (decide (97 ≤ n ∧ n ≤ 122) || decide (48 ≤ n ∧ n ≤ 57))
/-! ### Folding -/
def small (c : UInt8) : UInt8 := if 65 ≤ c.toNat ∧ c.toNat ≤ 90 then UInt8.ofNat (c.toNat + 32) else c
theorem small_low {c : UInt8} (h : ¬ (65 ≤ c.toNat ∧ c.toNat ≤ 90)) : small c = c := by unfold small; rw [if_neg h]
theorem small_big {c : UInt8} (h : 65 ≤ c.toNat ∧ c.toNat ≤ 90) : (small c).toNat = c.toNat + 32 := by
  unfold small
  rw [if_pos h]
  simp; omega
theorem small_space {c : UInt8} : small c = 32 ↔ c = 32 := by
  by_cases h : 65 ≤ c.toNat ∧ c.toNat ≤ 90
  · constructor
    · intro e
      have := small_big h
      rw [e] at this
      have e32 : (32 : UInt8).toNat = 32 := rfl
      omega
    · intro e
      rw [e] at h
      have e32 : (32 : UInt8).toNat = 32 := rfl
      omega
  · rw [small_low h]

def foldStep (st : List UInt8 × Bool) (c : UInt8) : List UInt8 × Bool := if c = 32 then (st.1, !st.1.isEmpty) else (st.1 ++ (if st.2 then [32] else []) ++ [small c], false)
def foldRun (l : List UInt8) : List UInt8 × Bool := l.foldl foldStep ([], false)
def foldL (l : List UInt8) : List UInt8 := (foldRun l).1
/-- What a state of folding always is. -/
structure FInv (st : List UInt8 × Bool) : Prop where
  gap : st.2 = true → st.1 ≠ []
  last : st.1.getLast? ≠ some 32
theorem FInv.step {st : List UInt8 × Bool} (h : FInv st) (c : UInt8) : FInv (foldStep st c) := by
  unfold foldStep
  by_cases hc : c = 32
  · rw [if_pos hc]
    refine ⟨fun e => ?_, h.last⟩
    intro e2
    rw [show st.1 = [] from e2] at e
    cases e
  · rw [if_neg hc]
    refine ⟨fun e => (by cases e), ?_⟩
    rw [List.getLast?_append]
    simp
    exact fun e => hc (small_space.1 e)
/-! ### Hexadecimal digits -/
def hexDigit (n : Nat) : UInt8 := if n < 10 then UInt8.ofNat (48 + n) else UInt8.ofNat (87 + n)
def hexL (l : List UInt8) : List UInt8 := l.flatMap fun b => [hexDigit (b.toNat / 16), hexDigit (b.toNat % 16)]
def digV (c : Nat) : Option Nat := if 48 ≤ c ∧ c ≤ 57 then some (c - 48) else if 97 ≤ c ∧ c ≤ 102 then some (c - 87) else none
theorem digV_hex : ∀ v, v < 16 → digV (hexDigit v).toNat = some v := by decide
theorem hexDigit_inj {v w : Nat} (hv : v < 16) (hw : w < 16) (h : hexDigit v = hexDigit w) : v = w := by
  have h1 := digV_hex v hv
  rw [h, digV_hex w hw] at h1
  exact (Option.some.inj h1).symm
theorem hexL_cons (a : UInt8) (l : List UInt8) : hexL (a :: l) = hexDigit (a.toNat / 16) :: hexDigit (a.toNat % 16) :: hexL l := by simp [hexL]
theorem byte_of {a b : UInt8} (h1 : hexDigit (a.toNat / 16) = hexDigit (b.toNat / 16)) (h2 : hexDigit (a.toNat % 16) = hexDigit (b.toNat % 16)) : a = b := by
  have hx := a.toNat_lt
  have hy := b.toNat_lt
  have e1 := hexDigit_inj (by omega) (by omega) h1
  have e2 := hexDigit_inj (by omega) (by omega) h2
  exact UInt8.toNat_inj.1 (by omega)
theorem hexL_inj : ∀ {a b : List UInt8}, hexL a = hexL b → a = b
  | [], [], _ => rfl
  | [], y :: b, h => by rw [hexL_cons] at h; cases h
  | x :: a, [], h => by rw [hexL_cons] at h; cases h
  | x :: a, y :: b, h => by
    rw [hexL_cons, hexL_cons] at h
    rw [hexL_inj (List.cons.inj (List.cons.inj h).2).2, byte_of (List.cons.inj h).1 (List.cons.inj (List.cons.inj h).2).1]
/-! ### Escaping -/
def plainL : List UInt8 := [32, 39, 40, 41, 45, 46, 47, 58, 63, 64, 95]
def plainB (c : UInt8) : Bool := alnum c.toNat || plainL.contains c
theorem plain_92 : plainB 92 = false := by decide
def escB (c : UInt8) : List UInt8 := if plainB c = true then [c] else [92, hexDigit (c.toNat / 16), hexDigit (c.toNat % 16)]
def escL (l : List UInt8) : List UInt8 := l.flatMap escB
theorem escB_plain {c : UInt8} (h : plainB c = true) : escB c = [c] := by unfold escB; rw [if_pos h]
theorem escB_other {c : UInt8} (h : plainB c = false) : escB c = [92, hexDigit (c.toNat / 16), hexDigit (c.toNat % 16)] := by unfold escB; rw [if_neg (by rw [h]; decide)]
theorem escL_nil : escL [] = [] := rfl
theorem escL_cons (c : UInt8) (l : List UInt8) : escL (c :: l) = escB c ++ escL l := by simp [escL]
theorem escB_len1 (c : UInt8) : 1 ≤ (escB c).length := by unfold escB; split <;> simp
theorem escB_cut {x y : UInt8} {r t : List UInt8} (h : escB x ++ r = escB y ++ t) : x = y ∧ r = t := by
  cases hx : plainB x <;> cases hy : plainB y
  · rw [escB_other hx, escB_other hy] at h
    simp only [List.cons_append, List.nil_append, List.cons.injEq, true_and] at h
    exact ⟨byte_of h.1 h.2.1, h.2.2⟩
  · rw [escB_other hx, escB_plain hy] at h
    simp only [List.cons_append, List.nil_append, List.cons.injEq] at h
    rw [← h.1, plain_92] at hy; cases hy
  · rw [escB_plain hx, escB_other hy] at h
    simp only [List.cons_append, List.nil_append, List.cons.injEq] at h
    rw [h.1, plain_92] at hx; cases hx
  · rw [escB_plain hx, escB_plain hy] at h
    simp only [List.cons_append, List.nil_append, List.cons.injEq] at h
    exact h
theorem escL_cut : ∀ (D l r : List UInt8), escL l = escL D ++ r → ∃ l2, l = D ++ l2 ∧ escL l2 = r
  | [], l, r, h => ⟨l, rfl, h⟩
  | d :: D, [], r, h => by
    exfalso
    rw [escL_nil, escL_cons] at h
    have := congrArg List.length h
    have h1 := escB_len1 d
    simp at this
    omega
  | d :: D, x :: l, r, h => by
    rw [escL_cons, escL_cons, List.append_assoc] at h
    obtain ⟨rfl, h2⟩ := escB_cut h
    obtain ⟨l2, rfl, h3⟩ := escL_cut D l r h2
    exact ⟨l2, rfl, h3⟩
theorem escL_inj {a b : List UInt8} (h : escL a = escL b) : a = b := by
  obtain ⟨l2, rfl, h2⟩ := escL_cut b a [] (by rw [h, List.append_nil])
  cases l2 with
  | nil => simp
  | cons x l =>
    rw [escL_cons] at h2
    have := congrArg List.length h2
    have h1 := escB_len1 x
    rw [List.length_append, List.length_nil] at this
    omega
theorem drop_cons {s : List UInt8} {i : Nat} {c : UInt8} (h : s[i]? = some c) : s.drop i = c :: s.drop (i + 1) := by
  obtain ⟨hi, rfl⟩ := List.getElem?_eq_some_iff.1 h
  exact List.drop_eq_getElem_cons hi
/-- Where the reference stands: what is escaped as s begins with out, and goes on behind i. -/
def Way (s : List UInt8) (i : Nat) (out : List UInt8) : Prop := ∀ l, escL l = s → ∃ l2, l = out ++ l2 ∧ escL l2 = s.drop i
theorem Way.one {s out : List UInt8} {i : Nat} {c : UInt8} (h : Way s i out) (hc : s[i]? = some c) (h92 : c ≠ 92) : Way s (i + 1) (out ++ [c]) := by
  intro l e
  obtain ⟨l2, rfl, h2⟩ := h l e
  rw [drop_cons hc] at h2
  cases l2 with
  | nil => rw [escL_nil] at h2; cases h2
  | cons x t =>
    rw [escL_cons] at h2
    cases hx : plainB x with
    | true =>
      rw [escB_plain hx] at h2
      simp only [List.cons_append, List.nil_append, List.cons.injEq] at h2
      exact ⟨t, by rw [h2.1]; simp, h2.2⟩
    | false =>
      rw [escB_other hx] at h2
      simp only [List.cons_append, List.nil_append, List.cons.injEq] at h2
      exact absurd h2.1.symm h92
theorem Way.two {s out : List UInt8} {i : Nat} (h : Way s i out) (hc : s[i]? = some 92) {l : List UInt8} (e : escL l = s) :
    ∃ x t, l = out ++ x :: t ∧ i + 3 ≤ s.length ∧ hexL [x] = (s.drop (i + 1)).take 2 ∧ escL t = s.drop (i + 3) := by
  obtain ⟨l2, rfl, h2⟩ := h l e
  rw [drop_cons hc] at h2
  cases l2 with
  | nil => rw [escL_nil] at h2; cases h2
  | cons x t =>
    rw [escL_cons] at h2
    cases hx : plainB x with
    | true =>
      rw [escB_plain hx] at h2
      simp only [List.cons_append, List.nil_append, List.cons.injEq] at h2
      rw [h2.1, plain_92] at hx; cases hx
    | false =>
      rw [escB_other hx] at h2
      simp only [List.cons_append, List.nil_append, List.cons.injEq, true_and] at h2
      have hl := congrArg List.length h2
      simp only [List.length_cons, List.length_drop] at hl
      refine ⟨x, t, rfl, by omega, by rw [← h2]; rfl, ?_⟩
      have e3 : s.drop (i + 3) = (s.drop (i + 1)).drop 2 := by rw [List.drop_drop]
      rw [e3, ← h2]; rfl
theorem Way.next {s out : List UInt8} {i : Nat} {u : ByteArray} (h : Way s i out) (hc : s[i]? = some 92) (hu : hexL u.data.toList = (s.drop (i + 1)).take 2) : Way s (i + 3) (out ++ u.data.toList) := by
  intro l e
  obtain ⟨x, t, rfl, _, h2, h3⟩ := h.two hc e
  have : u.data.toList = [x] := hexL_inj (hu.trans h2.symm)
  exact ⟨t, by rw [this]; simp, h3⟩
theorem Way.no {s out : List UInt8} {i : Nat} (h : Way s i out) (hc : s[i]? = some 92) (hu : ∀ l, hexL l ≠ (s.drop (i + 1)).take 2) : ∀ l, escL l ≠ s := by
  intro l e
  obtain ⟨x, t, _, _, h2, _⟩ := h.two hc e
  exact hu _ h2
theorem Way.last {s out : List UInt8} {i : Nat} (h : Way s i out) (hi : s.length ≤ i) (hne : escL out ≠ s) : ∀ l, escL l ≠ s := by
  intro l e
  obtain ⟨l2, rfl, h2⟩ := h l e
  rw [List.drop_eq_nil_of_le hi] at h2
  obtain rfl : l2 = [] := escL_inj (h2.trans escL_nil.symm)
  rw [List.append_nil] at e
  exact hne e
end Go.Proofs.YtpmlkofceidnjaaGreatDoor




namespace Go.Proofs.YtpmlkofceidnjaaGreatDoor
open Go.RowKit

/-- The folded form as a text. -/
def foldS (s : ByteArray) : ByteArray := strOf (foldL s.data.toList)
theorem toList_inj {a b : ByteArray} : a.toList = b.toList ↔ a = b :=
  ⟨fun h => list_inj (by rw [← toList_eq_list, ← toList_eq_list, h]), fun h => by rw [h]⟩
end Go.Proofs.YtpmlkofceidnjaaGreatDoor







