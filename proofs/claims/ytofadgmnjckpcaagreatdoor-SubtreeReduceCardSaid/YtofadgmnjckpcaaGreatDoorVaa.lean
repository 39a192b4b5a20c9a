/-
  Plain laws on the pieces of a text between bytes of one kind: a text has one list of pieces; what the library's cutting at all instances gives is that list. Nothing is claimed of the program here.
  Small laws for the texts on elements: bytes as cells, slices of bytes that a call has made itself, a string's byte at a number that has been reckoned, results that lie in a variable. Nothing is claimed of the program here.
  Small laws for the texts on strings of names: a string's bytes at numbers that have been reckoned, slices of bytes that a call has made itself, pairs of strings in cells. Nothing is claimed of the program here.
  The contracts of strings.SplitN at a point, strings.HasPrefix, strings.Join, strconv.Itoa, cmp.Compare and bits.Len: the library's theorems, laid at the program's own numbers. Nothing is claimed of the program beyond its bodies.
  Object identifiers as lists of numbers: their texts, their contents, and that each of both determines the numbers. Nothing is claimed of the program here.
  Small laws for the texts on object identifiers: a string's bytes at numbers that have been reckoned, slices of numbers and of bytes that a call has made itself. Nothing is claimed of the program here.
  The contracts of strings.Split and strings.Cut at a point of one byte, off the shelf.
-/
import Derived.Lib.SplitLaws
import Derived.Lib.IndexBytes
import Derived.Lib.Join
import Derived.Lib.JoinLaws
import Derived.WalkKit
import Derived.WalkSpells
import Derived.Deep.MidRow
import Derived.Deep.Draws
import Derived.Lib.Hide
import Derived.Deep.QuietTactic
import Derived.BigQuiet
import Derived.RegionTactic
import Derived.ChangeAlike
import Derived.LoopTactic
import Derived.OwnWalk
import Derived.Laws.BytesString
import Derived.Deep.RegionLaw
import Derived.Deep.RegionHeld3
import Derived.Deep.OwnRows
import Derived.Test.YtofadgmnjckpcaaGreatDoorChecked
import Derived.Shelf.Strings.Builder1
import Derived.Shelf.Strings.Builder2
import Derived.Shelf.Strings.OnBuilder
import Derived.Shelf.Small.Strs
import Derived.Shelf.Small.Wraps
import Derived.Shelf.Small.Bits
import Derived.Shelf.Strings.Split
import Derived.Shelf.Strings.Prefix
import Derived.Shelf.Strconv.Itoa4
import Derived.Lib.AppendIntMem
import Derived.Lib.ItoaNum
import Derived.Lib.Split
import Derived.Lib.IndexLaws
import Derived.Lib.CutLaws
namespace Go.Proofs.YtofadgmnjckpcaaGreatDoor
open Go.RowKit

/-- The pieces ps, none of which holds c, stand in l with one c between each two. -/
def Spl (c : UInt8) (l : List UInt8) (ps : List (List UInt8)) : Prop := ps ≠ [] ∧ Lib.join ps [c] = l ∧ ∀ p ∈ ps, c ∉ p

theorem join_two (c : UInt8) (p q : List UInt8) (r : List (List UInt8)) : Lib.join (p :: q :: r) [c] = p ++ c :: Lib.join (q :: r) [c] := by
  rw [Lib.join_cons, Lib.join_cons]; simp [Lib.joinTail]
theorem cutc {c : UInt8} : ∀ {p q r s : List UInt8}, c ∉ p → c ∉ q → p ++ c :: r = q ++ c :: s → p = q ∧ r = s
  | [], [], _, _, _, _, h => ⟨rfl, by simpa using h⟩
  | [], y :: q, _, _, _, h2, h => by simp at h; exact absurd h.1 (fun e => h2 (by simp [e]))
  | x :: p, [], _, _, h1, _, h => by simp at h; exact absurd h.1 (fun e => h1 (by simp [e]))
  | x :: p, y :: q, r, s, h1, h2, h => by
    simp at h
    obtain ⟨rfl, h⟩ := h
    obtain ⟨rfl, rfl⟩ := cutc (p := p) (q := q) (fun m => h1 (by simp [m])) (fun m => h2 (by simp [m])) h
    exact ⟨rfl, rfl⟩
theorem spl_inj {c : UInt8} : ∀ {ps qs : List (List UInt8)} {l : List UInt8}, Spl c l ps → Spl c l qs → ps = qs
  | [], _, _, h, _ => absurd rfl h.1
  | _, [], _, _, h => absurd rfl h.1
  | [p], [q], l, h1, h2 => by
    have e1 := h1.2.1; have e2 := h2.2.1
    rw [Lib.join_one] at e1 e2
    rw [e1, e2]
  | [p], q :: q' :: r, l, h1, h2 => by
    have e1 := h1.2.1; have e2 := h2.2.1
    rw [Lib.join_one] at e1
    rw [join_two] at e2
    exact absurd (by rw [e1, ← e2]; simp) (h1.2.2 p (by simp))
  | p :: p' :: r, [q], l, h1, h2 => by
    have e1 := h1.2.1; have e2 := h2.2.1
    rw [Lib.join_one] at e2
    rw [join_two] at e1
    exact absurd (by rw [e2, ← e1]; simp) (h2.2.2 q (by simp))
  | p :: p' :: r, q :: q' :: s, l, h1, h2 => by
    have e1 := h1.2.1; have e2 := h2.2.1
    rw [join_two] at e1 e2
    obtain ⟨rfl, e3⟩ := cutc (h1.2.2 p (by simp)) (h2.2.2 q (by simp)) (e1.trans e2.symm)
    have := spl_inj (c := c) (ps := p' :: r) (qs := q' :: s) (l := Lib.join (p' :: r) [c]) ⟨by simp, rfl, fun x hx => h1.2.2 x (by simp [List.mem_cons.1 hx])⟩ ⟨by simp, e3.symm, fun x hx => h2.2.2 x (by simp [List.mem_cons.1 hx])⟩
    rw [this]
theorem spl_one {c : UInt8} {l : List UInt8} (h : c ∉ l) : Spl c l [l] := ⟨by simp, Lib.join_one _ _, by simpa using h⟩
theorem spl_cons {c : UInt8} {p l : List UInt8} {ps : List (List UInt8)} (hp : c ∉ p) (h : Spl c l ps) : Spl c (p ++ c :: l) (p :: ps) := by
  obtain ⟨h1, h2, h3⟩ := h
  cases ps with
  | nil => exact absurd rfl h1
  | cons q r =>
    refine ⟨by simp, by rw [join_two, h2], fun x hx => ?_⟩
    rcases List.mem_cons.1 hx with rfl | hx
    · exact hp
    · exact h3 x hx
theorem mem_at {α : Type} {l : List α} {x : α} (h : x ∈ l) : ∃ j : Nat, l[j]? = some x := by
  obtain ⟨k, hk, e⟩ := List.mem_iff_getElem.1 h
  exact ⟨k, List.getElem?_eq_some_iff.2 ⟨hk, e⟩⟩
theorem first_cut {c : UInt8} {l : List UInt8} {i : Nat} (h : Lib.indexByte l c = i) : l = l.take i ++ c :: l.drop (i + 1) ∧ c ∉ l.take i := by
  obtain ⟨h1, h2⟩ := Lib.indexByte_some h
  obtain ⟨hi, e⟩ := List.getElem?_eq_some_iff.1 h1
  refine ⟨?_, fun hm => ?_⟩
  · conv => lhs; rw [← List.take_append_drop i l]
    rw [List.drop_eq_getElem_cons hi, e]
  · obtain ⟨j, e⟩ := mem_at hm
    by_cases hj : j < i
    · rw [List.getElem?_take_of_lt hj] at e; exact h2 j hj e
    · rw [List.getElem?_eq_none (by simp; omega)] at e; cases e
theorem index_cases (l : List UInt8) (c : UInt8) : (Lib.indexByte l c = -1 ∧ c ∉ l) ∨ ∃ i : Nat, Lib.indexByte l c = i ∧ i < l.length := by
  have hge := Lib.indexByte_ge l c
  by_cases h : Lib.indexByte l c = -1
  · refine .inl ⟨h, fun hm => ?_⟩
    obtain ⟨j, e⟩ := mem_at hm
    exact Lib.indexByte_none h j e
  · obtain ⟨i, hi⟩ : ∃ i : Nat, Lib.indexByte l c = i := ⟨(Lib.indexByte l c).toNat, by omega⟩
    exact .inr ⟨i, hi, (List.getElem?_eq_some_iff.1 (Lib.indexByte_some hi).1).1⟩
theorem split_all (c : UInt8) : ∀ (k : Nat) (l : List UInt8), l.count c = k → Spl c l (Lib.splitK [c] 0 k l)
  | 0, l, h => by
    rw [Lib.splitK]
    exact spl_one (List.count_eq_zero.1 h)
  | k + 1, l, h => by
    unfold Lib.splitK
    rcases index_cases l c with ⟨h1, h2⟩ | ⟨i, h1, h2⟩
    · rw [List.count_eq_zero.2 h2] at h; omega
    · have e0 : Lib.index l [c] = i := by rw [Lib.index_one]; exact h1
      rw [if_neg (fun e => by have := beq_iff_eq.1 e; omega), e0]
      obtain ⟨e1, e2⟩ := first_cut h1
      have hc : (l.drop (i + 1)).count c = k := by
        rw [e1, List.count_append, List.count_cons_self, List.count_eq_zero.2 e2] at h
        omega
      have := spl_cons e2 (split_all c k (l.drop (i + 1)) hc)
      rw [← e1] at this
      simpa using this
theorem split_pieces (c : UInt8) (s : ByteArray) : Spl c s.data.toList ((Lib.splitB ⟨#[c]⟩ 0 (Lib.countB s ⟨#[c]⟩) s).map (·.data.toList)) := by
  rw [Lib.splitB_data]
  show Spl c s.data.toList (Lib.splitK [c] 0 (Lib.count s.data.toList [c]) s.data.toList)
  rw [Lib.count_one]
  exact split_all c _ _ rfl
end Go.Proofs.YtofadgmnjckpcaaGreatDoor
namespace Go.Proofs.YtofadgmnjckpcaaGreatDoor
open Go.RowKit

/-- A byte as a cell. -/
def bcell (b : UInt8) : Value := .int .u8 (b.toNat : Nat)
theorem bcells_one (l : List UInt8) : ∀ v ∈ l.map bcell, v.oneCell' = true := by
  intro v hv; obtain ⟨b, _, rfl⟩ := List.mem_map.1 hv; rfl

/-- The slice value v, of memory from block B on, holds the bytes l. -/
def OwnB (E : TypeId) (w : World) (B : Nat) (v : Value) (l : List UInt8) : Prop := w.ownsRow B E 1 v l.length (l.map bcell)

theorem OwnB.grown {E : TypeId} {w : World} {B : Nat} {v : Value} {l : List UInt8} (h : OwnB E w B v l) {B0 : Nat} {w0 w' : World} (hb : Below B0 w0 w) (hg : w.grownBy w' v.ownBlock) (hB : B0 ≤ w.heap.size) (hB2 : B0 ≤ B) : Below B0 w0 w' :=
  hb.grown hg hB (fun k e => Nat.le_trans hB2 (h.lt k e).1)

/-- Its text. -/
theorem run_convert_own {P : Program} {w : World} {src dst e : TypeId} {B : Nat} {v : Value} {l : List UInt8} (hs : P.underlying src = some (.slice e)) (he : P.underlying e = some (.int .u8)) (hd : P.underlying dst = some .string) (h : OwnB e w B v l) :
    (convert src dst v).run P w = .ok (.string ⟨l.toArray⟩) w := by
  rcases h.2 with ⟨rfl, h0⟩ | ⟨g, cap, cur, rfl, _, hg, hn, _, hcs, htk⟩
  · obtain rfl := List.eq_nil_of_length_eq_zero h0
    rw [run_convert_bytes_string w src dst e none 0 0 hs he hd]
    unfold Conv.bytesToString
    simp
    rfl
  · refine run_convert_bytes_back w src dst e ⟨g, 0, none⟩ cap l hs he hd (fun j hj => ?_)
    have hadd : (⟨g, 0, none⟩ : Addr).add j = ⟨g, j, none⟩ := by unfold Addr.add; split <;> simp_all
    rw [hadd, cell_of_row w g j _ _ _ hg]
    have : (cur.toList.take (l.length * 1))[j]? = some (bcell l[j]) := by rw [htk]; simp [hj]
    rw [List.getElem?_take_of_lt (by omega)] at this
    simpa [bcell] using this
theorem news_row (W : World) (cs : Array Value) (E : TypeId) : ∀ j u, cs.toList[j]? = some u → (W.alloc (.cells cs E)).cell? ((⟨W.heap.size, 0, none⟩ : Addr).add j) = some u := fun j u h => by
  have hadd : (⟨W.heap.size, 0, none⟩ : Addr).add j = ⟨W.heap.size, j, none⟩ := by unfold Addr.add; split <;> simp_all
  rw [hadd, cell_of_row _ _ j _ _ _ (heap_alloc_new W _)]
  simpa using h


theorem byteInfo : (Tryz.prog.info? 5).map (fun i => (i.zero, i.size, i.bytes)) = some (some (.int .u8 0), 1, 1) := by kernel_rfl

theorem run_index_at {P : Program} {t : TypeId} (ht : P.underlying t = some .string) (b : ByteArray) (j : Nat) (x : UInt8) (h : j < b.size) (hx : b[j] = x) (i : Int) (hi : i = (j : Int)) (w : World) :
    (Instr.index t (.string b) (.int .i64 i)).run P w = .ok (.int .u8 ((x.toNat : Nat) : Int)) w := by
  rw [run_index_string w t b .i64 i ht, dif_pos (by omega)]
  subst hi
  simp [hx]

theorem Below.drawn {B : Nat} {a w : World} (h : Below B a w) (n : Nat) : Below B a (w.drewN n) := ⟨h.os, h.tape, h.output, h.size, h.block⟩
theorem OwnB.drawn {E : TypeId} {w : World} {B : Nat} {v : Value} {l : List UInt8} (h : OwnB E w B v l) (n : Nat) : OwnB E (w.drewN n) B v l := h

end Go.Proofs.YtofadgmnjckpcaaGreatDoor
namespace Go.Proofs.YtofadgmnjckpcaaGreatDoor
open Go.RowKit

/-- The byte at a place (0 behind the end). -/
def u8at (b : ByteArray) (i : Nat) : Nat := (b.data.toList.getD i 0).toNat
theorem u8at_get (b : ByteArray) (i : Nat) (h : i < b.size) : u8at b i = (b[i]).toNat := by
  have : i < b.data.toList.length := h
  unfold u8at
  rw [List.getD_eq_getElem?_getD, List.getElem?_eq_getElem this]
  rfl
theorem u8at_list (b : ByteArray) (i : Nat) (h : i < b.size) : ∃ c : UInt8, b.data.toList[i]? = some c ∧ u8at b i = c.toNat := by
  have : i < b.data.toList.length := h
  refine ⟨b.data.toList[i], List.getElem?_eq_getElem this, ?_⟩
  unfold u8at
  rw [List.getD_eq_getElem?_getD, List.getElem?_eq_getElem this]
  rfl
theorem run_index_u8 {P : Program} {t : TypeId} (ht : P.underlying t = some .string) (b : ByteArray) (j : Nat) (h : j < b.size) (i : Int) (hi : i = (j : Int)) (w : World) :
    (Instr.index t (.string b) (.int .i64 i)).run P w = .ok (.int .u8 ((u8at b j : Nat) : Int)) w := by
  rw [u8at_get b j h]
  exact run_index_at ht b j b[j] h rfl i hi w
theorem toList_eq_list (c : ByteArray) : c.toList = c.data.toList := ByteArray.toList_eq c
theorem belowNew (w : World) (o : Obj) : Below w.heap.size w (w.alloc o) := (Below.refl _ w).alloc (Nat.le_refl _) o
theorem below_next {B : World} {a b : World} (h : Below B.heap.size B a) (k : Below a.heap.size a b) : Below B.heap.size B b := h.trans (k.mono h.size)
/-- The string of these bytes. -/
def strOf (l : List UInt8) : ByteArray := ⟨l.toArray⟩
theorem strOf_size (l : List UInt8) : (strOf l).size = l.length := rfl
theorem strOf_list (l : List UInt8) : (strOf l).data.toList = l := rfl
theorem strOf_of {b : ByteArray} {l : List UInt8} (h : b.data.toList = l) : b = strOf l := by
  apply ByteArray.ext
  apply Array.ext'
  exact h
theorem strOf_inj {a b : List UInt8} (h : strOf a = strOf b) : a = b := by rw [← strOf_list a, h, strOf_list]
theorem list_inj {a b : ByteArray} (h : a.data.toList = b.data.toList) : a = b := by rw [strOf_of (b := a) rfl, strOf_of (b := b) rfl, h]
theorem str_add (a b : ByteArray) : (a ++ b).data.toList = a.data.toList ++ b.data.toList := by rw [ByteArray.data_append, Array.toList_append]
theorem take_snoc {l : List UInt8} {k : Nat} {c : UInt8} (h : l[k]? = some c) : l.take (k + 1) = l.take k ++ [c] := by rw [List.take_add_one, h]; rfl

/-! ### Rows that a call has made itself -/
theorem own_below {w w' : World} {B : Nat} {e : TypeId} {k n : Nat} {v : Value} {xs : List Value} (h : w.ownsRow B e k v n xs) (hb : Below w.heap.size w w') : w'.ownsRow B e k v n xs := by
  refine ⟨h.1, ?_⟩
  rcases h.2 with h0 | ⟨g, cap, cur, hv, hB, hg, r⟩
  · exact .inl h0
  · exact .inr ⟨g, cap, cur, hv, hB, (hb.block g (Array.getElem?_eq_some_iff.1 hg).1).trans hg, r⟩
/-- A number as a cell; the slice value v, of memory from block B on, holds the numbers a. -/
def icell (n : Nat) : Value := .int .i64 ((n : Nat) : Int)
theorem out_round {w wr w2 : World} {v v' : Value} {D : List UInt8} {y : UInt8} {X : Obj} (hown : OwnB 5 wr w.heap.size v D) (hb : Below w.heap.size w wr)
    (hown2 : w2.ownsRow w.heap.size 5 1 v' (D.length + 1) (D.map bcell ++ [bcell y])) (hgr2 : (wr.alloc X).grownBy w2 v.ownBlock) : OwnB 5 w2 w.heap.size v' (D ++ [y]) ∧ Below w.heap.size w w2 := by
  refine ⟨?_, ?_⟩
  · unfold OwnB
    rw [List.length_append, List.map_append]; exact hown2
  · exact (Below.alloc hb hb.size X).grown hgr2 (by simp; have := hb.size; omega) (fun k e => (World.ownsRow.lt hown k e).1)
theorem own_str {w : World} {B : Nat} {v : Value} {l : List UInt8} (h : OwnB 5 w B v l) : (convert 119 9 v).run Tryz.prog w = .ok (.string (strOf l)) w :=
  run_convert_own Tryz.underlying119 Tryz.underlying5 Tryz.underlying9 h
theorem own_cell {w : World} {B g n cap : Nat} {l : List UInt8} (h : OwnB 5 w B (.slice (some ⟨g, 0, none⟩) n cap) l) (hl : l.length = n) (j : Nat) (hj : j < n) : w.cell? ⟨g, j, none⟩ = some (.int .u8 (((l.getD j 0).toNat : Nat) : Int)) := by
  subst hl
  have := World.ownsRow.cellAt h j (by omega)
  rw [this]
  simp [hj, bcell]
theorem own_base {w : World} {B B' : Nat} {e : TypeId} {k n : Nat} {v : Value} {xs : List Value} (h : w.ownsRow B e k v n xs) (hB : B' ≤ B) : w.ownsRow B' e k v n xs := by
  refine ⟨h.1, ?_⟩
  rcases h.2 with h0 | ⟨g, cap, cur, hv, h1, r⟩
  · exact .inl h0
  · exact .inr ⟨g, cap, cur, hv, Nat.le_trans hB h1, r⟩
theorem own_nil (E : TypeId) (w : World) (B : Nat) : OwnB E w B (.slice none 0 0) [] := World.ownsRow_nil _ _ _ _
theorem str_cat (a b : List UInt8) : strOf a ++ strOf b = strOf (a ++ b) := list_inj (by rw [str_add, strOf_list, strOf_list, strOf_list])
/-! ### Pairs of strings as cells -/
/-! ### Bytes that were handed in -/
/-- The bytes l can be read from the address a on. -/
def BLies (w : World) (a : Option Addr) (l : List UInt8) : Prop := l = [] ∨ ∃ b o, a = some ⟨b, o, none⟩ ∧ ∀ i (h : i < l.length), w.cell? ⟨b, o + i, none⟩ = some (bcell l[i])
theorem BLies.below {w w' : World} {a : Option Addr} {l : List UInt8} (h : BLies w a l) (hb : Below w.heap.size w w') : BLies w' a l := by
  rcases h with h | ⟨b, off, h1, h2⟩
  · exact .inl h
  · refine .inr ⟨b, off, h1, fun i hi => ?_⟩
    rw [← h2 i hi]
    exact hb.cell (World.block_lt_of_cell? _ _ (h2 i hi))
end Go.Proofs.YtofadgmnjckpcaaGreatDoor
namespace Go.Proofs.YtofadgmnjckpcaaGreatDoor
open Go.Shelf Go.RowKit

def lays219_ren : Go.Shelf.Ren := ⟨fun | 217 => 145 | 219 => 132 | 224 => 147 | 225 => 146 | 266 => 153 | 267 => 148 | 314 => 154 | n => n, fun | 3 => 3 | 4 => 4 | 5 => 5 | 9 => 9 | 46 => 133 | 51 => 143 | 146 => 144 | n => n, fun | 1 => 2 | n => n⟩
theorem lays219 : Go.Proofs.Lays.n219 Tryz.prog lays219_ren := {
  mixed := by kernel_rfl
  f217 := Tryz.func145.trans (congrArg some (by kernel_rfl))
  f219 := Tryz.func132.trans (congrArg some (by kernel_rfl))
  f224 := Tryz.func147.trans (congrArg some (by kernel_rfl))
  f225 := Tryz.func146.trans (congrArg some (by kernel_rfl))
  f266 := Tryz.func153.trans (congrArg some (by kernel_rfl))
  f267 := Tryz.func148.trans (congrArg some (by kernel_rfl))
  f314 := Tryz.func154.trans (congrArg some (by kernel_rfl))
  t3 := Tryz.underlying3
  a3 := Tryz.isAgg3
  z3 := Tryz.sizeOf3
  v3 := Tryz.zeroValue3
  t4 := Tryz.underlying4
  a4 := Tryz.isAgg4
  z4 := Tryz.sizeOf4
  v4 := Tryz.zeroValue4
  t5 := Tryz.underlying5
  a5 := Tryz.isAgg5
  z5 := Tryz.sizeOf5
  v5 := Tryz.zeroValue5
  t9 := Tryz.underlying9
  a9 := Tryz.isAgg9
  z9 := Tryz.sizeOf9
  v9 := Tryz.zeroValue9
  t46 := Tryz.underlying133
  a46 := Tryz.isAgg133
  z46 := Tryz.sizeOf133
  v46 := Tryz.zeroValue133
  t51 := Tryz.underlying143
  a51 := Tryz.isAgg143
  z51 := Tryz.sizeOf143
  v51 := Tryz.zeroValue143
  t146 := Tryz.underlying144
  a146 := Tryz.isAgg144
  z146 := Tryz.sizeOf144
  v146 := Tryz.zeroValue144
  g1 := by kernel_rfl }
/-- The table of powers of ten holds what the program's text lays, and no new block changes that. -/
def Pow10 (w : World) : Prop := Lib.TabBelow Tryz.prog w.heap.size w "internal/strconv.uint64pow10" .u64 Lib.pow10Tab
theorem Pow10.below {w w' : World} (h : Pow10 w) (hb : Below w.heap.size w w') : Pow10 w' := fun x hx => h x (hb.trans (hx.mono hb.size))
end Go.Proofs.YtofadgmnjckpcaaGreatDoor
namespace Go.Proofs.YtofadgmnjckpcaaGreatDoor

/-- The numbers' codes, one behind the other. -/
def cat (f : Nat → List UInt8) : List Nat → List UInt8
  | [] => []
  | v :: r => f v ++ cat f r
/-- No code is the beginning of another one. -/
def Code (f : Nat → List UInt8) : Prop := ∀ x y r s, f x ++ r = f y ++ s → x = y ∧ r = s
/-! ### Decimal numbers -/
/-! ### The pieces between the points -/
theorem at_split (l : List UInt8) (i : Nat) (c : UInt8) (h : l[i]? = some c) : l = l.take i ++ c :: l.drop (i + 1) := by
  obtain ⟨hi, rfl⟩ := List.getElem?_eq_some_iff.1 h
  rw [← List.drop_eq_getElem_cons hi, List.take_append_drop]
/-! ### A text that is scanned byte by byte -/
/-! ### Numbers in base 128 -/
def hd7 (n : Nat) : List UInt8 := if _h : n = 0 then [] else hd7 (n / 128) ++ [UInt8.ofNat (128 + n % 128)]
termination_by n
decreasing_by omega
def e128 (n : Nat) : List UInt8 := hd7 (n / 128) ++ [UInt8.ofNat (n % 128)]
/-! ### The contents of an object identifier -/
def numsOf : List Nat → List Nat
  | a :: b :: r => (40 * a + b) :: r
  | l => l
def enc (a : List Nat) : List UInt8 := cat e128 (numsOf a)
/-! ### The order, and what lies under what -/
/-- The arcs of b are the first ones of a. -/
def under (a b : List Nat) : Bool := decide (b.length ≤ a.length) && decide (a.take b.length = b)
end Go.Proofs.YtofadgmnjckpcaaGreatDoor
namespace Go.Proofs.YtofadgmnjckpcaaGreatDoor
open Go.RowKit

/-! ### Rows that a call has made itself -/
def OwnI (w : World) (B : Nat) (v : Value) (a : List Nat) : Prop := w.ownsRow B 3 1 v a.length (a.map icell)
/-- The numbers a lie from the beginning of block g on. -/
def ILie (w : World) (g : Nat) (a : List Nat) : Prop := g < w.heap.size ∧ ∀ j, j < a.length → w.cell? ⟨g, j, none⟩ = some (.int .i64 ((a.getD j 0 : Nat) : Int))
theorem ILie.cell {w : World} {g : Nat} {a : List Nat} (h : ILie w g a) (j : Nat) (hj : j < a.length) : w.cell? ⟨g, j, none⟩ = some (.int .i64 ((a.getD j 0 : Nat) : Int)) := h.2 j hj
theorem ILie.below {w w' : World} {g : Nat} {a : List Nat} (h : ILie w g a) (hb : Below w.heap.size w w') : ILie w' g a :=
  ⟨Nat.lt_of_lt_of_le h.1 hb.size, fun j hj => by
    have e := h.2 j hj
    rw [← e]
    exact hb.cell h.1⟩
theorem ILie.alloc {w : World} {g : Nat} {a : List Nat} (h : ILie w g a) (o : Obj) : ILie (w.alloc o) g a := h.below (belowNew w o)
theorem ILie.drawn {w : World} {g : Nat} {a : List Nat} (h : ILie w g a) (n : Nat) : ILie (w.drewN n) g a := h
theorem intInfo : (Tryz.prog.info? 3).map (fun i => (i.zero, i.size, i.bytes)) = some (some (.int .i64 0), 1, 8) := by kernel_rfl
theorem strInfo : (Tryz.prog.info? 9).map (fun i => (i.zero, i.size, i.bytes)) = some (some (.string ByteArray.empty), 1, 16) := by kernel_rfl
theorem OwnI.form {w : World} {B : Nat} {v : Value} {a : List Nat} (h : OwnI w B v a) : ∃ p cap, v = .slice p a.length cap := by
  rcases h.2 with ⟨rfl, h0⟩ | ⟨g, cap, cur, rfl, _⟩
  · exact ⟨none, 0, by rw [h0]⟩
  · exact ⟨_, cap, rfl⟩
end Go.Proofs.YtofadgmnjckpcaaGreatDoor
namespace Go.Proofs.YtofadgmnjckpcaaGreatDoor
open Go.RowKit

/-- The pieces of a text between the bytes c. -/
def pcsS (c : UInt8) (s : ByteArray) : List ByteArray := Lib.splitB ⟨#[c]⟩ 0 (Lib.countB s ⟨#[c]⟩) s
theorem pcsS_spl (c : UInt8) (s : ByteArray) : Spl c s.data.toList ((pcsS c s).map (·.data.toList)) := split_pieces c s
theorem index_byte (x : ByteArray) (c : UInt8) (w : World) :
    Calls Tryz.prog 132 #[.string x, .string ⟨#[c]⟩] w fun e w' => e = .returned (.int .i64 (Lib.indexByte x.data.toList c)) ∧ w' = w :=
  Any.stringslite_Index_one lays219 x c w
end Go.Proofs.YtofadgmnjckpcaaGreatDoor
