/-
  Small laws for the texts on times: a string's bytes at numbers that have been reckoned, slices of bytes that a call has made itself, a date in six cells, the table of the months' days. Nothing is claimed of the program here.
-/
import Derived.Test.YtkgdkaopbnodpaaDoorTbase
import Derived.Test.YtkgdkaopbnodpaaDoorDpure
namespace Go.Proofs.YtkgdkaopbnodpaaDoor
open Go.RowKit

/-- The byte at a place (0 behind the end). -/
def u8at (b : ByteArray) (i : Nat) : Nat := (b.data.toList.getD i 0).toNat
theorem u8at_lt (b : ByteArray) (i : Nat) : u8at b i < 256 := (b.data.toList.getD i 0).toNat_lt
theorem u8at_get (b : ByteArray) (i : Nat) (h : i < b.size) : u8at b i = (b[i]).toNat := by
  have : i < b.data.toList.length := h
  unfold u8at
  rw [List.getD_eq_getElem?_getD, List.getElem?_eq_getElem this]
  rfl
theorem u8at_list (b : ByteArray) (i : Nat) (h : i < b.size) : ∃ c : UInt8, b.data.toList[i]? = some c ∧ u8at b i = c.toNat := by
  have : i < b.data.toList.length := h
  refine ⟨b.data.toList[i], List.getElem?_eq_getElem this, ?_⟩
  unfold u8at
  rw [List.getD_eq_getElem?_getD, List.getElem?_eq_getElem this]
  rfl
theorem run_index_u8 {P : Program} {t : TypeId} (ht : P.underlying t = some .string) (b : ByteArray) (j : Nat) (h : j < b.size) (i : Int) (hi : i = (j : Int)) (w : World) :
    (Instr.index t (.string b) (.int .i64 i)).run P w = .ok (.int .u8 ((u8at b j : Nat) : Int)) w := by
  rw [u8at_get b j h]
  exact run_index_at ht b j b[j] h rfl i hi w
theorem empty_of_size {c : ByteArray} (h : c.size = 0) : c = ⟨#[]⟩ := by
  apply ByteArray.ext
  exact Array.eq_empty_of_size_eq_zero h
theorem nonempty_list {c : ByteArray} (h : c.size ≠ 0) : c.toList.isEmpty = false := by
  rw [ByteArray.toList_eq]
  cases e : c.data.toList with
  | nil => exact absurd (show c.data.toList.length = 0 by rw [e]; rfl) h
  | cons => rfl
theorem toList_eq_list (c : ByteArray) : c.toList = c.data.toList := ByteArray.toList_eq c
theorem belowNew (w : World) (o : Obj) : Below w.heap.size w (w.alloc o) := (Below.refl _ w).alloc (Nat.le_refl _) o
theorem below_next {B : World} {a b : World} (h : Below B.heap.size B a) (k : Below a.heap.size a b) : Below B.heap.size B b := h.trans (k.mono h.size)
/-- The string of these bytes. -/
def strOf (l : List UInt8) : ByteArray := ⟨l.toArray⟩
theorem strOf_size (l : List UInt8) : (strOf l).size = l.length := rfl
theorem strOf_list (l : List UInt8) : (strOf l).data.toList = l := rfl
theorem strOf_of {b : ByteArray} {l : List UInt8} (h : b.data.toList = l) : b = strOf l := by
  apply ByteArray.ext
  apply Array.ext'
  exact h
theorem strOf_inj {a b : List UInt8} (h : strOf a = strOf b) : a = b := by rw [← strOf_list a, h, strOf_list]
theorem list_inj {a b : ByteArray} (h : a.data.toList = b.data.toList) : a = b := by rw [strOf_of (b := a) rfl, strOf_of (b := b) rfl, h]
theorem str_add (a b : ByteArray) : (a ++ b).data.toList = a.data.toList ++ b.data.toList := by rw [ByteArray.data_append, Array.toList_append]
theorem take_snoc {l : List UInt8} {k : Nat} {c : UInt8} (h : l[k]? = some c) : l.take (k + 1) = l.take k ++ [c] := by rw [List.take_add_one, h]; rfl

/-! ### Rows that a call has made itself -/
theorem own_below {w w' : World} {B : Nat} {e : TypeId} {k n : Nat} {v : Value} {xs : List Value} (h : w.ownsRow B e k v n xs) (hb : Below w.heap.size w w') : w'.ownsRow B e k v n xs := by
  refine ⟨h.1, ?_⟩
  rcases h.2 with h0 | ⟨g, cap, cur, hv, hB, hg, r⟩
  · exact .inl h0
  · exact .inr ⟨g, cap, cur, hv, hB, (hb.block g (Array.getElem?_eq_some_iff.1 hg).1).trans hg, r⟩
/-- A number as a cell; the slice value v, of memory from block B on, holds the numbers a. -/
def icell (n : Nat) : Value := .int .i64 ((n : Nat) : Int)
theorem icells_one (l : List Nat) : ∀ v ∈ l.map icell, v.oneCell' = true := by
  intro v hv; obtain ⟨b, _, rfl⟩ := List.mem_map.1 hv; rfl
theorem out_round {w wr w2 : World} {v v' : Value} {D : List UInt8} {y : UInt8} {X : Obj} (hown : OwnB 5 wr w.heap.size v D) (hb : Below w.heap.size w wr)
    (hown2 : w2.ownsRow w.heap.size 5 1 v' (D.length + 1) (D.map bcell ++ [bcell y])) (hgr2 : (wr.alloc X).grownBy w2 v.ownBlock) : OwnB 5 w2 w.heap.size v' (D ++ [y]) ∧ Below w.heap.size w w2 := by
  refine ⟨?_, ?_⟩
  · unfold OwnB
    rw [List.length_append, List.map_append]; exact hown2
  · exact (Below.alloc hb hb.size X).grown hgr2 (by simp; have := hb.size; omega) (fun k e => (World.ownsRow.lt hown k e).1)
theorem own_str {w : World} {B : Nat} {v : Value} {l : List UInt8} (h : OwnB 5 w B v l) : (convert 43 9 v).run Tryd.prog w = .ok (.string (strOf l)) w :=
  run_convert_own Tryd.underlying43 Tryd.underlying5 Tryd.underlying9 h
theorem own_cell {w : World} {B g n cap : Nat} {l : List UInt8} (h : OwnB 5 w B (.slice (some ⟨g, 0, none⟩) n cap) l) (hl : l.length = n) (j : Nat) (hj : j < n) : w.cell? ⟨g, j, none⟩ = some (.int .u8 (((l.getD j 0).toNat : Nat) : Int)) := by
  subst hl
  have := World.ownsRow.cellAt h j (by omega)
  rw [this]
  simp [hj, bcell]
theorem own_free {w : World} {B g n cap : Nat} {l : List UInt8} (h : OwnB 5 w B (.slice (some ⟨g, 0, none⟩) n cap) l) (hl : l.length = n) (j : Nat) : w.frozen? ⟨g, j, none⟩ = false := by
  subst hl
  exact World.ownsRow.frozenAt h j
theorem own_set {w : World} {B g n cap : Nat} {l : List UInt8} (h : OwnB 5 w B (.slice (some ⟨g, 0, none⟩) n cap) l) (hl : l.length = n) (j : Nat) (b : UInt8) :
    OwnB 5 (w.setCell ⟨g, j, none⟩ (.int .u8 ((b.toNat : Nat) : Int))) B (.slice (some ⟨g, 0, none⟩) n cap) (l.set j b) := by
  subst hl
  unfold OwnB at h ⊢
  have := (World.ownsRow.stored h j (bcell b)).1
  rw [List.length_set, List.map_set]
  exact this
theorem own_base {w : World} {B B' : Nat} {e : TypeId} {k n : Nat} {v : Value} {xs : List Value} (h : w.ownsRow B e k v n xs) (hB : B' ≤ B) : w.ownsRow B' e k v n xs := by
  refine ⟨h.1, ?_⟩
  rcases h.2 with h0 | ⟨g, cap, cur, hv, h1, r⟩
  · exact .inl h0
  · exact .inr ⟨g, cap, cur, hv, Nat.le_trans hB h1, r⟩
theorem wrap_i64 (n : Int) : IntKind.i64.wrap n = (n + 9223372036854775808) % 18446744073709551616 - 9223372036854775808 := by
  simp [IntKind.wrap, IntKind.bits, IntKind.signed]
  split <;> omega
theorem own_nil (E : TypeId) (w : World) (B : Nat) : OwnB E w B (.slice none 0 0) [] := World.ownsRow_nil _ _ _ _
theorem str_cat (a b : List UInt8) : strOf a ++ strOf b = strOf (a ++ b) := list_inj (by rw [str_add, strOf_list, strOf_list, strOf_list])
theorem row_ints (W : World) (l : List Int) (k : Nat) (hk : k < l.length) : (W.alloc (.cells (l.map (Value.int .i64)).toArray 3)).cell? ⟨W.heap.size, k, none⟩ = some (.int .i64 (l.getD k 0)) := by
  rw [cell_of_row _ _ k _ _ _ (heap_alloc_new W _)]
  simp [hk]
theorem row_strs (W : World) (l : List ByteArray) (k : Nat) (hk : k < l.length) : (W.alloc (.cells (l.map Value.string).toArray 9)).cell? ⟨W.heap.size, k, none⟩ = some (.string (l.getD k ⟨#[]⟩)) := by
  rw [cell_of_row _ _ k _ _ _ (heap_alloc_new W _)]
  simp [hk]

/-! ### Dates in cells -/
/-- Six numbers as the value of a date. -/
abbrev dtv (a b c d e f : Int) : Value := .agg #[.int .i64 a, .int .i64 b, .int .i64 c, .int .i64 d, .int .i64 e, .int .i64 f]
abbrev dtc (a b c d e f : Int) : Array Value := #[.int .i64 a, .int .i64 b, .int .i64 c, .int .i64 d, .int .i64 e, .int .i64 f]
abbrev dtV (x : Dt) : Value := dtv (x.y : Int) (x.m : Int) (x.d : Int) (x.h : Int) (x.n : Int) (x.s : Int)
abbrev dt0 : Value := dtv 0 0 0 0 0 0
theorem dtV_inj {x z : Dt} (h : dtV x = dtV z) : x = z := by
  cases x; cases z
  simp at h
  simp
  omega
theorem dtSize : (Tryd.prog.info? 27).map (·.size) = some 6 := by kernel_rfl
theorem dt_cell {w : World} {g : Nat} {a b c d e f : Value} {t : TypeId} (h : w.heap[g]? = some (.cells #[a, b, c, d, e, f] t (0, 0))) :
    w.cell? ⟨g, 0, none⟩ = some a ∧ w.cell? ⟨g, 1, none⟩ = some b ∧ w.cell? ⟨g, 2, none⟩ = some c ∧ w.cell? ⟨g, 3, none⟩ = some d ∧ w.cell? ⟨g, 4, none⟩ = some e ∧ w.cell? ⟨g, 5, none⟩ = some f := by
  refine ⟨?_, ?_, ?_, ?_, ?_, ?_⟩ <;> · rw [cell_of_row w g _ _ _ _ h]; rfl

/-! ### The table -/
/-- The table's cells hold the days of the months. -/
def Mon (w : World) : Prop := ∀ j, j < 12 → w.cell? ⟨0, j, none⟩ = some (.int .i64 ((mtab.getD j 0 : Nat) : Int))
theorem Mon.lt {w : World} (h : Mon w) : 0 < w.heap.size := block_lt_of_cell (h 0 (by omega))
theorem Mon.below {w w' : World} {B : Nat} (h : Mon w) (hb : Below B w w') (hB : 0 < B) : Mon w' := fun i hi => (hb.cell (p := ⟨0, i, none⟩) hB).trans (h i hi)
theorem Mon.old {w w' : World} (h : Mon w) (hb : Below w.heap.size w w') : Mon w' := h.below hb h.lt
theorem Mon.alloc {w : World} (h : Mon w) (o : Obj) : Mon (w.alloc o) := h.old (belowNew w o)
theorem Mon.drawn {w : World} (h : Mon w) (n : Nat) : Mon (w.drewN n) := h
end Go.Proofs.YtkgdkaopbnodpaaDoor
