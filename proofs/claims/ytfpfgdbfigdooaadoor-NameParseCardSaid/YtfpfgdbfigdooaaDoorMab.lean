/-
  Small laws for the texts on strings of names: a string's bytes at numbers that have been reckoned, slices of bytes that a call has made itself, pairs of strings in cells. Nothing is claimed of the program here.
  The two tables of unicode/utf8: what the program's text lays, and that calls which leave old memory alone leave them. Nothing is claimed of the program here.
-/
import Derived.Test.YtfpfgdbfigdooaaDoorMaa
import Derived.Lib.DecodeN
namespace Go.Proofs.YtfpfgdbfigdooaaDoor
open Go.RowKit

/-- The byte at a place (0 behind the end). -/
def u8at (b : ByteArray) (i : Nat) : Nat := (b.data.toList.getD i 0).toNat
theorem u8at_lt (b : ByteArray) (i : Nat) : u8at b i < 256 := (b.data.toList.getD i 0).toNat_lt
theorem u8at_get (b : ByteArray) (i : Nat) (h : i < b.size) : u8at b i = (b[i]).toNat := by
  have : i < b.data.toList.length := h
  unfold u8at
  rw [List.getD_eq_getElem?_getD, List.getElem?_eq_getElem this]
  rfl
theorem u8at_list (b : ByteArray) (i : Nat) (h : i < b.size) : ∃ c : UInt8, b.data.toList[i]? = some c ∧ u8at b i = c.toNat := by
  have : i < b.data.toList.length := h
  refine ⟨b.data.toList[i], List.getElem?_eq_getElem this, ?_⟩
  unfold u8at
  rw [List.getD_eq_getElem?_getD, List.getElem?_eq_getElem this]
  rfl
theorem run_index_u8 {P : Program} {t : TypeId} (ht : P.underlying t = some .string) (b : ByteArray) (j : Nat) (h : j < b.size) (i : Int) (hi : i = (j : Int)) (w : World) :
    (Instr.index t (.string b) (.int .i64 i)).run P w = .ok (.int .u8 ((u8at b j : Nat) : Int)) w := by
  rw [u8at_get b j h]
  exact run_index_at ht b j b[j] h rfl i hi w
theorem empty_of_size {c : ByteArray} (h : c.size = 0) : c = ⟨#[]⟩ := by
  apply ByteArray.ext
  exact Array.eq_empty_of_size_eq_zero h
theorem nonempty_list {c : ByteArray} (h : c.size ≠ 0) : c.toList.isEmpty = false := by
  rw [ByteArray.toList_eq]
  cases e : c.data.toList with
  | nil => exact absurd (show c.data.toList.length = 0 by rw [e]; rfl) h
  | cons => rfl
theorem toList_eq_list (c : ByteArray) : c.toList = c.data.toList := ByteArray.toList_eq c
theorem belowNew (w : World) (o : Obj) : Below w.heap.size w (w.alloc o) := (Below.refl _ w).alloc (Nat.le_refl _) o
theorem below_next {B : World} {a b : World} (h : Below B.heap.size B a) (k : Below a.heap.size a b) : Below B.heap.size B b := h.trans (k.mono h.size)
/-- The string of these bytes. -/
def strOf (l : List UInt8) : ByteArray := ⟨l.toArray⟩
theorem strOf_size (l : List UInt8) : (strOf l).size = l.length := rfl
theorem strOf_list (l : List UInt8) : (strOf l).data.toList = l := rfl
theorem strOf_of {b : ByteArray} {l : List UInt8} (h : b.data.toList = l) : b = strOf l := by
  apply ByteArray.ext
  apply Array.ext'
  exact h
theorem strOf_inj {a b : List UInt8} (h : strOf a = strOf b) : a = b := by rw [← strOf_list a, h, strOf_list]
theorem list_inj {a b : ByteArray} (h : a.data.toList = b.data.toList) : a = b := by rw [strOf_of (b := a) rfl, strOf_of (b := b) rfl, h]
theorem str_add (a b : ByteArray) : (a ++ b).data.toList = a.data.toList ++ b.data.toList := by rw [ByteArray.data_append, Array.toList_append]
theorem take_snoc {l : List UInt8} {k : Nat} {c : UInt8} (h : l[k]? = some c) : l.take (k + 1) = l.take k ++ [c] := by rw [List.take_add_one, h]; rfl

/-! ### Rows that a call has made itself -/
theorem own_below {w w' : World} {B : Nat} {e : TypeId} {k n : Nat} {v : Value} {xs : List Value} (h : w.ownsRow B e k v n xs) (hb : Below w.heap.size w w') : w'.ownsRow B e k v n xs := by
  refine ⟨h.1, ?_⟩
  rcases h.2 with h0 | ⟨g, cap, cur, hv, hB, hg, r⟩
  · exact .inl h0
  · exact .inr ⟨g, cap, cur, hv, hB, (hb.block g (Array.getElem?_eq_some_iff.1 hg).1).trans hg, r⟩
/-- A number as a cell; the slice value v, of memory from block B on, holds the numbers a. -/
def icell (n : Nat) : Value := .int .i64 ((n : Nat) : Int)
theorem icells_one (l : List Nat) : ∀ v ∈ l.map icell, v.oneCell' = true := by
  intro v hv; obtain ⟨b, _, rfl⟩ := List.mem_map.1 hv; rfl
theorem out_round {w wr w2 : World} {v v' : Value} {D : List UInt8} {y : UInt8} {X : Obj} (hown : OwnB 5 wr w.heap.size v D) (hb : Below w.heap.size w wr)
    (hown2 : w2.ownsRow w.heap.size 5 1 v' (D.length + 1) (D.map bcell ++ [bcell y])) (hgr2 : (wr.alloc X).grownBy w2 v.ownBlock) : OwnB 5 w2 w.heap.size v' (D ++ [y]) ∧ Below w.heap.size w w2 := by
  refine ⟨?_, ?_⟩
  · unfold OwnB
    rw [List.length_append, List.map_append]; exact hown2
  · exact (Below.alloc hb hb.size X).grown hgr2 (by simp; have := hb.size; omega) (fun k e => (World.ownsRow.lt hown k e).1)
theorem own_str {w : World} {B : Nat} {v : Value} {l : List UInt8} (h : OwnB 5 w B v l) : (convert 46 9 v).run Tryd.prog w = .ok (.string (strOf l)) w :=
  run_convert_own Tryd.underlying46 Tryd.underlying5 Tryd.underlying9 h
theorem own_cell {w : World} {B g n cap : Nat} {l : List UInt8} (h : OwnB 5 w B (.slice (some ⟨g, 0, none⟩) n cap) l) (hl : l.length = n) (j : Nat) (hj : j < n) : w.cell? ⟨g, j, none⟩ = some (.int .u8 (((l.getD j 0).toNat : Nat) : Int)) := by
  subst hl
  have := World.ownsRow.cellAt h j (by omega)
  rw [this]
  simp [hj, bcell]
theorem own_free {w : World} {B g n cap : Nat} {l : List UInt8} (h : OwnB 5 w B (.slice (some ⟨g, 0, none⟩) n cap) l) (hl : l.length = n) (j : Nat) : w.frozen? ⟨g, j, none⟩ = false := by
  subst hl
  exact World.ownsRow.frozenAt h j
theorem own_set {w : World} {B g n cap : Nat} {l : List UInt8} (h : OwnB 5 w B (.slice (some ⟨g, 0, none⟩) n cap) l) (hl : l.length = n) (j : Nat) (b : UInt8) :
    OwnB 5 (w.setCell ⟨g, j, none⟩ (.int .u8 ((b.toNat : Nat) : Int))) B (.slice (some ⟨g, 0, none⟩) n cap) (l.set j b) := by
  subst hl
  unfold OwnB at h ⊢
  have := (World.ownsRow.stored h j (bcell b)).1
  rw [List.length_set, List.map_set]
  exact this
theorem own_base {w : World} {B B' : Nat} {e : TypeId} {k n : Nat} {v : Value} {xs : List Value} (h : w.ownsRow B e k v n xs) (hB : B' ≤ B) : w.ownsRow B' e k v n xs := by
  refine ⟨h.1, ?_⟩
  rcases h.2 with h0 | ⟨g, cap, cur, hv, h1, r⟩
  · exact .inl h0
  · exact .inr ⟨g, cap, cur, hv, Nat.le_trans hB h1, r⟩
theorem wrap_i64 (n : Int) : IntKind.i64.wrap n = (n + 9223372036854775808) % 18446744073709551616 - 9223372036854775808 := by
  simp [IntKind.wrap, IntKind.bits, IntKind.signed]
  split <;> omega
theorem own_nil (E : TypeId) (w : World) (B : Nat) : OwnB E w B (.slice none 0 0) [] := World.ownsRow_nil _ _ _ _
theorem str_cat (a b : List UInt8) : strOf a ++ strOf b = strOf (a ++ b) := list_inj (by rw [str_add, strOf_list, strOf_list, strOf_list])
theorem row_ints (W : World) (l : List Int) (k : Nat) (hk : k < l.length) : (W.alloc (.cells (l.map (Value.int .i64)).toArray 3)).cell? ⟨W.heap.size, k, none⟩ = some (.int .i64 (l.getD k 0)) := by
  rw [cell_of_row _ _ k _ _ _ (heap_alloc_new W _)]
  simp [hk]
theorem row_strs (W : World) (l : List ByteArray) (k : Nat) (hk : k < l.length) : (W.alloc (.cells (l.map Value.string).toArray 9)).cell? ⟨W.heap.size, k, none⟩ = some (.string (l.getD k ⟨#[]⟩)) := by
  rw [cell_of_row _ _ k _ _ _ (heap_alloc_new W _)]
  simp [hk]

/-! ### Pairs of strings as cells -/
def pairCells : List (ByteArray × ByteArray) → List Value
  | [] => []
  | p :: r => .string p.1 :: .string p.2 :: pairCells r
theorem pair_at : ∀ (l : List (ByteArray × ByteArray)) (k : Nat), k < l.length → (pairCells l)[k * 2]? = some (.string (l.getD k (⟨#[]⟩, ⟨#[]⟩)).1) ∧ (pairCells l)[k * 2 + 1]? = some (.string (l.getD k (⟨#[]⟩, ⟨#[]⟩)).2)
  | [], k, h => by simp at h
  | p :: r, 0, _ => ⟨rfl, rfl⟩
  | p :: r, k + 1, h => by
    have := pair_at r k (by simpa using h)
    exact ⟨by simpa [pairCells, Nat.add_mul] using this.1, by simpa [pairCells, Nat.add_mul] using this.2⟩
theorem row_pairs (W : World) (l : List (ByteArray × ByteArray)) (t : TypeId) (k : Nat) (hk : k < l.length) :
    (W.alloc (.cells (pairCells l).toArray t)).cell? ⟨W.heap.size, k * 2, none⟩ = some (.string (l.getD k (⟨#[]⟩, ⟨#[]⟩)).1) ∧ (W.alloc (.cells (pairCells l).toArray t)).cell? ⟨W.heap.size, k * 2 + 1, none⟩ = some (.string (l.getD k (⟨#[]⟩, ⟨#[]⟩)).2) := by
  rw [cell_of_row _ _ _ _ _ _ (heap_alloc_new W _), cell_of_row _ _ _ _ _ _ (heap_alloc_new W _), List.getElem?_toArray, List.getElem?_toArray]
  exact pair_at l k hk

/-! ### Bytes that were handed in -/
/-- The bytes l can be read from the address a on. -/
def BLies (w : World) (a : Option Addr) (l : List UInt8) : Prop := l = [] ∨ ∃ b o, a = some ⟨b, o, none⟩ ∧ ∀ i (h : i < l.length), w.cell? ⟨b, o + i, none⟩ = some (bcell l[i])
theorem BLies.below {w w' : World} {a : Option Addr} {l : List UInt8} (h : BLies w a l) (hb : Below w.heap.size w w') : BLies w' a l := by
  rcases h with h | ⟨b, off, h1, h2⟩
  · exact .inl h
  · refine .inr ⟨b, off, h1, fun i hi => ?_⟩
    rw [← h2 i hi]
    exact hb.cell (World.block_lt_of_cell? _ _ (h2 i hi))
theorem cat_any (a b : ByteArray) (h : a.size + b.size ≤ 9223372036854775807) (w : World) : (Op.stringOp .add a b).run Tryd.prog w = .ok (.string (a ++ b)) w := run_string_add_sum w a b h
end Go.Proofs.YtfpfgdbfigdooaaDoor
namespace Go.Proofs.YtfpfgdbfigdooaaDoor
open Go.RowKit

/-! ### The tables -/
/-- The two tables of unicode/utf8 lie as the library's text lays them. -/
def Tab (w : World) : Prop :=
  (∀ c, c < 256 → w.cell? ⟨0, c, none⟩ = some (.int .u8 (Lib.firstT c))) ∧
  (∀ i, i < 16 → w.cell? ⟨1, 2 * i, none⟩ = some (.int .u8 (Lib.accLo i)) ∧ w.cell? ⟨1, 2 * i + 1, none⟩ = some (.int .u8 (Lib.accHi i)))
theorem Tab.lt {w : World} (h : Tab w) : 0 < w.heap.size ∧ 1 < w.heap.size :=
  ⟨block_lt_of_cell (h.1 0 (by omega)), block_lt_of_cell (h.2 0 (by omega)).1⟩
theorem Tab.below {w w' : World} (h : Tab w) (hb : Below w.heap.size w w') : Tab w' :=
  ⟨fun c hc => (hb.cell (p := ⟨0, c, none⟩) h.lt.1).trans (h.1 c hc),
   fun i hi => ⟨(hb.cell (p := ⟨1, 2 * i, none⟩) h.lt.2).trans (h.2 i hi).1, (hb.cell (p := ⟨1, 2 * i + 1, none⟩) h.lt.2).trans (h.2 i hi).2⟩⟩
theorem Tab.alloc {w : World} (h : Tab w) (o : Obj) : Tab (w.alloc o) := h.below (belowNew w o)
theorem Tab.drawn {w : World} (h : Tab w) (n : Nat) : Tab (w.drewN n) := h
end Go.Proofs.YtfpfgdbfigdooaaDoor
