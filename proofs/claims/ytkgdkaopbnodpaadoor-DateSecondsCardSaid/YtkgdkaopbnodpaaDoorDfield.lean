/-
  Rows of bytes and of a date's six numbers that can be read and written; the contract of date.fieldOf.
-/
import Derived.Test.YtkgdkaopbnodpaaDoorDspec
import Derived.Test.YtkgdkaopbnodpaaDoorDrciv
import Derived.Laws.IdiomStrings
namespace Go.Proofs.YtkgdkaopbnodpaaDoor
open Go.RowKit

/-- The bytes l lie from the beginning of block g on, and may be written. -/
def BL (w : World) (g : Nat) (l : List UInt8) : Prop := g < w.heap.size ∧ ∀ j, j < l.length → w.cell? ⟨g, j, none⟩ = some (.int .u8 (((l.getD j 0).toNat : Nat) : Int)) ∧ w.frozen? ⟨g, j, none⟩ = false
/-- The six numbers F lie from the beginning of block g on, and may be written. -/
def FL (w : World) (g : Nat) (F : List Nat) : Prop := g < w.heap.size ∧ F.length = 6 ∧ ∀ j, j < 6 → w.cell? ⟨g, j, none⟩ = some (.int .i64 ((F.getD j 0 : Nat) : Int)) ∧ w.frozen? ⟨g, j, none⟩ = false
theorem addr_ne {g h i j : Nat} (e : g ≠ h) : (⟨g, i, none⟩ : Addr) ≠ ⟨h, j, none⟩ := fun k => e (by injection k)
theorem addr_ne2 {g i j : Nat} (e : i ≠ j) : (⟨g, i, none⟩ : Addr) ≠ ⟨g, j, none⟩ := fun k => e (by injection k)
theorem getD_set_same {α : Type} {l : List α} {j : Nat} (h : j < l.length) (v d : α) : (l.set j v).getD j d = v := by
  rw [List.getD_eq_getElem?_getD]; simp [h]
theorem getD_set_other {α : Type} {l : List α} {i j : Nat} (h : i ≠ j) (v d : α) : (l.set i v).getD j d = l.getD j d := by
  rw [List.getD_eq_getElem?_getD, List.getD_eq_getElem?_getD, List.getElem?_set_ne h]
theorem BL.put {w : World} {g : Nat} {l : List UInt8} (h : BL w g l) {j : Nat} (hj : j < l.length) (b : UInt8) : BL (w.setCell ⟨g, j, none⟩ (.int .u8 ((b.toNat : Nat) : Int))) g (l.set j b) := by
  refine ⟨by simpa using h.1, fun i hi => ?_⟩
  rw [List.length_set] at hi
  rw [World.frozen?_setCell]
  refine ⟨?_, (h.2 i hi).2⟩
  by_cases e : j = i
  · subst e
    rw [World.cell?_setCell_same _ _ _ (h.2 j hj).1, getD_set_same hj]
  · rw [World.cell?_setCell_other _ _ _ _ (addr_ne2 e), getD_set_other e]
    exact (h.2 i hi).1
theorem BL.other {w : World} {g : Nat} {l : List UInt8} (h : BL w g l) {k : Nat} (hk : k ≠ g) (j : Nat) (v : Value) : BL (w.setCell ⟨k, j, none⟩ v) g l := by
  refine ⟨by simpa using h.1, fun i hi => ?_⟩
  rw [World.frozen?_setCell, World.cell?_setCell_other _ _ _ _ (addr_ne hk)]
  exact h.2 i hi
theorem FL.put {w : World} {g : Nat} {F : List Nat} (h : FL w g F) {j : Nat} (hj : j < 6) (b : Nat) : FL (w.setCell ⟨g, j, none⟩ (.int .i64 ((b : Nat) : Int))) g (F.set j b) := by
  refine ⟨by simpa using h.1, by rw [List.length_set]; exact h.2.1, fun i hi => ?_⟩
  rw [World.frozen?_setCell]
  refine ⟨?_, (h.2.2 i hi).2⟩
  by_cases e : j = i
  · subst e
    rw [World.cell?_setCell_same _ _ _ (h.2.2 j hj).1, getD_set_same (by have := h.2.1; omega)]
  · rw [World.cell?_setCell_other _ _ _ _ (addr_ne2 e), getD_set_other e]
    exact (h.2.2 i hi).1
theorem FL.other {w : World} {g : Nat} {F : List Nat} (h : FL w g F) {k : Nat} (hk : k ≠ g) (j : Nat) (v : Value) : FL (w.setCell ⟨k, j, none⟩ v) g F := by
  refine ⟨by simpa using h.1, h.2.1, fun i hi => ?_⟩
  rw [World.frozen?_setCell, World.cell?_setCell_other _ _ _ _ (addr_ne hk)]
  exact h.2.2 i hi
theorem FL.below {w w' : World} {g : Nat} {F : List Nat} (h : FL w g F) (hb : Below w.heap.size w w') : FL w' g F :=
  ⟨Nat.lt_of_lt_of_le h.1 hb.size, h.2.1, fun j hj => ⟨(hb.cell (p := ⟨g, j, none⟩) h.1).trans (h.2.2 j hj).1, (hb.frozen (p := ⟨g, j, none⟩) h.1).trans (h.2.2 j hj).2⟩⟩
theorem FL.drew {w : World} {g : Nat} {F : List Nat} (h : FL w g F) : FL w.drew g F := h
theorem BL.drew {w : World} {g : Nat} {l : List UInt8} (h : BL w g l) : BL w.drew g l := h
theorem FL.new (w : World) (x : Dt) (t : TypeId) : FL (w.alloc (.cells (dtc x.y x.m x.d x.h x.n x.s) t)) w.heap.size (flds x) := by
  have h := dt_facts (w := w.alloc (.cells (dtc x.y x.m x.d x.h x.n x.s) t)) (g := w.heap.size) (heap_alloc_new w _)
  refine ⟨h.2.2, rfl, fun j hj => ?_⟩
  rcases (by omega : j = 0 ∨ j = 1 ∨ j = 2 ∨ j = 3 ∨ j = 4 ∨ j = 5) with rfl | rfl | rfl | rfl | rfl | rfl
  · exact ⟨h.1.1, h.2.1.1⟩
  · exact ⟨h.1.2.1, h.2.1.2.1⟩
  · exact ⟨h.1.2.2.1, h.2.1.2.2.1⟩
  · exact ⟨h.1.2.2.2.1, h.2.1.2.2.2.1⟩
  · exact ⟨h.1.2.2.2.2.1, h.2.1.2.2.2.2.1⟩
  · exact ⟨h.1.2.2.2.2.2, h.2.1.2.2.2.2.2⟩
/-- The bytes of '[]byte(s)'. -/
theorem BL.new (w : World) (s : ByteArray) (cap : Nat) (t : TypeId) : BL (w.alloc (.cells (bytesRow s cap) t ((bytesRow s cap).size, (bytesRow s cap).size + 1))) w.heap.size s.data.toList := by
  refine ⟨by simp, fun j hj => ?_⟩
  have hj2 : j < s.data.size := hj
  refine ⟨?_, ?_⟩
  · rw [cell_of_row _ _ j _ _ _ (heap_alloc_new w _)]
    unfold bytesRow
    rw [Array.getElem?_append_left (by simpa using hj2)]
    rw [List.getD_eq_getElem?_getD]
    simp
    exact ⟨s.data[j], Array.getElem?_eq_getElem hj2, by rw [Array.getElem?_eq_getElem hj2]; rfl⟩
  · rw [World.frozen?_alloc_mark]
    have : (bytesRow s cap).size ≥ s.data.size := by unfold bytesRow; simp
    have h2 : ¬ (bytesRow s cap).size ≤ j := by omega
    rw [decide_eq_false h2]; rfl

theorem slot_at {c : Nat} (v : Option Nat) (h : slot c = v) : slot c = v := h
set_option maxRecDepth 100000 in
set_option maxHeartbeats 1000000 in
theorem field_any (g c : Nat) (w : World) :
    Calls Tryd.prog 42 #[.pointer (some ⟨g, 0, none⟩), .int .u8 (c : Int)] w fun e w' => e = .returned (.pointer ((slot c).map fun j => ⟨g, j, none⟩)) ∧ w' = w := by
  by_cases h1 : c = 89
  · subst h1
    go_enter Tryd.func42, Tryd.ntmps42
    go_wp2_with fail
    go_ret
    exact ⟨rfl, rfl⟩
  have e1 : ((c : Int) == 89) = false := beq_eq_false_iff_ne.2 (by omega)
  by_cases h2 : c = 77
  · subst h2
    go_enter Tryd.func42, Tryd.ntmps42
    go_wp2_with fail
    go_ret
    exact ⟨rfl, rfl⟩
  have e2 : ((c : Int) == 77) = false := beq_eq_false_iff_ne.2 (by omega)
  by_cases h3 : c = 68
  · subst h3
    go_enter Tryd.func42, Tryd.ntmps42
    go_wp2_with fail
    go_ret
    exact ⟨rfl, rfl⟩
  have e3 : ((c : Int) == 68) = false := beq_eq_false_iff_ne.2 (by omega)
  by_cases h4 : c = 104
  · subst h4
    go_enter Tryd.func42, Tryd.ntmps42
    go_wp2_with fail
    go_ret
    exact ⟨rfl, rfl⟩
  have e4 : ((c : Int) == 104) = false := beq_eq_false_iff_ne.2 (by omega)
  by_cases h5 : c = 109
  · subst h5
    go_enter Tryd.func42, Tryd.ntmps42
    go_wp2_with fail
    go_ret
    exact ⟨rfl, rfl⟩
  have e5 : ((c : Int) == 109) = false := beq_eq_false_iff_ne.2 (by omega)
  by_cases h6 : c = 115
  · subst h6
    go_enter Tryd.func42, Tryd.ntmps42
    go_wp2_with fail
    go_ret
    exact ⟨rfl, rfl⟩
  have e6 : ((c : Int) == 115) = false := beq_eq_false_iff_ne.2 (by omega)
  have HS := Lib.hid (show slot c = none by unfold slot; rw [if_neg h1, if_neg h2, if_neg h3, if_neg h4, if_neg h5, if_neg h6])
  clear h1 h2 h3 h4 h5 h6
  go_enter Tryd.func42, Tryd.ntmps42
  go_wp2_with fail
  go_ret
  exact ⟨by rw [HS.out]; rfl, rfl⟩
end Go.Proofs.YtkgdkaopbnodpaaDoor
