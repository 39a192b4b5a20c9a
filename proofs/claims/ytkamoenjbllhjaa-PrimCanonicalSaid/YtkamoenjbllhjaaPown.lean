/-
  Rows of bytes that a call has made itself: made, read, written, turned into a string. Nothing is claimed of the program here.
-/
import Derived.Test.YtkamoenjbllhjaaPspec
namespace Go.Proofs.Ytkamoenjbllhjaa
open Go.RowKit

theorem own_made {w : World} {B : Nat} {v : Value} (m : Nat) (h : w.ownsRow B 5 1 v m (madeCells (Value.int .u8 0).cells (m * 1)).toList) : OwnB 5 w B v (List.replicate m 0) := by
  unfold OwnB
  rw [List.length_replicate]
  have e : (madeCells (Value.int .u8 0).cells (m * 1)).toList = (List.replicate m (0 : UInt8)).map bcell := by
    simp only [madeCells, Value.cells, Nat.mul_one]
    apply List.ext_getElem
    · simp
    · intro i h1 h2
      simp [Nat.mod_one, bcell]
  rw [← e]; exact h
theorem own_cell {w : World} {B g n cap : Nat} {l : List UInt8} (h : OwnB 5 w B (.slice (some ⟨g, 0, none⟩) n cap) l) (hl : l.length = n) (j : Nat) (hj : j < n) : w.cell? ⟨g, j, none⟩ = some (.int .u8 (((l.getD j 0).toNat : Nat) : Int)) := by
  subst hl
  have := World.ownsRow.cellAt h j (by omega)
  rw [this]
  simp [hj, bcell]
theorem own_free {w : World} {B g n cap : Nat} {l : List UInt8} (h : OwnB 5 w B (.slice (some ⟨g, 0, none⟩) n cap) l) (hl : l.length = n) (j : Nat) : w.frozen? ⟨g, j, none⟩ = false := by
  subst hl
  exact World.ownsRow.frozenAt h j
theorem own_set {w : World} {B g n cap : Nat} {l : List UInt8} (h : OwnB 5 w B (.slice (some ⟨g, 0, none⟩) n cap) l) (hl : l.length = n) (j : Nat) (b : UInt8) :
    OwnB 5 (w.setCell ⟨g, j, none⟩ (.int .u8 ((b.toNat : Nat) : Int))) B (.slice (some ⟨g, 0, none⟩) n cap) (l.set j b) := by
  subst hl
  unfold OwnB at h ⊢
  have := (World.ownsRow.stored h j (bcell b)).1
  rw [List.length_set, List.map_set]
  exact this
theorem ofNat_toNat {n : Nat} (h : n < 256) : (UInt8.ofNat n).toNat = n := by simp; omega
/-- A conversion of a row of bytes that the call has made itself. -/
theorem own_str {w : World} {B : Nat} {v : Value} {l : List UInt8} (h : OwnB 5 w B v l) : (convert 42 9 v).run Try.prog w = .ok (.string (strOf l)) w :=
  run_convert_own Try.underlying42 Try.underlying5 Try.underlying9 h
end Go.Proofs.Ytkamoenjbllhjaa
