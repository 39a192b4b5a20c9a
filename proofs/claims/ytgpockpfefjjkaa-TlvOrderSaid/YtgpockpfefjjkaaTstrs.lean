/-
  A slice of strings that can be read: its strings lie at its address. Nothing is claimed of the program here.
-/
import Derived.Test.YtgpockpfefjjkaaTframe
import Derived.Test.YtgpockpfefjjkaaTtotal
namespace Go.Proofs.Ytgpockpfefjjkaa
open Go.ChangeShapes Go.WideShapes Go.ChangeAt Go.RowKit

theorem strings_at {w : World} {a : Addr} {ss : List ByteArray} (h : ∀ i, i < ss.length → w.cell? (a.add i) = some (.string (ss.getD i ByteArray.empty))) (hp : 0 < ss.length) :
    ∃ b off, a = ⟨b, off, none⟩ ∧ ∀ j, j < ss.length → w.cell? ⟨b, off + j, none⟩ = some (.string (ss.getD j ByteArray.empty)) := by
  obtain ⟨b, off, spot⟩ := a
  have hspot : spot = none := by simpa [Addr.add] using World.cell?_spot (h 0 hp)
  subst hspot
  exact ⟨b, off, rfl, fun j hj => by rw [← Go.WideShapes.add_plain]; exact h j hj⟩

set_option maxRecDepth 10000 in
theorem open_strs {H : Type} {enc : TypeId × Value → H} {W : World} {a0 : Option Addr} {len cap : Nat} {d : DataW H} {p : List MemPlace}
    (h : DataW.Trod enc Try.prog W 0 (fun _ => true) true 39 (.slice a0 len cap) d p) : ∃ ss : List ByteArray, Reads W (.slice a0 len cap) ss := by
  obtain ⟨fuel, hf⟩ := h
  have cb : Try.prog.cellsOf 9 = 1 := by kernel_rfl
  rcases open_strings Try.underlying39 Try.underlying9 cb hf with ⟨hcs, _⟩ | ⟨a, len', cap', ss, hcs, _, hl, _, hz, _, hcell, _⟩
  · simp [Value.cells] at hcs
    obtain ⟨rfl, rfl, rfl⟩ := hcs
    exact ⟨[], _, _, rfl, .inl rfl⟩
  · simp [Value.cells] at hcs
    obtain ⟨rfl, rfl, rfl⟩ := hcs
    by_cases h0 : len = 0
    · subst h0
      exact ⟨[], _, _, rfl, .inl rfl⟩
    · have hzl : len ≤ ss.length := by rw [hz]; simpa using hl
      obtain ⟨b, off, rfl, hc⟩ := strings_at hcell (by omega)
      refine ⟨ss.take len, _, _, by rw [List.length_take, Nat.min_eq_left hzl], .inr ⟨b, off, rfl, fun i hi => ?_⟩⟩
      rw [List.length_take, Nat.min_eq_left hzl] at hi
      rw [hc i (by omega)]
      congr 2
      simp [List.getD_eq_getElem?_getD, List.getElem?_take_of_lt hi]
end Go.Proofs.Ytgpockpfefjjkaa
