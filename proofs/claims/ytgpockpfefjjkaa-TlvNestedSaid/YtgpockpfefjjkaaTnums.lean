/-
  A slice of numbers that can be read: its numbers lie at its address; and TlvNested's walk over it.
-/
import Derived.Test.YtgpockpfefjjkaaTframe
import Derived.Test.YtgpockpfefjjkaaTnestlaw
namespace Go.Proofs.Ytgpockpfefjjkaa
open Go.ChangeShapes Go.WideShapes Go.ChangeAt Go.RowKit

set_option maxRecDepth 10000 in
theorem open_nums {H : Type} {enc : TypeId × Value → H} {W : World} {a0 : Option Addr} {len cap : Nat} {d : DataW H} {p : List MemPlace}
    (h : DataW.Trod enc Try.prog W 0 (fun _ => true) true 30 (.slice a0 len cap) d p) : ∃ zs : List Int, len = zs.length ∧ ILies W a0 zs ∧ zs.length ≤ 9223372036854775807 := by
  obtain ⟨fuel, hf⟩ := h
  have cb : Try.prog.cellsOf 3 = 1 := by kernel_rfl
  rcases open_ints Try.underlying30 Try.underlying3 cb hf with ⟨hcs, _⟩ | ⟨a, len', cap', zs, hcs, _, hl, hcm, hz, _, hcell, _⟩
  · simp [Value.cells] at hcs
    obtain ⟨rfl, rfl, rfl⟩ := hcs
    exact ⟨[], rfl, .inl rfl, by simp⟩
  · simp [Value.cells] at hcs
    obtain ⟨rfl, rfl, rfl⟩ := hcs
    by_cases h0 : len = 0
    · subst h0
      exact ⟨[], rfl, .inl rfl, by simp⟩
    · have hzl : len ≤ zs.length := by rw [hz]; simpa using hl
      obtain ⟨b, off, rfl, hc⟩ := ints_at hcell (by omega)
      have e : (zs.take len).length = len := by rw [List.length_take]; omega
      refine ⟨zs.take len, e.symm, .inr ⟨b, off, rfl, fun i hi => ?_⟩, by rw [e]; unfold maxLen at hcm; omega⟩
      rw [e] at hi
      rw [hc i (by omega)]
      congr 2
      rw [List.getD_eq_getElem?_getD, List.getD_eq_getElem?_getD, List.getElem?_take_of_lt hi]

theorem nest_law (n d : Nat) (a : Option Addr) (len cap : Nat) (w : World) (hn : n < 256) (hd : d < 256) (h : ∃ zs : List Int, len = zs.length ∧ ILies w a zs ∧ zs.length ≤ 9223372036854775807) :
    Calls Try.prog 5 #[.int .u8 (n : Nat), .slice a len cap, .int .u8 (d : Nat)] w fun e w' => e = .returned (.bool true) ∧ Below w.heap.size w w' := by
  obtain ⟨zs, rfl, hl, hz⟩ := h
  exact nest_loop n d a cap zs w hn hd hl hz
end Go.Proofs.Ytgpockpfefjjkaa
