/-
  The contract of the reference's ParseTime for every text.
-/
import Derived.Test.YtkgdkaopbnodpaaDoorDrpar
namespace Go.Proofs.YtkgdkaopbnodpaaDoor
open Go.RowKit

theorem dig_dig (n : Nat) : isDig (dig n) := by unfold isDig; rw [dig_nat]; omega
theorem d2_dig (n : Nat) : ∀ c ∈ d2 n, isDig c := by
  intro c hc
  unfold d2 at hc
  simp at hc
  rcases hc with rfl | rfl <;> exact dig_dig _
theorem d4_dig (n : Nat) : ∀ c ∈ d4 n, isDig c := by
  intro c hc
  unfold d4 at hc
  simp at hc
  rcases hc with rfl | rfl | rfl | rfl <;> exact dig_dig _
theorem d2_val {n : Nat} (h : n < 100) : digI (d2 n) = (n : Int) := by
  rw [digI_yes (d2_dig n)]
  unfold d2 dval
  simp [dig_nat]
  omega
theorem d4_val {n : Nat} (h : n < 10000) : digI (d4 n) = (n : Int) := by
  rw [digI_yes (d4_dig n)]
  unfold d4 dval
  simp [dig_nat]
  omega
theorem ok_lt {x : Dt} (h : Ok x) : x.y < 10000 ∧ x.m < 100 ∧ x.d < 100 ∧ x.h < 100 ∧ x.n < 100 ∧ x.s < 100 := by
  have hd := mdays_pos (y := x.y) h.m1 h.m2
  have a := h.y2
  have b := h.m2
  have c := h.d2
  have d := h.h2
  have e := h.n2
  have f := h.s2
  omega
theorem subT {x : Dt} (h : Ok x) : digI (sub (txtT x) 0 4) = (x.y : Int) ∧ digI (sub (txtT x) 5 7) = (x.m : Int) ∧ digI (sub (txtT x) 8 10) = (x.d : Int) ∧ digI (sub (txtT x) 11 13) = (x.h : Int) ∧ digI (sub (txtT x) 14 16) = (x.n : Int) ∧ digI (sub (txtT x) 17 19) = (x.s : Int) := by
  obtain ⟨a, b, c, d, e, f⟩ := ok_lt h
  exact ⟨d4_val a, d2_val b, d2_val c, d2_val d, d2_val e, d2_val f⟩

theorem rpar_yes {x : Dt} (h : Ok x) (w : World) :
    Calls Tryd.prog 23 #[.string (strOf (txtT x))] w fun E w' => E = .returned (.tuple #[.int .i64 ((secs x : Nat) : Int), .int .i64 0]) ∧ Below w.heap.size w w' := by
  obtain ⟨a, b, c, d, e, f⟩ := subT h
  exact rpar_core (s := strOf (txtT x)) rfl a.symm b.symm c.symm d.symm e.symm f.symm (fun w => rsecs_yes h w) (.inr (.inl ⟨rfl, fun w => rfmt_yes h w, rfl⟩)) w
theorem rpar_no {s : ByteArray} (h : ∀ x, Ok x → s.data.toList ≠ txtT x) (w : World) :
    Calls Tryd.prog 23 #[.string s] w fun E w' => E = .returned (.tuple #[.int .i64 0, .int .i64 12]) ∧ Below w.heap.size w w' := by
  by_cases hs : s.size = 19
  · by_cases ho : OkI (digI (sub s.data.toList 0 4)) (digI (sub s.data.toList 5 7)) (digI (sub s.data.toList 8 10)) (digI (sub s.data.toList 11 13)) (digI (sub s.data.toList 14 16)) (digI (sub s.data.toList 17 19))
    · obtain ⟨x, hx, a, b, c, d, e, f⟩ := ho
      exact rpar_core (t := ((secs x : Nat) : Int)) (er := 0) hs a.symm b.symm c.symm d.symm e.symm f.symm (fun w => rsecs_yes hx w)
        (.inr (.inr ⟨rfl, ⟨strOf (txtT x), fun k => h x hx (by rw [← k]; rfl), fun w => rfmt_yes hx w⟩, rfl⟩)) w
    · exact rpar_core (t := 0) (er := 12) hs rfl rfl rfl rfl rfl rfl (fun w => rsecs_no ho w) (.inl ⟨rfl, rfl⟩) w
  · exact rpar_len hs w
end Go.Proofs.YtkgdkaopbnodpaaDoor
