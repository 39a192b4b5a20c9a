/-
  The contract of the reference's Civil.
-/
import Derived.Test.YtkgdkaopbnodpaaDoorDrsecy
import Derived.Lib.Builder
namespace Go.Proofs.YtkgdkaopbnodpaaDoor
open Go.RowKit

theorem dt_facts {w : World} {g : Nat} {a b c d e f : Value} {t : TypeId} (h : w.heap[g]? = some (.cells #[a, b, c, d, e, f] t (0, 0))) :
    (w.cell? ⟨g, 0, none⟩ = some a ∧ w.cell? ⟨g, 1, none⟩ = some b ∧ w.cell? ⟨g, 2, none⟩ = some c ∧ w.cell? ⟨g, 3, none⟩ = some d ∧ w.cell? ⟨g, 4, none⟩ = some e ∧ w.cell? ⟨g, 5, none⟩ = some f) ∧
    (w.frozen? ⟨g, 0, none⟩ = false ∧ w.frozen? ⟨g, 1, none⟩ = false ∧ w.frozen? ⟨g, 2, none⟩ = false ∧ w.frozen? ⟨g, 3, none⟩ = false ∧ w.frozen? ⟨g, 4, none⟩ = false ∧ w.frozen? ⟨g, 5, none⟩ = false) ∧ g < w.heap.size :=
  ⟨dt_cell h, ⟨Lib.frozen_of_heap h 0, Lib.frozen_of_heap h 1, Lib.frozen_of_heap h 2, Lib.frozen_of_heap h 3, Lib.frozen_of_heap h 4, Lib.frozen_of_heap h 5⟩, (Array.getElem?_eq_some_iff.1 h).1⟩
theorem dt_set {w : World} {g : Nat} {a b c d e f a' b' c' d' e' f' : Value} {t : TypeId} (h : w.heap[g]? = some (.cells #[a, b, c, d, e, f] t (0, 0))) :
    ((((((w.setCell ⟨g, 0, none⟩ a').setCell ⟨g, 1, none⟩ b').setCell ⟨g, 2, none⟩ c').setCell ⟨g, 3, none⟩ d').setCell ⟨g, 4, none⟩ e').setCell ⟨g, 5, none⟩ f').heap[g]? = some (.cells #[a', b', c', d', e', f'] t (0, 0)) := by
  simp [World.setCell, Array.getElem?_modify, h]
theorem dt_below {B : Nat} {w0 w : World} {g : Nat} {a b c d e f : Value} (h : Below B w0 w) (hg : B ≤ g) : Below B w0 ((((((w.setCell ⟨g, 0, none⟩ a).setCell ⟨g, 1, none⟩ b).setCell ⟨g, 2, none⟩ c).setCell ⟨g, 3, none⟩ d).setCell ⟨g, 4, none⟩ e).setCell ⟨g, 5, none⟩ f) :=
  (((((h.setCell (p := ⟨g, 0, none⟩) hg _).setCell (p := ⟨g, 1, none⟩) hg _).setCell (p := ⟨g, 2, none⟩) hg _).setCell (p := ⟨g, 3, none⟩) hg _).setCell (p := ⟨g, 4, none⟩) hg _).setCell (p := ⟨g, 5, none⟩) hg _

set_option maxRecDepth 100000 in
set_option maxHeartbeats 4000000 in
theorem rciv_no {t : Int} (h : t < 0 ∨ 254033452799 < t) (w : World) :
    Calls Tryd.prog 11 #[.int .i64 t] w fun E w' => E = .returned (.tuple #[dt0, .int .i64 1]) ∧ Below w.heap.size w w' := by
  by_cases h1 : t < 0
  · have d1 : decide (t < 0) = true := decide_eq_true h1
    clear h h1
    go_enter Tryd.func11, Tryd.ntmps11
    go_wp2_with fail
    exact bodyPost_ret (dtRes2 rfl _ _ w _ _ _ _ _ _ rfl (dtNew w _ _)) rfl ⟨rfl, belowNew _ _⟩
  · have d1 : decide (t < 0) = false := decide_eq_false h1
    have d2 : decide (254033452799 < t) = true := decide_eq_true (by omega)
    clear h h1
    go_enter Tryd.func11, Tryd.ntmps11
    go_wp2_with fail
    exact bodyPost_ret (dtRes2 rfl _ _ w _ _ _ _ _ _ rfl (dtNew w _ _)) rfl ⟨rfl, belowNew _ _⟩

/-- The numbers by which the reference finds the date. -/
theorem rciv_nums {x : Dt} (h : Ok x) : ∃ n : Nat, n = dayOf x ∧ ((secs x : Nat) : Int) / 86400 = (n : Int) ∧ ((secs x : Nat) : Int) / 3600 % 24 = (x.h : Int) ∧ ((secs x : Nat) : Int) / 60 % 60 = (x.n : Int) ∧ ((secs x : Nat) : Int) % 60 = (x.s : Int) ∧ n < 2940202 := by
  have := h.h2
  have := h.n2
  have := h.s2
  have := day_max h
  refine ⟨dayOf x, rfl, ?_⟩
  unfold secs
  omega

set_option maxRecDepth 100000 in
set_option maxHeartbeats 4000000 in
theorem rciv_yes {x : Dt} (h : Ok x) (w : World) :
    Calls Tryd.prog 11 #[.int .i64 ((secs x : Nat) : Int)] w fun E w' => E = .returned (.tuple #[dtV x, .int .i64 0]) ∧ Below w.heap.size w w' := by
  obtain ⟨n, hn, q1, q3, q4, q5, hn2⟩ := rciv_nums h
  have hmax := secs_max h
  have hdl := day_lt h
  have hnb : (n : Int) - ((bef x.y : Nat) : Int) = ((msum x.y x.m + (x.d - 1) : Nat) : Int) := by
    have := h.d1
    rw [hn]; unfold dayOf; omega
  have hbn : bef x.y ≤ n := by rw [hn]; exact hdl.1
  generalize secs x = T at q1 q3 q4 q5 hmax ⊢
  have HLO := Lib.hid hbn
  have HHI := Lib.hid (show n < bef (x.y + 1) by rw [hn]; exact hdl.2)
  obtain ⟨y, m, d, hh, mi, s⟩ := x
  obtain ⟨y1, y2, m1, m2, d1, d2, h2, n2, s2⟩ := h
  simp only at y1 y2 m1 m2 d1 d2 h2 n2 s2 hnb q3 q4 q5 HLO HHI hbn
  clear hn hdl
  have HB := Lib.hid (fun w => rbef_any y w y1 (by omega))
  have HD2 := Lib.hid d2
  have hml : msum y m + d ≤ 400 := by
    have h1 := msum_le (y := y) m1 (show m ≤ 13 by omega)
    rw [msum_end] at h1
    have := leap_le y
    have := (mdays_pos (y := y) m1 m2).2
    omega
  have HMS := Lib.hid (show ∀ k, 1 ≤ k → k < m → msum y k + mdays y k ≤ msum y m from fun k h1 h2 => by
    rw [← msum_succ y k h1]
    exact msum_le (by omega) h2)
  have HMM := Lib.hid (show ∀ k, 1 ≤ k → k ≤ 12 → mdays y k ≤ 31 from fun k h1 h2 => (mdays_pos h1 h2).2)
  have HSS := Lib.hid (show ∀ k, 1 ≤ k → msum y (k + 1) = msum y k + mdays y k from fun k h1 => msum_succ y k h1)
  have t1 : decide ((T : Int) < 0) = false := decide_eq_false (by omega)
  have t2 : decide (254033452799 < (T : Int)) = false := decide_eq_false (by omega)
  have Q3 := Lib.hid q3
  have Q4 := Lib.hid q4
  have Q5 := Lib.hid q5
  have HNB := Lib.hid hnb
  have HBN := Lib.hid hbn
  clear d2 q3 q4 q5 hnb hbn
  go_enter Tryd.func11, Tryd.ntmps11
  go_wp2_with fail
  go_loopw [5] (fun i wr => ∃ z : Nat, 1950 ≤ z ∧ z ≤ y ∧ i = .int .i64 (z : Int) ∧ wr = w.alloc (.cells (dtc 0 0 0 0 0 0) 27)) (fun i _ => y - (intOf i).toNat)
  case atStart =>
    refine ⟨1950 + n / 366, by omega, ?_, by go_num, rfl⟩
    have := bef_le 1950 (n / 366) (by omega)
    rw [bef_first] at this
    rcases Nat.lt_or_ge y (1950 + n / 366) with hl | hl
    · have := bef_lt y1 hl
      have := HHI.out
      omega
    · exact hl
  case round =>
    obtain ⟨z, hz1, hz2, rfl, rfl⟩ := hrel
    obtain ⟨z1, hz1e⟩ : ∃ z1, z1 = z + 1 := ⟨_, rfl⟩
    have hz' : (z : Int) + 1 = (z1 : Int) := by omega
    have HC := Lib.hid (fun w => rbef_any z1 w (by omega) (by omega))
    have HZ := Lib.hid hz1e
    by_cases hlt : z < y
    · have hd : decide (((bef z1 : Nat) : Int) ≤ (n : Int)) = true := by
        have := bef_lt hz1 hlt
        have := HLO.out
        rw [hz1e]
        exact decide_eq_true (by omega)
      have hdn : decide (bef z1 ≤ n) = (decide (((bef z1 : Nat) : Int) ≤ (n : Int))) := by simp
      rw [hd] at hdn
      generalize bef z1 = M at HC hd hdn
      clear hz1e
      go_wp2_with (go_at_call 27; (with_reducible refine (HC.out _).mono ?_); rintro e w1 ⟨rfl, rfl⟩)
      go_roundw
      case rel => exact ⟨z1, by have := HZ.out; omega, by have := HZ.out; omega, rfl, trivial⟩
      case measure => have := HZ.out; simp [intOf]; omega
    · obtain rfl : z = y := by omega
      have hd : decide (((bef z1 : Nat) : Int) ≤ (n : Int)) = false := by
        rw [hz1e]
        have := HHI.out
        exact decide_eq_false (by omega)
      have hdn : decide (bef z1 ≤ n) = (decide (((bef z1 : Nat) : Int) ≤ (n : Int))) := by simp
      rw [hd] at hdn
      have hnb := HNB.out
      have hbn := HBN.out
      generalize bef z1 = M at HC hd hdn
      generalize bef z = B at HB hnb hbn
      clear hz1e
      obtain ⟨D0, hD0⟩ : ∃ D0, D0 = msum z m + (d - 1) := ⟨_, rfl⟩
      rw [← hD0] at hnb
      have HD0 := Lib.hid hD0
      clear hD0
      go_wp2_with (first
        | (go_at_call 27; (with_reducible refine (HC.out _).mono ?_); rintro e w1 ⟨rfl, rfl⟩)
        | (go_at_call 27; (with_reducible refine (HB.out _).mono ?_); rintro e w1 ⟨rfl, rfl⟩))
      have HN0 := Lib.hid (dtNew w (dtc 0 0 0 0 0 0) 27)
      have HBA := Lib.hid (belowNew w (.cells (dtc 0 0 0 0 0 0) 27))
      have HLT := Lib.hid (show w.heap.size < (w.alloc (.cells (dtc 0 0 0 0 0 0) 27)).heap.size by simp)
      generalize w.alloc (.cells (dtc 0 0 0 0 0 0) 27) = W at HN0 HBA HLT ⊢
      go_loopw [4, 6] (fun t i wr => ∃ k D : Nat, 1 ≤ k ∧ k ≤ m ∧ i = .int .i64 (k : Int) ∧ t = .int .i64 (D : Int) ∧ D + 1 + msum z k = msum z m + d ∧ Below W.heap.size W wr) (fun _ i _ => m - (intOf i).toNat)
      case atStart => exact ⟨1, D0, by omega, by omega, rfl, rfl, by rw [msum_one, HD0.out]; omega, Below.refl _ _⟩
      case round =>
        obtain ⟨k, D, hk1, hk2, rfl, rfl, hD, hb⟩ := hrel
        have HBR := Lib.hid hb
        have HD := Lib.hid hD
        have hD400 : D ≤ 400 := by omega
        clear hD
        have HM := Lib.hid (fun w => rdays_any z k w y1 (by omega) hk1 (by omega))
        have hmm := HMM.out k hk1 (by omega)
        by_cases hlt : k < m
        · have hms := HMS.out k hk1 hlt
          have hdd : mdays z k ≤ D := by have := HD.out; omega
          have e1 : decide (((mdays z k : Nat) : Int) ≤ (D : Int)) = true := decide_eq_true (by omega)
          have e2 : decide (mdays z k ≤ D) = true := decide_eq_true hdd
          have HSK := Lib.hid (HSS.out k hk1)
          obtain ⟨k1, hk1e⟩ : ∃ k1, k1 = k + 1 := ⟨_, rfl⟩
          rw [← hk1e] at HSK
          have HK := Lib.hid hk1e
          clear hk1e hms hb
          generalize mdays z k = M at hmm HM hdd e1 e2 HSK
          obtain ⟨D1, hD1⟩ : ∃ D1, D1 = D - M := ⟨_, rfl⟩
          have hDi : (D : Int) - (M : Int) = (D1 : Int) := by omega
          have HDD := Lib.hid (show D1 + M = D by omega)
          clear hD1 hdd
          go_wp2_with (first
            | (go_at_call 28; (with_reducible refine (HM.out _).mono ?_); rintro E w1 ⟨rfl, hb1⟩; have HBR := Lib.hid (below_next HBR.out hb1); clear hb1))
          go_roundw
          case rel => exact ⟨k1, D1, by have := HK.out; omega, by have := HK.out; omega, by rw [HK.out]; go_num, rfl, by have := HSK.out; have := HD.out; have := HDD.out; omega, HBR.out⟩
          case measure => simp [intOf]; omega
        · obtain rfl : k = m := by omega
          have hdd : D + 1 = d := by have := HD.out; omega
          have hddi : (D : Int) + 1 = (d : Int) := by omega
          have e1 : decide (((mdays z k : Nat) : Int) ≤ (D : Int)) = false := decide_eq_false (by have := HD2.out; omega)
          have e2 : decide (mdays z k ≤ D) = false := decide_eq_false (by have := HD2.out; omega)
          generalize mdays z k = M at hmm HM e1 e2
          have q3 := Q3.out
          have q4 := Q4.out
          have q5 := Q5.out
          clear hb hdd hnb q1
          go_wp2_with (first
            | (go_at_call 28; (with_reducible refine (HM.out _).mono ?_); rintro E w1 ⟨rfl, hb1⟩; have HBR := Lib.hid (below_next HBR.out hb1); clear hb1; obtain ⟨⟨c0, c1, c2, c3, c4, c5⟩, ⟨f0, f1, f2, f3, f4, f5⟩, hltg⟩ := dt_facts ((HBR.out.block w.heap.size HLT.out).trans HN0.out); have HH := Lib.hid ((HBR.out.block w.heap.size HLT.out).trans HN0.out)))
          exact bodyPost_ret (dtRes2 rfl _ _ w _ _ _ _ _ _ rfl (dt_set HH.out)) rfl ⟨rfl, dt_below (HBA.out.trans (HBR.out.mono HBA.out.size)) (Nat.le_refl _)⟩
end Go.Proofs.YtkgdkaopbnodpaaDoor
