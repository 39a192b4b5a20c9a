/-
  The contract of date.Seconds.
-/
import Derived.Test.YtkgdkaopbnodpaaDoorDvalid
namespace Go.Proofs.YtkgdkaopbnodpaaDoor
open Go.RowKit

theorem dtNew (w : World) (cs : Array Value) (t : TypeId) : (w.alloc (.cells cs t)).heap[w.heap.size]? = some (.cells cs t (0, 0)) := heap_alloc_new w _
theorem valid_yes {x : Dt} (h : Ok x) (w : World) (hT : Mon w) :
    Calls Tryd.prog 29 #[dtV x] w fun E w' => E = .returned (.bool true) ∧ Below w.heap.size w w' := by
  refine (valid_any _ _ _ _ _ _ w hT).mono ?_
  rintro E w' ⟨⟨_, rfl⟩ | ⟨h1, _⟩, hb⟩
  · exact ⟨rfl, hb⟩
  · exact absurd ⟨x, h, rfl, rfl, rfl, rfl, rfl, rfl⟩ h1
theorem valid_no {a b c d e f : Int} (h : ¬ OkI a b c d e f) (w : World) (hT : Mon w) :
    Calls Tryd.prog 29 #[dtv a b c d e f] w fun E w' => E = .returned (.bool false) ∧ Below w.heap.size w w' := by
  refine (valid_any _ _ _ _ _ _ w hT).mono ?_
  rintro E w' ⟨⟨h1, _⟩ | ⟨_, rfl⟩, hb⟩
  · exact absurd h1 h
  · exact ⟨rfl, hb⟩

set_option maxRecDepth 100000 in
set_option maxHeartbeats 4000000 in
theorem secs_no {a b c d e f : Int} (h : ¬ OkI a b c d e f) (w : World) (hT : Mon w) :
    Calls Tryd.prog 12 #[dtv a b c d e f] w fun E w' => E = .returned (.tuple #[.int .i64 0, .int .i64 12]) ∧ Below w.heap.size w w' := by
  have HV := Lib.hid (valid_no h _ (hT.alloc (.cells (dtc a b c d e f) 27)))
  clear h hT
  go_enter Tryd.func12, Tryd.ntmps12
  go_wp2_with (go_at_call 29; (with_reducible refine HV.out.mono ?_); rintro E w1 ⟨rfl, hb1⟩; have HB1 := Lib.hid hb1; clear hb1)
  go_ret2
  exact ⟨rfl, below_next (belowNew _ _) HB1.out⟩

set_option maxRecDepth 100000 in
set_option maxHeartbeats 4000000 in
theorem secs_yes {x : Dt} (h : Ok x) (w : World) (hT : Mon w) :
    Calls Tryd.prog 12 #[dtV x] w fun E w' => E = .returned (.tuple #[.int .i64 ((secs x : Nat) : Int), .int .i64 0]) ∧ Below w.heap.size w w' := by
  have HV := Lib.hid (valid_yes h _ (hT.alloc (.cells (dtc x.y x.m x.d x.h x.n x.s) 27)))
  obtain ⟨y, m, d, hh, mi, s⟩ := x
  obtain ⟨y1, y2, m1, m2, d1, d2, h2, n2, s2⟩ := h
  simp only at y1 y2 m1 m2 d1 d2 h2 n2 s2
  have hdm := (mdays_pos (y := y) m1 m2).2
  have hd31 : d ≤ 31 := by omega
  clear hdm d2
  have HC := Lib.hid (fun w => bef_any y w y1 (by omega))
  have hbl : bef y ≤ 2940202 := by
    have := bef_add y (10000 - y) y1
    rw [show y + (10000 - y) = 10000 by omega, bef_end] at this
    omega
  have HS := Lib.hid (show secs ⟨y, m, d, hh, mi, s⟩ = 86400 * (bef y + msum y m + (d - 1)) + 3600 * hh + 60 * mi + s from rfl)
  have HMS := Lib.hid (show ∀ k, 1 ≤ k → k ≤ 12 → msum y (k + 1) = msum y k + mdays y k from fun k h1 _ => msum_succ y k h1)
  have HML := Lib.hid (show ∀ k, 1 ≤ k → k ≤ 12 → msum y k ≤ 366 from fun k h1 h2 => by
    have := msum_le (y := y) h1 (show k ≤ 13 by omega)
    rw [msum_end] at this
    have := leap_le y
    omega)
  have HMM := Lib.hid (show ∀ k, 1 ≤ k → k ≤ 12 → mdays y k ≤ 31 from fun k h1 h2 => (mdays_pos h1 h2).2)
  generalize hB : bef y = B at HC HS hbl
  clear hB
  generalize hS : secs ⟨y, m, d, hh, mi, s⟩ = S at HS
  clear hS
  have HT := Lib.hid hT
  clear hT
  go_enter Tryd.func12, Tryd.ntmps12
  go_wp2_with (go_at_call 29; (with_reducible refine HV.out.mono ?_); rintro E w1 ⟨rfl, hb1⟩; obtain ⟨c0, c1, c2, c3, c4, c5⟩ := dt_cell ((hb1.block w.heap.size (by simp)).trans (dtNew w _ _)); have HB1 := Lib.hid (below_next (belowNew _ _) hb1); clear hb1)
  go_quiet ((go_at_call 25; with_reducible refine Calls.quiet_of_same (HC.out _)))
  have HT1 := Lib.hid (Mon.drawn (HT.out.old HB1.out) nq)
  have HB2 := Lib.hid (Below.drawn HB1.out nq)
  replace c0 : (w1.drewN nq).cell? ⟨w.heap.size, 0, none⟩ = _ := c0
  replace c1 : (w1.drewN nq).cell? ⟨w.heap.size, 1, none⟩ = _ := c1
  replace c2 : (w1.drewN nq).cell? ⟨w.heap.size, 2, none⟩ = _ := c2
  replace c3 : (w1.drewN nq).cell? ⟨w.heap.size, 3, none⟩ = _ := c3
  replace c4 : (w1.drewN nq).cell? ⟨w.heap.size, 4, none⟩ = _ := c4
  replace c5 : (w1.drewN nq).cell? ⟨w.heap.size, 5, none⟩ = _ := c5
  generalize w1.drewN nq = W at HT1 HB2 c0 c1 c2 c3 c4 c5 ⊢
  go_wp2_with fail
  go_loopw [4, 5] (fun t i wr => ∃ k : Nat, 1 ≤ k ∧ k ≤ m ∧ i = .int .i64 (k : Int) ∧ t = .int .i64 ((B : Int) + (d : Int) - 1 + ((msum y k : Nat) : Int)) ∧ wr = W) (fun _ i _ => m - (intOf i).toNat)
  case atStart => exact ⟨1, by omega, by omega, rfl, by rw [msum_one]; simp, rfl⟩
  case round =>
    obtain ⟨k, hk1, hk2, rfl, rfl, rfl⟩ := hrel
    have hml := HML.out k hk1 (by omega)
    by_cases hlt : k < m
    · have e1 : decide ((k : Int) < (m : Int)) = true := decide_eq_true (by omega)
      have e2 : decide (k < m) = true := decide_eq_true hlt
      have hmm := HMM.out k hk1 (by omega)
      have HM := Lib.hid (mdays_any y k _ HT1.out y1 y2 hk1 (by omega))
      have HN := Lib.hid (HMS.out k hk1 (by omega))
      obtain ⟨k1, hk1e⟩ : ∃ k1, k1 = k + 1 := ⟨_, rfl⟩
      rw [← hk1e] at HN
      have HK := Lib.hid hk1e
      clear hk1e
      generalize msum y k = P at hml HN ⊢
      generalize mdays y k = M at hmm HM HN
      go_wp2_with (go_at_call 26; (with_reducible refine HM.out.mono ?_); rintro e w2 ⟨rfl, rfl⟩)
      go_roundw
      case rel => exact ⟨k1, by have := HK.out; omega, by have := HK.out; omega, by rw [HK.out]; go_num, by rw [HN.out]; go_num, trivial⟩
      case measure => simp [intOf]; omega
    · obtain rfl : k = m := by omega
      have e1 : decide ((k : Int) < (k : Int)) = false := by simp
      have e2 : decide (k < k) = false := by simp
      generalize msum y k = P at hml HS ⊢
      go_wp2_with fail
      go_ret2
      have hfin : ((B : Int) + (d : Int) - 1 + (P : Int)) * 86400 + (hh : Int) * 3600 + (mi : Int) * 60 + (s : Int) = ((S : Nat) : Int) := by rw [HS.out]; omega
      exact ⟨by rw [← hfin]; rfl, HB2.out⟩
end Go.Proofs.YtkgdkaopbnodpaaDoor
