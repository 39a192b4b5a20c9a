/-
  The contracts of slices.EqualFunc at relative names, of Match and of Within.
-/
import Derived.Test.YtjdfgalcnbnobaaDoorAai
import Derived.Lib.QuietBelow
import Derived.BigQuiet
namespace Go.Proofs.YtjdfgalcnbnobaaDoor
open Go.RowKit

set_option maxRecDepth 100000 in
set_option maxHeartbeats 4000000 in
theorem eqf_any (a0 b0 : Option Addr) (c d n m : Nat) (r s : Nm) (w : World) (h1 : RLies w a0 r) (h2 : RLies w b0 s) (hn : n = r.length) (hm : m = s.length) (hr : SmallN r) (hs : SmallN s) :
    Calls Tryd.prog 43 #[.slice a0 n c, .slice b0 m d, .func (.func 44) #[] #[]] w
      fun e w' => e = .returned (.bool (decide (MatchN r s))) ∧ Below w.heap.size w w' := by
  by_cases hl : n = m
  · subst hl
    have hL : n ≤ 1000000 := by rw [hn]; exact hr.1
    have H1 := Lib.hid h1
    have H2 := Lib.hid h2
    have HN := Lib.hid hn
    have HM := Lib.hid hm
    have HR := Lib.hid hr
    have HS := Lib.hid hs
    obtain ⟨v, hv⟩ : ∃ v, v = decide (MatchN r s) := ⟨_, rfl⟩
    have HV := Lib.hid hv
    rw [← hv]
    clear h1 h2 hn hm hr hs hv
    go_enter Tryd.func43, Tryd.ntmps43
    go_wp2_with fail
    go_loopw [17] (fun i wr => ∃ k : Nat, k ≤ n ∧ i = .int .i64 k ∧ (∀ j, j < k → MatchR (r.getD j []) (s.getD j [])) ∧ Below w.heap.size w wr) (fun i _ => n - (intOf i).toNat)
    case atStart => exact ⟨0, Nat.zero_le _, rfl, fun j hj => absurd hj (Nat.not_lt_zero _), Below.refl _ _⟩
    case round =>
      obtain ⟨k, hk, rfl, hA, hb⟩ := hrel
      have HB := Lib.hid hb
      have HA := Lib.hid hA
      clear hb hA
      by_cases hlt : k < n
      · have hd : decide ((k : Int) < (n : Int)) = true := by simp; omega
        obtain ⟨b, o, rfl, hb, a1, c1, e1, _, hL1⟩ := H1.out.at k (by rw [← HN.out]; exact hlt)
        have f1 : wr.cell? ⟨b, o + k, none⟩ = _ := (HB.out.cell (p := ⟨b, o + k, none⟩) hb).trans e1
        obtain ⟨b', o', rfl, hb', a2, c2, e2, _, hL2⟩ := H2.out.at k (by rw [← HM.out]; exact hlt)
        have f2 : wr.cell? ⟨b', o' + k, none⟩ = _ := (HB.out.cell (p := ⟨b', o' + k, none⟩) hb').trans e2
        have hs1 := HR.out.2 k (by rw [← HN.out]; exact hlt)
        have hs2 := HS.out.2 k (by rw [← HM.out]; exact hlt)
        obtain ⟨x, hx⟩ : ∃ x, x = r.getD k [] := ⟨_, rfl⟩
        obtain ⟨y, hy⟩ : ∃ y, y = s.getD k [] := ⟨_, rfl⟩
        rw [← hx] at f1 hs1 hL1
        rw [← hy] at f2 hs2 hL2
        obtain ⟨p, hp⟩ : ∃ p, p = x.length := ⟨_, rfl⟩
        obtain ⟨q, hq⟩ : ∃ q, q = y.length := ⟨_, rfl⟩
        rw [← hp] at f1
        rw [← hq] at f2
        have HMR := Lib.hid (mrel_any a1 a2 c1 c2 p q x y wr (hL1.below HB.out) (hL2.below HB.out) hp hq hs1 hs2)
        have HX := Lib.hid hx
        have HY := Lib.hid hy
        clear e1 e2 hb hb' hs1 hs2 hL1 hL2 hx hy hp hq
        by_cases hmm : MatchR x y
        · rw [decide_eq_true hmm] at HMR
          have HF := Lib.hid (show ∀ j, j < k + 1 → MatchR (r.getD j []) (s.getD j []) from fun j hj => by
            by_cases e : j = k
            · rw [e, ← HX.out, ← HY.out]; exact hmm
            · exact HA.out j (by omega))
          clear hmm
          go_wp2_with (go_at_call 44; (with_reducible refine HMR.out.mono ?_); rintro e w1 ⟨rfl, hb1⟩; have HB1 := Lib.hid (below_next HB.out hb1); clear hb1)
          go_roundw
          case rel => exact ⟨k + 1, by omega, by go_num, HF.out, HB1.out⟩
          case measure => simp [intOf]; omega
        · rw [decide_eq_false hmm] at HMR
          have HF := Lib.hid (show v = false by rw [HV.out]; exact decide_eq_false (fun h => hmm (by rw [HX.out, HY.out]; exact h.2 k (by rw [← HN.out]; exact hlt))))
          clear hmm
          go_wp2_with (go_at_call 44; (with_reducible refine HMR.out.mono ?_); rintro e w1 ⟨rfl, hb1⟩; have HB1 := Lib.hid (below_next HB.out hb1); clear hb1)
          go_ret
          exact ⟨by rw [HF.out]; rfl, HB1.out⟩
      · have hd : decide ((k : Int) < (n : Int)) = false := by simp; omega
        have HF := Lib.hid (show v = true by rw [HV.out]; exact decide_eq_true ⟨by rw [← HN.out, ← HM.out], fun j hj => HA.out j (by rw [← HN.out] at hj; omega)⟩)
        go_wp2_with fail
        go_ret
        exact ⟨by rw [HF.out]; rfl, HB.out⟩
  · have e : decide (MatchN r s) = false := decide_eq_false (fun h => hl (by rw [hn, hm]; exact h.1))
    have hd : ((n : Int) != (m : Int)) = true := by simp; omega
    rw [e]
    clear h1 h2 hn hm hr hs hl e
    go_enter Tryd.func43, Tryd.ntmps43
    go_wp2_with fail
    go_ret
    exact ⟨rfl, Below.refl _ _⟩

theorem belowTwo (w : World) (o p : Obj) : Below w.heap.size w ((w.alloc o).alloc p) := below_next (belowNew w o) (belowNew _ p)
theorem slice_head (a0 : Option Addr) (n c m : Nat) (hm : m ≤ c) (W : World) : (Instr.slice 34 (.slice a0 n c) none (some (.int .i64 (m : Int))) none).run Tryd.prog W = .ok (.slice a0 m c) W := by
  have ha : ∀ a : Addr, a.add 0 = a := fun a => by obtain ⟨b, o, s⟩ := a; cases s <;> simp [Addr.add]
  have hc : (0 : Int) ≤ (m : Int) ∧ (m : Int) ≤ (c : Int) := by omega
  simp [Instr.slice, run_underlying Tryd.underlying34, Instr.sliceBounds, Instr.sliceBound, asIntOf, Result.andThen, hc]
  rw [if_pos hm]
  show Result.ok (Value.slice (if c = 0 then a0 else Option.map (fun x => x.add 0) a0) m c) W = _
  have he : Option.map (fun x : Addr => x.add 0) a0 = a0 := by cases a0 <;> simp [ha]
  rw [he, ite_self]

set_option maxRecDepth 100000 in
set_option maxHeartbeats 8000000 in
theorem within_core (a0 b0 : Option Addr) (c d n m : Nat) (r s : Nm) (w : World) (h1 : RLies w a0 r) (h2 : RLies w b0 s) (hn : n = r.length) (hm : m = s.length) (hc : n ≤ c) (hr : SmallN r) (hs : SmallN s) :
    Calls Tryd.prog 32 #[.agg #[.slice a0 n c], .agg #[.slice b0 m d]] w fun e w' => e = .returned (.bool (decide (WithinN r s))) ∧ Below w.heap.size w w' := by
  obtain ⟨W, hW⟩ : ∃ W, W = (w.alloc (.cells #[.slice a0 n c] 36)).alloc (.cells #[.slice b0 m d] 36) := ⟨_, rfl⟩
  have hwr : (w.alloc (.cells #[.slice a0 n c] 36)).alloc (.cells #[.slice b0 m d] 36) = W := hW.symm
  have hb : Below w.heap.size w W := by rw [hW]; exact belowTwo w _ _
  have k0 : W.cell? ⟨w.heap.size, 0, none⟩ = some (.slice a0 n c) := by
    rw [hW, World.cell?_alloc_old _ _ _ (by simp), cell_of_row _ _ 0 _ _ _ (heap_alloc_new w _)]; rfl
  have k1 : W.cell? ⟨w.heap.size + 1, 0, none⟩ = some (.slice b0 m d) := by
    rw [hW]
    have := cell_of_row (w := (w.alloc (.cells #[.slice a0 n c] 36)).alloc (.cells #[.slice b0 m d] 36)) (w.heap.size + 1) 0 #[.slice b0 m d] 36 (0, 0) (by have := heap_alloc_new (w.alloc (.cells #[.slice a0 n c] 36)) (.cells #[.slice b0 m d] 36); simpa using this)
    rw [this]; rfl
  have HB := Lib.hid hb
  by_cases hl : m ≤ n
  · have HE := Lib.hid (fun V (hb : Below w.heap.size w V) => eqf_any a0 b0 c d m m (r.take m) s V ((h1.below hb).take m) (h2.below hb) (by rw [List.length_take]; omega) hm (by
      refine ⟨by rw [List.length_take]; have := hr.1; omega, fun i hi => ?_⟩
      rw [List.length_take] at hi
      rw [getD_take _ _ _ (by omega)]
      exact hr.2 i (by omega)) hs)
    obtain ⟨v, hv⟩ : ∃ v, v = decide (WithinN r s) := ⟨_, rfl⟩
    have hv2 : decide (MatchN (r.take m) s) = v := by rw [hv, decide_eq_decide, within_take r s (by omega), hm]
    rw [← hv]
    rw [hv2] at HE
    have hd : decide ((m : Int) ≤ (n : Int)) = true := by simp; omega
    have hsl := slice_head a0 n c m (by omega)
    have hms : m ≤ 1000000 := by rw [hm]; exact hs.1
    clear h1 h2 hn hm hr hs hv hv2 hc hW hb
    go_enter Tryd.func32, Tryd.ntmps32
    go_wp2_with fail
    have c0 := cell_regrown k0
    have c1 := cell_regrown k1
    have cE : ∀ d' os, Calls Tryd.prog 43 #[.slice a0 m c, .slice b0 m d, .func (.func 44) #[] #[]] (Sort.grow (redrawn W d') os)
        fun e w'' => e = .returned (.bool v) ∧ ∃ p : Regrown, w'' = Sort.grow (redrawn W p.d) p.os := fun d' os => Calls.regrown_of (HE.out _ (HB.out.trans ((below_regrown W d' os).mono HB.out.size)))
    refine wp_region_quiet_below (by kernel_rfl) (by kernel_rfl) ?_
    repeat (go_big_quiet_step (with_reducible exact cE _ _))
    refine wpQuiet_nil ?_
    intro _ hw'
    obtain ⟨⟨dq, osq⟩, hw''⟩ := hw'
    subst hw''
    clear k0 k1 c0 c1 cE
    have HBZ := Lib.hid (HB.out.trans ((below_regrown W dq osq).mono HB.out.size))
    go_wp2_with fail
    go_ret
    exact ⟨rfl, HBZ.out⟩
  · have e : decide (WithinN r s) = false := decide_eq_false (fun h => hl (by rw [hn, hm]; exact h.1))
    have hd : decide ((m : Int) ≤ (n : Int)) = false := by simp; omega
    rw [e]
    clear h1 h2 hn hm hr hs hc hW hb e
    go_enter Tryd.func32, Tryd.ntmps32
    go_wp2_with fail
    have c0 := cell_regrown k0
    have c1 := cell_regrown k1
    refine wp_region_quiet_below (by kernel_rfl) (by kernel_rfl) ?_
    repeat (go_big_quiet_step (fail))
    refine wpQuiet_nil ?_
    intro _ hw'
    obtain ⟨⟨dq, osq⟩, hw''⟩ := hw'
    subst hw''
    clear k0 k1 c0 c1
    have HBZ := Lib.hid (HB.out.trans ((below_regrown W dq osq).mono HB.out.size))
    go_wp2_with fail
    go_ret
    exact ⟨rfl, HBZ.out⟩
end Go.Proofs.YtjdfgalcnbnobaaDoor
