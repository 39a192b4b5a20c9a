/-
  The contracts of the reference's WithinName and MatchName.
-/
import Derived.Test.YtfpfgdbfigdooaaDoorNhas
namespace Go.Proofs.YtfpfgdbfigdooaaDoor
open Go.RowKit

set_option maxRecDepth 100000 in
set_option maxHeartbeats 4000000 in
theorem rwithin_core (a0 b0 : Option Addr) (c d n m : Nat) (r s : Nm) (w : World) (h1 : RLies w a0 r) (h2 : RLies w b0 s) (hn : n = r.length) (hm : m = s.length) (hr : SmallN r) (hs : SmallN s) :
    Calls Tryd.prog 19 #[.agg #[.slice a0 n c], .agg #[.slice b0 m d]] w fun e w' => e = .returned (.bool (decide (WithinN r s))) ∧ Below w.heap.size w w' := by
  obtain ⟨W, hW⟩ : ∃ W, W = (w.alloc (.cells #[.slice a0 n c] 24)).alloc (.cells #[.slice b0 m d] 24) := ⟨_, rfl⟩
  have hwr : (w.alloc (.cells #[.slice a0 n c] 24)).alloc (.cells #[.slice b0 m d] 24) = W := hW.symm
  have hb : Below w.heap.size w W := by rw [hW]; exact belowTwo w _ _
  have k0 : W.cell? ⟨w.heap.size, 0, none⟩ = some (.slice a0 n c) := by
    rw [hW, World.cell?_alloc_old _ _ _ (by simp), cell_of_row _ _ 0 _ _ _ (heap_alloc_new w _)]; rfl
  have k1 : W.cell? ⟨w.heap.size + 1, 0, none⟩ = some (.slice b0 m d) := by
    rw [hW]
    have := cell_of_row (w := (w.alloc (.cells #[.slice a0 n c] 24)).alloc (.cells #[.slice b0 m d] 24)) (w.heap.size + 1) 0 #[.slice b0 m d] 24 (0, 0) (by have := heap_alloc_new (w.alloc (.cells #[.slice a0 n c] 24)) (.cells #[.slice b0 m d] 24); simpa using this)
    rw [this]; rfl
  have HB := Lib.hid hb
  have H1 := Lib.hid (h1.below hb)
  have H2 := Lib.hid (h2.below hb)
  have HN := Lib.hid hn
  have HM := Lib.hid hm
  have HR := Lib.hid hr
  have HS := Lib.hid hs
  have hms : m ≤ 1000000 := by rw [hm]; exact hs.1
  have hns : n ≤ 1000000 := by rw [hn]; exact hr.1
  obtain ⟨E, hE⟩ : ∃ E, E = decide (WithinN r s) := ⟨_, rfl⟩
  rw [← hE]
  have HE := Lib.hid hE
  clear h1 h2 hn hm hr hs hE hW hb
  by_cases hl : m ≤ n
  · have hd : decide ((n : Int) < (m : Int)) = false := by simp; omega
    go_enter Tryd.func19, Tryd.ntmps19
    go_wp2_with fail
    have K0 := Lib.hid k0
    have K1 := Lib.hid k1
    obtain ⟨g, hg⟩ : ∃ g, g = w.heap.size := ⟨_, rfl⟩
    have HG := Lib.hid hg
    rw [← hg] at K0 K1 ⊢
    clear hwr k0 k1 hd hg
    go_loopw [16] (fun i wr => ∃ k : Nat, k ≤ m ∧ i = .int .i64 k ∧ (∀ j, j < k → MatchR (r.getD j []) (s.getD j [])) ∧ Below W.heap.size W wr) (fun i _ => m - (intOf i).toNat)
    case atStart => exact ⟨0, Nat.zero_le _, rfl, fun j hj => absurd hj (Nat.not_lt_zero _), Below.refl _ _⟩
    case round =>
      obtain ⟨k, hk, rfl, hA, hb⟩ := hrel
      have HBR := Lib.hid hb
      have HA := Lib.hid hA
      clear hb hA
      by_cases hlt : k < m
      · have hd : decide ((k : Int) < (m : Int)) = true := by simp; omega
        have hkn : k < n := by omega
        obtain ⟨b, o, rfl, hb, a1, c1, e1, _, hL1⟩ := H1.out.at k (by rw [← HN.out]; exact hkn)
        have f1 : wr.cell? ⟨b, o + k, none⟩ = _ := (HBR.out.cell (p := ⟨b, o + k, none⟩) hb).trans e1
        obtain ⟨b', o', rfl, hb', a2, c2, e2, _, hL2⟩ := H2.out.at k (by rw [← HM.out]; exact hlt)
        have f2 : wr.cell? ⟨b', o' + k, none⟩ = _ := (HBR.out.cell (p := ⟨b', o' + k, none⟩) hb').trans e2
        have q0 := (HBR.out.cell (p := ⟨g, 0, none⟩) (block_lt K0.out)).trans K0.out
        have q1 := (HBR.out.cell (p := ⟨g + 1, 0, none⟩) (block_lt K1.out)).trans K1.out
        have hs1 := HR.out.2 k (by rw [← HN.out]; exact hkn)
        have hs2 := HS.out.2 k (by rw [← HM.out]; exact hlt)
        obtain ⟨x, hx⟩ : ∃ x, x = r.getD k [] := ⟨_, rfl⟩
        obtain ⟨y, hy⟩ : ∃ y, y = s.getD k [] := ⟨_, rfl⟩
        rw [← hx] at f1 hs1 hL1
        rw [← hy] at f2 hs2 hL2
        obtain ⟨p, hp⟩ : ∃ p, p = x.length := ⟨_, rfl⟩
        obtain ⟨q, hq⟩ : ∃ q, q = y.length := ⟨_, rfl⟩
        rw [← hp] at f1
        rw [← hq] at f2
        have HL1 := Lib.hid hL1
        have HL2 := Lib.hid hL2
        have HMR := Lib.hid (fun V (hv : Below wr.heap.size wr V) => rmrel_any a1 a2 c1 c2 p q x y V ((HL1.out.below HBR.out).below hv) ((HL2.out.below HBR.out).below hv) hp hq hs1 hs2)
        have HX := Lib.hid hx
        have HY := Lib.hid hy
        clear e1 e2 hb hb' hs1 hs2 hL1 hL2 hx hy hp hq
        obtain ⟨z, hz⟩ : ∃ z, z = decide (MatchR x y) := ⟨_, rfl⟩
        have HZ := Lib.hid hz
        rw [← hz] at HMR
        clear hz
        go_wp2_with fail
        have cE : ∀ d' os, Calls Tryd.prog 29 #[.slice a1 p c1, .slice a2 q c2] (Sort.grow (redrawn wr d') os)
            fun e w'' => e = .returned (.bool z) ∧ ∃ p : Regrown, w'' = Sort.grow (redrawn wr p.d) p.os := fun d' os => Calls.regrown_of (HMR.out _ (below_regrown wr d' os))
        have g0 := cell_regrown q0
        have g1 := cell_regrown q1
        have g2 := cell_regrown f1
        have g3 := cell_regrown f2
        clear q0 q1 f1 f2
        refine wp_region_quiet_below (by kernel_rfl) (by kernel_rfl) ?_
        repeat (go_big_quiet_step (with_reducible exact cE _ _))
        refine wpQuiet_nil ?_
        intro _ hw'
        obtain ⟨⟨dq, osq⟩, hw''⟩ := hw'
        subst hw''
        clear g0 g1 g2 g3 cE
        have HBZ := Lib.hid (HBR.out.trans ((below_regrown wr dq osq).mono HBR.out.size))
        cases z with
        | true =>
          have HF := Lib.hid (show ∀ j, j < k + 1 → MatchR (r.getD j []) (s.getD j []) from fun j hj => by
            by_cases e : j = k
            · rw [e, ← HX.out, ← HY.out]; exact of_decide_eq_true HZ.out.symm
            · exact HA.out j (by omega))
          go_wp2_with fail
          go_roundw
          case rel => exact ⟨k + 1, by omega, by go_num, HF.out, HBZ.out⟩
          case measure => simp [intOf]; omega
        | false =>
          have HF := Lib.hid (show E = false by rw [HE.out]; exact decide_eq_false (fun h => of_decide_eq_false HZ.out.symm (by rw [HX.out, HY.out]; exact h.2 k (by rw [← HM.out]; exact hlt))))
          go_wp2_with fail
          go_ret
          exact ⟨by rw [HF.out]; rfl, below_next HB.out HBZ.out⟩
      · have hd : decide ((k : Int) < (m : Int)) = false := by simp; omega
        have HF := Lib.hid (show E = true by rw [HE.out]; exact decide_eq_true ⟨by rw [← HN.out, ← HM.out]; exact hl, fun j hj => HA.out j (by rw [← HM.out] at hj; omega)⟩)
        go_wp2_with fail
        go_ret
        exact ⟨by rw [HF.out]; rfl, below_next HB.out HBR.out⟩
  · have hd : decide ((n : Int) < (m : Int)) = true := by simp; omega
    have HF := Lib.hid (show E = false by rw [HE.out]; exact decide_eq_false (fun h => hl (by rw [HN.out, HM.out]; exact h.1)))
    go_enter Tryd.func19, Tryd.ntmps19
    go_wp2_with fail
    go_ret
    exact ⟨by rw [HF.out]; rfl, HB.out⟩

set_option maxRecDepth 100000 in
set_option maxHeartbeats 4000000 in
theorem rmatch_core (a0 b0 : Option Addr) (c d n m : Nat) (r s : Nm) (w : World) (h1 : RLies w a0 r) (h2 : RLies w b0 s) (hn : n = r.length) (hm : m = s.length) (hr : SmallN r) (hs : SmallN s) :
    Calls Tryd.prog 17 #[.agg #[.slice a0 n c], .agg #[.slice b0 m d]] w fun e w' => e = .returned (.bool (decide (MatchN r s))) ∧ Below w.heap.size w w' := by
  have HE := Lib.hid (fun W (hb : Below w.heap.size w W) => rwithin_core a0 b0 c d n m r s W (h1.below hb) (h2.below hb) hn hm hr hs)
  have HB := Lib.hid (belowTwo w (.cells #[.slice a0 n c] 24) (.cells #[.slice b0 m d] 24))
  have hmw := match_within r s
  obtain ⟨E, hE⟩ : ∃ E, E = decide (MatchN r s) := ⟨_, rfl⟩
  obtain ⟨v, hv⟩ : ∃ v, v = decide (WithinN r s) := ⟨_, rfl⟩
  rw [← hv] at HE
  rw [← hE]
  have HEE := Lib.hid hE
  by_cases hl : n = m
  · have HF := Lib.hid (show E = v by
      rw [hE, hv, decide_eq_decide, hmw]
      exact ⟨fun h => h.2, fun h => ⟨by rw [← hn, ← hm]; exact hl, h⟩⟩)
    subst hl
    clear h1 h2 hn hm hr hs hv hE hmw
    go_enter Tryd.func17, Tryd.ntmps17
    go_wp2_with (go_at_call 19; (with_reducible refine (HE.out _ HB.out).mono ?_); rintro e w1 ⟨rfl, hb1⟩; have HB1 := Lib.hid (below_next HB.out hb1); clear hb1)
    go_ret
    exact ⟨by rw [HF.out]; rfl, HB1.out⟩
  · have HF := Lib.hid (show E = false by rw [hE]; exact decide_eq_false (fun h => hl (by rw [hn, hm]; exact h.1)))
    have hd : ((n : Int) == (m : Int)) = false := beq_eq_false_iff_ne.2 (by omega)
    clear h1 h2 hn hm hr hs hv hE hmw hl
    go_enter Tryd.func17, Tryd.ntmps17
    go_wp2_with fail
    go_ret
    exact ⟨by rw [HF.out]; rfl, HB.out⟩
end Go.Proofs.YtfpfgdbfigdooaaDoor
