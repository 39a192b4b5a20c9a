/-
  The contracts of the reference's WithinName and MatchName.
  The contract of the reference's SameName at names whose relative names hold each other's attributes.
-/
import Derived.Test.YtfpfgdbfigdooaaGreatDoorEbi
import Derived.Test.YtfpfgdbfigdooaaGreatDoorEak
namespace Go.Proofs.YtfpfgdbfigdooaaGreatDoor
open Go.RowKit

set_option maxRecDepth 100000 in
set_option maxHeartbeats 4000000 in
theorem rwithin_core (a0 b0 : Option Addr) (c d n m : Nat) (r s : Nm) (w : World) (h1 : RLies w a0 r) (h2 : RLies w b0 s) (hn : n = r.length) (hm : m = s.length) (hr : SmallN r) (hs : SmallN s) :
    Calls Tryz.prog 52 #[.agg #[.slice a0 n c], .agg #[.slice b0 m d]] w fun e w' => e = .returned (.bool (decide (WithinN r s))) ∧ Below w.heap.size w w' := by
  obtain ⟨W, hW⟩ : ∃ W, W = (w.alloc (.cells #[.slice a0 n c] 24)).alloc (.cells #[.slice b0 m d] 24) := ⟨_, rfl⟩
  have hwr : (w.alloc (.cells #[.slice a0 n c] 24)).alloc (.cells #[.slice b0 m d] 24) = W := hW.symm
  have hb : Below w.heap.size w W := by rw [hW]; exact belowTwo w _ _
  have k0 : W.cell? ⟨w.heap.size, 0, none⟩ = some (.slice a0 n c) := by
    rw [hW, World.cell?_alloc_old _ _ _ (by simp), cell_of_row _ _ 0 _ _ _ (heap_alloc_new w _)]; rfl
  have k1 : W.cell? ⟨w.heap.size + 1, 0, none⟩ = some (.slice b0 m d) := by
    rw [hW]
    have := cell_of_row (w := (w.alloc (.cells #[.slice a0 n c] 24)).alloc (.cells #[.slice b0 m d] 24)) (w.heap.size + 1) 0 #[.slice b0 m d] 24 (0, 0) (by have := heap_alloc_new (w.alloc (.cells #[.slice a0 n c] 24)) (.cells #[.slice b0 m d] 24); simpa using this)
    rw [this]; rfl
  have HB := Lib.hid hb
  have H1 := Lib.hid (h1.below hb)
  have H2 := Lib.hid (h2.below hb)
  have HN := Lib.hid hn
  have HM := Lib.hid hm
  have HR := Lib.hid hr
  have HS := Lib.hid hs
  have hms : m ≤ 1000000 := by rw [hm]; exact hs.1
  have hns : n ≤ 1000000 := by rw [hn]; exact hr.1
  obtain ⟨E, hE⟩ : ∃ E, E = decide (WithinN r s) := ⟨_, rfl⟩
  rw [← hE]
  have HE := Lib.hid hE
  clear h1 h2 hn hm hr hs hE hW hb
  by_cases hl : m ≤ n
  · have hd : decide ((n : Int) < (m : Int)) = false := by simp; omega
    go_enter Tryz.func52, Tryz.ntmps52
    go_wp2_with fail
    have K0 := Lib.hid k0
    have K1 := Lib.hid k1
    obtain ⟨g, hg⟩ : ∃ g, g = w.heap.size := ⟨_, rfl⟩
    have HG := Lib.hid hg
    rw [← hg] at K0 K1 ⊢
    clear hwr k0 k1 hd hg
    go_loopw [16] (fun i wr => ∃ k : Nat, k ≤ m ∧ i = .int .i64 k ∧ (∀ j, j < k → MatchR (r.getD j []) (s.getD j [])) ∧ Below W.heap.size W wr) (fun i _ => m - (intOf i).toNat)
    case atStart => exact ⟨0, Nat.zero_le _, rfl, fun j hj => absurd hj (Nat.not_lt_zero _), Below.refl _ _⟩
    case round =>
      obtain ⟨k, hk, rfl, hA, hb⟩ := hrel
      have HBR := Lib.hid hb
      have HA := Lib.hid hA
      clear hb hA
      by_cases hlt : k < m
      · have hd : decide ((k : Int) < (m : Int)) = true := by simp; omega
        have hkn : k < n := by omega
        obtain ⟨b, o, rfl, hb, a1, c1, e1, _, hL1⟩ := H1.out.at k (by rw [← HN.out]; exact hkn)
        have f1 : wr.cell? ⟨b, o + k, none⟩ = _ := (HBR.out.cell (p := ⟨b, o + k, none⟩) hb).trans e1
        obtain ⟨b', o', rfl, hb', a2, c2, e2, _, hL2⟩ := H2.out.at k (by rw [← HM.out]; exact hlt)
        have f2 : wr.cell? ⟨b', o' + k, none⟩ = _ := (HBR.out.cell (p := ⟨b', o' + k, none⟩) hb').trans e2
        have q0 := (HBR.out.cell (p := ⟨g, 0, none⟩) (block_lt K0.out)).trans K0.out
        have q1 := (HBR.out.cell (p := ⟨g + 1, 0, none⟩) (block_lt K1.out)).trans K1.out
        have hs1 := HR.out.2 k (by rw [← HN.out]; exact hkn)
        have hs2 := HS.out.2 k (by rw [← HM.out]; exact hlt)
        obtain ⟨x, hx⟩ : ∃ x, x = r.getD k [] := ⟨_, rfl⟩
        obtain ⟨y, hy⟩ : ∃ y, y = s.getD k [] := ⟨_, rfl⟩
        rw [← hx] at f1 hs1 hL1
        rw [← hy] at f2 hs2 hL2
        obtain ⟨p, hp⟩ : ∃ p, p = x.length := ⟨_, rfl⟩
        obtain ⟨q, hq⟩ : ∃ q, q = y.length := ⟨_, rfl⟩
        rw [← hp] at f1
        rw [← hq] at f2
        have HL1 := Lib.hid hL1
        have HL2 := Lib.hid hL2
        have HMR := Lib.hid (fun V (hv : Below wr.heap.size wr V) => rmrel_any a1 a2 c1 c2 p q x y V ((HL1.out.below HBR.out).below hv) ((HL2.out.below HBR.out).below hv) hp hq hs1 hs2)
        have HX := Lib.hid hx
        have HY := Lib.hid hy
        clear e1 e2 hb hb' hs1 hs2 hL1 hL2 hx hy hp hq
        obtain ⟨z, hz⟩ : ∃ z, z = decide (MatchR x y) := ⟨_, rfl⟩
        have HZ := Lib.hid hz
        rw [← hz] at HMR
        clear hz
        go_wp2_with fail
        have cE : ∀ d' os, Calls Tryz.prog 79 #[.slice a1 p c1, .slice a2 q c2] (Sort.grow (redrawn wr d') os)
            fun e w'' => e = .returned (.bool z) ∧ ∃ p : Regrown, w'' = Sort.grow (redrawn wr p.d) p.os := fun d' os => Calls.regrown_of (HMR.out _ (below_regrown wr d' os))
        have g0 := cell_regrown q0
        have g1 := cell_regrown q1
        have g2 := cell_regrown f1
        have g3 := cell_regrown f2
        clear q0 q1 f1 f2
        refine wp_region_quiet_below (by kernel_rfl) (by kernel_rfl) ?_
        repeat (go_big_quiet_step (with_reducible exact cE _ _))
        refine wpQuiet_nil ?_
        intro _ hw'
        obtain ⟨⟨dq, osq⟩, hw''⟩ := hw'
        subst hw''
        clear g0 g1 g2 g3 cE
        have HBZ := Lib.hid (HBR.out.trans ((below_regrown wr dq osq).mono HBR.out.size))
        cases z with
        | true =>
          have HF := Lib.hid (show ∀ j, j < k + 1 → MatchR (r.getD j []) (s.getD j []) from fun j hj => by
            by_cases e : j = k
            · rw [e, ← HX.out, ← HY.out]; exact of_decide_eq_true HZ.out.symm
            · exact HA.out j (by omega))
          go_wp2_with fail
          go_roundw
          case rel => exact ⟨k + 1, by omega, by go_num, HF.out, HBZ.out⟩
          case measure => simp [intOf]; omega
        | false =>
          have HF := Lib.hid (show E = false by rw [HE.out]; exact decide_eq_false (fun h => of_decide_eq_false HZ.out.symm (by rw [HX.out, HY.out]; exact h.2 k (by rw [← HM.out]; exact hlt))))
          go_wp2_with fail
          go_ret
          exact ⟨by rw [HF.out]; rfl, below_next HB.out HBZ.out⟩
      · have hd : decide ((k : Int) < (m : Int)) = false := by simp; omega
        have HF := Lib.hid (show E = true by rw [HE.out]; exact decide_eq_true ⟨by rw [← HN.out, ← HM.out]; exact hl, fun j hj => HA.out j (by rw [← HM.out] at hj; omega)⟩)
        go_wp2_with fail
        go_ret
        exact ⟨by rw [HF.out]; rfl, below_next HB.out HBR.out⟩
  · have hd : decide ((n : Int) < (m : Int)) = true := by simp; omega
    have HF := Lib.hid (show E = false by rw [HE.out]; exact decide_eq_false (fun h => hl (by rw [HN.out, HM.out]; exact h.1)))
    go_enter Tryz.func52, Tryz.ntmps52
    go_wp2_with fail
    go_ret
    exact ⟨by rw [HF.out]; rfl, HB.out⟩

set_option maxRecDepth 100000 in
set_option maxHeartbeats 4000000 in
theorem rmatch_core (a0 b0 : Option Addr) (c d n m : Nat) (r s : Nm) (w : World) (h1 : RLies w a0 r) (h2 : RLies w b0 s) (hn : n = r.length) (hm : m = s.length) (hr : SmallN r) (hs : SmallN s) :
    Calls Tryz.prog 26 #[.agg #[.slice a0 n c], .agg #[.slice b0 m d]] w fun e w' => e = .returned (.bool (decide (MatchN r s))) ∧ Below w.heap.size w w' := by
  have HE := Lib.hid (fun W (hb : Below w.heap.size w W) => rwithin_core a0 b0 c d n m r s W (h1.below hb) (h2.below hb) hn hm hr hs)
  have HB := Lib.hid (belowTwo w (.cells #[.slice a0 n c] 24) (.cells #[.slice b0 m d] 24))
  have hmw := match_within r s
  obtain ⟨E, hE⟩ : ∃ E, E = decide (MatchN r s) := ⟨_, rfl⟩
  obtain ⟨v, hv⟩ : ∃ v, v = decide (WithinN r s) := ⟨_, rfl⟩
  rw [← hv] at HE
  rw [← hE]
  have HEE := Lib.hid hE
  by_cases hl : n = m
  · have HF := Lib.hid (show E = v by
      rw [hE, hv, decide_eq_decide, hmw]
      exact ⟨fun h => h.2, fun h => ⟨by rw [← hn, ← hm]; exact hl, h⟩⟩)
    subst hl
    clear h1 h2 hn hm hr hs hv hE hmw
    go_enter Tryz.func26, Tryz.ntmps26
    go_wp2_with (go_at_call 52; (with_reducible refine (HE.out _ HB.out).mono ?_); rintro e w1 ⟨rfl, hb1⟩; have HB1 := Lib.hid (below_next HB.out hb1); clear hb1)
    go_ret
    exact ⟨by rw [HF.out]; rfl, HB1.out⟩
  · have HF := Lib.hid (show E = false by rw [hE]; exact decide_eq_false (fun h => hl (by rw [hn, hm]; exact h.1)))
    have hd : ((n : Int) == (m : Int)) = false := beq_eq_false_iff_ne.2 (by omega)
    clear h1 h2 hn hm hr hs hv hE hmw hl
    go_enter Tryz.func26, Tryz.ntmps26
    go_wp2_with fail
    go_ret
    exact ⟨by rw [HF.out]; rfl, HB.out⟩
end Go.Proofs.YtfpfgdbfigdooaaGreatDoor
namespace Go.Proofs.YtfpfgdbfigdooaaGreatDoor
open Go.RowKit

set_option maxRecDepth 100000 in
set_option maxHeartbeats 4000000 in
theorem same_core (a0 b0 : Option Addr) (c d n : Nat) (r s : Nm) (w : World) (h1 : RLies w a0 r) (h2 : RLies w b0 s) (hn : n = r.length) (hm : n = s.length) (hr : SmallN r) (hl : ∀ i, i < n → (s.getD i []).length = (r.getD i []).length) (hin : ∀ i, i < n → ∀ x ∈ r.getD i [], x ∈ s.getD i []) :
    Calls Tryz.prog 23 #[.agg #[.slice a0 n c], .agg #[.slice b0 n d]] w fun e w' => e = .returned (.bool true) ∧ Below w.heap.size w w' := by
  obtain ⟨W, hW⟩ : ∃ W, W = (w.alloc (.cells #[.slice a0 n c] 24)).alloc (.cells #[.slice b0 n d] 24) := ⟨_, rfl⟩
  have hwr : (w.alloc (.cells #[.slice a0 n c] 24)).alloc (.cells #[.slice b0 n d] 24) = W := hW.symm
  have hb : Below w.heap.size w W := by rw [hW]; exact belowTwo w _ _
  have k0 : W.cell? ⟨w.heap.size, 0, none⟩ = some (.slice a0 n c) := by
    rw [hW, World.cell?_alloc_old _ _ _ (by simp), cell_of_row _ _ 0 _ _ _ (heap_alloc_new w _)]; rfl
  have k1 : W.cell? ⟨w.heap.size + 1, 0, none⟩ = some (.slice b0 n d) := by
    rw [hW]
    have := cell_of_row (w := (w.alloc (.cells #[.slice a0 n c] 24)).alloc (.cells #[.slice b0 n d] 24)) (w.heap.size + 1) 0 #[.slice b0 n d] 24 (0, 0) (by have := heap_alloc_new (w.alloc (.cells #[.slice a0 n c] 24)) (.cells #[.slice b0 n d] 24); simpa using this)
    rw [this]; rfl
  have HB := Lib.hid hb
  have H1 := Lib.hid (h1.below hb)
  have H2 := Lib.hid (h2.below hb)
  have HN := Lib.hid hn
  have HR := Lib.hid hr
  have HM := Lib.hid hm
  have HLL := Lib.hid hl
  have HIN := Lib.hid hin
  have hns : n ≤ 1000000 := by rw [hn]; exact hr.1
  have hd0 : ((n : Int) != (n : Int)) = false := by simp
  clear h1 h2 hn hr hW hb hm hl hin
  go_enter Tryz.func23, Tryz.ntmps23
  go_wp2_with fail
  have K0 := Lib.hid k0
  have K1 := Lib.hid k1
  obtain ⟨g, hg⟩ : ∃ g, g = w.heap.size := ⟨_, rfl⟩
  have HG := Lib.hid hg
  rw [← hg] at K0 K1 ⊢
  clear hwr k0 k1 hd0 hg
  go_loopw [21] (fun i wr => ∃ k : Nat, k ≤ n ∧ i = .int .i64 k ∧ Below W.heap.size W wr) (fun i _ => n - (intOf i).toNat)
  case atStart => exact ⟨0, Nat.zero_le _, rfl, Below.refl _ _⟩
  case round =>
    obtain ⟨wo, hwo⟩ : ∃ wo, wo = wr := ⟨_, rfl⟩
    subst hwo
    obtain ⟨k, hk, rfl, hb⟩ := hrel
    have HBR := Lib.hid hb
    clear hb
    by_cases hlt : k < n
    · have hd : decide ((k : Int) < (n : Int)) = true := by simp; omega
      obtain ⟨b, o, rfl, hb, a1, c1, e1, _, hL1⟩ := H1.out.at k (by rw [← HN.out]; exact hlt)
      have f1 : wo.cell? ⟨b, o + k, none⟩ = _ := (HBR.out.cell (p := ⟨b, o + k, none⟩) hb).trans e1
      obtain ⟨b', o', rfl, hb', a2, c2, e2, _, hL2⟩ := H2.out.at k (by rw [← HM.out]; exact hlt)
      have f2 : wo.cell? ⟨b', o' + k, none⟩ = _ := (HBR.out.cell (p := ⟨b', o' + k, none⟩) hb').trans e2
      have q0 := (HBR.out.cell (p := ⟨g, 0, none⟩) (block_lt K0.out)).trans K0.out
      have q1 := (HBR.out.cell (p := ⟨g + 1, 0, none⟩) (block_lt K1.out)).trans K1.out
      have hs1 := HR.out.2 k (by rw [← HN.out]; exact hlt)
      obtain ⟨x, hx⟩ : ∃ x, x = r.getD k [] := ⟨_, rfl⟩
      obtain ⟨z, hzz⟩ : ∃ z, z = s.getD k [] := ⟨_, rfl⟩
      have hlz := HLL.out k hlt
      have hiz := HIN.out k hlt
      rw [← hx] at f1 hs1 hL1 hlz hiz
      rw [← hzz] at f2 hL2 hlz hiz
      have HIZ := Lib.hid hiz
      have HLZ := Lib.hid hlz
      obtain ⟨p, hp⟩ : ∃ p, p = x.length := ⟨_, rfl⟩
      rw [← hp] at f1
      rw [hlz, ← hp] at f2
      have hpz : p ≤ 1000000 := by rw [hp]; exact hs1.1
      have HL1 := Lib.hid hL1
      have HL2 := Lib.hid hL2
      have HP := Lib.hid hp
      have HF1 := Lib.hid e1
      have HF2 := Lib.hid e2
      have hdp : ((p : Int) != (p : Int)) = false := by simp
      rw [← hx, ← hp] at HF1
      rw [← hzz, hlz, ← hp] at HF2
      clear e1 e2 hb hb' hs1 hL1 hL2 hx hp hlz hiz hzz
      go_wp2_with fail
      go_region
      go_wp2_with fail
      clear q0 q1 f1 f2 hdp
      have HBD := Lib.hid (HBR.out.trans ((Below.refl wo.heap.size wo).drew.mono HBR.out.size))
      go_loopw [43] (fun i ws => ∃ j : Nat, j ≤ p ∧ i = .int .i64 j ∧ Below W.heap.size W ws) (fun i _ => p - (intOf i).toNat)
      case atStart => exact ⟨0, Nat.zero_le _, rfl, HBD.out⟩
      case round =>
        obtain ⟨ws, hws⟩ : ∃ ws, ws = wr := ⟨_, rfl⟩
        subst hws
        obtain ⟨j, hj, rfl, hb⟩ := hrel
        have HBS := Lib.hid hb
        clear hb
        by_cases hjl : j < p
        · have hdj : decide ((j : Int) < (p : Int)) = true := by simp; omega
          have q1 := (HBS.out.cell (p := ⟨g + 1, 0, none⟩) (block_lt K1.out)).trans K1.out
          have f2 := (HBS.out.cell (p := ⟨b', o' + k, none⟩) (block_lt HF2.out)).trans HF2.out
          obtain ⟨b3, o3, rfl, h3, m0, m1, m2⟩ := HL1.out.at j (by rw [← HP.out]; exact hjl)
          have hmem := HIZ.out _ (memD x j (by rw [← HP.out]; exact hjl) noAt)
          obtain ⟨m, hm1, hm2⟩ := List.getElem_of_mem hmem
          have hm3 : z.getD m noAt = x.getD j noAt := by rw [List.getD_eq_getElem?_getD, List.getElem?_eq_getElem hm1]; exact hm2
          have hmp : m < p := by have := HLZ.out; have := HP.out; omega
          have HM3 := Lib.hid hm3
          have l0 := (HBS.out.cell (p := ⟨b3, o3 + j * 3, none⟩) h3).trans m0
          have l1 := (HBS.out.cell (p := ⟨b3, o3 + j * 3 + 1, none⟩) h3).trans m1
          have l2 := (HBS.out.cell (p := ⟨b3, o3 + j * 3 + 2, none⟩) h3).trans m2
          generalize x.getD j noAt = y at l0 l1 l2 HM3
          obtain ⟨t, kd, v⟩ := y
          simp only at l0 l1 l2
          obtain ⟨G, hG⟩ : ∃ G, G = ws.heap.size := ⟨_, rfl⟩
          obtain ⟨V, hV⟩ : ∃ V, V = ws.alloc (.cells #[.string t, .int .i64 kd, .string v] 27) := ⟨_, rfl⟩
          have hbV : Below ws.heap.size ws V := by rw [hV]; exact belowNew ws _
          obtain ⟨y0, y1, y2, _, _, _, yl⟩ := at_facts (show V.heap[G]? = _ from by rw [hV, hG]; exact heap_alloc_new ws _)
          have HBV := Lib.hid (below_next HBS.out hbV)
          have HY0 := Lib.hid y0
          have HY1 := Lib.hid y1
          have HY2 := Lib.hid y2
          have q1' := (hbV.cell (p := ⟨g + 1, 0, none⟩) (block_lt q1)).trans q1
          have f2' := (hbV.cell (p := ⟨b', o' + k, none⟩) (block_lt f2)).trans f2
          have HVE := Lib.hid hV.symm
          have HGE := Lib.hid hG
          clear m0 m1 m2 h3 hmem hm1 hm2 hm3 hbV hV hG q1 f2
          go_upto_region 11 with fail
          rw [HVE.out, ← HGE.out]
          clear l0 l1 l2
          go_wp2_with fail
          clear q1' f2' y0 y1 y2
          go_loopw [8, 53] (fun f i wt => ∃ (q : Nat) (B : Bool), q ≤ p ∧ f = .bool B ∧ i = .int .i64 q ∧ (m < q → B = true) ∧ Below V.heap.size V wt) (fun _ i _ => p - (intOf i).toNat)
          case atStart => exact ⟨0, false, Nat.zero_le _, rfl, rfl, fun h => absurd h (Nat.not_lt_zero _), Below.refl _ _⟩
          case round =>
            obtain ⟨wt, hwt⟩ : ∃ wt, wt = wr := ⟨_, rfl⟩
            subst hwt
            obtain ⟨q, B, hq, rfl, rfl, hB, hb⟩ := hrel
            have HBT := Lib.hid hb
            have HBB := Lib.hid hB
            clear hb hB
            by_cases hql : q < p
            · have hdq : decide ((q : Int) < (p : Int)) = true := by simp; omega
              obtain ⟨b4, o4, rfl, h4, n0, n1, n2⟩ := HL2.out.at q (by rw [HLZ.out, ← HP.out]; exact hql)
              have hWt : Below W.heap.size W wt := HBV.out.trans (HBT.out.mono HBV.out.size)
              have r0 := (hWt.cell (p := ⟨b4, o4 + q * 3, none⟩) h4).trans n0
              have r1 := (hWt.cell (p := ⟨b4, o4 + q * 3 + 1, none⟩) h4).trans n1
              have r2 := (hWt.cell (p := ⟨b4, o4 + q * 3 + 2, none⟩) h4).trans n2
              have HQM := Lib.hid (show m = q → z.getD q noAt = (t, kd, v) from fun e => by rw [← e]; exact HM3.out)
              generalize z.getD q noAt = y at r0 r1 r2 HQM
              obtain ⟨t5, kd5, v5⟩ := y
              simp only at r0 r1 r2
              have i0 := (HBT.out.cell (p := ⟨G, 0, none⟩) (block_lt HY0.out)).trans HY0.out
              have i1 := (HBT.out.cell (p := ⟨G, 1, none⟩) (block_lt HY1.out)).trans HY1.out
              have i2 := (HBT.out.cell (p := ⟨G, 2, none⟩) (block_lt HY2.out)).trans HY2.out
              obtain ⟨W2, hW2⟩ : ∃ W2, W2 = wt.alloc (.cells #[.string t5, .int .i64 kd5, .string v5] 27) := ⟨_, rfl⟩
              have hb2 : Below wt.heap.size wt W2 := by rw [hW2]; exact belowNew wt _
              obtain ⟨G2, hG2⟩ : ∃ G2, G2 = wt.heap.size := ⟨_, rfl⟩
              obtain ⟨j0, j1, j2, _, _, _, _⟩ := at_facts (show W2.heap[G2]? = _ from by rw [hW2, hG2]; exact heap_alloc_new wt _)
              have i0 := (hb2.cell (p := ⟨G, 0, none⟩) (block_lt i0)).trans i0
              have i1 := (hb2.cell (p := ⟨G, 1, none⟩) (block_lt i1)).trans i1
              have i2 := (hb2.cell (p := ⟨G, 2, none⟩) (block_lt i2)).trans i2
              have HB2 := Lib.hid (below_next HBT.out hb2)
              have HWE2 := Lib.hid hW2.symm
              have HGE2 := Lib.hid hG2
              clear h4 n0 n1 n2 hWt hb2 hW2 hG2
              go_upto_region 15 with fail
              rw [HWE2.out, ← HGE2.out]
              clear r0 r1 r2
              cases B with
              | true =>
                go_wp2_with fail
                go_roundw
                case rel => exact ⟨q + 1, true, by omega, rfl, by go_num, fun _ => rfl, HB2.out⟩
                case measure => simp [intOf]; omega
              | false =>
                by_cases he : (t5, kd5, v5) = (t, kd, v)
                · obtain ⟨rfl, rfl, rfl⟩ : t5 = t ∧ kd5 = kd ∧ v5 = v := by simpa using he
                  clear he
                  go_wp2_with fail
                  go_roundw
                  case rel => exact ⟨q + 1, true, by omega, rfl, by go_num, fun _ => rfl, HB2.out⟩
                  case measure => simp [intOf]; omega
                · have hne : ¬ m = q := fun e => he (HQM.out e)
                  have hmq : m < q + 1 → m < q := fun h => by omega
                  go_wp2_with fail
                  all_goals first
                    | (exact ⟨⟨q + 1, false, by omega, rfl, by go_num, fun h => HBB.out (hmq h), HB2.out⟩, by simp [intOf]; omega⟩)
                    | (exact ⟨⟨q + 1, true, by omega, rfl, by go_num, fun _ => rfl, HB2.out⟩, by simp [intOf]; omega⟩)
                    | (exact absurd (show (t5, kd5, v5) = (t, kd, v) from by rename_i e1 e2 e3; rw [toList_inj.1 e1, e2, toList_inj.1 e3]) he)
                    | (rename_i e1 e2 e3; subst e2; exact ⟨⟨_, _, _, _, _, _, _, _, _, _, _, _, _, ⟨q + 1, false, by omega, rfl, by go_num, fun h => HBB.out (hmq h), HB2.out⟩, rfl⟩, by simp [intOf]; omega⟩)
            · have hdq : decide ((q : Int) < (p : Int)) = false := by simp; omega
              obtain rfl : B = true := HBB.out (by omega)
              go_wp2_with fail
              go_roundw
              case rel => exact ⟨j + 1, by omega, by go_num, HBV.out.trans (HBT.out.mono HBV.out.size)⟩
              case measure => simp [intOf]; omega
        · have hdj : decide ((j : Int) < (p : Int)) = false := by simp; omega
          go_wp2_with fail
          go_roundw
          case rel => exact ⟨k + 1, by omega, by go_num, HBS.out⟩
          case measure => simp [intOf]; omega
    · have hd : decide ((k : Int) < (n : Int)) = false := by simp; omega
      go_wp2_with fail
      go_ret
      exact ⟨rfl, below_next HB.out HBR.out⟩
end Go.Proofs.YtfpfgdbfigdooaaGreatDoor
