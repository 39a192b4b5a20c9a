/-
  The contract of the definition's Reduce.
-/
import Derived.Test.YtofadgmnjckpcaaGreatDoorVbm
import Derived.Test.YtofadgmnjckpcaaGreatDoorVar
namespace Go.Proofs.YtofadgmnjckpcaaGreatDoor
open Go.RowKit

set_option maxRecDepth 100000 in
set_option maxHeartbeats 16000000 in
theorem rreduce_core (Q : Option Addr → Nm → Prop) (a0 : Option Addr) (c m : Nat) (L : List Sub) (w : World) (h : SLiesQ Q w a0 L) (hQ : ∀ V, Below w.heap.size w V → ∀ a n, Q a n → RLies V a n) (hm : m = L.length) (hmm : m ≤ 100) (hz : ∀ s ∈ L, s.1.length ≤ 100 ∧ s.2.length ≤ 100) (hs : SmS L) :
    Calls Tryz.prog 25 #[.agg #[.slice a0 m c]] w fun e w' => ∃ u v x, e = .returned (.agg #[u, v, x]) ∧ OwnZ w' w.heap.size u (limitedG L) ∧ RowQ Q w' w.heap.size v (permG L) ∧ RowQ Q w' w.heap.size x (exclG L) ∧ Below w.heap.size w w' := by
  obtain ⟨i1, hi', hy0, hy1, hy2⟩ := info_parts intInfo
  obtain ⟨W0, hW0⟩ : ∃ W0, W0 = (((w.alloc (.cells #[.slice a0 m c] 24)).alloc (.cells #[.slice none 0 0, .slice none 0 0, .slice none 0 0] 53)).alloc (.cells #[.slice none 0 0, .slice none 0 0, .slice none 0 0] 53)).alloc (.cells #[.int .i64 1, .int .i64 2, .int .i64 4, .int .i64 7] 3) := ⟨_, rfl⟩
  have hwr := hW0.symm
  have hb3 : Below w.heap.size w (((w.alloc (.cells #[.slice a0 m c] 24)).alloc (.cells #[.slice none 0 0, .slice none 0 0, .slice none 0 0] 53)).alloc (.cells #[.slice none 0 0, .slice none 0 0, .slice none 0 0] 53)) := (belowTwo w _ _).alloc (by simp; omega) _
  have hm3 : RdMid Q (.slice a0 m c) w (((w.alloc (.cells #[.slice a0 m c] 24)).alloc (.cells #[.slice none 0 0, .slice none 0 0, .slice none 0 0] 53)).alloc (.cells #[.slice none 0 0, .slice none 0 0, .slice none 0 0] 53)) (w.heap.size + 3) (w.heap.size + 3) (.slice none 0 0) (.slice none 0 0) (.slice none 0 0) [] [] [] :=
    ⟨three_first w _ _ _ _ _ rfl, three_second w _ _ _ _, three_third w _ _ _ _, OwnZ.nil _ _, RowQ.nil _ _ _, RowQ.nil _ _ _, Nat.le_refl _, Nat.le_refl _, by simp, hb3⟩
  have hm4 := hm3.below (belowNew _ (.cells #[.int .i64 1, .int .i64 2, .int .i64 4, .int .i64 7] 3))
  have hkr : KRow w W0 := by
    have h9 := heap_alloc_new (((w.alloc (.cells #[.slice a0 m c] 24)).alloc (.cells #[.slice none 0 0, .slice none 0 0, .slice none 0 0] 53)).alloc (.cells #[.slice none 0 0, .slice none 0 0, .slice none 0 0] 53)) (.cells #[.int .i64 1, .int .i64 2, .int .i64 4, .int .i64 7] 3)
    rw [← hW0] at h9
    have e9 : (((w.alloc (.cells #[.slice a0 m c] 24)).alloc (.cells #[.slice none 0 0, .slice none 0 0, .slice none 0 0] 53)).alloc (.cells #[.slice none 0 0, .slice none 0 0, .slice none 0 0] 53)).heap.size = w.heap.size + 3 := by simp
    rw [e9] at h9
    exact h9
  rw [← hW0] at hm4
  have HM0 := Lib.hid (show RdMid Q (.slice a0 m c) w W0 (w.heap.size + 4) (w.heap.size + 4) (.slice none 0 0) (.slice none 0 0) (.slice none 0 0) [] [] [] from
    ⟨hm4.r0, hm4.r1, hm4.r2, OwnZ.nil _ _, RowQ.nil _ _ _, RowQ.nil _ _ _, by omega, Nat.le_refl _, by rw [hW0]; simp, hm4.bw⟩)
  have HKR0 := Lib.hid hkr
  have HQX := Lib.hid hQ
  have H1 := Lib.hid h
  have HM := Lib.hid hm
  have HZ := Lib.hid hz
  have HS := Lib.hid hs
  clear h hQ hm hz hs hb3 hm3 hm4 hkr hW0
  go_enter Tryz.func25, Tryz.ntmps25
  go_wp2_with fail
  clear hwr
  go_loopw [23] (fun i wr => ∃ (j : Nat) (uL uP : Value), j ≤ 4 ∧ i = .int .i64 (j : Int) ∧ RdMid Q (.slice a0 m c) w wr (w.heap.size + 4) (w.heap.size + 4) uL uP (.slice none 0 0) (limTo L j) (permTo L j) [] ∧ KRow w wr) (fun i _ => 4 - (intOf i).toNat)
  case atStart => exact ⟨0, _, _, by omega, rfl, HM0.out, HKR0.out⟩
  case round =>
    obtain ⟨wz, hwz⟩ : ∃ wz, wz = wr := ⟨_, rfl⟩
    subst hwz
    obtain ⟨j, uL, uP, hj, rfl, hmid, hkr⟩ := hrel
    have HMID := Lib.hid hmid
    have HKR := Lib.hid hkr
    by_cases hlt : j < 4
    · have hd : decide ((j : Int) < 4) = true := by simp; omega
      have hki : (j : Int) < 4 := by omega
      have k0 := hkr.cell j hlt
      obtain ⟨x0, _, lx⟩ := one_facts hmid.r0
      have HLS := Lib.hid (limTo_step L j hlt)
      have HPA := Lib.hid (fun hl => p3_all L j hlt hl)
      have HPN := Lib.hid (fun hl => permTo_no L j hlt hl)
      obtain ⟨K, hK⟩ : ∃ K, K = kindsG.getD j 0 := ⟨_, rfl⟩
      rw [← hK] at HLS HPA HPN k0
      have HLT := Lib.hid hlt
      clear hmid hkr hK
      go_wp2_with fail
      clear k0
      go_loopw [6, 30] (fun v i wr => ∃ (z : Nat) (bl : Bool), z ≤ m ∧ v = .bool bl ∧ i = .int .i64 (z : Int) ∧ bl = (L.take z).any (fun s => limG s.1 K) ∧ Below wz.heap.size wz wr) (fun _ i _ => m - (intOf i).toNat)
      case atStart => exact ⟨0, false, Nat.zero_le _, rfl, rfl, rfl, Below.refl _ _⟩
      case round =>
        obtain ⟨wy, hwy⟩ : ∃ wy, wy = wr := ⟨_, rfl⟩
        subst hwy
        obtain ⟨z, bl, hz, rfl, rfl, hbl, hb⟩ := hrel
        have HBL := Lib.hid hbl
        have HB := Lib.hid hb
        have HMY := Lib.hid (HMID.out.below hb)
        have HKY := Lib.hid (HKR.out.below hb)
        clear hbl hb x0 lx hlt
        by_cases hlt2 : z < m
        · have hd2 : decide ((z : Int) < (m : Int)) = true := by simp; omega
          obtain ⟨b, o, rfl, hbo, a1, c1, a2, c2, e0, e1, ⟨hc1, hL1⟩, hn2, hL2⟩ := H1.out.at z (by rw [← HM.out]; exact hlt2)
          have f0 := (HMY.out.bw.cell (p := ⟨b, o + z * 2, none⟩) hbo).trans e0
          have f1 := (HMY.out.bw.cell (p := ⟨b, o + z * 2 + 1, none⟩) hbo).trans e1
          have hst := any_step L K z (by rw [← HM.out]; exact hlt2)
          have hzk := HZ.out (L.getD z noSub) (by rw [List.getD_eq_getElem?_getD, List.getElem?_eq_getElem (by rw [← HM.out]; exact hlt2)]; exact List.getElem_mem _)
          rw [← HBL.out] at hst
          clear hbo e0 e1
          generalize L.getD z noSub = G at f0 f1 hst hzk hL1 hL2 hc1
          obtain ⟨A, F⟩ := G
          simp only at f0 f1 hL1 hL2 hc1 hst hzk
          obtain ⟨NA, hNA⟩ : ∃ NA, NA = A.length := ⟨_, rfl⟩
          obtain ⟨NB, hNB⟩ : ∃ NB, NB = F.length := ⟨_, rfl⟩
          rw [← hNA] at f0 hzk
          rw [← hNB] at f1
          obtain ⟨W2, hW2⟩ : ∃ W2, W2 = wy.alloc (.cells #[.slice a1 NA c1, .slice a2 NB c2] 27) := ⟨_, rfl⟩
          have hb2 : Below wy.heap.size wy W2 := by rw [hW2]; exact belowNew wy _
          obtain ⟨s0, s1, ls⟩ := two_facts (w := W2) (g := wy.heap.size) (by rw [hW2]; exact heap_alloc_new wy _)
          have hwr := hW2.symm
          have hbw := below_next HMY.out.bw hb2
          have HB2 := Lib.hid (below_next HB.out hb2)
          have HLI := Lib.hid (rlimits_core a1 c1 NA A K W2 ((hL1.below hbw).mono (HQX.out W2 hbw)) hNA (by omega))
          generalize limG A K = y at HLI hst
          have HST := Lib.hid hst
          clear hNA hNB hW2 hb2 hbw hL1 hL2 hc1 hn2 hst hzk HBL
          cases bl with
          | true =>
            go_wp2_with fail
            go_roundw
            case rel => exact ⟨z + 1, true, by omega, rfl, by go_num, by rw [HST.out]; rfl, HB2.out⟩
            case measure => simp [intOf]; omega
          | false =>
            go_wp2_with (go_at_call 34; (with_reducible refine HLI.out.mono ?_); rintro e w3 ⟨rfl, hb3⟩; have HB3 := Lib.hid (below_next HB2.out hb3); clear hb3)
            go_roundw
            case rel => exact ⟨z + 1, y, by omega, rfl, by go_num, by rw [HST.out]; rfl, HB3.out⟩
            case measure => simp [intOf]; omega
        · have hd2 : decide ((z : Int) < (m : Int)) = false := by simp; omega
          obtain rfl : z = m := by omega
          have HBT := Lib.hid (show bl = L.any (fun s => limG s.1 K) by rw [HBL.out, List.take_of_length_le (by rw [← HM.out]; exact Nat.le_refl _)])
          clear HBL HB HMID HKR
          cases bl with
          | false =>
            have HE := Lib.hid (HPN.out HBT.out.symm)
            go_wp2_with fail
            go_roundw
            case rel => exact ⟨j + 1, _, _, HLT.out, by go_num, by rw [HE.out.1, HE.out.2]; exact HMY.out, HKY.out⟩
            case measure => have := HLT.out; simp [intOf]; omega
          | true =>
            have HE := Lib.hid (show limTo L (j + 1) = limTo L j ++ [K] by rw [HLS.out, ← HBT.out]; rfl)
            have HPE := Lib.hid (HPA.out HBT.out.symm)
            obtain ⟨aL, cL, rfl, _, _⟩ := HMY.out.oL.lies
            obtain ⟨ML, hML⟩ : ∃ ML, ML = (limTo L j).length := ⟨_, rfl⟩
            have HML := Lib.hid hML
            have HMLL := Lib.hid (show ML ≤ 4 by rw [hML]; exact limTo_len L j)
            rw [← hML] at HMY
            clear hML
            obtain ⟨y0, y1, y2, z0, z1, z2, ly⟩ := at_facts HMY.out.r2
            have hoL : wy.ownsRow (w.heap.size + 4) 3 1 (.slice aL ML cL) (limTo L j).length ((limTo L j).map (Value.int .i64)) := HMY.out.oL
            rw [← HML.out] at hoL
            have HOL := Lib.hid (own_below hoL (belowNew wy (.cells #[.int .i64 K] 3)))
            clear hoL
            go_upto_region 13 with (at_builtin; (refine wpList_append_own _ rfl (.tmp 45) (.tmp 47) 33 rfl (w.heap.size + 4) 3 i1 (.int .i64 0) 1 8 Tryz.underlying33 hi' hy0 hy1 hy2 rfl (by decide) (.slice aL ML cL) ML ((limTo L j).map (Value.int .i64)) rfl HOL.out ⟨wy.heap.size, 0, none⟩ 1 1 [.int .i64 K] rfl rfl (row_news wy _ _) (one_int K) (by have := HMLL.out; unfold maxLen; omega) (by have := HMLL.out; omega) (by have := HMY.out.bs; simp; omega) ?_); intro v6 w6 hown6 hgr6 _; obtain ⟨a6, c6, rfl, _⟩ := own_formz hown6; obtain ⟨p0, p1, p2, f0, f1, f2, lp⟩ := at_facts ((row_block HOL.out hgr6 (by simp; omega) (by omega)).trans ((HMY.out.below (belowNew wy (.cells #[.int .i64 K] 3))).r2)); have HM6 := Lib.hid ((HMY.out.below (belowNew wy (.cells #[.int .i64 K] 3))).pushL hgr6 (by rw [← HML.out]; exact hown6)); have HK6 := Lib.hid (KRow.push (i := 0) (u := .slice a6 (ML + 1) c6) (HKY.out.below (belowNew wy (.cells #[.int .i64 K] 3))) HOL.out hgr6 (by omega)); clear hown6 hgr6)
            obtain ⟨W7, hW7⟩ : ∃ W7, W7 = w6.setCell ⟨w.heap.size + 2, 0, none⟩ (.slice a6 (ML + 1) c6) := ⟨_, rfl⟩
            rw [← hW7] at HM6 HK6
            try rw [← hW7]
            clear hW7 p0 p1 p2 f0 f1 f2 lp y0 y1 y2 z0 z1 z2 ly
            obtain ⟨x0, _, lx⟩ := one_facts HM6.out.r0
            go_wp2_with fail
            clear x0 lx
            go_loopw [53] (fun i wr => ∃ (i3 : Nat) (uP : Value), i3 ≤ z ∧ i = .int .i64 (i3 : Int) ∧ RdMid Q (.slice a0 z c) w wr (w.heap.size + 4) (w.heap.size + 4) (.slice a6 (ML + 1) c6) uP (.slice none 0 0) (limTo L j ++ [K]) (p3 L j K i3) [] ∧ KRow w wr) (fun i _ => z - (intOf i).toNat)
            case atStart => exact ⟨0, _, Nat.zero_le _, rfl, by rw [p3_zero]; exact HM6.out, HK6.out⟩
            case round =>
              clear HMY HKY HM6 HK6
              obtain ⟨wa, hwa⟩ : ∃ wa, wa = wr := ⟨_, rfl⟩
              subst hwa
              obtain ⟨i3, uP3, hi3, rfl, hma, hka⟩ := hrel
              have HMA := Lib.hid hma
              have HKA := Lib.hid hka
              clear hma hka
              by_cases hlt3 : i3 < z
              · have hd3 : decide ((i3 : Int) < (z : Int)) = true := by simp; omega
                obtain ⟨b, o, rfl, hbo, a1, c1, a2, c2, e0, e1, ⟨hc1, hL1⟩, hn2, hL2⟩ := H1.out.at i3 (by rw [← HM.out]; exact hlt3)
                have f0 := (HMA.out.bw.cell (p := ⟨b, o + i3 * 2, none⟩) hbo).trans e0
                have f1 := (HMA.out.bw.cell (p := ⟨b, o + i3 * 2 + 1, none⟩) hbo).trans e1
                have hst := p4_all L j K i3 (by rw [← HM.out]; exact hlt3)
                have hmem : L.getD i3 noSub ∈ L := by rw [List.getD_eq_getElem?_getD, List.getElem?_eq_getElem (by rw [← HM.out]; exact hlt3)]; exact List.getElem_mem _
                have hzk := HZ.out _ hmem
                have hsk := HS.out _ hmem
                clear hbo e0 e1 hmem
                generalize L.getD i3 noSub = G at f0 f1 hst hzk hsk hL1 hL2 hc1
                obtain ⟨A, F⟩ := G
                simp only at f0 f1 hL1 hL2 hc1 hst hzk hsk
                obtain ⟨NA, hNA⟩ : ∃ NA, NA = A.length := ⟨_, rfl⟩
                obtain ⟨NB, hNB⟩ : ∃ NB, NB = F.length := ⟨_, rfl⟩
                rw [← hNA] at f0 hzk hst
                rw [← hNB] at f1
                obtain ⟨W2, hW2⟩ : ∃ W2, W2 = wa.alloc (.cells #[.slice a1 NA c1, .slice a2 NB c2] 27) := ⟨_, rfl⟩
                have hb2 : Below wa.heap.size wa W2 := by rw [hW2]; exact belowNew wa _
                obtain ⟨s0, s1, ls⟩ := two_facts (w := W2) (g := wa.heap.size) (by rw [hW2]; exact heap_alloc_new wa _)
                have hwr := hW2.symm
                have HM2 := Lib.hid (HMA.out.below hb2)
                have HK2 := Lib.hid (HKA.out.below hb2)
                have HLA := Lib.hid hL1
                have HNA := Lib.hid hNA
                have HST := Lib.hid hst
                have HZK := Lib.hid hzk.1
                have HSK := Lib.hid hsk.1
                clear hNA hNB hW2 hb2 hL1 hL2 hc1 hn2 hst hzk hsk HMA HKA
                go_wp2_with fail
                clear s0 s1 ls hwr f0 f1
                go_loopw [60] (fun i wr => ∃ (k : Nat) (uP : Value), k ≤ NA ∧ i = .int .i64 (k : Int) ∧ RdMid Q (.slice (some ⟨b, o, none⟩) z c) w wr (w.heap.size + 4) (w.heap.size + 4) (.slice a6 (ML + 1) c6) uP (.slice none 0 0) (limTo L j ++ [K]) (p4 L j K i3 A k) [] ∧ KRow w wr) (fun i _ => NA - (intOf i).toNat)
                case atStart => exact ⟨0, _, Nat.zero_le _, rfl, by rw [p4_zero]; exact HM2.out, HK2.out⟩
                case round =>
                  clear HM2 HK2
                  obtain ⟨wb, hwb⟩ : ∃ wb, wb = wr := ⟨_, rfl⟩
                  subst hwb
                  obtain ⟨k, uP4, hk, rfl, hmb, hkb⟩ := hrel
                  have HMB := Lib.hid hmb
                  have HKB := Lib.hid hkb
                  clear hmb hkb
                  by_cases hlt4 : k < NA
                  · have hd4 : decide ((k : Int) < (NA : Int)) = true := by simp; omega
                    have hkA : k < A.length := by rw [← HNA.out]; exact hlt4
                    obtain ⟨bA, oA, rfl, hbA, e0, e1, aq, cq, e2, hcq, hqq⟩ := HLA.out.at k hkA
                    have f0 := (HMB.out.bw.cell (p := ⟨bA, oA + k * 3, none⟩) hbA).trans e0
                    have f1 := (HMB.out.bw.cell (p := ⟨bA, oA + k * 3 + 1, none⟩) hbA).trans e1
                    have f2 := (HMB.out.bw.cell (p := ⟨bA, oA + k * 3 + 2, none⟩) hbA).trans e2
                    have hsm := HSK.out.at hkA
                    have hyes := fun hp => p4_yes L j K i3 A k hkA hp
                    have hno := fun hp => p4_no L j K i3 A k hkA hp
                    clear e0 e1 e2 hbA hkA
                    generalize A.getD k noG = G at f0 f1 f2 hsm hyes hno hcq hqq
                    obtain ⟨q, t, n⟩ := G
                    simp only at f0 f1 f2 hcq hqq
                    obtain ⟨N, hN⟩ : ∃ N, N = n.length := ⟨_, rfl⟩
                    rw [← hN] at f2 hcq
                    have HYES := Lib.hid hyes
                    have HNO := Lib.hid hno
                    have HN := Lib.hid hN
                    have HSM := Lib.hid hsm
                    have HCQ := Lib.hid hcq
                    have HQQ := Lib.hid hqq
                    obtain ⟨W3, hW3⟩ : ∃ W3, W3 = wb.alloc (.cells #[.int .i64 q, .string (strOf t), .slice aq N cq] 32) := ⟨_, rfl⟩
                    have hb3 : Below wb.heap.size wb W3 := by rw [hW3]; exact belowNew wb _
                    obtain ⟨s0, s1, s2, ls⟩ := three_facts (w := W3) (g := wb.heap.size) (by rw [hW3]; exact heap_alloc_new wb _)
                    have hwr := hW3.symm
                    have HM3 := Lib.hid (HMB.out.below hb3)
                    have HK3 := Lib.hid (HKB.out.below hb3)
                    obtain ⟨x0, _, lx⟩ := one_facts HM3.out.r0
                    obtain ⟨E0, hE0⟩ : ∃ E0 : Bool, (q == K) = E0 := ⟨_, rfl⟩
                    have HEV := Lib.hid (show E0 = evTo L K (q, t, n) 0 by rw [evTo_zero, ← hE0]; rfl)
                    have S0 := Lib.hid s0
                    have S1 := Lib.hid s1
                    have S2 := Lib.hid s2
                    have LS := Lib.hid ls
                    clear hyes hno hN hsm hcq hqq hW3 hb3 HMB HKB
                    go_wp2_with fail
                    clear hE0 f0 f1 f2 s0 s1 s2 ls hwr x0 lx
                    go_loopw [13, 71] (fun v i wr => ∃ (i5 : Nat) (b5 : Bool), i5 ≤ z ∧ v = .bool b5 ∧ i = .int .i64 (i5 : Int) ∧ b5 = evTo L K (q, t, n) i5 ∧ Below W3.heap.size W3 wr) (fun _ i _ => z - (intOf i).toNat)
                    case atStart => exact ⟨0, E0, Nat.zero_le _, rfl, rfl, HEV.out, Below.refl _ _⟩
                    case round =>
                      clear HEV
                      obtain ⟨wc, hwc⟩ : ∃ wc, wc = wr := ⟨_, rfl⟩
                      subst hwc
                      obtain ⟨i5, b5, hi5, rfl, rfl, hb5, hbc⟩ := hrel
                      have HBE := Lib.hid hb5
                      have HBC := Lib.hid hbc
                      have hbw5 := below_next HM3.out.bw hbc
                      by_cases hlt5 : i5 < z
                      · have hd5 : decide ((i5 : Int) < (z : Int)) = true := by simp; omega
                        obtain ⟨b', o', ebo, hbo, a15, c15, a25, c25, e0, e1, ⟨hc1, hL1⟩, hn2, hL2⟩ := H1.out.at i5 (by rw [← HM.out]; exact hlt5)
                        obtain ⟨rfl, rfl⟩ : b = b' ∧ o = o' := by simpa using ebo
                        have f0 := (hbw5.cell (p := ⟨b, o + i5 * 2, none⟩) hbo).trans e0
                        have f1 := (hbw5.cell (p := ⟨b, o + i5 * 2 + 1, none⟩) hbo).trans e1
                        have hst := evTo_step L K (q, t, n) i5 (by rw [← HM.out]; exact hlt5)
                        have hmem : L.getD i5 noSub ∈ L := by rw [List.getD_eq_getElem?_getD, List.getElem?_eq_getElem (by rw [← HM.out]; exact hlt5)]; exact List.getElem_mem _
                        have hzk := HZ.out _ hmem
                        have hsk := HS.out _ hmem
                        rw [← HBE.out] at hst
                        clear hbo e0 e1 hmem ebo hb5
                        generalize L.getD i5 noSub = G at f0 f1 hst hzk hsk hL1 hL2 hc1
                        obtain ⟨A5, F5⟩ := G
                        simp only at f0 f1 hL1 hL2 hc1 hst hzk hsk
                        obtain ⟨N5, hN5⟩ : ∃ N5, N5 = A5.length := ⟨_, rfl⟩
                        obtain ⟨NF, hNF⟩ : ∃ NF, NF = F5.length := ⟨_, rfl⟩
                        rw [← hN5] at f0 hzk
                        rw [← hNF] at f1
                        obtain ⟨W4, hW4⟩ : ∃ W4, W4 = wc.alloc (.cells #[.slice a15 N5 c15, .slice a25 NF c25] 27) := ⟨_, rfl⟩
                        have hb4 : Below wc.heap.size wc W4 := by rw [hW4]; exact belowNew wc _
                        obtain ⟨r0, r1, lr⟩ := two_facts (w := W4) (g := wc.heap.size) (by rw [hW4]; exact heap_alloc_new wc _)
                        have hwr := hW4.symm
                        have hbw4 := below_next hbw5 hb4
                        have HB4 := Lib.hid (below_next hbc hb4)
                        have s0 := (HB4.out.cell (p := ⟨wb.heap.size, 0, none⟩) LS.out).trans S0.out
                        have s1 := (HB4.out.cell (p := ⟨wb.heap.size, 1, none⟩) LS.out).trans S1.out
                        have s2 := (HB4.out.cell (p := ⟨wb.heap.size, 2, none⟩) LS.out).trans S2.out
                        have R0 := Lib.hid r0
                        have R1 := Lib.hid r1
                        have LR := Lib.hid lr
                        have HLI := Lib.hid (rlimits_core a15 c15 N5 A5 K W4 ((hL1.below hbw4).mono (HQX.out W4 hbw4)) hN5 (by omega))
                        have HIN := Lib.hid (fun V (hb : Below W4.heap.size W4 V) => rin_core a15 aq c15 N5 cq N A5 q t n V ((hL1.below (below_next hbw4 hb)).mono (HQX.out V (below_next hbw4 hb))) hN5 (by omega) (HQX.out V (below_next hbw4 hb) _ _ HQQ.out) HN.out HSM.out hsk.1)
                        generalize limG A5 K = y at HLI hst
                        generalize inG (q, t, n) A5 = x at HIN hst
                        have HST5 := Lib.hid hst
                        clear hN5 hNF hW4 hb4 hbw4 hL1 hL2 hc1 hn2 hst hzk hsk hbc hbw5 HBE r0 r1 lr
                        cases y with
                        | false =>
                          have HSE := Lib.hid (show b5 = evTo L K (q, t, n) (i5 + 1) by rw [HST5.out]; cases b5 <;> rfl)
                          have r0 := R0.out
                          have r1 := R1.out
                          go_wp2_with (go_at_call 34; (with_reducible refine HLI.out.mono ?_); rintro e w5 ⟨rfl, hb9⟩; have HB9 := Lib.hid (below_next HB4.out hb9); have s0 := (HB9.out.cell (p := ⟨wb.heap.size, 0, none⟩) LS.out).trans S0.out; have s1 := (HB9.out.cell (p := ⟨wb.heap.size, 1, none⟩) LS.out).trans S1.out; have s2 := (HB9.out.cell (p := ⟨wb.heap.size, 2, none⟩) LS.out).trans S2.out; have r0 := (hb9.cell (p := ⟨wc.heap.size, 0, none⟩) LR.out).trans R0.out; have r1 := (hb9.cell (p := ⟨wc.heap.size, 1, none⟩) LR.out).trans R1.out; clear hb9)
                          go_roundw
                          case rel => exact ⟨i5 + 1, b5, by omega, rfl, by go_num, HSE.out, HB9.out⟩
                          case measure => simp [intOf]; omega
                        | true =>
                          cases x with
                          | true =>
                            have HSE := Lib.hid (show b5 = evTo L K (q, t, n) (i5 + 1) by rw [HST5.out]; cases b5 <;> rfl)
                            have r0 := R0.out
                            have r1 := R1.out
                            go_wp2_with (first
                              | (go_at_call 34; (with_reducible refine HLI.out.mono ?_); rintro e w5 ⟨rfl, hb9⟩; have HBX := Lib.hid hb9; have HB9 := Lib.hid (below_next HB4.out hb9); have s0 := (HB9.out.cell (p := ⟨wb.heap.size, 0, none⟩) LS.out).trans S0.out; have s1 := (HB9.out.cell (p := ⟨wb.heap.size, 1, none⟩) LS.out).trans S1.out; have s2 := (HB9.out.cell (p := ⟨wb.heap.size, 2, none⟩) LS.out).trans S2.out; have r0 := (hb9.cell (p := ⟨wc.heap.size, 0, none⟩) LR.out).trans R0.out; have r1 := (hb9.cell (p := ⟨wc.heap.size, 1, none⟩) LR.out).trans R1.out; clear hb9)
                              | (go_at_call 33; (with_reducible refine (HIN.out _ HBX.out).mono ?_); rintro e w7 ⟨rfl, hb7⟩; have HB8 := Lib.hid (below_next HB9.out hb7); clear hb7))
                            go_roundw
                            case rel => exact ⟨i5 + 1, b5, by omega, rfl, by go_num, HSE.out, HB8.out⟩
                            case measure => simp [intOf]; omega
                          | false =>
                            have HSE := Lib.hid (show false = evTo L K (q, t, n) (i5 + 1) by rw [HST5.out]; cases b5 <;> rfl)
                            have r0 := R0.out
                            have r1 := R1.out
                            go_wp2_with (first
                              | (go_at_call 34; (with_reducible refine HLI.out.mono ?_); rintro e w5 ⟨rfl, hb9⟩; have HBX := Lib.hid hb9; have HB9 := Lib.hid (below_next HB4.out hb9); have s0 := (HB9.out.cell (p := ⟨wb.heap.size, 0, none⟩) LS.out).trans S0.out; have s1 := (HB9.out.cell (p := ⟨wb.heap.size, 1, none⟩) LS.out).trans S1.out; have s2 := (HB9.out.cell (p := ⟨wb.heap.size, 2, none⟩) LS.out).trans S2.out; have r0 := (hb9.cell (p := ⟨wc.heap.size, 0, none⟩) LR.out).trans R0.out; have r1 := (hb9.cell (p := ⟨wc.heap.size, 1, none⟩) LR.out).trans R1.out; clear hb9)
                              | (go_at_call 33; (with_reducible refine (HIN.out _ HBX.out).mono ?_); rintro e w7 ⟨rfl, hb7⟩; have HB8 := Lib.hid (below_next HB9.out hb7); clear hb7))
                            go_roundw
                            case rel => exact ⟨i5 + 1, false, by omega, rfl, by go_num, HSE.out, HB8.out⟩
                            case measure => simp [intOf]; omega
                      · have hd5 : decide ((i5 : Int) < (z : Int)) = false := by simp; omega
                        have hi5z : i5 = z := by omega
                        have HEA := Lib.hid (show b5 = everyG L K (q, t, n) by rw [HBE.out, ← evTo_all, ← HM.out, hi5z])
                        have HMC := Lib.hid (HM3.out.below hbc)
                        have HKC := Lib.hid (HK3.out.below hbc)
                        have s0 := (hbc.cell (p := ⟨wb.heap.size, 0, none⟩) LS.out).trans S0.out
                        have s1 := (hbc.cell (p := ⟨wb.heap.size, 1, none⟩) LS.out).trans S1.out
                        have s2 := (hbc.cell (p := ⟨wb.heap.size, 2, none⟩) LS.out).trans S2.out
                        clear hb5 hbc hbw5 hi5z HBE HM3 HK3 HBC
                        cases b5 with
                        | false =>
                          have HSE := Lib.hid (HNO.out HEA.out.symm)
                          have hna := HZK.out
                          go_wp2_with fail
                          go_roundw
                          case rel => exact ⟨k + 1, _, by omega, by go_num, by rw [HSE.out]; exact HMC.out, HKC.out⟩
                          case measure => simp [intOf]; omega
                        | true =>
                          have HSE := Lib.hid (HYES.out HEA.out.symm)
                          obtain ⟨PX, hPX⟩ : ∃ PX, PX = p4 L j K i3 A k := ⟨_, rfl⟩
                          have HPX := Lib.hid hPX
                          have HPL := Lib.hid (show PX.length ≤ 60000 by rw [hPX]; exact p4_len L j K i3 A k z (by rw [← HNA.out]; exact HZK.out) hmm HM.out HZ.out)
                          have HPS := Lib.hid (show SmL PX by rw [hPX]; exact p4_sm HS.out j K i3 HSK.out k)
                          rw [← hPX] at HMC HSE
                          obtain ⟨aP, cP, hvP, _⟩ := HMC.out.oP.lies'
                          subst hvP
                          obtain ⟨MP, hMP⟩ : ∃ MP, MP = PX.length := ⟨_, rfl⟩
                          have HMP := Lib.hid hMP
                          rw [← hMP] at HMC HPL
                          have HADD := Lib.hid (radd_core Q aP aq cP MP cq N (w.heap.size + 4) PX q t n wc (fun V hV => HQX.out V (below_next HMC.out.bw hV)) HMC.out.bs HMC.out.oP hMP (by have := HPL.out; omega) HQQ.out HN.out HCQ.out HSM.out HPS.out)
                          obtain ⟨PY, hPY⟩ : ∃ PY, PY = addG PX (q, t, n) := ⟨_, rfl⟩
                          rw [← hPY] at HADD HSE
                          obtain ⟨MY, hMY⟩ : ∃ MY, MY = PY.length := ⟨_, rfl⟩
                          have HMY9 := Lib.hid hMY
                          obtain ⟨y0, y1, y2, z0, z1, z2, ly⟩ := at_facts HMC.out.r2
                          obtain ⟨ss, hv1, hv2, hv3⟩ := HMC.out.oP
                          have HV2 := Lib.hid hv2
                          clear hPX hMP hPY hMY hv1 hv2 hv3
                          have hna := HZK.out
                          go_wp2_with (go_at_call 44; (with_reducible refine HADD.out.mono ?_); rintro e w9 ⟨v9, rfl, hr9, hg9⟩; obtain ⟨a9, c9, hv9, _⟩ := hr9.lies'; rw [← HMY9.out] at hv9; subst hv9; obtain ⟨p0, p1, p2, g0, g1, g2, lp⟩ := at_facts ((row_block HV2.out hg9 ly (by omega)).trans HMC.out.r2); have HM9 := Lib.hid (HMC.out.pushP HV2.out hg9 hr9); have HK9 := Lib.hid (KRow.push (i := 1) (u := .slice a9 MY c9) HKC.out HV2.out hg9 (by omega)); clear hr9 hg9)
                          go_roundw
                          case rel => exact ⟨k + 1, _, by omega, by go_num, by rw [HSE.out]; exact HM9.out, HK9.out⟩
                          case measure => simp [intOf]; omega
                  · have hd4 : decide ((k : Int) < (NA : Int)) = false := by simp; omega
                    obtain rfl : k = NA := by omega
                    go_wp2_with fail
                    go_roundw
                    case rel => exact ⟨i3 + 1, _, by omega, by go_num, by rw [← HST.out]; exact HMB.out, HKB.out⟩
                    case measure => simp [intOf]; omega
              · have hd3 : decide ((i3 : Int) < (z : Int)) = false := by simp; omega
                obtain rfl : i3 = z := by omega
                go_wp2_with fail
                go_roundw
                case rel => exact ⟨j + 1, _, _, HLT.out, by go_num, by rw [HE.out, ← HPE.out, ← HM.out]; exact HMA.out, HKA.out⟩
                case measure => have := HLT.out; simp [intOf]; omega
    · have hd : decide ((j : Int) < 4) = false := by simp; omega
      obtain rfl : j = 4 := by omega
      rw [show ((4 : Nat) : Int) = 4 from rfl] at hd ⊢
      obtain ⟨x0, _, lx⟩ := one_facts hmid.r0
      have HUB := Lib.hid hmid.oP.block
      obtain ⟨B2, hB2⟩ : ∃ B2, B2 = wz.heap.size := ⟨_, rfl⟩
      have HM4 := Lib.hid (show RdMid Q (.slice a0 m c) w wz (w.heap.size + 4) B2 uL uP (.slice none 0 0) (limTo L 4) (permTo L 4) (excTo L 0) from
        ⟨hmid.r0, hmid.r1, hmid.r2, hmid.oL, hmid.oP, RowQ.nil _ _ _, hmid.b1, by rw [hB2]; exact hmid.bs, hmid.bs, hmid.bw⟩)
      obtain ⟨PP, hPP⟩ : ∃ PP, PP = permTo L 4 := ⟨_, rfl⟩
      have HPP := Lib.hid hPP
      rw [← hPP] at HM4
      rw [← hB2] at HUB
      have HBS := Lib.hid (show B2 ≤ wz.heap.size by rw [hB2]; exact Nat.le_refl _)
      have HB1 := Lib.hid (show w.heap.size + 4 ≤ B2 by rw [hB2]; exact hmid.bs)
      clear hPP hB2 hmid HMID hkr HKR
      go_wp2_with fail
      clear x0 lx
      go_loopw [99] (fun i wr => ∃ (i6 : Nat) (uE : Value), i6 ≤ m ∧ i = .int .i64 (i6 : Int) ∧ RdMid Q (.slice a0 m c) w wr (w.heap.size + 4) B2 uL uP uE (limTo L 4) PP (excTo L i6) ∧ B2 ≤ wr.heap.size) (fun i _ => m - (intOf i).toNat)
      case atStart => exact ⟨0, _, Nat.zero_le _, rfl, HM4.out, HBS.out⟩
      case round =>
        clear HM4 HBS
        obtain ⟨wa, hwa⟩ : ∃ wa, wa = wr := ⟨_, rfl⟩
        subst hwa
        obtain ⟨i3, uE3, hi3, rfl, hma, hba⟩ := hrel
        have HMA := Lib.hid hma
        have HBA := Lib.hid hba
        clear hma hba
        by_cases hlt3 : i3 < m
        · have hd3 : decide ((i3 : Int) < (m : Int)) = true := by simp; omega
          obtain ⟨b, o, rfl, hbo, a1, c1, a2, c2, e0, e1, ⟨hc1, hL1⟩, hn2, hL2⟩ := H1.out.at i3 (by rw [← HM.out]; exact hlt3)
          have f0 := (HMA.out.bw.cell (p := ⟨b, o + i3 * 2, none⟩) hbo).trans e0
          have f1 := (HMA.out.bw.cell (p := ⟨b, o + i3 * 2 + 1, none⟩) hbo).trans e1
          have hst := e4_all L i3 (by rw [← HM.out]; exact hlt3)
          have hmem : L.getD i3 noSub ∈ L := by rw [List.getD_eq_getElem?_getD, List.getElem?_eq_getElem (by rw [← HM.out]; exact hlt3)]; exact List.getElem_mem _
          have hzk := HZ.out _ hmem
          have hsk := HS.out _ hmem
          clear hbo e0 e1 hmem
          generalize L.getD i3 noSub = G at f0 f1 hst hzk hsk hL1 hL2 hc1
          obtain ⟨A, F⟩ := G
          simp only at f0 f1 hL1 hL2 hc1 hst hzk hsk
          obtain ⟨NA, hNA⟩ : ∃ NA, NA = A.length := ⟨_, rfl⟩
          obtain ⟨NB, hNB⟩ : ∃ NB, NB = F.length := ⟨_, rfl⟩
          rw [← hNA] at f0
          rw [← hNB] at f1 hzk hst
          obtain ⟨W2, hW2⟩ : ∃ W2, W2 = wa.alloc (.cells #[.slice a1 NA c1, .slice a2 NB c2] 27) := ⟨_, rfl⟩
          have hb2 : Below wa.heap.size wa W2 := by rw [hW2]; exact belowNew wa _
          obtain ⟨s0, s1, ls⟩ := two_facts (w := W2) (g := wa.heap.size) (by rw [hW2]; exact heap_alloc_new wa _)
          have hwr := hW2.symm
          have HM2 := Lib.hid (HMA.out.below hb2)
          have HBB := Lib.hid (Nat.le_trans HBA.out hb2.size)
          have HLA := Lib.hid hL2
          have HNB := Lib.hid hNB
          have HST := Lib.hid hst
          have HZK := Lib.hid hzk.2
          have HSK := Lib.hid hsk.2
          clear hNA hNB hW2 hb2 hL1 hL2 hc1 hn2 hst hzk hsk HMA HBA
          go_wp2_with fail
          clear s0 s1 ls hwr f0 f1
          go_loopw [106] (fun i wr => ∃ (k : Nat) (uE : Value), k ≤ NB ∧ i = .int .i64 (k : Int) ∧ RdMid Q (.slice (some ⟨b, o, none⟩) m c) w wr (w.heap.size + 4) B2 uL uP uE (limTo L 4) PP (e4 L i3 F k) ∧ B2 ≤ wr.heap.size) (fun i _ => NB - (intOf i).toNat)
          case atStart => exact ⟨0, _, Nat.zero_le _, rfl, by rw [e4_zero]; exact HM2.out, HBB.out⟩
          case round =>
            clear HM2 HBB
            obtain ⟨wb, hwb⟩ : ∃ wb, wb = wr := ⟨_, rfl⟩
            subst hwb
            obtain ⟨k, uE4, hk, rfl, hmb, hbb⟩ := hrel
            have HMB := Lib.hid hmb
            have HBB := Lib.hid hbb
            clear hmb hbb
            by_cases hlt4 : k < NB
            · have hd4 : decide ((k : Int) < (NB : Int)) = true := by simp; omega
              have hkA : k < F.length := by rw [← HNB.out]; exact hlt4
              obtain ⟨bA, oA, rfl, hbA, e0, e1, aq, cq, e2, hcq, hqq⟩ := HLA.out.at k hkA
              have f0 := (HMB.out.bw.cell (p := ⟨bA, oA + k * 3, none⟩) hbA).trans e0
              have f1 := (HMB.out.bw.cell (p := ⟨bA, oA + k * 3 + 1, none⟩) hbA).trans e1
              have f2 := (HMB.out.bw.cell (p := ⟨bA, oA + k * 3 + 2, none⟩) hbA).trans e2
              have hsm := HSK.out.at hkA
              have hstep := e4_step L i3 F k hkA
              clear e0 e1 e2 hbA hkA
              generalize F.getD k noG = G at f0 f1 f2 hsm hstep hcq hqq
              obtain ⟨q, t, n⟩ := G
              simp only at f0 f1 f2 hcq hqq
              obtain ⟨N, hN⟩ : ∃ N, N = n.length := ⟨_, rfl⟩
              rw [← hN] at f2 hcq
              obtain ⟨W3, hW3⟩ : ∃ W3, W3 = wb.alloc (.cells #[.int .i64 q, .string (strOf t), .slice aq N cq] 32) := ⟨_, rfl⟩
              have hb3 : Below wb.heap.size wb W3 := by rw [hW3]; exact belowNew wb _
              obtain ⟨s0, s1, s2, ls⟩ := three_facts (w := W3) (g := wb.heap.size) (by rw [hW3]; exact heap_alloc_new wb _)
              have hwr := hW3.symm
              obtain ⟨PX, hPX⟩ : ∃ PX, PX = e4 L i3 F k := ⟨_, rfl⟩
              have HPL := Lib.hid (show PX.length ≤ 20000 by rw [hPX]; exact e4_len L i3 F k m (by rw [← HNB.out]; exact HZK.out) hmm HM.out HZ.out)
              have HPS := Lib.hid (show SmL PX by rw [hPX]; exact e4_sm HS.out i3 HSK.out k)
              rw [← hPX] at HMB hstep
              have HSE := Lib.hid hstep
              obtain ⟨aP, cP, hvP, _⟩ := HMB.out.oE.lies'
              subst hvP
              obtain ⟨MP, hMP⟩ : ∃ MP, MP = PX.length := ⟨_, rfl⟩
              rw [← hMP] at HMB HPL
              have HMC := Lib.hid (HMB.out.below hb3)
              have HBC := Lib.hid (Nat.le_trans HBB.out hb3.size)
              have HADD := Lib.hid (radd_core Q aP aq cP MP cq N B2 PX q t n W3 (fun V hV => HQX.out V (below_next HMC.out.bw hV)) HBC.out HMC.out.oE hMP (by have := HPL.out; omega) hqq hN hcq hsm HPS.out)
              obtain ⟨PY, hPY⟩ : ∃ PY, PY = addG PX (q, t, n) := ⟨_, rfl⟩
              rw [← hPY] at HADD HSE
              obtain ⟨MY, hMY⟩ : ∃ MY, MY = PY.length := ⟨_, rfl⟩
              have HMY9 := Lib.hid hMY
              obtain ⟨y0, y1, y2, z0, z1, z2, ly⟩ := at_facts HMC.out.r2
              obtain ⟨ss, hv1, hv2, hv3⟩ := HMC.out.oE
              have HV2 := Lib.hid hv2
              clear hPX hMP hPY hMY hv1 hv2 hv3 hstep hN hsm hcq hqq hW3 hb3 HMB HBB
              have hna := HZK.out
              go_wp2_with (go_at_call 44; (with_reducible refine HADD.out.mono ?_); rintro e w9 ⟨v9, rfl, hr9, hg9⟩; obtain ⟨a9, c9, hv9, _⟩ := hr9.lies'; rw [← HMY9.out] at hv9; subst hv9; obtain ⟨p0, p1, p2, g0, g1, g2, lp⟩ := at_facts ((row_block HV2.out hg9 ly (by have := HB1.out; omega)).trans HMC.out.r2); have HM9 := Lib.hid (HMC.out.pushE HUB.out HV2.out hg9 hr9); have HB9 := Lib.hid (Nat.le_trans HBC.out hg9.size); clear hr9 hg9)
              go_roundw
              case rel => exact ⟨k + 1, _, by omega, by go_num, by rw [HSE.out]; exact HM9.out, Nat.le_trans HB9.out (But.set (w.heap.size + 2) 2 w9 _).size⟩
              case measure => simp [intOf]; omega
            · have hd4 : decide ((k : Int) < (NB : Int)) = false := by simp; omega
              obtain rfl : k = NB := by omega
              go_wp2_with fail
              go_roundw
              case rel => exact ⟨i3 + 1, _, by omega, by go_num, by rw [← HST.out]; exact HMB.out, HBB.out⟩
              case measure => simp [intOf]; omega
        · have hd3 : decide ((i3 : Int) < (m : Int)) = false := by simp; omega
          obtain rfl : i3 = m := by omega
          obtain ⟨aL, cL, rfl, _, _⟩ := HMA.out.oL.lies
          obtain ⟨aP, cP, hvP, _⟩ := HMA.out.oP.lies'
          subst hvP
          obtain ⟨aE, cE, hvE, _⟩ := HMA.out.oE.lies'
          subst hvE
          obtain ⟨NL, hNL⟩ : ∃ NL, NL = (limTo L 4).length := ⟨_, rfl⟩
          obtain ⟨MP, hMP⟩ : ∃ MP, MP = PP.length := ⟨_, rfl⟩
          obtain ⟨ME, hME⟩ : ∃ ME, ME = (excTo L i3).length := ⟨_, rfl⟩
          rw [← hNL, ← hMP, ← hME] at HMA
          obtain ⟨y0, y1, y2, z0, z1, z2, _⟩ := at_facts HMA.out.r2
          obtain ⟨p0, p1, p2, f0, f1, f2, lp⟩ := at_facts (show wa.heap[w.heap.size + 1]? = some (.cells #[.slice none 0 0, .slice none 0 0, .slice none 0 0] 53 (0, 0)) from HMA.out.r1)
          clear hNL hMP hME
          go_wp2_with fail
          have hs := ((But.set (w.heap.size + 1) 0 wa (.slice aL NL cL)).next (But.set (w.heap.size + 1) 1 _ (.slice aP MP cP))).next (But.set (w.heap.size + 1) 2 _ (.slice aE ME cE))
          exact bodyPost_ret (rdRes rfl _ _ _ _ _ _ rfl (set3_c (set3_b (set3_a HMA.out.r1)))) rfl ⟨_, _, _, rfl, own_base (own_apart HMA.out.oL HMA.out.r1 (by decide) hs) (by omega), by
            rw [← permTo_all, ← HPP.out]
            exact (HMA.out.oP.apart HMA.out.r1 (by decide) hs).base (by omega), by
            rw [← excTo_all, ← HM.out]
            exact (HMA.out.oE.apart HMA.out.r1 (by decide) hs).base (by have := HB1.out; omega), below_set (below_set (below_set HMA.out.bw (by omega)) (by omega)) (by omega)⟩
end Go.Proofs.YtofadgmnjckpcaaGreatDoor
