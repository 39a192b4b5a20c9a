/-
  The contract of Reduce of package subtree.
  How long the rows of a reduced state are, and what lies in them. Nothing is claimed of the program here.
  What the definition's Reduce goes through: the lists of each round, their lengths. Nothing is claimed of the program here.
-/
import Derived.Test.YtofadgmnjckpcaaGreatDoorVbl
import Derived.Test.YtofadgmnjckpcaaGreatDoorVbj
namespace Go.Proofs.YtofadgmnjckpcaaGreatDoor
open Go.RowKit

set_option maxRecDepth 100000 in
set_option maxHeartbeats 8000000 in
theorem reduce_core (Q : Option Addr → Nm → Prop) (a0 : Option Addr) (c m : Nat) (L : List Sub) (w : World) (h : SLiesQ Q w a0 L) (hQ : ∀ V, Below w.heap.size w V → ∀ a n, Q a n → RLies V a n) (hm : m = L.length) (hmm : m ≤ 100) (hz : ∀ s ∈ L, s.1.length ≤ 100 ∧ s.2.length ≤ 100) (hs : SmS L) (hmk : Mk w) (hsk : SkT w) :
    Calls Tryz.prog 24 #[.agg #[.slice a0 m c]] w fun e w' => ∃ u v x, e = .returned (.agg #[u, v, x]) ∧ OwnZ w' w.heap.size u (limitedG L) ∧ OwnG w' w.heap.size v (permG L) ∧ OwnG w' w.heap.size x (exclG L) ∧ Below w.heap.size w w' := by
  obtain ⟨i0, hi, hz0, hz1, hz2⟩ := info_parts gInfo
  obtain ⟨i1, hi', hy0, hy1, hy2⟩ := info_parts intInfo
  obtain ⟨W0, hW0⟩ : ∃ W0, W0 = ((w.alloc (.cells #[.slice a0 m c] 24)).alloc (.cells #[.slice none 0 0, .slice none 0 0, .slice none 0 0] 53)).alloc (.cells #[.slice none 0 0, .slice none 0 0, .slice none 0 0] 53) := ⟨_, rfl⟩
  have hwr := hW0.symm
  have hb0 : Below w.heap.size w W0 := by rw [hW0]; exact (belowTwo w _ _).alloc (by simp; omega) _
  have HM0 := Lib.hid (show RdMid Q (.slice a0 m c) w W0 (w.heap.size + 3) (w.heap.size + 3) (.slice none 0 0) (.slice none 0 0) (.slice none 0 0) [] [] [] from
    ⟨by rw [hW0]; exact three_first w _ _ _ _ _ rfl, by rw [hW0]; exact three_second w _ _ _ _, by rw [hW0]; exact three_third w _ _ _ _, OwnZ.nil _ _, RowQ.nil _ _ _, RowQ.nil _ _ _, Nat.le_refl _, Nat.le_refl _, by rw [hW0]; simp, hb0⟩)
  obtain ⟨t0, t1, t2, t3⟩ := (hsk.below hb0).cells
  have H1 := Lib.hid h
  have HQ := Lib.hid hQ
  have HM := Lib.hid hm
  have HZ := Lib.hid hz
  have HS := Lib.hid hs
  have HK := Lib.hid hmk
  clear h hQ hm hz hs hmk hsk hb0 hW0
  go_enter Tryz.func24, Tryz.ntmps24
  go_wp2_with fail
  clear hwr t0 t1 t2 t3
  go_loopw [10] (fun i wr => ∃ (j : Nat) (uL uP : Value), j ≤ 4 ∧ i = .int .i64 (j : Int) ∧ RdMid Q (.slice a0 m c) w wr (w.heap.size + 3) (w.heap.size + 3) uL uP (.slice none 0 0) (limTo L j) ((limTo L j).flatMap (kindG L)) []) (fun i _ => 4 - (intOf i).toNat)
  case atStart => exact ⟨0, _, _, by omega, rfl, HM0.out⟩
  case round =>
    obtain ⟨wz, hwz⟩ : ∃ wz, wz = wr := ⟨_, rfl⟩
    subst hwz
    obtain ⟨j, uL, uP, hj, rfl, hmid⟩ := hrel
    have HMID := Lib.hid hmid
    by_cases hlt : j < 4
    · have hd : decide ((j : Int) < 4) = true := by simp; omega
      have HIX := fun W => index_sk j hlt W
      obtain ⟨x0, _, lx⟩ := one_facts hmid.r0
      have HLS := Lib.hid (limTo_step L j hlt)
      obtain ⟨K, hK⟩ : ∃ K, K = kindsG.getD j 0 := ⟨_, rfl⟩
      rw [← hK] at HIX HLS
      have HPO := Lib.hid (permof_core Q a0 c m L K wz (H1.out.below hmid.bw) HM.out (by omega) (fun s hs => Nat.le_trans (HZ.out s hs).1 (by omega)))
      obtain ⟨X, hX⟩ : ∃ X, X = plist L K := ⟨_, rfl⟩
      have HX := Lib.hid hX
      rw [← hX] at HPO
      have HAN := Lib.hid (show decide (0 < X.length) = L.any (fun s => limG s.1 K) by rw [hX]; exact plist_any L K)
      obtain ⟨NX, hNX⟩ : ∃ NX, NX = X.length := ⟨_, rfl⟩
      have HNX := Lib.hid hNX
      rw [← hNX] at HAN
      have HLT := Lib.hid hlt
      clear hmid hX hK hlt
      by_cases hne : NX = 0
      · have h1 : decide ((NX : Int) > 0) = false := by simp; omega
        have h2 : decide (0 < NX) = false := by simp; omega
        have h3 : decide ((0 : Int) < (NX : Int)) = false := by simp; omega
        have HE := Lib.hid (show limTo L (j + 1) = limTo L j by rw [HLS.out, ← HAN.out, h2]; exact List.append_nil _)
        clear hNX hne
        go_wp2_with (go_at_call 39; (with_reducible refine HPO.out.mono ?_); rintro e w5 ⟨v5, rfl, hr5, hb5⟩; obtain ⟨a5, c5, rfl, _, _⟩ := hr5.lies; rw [← HNX.out]; have HB5 := Lib.hid hb5; clear hr5 hb5)
        go_roundw
        case rel => exact ⟨j + 1, _, _, HLT.out, by go_num, by rw [HE.out]; exact HMID.out.below HB5.out⟩
        case measure => have := HLT.out; simp [intOf]; omega
      · have h1 : decide ((NX : Int) > 0) = true := by simp; omega
        have h2 : decide (0 < NX) = true := by simp; omega
        have h3 : decide ((0 : Int) < (NX : Int)) = true := by simp; omega
        have HE := Lib.hid (show limTo L (j + 1) = limTo L j ++ [K] by rw [HLS.out, ← HAN.out, h2]; rfl)
        clear hNX hne
        obtain ⟨aL, cL, rfl, _, _⟩ := HMID.out.oL.lies
        obtain ⟨ML, hML⟩ : ∃ ML, ML = (limTo L j).length := ⟨_, rfl⟩
        have HML := Lib.hid hML
        have HMLL := Lib.hid (show ML ≤ 4 by rw [hML]; exact limTo_len L j)
        rw [← hML] at HMID
        clear hML
        go_upto_region 7 with (go_at_call 39; (with_reducible refine HPO.out.mono ?_); rintro e w5 ⟨v5, rfl, hr5, hb5⟩; obtain ⟨a5, c5, rfl, _, _⟩ := hr5.lies; rw [← HNX.out] at hr5 ⊢; have HM5 := Lib.hid (HMID.out.below hb5); have HR5 := Lib.hid hr5; clear hr5 hb5)
        obtain ⟨y0, y1, y2, z0, z1, z2, ly⟩ := at_facts HM5.out.r2
        have hoL : w5.ownsRow (w.heap.size + 3) 3 1 (.slice aL ML cL) (limTo L j).length ((limTo L j).map (Value.int .i64)) := HM5.out.oL
        rw [← HML.out] at hoL
        have HOL := Lib.hid (own_below hoL (belowNew w5 (.cells #[.int .i64 K] 3)))
        clear hoL
        go_upto_region 8 with (at_builtin; (refine wpList_append_own _ rfl (.tmp 20) (.tmp 22) 33 rfl (w.heap.size + 3) 3 i1 (.int .i64 0) 1 8 Tryz.underlying33 hi' hy0 hy1 hy2 rfl (by decide) (.slice aL ML cL) ML ((limTo L j).map (Value.int .i64)) rfl HOL.out ⟨w5.heap.size, 0, none⟩ 1 1 [.int .i64 K] rfl rfl (row_news w5 _ _) (one_int K) (by have := HMLL.out; unfold maxLen; omega) (by have := HMLL.out; omega) (by have := HM5.out.bs; simp; omega) ?_); intro v6 w6 hown6 hgr6 _; obtain ⟨a6, c6, rfl, _⟩ := own_formz hown6; obtain ⟨p0, p1, p2, f0, f1, f2, lp⟩ := at_facts ((row_block HOL.out hgr6 (by simp; omega) (by omega)).trans ((HM5.out.below (belowNew w5 (.cells #[.int .i64 K] 3))).r2)); have HM6 := Lib.hid ((HM5.out.below (belowNew w5 (.cells #[.int .i64 K] 3))).pushL hgr6 (by rw [← HML.out]; exact hown6)); have HR6 := Lib.hid (RdMid.rowL (u' := .slice a6 (ML + 1) c6) (HM5.out.below (belowNew w5 (.cells #[.int .i64 K] 3))) hgr6 (HR5.out.below (belowNew w5 (.cells #[.int .i64 K] 3)))); clear hown6 hgr6)
        obtain ⟨W7, hW7⟩ : ∃ W7, W7 = w6.setCell ⟨w.heap.size + 2, 0, none⟩ (.slice a6 (ML + 1) c6) := ⟨_, rfl⟩
        rw [← hW7] at HM6 HR6
        try rw [← hW7]
        clear hW7 p0 p1 p2 f0 f1 f2 lp y0 y1 y2 z0 z1 z2 ly x0 lx
        obtain ⟨y0, y1, y2, z0, z1, z2, ly⟩ := at_facts HM6.out.r2
        obtain ⟨PJ, hPJ⟩ : ∃ PJ, PJ = (limTo L j).flatMap (kindG L) := ⟨_, rfl⟩
        have HPJ := Lib.hid hPJ
        have HPL := Lib.hid (show PJ.length ≤ 40000 by rw [hPJ]; exact rawlen L j m hmm HM.out HZ.out)
        rw [← hPJ] at HM6
        clear hPJ
        obtain ⟨aP, cP, hvP, _⟩ := HM6.out.oP.lies'
        subst hvP
        obtain ⟨MP, hMP⟩ : ∃ MP, MP = PJ.length := ⟨_, rfl⟩
        have HMP := Lib.hid hMP
        rw [← hMP] at HM6 HPL y1
        clear hMP
        obtain ⟨KK, hKK⟩ : ∃ KK, KK = kindG L K := ⟨_, rfl⟩
        have HKK := Lib.hid hKK
        have HKL := Lib.hid (show KK.length ≤ 10000 by rw [hKK]; exact kindlen L K m hmm HM.out HZ.out)
        have HWI := Lib.hid (fun W (hb : Below W7.heap.size W7 W) => within_core' Q a5 c5 NX X W (by
            obtain ⟨a', c', e', _, hl⟩ := (HR6.out.below hb).lies
            rw [(slice_inj e').1]; exact hl) (fun V hV a n hq => HQ.out V (below_next (below_next HM6.out.bw hb) hV) a n hq) HNX.out (by
            have h1 := plist_len L K
            rw [← HX.out, ← HNX.out, ← HM.out] at h1; omega) (fun l hl => plist_ne (by rw [HX.out] at hl; exact hl)) (by rw [HX.out, plist_flat]; exact flatlen L K m hmm HM.out HZ.out) (fun x hx => by
            rw [HX.out] at hx
            obtain ⟨s, hs, rfl⟩ := plist_mem hx
            exact ⟨fun g hg => (HS.out s hs).1 g (ofK_sub hg), Nat.le_trans (ofK_len K s.1) (Nat.le_trans (HZ.out s hs).1 (by omega))⟩) (HK.out.below (below_next HM6.out.bw hb)))
        have hkp : keepG (outG X) X.flatten = KK := by rw [hKK, HX.out]; exact keep_plist L K
        rw [hkp] at HWI
        obtain ⟨NK, hNK⟩ : ∃ NK, NK = KK.length := ⟨_, rfl⟩
        have HNK := Lib.hid hNK
        rw [← hNK] at HKL
        clear hkp hKK hNK
        go_wp2_with fail
        go_region_law (first
          | (go_simp; go_at_call 40; (with_reducible refine (HWI.out _ (by first | exact Below.refl _ _ | exact (Below.refl _ _).drew)).mono ?_); rintro e w8 ⟨v8, rfl, hr8, hb8⟩; have hb9 : Below W7.heap.size W7 w8 := (by first | exact hb8 | exact below_next ((Below.refl _ W7).drew) hb8); have HM8 := Lib.hid (HM6.out.below hb9); obtain ⟨x0, x1, x2, q0, q1, q2, lx⟩ := at_facts HM8.out.r2; obtain ⟨ss, hv1, hv2, hv3⟩ := HM8.out.oP; rw [← HMP.out] at hv2; have HV1 := Lib.hid hv1; have HV2 := Lib.hid hv2; have HV3 := Lib.hid hv3; obtain ⟨a8, c8, hv8, hn8⟩ := hr8.lies'; rw [← HNK.out] at hv8; subst hv8; obtain ⟨tt, ht1, ht2, ht3, ht4⟩ := gliesq_opt (show GLiesQ Q w8 a8 KK from by obtain ⟨a', c', e', _, hl⟩ := hr8.lies; rw [(slice_inj e').1]; exact hl); have HT1 := Lib.hid ht1; have HT2 := Lib.hid ht2; have HT3 := Lib.hid ht3; have HT4 := Lib.hid (fun (e : a8 = none) => And.intro (show NK = 0 by rw [HNK.out, ht4 e]; rfl) (hn8 e)); have HON := Lib.hid (gs_one KK tt ht1 (fun i hi => by obtain ⟨a, c, e, _⟩ := ht3 i hi; exact ⟨_, _, _, e⟩)); clear hv1 hv2 hv3 hr8 hb8 hb9 ht1 ht2 ht3 ht4 hn8)
          | (refine step_append_y rfl (.tmp 26) (.tmp 28) 25 rfl (w.heap.size + 3) 32 i0 (.agg #[.int .i64 0, .string ⟨#[]⟩, .slice none 0 0]) 3 48 Tryz.underlying25 hi hz0 hz1 hz2 rfl (by decide) (.slice aP MP cP) MP (gsCells PJ ss) (by simp [Act.eval]) HV2.out a8 NK c8 (gsCells KK tt) (by simp [Act.eval]) HT4.out (by rw [gsCells_length KK tt HT1.out, HNK.out]) HT2.out HON.out (by have := HPL.out; have := HKL.out; unfold maxLen; omega) (by have := HPL.out; have := HKL.out; omega) HM8.out.bs ?_; intro v9 w9 hown9 hgr9; obtain ⟨a9, c9, rfl, _⟩ := own_formz hown9; obtain ⟨p0, p1, p2, f0, f1, f2, lp⟩ := at_facts ((row_block HV2.out hgr9 lx (by omega)).trans HM8.out.r2); have HR9 := Lib.hid (RowQ.append (Q := Q) HV1.out HV3.out HT1.out HT3.out (by rw [← HMP.out, ← HNK.out]; exact hown9)); have HM9 := Lib.hid (HM8.out.pushP HV2.out hgr9 HR9.out); clear hown9 hgr9))
        all_goals
          go_wp2_with fail
          go_roundw
          case rel => exact ⟨j + 1, _, _, HLT.out, by go_num, by
            rw [HE.out, List.flatMap_append, ← HPJ.out, List.flatMap_cons, List.flatMap_nil, List.append_nil, ← HKK.out]
            exact HM9.out⟩
          case measure => have := HLT.out; simp [intOf]; omega
    · have hd : decide ((j : Int) < 4) = false := by simp; omega
      obtain rfl : j = 4 := by omega
      rw [show ((4 : Nat) : Int) = 4 from rfl] at hd ⊢
      obtain ⟨x0, _, lx⟩ := one_facts hmid.r0
      clear hmid
      have HUB := Lib.hid HMID.out.oP.block
      obtain ⟨B2, hB2⟩ : ∃ B2, B2 = wz.heap.size := ⟨_, rfl⟩
      have HM4 := Lib.hid (show RdMid Q (.slice a0 m c) w wz (w.heap.size + 3) B2 uL uP (.slice none 0 0) (limTo L 4) ((limTo L 4).flatMap (kindG L)) [] from
        ⟨HMID.out.r0, HMID.out.r1, HMID.out.r2, HMID.out.oL, HMID.out.oP, RowQ.nil _ _ _, Nat.le_refl _, by rw [hB2]; exact HMID.out.bs, HMID.out.bs, HMID.out.bw⟩)
      obtain ⟨PJ, hPJ⟩ : ∃ PJ, PJ = (limTo L 4).flatMap (kindG L) := ⟨_, rfl⟩
      have HPJ := Lib.hid hPJ
      have HPL := Lib.hid (show PJ.length ≤ 40000 by rw [hPJ]; exact rawlen L 4 m hmm HM.out HZ.out)
      have HPS := Lib.hid (show SmL PJ by rw [hPJ]; exact raw_sm HS.out 4)
      rw [← hPJ] at HM4
      rw [← hB2] at HUB
      have HBS := Lib.hid (show B2 ≤ wz.heap.size by rw [hB2]; exact Nat.le_refl _)
      clear hPJ hB2 HMID
      go_wp2_with fail
      go_loopw [35] (fun i wx => ∃ (k : Nat) (uE : Value), k ≤ m ∧ i = .int .i64 (k : Int) ∧ RdMid Q (.slice a0 m c) w wx (w.heap.size + 3) B2 uL uP uE (limTo L 4) PJ ((L.take k).flatMap (·.2)) ∧ B2 ≤ wx.heap.size) (fun i _ => m - (intOf i).toNat)
      case atStart => exact ⟨0, _, Nat.zero_le _, rfl, HM4.out, HBS.out⟩
      case round =>
        obtain ⟨wq, hwq⟩ : ∃ wq, wq = wr := ⟨_, rfl⟩
        subst hwq
        obtain ⟨k, uE, hk, rfl, hmid, hbs⟩ := hrel
        have HMQ := Lib.hid hmid
        have HBQ := Lib.hid hbs
        obtain ⟨EJ, hEJ⟩ : ∃ EJ, EJ = (L.take k).flatMap (·.2) := ⟨_, rfl⟩
        have HEJ := Lib.hid hEJ
        have HEL := Lib.hid (show EJ.length ≤ 10000 by rw [hEJ]; exact exclen L k m hmm HM.out HZ.out)
        rw [← hEJ] at HMQ
        obtain ⟨aE, cE, hvE, _⟩ := HMQ.out.oE.lies'
        subst hvE
        obtain ⟨ME, hME⟩ : ∃ ME, ME = EJ.length := ⟨_, rfl⟩
        have HME := Lib.hid hME
        rw [← hME] at HMQ HEL
        clear hmid hbs hEJ hME
        by_cases hlt2 : k < m
        · have hd2 : decide ((k : Int) < (m : Int)) = true := by simp; omega
          obtain ⟨b, o, rfl, hbl, a1, c1, a2, c2, e0, e1, ⟨hc1, hL1⟩, hn2, hL2⟩ := (H1.out.below HMQ.out.bw).at k (by rw [← HM.out]; exact hlt2)
          have hst := excTake L k (by rw [← HM.out]; exact hlt2)
          have hzk := HZ.out (L.getD k noSub) (by rw [List.getD_eq_getElem?_getD, List.getElem?_eq_getElem (by rw [← HM.out]; exact hlt2)]; exact List.getElem_mem _)
          rw [← HEJ.out] at hst
          clear hbl
          generalize L.getD k noSub = G at e0 e1 hst hzk hL1 hL2 hc1
          obtain ⟨A, F⟩ := G
          simp only at e0 e1 hL1 hL2 hc1 hst hzk
          obtain ⟨NA, hNA⟩ : ∃ NA, NA = A.length := ⟨_, rfl⟩
          obtain ⟨NB, hNB⟩ : ∃ NB, NB = F.length := ⟨_, rfl⟩
          rw [← hNA] at e0
          rw [← hNB] at e1 hzk
          obtain ⟨W2, hW2⟩ : ∃ W2, W2 = wq.alloc (.cells #[.slice a1 NA c1, .slice a2 NB c2] 27) := ⟨_, rfl⟩
          have hb2 : Below wq.heap.size wq W2 := by rw [hW2]; exact belowNew wq _
          obtain ⟨s0, s1, ls⟩ := two_facts (w := W2) (g := wq.heap.size) (by rw [hW2]; exact heap_alloc_new wq _)
          have hwr := hW2.symm
          have HM2 := Lib.hid (HMQ.out.below hb2)
          have HB2 := Lib.hid (Nat.le_trans HBQ.out hb2.size)
          obtain ⟨y0, y1, y2, z0, z1, z2, ly⟩ := at_facts HM2.out.r2
          obtain ⟨tt, ht1, ht2, ht3, ht4⟩ := gliesq_opt (hL2.below hb2)
          obtain ⟨ss, hv1, hv2, hv3⟩ := HM2.out.oE
          rw [← HME.out] at hv2
          have HV1 := Lib.hid hv1
          have HV2 := Lib.hid hv2
          have HV3 := Lib.hid hv3
          have HNB := Lib.hid hNB
          have HT1 := Lib.hid ht1
          have HT2 := Lib.hid ht2
          have HT3 := Lib.hid ht3
          have HT4 := Lib.hid (fun (e : a2 = none) => And.intro (show NB = 0 by rw [hNB, ht4 e]; rfl) (hn2 e))
          have HON := Lib.hid (gs_one F tt ht1 (fun i hi => by obtain ⟨a, c, e, _⟩ := ht3 i hi; exact ⟨_, _, _, e⟩))
          have HST := Lib.hid hst
          have HLT2 := Lib.hid hlt2
          have HZK := Lib.hid hzk.2
          clear hNA hNB hW2 hb2 hL1 hL2 hc1 hn2 ht1 ht2 ht3 ht4 hv1 hv2 hv3 hst hzk
          go_wp2_with (at_builtin; (refine wpList_append_y rfl (.tmp 40) (.tmp 42) 25 rfl B2 32 i0 (.agg #[.int .i64 0, .string ⟨#[]⟩, .slice none 0 0]) 3 48 Tryz.underlying25 hi hz0 hz1 hz2 rfl (by decide) (.slice aE ME cE) ME (gsCells EJ ss) rfl HV2.out a2 NB c2 (gsCells F tt) rfl HT4.out (by rw [gsCells_length F tt HT1.out, HNB.out]) HT2.out HON.out (by have := HEL.out; have := HZK.out; unfold maxLen; omega) (by have := HEL.out; have := HZK.out; omega) HB2.out ?_); intro v9 w9 hown9 hgr9; obtain ⟨a9, c9, rfl, _⟩ := own_formz hown9; obtain ⟨p0, p1, p2, f0, f1, f2, lp⟩ := at_facts ((row_block HV2.out hgr9 ly (by have := HM2.out.b2; have := HM2.out.b1; omega)).trans HM2.out.r2); have HR9 := Lib.hid (RowQ.append (Q := Q) HV1.out HV3.out HT1.out HT3.out (by rw [← HME.out, ← HNB.out]; exact hown9)); have HM9 := Lib.hid (HM2.out.pushE HUB.out HV2.out hgr9 HR9.out); have HB9 := Lib.hid (Nat.le_trans HB2.out hgr9.size); clear hown9 hgr9)
          go_roundw
          case rel => exact ⟨k + 1, _, HLT2.out, by go_num, by rw [HST.out]; exact HM9.out, Nat.le_trans HB9.out (But.set (w.heap.size + 2) 2 w9 _).size⟩
          case measure => have := HLT2.out; simp [intOf]; omega
        · have hd2 : decide ((k : Int) < (m : Int)) = false := by simp; omega
          obtain rfl : k = m := by omega
          have HET := Lib.hid (show EJ = L.flatMap (·.2) by rw [HEJ.out, List.take_of_length_le (by rw [← HM.out]; exact Nat.le_refl _)])
          have HES := Lib.hid (show SmL EJ by rw [HET.out]; exact exc_sm HS.out)
          obtain ⟨aP, cP, hvP, _⟩ := HMQ.out.oP.lies'
          subst hvP
          obtain ⟨MP, hMP⟩ : ∃ MP, MP = PJ.length := ⟨_, rfl⟩
          have HMP := Lib.hid hMP
          rw [← hMP] at HMQ HPL
          clear hMP
          obtain ⟨aL, cL, hvL, _, _⟩ := HMQ.out.oL.lies
          subst hvL
          obtain ⟨X4, hX4⟩ : ∃ X4, X4 = addsG [] PJ := ⟨_, rfl⟩
          obtain ⟨X7, hX7⟩ : ∃ X7, X7 = addsG [] EJ := ⟨_, rfl⟩
          have HX4 := Lib.hid hX4
          have HX7 := Lib.hid hX7
          obtain ⟨N4, hN4⟩ : ∃ N4, N4 = X4.length := ⟨_, rfl⟩
          obtain ⟨N7, hN7⟩ : ∃ N7, N7 = X7.length := ⟨_, rfl⟩
          have HN4 := Lib.hid hN4
          have HN7 := Lib.hid hN7
          obtain ⟨NL, hNL⟩ : ∃ NL, NL = (limTo L 4).length := ⟨_, rfl⟩
          have HNL := Lib.hid hNL
          rw [← hNL] at HMQ
          have HD1 := Lib.hid (distinct_core aP cP MP PJ wq wq (Below.refl _ _) (by
            obtain ⟨a', c', e', _, hl⟩ := HMQ.out.oP.lies
            rw [(slice_inj e').1]; exact hl.mono (HQ.out wq HMQ.out.bw)) HMP.out (by have := HPL.out; omega) HPS.out (HK.out.below HMQ.out.bw))
          rw [← hX4] at HD1
          obtain ⟨y0, y1, y2, z0, z1, z2, ly⟩ := at_facts HMQ.out.r2
          clear hX4 hX7 hN4 hN7 hNL
          go_upto_region 16 with (first
            | (go_at_call 42; (with_reducible refine HD1.out.mono ?_); rintro e w4 ⟨v4, rfl, hr4, hn4, hs4, hb4⟩; obtain ⟨a4, c4, rfl, _, hl4⟩ := hr4.lies; rw [← HN4.out] at hn4 ⊢; have HC4 := Lib.hid (copiesg_any a4 c4 N4 X4 w4 (hl4.mono (fun a n h => h.below hb4)) HN4.out (by have := HPL.out; omega) hs4); have HM4 := Lib.hid (HMQ.out.below hb4); clear hr4 hn4 hs4 hb4 hl4)
            | (go_at_call 41; (with_reducible refine HC4.out.mono ?_); rintro e w5 ⟨v5, rfl, ho5, hb5⟩; obtain ⟨a5, c5, rfl, _, _⟩ := ho5.lies; rw [← HN4.out] at ho5 ⊢; have HM5 := Lib.hid (HM4.out.below hb5); have HO5 := Lib.hid (ho5.base (Nat.le_trans (by omega) HM4.out.bs : w.heap.size + 3 ≤ w4.heap.size)); obtain ⟨p0, p1, p2, f0, f1, f2, lp⟩ := at_facts HM5.out.r2; clear ho5 hb5))
          clear p0 p1 p2 f0 f1 f2 lp y0 y1 y2 z0 z1 z2 ly HD1 HC4
          obtain ⟨W6, hW6⟩ : ∃ W6, W6 = w5.setCell ⟨w.heap.size + 2, 1, none⟩ (.slice a5 N4 c5) := ⟨_, rfl⟩
          have hs6 := But.set (w.heap.size + 2) 1 w5 (.slice a5 N4 c5)
          have r1 := set_other_s (g := w.heap.size + 2) (j := 1) (a := .slice a5 N4 c5) HM5.out.r1 (by omega)
          have r2 := set3_b (a := .slice a5 N4 c5) HM5.out.r2
          have oL := own_apart HM5.out.oL HM5.out.r2 (by decide) hs6
          have oE := HM5.out.oE.apart HM5.out.r2 (by decide) hs6
          have oG := HO5.out.apart HM5.out.r2 (by decide) (by decide) (by decide) hs6
          have bw := below_set (j := 1) (v := .slice a5 N4 c5) HM5.out.bw (show w.heap.size ≤ w.heap.size + 2 by omega)
          have bs : w.heap.size + 3 ≤ W6.heap.size := by rw [hW6]; exact Nat.le_trans HM5.out.bs hs6.size
          rw [← hW6] at r1 r2 oL oE oG bw hs6
          try rw [← hW6]
          have R1 := Lib.hid r1
          have R2 := Lib.hid r2
          have OL := Lib.hid oL
          have OG := Lib.hid oG
          have BW := Lib.hid bw
          have BS := Lib.hid bs
          have HD2 := Lib.hid (distinct_core aE cE ME EJ W6 W6 (Below.refl _ _) (by
            obtain ⟨a', c', e', _, hl⟩ := oE.lies
            rw [(slice_inj e').1]; exact hl.mono (HQ.out W6 bw)) HME.out (by have := HEL.out; omega) HES.out (HK.out.below bw))
          rw [← HX7.out] at HD2
          obtain ⟨y0, y1, y2, z0, z1, z2, ly⟩ := at_facts r2
          clear hW6 hs6 r1 r2 oL oE oG bw bs
          go_upto_region 17 with (first
            | (go_at_call 42; (with_reducible refine HD2.out.mono ?_); rintro e w7 ⟨v7, rfl, hr7, hn7, hs7, hb7⟩; obtain ⟨a7, c7, rfl, _, hl7⟩ := hr7.lies; rw [← HN7.out] at hn7 ⊢; have HC7 := Lib.hid (copiesg_any a7 c7 N7 X7 w7 (hl7.mono (fun a n h => h.below hb7)) HN7.out (by have := HEL.out; omega) hs7); have HB7 := Lib.hid hb7; clear hr7 hn7 hs7 hb7 hl7)
            | (go_at_call 41; (with_reducible refine HC7.out.mono ?_); rintro e w8 ⟨v8, rfl, ho8, hb8⟩; obtain ⟨a8, c8, rfl, _, _⟩ := ho8.lies; rw [← HN7.out] at ho8 ⊢; have HB8 := Lib.hid (below_next HB7.out hb8); have HO8 := Lib.hid (ho8.base (Nat.le_trans BS.out HB7.out.size)); have R8 := Lib.hid ((HB8.out.block (w.heap.size + 2) ly).trans R2.out); obtain ⟨p0, p1, p2, f0, f1, f2, lp⟩ := at_facts R8.out; clear ho8 hb8))
          clear p0 p1 p2 f0 f1 f2 lp y0 y1 y2 z0 z1 z2 HD2 HC7
          obtain ⟨W9, hW9⟩ : ∃ W9, W9 = w8.setCell ⟨w.heap.size + 2, 2, none⟩ (.slice a8 N7 c8) := ⟨_, rfl⟩
          have hs9 := But.set (w.heap.size + 2) 2 w8 (.slice a8 N7 c8)
          have r1 := set_other_s (g := w.heap.size + 2) (j := 2) (a := .slice a8 N7 c8) ((HB8.out.block (w.heap.size + 1) (by omega)).trans R1.out) (by omega)
          have r2 := set3_c (a := .slice a8 N7 c8) R8.out
          have oL := own_apart (own_below OL.out HB8.out) R8.out (by decide) hs9
          have oG := (OG.out.below HB8.out).apart R8.out (by decide) (by decide) (by decide) hs9
          have oH := HO8.out.apart R8.out (by decide) (by decide) (by decide) hs9
          have bw := below_set (j := 2) (v := .slice a8 N7 c8) (below_next BW.out HB8.out) (show w.heap.size ≤ w.heap.size + 2 by omega)
          rw [← hW9] at r1 r2 oL oG oH bw
          try rw [← hW9]
          have R1' := Lib.hid r1
          have OL' := Lib.hid oL
          have OG' := Lib.hid oG
          have OH' := Lib.hid oH
          have BW' := Lib.hid bw
          obtain ⟨y0, y1, y2, z0, z1, z2, _⟩ := at_facts r2
          obtain ⟨p0, p1, p2, f0, f1, f2, lp⟩ := at_facts r1
          clear hW9 hs9 r1 r2 oL oG oH bw ly
          go_wp2_with fail
          have hs := ((But.set (w.heap.size + 1) 0 W9 (.slice aL NL cL)).next (But.set (w.heap.size + 1) 1 _ (.slice a5 N4 c5))).next (But.set (w.heap.size + 1) 2 _ (.slice a8 N7 c8))
          exact bodyPost_ret (rdRes rfl _ _ _ _ _ _ rfl (set3_c (set3_b (set3_a R1'.out)))) rfl ⟨_, _, _, rfl, own_base (own_apart OL'.out R1'.out (by decide) hs) (by omega), by
            rw [permG_kinds, ← limTo_all, ← HPJ.out, ← HX4.out]
            exact (OG'.out.apart R1'.out (by decide) (by decide) (by decide) hs).base (by omega), by
            rw [show exclG L = addsG [] (L.flatMap (·.2)) from rfl, ← HET.out, ← HX7.out]
            exact (OH'.out.apart R1'.out (by decide) (by decide) (by decide) hs).base (by omega), below_set (below_set (below_set BW'.out (by omega)) (by omega)) (by omega)⟩
end Go.Proofs.YtofadgmnjckpcaaGreatDoor
namespace Go.Proofs.YtofadgmnjckpcaaGreatDoor
open Go.RowKit

theorem adds_len : ∀ (m l : List Gn), (addsG l m).length ≤ l.length + m.length
  | [], l => Nat.le_refl _
  | x :: m, l => by
    have h := adds_len m (addG l x)
    have h2 : (addG l x).length ≤ l.length + 1 := by
      rcases addG_cases l x with ⟨_, e⟩ | ⟨_, e⟩ <;> rw [e]
      · omega
      · rw [List.length_append]; simp
    show (addsG (addG l x) m).length ≤ l.length + (m.length + 1)
    omega
theorem adds_mem : ∀ (m l : List Gn) (x : Gn), x ∈ addsG l m → x ∈ l ∨ x ∈ m
  | [], _, _, h => .inl h
  | y :: m, l, x, h => by
    rcases adds_mem m (addG l y) x h with h1 | h1
    · rcases addG_cases l y with ⟨_, e⟩ | ⟨_, e⟩
      · rw [e] at h1; exact .inl h1
      · rw [e] at h1
        rcases List.mem_append.1 h1 with h2 | h2
        · exact .inl h2
        · rw [List.mem_singleton.1 h2]; exact .inr (by simp)
    · exact .inr (List.mem_cons_of_mem _ h1)
theorem red_sm {L : List Sub} (hs : SmS L) : SmL (permG L) ∧ SmL (exclG L) := ⟨fun g hg => by
    rw [permG_kinds] at hg
    rcases adds_mem _ _ g hg with h | h
    · cases h
    · exact raw_sm hs 4 g h, fun g hg => by
    rcases adds_mem _ _ g (show g ∈ addsG [] (L.flatMap (·.2)) from hg) with h | h
    · cases h
    · exact exc_sm hs g h⟩
theorem red_len {L : List Sub} (hm : L.length ≤ 100) (hz : ∀ s ∈ L, s.1.length ≤ 100 ∧ s.2.length ≤ 100) : (permG L).length ≤ 40000 ∧ (exclG L).length ≤ 10000 ∧ (limitedG L).length ≤ 4 := by
  refine ⟨?_, ?_, limTo_len L 4⟩
  · have h := adds_len ((limTo L 4).flatMap (kindG L)) []
    have h2 := rawlen L 4 L.length hm rfl hz
    rw [permG_kinds]
    exact Nat.le_trans h (by rw [List.length_nil]; omega)
  · have h := adds_len ((L.take L.length).flatMap (·.2)) []
    have h2 := exclen L L.length L.length hm rfl hz
    rw [List.take_length] at h h2
    exact Nat.le_trans h (by rw [List.length_nil]; omega)
theorem own_g_lies {w : World} {B : Nat} {a : Option Addr} {k c : Nat} {l : List Gn} (h : OwnG w B (.slice a k c) l) : GLies w a l := by
  obtain ⟨a', c', e, _, hl⟩ := h.lies
  rw [(slice_inj e).1]; exact hl
theorem own_z_lies {w : World} {B : Nat} {a : Option Addr} {k c : Nat} {l : List Int} (h : OwnZ w B (.slice a k c) l) : ILies w a l := by
  obtain ⟨a', c', e, _, hl⟩ := h.lies
  rw [(slice_inj e).1]; exact hl
end Go.Proofs.YtofadgmnjckpcaaGreatDoor
namespace Go.Proofs.YtofadgmnjckpcaaGreatDoor
open Go.RowKit

theorem evTo_zero (L : List Sub) (k : Int) (g : Gn) : evTo L k g 0 = decide (g.1 = k) := by
  unfold evTo
  rw [List.take_zero, List.all_nil, Bool.and_true]
noncomputable def p3 (L : List Sub) (j : Nat) (K : Int) (i : Nat) : List Gn := addsG (permTo L j) (kindTo L K i)
theorem p3_zero (L : List Sub) (j : Nat) (K : Int) : p3 L j K 0 = permTo L j := rfl
theorem p3_all (L : List Sub) (j : Nat) (h : j < 4) (hl : L.any (fun s => limG s.1 (kindsG.getD j 0)) = true) : p3 L j (kindsG.getD j 0) L.length = permTo L (j + 1) := by
  unfold p3
  rw [kindTo_all, permTo_yes L j h hl]
noncomputable def p4 (L : List Sub) (j : Nat) (K : Int) (i : Nat) (A : List Gn) (k : Nat) : List Gn := addsG (p3 L j K i) ((A.take k).filter (everyG L K))
theorem p4_zero (L : List Sub) (j : Nat) (K : Int) (i : Nat) (A : List Gn) : p4 L j K i A 0 = p3 L j K i := rfl
theorem p4_all (L : List Sub) (j : Nat) (K : Int) (i : Nat) (h : i < L.length) : p4 L j K i (L.getD i noSub).1 (L.getD i noSub).1.length = p3 L j K (i + 1) := by
  unfold p4 p3
  rw [List.take_length, kindTo_step L K i h, addsG_append]
theorem p4_yes (L : List Sub) (j : Nat) (K : Int) (i : Nat) (A : List Gn) (k : Nat) (h : k < A.length) (hp : everyG L K (A.getD k noG) = true) : p4 L j K i A (k + 1) = addG (p4 L j K i A k) (A.getD k noG) := base_yes A _ _ k h hp
theorem p4_no (L : List Sub) (j : Nat) (K : Int) (i : Nat) (A : List Gn) (k : Nat) (h : k < A.length) (hp : everyG L K (A.getD k noG) = false) : p4 L j K i A (k + 1) = p4 L j K i A k := base_no A _ _ k h hp
theorem sm_adds {l m : List Gn} (h : SmL l) (g : SmL m) : SmL (addsG l m) := fun x hx => (adds_mem m l x hx).elim (h x) (g x)
theorem kindTo_len (L : List Sub) (K : Int) (i m : Nat) (hmm : m ≤ 100) (hm : m = L.length) (hz : ∀ s ∈ L, s.1.length ≤ 100 ∧ s.2.length ≤ 100) : (kindTo L K i).length ≤ 10000 := by
  have h := len_flat (L.take i) (fun s => s.1.filter (everyG L K)) 100 (fun s hs => Nat.le_trans (List.length_filter_le _ _) (hz s (List.mem_of_mem_take hs)).1)
  have h2 : (L.take i).length ≤ m := by rw [List.length_take, ← hm]; exact Nat.min_le_right _ _
  unfold kindTo
  omega
theorem p4_len (L : List Sub) (j : Nat) (K : Int) (i : Nat) (A : List Gn) (k m : Nat) (hA : A.length ≤ 100) (hmm : m ≤ 100) (hm : m = L.length) (hz : ∀ s ∈ L, s.1.length ≤ 100 ∧ s.2.length ≤ 100) : (p4 L j K i A k).length ≤ 60000 := by
  have h1 := adds_len ((A.take k).filter (everyG L K)) (p3 L j K i)
  have h2 := adds_len (kindTo L K i) (permTo L j)
  have h3 := adds_len ((limTo L j).flatMap (kindG L)) []
  have h4 := rawlen L j m hmm hm hz
  have h5 := kindTo_len L K i m hmm hm hz
  have h6 : ((A.take k).filter (everyG L K)).length ≤ A.length := Nat.le_trans (List.length_filter_le _ _) (by rw [List.length_take]; exact Nat.min_le_right _ _)
  have h7 : (permTo L j).length ≤ 40000 := Nat.le_trans h3 (by rw [List.length_nil]; omega)
  unfold p4
  unfold p3 at h1 ⊢
  omega
theorem p4_sm {L : List Sub} (hs : SmS L) (j : Nat) (K : Int) (i : Nat) {A : List Gn} (hA : SmL A) (k : Nat) : SmL (p4 L j K i A k) := by
  refine sm_adds (sm_adds (sm_adds (fun x hx => (by cases hx)) (raw_sm hs j)) (fun x hx => ?_)) (fun x hx => hA x (List.mem_of_mem_take (List.mem_filter.1 hx).1))
  obtain ⟨s, hs', h2⟩ := List.mem_flatMap.1 hx
  exact (hs s (List.mem_of_mem_take hs')).1 x (List.mem_filter.1 h2).1
noncomputable def e4 (L : List Sub) (i : Nat) (F : List Gn) (k : Nat) : List Gn := addsG (excTo L i) (F.take k)
theorem e4_zero (L : List Sub) (i : Nat) (F : List Gn) : e4 L i F 0 = excTo L i := rfl
theorem e4_all (L : List Sub) (i : Nat) (h : i < L.length) : e4 L i (L.getD i noSub).2 (L.getD i noSub).2.length = excTo L (i + 1) := by
  unfold e4
  rw [List.take_length, excTo_step L i h]
theorem e4_step (L : List Sub) (i : Nat) (F : List Gn) (k : Nat) (h : k < F.length) : e4 L i F (k + 1) = addG (e4 L i F k) (F.getD k noG) := adds_step F _ k h
theorem e4_len (L : List Sub) (i : Nat) (F : List Gn) (k m : Nat) (hF : F.length ≤ 100) (hmm : m ≤ 100) (hm : m = L.length) (hz : ∀ s ∈ L, s.1.length ≤ 100 ∧ s.2.length ≤ 100) : (e4 L i F k).length ≤ 20000 := by
  have h1 := adds_len (F.take k) (excTo L i)
  have h2 := adds_len ((L.take i).flatMap (·.2)) []
  have h3 := exclen L i m hmm hm hz
  have h6 : (F.take k).length ≤ F.length := by rw [List.length_take]; exact Nat.min_le_right _ _
  have h7 : (excTo L i).length ≤ 10000 := Nat.le_trans h2 (by rw [List.length_nil]; omega)
  unfold e4
  omega
theorem e4_sm {L : List Sub} (hs : SmS L) (i : Nat) {F : List Gn} (hF : SmL F) (k : Nat) : SmL (e4 L i F k) := by
  refine sm_adds (sm_adds (fun x hx => (by cases hx)) (fun x hx => ?_)) (fun x hx => hF x (List.mem_of_mem_take hx))
  obtain ⟨s, hs', h2⟩ := List.mem_flatMap.1 hx
  exact (hs s (List.mem_of_mem_take hs')).2 x h2
/-- The row of the four kinds. -/
def KRow (w W : World) : Prop := W.heap[w.heap.size + 3]? = some (.cells #[.int .i64 1, .int .i64 2, .int .i64 4, .int .i64 7] 3 (0, 0))
theorem KRow.below {w W W' : World} (h : KRow w W) (hb : Below W.heap.size W W') : KRow w W' := (hb.block _ (Array.getElem?_eq_some_iff.1 h).1).trans h
theorem KRow.push {w W W' : World} {B k n i : Nat} {T : TypeId} {v u : Value} {xs : List Value} (h : KRow w W) (ho : W.ownsRow B T k v n xs) (hg : W.grownBy W' v.ownBlock) (hB : w.heap.size + 3 < B) : KRow w (W'.setCell ⟨w.heap.size + 2, i, none⟩ u) :=
  set_other_s ((row_block ho hg (Array.getElem?_eq_some_iff.1 h).1 hB).trans h) (by omega)
theorem KRow.cell {w W : World} (h : KRow w W) (j : Nat) (hj : j < 4) : W.cell? ⟨w.heap.size + 3, j, none⟩ = some (.int .i64 (kindsG.getD j 0)) := by
  rw [Lib.cell_of_heap h]
  rcases (by omega : j = 0 ∨ j = 1 ∨ j = 2 ∨ j = 3) with rfl | rfl | rfl | rfl <;> rfl
theorem any_step (L : List Sub) (K : Int) (i : Nat) (h : i < L.length) : (L.take (i + 1)).any (fun s => limG s.1 K) = ((L.take i).any (fun s => limG s.1 K) || limG (L.getD i noSub).1 K) := by
  rw [take_one L i h noSub, List.any_append]
  simp
end Go.Proofs.YtofadgmnjckpcaaGreatDoor
