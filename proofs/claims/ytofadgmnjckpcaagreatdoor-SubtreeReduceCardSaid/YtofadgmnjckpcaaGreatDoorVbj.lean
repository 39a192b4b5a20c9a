/-
  The contract of withinEach of package subtree.
  The contract of certpathref07.add over a growing row of general names whose names lie where they lay.
  The contract of the program's distinct.
-/
import Derived.Test.YtofadgmnjckpcaaGreatDoorVbi
import Derived.Test.YtofadgmnjckpcaaGreatDoorVbf
import Derived.Test.YtofadgmnjckpcaaGreatDoorVao
import Derived.Test.YtofadgmnjckpcaaGreatDoorVbe
import Derived.Test.YtofadgmnjckpcaaGreatDoorVar
import Derived.Deep.CutRange
import Derived.Deep.DeepCutAuto
import Derived.Test.YtofadgmnjckpcaaGreatDoorVaz
import Derived.Test.YtofadgmnjckpcaaGreatDoorVba
namespace Go.Proofs.YtofadgmnjckpcaaGreatDoor
open Go.RowKit

set_option maxRecDepth 100000 in
set_option maxHeartbeats 4000000 in
theorem within_core' (Q : Option Addr → Nm → Prop) (al : Option Addr) (cl m : Nat) (L : List (List Gn)) (w : World) (h : LLiesQ Q w al L) (hQ : ∀ V, Below w.heap.size w V → ∀ a n, Q a n → RLies V a n) (hm : m = L.length) (hmm : m ≤ 1000000) (hne : ∀ l ∈ L, l.length ≠ 0) (hf : L.flatten.length ≤ 1000000) (hL : ∀ x ∈ L, SmL x ∧ x.length ≤ 1000000) (hmk : Mk w) :
    Calls Tryz.prog 40 #[.slice al m cl] w fun e w' => ∃ v, e = .returned v ∧ RowQ Q w' w.heap.size v (keepG (outG L) L.flatten) ∧ Below w.heap.size w w' := by
  obtain ⟨W0, hW0⟩ : ∃ W0, W0 = w.alloc (.cells #[.slice al m cl] 75) := ⟨_, rfl⟩
  have hwr := hW0.symm
  have hb0 : Below w.heap.size w W0 := by rw [hW0]; exact belowNew w _
  obtain ⟨b0, _, lb⟩ := one_facts (w := W0) (g := w.heap.size) (by rw [hW0]; exact heap_alloc_new w _)
  have HB0 := Lib.hid hb0
  have HWS := Lib.hid hb0.size
  have HP := Lib.hid (show GivesI 54 #[.pointer (some ⟨w.heap.size, 0, none⟩)] (outG L) SmG Q (fun V => Below W0.heap.size W0 V) from
    fun a c N q t n V hI hq hN hNc hs => outside_any al a cl m c N w.heap.size L q t n V ((hI.cell (p := ⟨w.heap.size, 0, none⟩) lb).trans b0) (Nat.lt_of_lt_of_le lb hI.size) (((h.below hb0).below hI).toL (hQ V (below_next hb0 hI))) hm (by omega) hL (hQ V (below_next hb0 hI) _ _ hq) hN hNc hs ((hmk.below hb0).below hI))
  have HPR := Lib.hid (show ∀ x ∈ L.flatten, SmG x from fun x hx => by
    obtain ⟨l, hl, hxl⟩ := List.mem_flatten.1 hx
    exact (hL l hl).1 x hxl)
  have HC := Lib.hid (concat_core Q al cl m L W0 (h.below hb0) hm hmm hne hf)
  obtain ⟨F, hF⟩ : ∃ F, F = L.flatten := ⟨_, rfl⟩
  rw [← hF] at HC HPR hf ⊢
  obtain ⟨NF, hNF⟩ : ∃ NF, NF = F.length := ⟨_, rfl⟩
  rw [← hNF] at hf
  have HNF := Lib.hid hNF
  have HDF := Lib.hid (fun (av : Option Addr) (cv : Nat) (V : World) (hr : RowQ Q V W0.heap.size (.slice av NF cv) F) (hv : Below W0.heap.size W0 V) =>
    delf_core 54 #[.pointer (some ⟨w.heap.size, 0, none⟩)] (enters_of Tryz.func54 (by kernel_rfl) rfl) (outG L) SmG Q (fun V => Below W0.heap.size W0 V) W0.heap.size (fun V V' hV hb => hV.trans hb) HP.out av cv NF F V hr hNF hf hv.size hv HPR.out)
  clear h hQ hm hne hf hL hmk hb0 hW0 hF hNF lb
  go_enter Tryz.func40, Tryz.ntmps40
  go_wp2_with (first
    | (go_at_call 57; (with_reducible refine HC.out.mono ?_); rintro e w3 ⟨v3, rfl, hr3, hb3⟩; obtain ⟨a3, c3, rfl, _, _⟩ := hr3.lies; rw [← HNF.out]; have HD := Lib.hid (HDF.out a3 c3 w3 (by rw [HNF.out]; exact hr3) hb3); have HB3 := Lib.hid hb3; clear hr3 hb3)
    | (go_at_call 52; (with_reducible refine HD.out.mono ?_); rintro e w4 ⟨v4, rfl, hr4, hb4⟩; have HR4 := Lib.hid hr4; have HB4 := Lib.hid (HB3.out.trans hb4); clear hr4 hb4))
  go_ret
  exact ⟨_, rfl, HR4.out.base HWS.out, below_next HB0.out HB4.out⟩
end Go.Proofs.YtofadgmnjckpcaaGreatDoor
namespace Go.Proofs.YtofadgmnjckpcaaGreatDoor
open Go.RowKit

theorem anyS_step (g : Gn) (l : List Gn) (k : Nat) (hk : k < l.length) : (l.take (k + 1)).any (fun x => sG x g) = ((l.take k).any (fun x => sG x g) || sG (l.getD k noG) g) := by
  rw [List.take_succ_eq_append_getElem hk, List.any_append, List.getD_eq_getElem?_getD, List.getElem?_eq_getElem hk]
  simp
set_option maxRecDepth 100000 in
set_option maxHeartbeats 4000000 in
/-- The names lie where Q says. -/
theorem radd_core (Q : Option Addr → Nm → Prop) (av ag : Option Addr) (cv m cg N B : Nat) (l : List Gn) (q : Int) (t : List UInt8) (n : Nm) (w : World) (hQ : ∀ V, Below w.heap.size w V → ∀ a n, Q a n → RLies V a n) (hB : B ≤ w.heap.size) (h : RowQ Q w B (.slice av m cv) l) (hm : m = l.length) (hmm : m ≤ 1000000) (hg : Q ag n) (hN : N = n.length) (hNc : N ≤ cg) (hs : SmG (q, t, n)) (hl : SmL l) :
    Calls Tryz.prog 44 #[.slice av m cv, .agg #[.int .i64 q, .string (strOf t), .slice ag N cg]] w fun e w' => ∃ v, e = .returned v ∧ RowQ Q w' B v (addG l (q, t, n)) ∧ w.grownBy w' (Value.slice av m cv).ownBlock := by
  obtain ⟨i0, hi, hz0, hz1, hz2⟩ := info_parts gInfo
  obtain ⟨W0, hW0⟩ : ∃ W0, W0 = w.alloc (.cells #[.int .i64 q, .string (strOf t), .slice ag N cg] 32) := ⟨_, rfl⟩
  have hwr := hW0.symm
  have hb0 : Below w.heap.size w W0 := by rw [hW0]; exact belowNew w _
  obtain ⟨g0, g1, g2, lg⟩ := three_facts (w := W0) (g := w.heap.size) (by rw [hW0]; exact heap_alloc_new w _)
  have HB0 := Lib.hid hb0
  have HRQ := Lib.hid (h.below hb0)
  have HGL := Lib.hid (show GLiesQ Q W0 av l from by
    obtain ⟨a', c', e, _, hl'⟩ := (h.below hb0).lies
    rw [(slice_inj e).1]; exact hl')
  have HW0 := Lib.hid (fun V (h9 : Below W0.heap.size W0 V) => hQ V (below_next hb0 h9))
  have HG := Lib.hid hg
  have HM := Lib.hid hm
  have HN := Lib.hid hN
  have HNC := Lib.hid hNc
  have HS := Lib.hid hs
  have HL := Lib.hid hl
  have HBW := Lib.hid hB
  have G0 := Lib.hid g0
  have G1 := Lib.hid g1
  have G2 := Lib.hid g2
  clear hQ hB h hm hg hN hNc hs hl hb0 hW0
  go_enter Tryz.func44, Tryz.ntmps44
  go_wp2_with fail
  clear hwr g0 g1 g2
  go_loopw [9] (fun i wr => ∃ k : Nat, k ≤ m ∧ i = .int .i64 k ∧ (l.take k).any (fun x => sG x (q, t, n)) = false ∧ Below W0.heap.size W0 wr) (fun i _ => m - (intOf i).toNat)
  case atStart => exact ⟨0, Nat.zero_le _, rfl, rfl, Below.refl _ _⟩
  case round =>
    obtain ⟨wz, hwz⟩ : ∃ wz, wz = wr := ⟨_, rfl⟩
    subst hwz
    obtain ⟨k, hk, rfl, hi1, hb⟩ := hrel
    have HB := Lib.hid hb
    have HI := Lib.hid hi1
    by_cases hlt : k < m
    · have hd : decide ((k : Int) < (m : Int)) = true := by simp; omega
      obtain ⟨b, o, rfl, hbl, e0, e1, a1, c1, e2, hc1, hL1⟩ := HGL.out.at k (by rw [← HM.out]; exact hlt)
      have f0 := (hb.cell (p := ⟨b, o + k * 3, none⟩) hbl).trans e0
      have f1 := (hb.cell (p := ⟨b, o + k * 3 + 1, none⟩) hbl).trans e1
      have f2 := (hb.cell (p := ⟨b, o + k * 3 + 2, none⟩) hbl).trans e2
      have hst := anyS_step (q, t, n) l k (by rw [← HM.out]; exact hlt)
      have hsm := HL.out (l.getD k noG) (by rw [List.getD_eq_getElem?_getD, List.getElem?_eq_getElem (by rw [← HM.out]; exact hlt)]; exact List.getElem_mem _)
      rw [hi1, Bool.false_or] at hst
      have HST := Lib.hid hst
      have HANY := Lib.hid (fun (e : (l.take (k + 1)).any (fun x => sG x (q, t, n)) = true) => (show l.any (fun x => sG x (q, t, n)) = true from by
        obtain ⟨x, hx, hxe⟩ := List.any_eq_true.1 e
        exact List.any_eq_true.2 ⟨x, List.mem_of_mem_take hx, hxe⟩))
      clear e0 e1 e2 hbl hst hi1
      generalize l.getD k noG = G at f0 f1 f2 hsm hL1 hc1 HST
      obtain ⟨q1, t1, n1⟩ := G
      simp only at f0 f1 f2 hsm hL1 hc1 HST
      obtain ⟨N1, hN1⟩ : ∃ N1, N1 = n1.length := ⟨_, rfl⟩
      rw [← hN1] at f2
      obtain ⟨W2, hW2⟩ : ∃ W2, W2 = wz.alloc (.cells #[.int .i64 q1, .string (strOf t1), .slice a1 N1 c1] 32) := ⟨_, rfl⟩
      have hb2 : Below wz.heap.size wz W2 := by rw [hW2]; exact belowNew wz _
      obtain ⟨s0, s1, s2, ls⟩ := three_facts (w := W2) (g := wz.heap.size) (by rw [hW2]; exact heap_alloc_new wz _)
      have hwr := hW2.symm
      have hbw := below_next hb hb2
      have HB2 := Lib.hid hbw
      have p0 := (hbw.cell (p := ⟨w.heap.size, 0, none⟩) lg).trans G0.out
      have p1 := (hbw.cell (p := ⟨w.heap.size, 1, none⟩) lg).trans G1.out
      have p2 := (hbw.cell (p := ⟨w.heap.size, 2, none⟩) lg).trans G2.out
      have hWW := HW0.out W2 hbw
      have HSM := Lib.hid (rsameG_core a1 ag c1 cg N1 N q1 q t1 t n1 n W2 (hWW _ _ hL1) (hWW _ _ HG.out) hN1 HN.out hsm.1 HS.out.1 hsm.2 HS.out.2)
      have y0 := cell_regrown s0
      clear hL1 hc1 hN1 hb2 hW2 hbw hWW hsm hb y0
      go_wp2_with fail
      refine HSM.out.mono ?_
      rintro e w3 ⟨rfl, hb3⟩
      have HB3 := Lib.hid (below_next HB2.out hb3)
      have HST2 := Lib.hid (show (l.take (k + 1)).any (fun x => sG x (q, t, n)) = sameG q1 t1 n1 q t n from HST.out)
      clear hb3 HSM p0 p1 p2 s0 s1 s2 ls f0 f1 f2 hwr HST
      generalize sameG q1 t1 n1 q t n = P at HST2 ⊢
      cases P with
      | true =>
        go_wp2_with fail
        go_ret
        have hA := HANY.out HST2.out
        have hbb := below_next HB0.out HB3.out
        exact ⟨_, rfl, by
          unfold addG
          rw [if_pos hA]
          exact HRQ.out.below HB3.out, by
          exact ⟨hbb.os, hbb.tape, hbb.output, hbb.size, fun j hj _ => hbb.block j hj⟩⟩
      | false =>
        go_wp2_with fail
        go_roundw
        case rel => exact ⟨k + 1, by omega, by go_num, HST2.out, HB3.out⟩
        case measure => simp [intOf]; omega
    · have hd : decide ((k : Int) < (m : Int)) = false := by simp; omega
      obtain rfl : k = m := by omega
      have HF := Lib.hid (show l.any (fun x => sG x (q, t, n)) = false by have := HI.out; rwa [List.take_of_length_le (by rw [← HM.out]; exact Nat.le_refl _)] at this)
      obtain ⟨ss, hv1, hv2, hv3⟩ := HRQ.out
      rw [← HM.out] at hv2
      have HV1 := Lib.hid hv1
      have HV2 := Lib.hid (own_below hv2 hb)
      have HV3 := Lib.hid hv3
      have p0 := (hb.cell (p := ⟨w.heap.size, 0, none⟩) lg).trans G0.out
      have p1 := (hb.cell (p := ⟨w.heap.size, 1, none⟩) lg).trans G1.out
      have p2 := (hb.cell (p := ⟨w.heap.size, 2, none⟩) lg).trans G2.out
      clear hv1 hv2 hv3 hi1 hb
      go_upto_region 7 with (fail)
      go_wp2_with (at_builtin; (refine wpList_append_own _ rfl (.tmp 18) (.tmp 20) 25 rfl B 32 i0 (.agg #[.int .i64 0, .string ⟨#[]⟩, .slice none 0 0]) 3 48 Tryz.underlying25 hi hz0 hz1 hz2 rfl (by decide) (.slice av k cv) k (gsCells l ss) rfl (own_below HV2.out (belowNew _ _)) ⟨wz.heap.size, 0, none⟩ 1 1 (gCells (q, t, n) (.slice ag N cg)) rfl rfl (fun j u h => news_row wz #[.int .i64 q, .string (strOf t), .slice ag N cg] 32 j u (by simpa [gCells] using h)) (gCells_one _ _ _ _) (by unfold maxLen; omega) (by omega) (by have := HB.out.size; have := HB0.out.size; have := HBW.out; simp; omega) ?_); intro v' w6 hown6 hgr6 _; have P3 := RowQ.snoc (Q := Q) (a := ag) (c := cg) (g := (q, t, n)) HV1.out HV3.out HG.out (by rw [← HN.out]; exact HNC.out) (by rw [← HM.out, ← HN.out]; exact hown6); have HP3 := Lib.hid P3; have HGR := Lib.hid hgr6; clear P3 hown6 hgr6)
      go_ret
      have hbb := below_next (below_next HB0.out HB.out) (belowNew wz (.cells #[.int .i64 q, .string (strOf t), .slice ag N cg] 32))
      exact ⟨_, rfl, by
        unfold addG
        rw [if_neg (by rw [HF.out]; exact Bool.false_ne_true)]
        exact HP3.out, by
        have hg := HGR.out
        exact ⟨hg.os.trans hbb.os, hg.tape.trans hbb.tape, hg.output.trans hbb.output, Nat.le_trans hbb.size hg.size, fun j hj hne => (hg.block j (Nat.lt_of_lt_of_le hj hbb.size) hne).trans (hbb.block j hj)⟩⟩
end Go.Proofs.YtofadgmnjckpcaaGreatDoor
namespace Go.Proofs.YtofadgmnjckpcaaGreatDoor
open Go.RowKit

theorem adds_snoc (l : List Gn) (k : Nat) (hk : k < l.length) : addsG [] (l.take (k + 1)) = addG (addsG [] (l.take k)) (l.getD k noG) := by
  unfold addsG
  rw [List.take_succ_eq_append_getElem hk, List.foldl_append, List.getD_eq_getElem?_getD, List.getElem?_eq_getElem hk]
  rfl
set_option maxRecDepth 100000 in
set_option maxHeartbeats 4000000 in
theorem distinct1_any (ag a : Option Addr) (cg c N m B : Nat) (q k : Int) (t u : List UInt8) (n r : Nm) (W : World) (g0 : W.cell? ⟨B, 0, none⟩ = some (.int .i64 q)) (g1 : W.cell? ⟨B, 1, none⟩ = some (.string (strOf t))) (g2 : W.cell? ⟨B, 2, none⟩ = some (.slice ag N cg)) (hB : B < W.heap.size)
    (hg : RLies W ag n) (hr : RLies W a r) (hN : N = n.length) (hmc : m ≤ c) (hm : m = r.length) (hs : SmG (q, t, n)) (hu : SmG (k, u, r)) (hmk : Mk W) :
    Calls Tryz.prog 58 (#[.agg #[.int .i64 k, .string (strOf u), .slice a m c]] ++ #[.pointer (some ⟨B, 0, none⟩)]) W fun e w' => e = .returned (.bool (sG (k, u, r) (q, t, n))) ∧ Below W.heap.size W w' := by
  obtain ⟨W0, hW0⟩ : ∃ W0, W0 = W.alloc (.cells #[.int .i64 k, .string (strOf u), .slice a m c] 32) := ⟨_, rfl⟩
  have hwr := hW0.symm
  have hb0 : Below W.heap.size W W0 := by rw [hW0]; exact belowNew W _
  obtain ⟨b0, b1, b2, lb⟩ := three_facts (w := W0) (g := W.heap.size) (by rw [hW0]; exact heap_alloc_new W _)
  have k0 := (hb0.cell (p := ⟨B, 0, none⟩) hB).trans g0
  have k1 := (hb0.cell (p := ⟨B, 1, none⟩) hB).trans g1
  have k2 := (hb0.cell (p := ⟨B, 2, none⟩) hB).trans g2
  have HB0 := Lib.hid hb0
  have HX := Lib.hid (gsame_core a ag c cg m N k q u t r n W0 (hr.below hb0) (hg.below hb0) hm hN hmc hu.1 hs.1 hu.2 hs.2 (hmk.below hb0))
  rw [show sameG k u r q t n = sG (k, u, r) (q, t, n) from rfl] at HX
  generalize sG (k, u, r) (q, t, n) = E at HX
  clear g0 g1 g2 hg hr hN hmc hm hs hu hmk hb0 hW0
  go_enter Tryz.func58, Tryz.ntmps58
  go_wp2_with (go_at_call 59; (with_reducible refine HX.out.mono ?_); rintro e w3 ⟨rfl, hb3⟩; have HB3 := Lib.hid (below_next HB0.out hb3); clear hb3)
  go_ret
  exact ⟨rfl, HB3.out⟩
set_option maxRecDepth 100000 in
set_option maxHeartbeats 4000000 in
/-- w is the world now, W the one in which the names lie. -/
theorem distinct_core (a0 : Option Addr) (c m : Nat) (l : List Gn) (W w : World) (hW : Below W.heap.size W w) (h : GLiesQ (fun a n => RLies W a n) w a0 l) (hm : m = l.length) (hmm : m ≤ 1000000) (hl : SmL l) (hmk : Mk w) :
    Calls Tryz.prog 42 #[.slice a0 m c] w fun e w' => ∃ v, e = .returned v ∧ RowQ (fun a n => RLies W a n) w' w.heap.size v (addsG [] l) ∧ (addsG [] l).length ≤ m ∧ SmL (addsG [] l) ∧ Below w.heap.size w w' := by
  obtain ⟨i0, hi, hz0, hz1, hz2⟩ := info_parts gInfo
  have HGL := Lib.hid h
  have HM := Lib.hid hm
  have HL := Lib.hid hl
  have HK := Lib.hid hmk
  have HWW := Lib.hid hW
  clear h hm hl hmk hW
  go_enter Tryz.func42, Tryz.ntmps42
  go_wp2_with fail
  go_loopw [3, 8] (fun v i wr => ∃ (k : Nat) (X : List Gn), k ≤ m ∧ i = .int .i64 k ∧ X = addsG [] (l.take k) ∧ X.length ≤ k ∧ SmL X ∧ RowQ (fun a n => RLies W a n) wr w.heap.size v X ∧ Below w.heap.size w wr) (fun _ i _ => m - (intOf i).toNat)
  case atStart => exact ⟨0, [], Nat.zero_le _, rfl, rfl, Nat.le_refl _, (fun _ h => nomatch h), RowQ.nil _ _ _, Below.refl _ _⟩
  case round =>
    obtain ⟨wz, hwz⟩ : ∃ wz, wz = wr := ⟨_, rfl⟩
    subst hwz
    obtain ⟨k, X, hk, rfl, hX, hXl, hXs, hrow, hb⟩ := hrel
    have HB := Lib.hid hb
    have HX := Lib.hid hX
    have HXS := Lib.hid hXs
    have HXL := Lib.hid hXl
    obtain ⟨av, cv, hv, _, hlv⟩ := hrow.lies
    subst hv
    obtain ⟨MX, hMX⟩ : ∃ MX, MX = X.length := ⟨_, rfl⟩
    have HMX := Lib.hid hMX
    have HROW := Lib.hid hrow
    rw [← hMX] at HROW HXL ⊢
    by_cases hlt : k < m
    · have hd : decide ((k : Int) < (m : Int)) = true := by simp; omega
      obtain ⟨b, o, rfl, hbl, e0, e1, a1, c1, e2, hc1, hL1⟩ := HGL.out.at k (by rw [← HM.out]; exact hlt)
      have f0 := (hb.cell (p := ⟨b, o + k * 3, none⟩) hbl).trans e0
      have f1 := (hb.cell (p := ⟨b, o + k * 3 + 1, none⟩) hbl).trans e1
      have f2 := (hb.cell (p := ⟨b, o + k * 3 + 2, none⟩) hbl).trans e2
      have hst := adds_snoc l k (by rw [← HM.out]; exact hlt)
      have hsm := HL.out (l.getD k noG) (by rw [List.getD_eq_getElem?_getD, List.getElem?_eq_getElem (by rw [← HM.out]; exact hlt)]; exact List.getElem_mem _)
      rw [← hX] at hst
      have HST := Lib.hid hst
      clear e0 e1 e2 hbl hst hX
      generalize l.getD k noG = G at f0 f1 f2 hsm hL1 hc1 HST
      obtain ⟨q, t, n⟩ := G
      simp only at f0 f1 f2 hsm hL1 hc1 HST
      obtain ⟨N, hN⟩ : ∃ N, N = n.length := ⟨_, rfl⟩
      rw [← hN] at f2 hc1
      have HN := Lib.hid hN
      have HC1 := Lib.hid hc1
      have HS := Lib.hid hsm
      have HL1 := Lib.hid hL1
      obtain ⟨W2, hW2⟩ : ∃ W2, W2 = wz.alloc (.cells #[.int .i64 q, .string (strOf t), .slice a1 N c1] 32) := ⟨_, rfl⟩
      have hb2 : Below wz.heap.size wz W2 := by rw [hW2]; exact belowNew wz _
      obtain ⟨s0, s1, s2, ls⟩ := three_facts (w := W2) (g := wz.heap.size) (by rw [hW2]; exact heap_alloc_new wz _)
      have hwr := hW2.symm
      have hbw := below_next hb hb2
      have hWW := below_next HWW.out hbw
      have HB2 := Lib.hid hbw
      have HCF := Lib.hid (contf_core 58 #[.pointer (some ⟨wz.heap.size, 0, none⟩)] (enters_of Tryz.func58 (by kernel_rfl) rfl) (fun x => sG x (q, t, n)) SmG (fun a n => RLies W a n) (fun V => Below W2.heap.size W2 V) (fun V V' h hb => below_next h hb)
        (fun a c m' k' u r V hI hr hm' hmc hu => distinct1_any a1 a c1 c N m' wz.heap.size q k' t u n r V ((hI.cell (p := ⟨wz.heap.size, 0, none⟩) ls).trans s0) ((hI.cell (p := ⟨wz.heap.size, 1, none⟩) ls).trans s1) ((hI.cell (p := ⟨wz.heap.size, 2, none⟩) ls).trans s2) (Nat.lt_of_lt_of_le ls hI.size) (hL1.below (below_next hWW hI)) (hr.below (below_next hWW hI)) hN hmc hm' hsm hu ((HK.out.below hbw).below hI)) av cv MX X W2 (hlv.below hb2) hMX (by omega) (Below.refl _ _) hXs)
      have HSP := Lib.hid (show addG X (q, t, n) = if X.any (fun x => sG x (q, t, n)) = true then X else X ++ [(q, t, n)] from rfl)
      generalize X.any (fun x => sG x (q, t, n)) = P at HCF HSP
      have S0 := Lib.hid s0
      have S1 := Lib.hid s1
      have S2 := Lib.hid s2
      clear hb hMX hW2 hb2 hbw hWW hsm hL1 hc1 hN hXs hXl hrow hlv s0 s1 s2
      go_wp2_with fail
      refine HCF.out.mono ?_
      rintro e w3 ⟨rfl, hb3⟩
      have HB3 := Lib.hid (below_next HB2.out hb3)
      have s0 := (hb3.cell (p := ⟨wz.heap.size, 0, none⟩) ls).trans S0.out
      have s1 := (hb3.cell (p := ⟨wz.heap.size, 1, none⟩) ls).trans S1.out
      have s2 := (hb3.cell (p := ⟨wz.heap.size, 2, none⟩) ls).trans S2.out
      have hb23 : Below wz.heap.size wz w3 := below_next (by rw [← hwr]; exact belowNew wz _) hb3
      have HB23 := Lib.hid hb23
      clear hb3 HCF f0 f1 f2 hwr hb23
      cases P with
      | true =>
        have HSE := Lib.hid (show addsG [] (l.take (k + 1)) = X by rw [HST.out, HSP.out]; rfl)
        clear HSP
        go_wp2_with fail
        go_roundw
        case rel => exact ⟨k + 1, X, by omega, by go_num, HSE.out.symm, by rw [← HMX.out]; have := HXL.out; omega, HXS.out, HROW.out.below HB23.out, HB3.out⟩
        case measure => simp [intOf]; omega
      | false =>
        have HSE := Lib.hid (show addsG [] (l.take (k + 1)) = X ++ [(q, t, n)] by rw [HST.out, HSP.out]; rfl)
        clear HSP
        obtain ⟨ss, hv1, hv2, hv3⟩ := HROW.out
        rw [← HMX.out] at hv2
        have HV1 := Lib.hid hv1
        have HV2 := Lib.hid (own_below hv2 HB23.out)
        have HV3 := Lib.hid hv3
        clear hv1 hv2 hv3
        go_wp2_with (at_builtin; (refine wpList_append_own _ rfl (.tmp 16) (.tmp 18) 25 rfl w.heap.size 32 i0 (.agg #[.int .i64 0, .string ⟨#[]⟩, .slice none 0 0]) 3 48 Tryz.underlying25 hi hz0 hz1 hz2 rfl (by decide) (.slice av MX cv) MX (gsCells X ss) rfl (own_below HV2.out (belowNew _ _)) ⟨w3.heap.size, 0, none⟩ 1 1 (gCells (q, t, n) (.slice a1 N c1)) rfl rfl (fun j u h => news_row w3 #[.int .i64 q, .string (strOf t), .slice a1 N c1] 32 j u (by simpa [gCells] using h)) (gCells_one _ _ _ _) (by have := HXL.out; unfold maxLen; omega) (by have := HXL.out; omega) (by have := HB3.out.size; simp; omega) ?_); intro v' w6 hown6 hgr6 _; have P3 := RowQ.snoc (Q := fun a m => RLies W a m) (a := a1) (c := c1) (g := (q, t, n)) HV1.out HV3.out HL1.out (by rw [← HN.out]; exact HC1.out) (by rw [← HMX.out, ← HN.out]; exact hown6); have P2 := (HB3.out.trans ((belowNew w3 _).mono HB3.out.size)).grown hgr6 (by have := HB3.out.size; simp; omega) (fun j e => (World.ownsRow.lt HV2.out j e).1); have HP3 := Lib.hid P3; have HP2 := Lib.hid P2; clear P2 P3 hown6 hgr6)
        go_roundw
        case rel => exact ⟨k + 1, X ++ [(q, t, n)], by omega, by go_num, HSE.out.symm, by rw [List.length_append, ← HMX.out]; have := HXL.out; simp; omega, (fun x hx => by
          rcases List.mem_append.1 hx with hx | hx
          · exact HXS.out x hx
          · rw [List.mem_singleton.1 hx]; exact HS.out), HP3.out, HP2.out⟩
        case measure => simp [intOf]; omega
    · have hd : decide ((k : Int) < (m : Int)) = false := by simp; omega
      obtain rfl : k = m := by omega
      have HT := Lib.hid (show X = addsG [] l by rw [hX, List.take_of_length_le (by rw [← HM.out]; exact Nat.le_refl _)])
      clear hX hXl hXs hrow hlv hMX hb
      go_wp2_with fail
      go_ret
      exact ⟨_, rfl, by rw [← HT.out]; exact HROW.out, by rw [← HT.out, ← HMX.out]; exact HXL.out, by rw [← HT.out]; exact HXS.out, HB.out⟩
end Go.Proofs.YtofadgmnjckpcaaGreatDoor
