/-
  The walk of the law SubtreeSame: for every slice of ints it returns true, and leaves all that was there as it was.
-/
import Derived.Test.YtofadgmnjckpcaaGreatDoorUbl
import Derived.Test.YtofadgmnjckpcaaGreatDoorUbm
import Derived.Test.YtofadgmnjckpcaaGreatDoorUbi
import Derived.Test.YtofadgmnjckpcaaGreatDoorUbj
import Derived.Test.YtofadgmnjckpcaaGreatDoorUbd
import Derived.Deep.CutRange
import Derived.Deep.DeepCutAuto
import Derived.Deep.RegionWith
import Derived.Deep.RegionHeld3
import Derived.Lib.QuietBelow
import Derived.BigQuiet
namespace Go.Proofs.YtofadgmnjckpcaaGreatDoor
open Go.RowKit

/-- The state and the reduced one, in the cells of blocks g and r. -/
structure Sam (w1 wr : World) (p : Nat) (a : Option Addr) (cap : Nat) (zs : List Int) (B g r : Nat) (v uL uP uE : Value) (L : List Sub) (LL : List Int) (P E : List Gn) (k : Nat) : Prop where
  st : wr.heap[g]? = some (.cells #[v] 24 (0, 0))
  rd : wr.heap[r]? = some (.cells #[uL, uP, uE] 53 (0, 0))
  oS : OwnSb wr B v L
  oL : OwnZ wr B uL LL
  oP : OwnG wr B uP P
  oE : OwnG wr B uE E
  dk : DeckAt wr p a cap zs k
  bp : But p w1 wr
  pB : p < B
  Bg : B ≤ g
  Br : B ≤ r
  bB : w1.heap.size ≤ B
theorem Sam.call {w1 wr w5 : World} {p : Nat} {a : Option Addr} {cap : Nat} {zs : List Int} {B g r : Nat} {v uL uP uE : Value} {L : List Sub} {LL : List Int} {P E : List Gn} {k k5 : Nat} (h : Sam w1 wr p a cap zs B g r v uL uP uE L LL P E k) (hb : But p wr w5) (hd : DeckAt w5 p a cap zs k5) : Sam w1 w5 p a cap zs B g r v uL uP uE L LL P E k5 := by
  have := h.pB; have := h.Bg; have := h.Br
  exact ⟨(hb.block _ (Array.getElem?_eq_some_iff.1 h.st).1 (by simp; omega)).trans h.st, (hb.block _ (Array.getElem?_eq_some_iff.1 h.rd).1 (by simp; omega)).trans h.rd, h.oS.but hb h.pB, own_but h.oL hb h.pB, h.oP.but hb h.pB, h.oE.but hb h.pB, hd, h.bp.next hb, h.pB, h.Bg, h.Br, h.bB⟩
theorem Sam.below {w1 wr w5 : World} {p : Nat} {a : Option Addr} {cap : Nat} {zs : List Int} {B g r : Nat} {v uL uP uE : Value} {L : List Sub} {LL : List Int} {P E : List Gn} {k : Nat} (h : Sam w1 wr p a cap zs B g r v uL uP uE L LL P E k) (hb : Below wr.heap.size wr w5) : Sam w1 w5 p a cap zs B g r v uL uP uE L LL P E k :=
  ⟨(hb.block _ (Array.getElem?_eq_some_iff.1 h.st).1).trans h.st, (hb.block _ (Array.getElem?_eq_some_iff.1 h.rd).1).trans h.rd, h.oS.below hb, own_below h.oL hb, h.oP.below hb, h.oE.below hb, h.dk.below hb, h.bp.next (But.of hb), h.pB, h.Bg, h.Br, h.bB⟩

set_option maxRecDepth 100000 in
set_option maxHeartbeats 8000000 in
theorem ssamlaw (a : Option Addr) (cap : Nat) (zs : List Int) (w : World) (hl : ILies w a zs) (hz : zs.length ≤ 9223372036854775807) (hm : Mk w) (hk : SkT w) :
    Calls Tryz.prog 6 #[.slice a zs.length cap] w fun e w' => e = .returned (.bool true) ∧ Below w.heap.size w w' := by
  have HAW := Lib.hid (fun V (hb : Below w.heap.size w V) => awake_core V (hm.below hb))
  have HMX := Lib.hid (fun V (hb : Below w.heap.size w V) => hm.below hb)
  have HSK := Lib.hid (fun V (hb : Below w.heap.size w V) => hk.below hb)
  have HNW := Lib.hid (new_any a cap zs w hl hz)
  clear hl hz hm hk
  go_enter Tryz.func6, Tryz.ntmps6
  go_upto_region 2 with (go_at_call 10; (with_reducible refine HNW.out.mono ?_); rintro e w1 ⟨rfl, hd1, hb1⟩; have HD1 := Lib.hid hd1; have HB1 := Lib.hid hb1; clear hd1 hb1)
  obtain ⟨p, hp⟩ : ∃ p, p = w.heap.size := ⟨_, rfl⟩
  have HP := Lib.hid hp
  rw [← hp] at HD1 ⊢
  have HN1 := Lib.hid (state_any p a cap zs 0 w1 HD1.out (by omega))
  clear hp HNW
  go_upto_region 3 with (go_at_call 11; (with_reducible refine HN1.out.mono ?_); rintro e w2 ⟨v, L, k2, hL4, hG, rfl, ho, hd2, hk2, hb2⟩; obtain ⟨av, cv, rfl, _, _⟩ := ho.lies; have HG := Lib.hid hG; have HL4 := Lib.hid hL4; have HO2 := Lib.hid ho; have HD2 := Lib.hid hd2; have HK2 := Lib.hid hk2; have HB2 := Lib.hid hb2; clear ho hd2 hk2 hb2 hG hL4)
  obtain ⟨NL, hNL⟩ : ∃ NL, NL = L.length := ⟨_, rfl⟩
  have HNL := Lib.hid hNL
  rw [← hNL] at HO2 HL4 ⊢
  clear hNL HN1
  obtain ⟨W4, hW4⟩ : ∃ W4, W4 = w2.alloc (.cells #[.slice av NL cv] 24) := ⟨_, rfl⟩
  have hb4 : Below w2.heap.size w2 W4 := by rw [hW4]; exact belowNew w2 _
  obtain ⟨g, hg⟩ : ∃ g, g = w2.heap.size := ⟨_, rfl⟩
  have hq0 : W4.heap[g]? = some (.cells #[.slice av NL cv] 24 (0, 0)) := by rw [hW4, hg]; exact heap_alloc_new w2 _
  obtain ⟨B, hB⟩ : ∃ B, B = w1.heap.size := ⟨_, rfl⟩
  rw [← hB] at HO2
  have hBg : B ≤ g := by rw [hB, hg]; exact HB2.out.size
  have hpB : p < B := by rw [hB]; exact HD1.out.lt
  have HBW := Lib.hid (fun V (h : But p w1 V) => show Below w.heap.size w V from HB1.out.trans (by rw [← HP.out]; exact h.below (Nat.le_of_lt HD1.out.lt)))
  have HOK := Lib.hid (genB_ok HG.out (by rw [← HNL.out]; exact Nat.le_trans HL4.out (by omega)))
  have HZL := Lib.hid (show ∀ s ∈ L, s.1.length ≤ 100 ∧ s.2.length ≤ 100 from fun s hs => ⟨Nat.le_trans (HG.out s hs).1 (by omega), Nat.le_trans (HG.out s hs).2.1 (by omega)⟩)
  have HO4 := Lib.hid (HO2.out.below hb4)
  have HB4 := Lib.hid (HB2.out.next (But.of hb4))
  have HD4 := Lib.hid (HD2.out.below hb4)
  have HWE := Lib.hid hW4.symm
  have HGE := Lib.hid hg
  have HQ0 := Lib.hid hq0
  have HBB := Lib.hid (show w1.heap.size ≤ B by rw [hB]; exact Nat.le_refl _)
  have HRD := Lib.hid (reduce_core (fun a n => RLies W4 a n) av cv NL L W4 (by
    obtain ⟨a', c', e', _, hl⟩ := HO4.out.liesQ (fun a k c n h => own_rl_s h)
    rw [(slice_inj e').1]; exact hl) (fun V hV a n h => h.below hV) HNL.out (by have := HL4.out; omega) HZL.out HOK.out.1 (HMX.out W4 (HBW.out W4 HB4.out)) (HSK.out W4 (HBW.out W4 HB4.out)))
  obtain ⟨LL, hLL⟩ : ∃ LL, LL = limitedG L := ⟨_, rfl⟩
  obtain ⟨PP, hPP⟩ : ∃ PP, PP = permG L := ⟨_, rfl⟩
  obtain ⟨EE, hEE⟩ : ∃ EE, EE = exclG L := ⟨_, rfl⟩
  have HRL := Lib.hid (red_len (L := L) (by rw [← HNL.out]; have := HL4.out; omega) HZL.out)
  have HRS := Lib.hid (red_sm (L := L) HOK.out.1)
  have HSAME := Lib.hid (fun (k : Int) (t : List UInt8) (n : Nm) (hg : k ∈ kindsG) => reduce_genB HG.out (t := t) (n := n) hg)
  rw [← hLL, ← hPP, ← hEE] at HRD HSAME
  rw [← hLL, ← hPP, ← hEE] at HRL
  rw [← hPP, ← hEE] at HRS
  obtain ⟨y0, _, yl⟩ := one_facts hq0
  clear hb4 hB hW4 hg HO2 HD2 HB2 hq0 hLL hPP hEE HSK
  obtain ⟨NI, hNI⟩ : ∃ NI, NI = LL.length := ⟨_, rfl⟩
  obtain ⟨NP, hNP⟩ : ∃ NP, NP = PP.length := ⟨_, rfl⟩
  obtain ⟨NE, hNE⟩ : ∃ NE, NE = EE.length := ⟨_, rfl⟩
  have HNI := Lib.hid hNI
  have HNP := Lib.hid hNP
  have HNE := Lib.hid hNE
  rw [← hNI, ← hNP, ← hNE] at HRL
  clear hNI hNP hNE
  go_upto_region 4 with (first
    | (go_at_call 24; (with_reducible refine HRD.out.mono ?_); rintro e w5 ⟨uL, uP, uE, rfl, hoL, hoP, hoE, hb5⟩; obtain ⟨aL, cL, hvL, _, _⟩ := hoL.lies; obtain ⟨aP, cP, hvP, _, _⟩ := hoP.lies; obtain ⟨aE, cE, hvE, _, _⟩ := hoE.lies; rw [← HNI.out] at hvL; rw [← HNP.out] at hvP; rw [← HNE.out] at hvE; subst hvL hvP hvE; have HOL := Lib.hid hoL; have HOP := Lib.hid hoP; have HOE := Lib.hid hoE; have HB5 := Lib.hid hb5; clear hoL hoP hoE hb5)
    | (rw [HWE.out, ← HGE.out]))
  obtain ⟨W6, hW6⟩ : ∃ W6, W6 = w5.alloc (.cells #[.slice aL NI cL, .slice aP NP cP, .slice aE NE cE] 53) := ⟨_, rfl⟩
  have hb6 : Below w5.heap.size w5 W6 := by rw [hW6]; exact belowNew w5 _
  obtain ⟨r, hr⟩ : ∃ r, r = w5.heap.size := ⟨_, rfl⟩
  have h46 := below_next HB5.out hb6
  have hlw : B ≤ W4.heap.size := Nat.le_of_lt (Nat.lt_of_le_of_lt hBg yl)
  have HSAM := Lib.hid (show Sam w1 W6 p a cap zs B g r (.slice av NL cv) (.slice aL NI cL) (.slice aP NP cP) (.slice aE NE cE) L LL PP EE k2 from
    ⟨(h46.block g yl).trans HQ0.out, by rw [hW6, hr]; exact heap_alloc_new w5 _, HO4.out.below h46, own_base (own_below HOL.out hb6) hlw, (HOP.out.below hb6).base hlw, (HOE.out.below hb6).base hlw, HD4.out.below h46, HB4.out.next (But.of h46), hpB, hBg, by rw [hr]; exact Nat.le_trans hlw HB5.out.size, HBB.out⟩)
  rw [← hW6, ← hr]
  clear hW6 hb6 hr h46 hlw HRD y0 yl HWE HGE
  go_wp2_with fail
  go_loopw [6] (fun i wr => ∃ j k : Nat, j ≤ 8 ∧ i = .int .i64 (j : Int) ∧ Sam w1 wr p a cap zs B g r (.slice av NL cv) (.slice aL NI cL) (.slice aP NP cP) (.slice aE NE cE) L LL PP EE k ∧ k ≤ 321 + 12 * j) (fun i _ => 8 - (intOf i).toNat)
  case atStart => exact ⟨0, k2, Nat.zero_le _, rfl, HSAM.out, by have := HK2.out; omega⟩
  case round =>
    obtain ⟨wz, hwz⟩ : ∃ wz, wz = wr := ⟨_, rfl⟩
    subst hwz
    obtain ⟨j, k, hj, rfl, ho, hk⟩ := hrel
    have HO := Lib.hid ho
    by_cases hlt : j < 8
    · have hd : decide ((j : Int) < 8) = true := decide_eq_true (by omega)
      have HLT := Lib.hid hlt
      have HKK := Lib.hid hk
      have HGN := Lib.hid (general_any p a cap zs k wz ho.dk (by omega))
      clear ho hj hlt hk
      go_upto_region 8 with (go_at_call 15; (with_reducible refine HGN.out.mono ?_); rintro e w4 ⟨q, t, sq, n, k5, hGG, rfl, hso, hd4, hk4, hb4⟩; obtain ⟨aq, cq, rfl, hcq, hlq⟩ := hso.lies; have HO4 := Lib.hid (HO.out.call hb4 hd4); have HLQ := Lib.hid hlq; have HCQ := Lib.hid hcq; have HKD := Lib.hid (gen_kind hGG); have HGG := Lib.hid (gen_len hGG); have HK5 := Lib.hid (show k5 ≤ 321 + 12 * j + 12 from Nat.le_trans hk4 (by have := HKK.out; omega)); clear hGG hso hd4 hk4 hb4 hlq hcq)
      obtain ⟨NQ, hNQ⟩ : ∃ NQ, NQ = n.length := ⟨_, rfl⟩
      rw [← hNQ] at HCQ ⊢
      obtain ⟨W5, hW5⟩ : ∃ W5, W5 = w4.alloc (.cells #[.int .i64 q, .string (strOf t), .slice aq NQ cq] 32) := ⟨_, rfl⟩
      have hb5 : Below w4.heap.size w4 W5 := by rw [hW5]; exact belowNew w4 _
      obtain ⟨x0, x1, x2, xl⟩ := three_facts (w := W5) (g := w4.heap.size) (by rw [hW5]; exact heap_alloc_new w4 _)
      rw [← hW5]
      have HO5 := Lib.hid (HO4.out.below hb5)
      have y0 := cell_regrown x0
      have y1 := cell_regrown x1
      have y2 := cell_regrown x2
      have y3 := cell_regrown (one_facts HO5.out.st).1
      obtain ⟨e0, e1, e2, _⟩ := three_facts HO5.out.rd
      have y4 := cell_regrown e0
      have y5 := cell_regrown e1
      have y6 := cell_regrown e2
      have hsg : SmG (q, t, n) := ⟨by have := HGG.out.1; simp only; omega, made_small HGG.out.2⟩
      have HP1 := Lib.hid (fun W (hb : Below W5.heap.size W5 W) => permits_core av aq cv NL cq NQ L q t n W (lies_of (HO5.out.oS.below hb)) HNL.out (by have := HL4.out; omega) ((HLQ.out.below hb5).below hb) hNQ HCQ.out hsg HOK.out.1 HOK.out.2.2 (HMX.out W (below_next (HBW.out W5 HO5.out.bp) hb)))
      have HP2 := Lib.hid (fun W (hb : Below W5.heap.size W5 W) => pred_core aL aP aE aq cL NI cP cE NP NE cq NQ LL PP EE q t n W (own_z_lies (own_below HO5.out.oL hb)) HNI.out (by have := HRL.out.2.2; omega) (own_g_lies (HO5.out.oP.below hb)) (own_g_lies (HO5.out.oE.below hb)) HNP.out HNE.out ⟨by have := HRL.out.1; omega, by have := HRL.out.2.1; omega⟩ ((HLQ.out.below hb5).below hb) hNQ HCQ.out hsg HRS.out (HMX.out W (below_next (HBW.out W5 HO5.out.bp) hb)))
      rw [HSAME.out q t n HKD.out] at HP2
      generalize perG L (q, t, n) = P1 at HP1 HP2
      have z1 : ∀ d os, _ := fun d os => Calls.regrown_of (HP1.out (Sort.grow (redrawn W5 d) os) (below_regrown W5 d os))
      have z2 : ∀ d os, _ := fun d os => Calls.regrown_of (HP2.out (Sort.grow (redrawn W5 d) os) (below_regrown W5 d os))
      clear x0 x1 x2 xl e0 e1 e2 hsg HP1 HP2 hW5 hNQ hb5 HO4 HGN
      cases P1 with
      | true =>
        go_wp2_with fail
        refine wp_region_quiet_below (by kernel_rfl) (by kernel_rfl) ?_
        repeat (go_big_quiet_step (with_reducible first | exact z1 _ _ | exact z2 _ _))
        refine wpQuiet_nil ?_
        intro _ hw'
        obtain ⟨⟨dq, osq⟩, hw''⟩ := hw'
        subst hw''
        have HO6 := Lib.hid (HO5.out.below (below_regrown W5 dq osq))
        clear z1 z2 y0 y1 y2 y3 y4 y5 y6
        have hlt := HLT.out
        go_wp2_with fail
        go_roundw
        case rel => exact ⟨j + 1, k5, HLT.out, by go_num, HO6.out, by have := HK5.out; omega⟩
        case measure => have := HLT.out; simp [intOf]; omega
      | false =>
        go_wp2_with fail
        refine wp_region_quiet_below (by kernel_rfl) (by kernel_rfl) ?_
        repeat (go_big_quiet_step (with_reducible first | exact z1 _ _ | exact z2 _ _))
        refine wpQuiet_nil ?_
        intro _ hw'
        obtain ⟨⟨dq, osq⟩, hw''⟩ := hw'
        subst hw''
        have HO6 := Lib.hid (HO5.out.below (below_regrown W5 dq osq))
        clear z1 z2 y0 y1 y2 y3 y4 y5 y6
        have hlt := HLT.out
        go_wp2_with fail
        go_roundw
        case rel => exact ⟨j + 1, k5, HLT.out, by go_num, HO6.out, by have := HK5.out; omega⟩
        case measure => have := HLT.out; simp [intOf]; omega
    · have hd : decide ((j : Int) < 8) = false := decide_eq_false (by omega)
      have hx1 := HBW.out wz ho.bp
      have HBZ := Lib.hid hx1
      have HA := Lib.hid (HAW.out wz hx1)
      clear ho hx1
      go_wp2_with (go_at_call 9; (with_reducible refine HA.out.mono ?_); rintro e w9 ⟨rfl, hb9⟩; have HB9 := Lib.hid (below_next HBZ.out hb9); clear hb9)
      go_ret
      exact ⟨by first | rfl | simp, HB9.out⟩
end Go.Proofs.YtofadgmnjckpcaaGreatDoor
