/-
  The walk of the law SubtreeOrder: for every slice of ints it returns true, and leaves all that was there as it was.
-/
import Derived.Test.YtjdfgalcnbnobaaDoorAaw
import Derived.Test.YtjdfgalcnbnobaaDoorAbl
import Derived.Deep.CutRange
import Derived.Deep.DeepCutAuto
import Derived.Deep.RegionWith
import Derived.Deep.RegionHeld3
import Derived.Lib.QuietBelow
import Derived.BigQuiet
namespace Go.Proofs.YtjdfgalcnbnobaaDoor
open Go.RowKit

/-- The constraints of st and of back, in the cells of blocks g and g + 1. -/
def Ord (w1 wr : World) (p : Nat) (a : Option Addr) (cap : Nat) (zs : List Int) (B g : Nat) (v u : Value) (L R : List Sub) (k : Nat) : Prop :=
  wr.heap[g]? = some (.cells #[v] 27 (0, 0)) ∧ wr.heap[g + 1]? = some (.cells #[u] 27 (0, 0)) ∧ OwnSb wr B v L ∧ OwnSb wr B u R ∧ DeckAt wr p a cap zs k ∧ But p w1 wr ∧ p < B ∧ B ≤ g ∧ w1.heap.size ≤ B
theorem Ord.call {w1 wr w5 : World} {p : Nat} {a : Option Addr} {cap : Nat} {zs : List Int} {B g : Nat} {v u : Value} {L R : List Sub} {k k5 : Nat} (h : Ord w1 wr p a cap zs B g v u L R k) (hb : But p wr w5) (hd : DeckAt w5 p a cap zs k5) : Ord w1 w5 p a cap zs B g v u L R k5 := by
  obtain ⟨h1, h2, h3, h4, h5, h6, h7, h8, h9⟩ := h
  exact ⟨(hb.block _ (Array.getElem?_eq_some_iff.1 h1).1 (by simp; omega)).trans h1, (hb.block _ (Array.getElem?_eq_some_iff.1 h2).1 (by simp; omega)).trans h2, h3.but hb h7, h4.but hb h7, hd, h6.next hb, h7, h8, h9⟩
theorem Ord.below {w1 wr w5 : World} {p : Nat} {a : Option Addr} {cap : Nat} {zs : List Int} {B g : Nat} {v u : Value} {L R : List Sub} {k : Nat} (h : Ord w1 wr p a cap zs B g v u L R k) (hb : Below wr.heap.size wr w5) : Ord w1 w5 p a cap zs B g v u L R k := by
  obtain ⟨h1, h2, h3, h4, h5, h6, h7, h8, h9⟩ := h
  exact ⟨(hb.block _ (Array.getElem?_eq_some_iff.1 h1).1).trans h1, (hb.block _ (Array.getElem?_eq_some_iff.1 h2).1).trans h2, h3.below hb, h4.below hb, h5.below hb, h6.next (But.of hb), h7, h8, h9⟩
/-- A store into a block of a state behind them. -/
theorem Ord.other {w1 wr : World} {p : Nat} {a : Option Addr} {cap : Nat} {zs : List Int} {B g q : Nat} {v u x y : Value} {L R : List Sub} {k : Nat} (h : Ord w1 wr p a cap zs B g v u L R k) (hq : wr.heap[q]? = some (.cells #[x] 27 (0, 0))) (hg : g + 1 < q) : Ord w1 (wr.setCell ⟨q, 0, none⟩ y) p a cap zs B g v u L R k := by
  obtain ⟨h1, h2, h3, h4, h5, h6, h7, h8, h9⟩ := h
  have hs := But.set q 0 wr y
  exact ⟨(hs.block _ (Array.getElem?_eq_some_iff.1 h1).1 (by simp; omega)).trans h1, (hs.block _ (Array.getElem?_eq_some_iff.1 h2).1 (by simp; omega)).trans h2, h3.apart hq (by decide) (by decide) (by decide) (by decide) hs, h4.apart hq (by decide) (by decide) (by decide) (by decide) hs, h5.grown hs (fun j e => by obtain rfl := Option.some.inj e; omega), h6.fresh hs (by omega), h7, h8, h9⟩
theorem Ord.back {w1 wr : World} {p : Nat} {a : Option Addr} {cap : Nat} {zs : List Int} {B g : Nat} {v u y : Value} {L R R' : List Sub} {k : Nat} (h : Ord w1 wr p a cap zs B g v u L R k) (hy : OwnSb wr B y R') : Ord w1 (wr.setCell ⟨g + 1, 0, none⟩ y) p a cap zs B g v y L R' k := by
  obtain ⟨h1, h2, h3, h4, h5, h6, h7, h8, h9⟩ := h
  have hs := But.set (g + 1) 0 wr y
  exact ⟨(hs.block _ (Array.getElem?_eq_some_iff.1 h1).1 (by simp)).trans h1, one_set h2, h3.apart h2 (by decide) (by decide) (by decide) (by decide) hs, hy.apart h2 (by decide) (by decide) (by decide) (by decide) hs, h5.grown hs (fun j e => by obtain rfl := Option.some.inj e; omega), h6.fresh hs (by omega), h7, h8, h9⟩
theorem rev_step (L : List Sub) (j : Nat) (h : j < L.length) : (L.drop j).reverse = (L.drop (j + 1)).reverse ++ [((L.getD j noSub).1, (L.getD j noSub).2)] := by
  have e : L.drop j = L.getD j noSub :: L.drop (j + 1) := by
    rw [List.getD_eq_getElem?_getD, List.getElem?_eq_getElem h]
    exact (List.drop_eq_getElem_cons h)
  rw [e, List.reverse_cons]

set_option maxRecDepth 100000 in
set_option maxHeartbeats 8000000 in
theorem sordlaw (a : Option Addr) (cap : Nat) (zs : List Int) (w : World) (hl : ILies w a zs) (hz : zs.length ≤ 9223372036854775807) (hm : Mk w) :
    Calls Tryd.prog 3 #[.slice a zs.length cap] w fun e w' => e = .returned (.bool true) ∧ Below w.heap.size w w' := by
  have HAW := Lib.hid (fun V (hb : Below w.heap.size w V) => awake_core V (hm.below hb))
  have HMX := Lib.hid (fun V (hb : Below w.heap.size w V) => hm.below hb)
  have HNW := Lib.hid (new_any a cap zs w hl hz)
  clear hl hz hm
  go_enter Tryd.func3, Tryd.ntmps3
  go_upto_region 2 with (go_at_call 4; (with_reducible refine HNW.out.mono ?_); rintro e w1 ⟨rfl, hd1, hb1⟩; have HD1 := Lib.hid hd1; have HB1 := Lib.hid hb1; clear hd1 hb1)
  obtain ⟨p, hp⟩ : ∃ p, p = w.heap.size := ⟨_, rfl⟩
  have HP := Lib.hid hp
  rw [← hp] at HD1 ⊢
  have HN1 := Lib.hid (state_any p a cap zs 0 w1 HD1.out (by omega))
  clear hp HNW
  go_upto_region 3 with (go_at_call 5; (with_reducible refine HN1.out.mono ?_); rintro e w2 ⟨v, L, k2, hL4, hG, rfl, ho, hd2, hk2, hb2⟩; obtain ⟨av, cv, rfl, _, _⟩ := ho.lies; have HG := Lib.hid hG; have HL4 := Lib.hid hL4; have HO2 := Lib.hid ho; have HD2 := Lib.hid hd2; have HK2 := Lib.hid hk2; have HB2 := Lib.hid hb2; clear ho hd2 hk2 hb2 hG hL4)
  obtain ⟨NL, hNL⟩ : ∃ NL, NL = L.length := ⟨_, rfl⟩
  have HNL := Lib.hid hNL
  rw [← hNL] at HO2 HL4 ⊢
  clear hNL HN1
  obtain ⟨W4, hW4⟩ : ∃ W4, W4 = (w2.alloc (.cells #[.slice av NL cv] 27)).alloc (.cells #[.slice none 0 0] 27) := ⟨_, rfl⟩
  have hb4 : Below w2.heap.size w2 W4 := by rw [hW4]; exact belowTwo w2 _ _
  obtain ⟨g, hg⟩ : ∃ g, g = w2.heap.size := ⟨_, rfl⟩
  have hq0 : W4.heap[g]? = some (.cells #[.slice av NL cv] 27 (0, 0)) := by rw [hW4, hg, heap_first]; exact heap_alloc_new w2 _
  have hq1 : W4.heap[g + 1]? = some (.cells #[.slice none 0 0] 27 (0, 0)) := by rw [hW4, hg]; exact heap_second w2 _ _ _
  obtain ⟨B, hB⟩ : ∃ B, B = w1.heap.size := ⟨_, rfl⟩
  rw [← hB] at HO2
  have HORD := Lib.hid (show Ord w1 W4 p a cap zs B g (.slice av NL cv) (.slice none 0 0) L [] k2 from ⟨hq0, hq1, HO2.out.below hb4, OwnSb.nil _ _, HD2.out.below hb4, HB2.out.next (But.of hb4), by rw [hB]; exact HD1.out.lt, by rw [hB, hg]; exact HB2.out.size, by rw [hB]; exact Nat.le_refl _⟩)
  have HBW := Lib.hid (fun V (h : But p w1 V) => show Below w.heap.size w V from HB1.out.trans (by rw [← HP.out]; exact h.below (Nat.le_of_lt HD1.out.lt)))
  have HOK := Lib.hid (genB_ok HG.out (by rw [← HNL.out]; exact Nat.le_trans HL4.out (by omega)))
  have HWE := Lib.hid hW4.symm
  have HGE := Lib.hid hg
  obtain ⟨y0, _, yl⟩ := one_facts hq0
  clear hb4 hq1 hB hW4 hg HO2 HD2 HB2 hq0
  go_upto_region 4 with (fail)
  rw [HWE.out, ← HGE.out]
  have HW2 := Lib.hid (show wrap64 ((NL : Int) - 1) = (NL : Int) - 1 by have := HL4.out; unfold wrap64; omega)
  go_wp2_with fail
  clear y0 yl
  go_loopw [6] (fun i wr => ∃ (j k : Nat) (u : Value) (z : Int), j ≤ NL ∧ z = (j : Int) - 1 ∧ i = .int .i64 z ∧ Ord w1 wr p a cap zs B g (.slice av NL cv) u L (L.drop j).reverse k ∧ k ≤ 321) (fun i _ => (intOf i + 1).toNat)
  case atStart => exact ⟨NL, k2, _, _, Nat.le_refl _, HW2.out, rfl, by rw [List.drop_of_length_le (by rw [← HNL.out]; exact Nat.le_refl _)]; exact HORD.out, by have := HK2.out; omega⟩
  case round =>
    obtain ⟨wz, hwz⟩ : ∃ wz, wz = wr := ⟨_, rfl⟩
    subst hwz
    obtain ⟨j, k, u, z, hj, hzj, rfl, ho, hk⟩ := hrel
    obtain ⟨au, cu, rfl, hcu, hlu⟩ := ho.2.2.2.1.lies
    have HO := Lib.hid ho
    clear ho HORD HK2
    cases j with
    | succ j =>
      obtain rfl : z = (j : Int) := by omega
      clear hzj
      have hd : decide ((0 : Int) ≤ (j : Int)) = true := by simp
      have hki : (j : Int) < (NL : Int) := by omega
      obtain ⟨a', c', e', hcv, hlv⟩ := HO.out.2.2.1.lies
      obtain ⟨rfl, hnn, rfl⟩ := slice_inj e'
      clear hnn
      obtain ⟨b, o, rfl, hbl, a1, c1, a2, c2, e0, e1, ⟨hc1, hL1⟩, hc2, hL2⟩ := hlv.at j (by rw [← HNL.out]; omega)
      have hst := rev_step L j (by rw [← HNL.out]; omega)
      have hsm := HOK.out.1.at (i := j) (by rw [← HNL.out]; omega)
      have hzz := HOK.out.sz (i := j) (by rw [← HNL.out]; omega)
      generalize L.getD j noSub = G at e0 e1 hL1 hL2 hc1 hc2 hst hsm hzz
      obtain ⟨A, A2⟩ := G
      simp only at e0 e1 hL1 hL2 hc1 hc2 hst hsm hzz
      obtain ⟨NA, hNA⟩ : ∃ NA, NA = A.length := ⟨_, rfl⟩
      obtain ⟨NB, hNB⟩ : ∃ NB, NB = A2.length := ⟨_, rfl⟩
      obtain ⟨NR, hNR⟩ : ∃ NR, NR = (L.drop (j + 1)).reverse.length := ⟨_, rfl⟩
      have hnr : NR ≤ 4 := by rw [hNR, List.length_reverse, List.length_drop, ← HNL.out]; have := HL4.out; omega
      have HOR := Lib.hid (show OkS (L.drop (j + 1)).reverse from ⟨fun s hs => HOK.out.1 s (List.mem_of_mem_drop (List.mem_reverse.1 hs)), by rw [← hNR]; omega, fun s hs => HOK.out.2.2 s (List.mem_of_mem_drop (List.mem_reverse.1 hs))⟩)
      rw [← hNA] at e0 hzz
      rw [← hNB] at e1 hzz
      rw [← hNR] at HO
      obtain ⟨x0, _, xl⟩ := one_facts HO.out.1
      obtain ⟨v0, _, vl⟩ := one_facts HO.out.2.1
      have HADD := Lib.hid (add_core au a1 a2 cu NR c1 c2 NA NB (L.drop (j + 1)).reverse A A2 wz.drew (hlu.below (Below.refl _ _).drew) hNR HOR.out (by omega) (hL1.below (Below.refl _ _).drew) (hL2.below (Below.refl _ _).drew) hNA hNB hzz.1 hzz.2 hsm.1 hsm.2)
      rw [← hst] at HADD
      have hw3 : wrap64 ((j : Int) - 1) = (j : Int) - 1 := by have := HL4.out; unfold wrap64; omega
      have HNRL := Lib.hid (show (L.drop j).reverse.length = NR + 1 by rw [hst, List.length_append, ← hNR]; rfl)
      clear hst hsm hzz hL1 hL2 hc1 hc2 hNA hNB hNR hlu hlv hcv hcu HOR e'
      go_wp2_with fail
      go_region_with (go_at_call 6; (with_reducible refine HADD.out.mono ?_); rintro e w5 ⟨vv, rfl, ho5, hb5⟩; obtain ⟨a5, c5, hv5, _, _⟩ := ho5.lies; rw [HNRL.out] at hv5; subst hv5; have ho7 := HO.out.below ((Below.refl wz.heap.size wz).drew.trans hb5); obtain ⟨q0, q1, q2⟩ := one_facts ho7.2.1; have HO7 := Lib.hid ho7; have HO5 := Lib.hid (ho5.base (show B ≤ wz.drew.heap.size from Nat.le_trans HO.out.2.2.2.2.2.2.2.1 (Nat.le_of_lt xl))); clear ho5 hb5 ho7)
      all_goals
        go_wp2_with fail
        go_roundw
        case rel => exact ⟨j, k, _, (j : Int) - 1, by omega, rfl, by go_num, HO7.out.back HO5.out, hk⟩
        case measure => simp [intOf]; (try unfold wrap64); have := HL4.out; omega
    | zero =>
      obtain rfl : z = -1 := by omega
      clear hzj
      have hd : decide ((0 : Int) ≤ -1) = false := by decide
      rw [List.drop_zero] at HO hlu
      obtain ⟨NR, hNR⟩ : ∃ NR, NR = L.reverse.length := ⟨_, rfl⟩
      rw [← hNR] at HO
      have hnr : NR = NL := by rw [hNR, List.length_reverse, ← HNL.out]
      subst hnr
      clear hNR hlu hcu
      go_upto_region 8 with (fail)
      clear hd
      obtain ⟨wc, hwc⟩ : ∃ wc, wc = wz := ⟨_, rfl⟩
      subst hwc
      obtain ⟨c0, _, ltg⟩ := one_facts HO.out.1
      have ltg1 := (Array.getElem?_eq_some_iff.1 HO.out.2.1).1
      have hne3 : ¬ g = wc.heap.size := by omega
      have hne3' : ¬ wc.heap.size = g := by omega
      have HD := Lib.hid HO.out.2.2.2.2.1
      have hpg : p < g := by have := HO.out.2.2.2.2.2.2.1; have := HO.out.2.2.2.2.2.2.2.1; omega
      go_cut [7] (fun s7 wx => ∃ (b k3 : Nat) (x : Value) (s : Sub), s7 = .pointer (some ⟨b, 0, none⟩) ∧ g + 1 < b ∧ wx.heap[b]? = some (.cells #[x] 27 (0, 0)) ∧ OwnSb wx B x (L ++ [s]) ∧ GenB s ∧ Ord w1 wx p a cap zs B g (.slice av NR cv) (.slice au NR cu) L L.reverse k3 ∧ k3 ≤ 401)
      case first =>
        go_region_held3 (fun w' => w'.cell? ⟨g, 0, none⟩ = some (.slice av NR cv)) (first | assumption | go_keep)
          (first
            | (go_at_call 7; (with_reducible refine (subtrees_any p a cap zs k _ (by first | exact HD.out | exact deck_up_s HD.out | exact HD.out.below (belowNew _ _) | exact deck_up_s (HD.out.below (belowNew _ _)) | exact (deck_up_s HD.out).below (belowNew _ _)) (by omega)).mono ?_); rintro e w5 ⟨x5, z5, A5, B5, k5, hG5, rfl, hoA, hoB, hd5, hk5, hb5⟩; obtain ⟨a5, c5, rfl, hc5, hl5⟩ := hoA.lies; obtain ⟨b5, d5, rfl, hd5', hm5⟩ := hoB.lies; have hbx : But p wc w5 := (by first | exact ((But.refl p wc).drew).next hb5 | exact ((But.of (belowNew wc _)).drew).next hb5 | exact (((But.refl p wc).drew).alloc _).next hb5); have ho5 := HO.out.call hbx hd5; have c4 : w5.cell? ⟨g, 0, none⟩ = some (.slice av NR cv) := (one_facts ho5.1).1; have hlt4 : g < w5.heap.size := block_lt c4; have hlt4' := (Array.getElem?_eq_some_iff.1 ho5.2.1).1; have hne4 : ¬ g = w5.heap.size := (by omega); have hne4' : ¬ w5.heap.size = g := (by omega); (try (have h9 : w5.heap[wc.heap.size]? = some (.cells #[.slice none 0 0] 27 (0, 0)) := (hb5.block wc.heap.size (by simp) (by simp; omega)).trans (heap_alloc_new wc _); have H9 := Lib.hid h9; clear h9)); have HADD := Lib.hid (fun W (hb : Below w5.heap.size w5 W) => add_core av a5 b5 cv NR c5 d5 A5.length B5.length L A5 B5 W (lies_of (ho5.2.2.1.below hb)) HNL.out HOK.out (by have := HL4.out; omega) (hl5.below hb) (hm5.below hb) rfl rfl (by have := hG5.1; simp only at this; omega) (by have := hG5.2.1; simp only at this; omega) (sm_gen hG5.2.2.2.1) (sm_gen hG5.2.2.2.2)); have HG5 := Lib.hid hG5; have HO5 := Lib.hid ho5; have HK5 := Lib.hid hk5; have HBX := Lib.hid hbx.size; clear hoA hoB hd5 hk5 hb5 hG5 ho5 hl5 hm5 hbx hc5 hd5')
            | (go_at_call 6; (with_reducible refine (HADD.out _ (by first | exact Below.refl _ _ | exact (Below.refl _ _).drew | exact belowNew _ _ | exact (belowNew _ _).drew)).mono ?_); rintro e w6 ⟨vv, rfl, ho6, hb6⟩; obtain ⟨a6, c6, hv6, _, _⟩ := ho6.lies; rw [List.length_append, List.length_singleton, ← HNL.out] at hv6; subst hv6; have hbz : Below w5.heap.size w5 w6 := (by first | exact hb6 | exact (Below.refl _ _).drew.trans hb6 | exact below_next (belowNew w5 _) hb6 | exact below_next (belowNew w5 _).drew hb6); have ho8 := HO5.out.below hbz; have c8 : w6.cell? ⟨g, 0, none⟩ = some (.slice av NR cv) := (one_facts ho8.1).1; have hlt8 : g < w6.heap.size := block_lt c8; have hne5 : ¬ g = w6.heap.size := (by omega); have hne5' : ¬ w6.heap.size = g := (by omega); (try (have h7 : w6.heap[w5.heap.size]? = some (.cells #[.slice none 0 0] 27 (0, 0)) := (hb6.block w5.heap.size (by simp)).trans (heap_alloc_new w5 _); obtain ⟨z0, z1, z2⟩ := one_facts h7; have H7 := Lib.hid h7; clear h7)); (try (have h7 : w6.heap[wc.heap.size]? = some (.cells #[.slice none 0 0] 27 (0, 0)) := (hbz.block wc.heap.size (Array.getElem?_eq_some_iff.1 H9.out).1).trans H9.out; obtain ⟨z0, z1, z2⟩ := one_facts h7; have H7 := Lib.hid h7; clear h7)); have HO8 := Lib.hid ho8; have HO6 := Lib.hid (ho6.base (show B ≤ _ from Nat.le_trans HO5.out.2.2.2.2.2.2.2.1 (by first | exact Nat.le_of_lt hlt4 | (simp; omega)))); have HBZ := Lib.hid hbz.size; clear hbz ho6 hb6 ho8))
        all_goals go_wp2_with fail
        all_goals go_meet
        · exact ⟨_, k5, _, (A5, B5), rfl, by have := HBZ.out; omega, heap_alloc_new w6 _, HO6.out.below (belowNew w6 _), HG5.out, HO8.out.below (belowNew w6 _), by have := HK5.out; omega⟩
        · exact ⟨_, k5, _, (A5, B5), rfl, by omega, one_set H7.out, HO6.out.apart H7.out (by decide) (by decide) (by decide) (by decide) (But.set _ 0 _ _), HG5.out, HO8.out.other H7.out (by omega), by have := HK5.out; omega⟩
        · exact ⟨_, k5, _, (A5, B5), rfl, by omega, one_set H7.out, HO6.out.apart H7.out (by decide) (by decide) (by decide) (by decide) (But.set _ 0 _ _), HG5.out, HO8.out.other H7.out (by omega), by have := HK5.out; omega⟩
      case rest =>
        obtain ⟨bm, k3, x, s, rfl, hbm, hqm, hom, hgs, ho, hk3⟩ := hcut
        obtain ⟨am, cm, hxm, _, _⟩ := hom.lies
        rw [List.length_append, List.length_singleton, ← HNL.out] at hxm
        subst hxm
        have HO := Lib.hid ho
        have HQM := Lib.hid hqm
        have HOM := Lib.hid hom
        have HGS := Lib.hid hgs
        have HOKM := Lib.hid (OkS.snoc (s := s) HOK.out (by rw [← HNL.out]; have := HL4.out; omega) (sm_gen hgs.2.2.2.1) (sm_gen hgs.2.2.2.2) (Nat.le_trans hgs.1 (by omega)) (Nat.le_trans hgs.2.1 (by omega)))
        have HOKR := Lib.hid (show OkS L.reverse from ⟨fun s hs => HOK.out.1 s (List.mem_reverse.1 hs), by rw [List.length_reverse]; exact HOK.out.2.1, fun s hs => HOK.out.2.2 s (List.mem_reverse.1 hs)⟩)
        clear ho hqm hom hgs c0 ltg ltg1 hne3 hne3' HD
        go_wp2_with fail
        go_loopw [8] (fun i wr => ∃ j k : Nat, j ≤ 8 ∧ i = .int .i64 (j : Int) ∧ Ord w1 wr p a cap zs B g (.slice av NR cv) (.slice au NR cu) L L.reverse k ∧ wr.heap[bm]? = some (.cells #[.slice am (NR + 1) cm] 27 (0, 0)) ∧ OwnSb wr B (.slice am (NR + 1) cm) (L ++ [s]) ∧ k ≤ 401 + 12 * j) (fun i _ => 8 - (intOf i).toNat)
        case atStart => exact ⟨0, k3, Nat.zero_le _, rfl, HO.out, HQM.out, HOM.out, by omega⟩
        case round =>
          obtain ⟨wz, hwz⟩ : ∃ wz, wz = wr := ⟨_, rfl⟩
          subst hwz
          obtain ⟨j, k, hj, rfl, ho, hqm, hom, hk⟩ := hrel
          have HO := Lib.hid ho
          have HQM := Lib.hid hqm
          have HOM := Lib.hid hom
          by_cases hlt : j < 8
          · have hd : decide ((j : Int) < 8) = true := decide_eq_true (by omega)
            have HLT := Lib.hid hlt
            have HGN := Lib.hid (general_any p a cap zs k wz ho.2.2.2.2.1 (by omega))
            clear ho hqm hom hj
            go_upto_region 13 with (go_at_call 8; (with_reducible refine HGN.out.mono ?_); rintro e w4 ⟨q, t, sq, n, k5, hGG, rfl, hso, hd4, hk4, hb4⟩; obtain ⟨aq, cq, rfl, hcq, hlq⟩ := hso.lies; have HO4 := Lib.hid (HO.out.call hb4 hd4); have HMB4 := Lib.hid ((hb4.block bm (Array.getElem?_eq_some_iff.1 HQM.out).1 (by simp; omega)).trans HQM.out); have HMO4 := Lib.hid (HOM.out.but hb4 HO.out.2.2.2.2.2.2.1); have HLQ := Lib.hid hlq; have HCQ := Lib.hid hcq; have HGG := Lib.hid (gen_len hGG); have HK5 := Lib.hid (show k5 ≤ k + 12 from hk4); clear hGG hso hd4 hk4 hb4 hlq hcq)
            obtain ⟨NQ, hNQ⟩ : ∃ NQ, NQ = n.length := ⟨_, rfl⟩
            rw [← hNQ] at HCQ ⊢
            obtain ⟨W5, hW5⟩ : ∃ W5, W5 = w4.alloc (.cells #[.int .i64 q, .string (strOf t), .slice aq NQ cq] 38) := ⟨_, rfl⟩
            have hb5 : Below w4.heap.size w4 W5 := by rw [hW5]; exact belowNew w4 _
            obtain ⟨x0, x1, x2, xl⟩ := three_facts (w := W5) (g := w4.heap.size) (by rw [hW5]; exact heap_alloc_new w4 _)
            rw [← hW5]
            have HO5 := Lib.hid (HO4.out.below hb5)
            have hmb5 := (hb5.block bm (Array.getElem?_eq_some_iff.1 HMB4.out).1).trans HMB4.out
            have HMB5 := Lib.hid hmb5
            have HLM := Lib.hid (Array.getElem?_eq_some_iff.1 hmb5).1
            have HMO5 := Lib.hid (HMO4.out.below hb5)
            have y0 := cell_regrown x0
            have y1 := cell_regrown x1
            have y2 := cell_regrown x2
            have y3 := cell_regrown (one_facts HO5.out.1).1
            have y4 := cell_regrown (one_facts HO5.out.2.1).1
            have y5 := cell_regrown (one_facts hmb5).1
            have hsg : SmG (q, t, n) := ⟨by have := HGG.out.1; simp only; omega, made_small HGG.out.2⟩
            have HP1 := Lib.hid (fun W (hb : Below W5.heap.size W5 W) => permits_core av aq cv NR cq NQ L q t n W (lies_of (HO5.out.2.2.1.below hb)) HNL.out (by have := HL4.out; omega) ((HLQ.out.below hb5).below hb) hNQ HCQ.out hsg HOK.out.1 HOK.out.2.2 (HMX.out W (below_next (HBW.out W5 HO5.out.2.2.2.2.2.1) hb)))
            have HP2 := Lib.hid (fun W (hb : Below W5.heap.size W5 W) => permits_core au aq cu NR cq NQ L.reverse q t n W (lies_of (HO5.out.2.2.2.1.below hb)) (by rw [List.length_reverse]; exact HNL.out) (by have := HL4.out; omega) ((HLQ.out.below hb5).below hb) hNQ HCQ.out hsg HOKR.out.1 HOKR.out.2.2 (HMX.out W (below_next (HBW.out W5 HO5.out.2.2.2.2.2.1) hb)))
            have HP3 := Lib.hid (fun W (hb : Below W5.heap.size W5 W) => permits_core am aq cm (NR + 1) cq NQ (L ++ [s]) q t n W (lies_of (HMO5.out.below hb)) (by rw [List.length_append, ← HNL.out]; rfl) (by have := HL4.out; omega) ((HLQ.out.below hb5).below hb) hNQ HCQ.out hsg HOKM.out.1 HOKM.out.2.2 (HMX.out W (below_next (HBW.out W5 HO5.out.2.2.2.2.2.1) hb)))
            rw [per_reverse] at HP2
            have hmore := per_more L s (q, t, n)
            generalize perG L (q, t, n) = P1 at HP1 HP2 hmore
            generalize perG (L ++ [s]) (q, t, n) = P3 at HP3 hmore
            have z1 : ∀ d os, _ := fun d os => Calls.regrown_of (HP1.out (Sort.grow (redrawn W5 d) os) (below_regrown W5 d os))
            have z2 : ∀ d os, _ := fun d os => Calls.regrown_of (HP2.out (Sort.grow (redrawn W5 d) os) (below_regrown W5 d os))
            have z3 : ∀ d os, _ := fun d os => Calls.regrown_of (HP3.out (Sort.grow (redrawn W5 d) os) (below_regrown W5 d os))
            clear x0 x1 x2 xl hmb5 hsg HP1 HP2 HP3 hW5 hNQ hb5 HO4 HMB4 HMO4 HGN
            cases P1 with
            | true =>
              cases P3 with
              | true =>
                go_wp2_with fail
                refine wp_region_quiet_below (by kernel_rfl) (by kernel_rfl) ?_
                repeat (go_big_quiet_step (with_reducible first | exact z1 _ _ | exact z2 _ _ | exact z3 _ _))
                refine wpQuiet_nil ?_
                intro _ hw'
                obtain ⟨⟨dq, osq⟩, hw''⟩ := hw'
                subst hw''
                have HO6 := Lib.hid (HO5.out.below (below_regrown W5 dq osq))
                have HM6 := Lib.hid ((below_regrown W5 dq osq).block bm HLM.out |>.trans HMB5.out)
                have HMO6 := Lib.hid (HMO5.out.below (below_regrown W5 dq osq))
                clear z1 z2 z3 y0 y1 y2 y3 y4 y5
                go_wp2_with fail
                go_roundw
                case rel => exact ⟨j + 1, k5, by have := HLT.out; omega, by go_num, HO6.out, HM6.out, HMO6.out, by have := HK5.out; omega⟩
                case measure => simp [intOf]; omega
              | false =>
                go_wp2_with fail
                refine wp_region_quiet_below (by kernel_rfl) (by kernel_rfl) ?_
                repeat (go_big_quiet_step (with_reducible first | exact z1 _ _ | exact z2 _ _ | exact z3 _ _))
                refine wpQuiet_nil ?_
                intro _ hw'
                obtain ⟨⟨dq, osq⟩, hw''⟩ := hw'
                subst hw''
                have HO6 := Lib.hid (HO5.out.below (below_regrown W5 dq osq))
                have HM6 := Lib.hid ((below_regrown W5 dq osq).block bm HLM.out |>.trans HMB5.out)
                have HMO6 := Lib.hid (HMO5.out.below (below_regrown W5 dq osq))
                clear z1 z2 z3 y0 y1 y2 y3 y4 y5
                go_wp2_with fail
                go_roundw
                case rel => exact ⟨j + 1, k5, by have := HLT.out; omega, by go_num, HO6.out, HM6.out, HMO6.out, by have := HK5.out; omega⟩
                case measure => simp [intOf]; omega
            | false =>
              cases P3 with
              | true => exact absurd (hmore rfl) (by decide)
              | false =>
                go_wp2_with fail
                refine wp_region_quiet_below (by kernel_rfl) (by kernel_rfl) ?_
                repeat (go_big_quiet_step (with_reducible first | exact z1 _ _ | exact z2 _ _ | exact z3 _ _))
                refine wpQuiet_nil ?_
                intro _ hw'
                obtain ⟨⟨dq, osq⟩, hw''⟩ := hw'
                subst hw''
                have HO6 := Lib.hid (HO5.out.below (below_regrown W5 dq osq))
                have HM6 := Lib.hid ((below_regrown W5 dq osq).block bm HLM.out |>.trans HMB5.out)
                have HMO6 := Lib.hid (HMO5.out.below (below_regrown W5 dq osq))
                clear z1 z2 z3 y0 y1 y2 y3 y4 y5
                go_wp2_with fail
                go_roundw
                case rel => exact ⟨j + 1, k5, by have := HLT.out; omega, by go_num, HO6.out, HM6.out, HMO6.out, by have := HK5.out; omega⟩
                case measure => simp [intOf]; omega
          · have hd : decide ((j : Int) < 8) = false := decide_eq_false (by omega)
            have hx1 := HBW.out wz ho.2.2.2.2.2.1
            have HBZ := Lib.hid hx1
            have HA := Lib.hid (HAW.out wz hx1)
            clear ho hqm hom hx1
            have hw4 : wrap64 ((NR : Int) + 1) = (NR : Int) + 1 := by have := HL4.out; unfold wrap64; omega
            go_wp2_with (go_at_call 10; (with_reducible refine HA.out.mono ?_); rintro e w9 ⟨rfl, hb9⟩; have HB9 := Lib.hid (below_next HBZ.out hb9); have r0 := (one_facts (HO.out.below hb9).1).1; have r1 := (one_facts ((hb9.block bm (Array.getElem?_eq_some_iff.1 HQM.out).1).trans HQM.out)).1; clear hb9)
            go_ret
            exact ⟨by first | rfl | simp, HB9.out⟩
end Go.Proofs.YtjdfgalcnbnobaaDoor
