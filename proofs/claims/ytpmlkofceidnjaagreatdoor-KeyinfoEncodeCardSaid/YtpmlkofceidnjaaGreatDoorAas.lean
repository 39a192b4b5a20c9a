/-
  The walk of the law KeyinfoEncode, over what is wanted of the program.
-/
import Derived.Test.YtpmlkofceidnjaaGreatDoorAar
import Derived.Test.YtpmlkofceidnjaaGreatDoorAak
import Derived.Deep.RegionLaw
namespace Go.Proofs.YtpmlkofceidnjaaGreatDoor
open Go.RowKit

theorem encKV_form (k : KeyT) : ∃ (E : Nat) (X : ByteArray), encKV k = .tuple #[.string X, .int .i64 (E : Int)] := by
  unfold encKV
  split
  · exact ⟨0, _, rfl⟩
  · exact ⟨18, _, rfl⟩
theorem six_row {W : World} {g : Nat} {a b c d e f : Value} {t : TypeId} (h : W.heap[g]? = some (.cells #[a, b, c, d, e, f] t (0, 0))) (j : Nat) (hj : j < 6) : W.cell? ⟨g, j, none⟩ = some ([a, b, c, d, e, f].getD j undef) := by
  rw [Lib.cell_of_heap h]
  obtain rfl | rfl | rfl | rfl | rfl | rfl : j = 0 ∨ j = 1 ∨ j = 2 ∨ j = 3 ∨ j = 4 ∨ j = 5 := by omega
  all_goals rfl
theorem next5k (p : Nat) (a : Option Addr) (cap : Nat) (zs : List Int) (k : Nat) (w : World) (h : DeckAt w p a cap zs k) (hk2 : k < 30000) :
    Calls Tryz.prog 9 #[.pointer (some ⟨p, 0, none⟩), .int .i64 5] w fun e w' => ∃ r k' : Nat, r < 5 ∧ e = .returned (.int .i64 (r : Int)) ∧ DeckAt w' p a cap zs k' ∧ k' ≤ k + 1 ∧ But p w w' :=
  next_any p a cap zs k 5 w h hk2 (by omega) (by omega)
theorem next30k (p : Nat) (a : Option Addr) (cap : Nat) (zs : List Int) (k : Nat) (w : World) (h : DeckAt w p a cap zs k) (hk2 : k < 30000) :
    Calls Tryz.prog 9 #[.pointer (some ⟨p, 0, none⟩), .int .i64 30] w fun e w' => ∃ r k' : Nat, r < 30 ∧ e = .returned (.int .i64 (r : Int)) ∧ DeckAt w' p a cap zs k' ∧ k' ≤ k + 1 ∧ But p w w' :=
  next_any p a cap zs k 30 w h hk2 (by omega) (by omega)
theorem key_set0 {w : World} {g : Nat} {x y z a : Value} {t : TypeId} (h : w.heap[g]? = some (.cells #[x, y, z] t (0, 0))) : (w.setCell ⟨g, 0, none⟩ a).heap[g]? = some (.cells #[a, y, z] t (0, 0)) := by
  simp [World.setCell, Array.getElem?_modify, h]
theorem key_set1 {w : World} {g : Nat} {x y z a : Value} {t : TypeId} (h : w.heap[g]? = some (.cells #[x, y, z] t (0, 0))) : (w.setCell ⟨g, 1, none⟩ a).heap[g]? = some (.cells #[x, a, z] t (0, 0)) := by
  simp [World.setCell, Array.getElem?_modify, h]
set_option maxRecDepth 100000 in
set_option maxHeartbeats 1000000 in
theorem kenc_out (hA : AlgPk) (hE : EncPk) (hD : DecPk) (h0 : Int) (id0 root0 : ByteArray) (a : Option Addr) (cap n : Nat) (hbig : 100 < id0.size ∨ 100 < root0.size) (w : World) (hP : Pow10 w) :
    Calls Tryz.prog 3 #[.agg #[.int .i64 h0, .string id0, .string root0], .slice a n cap] w fun e w' => e = .returned (.bool true) ∧ Below w.heap.size w w' := by
  have hq := key_new w (.int .i64 h0) (.string id0) (.string root0)
  obtain ⟨c0, c1, c2, hlt⟩ := kcell3 hq
  have HAW := Lib.hid (awakek_any hA hE hD (w.alloc (.cells #[.int .i64 h0, .string id0, .string root0] 23)) (hP.below (belowNew w _)))
  clear hA hE hD hP hq
  by_cases h1 : 100 < id0.size
  · have d1 : decide ((100 : Int) < (id0.size : Int)) = true := by simp; omega
    clear hbig h1
    go_enter Tryz.func3, Tryz.ntmps3
    go_wp2_with (go_at_call 6; (with_reducible refine HAW.out.mono ?_); rintro e w1 ⟨rfl, hb1⟩; have HB1 := Lib.hid (below_next (belowNew w _) hb1); clear hb1)
    go_ret
    exact ⟨rfl, HB1.out⟩
  · have d1 : decide ((100 : Int) < (id0.size : Int)) = false := by simp; omega
    have d2 : decide ((100 : Int) < (root0.size : Int)) = true := by simp; omega
    clear hbig h1
    go_enter Tryz.func3, Tryz.ntmps3
    go_wp2_with (go_at_call 6; (with_reducible refine HAW.out.mono ?_); rintro e w1 ⟨rfl, hb1⟩; have HB1 := Lib.hid (below_next (belowNew w _) hb1); clear hb1)
    go_ret
    exact ⟨rfl, HB1.out⟩
set_option maxRecDepth 100000 in
set_option maxHeartbeats 4000000 in
theorem kenc_in (hA : AlgPk) (hE : EncPk) (hD : DecPk) (hI : IdPk) (h0 : Int) (id0 root0 : ByteArray) (a : Option Addr) (cap : Nat) (zs : List Int) (hi0 : id0.size ≤ 100) (hr0 : root0.size ≤ 100) (w : World) (hP : Pow10 w) (hK : Holds w 0 kWords) (hli : ILies w a zs) (hz : zs.length ≤ 9223372036854775807) :
    Calls Tryz.prog 3 #[.agg #[.int .i64 h0, .string id0, .string root0], .slice a zs.length cap] w fun e w' => e = .returned (.bool true) ∧ Below w.heap.size w w' := by
  have d1 : decide ((100 : Int) < (id0.size : Int)) = false := by simp; omega
  have d2 : decide ((100 : Int) < (root0.size : Int)) = false := by simp; omega
  have HAW := Lib.hid (fun W hp => awakek_any hA hE hD W hp)
  obtain ⟨z, hzz⟩ : ∃ z, z = zs.length := ⟨_, rfl⟩
  have HND : Hid (∀ W : World, ILies W a zs → Calls Tryz.prog 7 #[.slice a z cap] W fun e w' => e = .returned (.pointer (some ⟨W.heap.size, 0, none⟩)) ∧ DeckAt w' W.heap.size a cap zs 0 ∧ Below W.heap.size W w') := Lib.hid fun W hl => by rw [hzz]; exact new_any a cap zs W hl hz
  have HEN := Lib.hid hE
  have HID := Lib.hid hI
  have hlt : ∀ x, a = some x → zs ≠ [] → x.block < w.heap.size := by
    intro x hx hne
    rcases hli with h | ⟨b, o, hb, hc⟩
    · exact absurd h hne
    · rw [hb] at hx
      obtain rfl := Option.some.inj hx
      exact block_lt_of_cell (hc 0 (List.length_pos_iff.2 hne))
  obtain ⟨W0, hW0⟩ : ∃ W0, W0 = w.alloc (.cells #[.int .i64 h0, .string id0, .string root0] 23) := ⟨_, rfl⟩
  have hb0 : Below w.heap.size w W0 := by rw [hW0]; exact belowNew w _
  have HQ0 : Hid (W0.heap[w.heap.size]? = some (.cells #[.int .i64 h0, .string id0, .string root0] 23 (0, 0))) := Lib.hid (by rw [hW0]; exact key_new w _ _ _)
  have HL0 := Lib.hid (hli.below hb0 hlt)
  have HP0 := Lib.hid (hP.below hb0)
  have HK0 := Lib.hid (hK.old hb0)
  have HB0 := Lib.hid hb0
  have HW0 := Lib.hid hW0.symm
  have HS0 : Hid (W0.heap.size = w.heap.size + 1) := Lib.hid (by rw [hW0]; simp)
  obtain ⟨c0, c1, c2, _⟩ := kcell3 HQ0.out
  rw [← hzz]
  obtain ⟨dp, hdp⟩ : ∃ dp, dp = W0.heap.size := ⟨_, rfl⟩
  have HDP := Lib.hid hdp
  clear hzz hz hP hli hA hE hD hI hb0 hW0 hK hlt hdp hi0 hr0
  go_enter Tryz.func3, Tryz.ntmps3
  go_upto_region 1 with fail
  rw [HW0.out]
  go_upto_region 5 with (first
    | (go_at_call 7
       (with_reducible refine (HND.out _ HL0.out).mono ?_)
       rintro e w1 ⟨rfl, hd1, hb1⟩
       rw [← HDP.out] at hd1 ⊢
       have HB1 := Lib.hid (below_next HB0.out hb1)
       have HD1 := Lib.hid hd1
       have HU1 := Lib.hid (show But dp W0 w1 from But.of hb1)
       clear hb1 hd1)
    | (go_at_call 8
       (with_reducible refine (keyq_any dp a cap zs 0 _ HD1.out (by omega)).mono ?_)
       rintro e w2 ⟨k, k2, hk, rfl, hd2, hk2, hb2⟩
       obtain ⟨h1, id1, root1⟩ := k
       unfold keyVV keyV
       simp only
       have HI1 : Hid (id1.size = 16) := Lib.hid (keyEE_zero hk).2.2.1
       have HD2 := Lib.hid hd2
       have HK2 := Lib.hid hk2
       have HU2 := Lib.hid (HU1.out.next hb2)
       clear hd2 hk2 hb2))
  obtain ⟨gk, hgk⟩ : ∃ gk, gk = w2.heap.size := ⟨_, rfl⟩
  obtain ⟨W3, hW3⟩ : ∃ W3, W3 = w2.alloc (.cells #[.int .i64 h1, .string id1, .string root1] 23) := ⟨_, rfl⟩
  rw [← hW3, ← hgk]
  have hb3 : Below w2.heap.size w2 W3 := by rw [hW3]; exact belowNew w2 _
  have HK3 : Hid (W3.heap[gk]? = some (.cells #[.int .i64 h1, .string id1, .string root1] 23 (0, 0))) := Lib.hid (by rw [hW3, hgk]; exact key_new w2 _ _ _)
  have HD3 := Lib.hid (HD2.out.below hb3)
  have HU3 := Lib.hid (HU2.out.next (But.of hb3))
  have HDG : Hid (dp < gk) := Lib.hid (by rw [hgk]; exact (Array.getElem?_eq_some_iff.1 HD2.out.1).1)
  have HWD : Hid (w.heap.size < dp) := Lib.hid (by rw [HDP.out, HS0.out]; omega)
  clear hgk hW3 hb3
  go_upto_region 6 with (first
    | (go_at_call 9
       (with_reducible refine (next5k dp a cap zs k2 _ HD3.out (by have := HK2.out; omega)).mono ?_)
       rintro e w4 ⟨r, k4, hr, rfl, hd4, hk4, hb4⟩
       have HD4 := Lib.hid hd4
       have HK4 := Lib.hid hk4
       have HQ4 := Lib.hid ((hb4.block gk (Array.getElem?_eq_some_iff.1 HK3.out).1 (by have := HDG.out; simp; omega)).trans HK3.out)
       have HU4 := Lib.hid (HU3.out.next hb4)
       clear hd4 hk4 hb4))
  clear c0 c1 c2
  have HQR4 : Hid (∀ W : World, But dp W0 W → W.heap[w.heap.size]? = some (.cells #[.int .i64 h0, .string id0, .string root0] 23 (0, 0))) := Lib.hid fun W hb => (hb.block w.heap.size (Array.getElem?_eq_some_iff.1 HQ0.out).1 (by have := HWD.out; simp; omega)).trans HQ0.out
  obtain ⟨q0, q1, q2, g0, g1, g2, ql⟩ := el_facts HQ4.out
  rcases (by omega : r = 0 ∨ r = 1 ∨ 2 ≤ r) with hr0 | hr1 | hr2
  · subst hr0
    go_upto_region 10 with (first
      | (go_at_call 9
         (with_reducible refine (next30k dp a cap zs k4 _ HD4.out (by have := HK2.out; have := HK4.out; omega)).mono ?_)
         rintro e w5 ⟨r2, k5, hr2, rfl, _, _, hb5⟩
         clear q0 q1 q2 g0 g1 g2 ql
         have hq5 := (hb5.block gk (Array.getElem?_eq_some_iff.1 HQ4.out).1 (by have := HDG.out; simp; omega)).trans HQ4.out
         have HQ5 := Lib.hid hq5
         obtain ⟨q0, q1, q2, g0, g1, g2, ql⟩ := el_facts hq5
         have HU5 := Lib.hid (HU4.out.next hb5)
         have hw30 : IntKind.i64.wrap ((r2 : Int) - 10) = (r2 : Int) - 10 := by rw [wrap_i64]; omega
         clear hb5 hq5))
    obtain ⟨W9, hW9⟩ : ∃ W9, W9 = w5.setCell ⟨gk, 0, none⟩ (.int .i64 ((r2 : Int) - 10)) := ⟨_, rfl⟩
    rw [← hW9]
    obtain ⟨hx, ix, hq9⟩ : ∃ (hx : Int) (ix : ByteArray), W9.heap[gk]? = some (.cells #[.int .i64 hx, .string ix, .string root1] 23 (0, 0)) := ⟨_, _, by rw [hW9]; exact key_set0 HQ5.out⟩
    have HU9 : Hid (But dp W0 W9) := Lib.hid (by rw [hW9]; exact HU5.out.fresh (But.set gk 0 w5 _) (by have := HDG.out; rw [← HDP.out]; omega))
    clear q0 q1 q2 g0 g1 g2 ql hW9 hw30 hr2
    have HB9 := Lib.hid (below_next HB0.out (but_basek HU9.out (by rw [HDP.out]; exact Nat.le_refl _) (Nat.le_refl _)))
    have hqr9 := HQR4.out W9 HU9.out
    obtain ⟨q0, q1, q2, g0, g1, g2, ql⟩ := el_facts hq9
    obtain ⟨c0, c1, c2, cl⟩ := kcell3 hqr9
    clear hq9 hqr9
    go_wp2_with fail
    obtain ⟨sb, hsb⟩ : ∃ sb, sb = W9.heap.size := ⟨_, rfl⟩
    obtain ⟨V, hV⟩ : ∃ V, V = W9.alloc (.cells #[.int .i64 h0, .string id0, .string root0, .int .i64 hx, .string ix, .string root1] 23) := ⟨_, rfl⟩
    rw [← hV, ← hsb]
    have hq := show V.heap[sb]? = some (.cells #[.int .i64 h0, .string id0, .string root0, .int .i64 hx, .string ix, .string root1] 23 (0, 0)) by rw [hV, hsb]; exact heap_alloc_new W9 _
    have HBV : Hid (Below w.heap.size w V) := Lib.hid (by rw [hV]; exact below_next HB9.out (belowNew W9 _))
    have HBV0 : Hid (Below W0.heap.size W0 V) := Lib.hid (by rw [hV]; exact below_next (but_basek HU9.out (by rw [HDP.out]; exact Nat.le_refl _) (Nat.le_refl _)) (belowNew W9 _))
    have HC : Hid (∀ j, j < 2 → ∃ (u : Int) (v x : ByteArray), V.cell? ⟨sb, j * 3, none⟩ = some (.int .i64 u) ∧ V.cell? ⟨sb, j * 3 + 1, none⟩ = some (.string v) ∧ V.cell? ⟨sb, j * 3 + 2, none⟩ = some (.string x)) := Lib.hid (fun j hj => by
      obtain rfl | rfl : j = 0 ∨ j = 1 := by omega
      · exact ⟨h0, id0, root0, six_row hq 0 (by omega), six_row hq 1 (by omega), six_row hq 2 (by omega)⟩
      · exact ⟨hx, ix, root1, six_row hq 3 (by omega), six_row hq 4 (by omega), six_row hq 5 (by omega)⟩)
    have HSB := Lib.hid ((Array.getElem?_eq_some_iff.1 hq).1)
    clear hsb hV hq q0 q1 q2 g0 g1 g2 ql c0 c1 c2 cl d1 d2
    go_loopw [47] (fun i wr => ∃ j : Nat, j ≤ 2 ∧ i = .int .i64 (j : Int) ∧ Below V.heap.size V wr) (fun i _ => 2 - (intOf i).toNat)
    case atStart => exact ⟨0, by omega, rfl, Below.refl _ _⟩
    case round =>
      obtain ⟨j, hj, rfl, hb⟩ := hrel
      have HBR := Lib.hid hb
      clear hb
      by_cases hlt : j < 2
      · have hd : decide ((j : Int) < 2) = true := by simp; omega
        have hji : (j : Int) < 2 := by omega
        obtain ⟨u, v, x, hu, hv, hxx⟩ := HC.out j hlt
        have c0 := (HBR.out.cell (p := ⟨sb, j * 3, none⟩) HSB.out).trans hu
        have c1 := (HBR.out.cell (p := ⟨sb, j * 3 + 1, none⟩) HSB.out).trans hv
        have c2 := (HBR.out.cell (p := ⟨sb, j * 3 + 2, none⟩) HSB.out).trans hxx
        have HLJ := Lib.hid hlt
        have HE1 := Lib.hid (fun W => HEN.out (u, v, x) W)
        have HR1 := Lib.hid (fun W => renck_any (u, v, x) W)
        have HI1' := Lib.hid (fun W hk => HID.out (u, v, x) W hk)
        have HI2' := Lib.hid (fun W => riden_any (u, v, x) W)
        obtain ⟨E, X, hEX⟩ := encKV_form (u, v, x)
        obtain ⟨Y, hY⟩ : ∃ Y, Y = idenS (u, v, x) := ⟨_, rfl⟩
        rw [hEX] at HE1 HR1
        rw [← hY] at HI1' HI2'
        unfold keyVV keyV at HE1 HR1 HI1' HI2'
        simp only at HE1 HR1 HI1' HI2'
        clear hu hv hxx hlt hEX hY
        have hs1 : ((E : Int) != (E : Int)) = false := by simp
        have hs2 : (X.toList != X.toList) = false := by simp
        have hs3 : (Y.toList != Y.toList) = false := by simp
        go_upto_region 13 with fail
        obtain ⟨gx, hgx⟩ : ∃ gx, gx = wr.heap.size := ⟨_, rfl⟩
        obtain ⟨V2, hV2⟩ : ∃ V2, V2 = wr.alloc (.cells #[.int .i64 u, .string v, .string x] 23) := ⟨_, rfl⟩
        rw [← hV2, ← hgx]
        have HN2 : Hid (V2.heap[gx]? = some (.cells #[.int .i64 u, .string v, .string x] 23 (0, 0))) := Lib.hid (by rw [hV2, hgx]; exact key_new wr _ _ _)
        have HB2' : Hid (Below V.heap.size V V2) := Lib.hid (by rw [hV2]; exact HBR.out.next (belowNew wr _))
        clear c0 c1 c2 hgx hV2
        obtain ⟨c0, c1, c2, cl⟩ := kcell3 HN2.out
        go_upto_region 15 with (first
          | (go_at_call 11
             (with_reducible refine (HE1.out _).mono ?_)
             rintro e v3 ⟨rfl, hb⟩
             have HB3' := Lib.hid (HB2'.out.next hb)
             have hn := (hb.block gx (Array.getElem?_eq_some_iff.1 HN2.out).1).trans HN2.out
             have HN3 := Lib.hid hn
             clear c0 c1 c2 cl
             obtain ⟨c0, c1, c2, cl⟩ := kcell3 hn
             clear hb hn)
          | (go_at_call 12
             (with_reducible refine (HR1.out _).mono ?_)
             rintro e v4 ⟨rfl, hb⟩
             have HB4' := Lib.hid (HB3'.out.next hb)
             have hn := (hb.block gx (Array.getElem?_eq_some_iff.1 HN3.out).1).trans HN3.out
             have HN4 := Lib.hid hn
             clear c0 c1 c2 cl
             obtain ⟨c0, c1, c2, cl⟩ := kcell3 hn
             clear hb hn))
        go_region_law (first
          | (go_simp; go_at_call 13
             (with_reducible refine (HI1'.out _ (HK0.out.old (below_next HBV0.out (by first | exact HB4'.out | exact HB4'.out.drew)))).mono ?_)
             rintro e v5 ⟨rfl, hb⟩
             have hb : Below v4.heap.size v4 v5 := (Below.refl _ v4).drew.trans hb
             have HB5' := Lib.hid (HB4'.out.next hb)
             obtain ⟨k0, k1, k2, kl⟩ := kcell3 ((hb.block gx (Array.getElem?_eq_some_iff.1 HN4.out).1).trans HN4.out)
             clear hb)
          | (go_simp; go_at_call 14
             (with_reducible refine (HI2'.out _).mono ?_)
             rintro e v6 ⟨rfl, hb⟩
             have HB6' := Lib.hid (HB5'.out.next hb)
             clear hb))
        all_goals
          go_wp2_with fail
          go_roundw
          case rel => exact ⟨j + 1, HLJ.out, by go_num, HB6'.out⟩
          case measure => have := HLJ.out; simp [intOf]; omega
      · have hj2 : j = 2 := by omega
        subst hj2
        have hd : decide (((2 : Nat) : Int) < 2) = false := by simp
        go_wp2_with (go_at_call 6; (with_reducible refine (HAW.out _ (HP0.out.below (below_next HBV0.out HBR.out))).mono ?_); rintro e v3 ⟨rfl, hb⟩; have HB3' := Lib.hid (below_next (below_next HBV.out HBR.out) hb); clear hb)
        go_ret
        exact ⟨rfl, HB3'.out⟩
  · subst hr1
    go_upto_region 10 with (first
      | (go_at_call 10
         (with_reducible refine (damage_all dp a cap zs k4 id1 _ HD4.out (by have := HK2.out; have := HK4.out; omega) (by rw [HI1.out]; decide)).mono ?_)
         rintro e w5 ⟨X1, k5, rfl, _, _, _, hb5⟩
         clear q0 q1 q2 g0 g1 g2 ql
         have hq5 := (hb5.block gk (Array.getElem?_eq_some_iff.1 HQ4.out).1 (by have := HDG.out; simp; omega)).trans HQ4.out
         have HQ5 := Lib.hid hq5
         obtain ⟨q0, q1, q2, g0, g1, g2, ql⟩ := el_facts hq5
         have HU5 := Lib.hid (HU4.out.next hb5)
         clear hb5 hq5))
    obtain ⟨W9, hW9⟩ : ∃ W9, W9 = w5.setCell ⟨gk, 1, none⟩ (.string X1) := ⟨_, rfl⟩
    rw [← hW9]
    obtain ⟨hx, ix, hq9⟩ : ∃ (hx : Int) (ix : ByteArray), W9.heap[gk]? = some (.cells #[.int .i64 hx, .string ix, .string root1] 23 (0, 0)) := ⟨_, _, by rw [hW9]; exact key_set1 HQ5.out⟩
    have HU9 : Hid (But dp W0 W9) := Lib.hid (by rw [hW9]; exact HU5.out.fresh (But.set gk 1 w5 _) (by have := HDG.out; rw [← HDP.out]; omega))
    clear q0 q1 q2 g0 g1 g2 ql hW9
    have HB9 := Lib.hid (below_next HB0.out (but_basek HU9.out (by rw [HDP.out]; exact Nat.le_refl _) (Nat.le_refl _)))
    have hqr9 := HQR4.out W9 HU9.out
    obtain ⟨q0, q1, q2, g0, g1, g2, ql⟩ := el_facts hq9
    obtain ⟨c0, c1, c2, cl⟩ := kcell3 hqr9
    clear hq9 hqr9
    go_wp2_with fail
    obtain ⟨sb, hsb⟩ : ∃ sb, sb = W9.heap.size := ⟨_, rfl⟩
    obtain ⟨V, hV⟩ : ∃ V, V = W9.alloc (.cells #[.int .i64 h0, .string id0, .string root0, .int .i64 hx, .string ix, .string root1] 23) := ⟨_, rfl⟩
    rw [← hV, ← hsb]
    have hq := show V.heap[sb]? = some (.cells #[.int .i64 h0, .string id0, .string root0, .int .i64 hx, .string ix, .string root1] 23 (0, 0)) by rw [hV, hsb]; exact heap_alloc_new W9 _
    have HBV : Hid (Below w.heap.size w V) := Lib.hid (by rw [hV]; exact below_next HB9.out (belowNew W9 _))
    have HBV0 : Hid (Below W0.heap.size W0 V) := Lib.hid (by rw [hV]; exact below_next (but_basek HU9.out (by rw [HDP.out]; exact Nat.le_refl _) (Nat.le_refl _)) (belowNew W9 _))
    have HC : Hid (∀ j, j < 2 → ∃ (u : Int) (v x : ByteArray), V.cell? ⟨sb, j * 3, none⟩ = some (.int .i64 u) ∧ V.cell? ⟨sb, j * 3 + 1, none⟩ = some (.string v) ∧ V.cell? ⟨sb, j * 3 + 2, none⟩ = some (.string x)) := Lib.hid (fun j hj => by
      obtain rfl | rfl : j = 0 ∨ j = 1 := by omega
      · exact ⟨h0, id0, root0, six_row hq 0 (by omega), six_row hq 1 (by omega), six_row hq 2 (by omega)⟩
      · exact ⟨hx, ix, root1, six_row hq 3 (by omega), six_row hq 4 (by omega), six_row hq 5 (by omega)⟩)
    have HSB := Lib.hid ((Array.getElem?_eq_some_iff.1 hq).1)
    clear hsb hV hq q0 q1 q2 g0 g1 g2 ql c0 c1 c2 cl d1 d2
    go_loopw [47] (fun i wr => ∃ j : Nat, j ≤ 2 ∧ i = .int .i64 (j : Int) ∧ Below V.heap.size V wr) (fun i _ => 2 - (intOf i).toNat)
    case atStart => exact ⟨0, by omega, rfl, Below.refl _ _⟩
    case round =>
      obtain ⟨j, hj, rfl, hb⟩ := hrel
      have HBR := Lib.hid hb
      clear hb
      by_cases hlt : j < 2
      · have hd : decide ((j : Int) < 2) = true := by simp; omega
        have hji : (j : Int) < 2 := by omega
        obtain ⟨u, v, x, hu, hv, hxx⟩ := HC.out j hlt
        have c0 := (HBR.out.cell (p := ⟨sb, j * 3, none⟩) HSB.out).trans hu
        have c1 := (HBR.out.cell (p := ⟨sb, j * 3 + 1, none⟩) HSB.out).trans hv
        have c2 := (HBR.out.cell (p := ⟨sb, j * 3 + 2, none⟩) HSB.out).trans hxx
        have HLJ := Lib.hid hlt
        have HE1 := Lib.hid (fun W => HEN.out (u, v, x) W)
        have HR1 := Lib.hid (fun W => renck_any (u, v, x) W)
        have HI1' := Lib.hid (fun W hk => HID.out (u, v, x) W hk)
        have HI2' := Lib.hid (fun W => riden_any (u, v, x) W)
        obtain ⟨E, X, hEX⟩ := encKV_form (u, v, x)
        obtain ⟨Y, hY⟩ : ∃ Y, Y = idenS (u, v, x) := ⟨_, rfl⟩
        rw [hEX] at HE1 HR1
        rw [← hY] at HI1' HI2'
        unfold keyVV keyV at HE1 HR1 HI1' HI2'
        simp only at HE1 HR1 HI1' HI2'
        clear hu hv hxx hlt hEX hY
        have hs1 : ((E : Int) != (E : Int)) = false := by simp
        have hs2 : (X.toList != X.toList) = false := by simp
        have hs3 : (Y.toList != Y.toList) = false := by simp
        go_upto_region 13 with fail
        obtain ⟨gx, hgx⟩ : ∃ gx, gx = wr.heap.size := ⟨_, rfl⟩
        obtain ⟨V2, hV2⟩ : ∃ V2, V2 = wr.alloc (.cells #[.int .i64 u, .string v, .string x] 23) := ⟨_, rfl⟩
        rw [← hV2, ← hgx]
        have HN2 : Hid (V2.heap[gx]? = some (.cells #[.int .i64 u, .string v, .string x] 23 (0, 0))) := Lib.hid (by rw [hV2, hgx]; exact key_new wr _ _ _)
        have HB2' : Hid (Below V.heap.size V V2) := Lib.hid (by rw [hV2]; exact HBR.out.next (belowNew wr _))
        clear c0 c1 c2 hgx hV2
        obtain ⟨c0, c1, c2, cl⟩ := kcell3 HN2.out
        go_upto_region 15 with (first
          | (go_at_call 11
             (with_reducible refine (HE1.out _).mono ?_)
             rintro e v3 ⟨rfl, hb⟩
             have HB3' := Lib.hid (HB2'.out.next hb)
             have hn := (hb.block gx (Array.getElem?_eq_some_iff.1 HN2.out).1).trans HN2.out
             have HN3 := Lib.hid hn
             clear c0 c1 c2 cl
             obtain ⟨c0, c1, c2, cl⟩ := kcell3 hn
             clear hb hn)
          | (go_at_call 12
             (with_reducible refine (HR1.out _).mono ?_)
             rintro e v4 ⟨rfl, hb⟩
             have HB4' := Lib.hid (HB3'.out.next hb)
             have hn := (hb.block gx (Array.getElem?_eq_some_iff.1 HN3.out).1).trans HN3.out
             have HN4 := Lib.hid hn
             clear c0 c1 c2 cl
             obtain ⟨c0, c1, c2, cl⟩ := kcell3 hn
             clear hb hn))
        go_region_law (first
          | (go_simp; go_at_call 13
             (with_reducible refine (HI1'.out _ (HK0.out.old (below_next HBV0.out (by first | exact HB4'.out | exact HB4'.out.drew)))).mono ?_)
             rintro e v5 ⟨rfl, hb⟩
             have hb : Below v4.heap.size v4 v5 := (Below.refl _ v4).drew.trans hb
             have HB5' := Lib.hid (HB4'.out.next hb)
             obtain ⟨k0, k1, k2, kl⟩ := kcell3 ((hb.block gx (Array.getElem?_eq_some_iff.1 HN4.out).1).trans HN4.out)
             clear hb)
          | (go_simp; go_at_call 14
             (with_reducible refine (HI2'.out _).mono ?_)
             rintro e v6 ⟨rfl, hb⟩
             have HB6' := Lib.hid (HB5'.out.next hb)
             clear hb))
        all_goals
          go_wp2_with fail
          go_roundw
          case rel => exact ⟨j + 1, HLJ.out, by go_num, HB6'.out⟩
          case measure => have := HLJ.out; simp [intOf]; omega
      · have hj2 : j = 2 := by omega
        subst hj2
        have hd : decide (((2 : Nat) : Int) < 2) = false := by simp
        go_wp2_with (go_at_call 6; (with_reducible refine (HAW.out _ (HP0.out.below (below_next HBV0.out HBR.out))).mono ?_); rintro e v3 ⟨rfl, hb⟩; have HB3' := Lib.hid (below_next (below_next HBV.out HBR.out) hb); clear hb)
        go_ret
        exact ⟨rfl, HB3'.out⟩
  · have e0 : ((r : Int) == 0) = false := by simp; omega
    have e1 : ((r : Int) == 1) = false := by simp; omega
    have e2 : ¬ r = 0 := by omega
    have e3 : ¬ r = 1 := by omega
    clear hr2
    go_upto_region 10 with fail
    obtain ⟨W9, hW9⟩ : ∃ W9, W9 = w4 := ⟨_, rfl⟩
    rw [← hW9]
    obtain ⟨hx, ix, hq9⟩ : ∃ (hx : Int) (ix : ByteArray), W9.heap[gk]? = some (.cells #[.int .i64 hx, .string ix, .string root1] 23 (0, 0)) := ⟨_, _, by rw [hW9]; exact HQ4.out⟩
    have HU9 : Hid (But dp W0 W9) := Lib.hid (by rw [hW9]; exact HU4.out)
    clear q0 q1 q2 g0 g1 g2 ql hW9 e0 e1 e2 e3
    have HB9 := Lib.hid (below_next HB0.out (but_basek HU9.out (by rw [HDP.out]; exact Nat.le_refl _) (Nat.le_refl _)))
    have hqr9 := HQR4.out W9 HU9.out
    obtain ⟨q0, q1, q2, g0, g1, g2, ql⟩ := el_facts hq9
    obtain ⟨c0, c1, c2, cl⟩ := kcell3 hqr9
    clear hq9 hqr9
    go_wp2_with fail
    obtain ⟨sb, hsb⟩ : ∃ sb, sb = W9.heap.size := ⟨_, rfl⟩
    obtain ⟨V, hV⟩ : ∃ V, V = W9.alloc (.cells #[.int .i64 h0, .string id0, .string root0, .int .i64 hx, .string ix, .string root1] 23) := ⟨_, rfl⟩
    rw [← hV, ← hsb]
    have hq := show V.heap[sb]? = some (.cells #[.int .i64 h0, .string id0, .string root0, .int .i64 hx, .string ix, .string root1] 23 (0, 0)) by rw [hV, hsb]; exact heap_alloc_new W9 _
    have HBV : Hid (Below w.heap.size w V) := Lib.hid (by rw [hV]; exact below_next HB9.out (belowNew W9 _))
    have HBV0 : Hid (Below W0.heap.size W0 V) := Lib.hid (by rw [hV]; exact below_next (but_basek HU9.out (by rw [HDP.out]; exact Nat.le_refl _) (Nat.le_refl _)) (belowNew W9 _))
    have HC : Hid (∀ j, j < 2 → ∃ (u : Int) (v x : ByteArray), V.cell? ⟨sb, j * 3, none⟩ = some (.int .i64 u) ∧ V.cell? ⟨sb, j * 3 + 1, none⟩ = some (.string v) ∧ V.cell? ⟨sb, j * 3 + 2, none⟩ = some (.string x)) := Lib.hid (fun j hj => by
      obtain rfl | rfl : j = 0 ∨ j = 1 := by omega
      · exact ⟨h0, id0, root0, six_row hq 0 (by omega), six_row hq 1 (by omega), six_row hq 2 (by omega)⟩
      · exact ⟨hx, ix, root1, six_row hq 3 (by omega), six_row hq 4 (by omega), six_row hq 5 (by omega)⟩)
    have HSB := Lib.hid ((Array.getElem?_eq_some_iff.1 hq).1)
    clear hsb hV hq q0 q1 q2 g0 g1 g2 ql c0 c1 c2 cl d1 d2
    go_loopw [47] (fun i wr => ∃ j : Nat, j ≤ 2 ∧ i = .int .i64 (j : Int) ∧ Below V.heap.size V wr) (fun i _ => 2 - (intOf i).toNat)
    case atStart => exact ⟨0, by omega, rfl, Below.refl _ _⟩
    case round =>
      obtain ⟨j, hj, rfl, hb⟩ := hrel
      have HBR := Lib.hid hb
      clear hb
      by_cases hlt : j < 2
      · have hd : decide ((j : Int) < 2) = true := by simp; omega
        have hji : (j : Int) < 2 := by omega
        obtain ⟨u, v, x, hu, hv, hxx⟩ := HC.out j hlt
        have c0 := (HBR.out.cell (p := ⟨sb, j * 3, none⟩) HSB.out).trans hu
        have c1 := (HBR.out.cell (p := ⟨sb, j * 3 + 1, none⟩) HSB.out).trans hv
        have c2 := (HBR.out.cell (p := ⟨sb, j * 3 + 2, none⟩) HSB.out).trans hxx
        have HLJ := Lib.hid hlt
        have HE1 := Lib.hid (fun W => HEN.out (u, v, x) W)
        have HR1 := Lib.hid (fun W => renck_any (u, v, x) W)
        have HI1' := Lib.hid (fun W hk => HID.out (u, v, x) W hk)
        have HI2' := Lib.hid (fun W => riden_any (u, v, x) W)
        obtain ⟨E, X, hEX⟩ := encKV_form (u, v, x)
        obtain ⟨Y, hY⟩ : ∃ Y, Y = idenS (u, v, x) := ⟨_, rfl⟩
        rw [hEX] at HE1 HR1
        rw [← hY] at HI1' HI2'
        unfold keyVV keyV at HE1 HR1 HI1' HI2'
        simp only at HE1 HR1 HI1' HI2'
        clear hu hv hxx hlt hEX hY
        have hs1 : ((E : Int) != (E : Int)) = false := by simp
        have hs2 : (X.toList != X.toList) = false := by simp
        have hs3 : (Y.toList != Y.toList) = false := by simp
        go_upto_region 13 with fail
        obtain ⟨gx, hgx⟩ : ∃ gx, gx = wr.heap.size := ⟨_, rfl⟩
        obtain ⟨V2, hV2⟩ : ∃ V2, V2 = wr.alloc (.cells #[.int .i64 u, .string v, .string x] 23) := ⟨_, rfl⟩
        rw [← hV2, ← hgx]
        have HN2 : Hid (V2.heap[gx]? = some (.cells #[.int .i64 u, .string v, .string x] 23 (0, 0))) := Lib.hid (by rw [hV2, hgx]; exact key_new wr _ _ _)
        have HB2' : Hid (Below V.heap.size V V2) := Lib.hid (by rw [hV2]; exact HBR.out.next (belowNew wr _))
        clear c0 c1 c2 hgx hV2
        obtain ⟨c0, c1, c2, cl⟩ := kcell3 HN2.out
        go_upto_region 15 with (first
          | (go_at_call 11
             (with_reducible refine (HE1.out _).mono ?_)
             rintro e v3 ⟨rfl, hb⟩
             have HB3' := Lib.hid (HB2'.out.next hb)
             have hn := (hb.block gx (Array.getElem?_eq_some_iff.1 HN2.out).1).trans HN2.out
             have HN3 := Lib.hid hn
             clear c0 c1 c2 cl
             obtain ⟨c0, c1, c2, cl⟩ := kcell3 hn
             clear hb hn)
          | (go_at_call 12
             (with_reducible refine (HR1.out _).mono ?_)
             rintro e v4 ⟨rfl, hb⟩
             have HB4' := Lib.hid (HB3'.out.next hb)
             have hn := (hb.block gx (Array.getElem?_eq_some_iff.1 HN3.out).1).trans HN3.out
             have HN4 := Lib.hid hn
             clear c0 c1 c2 cl
             obtain ⟨c0, c1, c2, cl⟩ := kcell3 hn
             clear hb hn))
        go_region_law (first
          | (go_simp; go_at_call 13
             (with_reducible refine (HI1'.out _ (HK0.out.old (below_next HBV0.out (by first | exact HB4'.out | exact HB4'.out.drew)))).mono ?_)
             rintro e v5 ⟨rfl, hb⟩
             have hb : Below v4.heap.size v4 v5 := (Below.refl _ v4).drew.trans hb
             have HB5' := Lib.hid (HB4'.out.next hb)
             obtain ⟨k0, k1, k2, kl⟩ := kcell3 ((hb.block gx (Array.getElem?_eq_some_iff.1 HN4.out).1).trans HN4.out)
             clear hb)
          | (go_simp; go_at_call 14
             (with_reducible refine (HI2'.out _).mono ?_)
             rintro e v6 ⟨rfl, hb⟩
             have HB6' := Lib.hid (HB5'.out.next hb)
             clear hb))
        all_goals
          go_wp2_with fail
          go_roundw
          case rel => exact ⟨j + 1, HLJ.out, by go_num, HB6'.out⟩
          case measure => have := HLJ.out; simp [intOf]; omega
      · have hj2 : j = 2 := by omega
        subst hj2
        have hd : decide (((2 : Nat) : Int) < 2) = false := by simp
        go_wp2_with (go_at_call 6; (with_reducible refine (HAW.out _ (HP0.out.below (below_next HBV0.out HBR.out))).mono ?_); rintro e v3 ⟨rfl, hb⟩; have HB3' := Lib.hid (below_next (below_next HBV.out HBR.out) hb); clear hb)
        go_ret
        exact ⟨rfl, HB3'.out⟩
theorem kenclaw (hA : AlgPk) (hE : EncPk) (hD : DecPk) (hI : IdPk) (k : KeyT) (a : Option Addr) (cap : Nat) (zs : List Int) (w : World) (hP : Pow10 w) (hK : Holds w 0 kWords) (hli : ILies w a zs) (hz : zs.length ≤ 9223372036854775807) :
    Calls Tryz.prog 3 #[keyVV k, .slice a zs.length cap] w fun e w' => e = .returned (.bool true) ∧ Below w.heap.size w w' := by
  obtain ⟨h0, id0, root0⟩ := k
  by_cases hb : 100 < id0.size ∨ 100 < root0.size
  · exact kenc_out hA hE hD h0 id0 root0 a cap zs.length hb w hP
  · exact kenc_in hA hE hD hI h0 id0 root0 a cap zs (by omega) (by omega) w hP hK hli hz
end Go.Proofs.YtpmlkofceidnjaaGreatDoor
