/-
  The contract of the reference's Recover.
-/
import Derived.Test.YtbmphhiafepnoaaDoorAai
namespace Go.Proofs.YtbmphhiafepnoaaDoor
open Go.RowKit

set_option maxRecDepth 100000 in
set_option maxHeartbeats 2000000 in
theorem rrec_ok (id dg s : ByteArray) (leaf : Nat) (hi : id.size = 16) (hl : leaf < 256) (hd16 : dg.size = 16) (hs : s.size = 560) (w : World) :
    Calls Tryd.prog 17 #[.string id, .int .i64 (leaf : Int), .string dg, .string s] w fun e w' => e = .returned (someV (recS id leaf (digs dg.data.toList) s)) ∧ Below w.heap.size w w' := by
  have HI := Lib.hid hi
  have HS := Lib.hid hs
  have HL := Lib.hid hl
  have hni : (id.size : Int) = 16 := by omega
  have hsi : (s.size : Int) = 560 := by omega
  have d1 : decide ((leaf : Int) < 0) = false := decide_eq_false (by omega)
  have d2 : decide (256 ≤ (leaf : Int)) = false := by simp; omega
  have HDG : Hid (∀ W : World, Calls Tryd.prog 35 #[.string dg] W fun e w' => (∃ v, e = .returned (.tuple #[v, .int .i64 0]) ∧ OwnI w' W.heap.size v (digs dg.data.toList)) ∧ Below W.heap.size W w') := Lib.hid fun W => rdig_ok dg hd16 W
  obtain ⟨D, hD⟩ : ∃ D, D = digs dg.data.toList := ⟨_, rfl⟩
  rw [← hD] at HDG ⊢
  have hDl : D.length = 35 := by rw [hD, digs_len]; show 2 * dg.size + 3 = 35; rw [hd16]
  have HDL := Lib.hid hDl
  have HDV : Hid (∀ c, D.getD c 0 ≤ 15) := Lib.hid fun c => by rw [hD]; exact digs_getD_le _ (by show dg.size ≤ 16; omega) c
  have hDne : D ≠ [] := by intro h; rw [h] at hDl; cases hDl
  have HNE := Lib.hid hDne
  clear hi hs hl hD hDl hDne hd16
  go_enter Tryd.func17, Tryd.ntmps17
  go_wp2_with (first | (go_at_call 35; (with_reducible refine (HDG.out _).mono ?_); rintro e w2 ⟨⟨v, rfl, ho2⟩, hb2⟩; obtain ⟨gd, cd, rfl, hgB, hIL, hcd⟩ := ho2.open HNE.out; rw [HDL.out] at hcd ⊢; have HIL := Lib.hid hIL; have HB2 := Lib.hid hb2; clear hb2 ho2 hIL))
  go_loopw [12, 36] (fun t i wr => ∃ k : Nat, k ≤ 35 ∧ i = .int .i64 (k : Int) ∧ t = .string (rowB (endS' id leaf D s) k) ∧ (rowB (endS' id leaf D s) k).size = k * 16 ∧ ILie wr gd D ∧ Below w.heap.size w wr) (fun _ i _ => 35 - (intOf i).toNat)
  case atStart => exact ⟨0, by decide, rfl, rfl, rfl, HIL.out, HB2.out⟩
  case round =>
    obtain ⟨k, hk, rfl, rfl, hsz, hIk, hb⟩ := hrel
    have HB := Lib.hid hb
    have HIK := Lib.hid hIk
    by_cases hlt : k < 35
    · have hd : decide ((k : Int) < 35) = true := by simp; omega
      have hcell := hIk.cell k (by rw [HDL.out]; exact hlt)
      have HR : Hid (rowB (endS' id leaf D s) (k + 1) = rowB (endS' id leaf D s) k ++ endS' id leaf D s k) := Lib.hid rfl
      have hx15 := HDV.out k
      obtain ⟨x, hx⟩ : ∃ x, x = D.getD k 0 := ⟨_, rfl⟩
      rw [← hx] at hcell hx15
      have HX := Lib.hid hx
      obtain ⟨q, hq⟩ : ∃ q, q = partQ s k := ⟨_, rfl⟩
      have hqsz : q.size = 16 := by rw [hq]; exact partQ_size HS.out hlt
      obtain ⟨lo, hlo⟩ : ∃ lo : Nat, lo = k * 16 := ⟨_, rfl⟩
      obtain ⟨k1, hk1⟩ : ∃ k1 : Nat, k1 = k + 1 := ⟨_, rfl⟩
      obtain ⟨up, hup⟩ : ∃ up : Nat, up = (k + 1) * 16 := ⟨_, rfl⟩
      have hw1 : IntKind.i64.wrap ((k : Int) * 16) = (lo : Int) := by rw [wrap_i64]; omega
      have hw2 : IntKind.i64.wrap ((k : Int) + 1) = (k1 : Int) := by rw [wrap_i64]; omega
      have hw3 : IntKind.i64.wrap ((k1 : Int) * 16) = (up : Int) := by rw [wrap_i64]; omega
      have hub : (up : Int) ≤ 560 := by omega
      have hlu : (lo : Int) ≤ (up : Int) := by omega
      have hex : s.extract lo up = q := by rw [hq, hlo, hup]; rfl
      have HK1 := Lib.hid hk1
      clear hlo hup hk1
      obtain ⟨u, hu⟩ : ∃ u, u = stepsF (stepS id leaf k) x (15 - x) q := ⟨_, rfl⟩
      have hue : endS' id leaf D s k = u := by rw [hu, hq, hx]; rfl
      rw [hue] at HR
      have husz : u.size = 16 := by rw [hu]; exact steps_size (fun p v => stepS_size id leaf k p v) _ _ _ hqsz
      obtain ⟨r, hr⟩ : ∃ r, r = rowB (endS' id leaf D s) k := ⟨_, rfl⟩
      rw [← hr] at HR hsz ⊢
      have HWK : Hid (∀ W : World, Calls Tryd.prog 31 #[.string id, .int .i64 (leaf : Int), .int .i64 (k : Int), .int .i64 (x : Int), .int .i64 15, .string q] W fun e w' => e = .returned (.string u) ∧ Below W.heap.size W w') := Lib.hid fun W => by
        rw [hu]
        exact rwalk_any id q leaf k x 15 (by rw [HI.out]; omega) (by rw [hqsz]; omega) (by have := HL.out; omega) (by omega) (by omega) (by omega) W
      have HQZ := Lib.hid hqsz
      clear hu hue hr hx hq hIk hb hqsz
      have hki : (k : Int) < 35 := by omega
      have hno : ¬ (9223372036854775807 < k * 16 + 16) := by omega
      have hcelld : wr.drew.cell? ⟨gd, k, none⟩ = some (.int .i64 ((x : Nat) : Int)) := hcell
      go_wp2_with fail
      go_region_law (first | (go_simp; go_at_call 31; (with_reducible refine (HWK.out _).mono ?_); rintro e w4 ⟨rfl, hb4⟩; have HB4 := Lib.hid (HB.out.drew.next hb4); have HI4 := Lib.hid ((show ILie wr.drew gd D from HIK.out).below hb4); clear hb4))
      all_goals
        go_wp2_with fail
        go_roundw
        case rel => exact ⟨k1, by have := HK1.out; omega, by go_num, by rw [HK1.out, HR.out], by rw [HK1.out, HR.out, ByteArray.size_append, hsz, husz]; omega, HI4.out, HB4.out⟩
        case measure => have := HK1.out; simp [intOf]; omega
    · have hk35 : k = 35 := by omega
      subst hk35
      have hd : decide ((35 : Int) < 35) = false := by decide
      obtain ⟨r, hr⟩ : ∃ r, r = rowB (endS' id leaf D s) 35 := ⟨_, rfl⟩
      have HP : Hid (keySq id leaf r = recS id leaf D s) := Lib.hid (by rw [hr]; rfl)
      rw [← hr] at hsz ⊢
      have HSZ := Lib.hid hsz
      clear hr hsz
      have HKY : ∀ (V : Value) (W : World), Reads_z W V [⟨#[76]⟩, id, strOf (b4 leaf), r] → Calls Tryd.prog 27 #[V] W fun e w' => e = .returned (.string (keySq id leaf r)) ∧ Below W.heap.size W w' := fun V W h => by
        rw [← keyS_eq]
        exact refshort_any V _ W h (show (4 : Nat) < 4611686018427387904 by decide) (key_room (by rw [HI.out]; omega) (by rw [HSZ.out]; omega) leaf)
      have HKY := Lib.hid HKY
      go_wp2_with (first | (go_at_call 29; (with_reducible refine (rb4_any leaf (by have := HL.out; omega) _).mono ?_); rintro e w4 ⟨rfl, hb4⟩; have HB4 := Lib.hid (HB.out.next hb4); clear hb4) | (go_at_call 27; refine (HKY.out _ _ (reads_row _ [⟨#[76]⟩, id, strOf (b4 leaf), r] 9)).mono ?_; rintro e w5 ⟨rfl, hb5⟩; have HB5 := Lib.hid ((HB4.out.alloc HB4.out.size _).next hb5); clear hb5))
      go_ret2
      rw [← HP.out]
      exact ⟨rfl, HB5.out⟩
set_option maxRecDepth 100000 in
set_option maxHeartbeats 1000000 in
theorem rrec_bad (id dg s : ByteArray) (leaf : Int) (n : Nat) (hn : recE id leaf dg s = n) (h0 : n ≠ 0) (w : World) :
    Calls Tryd.prog 17 #[.string id, .int .i64 leaf, .string dg, .string s] w fun e w' => e = .returned (noneV n) ∧ Below w.heap.size w w' := by
  unfold recE at hn
  obtain ⟨a, ha⟩ : ∃ a, a = id.size := ⟨_, rfl⟩
  have hai : (id.size : Int) = (a : Int) := by rw [ha]
  rw [← ha] at hn
  clear ha
  by_cases h1 : a = 16
  · rw [if_pos h1] at hn
    subst h1
    by_cases h2 : leaf < 0
    · rw [if_neg (by omega)] at hn
      subst hn
      have d2 : decide (leaf < 0) = true := by simp; omega
      go_enter Tryd.func17, Tryd.ntmps17
      go_wp2_with fail
      go_ret2
      exact ⟨rfl, Below.refl _ _⟩
    · have d2 : decide (leaf < 0) = false := by simp; omega
      by_cases h3 : 256 ≤ leaf
      · rw [if_neg (by omega)] at hn
        subst hn
        have d3 : decide (256 ≤ leaf) = true := by simp; omega
        go_enter Tryd.func17, Tryd.ntmps17
        go_wp2_with fail
        go_ret2
        exact ⟨rfl, Below.refl _ _⟩
      · have d3 : decide (256 ≤ leaf) = false := by simp; omega
        rw [if_pos (by omega)] at hn
        by_cases h4 : dg.size = 16
        · rw [if_pos h4] at hn
          have HDG : Hid (∀ W : World, Calls Tryd.prog 35 #[.string dg] W fun e w' => (∃ v, e = .returned (.tuple #[v, .int .i64 0]) ∧ OwnI w' W.heap.size v (digs dg.data.toList)) ∧ Below W.heap.size W w') := Lib.hid fun W => rdig_ok dg h4 W
          by_cases h5 : s.size = 560
          · rw [if_pos h5] at hn
            exact absurd hn.symm h0
          · rw [if_neg h5] at hn
            subst hn
            obtain ⟨b, hb⟩ : ∃ b, b = s.size := ⟨_, rfl⟩
            have hbi : (s.size : Int) = (b : Int) := by rw [hb]
            rw [← hb] at h5
            have d5 : ((b : Int) == 560) = false := by simp; omega
            clear hb
            go_enter Tryd.func17, Tryd.ntmps17
            go_wp2_with (first | (go_at_call 35; (with_reducible refine (HDG.out _).mono ?_); rintro e w2 ⟨⟨v, rfl, _⟩, hb2⟩; have HB2 := Lib.hid hb2; clear hb2))
            go_ret2
            exact ⟨rfl, HB2.out⟩
        · rw [if_neg h4] at hn
          subst hn
          have HDG : Hid (∀ W : World, Calls Tryd.prog 35 #[.string dg] W fun e w' => e = .returned (.tuple #[.slice none 0 0, .int .i64 7]) ∧ Below W.heap.size W w') := Lib.hid fun W => rdig_bad dg h4 W
          go_enter Tryd.func17, Tryd.ntmps17
          go_wp2_with (first | (go_at_call 35; (with_reducible refine (HDG.out _).mono ?_); rintro e w2 ⟨rfl, hb2⟩; have HB2 := Lib.hid hb2; clear hb2))
          go_ret2
          exact ⟨rfl, HB2.out⟩
  · rw [if_neg h1] at hn
    subst hn
    have d1 : ((a : Int) == 16) = false := by simp; omega
    go_enter Tryd.func17, Tryd.ntmps17
    go_wp2_with fail
    go_ret2
    exact ⟨rfl, Below.refl _ _⟩
theorem recE_zero {id dg s : ByteArray} {leaf : Int} (h : recE id leaf dg s = 0) : id.size = 16 ∧ dg.size = 16 ∧ s.size = 560 ∧ ∃ n : Nat, leaf = (n : Int) ∧ n < 256 := by
  unfold recE at h
  split at h
  · split at h
    · split at h
      · split at h
        · exact ⟨by assumption, by assumption, by assumption, leaf.toNat, by omega, by omega⟩
        · cases h
      · cases h
    · cases h
  · cases h
theorem rrec_any (id dg s : ByteArray) (leaf : Int) (w : World) :
    Calls Tryd.prog 17 #[.string id, .int .i64 leaf, .string dg, .string s] w fun e w' => e = .returned (recV id leaf dg s) ∧ Below w.heap.size w w' := by
  unfold recV
  by_cases h : recE id leaf dg s = 0
  · rw [if_pos h]
    obtain ⟨h1, h2, h3, n, rfl, h4⟩ := recE_zero h
    exact rrec_ok id dg s n h1 h4 h2 h3 w
  · rw [if_neg h]
    exact rrec_bad id dg s leaf _ rfl h w
end Go.Proofs.YtbmphhiafepnoaaDoor
