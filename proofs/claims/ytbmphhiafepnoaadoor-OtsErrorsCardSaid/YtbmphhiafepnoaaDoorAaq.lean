/-
  The contract of the reference's SignOnce.
  The walk of the law OtsSign: it returns true.
-/
import Derived.Test.YtbmphhiafepnoaaDoorAaj
import Derived.Test.YtbmphhiafepnoaaDoorAai
namespace Go.Proofs.YtbmphhiafepnoaaDoor
open Go.RowKit

set_option maxRecDepth 100000 in
set_option maxHeartbeats 2000000 in
theorem rsgn_ok (id seed dg : ByteArray) (leaf : Nat) (h0 : chkQ id seed (leaf : Int) = 0) (hd16 : dg.size = 16) (w : World) :
    Calls Tryd.prog 15 #[.string id, .string seed, .int .i64 (leaf : Int), .string dg] w fun e w' => e = .returned (someV (sigS id seed leaf (digs dg.data.toList))) ∧ Below w.heap.size w w' := by
  obtain ⟨hi, hs, n, hn, hlt⟩ := chkQ_zero h0
  have hl : leaf < 256 := by omega
  clear hn hlt n
  have HI := Lib.hid hi
  have HS := Lib.hid hs
  have HL := Lib.hid hl
  have HCK : Hid (∀ W : World, Calls Tryd.prog 30 #[.string id, .string seed, .int .i64 (leaf : Int)] W fun e w' => e = .returned (.int .i64 0) ∧ Below W.heap.size W w') := Lib.hid fun W => by
    have := rchkq_any id seed (leaf : Int) W
    rw [h0] at this
    exact this
  have HDG : Hid (∀ W : World, Calls Tryd.prog 35 #[.string dg] W fun e w' => (∃ v, e = .returned (.tuple #[v, .int .i64 0]) ∧ OwnI w' W.heap.size v (digs dg.data.toList)) ∧ Below W.heap.size W w') := Lib.hid fun W => rdig_ok dg hd16 W
  obtain ⟨D, hD⟩ : ∃ D, D = digs dg.data.toList := ⟨_, rfl⟩
  rw [← hD] at HDG ⊢
  have hDl : D.length = 35 := by rw [hD, digs_len]; show 2 * dg.size + 3 = 35; rw [hd16]
  have HDL := Lib.hid hDl
  have HDV : Hid (∀ c, D.getD c 0 ≤ 15) := Lib.hid fun c => by rw [hD]; exact digs_getD_le _ (by show dg.size ≤ 16; omega) c
  have hDne : D ≠ [] := by intro h; rw [h] at hDl; cases hDl
  have HNE := Lib.hid hDne
  clear hi hs hl h0 hD hDl hDne hd16
  go_enter Tryd.func15, Tryd.ntmps15
  go_wp2_with (first | (go_at_call 30; (with_reducible refine (HCK.out _).mono ?_); rintro e w1 ⟨rfl, hb1⟩; have HB1 := Lib.hid hb1; clear hb1) | (go_at_call 35; (with_reducible refine (HDG.out _).mono ?_); rintro e w2 ⟨⟨v, rfl, ho2⟩, hb2⟩; obtain ⟨gd, cd, rfl, hgB, hIL, hcd⟩ := ho2.open HNE.out; rw [HDL.out] at hcd ⊢; have HIL := Lib.hid hIL; have HB2 := Lib.hid (HB1.out.next hb2); clear hb2 ho2 hIL))
  go_loopw [13, 32] (fun t i wr => ∃ k : Nat, k ≤ 35 ∧ i = .int .i64 (k : Int) ∧ t = .string (rowB (fun c => valS id seed leaf c (D.getD c 0)) k) ∧ ILie wr gd D ∧ Below w.heap.size w wr) (fun _ i _ => 35 - (intOf i).toNat)
  case atStart => exact ⟨0, by decide, rfl, rfl, HIL.out, HB2.out⟩
  case round =>
    obtain ⟨k, hk, rfl, rfl, hIk, hb⟩ := hrel
    have HB := Lib.hid hb
    have HIK := Lib.hid hIk
    have hsz : (rowB (fun c => valS id seed leaf c (D.getD c 0)) k).size = k * 16 := rowB_size (fun _ => valS_size _ _ _ _ _) k
    by_cases hlt : k < 35
    · have hd : decide ((k : Int) < 35) = true := by simp; omega
      have hcell := hIk.cell k (by rw [HDL.out]; exact hlt)
      have HR : Hid (rowB (fun c => valS id seed leaf c (D.getD c 0)) (k + 1) = rowB (fun c => valS id seed leaf c (D.getD c 0)) k ++ valS id seed leaf k (D.getD k 0)) := Lib.hid rfl
      have hx15 := HDV.out k
      obtain ⟨x, hx⟩ : ∃ x, x = D.getD k 0 := ⟨_, rfl⟩
      rw [← hx] at hcell HR hx15
      have HX := Lib.hid hx
      obtain ⟨u, hu⟩ : ∃ u, u = valS id seed leaf k x := ⟨_, rfl⟩
      have husz : u.size = 16 := by rw [hu]; exact valS_size _ _ _ _ _
      obtain ⟨r, hr⟩ : ∃ r, r = rowB (fun c => valS id seed leaf c (D.getD c 0)) k := ⟨_, rfl⟩
      rw [← hu, ← hr] at HR
      rw [← hr] at hsz ⊢
      obtain ⟨sv, hsv⟩ : ∃ sv, sv = secS seed leaf k := ⟨_, rfl⟩
      have HSC : Hid (∀ W : World, Calls Tryd.prog 32 #[.string seed, .int .i64 (leaf : Int), .int .i64 (k : Int)] W fun e w' => e = .returned (.string sv) ∧ Below W.heap.size W w') := Lib.hid fun W => by
        rw [hsv]
        exact rsec_any seed leaf k (by rw [HS.out]; omega) (by have := HL.out; omega) (by omega) W
      have HWK : Hid (∀ W : World, Calls Tryd.prog 31 #[.string id, .int .i64 (leaf : Int), .int .i64 (k : Int), .int .i64 0, .int .i64 (x : Int), .string sv] W fun e w' => e = .returned (.string u) ∧ Below W.heap.size W w') := Lib.hid fun W => by
        rw [hu, hsv]
        exact rwalk_any id (secS seed leaf k) leaf k 0 x (by rw [HI.out]; omega) (by rw [secS_size]; omega) (by have := HL.out; omega) (by omega) (by omega) (by omega) W
      clear hu hr hsv hx hIk hb
      have hsum : ((r.size : Nat) : Int) + ((u.size : Nat) : Int) ≤ 9223372036854775807 := by rw [hsz, husz]; omega
      have hki : (k : Int) < 35 := by omega
      have hno : ¬ (9223372036854775807 < k * 16 + 16) := by omega
      have hcelld : wr.drew.cell? ⟨gd, k, none⟩ = some (.int .i64 ((x : Nat) : Int)) := hcell
      go_wp2_with fail
      go_region_law (first | (go_simp; go_at_call 32; (with_reducible refine (HSC.out _).mono ?_); rintro e w3 ⟨rfl, hb3⟩; have HB3 := Lib.hid (HB.out.drew.next hb3); have HI3 := Lib.hid ((show ILie wr.drew gd D from HIK.out).below hb3); have hc3 : w3.cell? ⟨gd, k, none⟩ = some (.int .i64 ((x : Nat) : Int)) := (by rw [HX.out]; exact HI3.out.cell k (by rw [HDL.out]; exact hlt)); clear hb3) | (go_simp; go_at_call 31; (with_reducible refine (HWK.out _).mono ?_); rintro e w4 ⟨rfl, hb4⟩; have HB4 := Lib.hid (HB3.out.next hb4); have HI4 := Lib.hid (HI3.out.below hb4); clear hb4))
      all_goals
        go_wp2_with fail
        go_roundw
        case rel => exact ⟨k + 1, by omega, by go_num, by rw [HR.out], HI4.out, HB4.out⟩
        case measure => simp [intOf]; omega
    · have hk35 : k = 35 := by omega
      subst hk35
      have hd : decide ((35 : Int) < 35) = false := by decide
      go_wp2_with fail
      go_ret2
      exact ⟨rfl, HB.out⟩
set_option maxRecDepth 100000 in
set_option maxHeartbeats 1000000 in
theorem rsgn_bad (id seed dg : ByteArray) (leaf : Int) (n : Nat) (hn : chkQ id seed leaf = n) (h0 : n ≠ 0) (w : World) :
    Calls Tryd.prog 15 #[.string id, .string seed, .int .i64 leaf, .string dg] w fun e w' => e = .returned (noneV n) ∧ Below w.heap.size w w' := by
  have HCK : Hid (∀ W : World, Calls Tryd.prog 30 #[.string id, .string seed, .int .i64 leaf] W fun e w' => e = .returned (.int .i64 (n : Int)) ∧ Below W.heap.size W w') := Lib.hid fun W => by
    have := rchkq_any id seed leaf W
    rw [hn] at this
    exact this
  have d1 : ((n : Int) == 0) = false := by simp; omega
  clear hn
  go_enter Tryd.func15, Tryd.ntmps15
  go_wp2_with (first | (go_at_call 30; (with_reducible refine (HCK.out _).mono ?_); rintro e w1 ⟨rfl, hb1⟩; have HB1 := Lib.hid hb1; clear hb1))
  go_ret2
  exact ⟨rfl, HB1.out⟩
set_option maxRecDepth 100000 in
set_option maxHeartbeats 1000000 in
theorem rsgn_dig (id seed dg : ByteArray) (leaf : Int) (hn : chkQ id seed leaf = 0) (h0 : dg.size ≠ 16) (w : World) :
    Calls Tryd.prog 15 #[.string id, .string seed, .int .i64 leaf, .string dg] w fun e w' => e = .returned (noneV 7) ∧ Below w.heap.size w w' := by
  have HCK : Hid (∀ W : World, Calls Tryd.prog 30 #[.string id, .string seed, .int .i64 leaf] W fun e w' => e = .returned (.int .i64 0) ∧ Below W.heap.size W w') := Lib.hid fun W => by
    have := rchkq_any id seed leaf W
    rw [hn] at this
    exact this
  have HDG : Hid (∀ W : World, Calls Tryd.prog 35 #[.string dg] W fun e w' => e = .returned (.tuple #[.slice none 0 0, .int .i64 7]) ∧ Below W.heap.size W w') := Lib.hid fun W => rdig_bad dg h0 W
  clear hn
  go_enter Tryd.func15, Tryd.ntmps15
  go_wp2_with (first | (go_at_call 30; (with_reducible refine (HCK.out _).mono ?_); rintro e w1 ⟨rfl, hb1⟩; have HB1 := Lib.hid hb1; clear hb1) | (go_at_call 35; (with_reducible refine (HDG.out _).mono ?_); rintro e w2 ⟨rfl, hb2⟩; have HB2 := Lib.hid (HB1.out.next hb2); clear hb2))
  go_ret2
  exact ⟨rfl, HB2.out⟩
theorem rsgn_any (id seed dg : ByteArray) (leaf : Int) (w : World) :
    Calls Tryd.prog 15 #[.string id, .string seed, .int .i64 leaf, .string dg] w fun e w' => e = .returned (sigV id seed leaf dg) ∧ Below w.heap.size w w' := by
  unfold sigV sigE
  by_cases h : chkQ id seed leaf = 0
  · rw [if_pos h]
    by_cases h2 : dg.size = 16
    · rw [if_pos h2, if_pos rfl]
      obtain ⟨_, _, n, rfl, _⟩ := chkQ_zero h
      exact rsgn_ok id seed dg n h h2 w
    · rw [if_neg h2, if_neg (by decide)]
      exact rsgn_dig id seed dg leaf h h2 w
  · rw [if_neg h, if_neg h]
    exact rsgn_bad id seed dg leaf _ rfl h w
end Go.Proofs.YtbmphhiafepnoaaDoor
namespace Go.Proofs.YtbmphhiafepnoaaDoor
open Go.RowKit

set_option maxRecDepth 100000 in
set_option maxHeartbeats 2000000 in
theorem signlaw (hD : DigP) (hS : SigP) (k leaf : Nat) (hk : k < 256) (hl : leaf < 256) (s : ByteArray) (w : World) (hK : Holds w 0 kWords) :
    Calls Tryd.prog 4 #[.int .u8 (k : Int), .int .u8 (leaf : Int), .string s] w fun e w' => e = .returned (.bool true) ∧ Below w.heap.size w w' := by
  have HK := Lib.hid hK
  have HAW := Lib.hid (awakeq_any hD)
  have HZ : Hid (Below w.heap.size w w) := Lib.hid (Below.refl w.heap.size w)
  obtain ⟨n, hn⟩ : ∃ n, n = s.size := ⟨_, rfl⟩
  have hni : (s.size : Int) = (n : Int) := by rw [hn]
  by_cases h60 : 60 < n
  · have d1 : decide ((60 : Int) < (n : Int)) = true := by simp; omega
    clear hn
    go_enter Tryd.func4, Tryd.ntmps4
    go_wp2_with (first | (go_at_call 12; (with_reducible refine (HAW.out _).mono ?_); rintro e w1 ⟨rfl, hb1⟩; have HZ := Lib.hid (HZ.out.next hb1); clear hb1))
    go_ret
    exact ⟨rfl, HZ.out⟩
  · have d1 : decide ((60 : Int) < (n : Int)) = false := by simp; omega
    have hs60 : s.size ≤ 1000 := by omega
    clear hn
    obtain ⟨I, hI⟩ : ∃ I, I = idS k := ⟨_, rfl⟩
    obtain ⟨E, hE⟩ : ∃ E, E = seedS k := ⟨_, rfl⟩
    obtain ⟨G, hG⟩ : ∃ G, G = dgS s := ⟨_, rfl⟩
    obtain ⟨S, hSg⟩ : ∃ S, S = sigS (idS k) (seedS k) leaf (digs (dgS s).data.toList) := ⟨_, rfl⟩
    have hV : sigV I E (leaf : Int) G = .tuple #[.string S, .int .i64 0] := by rw [hI, hE, hG, hSg]; exact sig_ok k leaf hl s
    have hSs : S.size = 560 := by rw [hSg]; exact sigS_size _ _ _ _
    have HI : Hid (∀ W : World, Calls Tryd.prog 9 #[.int .u8 (k : Int)] W fun e w' => e = .returned (.string I) ∧ Below W.heap.size W w') := Lib.hid fun W => by rw [hI]; exact idq_any k hk W
    have HE : Hid (∀ W : World, Calls Tryd.prog 10 #[.int .i64 (k : Int)] W fun e w' => e = .returned (.string E) ∧ Below W.heap.size W w') := Lib.hid fun W => by rw [hE]; exact seedq_any k (by omega) W
    have HG : Hid (∀ W : World, Calls Tryd.prog 14 #[.string s] W fun e w' => e = .returned (.string G) ∧ Below W.heap.size W w') := Lib.hid fun W => by rw [hG]; exact dgq_any s hs60 W
    have HP : Hid (∀ W : World, Holds W 0 kWords → Calls Tryd.prog 13 #[.string I, .string E, .int .i64 (leaf : Int), .string G] W fun e w' => e = .returned (.tuple #[.string S, .int .i64 0]) ∧ Below W.heap.size W w') := Lib.hid fun W h => by rw [← hV]; exact hS I E G (leaf : Int) W h
    have HR : Hid (∀ W : World, Calls Tryd.prog 15 #[.string I, .string E, .int .i64 (leaf : Int), .string G] W fun e w' => e = .returned (.tuple #[.string S, .int .i64 0]) ∧ Below W.heap.size W w') := Lib.hid fun W => by rw [← hV]; exact rsgn_any I E G (leaf : Int) W
    clear hI hE hG hSg hV
    have hSi : (S.size : Int) = 560 := by omega
    clear hSs
    go_enter Tryd.func4, Tryd.ntmps4
    go_wp2_with (first | (go_at_call 9; (with_reducible refine (HI.out _).mono ?_); rintro e w1 ⟨rfl, hb1⟩; have HZ := Lib.hid (HZ.out.next hb1); clear hb1) | (go_at_call 10; (with_reducible refine (HE.out _).mono ?_); rintro e w2 ⟨rfl, hb2⟩; have HZ := Lib.hid (HZ.out.next hb2); clear hb2) | (go_at_call 14; (with_reducible refine (HG.out _).mono ?_); rintro e w3 ⟨rfl, hb3⟩; have HZ := Lib.hid (HZ.out.next hb3); clear hb3) | (go_at_call 13; (with_reducible refine (HP.out _ (HK.out.old HZ.out)).mono ?_); rintro e w4 ⟨rfl, hb4⟩; have HZ := Lib.hid (HZ.out.next hb4); clear hb4) | (go_at_call 15; (with_reducible refine (HR.out _).mono ?_); rintro e w5 ⟨rfl, hb5⟩; have HZ := Lib.hid (HZ.out.next hb5); clear hb5) | (go_at_call 12; (with_reducible refine (HAW.out _).mono ?_); rintro e w6 ⟨rfl, hb6⟩; have HZ := Lib.hid (HZ.out.next hb6); clear hb6))
    go_ret
    exact ⟨rfl, HZ.out⟩
end Go.Proofs.YtbmphhiafepnoaaDoor
