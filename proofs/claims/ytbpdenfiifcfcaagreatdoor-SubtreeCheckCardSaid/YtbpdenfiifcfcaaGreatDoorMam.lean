/-
  The contract of the reference's parts: the local part and the domain of a mail address.
-/
import Derived.Test.YtbpdenfiifcfcaaGreatDoorMal
namespace Go.Proofs.YtbpdenfiifcfcaaGreatDoor
open Go.RowKit

theorem atK_le (L : List UInt8) : atK L ≤ L.length := by
  unfold atK
  induction L with
  | nil => simp
  | cons c r ih =>
    rw [List.takeWhile_cons]
    split
    · simp only [List.length_cons]; omega
    · simp
theorem atK_lt {L : List UInt8} {j : Nat} (h : j < atK L) : ∃ c, L[j]? = some c ∧ c ≠ 64 := by
  unfold atK at h
  induction L generalizing j with
  | nil => simp at h
  | cons c r ih =>
    rw [List.takeWhile_cons] at h
    split at h
    · rename_i hc
      cases j with
      | zero => exact ⟨c, rfl, by simpa using hc⟩
      | succ j => exact ih (by simp only [List.length_cons] at h; omega)
    · simp at h
theorem atK_at {L : List UInt8} (h : atK L < L.length) : L[atK L]? = some 64 := by
  unfold atK at h ⊢
  induction L with
  | nil => simp at h
  | cons c r ih =>
    rw [List.takeWhile_cons] at h ⊢
    split at h
    · rename_i hc
      rw [if_pos hc]
      simp only [List.length_cons] at h ⊢
      exact ih (by omega)
    · rename_i hc
      rw [if_neg hc]
      have : c = 64 := by simpa using hc
      rw [this]
      rfl
def okB (c d : UInt8) : Bool := (alnum c.toNat || signsL.contains c) && !(c == 46 && d == 46)
theorem local_step {L : List UInt8} {K i : Nat} {c d : UInt8} (h64 : L[K]? = some 64) (hi : i < K) (hc : L[i]? = some c) (hd : L[i + 1]? = some d) :
    localB ((L.take K).drop i) = (okB c d && localB ((L.take K).drop (i + 1))) := by
  have hc' : (L.take K)[i]? = some c := by rw [List.getElem?_take_of_lt hi]; exact hc
  rw [drop_cons hc']
  show ((alnum c.toNat || signsL.contains c) && !(c == 46 && ((L.take K).drop (i + 1)).head? == some 46) && localB ((L.take K).drop (i + 1))) = _
  have e : (c == 46 && ((L.take K).drop (i + 1)).head? == some 46) = (c == 46 && d == 46) := by
    rw [List.head?_drop]
    by_cases hk : i + 1 < K
    · rw [List.getElem?_take_of_lt hk, hd]
      rfl
    · have ek : i + 1 = K := by omega
      rw [List.getElem?_eq_none (by rw [List.length_take]; omega)]
      rw [ek, h64] at hd
      have : d = 64 := (Option.some.inj hd).symm
      rw [this]
      rfl
  rw [e]
  rfl
theorem mail_long {L : List UInt8} (h : 128 < L.length) : mailB L = false := by unfold mailB; rw [decide_eq_false (show ¬ L.length ≤ 128 by omega)]; simp
theorem mail_k0 {L : List UInt8} (h : atK L < 1) : mailB L = false := by unfold mailB; rw [decide_eq_false (show ¬ 1 ≤ atK L by omega)]; simp
theorem mail_k64 {L : List UInt8} (h : 64 < atK L) : mailB L = false := by unfold mailB; rw [decide_eq_false (show ¬ atK L ≤ 64 by omega)]; simp
theorem mail_no {L : List UInt8} (h : atK L = L.length) : mailB L = false := by unfold mailB; rw [decide_eq_false (show ¬ atK L < L.length by omega)]; simp
theorem mail_dns {L : List UInt8} (h : dnsB (L.drop (atK L + 1)) = false) : mailB L = false := by unfold mailB; rw [h]; simp
theorem mail_head {L : List UInt8} (h : L.head? = some 46) : mailB L = false := by unfold mailB; rw [h]; simp
theorem mail_last {L : List UInt8} (h : (L.take (atK L)).getLast? = some 46) : mailB L = false := by unfold mailB; rw [h]; simp
theorem mail_local {L : List UInt8} (h : localB (L.take (atK L)) = false) : mailB L = false := by unfold mailB; rw [h]; simp
theorem mail_yes {L : List UInt8} (h1 : L.length ≤ 128) (h2 : 1 ≤ atK L) (h3 : atK L ≤ 64) (h4 : atK L < L.length) (h5 : dnsB (L.drop (atK L + 1)) = true) (h6 : L.head? ≠ some 46) (h7 : (L.take (atK L)).getLast? ≠ some 46) (h8 : localB (L.take (atK L)) = true) : mailB L = true := by
  unfold mailB
  rw [decide_eq_true h1, decide_eq_true h2, decide_eq_true h3, decide_eq_true h4, h5, bne_iff_ne.2 h6, bne_iff_ne.2 h7, h8]
  rfl
def partsR (L : List UInt8) : Value := if mailB L = true then .tuple #[.string (strOf (localP L)), .string (strOf (domP L)), .bool true] else .tuple #[.string ⟨#[]⟩, .string ⟨#[]⟩, .bool false]
theorem partsR_no {L : List UInt8} (h : mailB L = false) : partsR L = .tuple #[.string ⟨#[]⟩, .string ⟨#[]⟩, .bool false] := by unfold partsR; rw [h]; rfl
theorem partsR_yes {L : List UInt8} (h : mailB L = true) : partsR L = .tuple #[.string (strOf (localP L)), .string (strOf (domP L)), .bool true] := by unfold partsR; rw [if_pos h]
theorem signs_is {c : UInt8} {b : Bool} (h : signsL.contains c = b) (w : World) :
    Calls Tryz.prog 111 #[.int .u8 ((c.toNat : Nat) : Int), .string ⟨#[33, 35, 36, 37, 38, 39, 42, 43, 45, 47, 61, 63, 94, 95, 96, 123, 124, 125, 126, 46]⟩] w fun e w' => e = .returned (.bool b) ∧ w' = w :=
  among_is (l := ⟨#[33, 35, 36, 37, 38, 39, 42, 43, 45, 47, 61, 63, 94, 95, 96, 123, 124, 125, 126, 46]⟩) h (by decide) w
theorem alnumU_is {c : UInt8} {b : Bool} (h : alnum c.toNat = b) (w : World) : Calls Tryz.prog 110 #[.int .u8 ((c.toNat : Nat) : Int)] w fun e w' => e = .returned (.bool b) ∧ w' = w := ralnum_is h w
theorem byte_ne {c d : UInt8} (h : c ≠ d) : (((c.toNat : Nat) : Int) == ((d.toNat : Nat) : Int)) = false := by
  have : ¬ c.toNat = d.toNat := fun e => h (UInt8.toNat_inj.1 e)
  simp; omega
theorem alnum_dot {c : UInt8} (h : alnum c.toNat = true) : c ≠ 46 := fun e => by rw [e] at h; exact absurd h (by decide)

set_option maxRecDepth 100000 in
set_option maxHeartbeats 4000000 in
theorem rparts_any (L : List UInt8) (hL : L.length ≤ 150000) (w : World) :
    Calls Tryz.prog 87 #[.string (strOf L)] w fun e w' => e = .returned (partsR L) ∧ Below w.heap.size w w' := by
  have e0 := strOf_size L
  by_cases h : 128 < L.length
  · have d1 : decide ((128 : Int) < (L.length : Int)) = true := by simp; omega
    have HE := Lib.hid (partsR_no (mail_long h))
    go_enter Tryz.func87, Tryz.ntmps87
    go_wp2_with fail
    exact bodyPost_ret (results_tmp3 rfl _ _ _) rfl ⟨by rw [HE.out]; rfl, Below.refl _ _⟩
  · have d1 : decide ((128 : Int) < (L.length : Int)) = false := by simp; omega
    obtain ⟨K, hK⟩ : ∃ K, K = atK L := ⟨_, rfl⟩
    have hKL := atK_le L
    rw [← hK] at hKL
    have HKE := Lib.hid hK
    clear hK
    go_enter Tryz.func87, Tryz.ntmps87
    go_wp2_with fail
    clear d1
    go_loopw [5] (fun i wr => ∃ k : Nat, k ≤ K ∧ i = .int .i64 (k : Int) ∧ wr = w) (fun i _ => K - (intOf i).toNat)
    case atStart => exact ⟨0, Nat.zero_le _, rfl, rfl⟩
    case round =>
      obtain ⟨k, hk, rfl, rfl⟩ := hrel
      by_cases hlt : k < K
      · obtain ⟨c, hc, hc64⟩ := atK_lt (L := L) (j := k) (by rw [← HKE.out]; exact hlt)
        have hd : decide ((k : Int) < (L.length : Int)) = true := by simp; omega
        obtain ⟨x, hx, hxn⟩ := u8at_list (strOf L) k (by rw [e0]; omega)
        have hix := run_index_u8 (P := Tryz.prog) Tryz.underlying9 (strOf L) k (by rw [e0]; omega) (k : Int) rfl
        rw [hxn] at hix
        rw [strOf_list, hc] at hx
        obtain rfl : c = x := Option.some.inj hx
        have d6 : (((c.toNat : Nat) : Int) != (64 : Int)) = true := by
          have : ¬ c.toNat = 64 := fun h => hc64 (UInt8.toNat_inj.1 h)
          simp; omega
        clear hx hxn hc hc64
        go_wp2_with fail
        go_roundw
        case rel => exact ⟨k + 1, by omega, by go_num, by first | exact trivial | rfl⟩
        case measure => simp [intOf]; omega
      · have ek : k = K := by omega
        subst ek
        by_cases hkl : k < L.length
        · have hd : decide ((k : Int) < (L.length : Int)) = true := by simp; omega
          have h64 : L[k]? = some 64 := by rw [HKE.out]; exact atK_at (by rw [← HKE.out]; exact hkl)
          obtain ⟨x, hx, hxn⟩ := u8at_list (strOf L) k (by rw [e0]; omega)
          have hix := run_index_u8 (P := Tryz.prog) Tryz.underlying9 (strOf L) k (by rw [e0]; omega) (k : Int) rfl
          rw [hxn] at hix
          rw [strOf_list, h64] at hx
          obtain rfl : 64 = x := Option.some.inj hx
          have d6 : ((((64 : UInt8).toNat : Nat) : Int) != (64 : Int)) = false := by rfl
          clear hx hxn
          have deq : ((k : Int) == (L.length : Int)) = false := by simp; omega
          by_cases h1 : k < 1
          · have HE := Lib.hid (partsR_no (mail_k0 (L := L) (by rw [← HKE.out]; exact h1)))
            have dl : decide ((k : Int) < 1) = true := decide_eq_true (by omega)
            go_wp2_with fail
            exact bodyPost_ret (results_tmp3 rfl _ _ _) rfl ⟨by rw [HE.out]; rfl, Below.refl _ _⟩
          · have dl : decide ((k : Int) < 1) = false := decide_eq_false (by omega)
            by_cases h2 : 64 < k
            · have HE := Lib.hid (partsR_no (mail_k64 (L := L) (by rw [← HKE.out]; exact h2)))
              have dm : decide ((64 : Int) < (k : Int)) = true := decide_eq_true (by omega)
              go_wp2_with fail
              exact bodyPost_ret (results_tmp3 rfl _ _ _) rfl ⟨by rw [HE.out]; rfl, Below.refl _ _⟩
            · have dm : decide ((64 : Int) < (k : Int)) = false := decide_eq_false (by omega)
              have htl := fun w => tail_of L (k + 1) hkl ((k : Int) + 1) (by omega) w
              obtain ⟨D, hD⟩ : ∃ D, D = L.drop (k + 1) := ⟨_, rfl⟩
              rw [← hD] at htl
              have HD := Lib.hid hD
              have HDL := Lib.hid (show D.length ≤ 150000 by rw [hD, List.length_drop]; omega)
              clear hD
              cases h3 : dnsB D with
              | false =>
                have HE := Lib.hid (partsR_no (mail_dns (L := L) (by rw [← HKE.out, ← HD.out]; exact h3)))
                have HS := Lib.hid (fun w => rdns_is h3 HDL.out w)
                clear h3 h64
                go_wp2_with (go_at_call 86; (with_reducible refine (HS.out _).mono ?_); rintro e w2 ⟨rfl, hb2⟩; have HB2 := Lib.hid hb2; clear hb2)
                exact bodyPost_ret (results_tmp3 rfl _ _ _) rfl ⟨by rw [HE.out]; rfl, HB2.out⟩
              | true =>
                have HS := Lib.hid (fun w => rdns_is h3 HDL.out w)
                obtain ⟨x, hx, hxn⟩ := u8at_list (strOf L) 0 (by rw [e0]; omega)
                have hiz := run_index_u8 (P := Tryz.prog) Tryz.underlying9 (strOf L) 0 (by rw [e0]; omega) 0 rfl
                rw [hxn] at hiz
                rw [strOf_list] at hx
                by_cases h4 : x = 46
                · have HE := Lib.hid (partsR_no (mail_head (L := L) (by rw [List.head?_eq_getElem?, hx, h4])))
                  have dx : (((x.toNat : Nat) : Int) == (46 : Int)) = true := by rw [h4]; rfl
                  clear h3 h4 hx hxn h64
                  go_wp2_with (go_at_call 86; (with_reducible refine (HS.out _).mono ?_); rintro e w2 ⟨rfl, hb2⟩; have HB2 := Lib.hid hb2; clear hb2)
                  exact bodyPost_ret (results_tmp3 rfl _ _ _) rfl ⟨by rw [HE.out]; rfl, HB2.out⟩
                · have dx : (((x.toNat : Nat) : Int) == (46 : Int)) = false := byte_ne h4
                  obtain ⟨y, hy, hyn⟩ := u8at_list (strOf L) (k - 1) (by rw [e0]; omega)
                  have hiy := run_index_u8 (P := Tryz.prog) Tryz.underlying9 (strOf L) (k - 1) (by rw [e0]; omega) ((k : Int) - 1) (by omega)
                  rw [hyn] at hiy
                  rw [strOf_list] at hy
                  have hgl : (L.take k).getLast? = some y := by
                    rw [List.getLast?_eq_getElem?, List.length_take, List.getElem?_take_of_lt (by omega), show min k L.length - 1 = k - 1 by omega]
                    exact hy
                  by_cases h5 : y = 46
                  · have HE := Lib.hid (partsR_no (mail_last (L := L) (by rw [← HKE.out, hgl, h5])))
                    have dy : (((y.toNat : Nat) : Int) == (46 : Int)) = true := by rw [h5]; rfl
                    clear h3 h4 h5 hx hxn hy hyn hgl h64
                    go_wp2_with (go_at_call 86; (with_reducible refine (HS.out _).mono ?_); rintro e w2 ⟨rfl, hb2⟩; have HB2 := Lib.hid hb2; clear hb2)
                    exact bodyPost_ret (results_tmp3 rfl _ _ _) rfl ⟨by rw [HE.out]; rfl, HB2.out⟩
                  · have dy : (((y.toNat : Nat) : Int) == (46 : Int)) = false := byte_ne h5
                    have HY := Lib.hid (show localB (L.take k) = true → partsR L = .tuple #[.string (strOf (L.take k)), .string (strOf D), .bool true] from fun h => by
                      rw [partsR_yes (mail_yes (by omega) (by rw [← HKE.out]; omega) (by rw [← HKE.out]; omega) (by rw [← HKE.out]; exact hkl) (by rw [← HKE.out, ← HD.out]; exact h3) (by rw [List.head?_eq_getElem?, hx]; exact fun h => h4 (Option.some.inj h)) (by rw [← HKE.out, hgl]; exact fun h => h5 (Option.some.inj h)) (by rw [← HKE.out]; exact h))]
                      unfold localP domP
                      rw [← HKE.out, ← HD.out])
                    have HF := Lib.hid (show localB (L.take k) = false → partsR L = _ from fun h => partsR_no (mail_local (L := L) (by rw [← HKE.out]; exact h)))
                    have H64 := Lib.hid h64
                    have hhd := fun w => head_of L k hKL (k : Int) rfl w
                    obtain ⟨T, hT⟩ : ∃ T, T = L.take k := ⟨_, rfl⟩
                    have HT := Lib.hid hT
                    rw [← hT] at hhd HY HF
                    clear h3 h4 h5 hx hxn hy hyn hgl h64 hT
                    go_wp2_with (go_at_call 86; (with_reducible refine (HS.out _).mono ?_); rintro e w2 ⟨rfl, hb2⟩; have HB2 := Lib.hid hb2; clear hb2)
                    clear hix hiz hiy d6 deq dl dm dx dy hd
                    go_loopw [6] (fun i ws => ∃ m : Nat, m ≤ k ∧ i = .int .i64 (m : Int) ∧ localB T = localB (T.drop m) ∧ ws = w2) (fun i _ => k - (intOf i).toNat)
                    case atStart => exact ⟨0, Nat.zero_le _, rfl, rfl, rfl⟩
                    case round =>
                      obtain ⟨m, hm, rfl, hal, rfl⟩ := hrel
                      by_cases hmt : m < k
                      · have hd : decide ((m : Int) < (k : Int)) = true := decide_eq_true (by omega)
                        obtain ⟨c, hc, hcn⟩ := u8at_list (strOf L) m (by rw [e0]; omega)
                        have hix := run_index_u8 (P := Tryz.prog) Tryz.underlying9 (strOf L) m (by rw [e0]; omega) (m : Int) rfl
                        rw [hcn] at hix
                        obtain ⟨d, hdd, hdn⟩ := u8at_list (strOf L) (m + 1) (by rw [e0]; omega)
                        have hiy := run_index_u8 (P := Tryz.prog) Tryz.underlying9 (strOf L) (m + 1) (by rw [e0]; omega) ((m : Int) + 1) (by omega)
                        rw [hdn] at hiy
                        rw [strOf_list] at hc hdd
                        have hst := local_step H64.out hmt hc hdd
                        rw [← HT.out] at hst
                        have HST := Lib.hid (hal.trans hst)
                        clear hc hdd hcn hdn hst hal
                        cases ha : alnum c.toNat with
                        | true =>
                          have HAN := Lib.hid (fun w => alnumU_is ha w)
                          have dc : (((c.toNat : Nat) : Int) == (46 : Int)) = false := byte_ne (alnum_dot ha)
                          have HN2 := Lib.hid (show localB T = localB (T.drop (m + 1)) by
                            rw [HST.out, show okB c d = true by unfold okB; rw [ha, beq_eq_false_iff_ne.2 (alnum_dot ha)]; rfl, Bool.true_and])
                          clear ha
                          go_wp2_with (go_at_call 110; (with_reducible refine (HAN.out _).mono ?_); rintro e w3 ⟨rfl, rfl⟩)
                          go_roundw
                          case rel => exact ⟨m + 1, by omega, by go_num, HN2.out, by first | exact trivial | rfl⟩
                          case measure => simp [intOf]; omega
                        | false =>
                          have HAN := Lib.hid (fun w => alnumU_is ha w)
                          cases hs : signsL.contains c with
                          | false =>
                            have HSN := Lib.hid (fun w => signs_is hs w)
                            have HE := Lib.hid (HF.out (by rw [HST.out, show okB c d = false by unfold okB; rw [ha, hs]; rfl, Bool.false_and]))
                            clear ha hs
                            go_wp2_with (first
                              | (go_at_call 110; (with_reducible refine (HAN.out _).mono ?_); rintro e w3 ⟨rfl, rfl⟩)
                              | (go_at_call 111; (with_reducible refine (HSN.out _).mono ?_); rintro e w4 ⟨rfl, rfl⟩))
                            exact bodyPost_ret (results_tmp3 rfl _ _ _) rfl ⟨by rw [HE.out]; rfl, HB2.out⟩
                          | true =>
                            have HSN := Lib.hid (fun w => signs_is hs w)
                            by_cases h6 : c = 46
                            · have dc : (((c.toNat : Nat) : Int) == (46 : Int)) = true := by rw [h6]; rfl
                              by_cases h7 : d = 46
                              · have dd : (((d.toNat : Nat) : Int) == (46 : Int)) = true := by rw [h7]; rfl
                                have HE := Lib.hid (HF.out (by rw [HST.out, show okB c d = false by unfold okB; rw [h6, h7]; rfl, Bool.false_and]))
                                clear ha hs h6 h7
                                go_wp2_with (first
                                  | (go_at_call 110; (with_reducible refine (HAN.out _).mono ?_); rintro e w3 ⟨rfl, rfl⟩)
                                  | (go_at_call 111; (with_reducible refine (HSN.out _).mono ?_); rintro e w4 ⟨rfl, rfl⟩))
                                exact bodyPost_ret (results_tmp3 rfl _ _ _) rfl ⟨by rw [HE.out]; rfl, HB2.out⟩
                              · have dd : (((d.toNat : Nat) : Int) == (46 : Int)) = false := byte_ne h7
                                have HN2 := Lib.hid (show localB T = localB (T.drop (m + 1)) by
                                  rw [HST.out, show okB c d = true by unfold okB; rw [hs, beq_eq_false_iff_ne.2 h7]; simp, Bool.true_and])
                                clear ha hs h6 h7
                                go_wp2_with (first
                                  | (go_at_call 110; (with_reducible refine (HAN.out _).mono ?_); rintro e w3 ⟨rfl, rfl⟩)
                                  | (go_at_call 111; (with_reducible refine (HSN.out _).mono ?_); rintro e w4 ⟨rfl, rfl⟩))
                                go_roundw
                                case rel => exact ⟨m + 1, by omega, by go_num, HN2.out, by first | exact trivial | rfl⟩
                                case measure => simp [intOf]; omega
                            · have dc : (((c.toNat : Nat) : Int) == (46 : Int)) = false := byte_ne h6
                              have HN2 := Lib.hid (show localB T = localB (T.drop (m + 1)) by
                                rw [HST.out, show okB c d = true by unfold okB; rw [hs, beq_eq_false_iff_ne.2 h6]; simp, Bool.true_and])
                              clear ha hs h6
                              go_wp2_with (first
                                | (go_at_call 110; (with_reducible refine (HAN.out _).mono ?_); rintro e w3 ⟨rfl, rfl⟩)
                                | (go_at_call 111; (with_reducible refine (HSN.out _).mono ?_); rintro e w4 ⟨rfl, rfl⟩))
                              go_roundw
                              case rel => exact ⟨m + 1, by omega, by go_num, HN2.out, by first | exact trivial | rfl⟩
                              case measure => simp [intOf]; omega
                      · have em : m = k := by omega
                        subst em
                        have hd : decide ((m : Int) < (m : Int)) = false := by simp
                        have HE := Lib.hid (HY.out (by rw [hal, List.drop_eq_nil_of_le (by rw [HT.out, List.length_take]; omega)]; rfl))
                        clear hal
                        go_wp2_with fail
                        go_region
                        go_wp2_with fail
                        exact bodyPost_ret (results_tmp3 rfl _ _ _) rfl ⟨by rw [HE.out]; rfl, Below.drawn HB2.out _⟩
        · have ekl : k = L.length := by omega
          have HE := Lib.hid (partsR_no (mail_no (L := L) (by rw [← HKE.out]; exact ekl)))
          have hd : decide ((k : Int) < (L.length : Int)) = false := decide_eq_false (by omega)
          have deq : ((k : Int) == (L.length : Int)) = true := by rw [ekl]; simp
          by_cases h1 : k < 1
          · have dl : decide ((k : Int) < 1) = true := decide_eq_true (by omega)
            clear ekl
            go_wp2_with fail
            exact bodyPost_ret (results_tmp3 rfl _ _ _) rfl ⟨by rw [HE.out]; rfl, Below.refl _ _⟩
          · have dl : decide ((k : Int) < 1) = false := decide_eq_false (by omega)
            by_cases h2 : 64 < k
            · have dm : decide ((64 : Int) < (k : Int)) = true := decide_eq_true (by omega)
              clear ekl
              go_wp2_with fail
              exact bodyPost_ret (results_tmp3 rfl _ _ _) rfl ⟨by rw [HE.out]; rfl, Below.refl _ _⟩
            · have dm : decide ((64 : Int) < (k : Int)) = false := decide_eq_false (by omega)
              clear ekl
              go_wp2_with fail
              exact bodyPost_ret (results_tmp3 rfl _ _ _) rfl ⟨by rw [HE.out]; rfl, Below.refl _ _⟩
end Go.Proofs.YtbpdenfiifcfcaaGreatDoor
