/-
  The contract of the reference's utf8: whether a text is well-formed without control characters; nothing has changed.
-/
import Derived.Test.YtbpdenfiifcfcaaGreatDoorMad
namespace Go.Proofs.YtbpdenfiifcfcaaGreatDoor
open Go.RowKit

theorem and_low : ∀ x : Nat, x < 256 → bits BinOp.and .i64 ((x : Nat) : Int) 31 = ((x % 32 : Nat) : Int) ∧ bits BinOp.and .i64 ((x : Nat) : Int) 15 = ((x % 16 : Nat) : Int) ∧ bits BinOp.and .i64 ((x : Nat) : Int) 7 = ((x % 8 : Nat) : Int) := by decide +kernel
theorem isU_low {x : Nat} (h : x < 32 ∨ x = 127) : isU x = false := by
  unfold isU
  rcases h with h | h
  · simp; omega
  · rw [h]; rfl
theorem isU_mid {x : Nat} (h : 32 ≤ x) (h2 : x ≠ 127) : isU x = true := by
  unfold isU
  simp; omega

set_option maxRecDepth 100000 in
set_option maxHeartbeats 8000000 in
theorem rutf8_any (s : ByteArray) (w : World) (hn : s.size ≤ 1099511627776) :
    Calls Tryz.prog 135 #[.string s] w fun e w' => e = .returned (.bool (okU s.data.toList)) ∧ w' = w := by
  obtain ⟨ANS, hANS⟩ : ∃ ANS, okU s.data.toList = ANS := ⟨_, rfl⟩
  rw [hANS]
  have HANS := Lib.hid hANS
  clear hANS
  go_enter Tryz.func135, Tryz.ntmps135
  go_wp2_with fail
  go_loopw [3] (fun i wr => ∃ k : Nat, k ≤ s.size ∧ i = .int .i64 (k : Int) ∧ okU (s.data.toList.drop k) = ANS ∧ wr = w) (fun i _ => s.size - (intOf i).toNat)
  case atStart => exact ⟨0, Nat.zero_le _, rfl, HANS.out, rfl⟩
  case round =>
    obtain ⟨k, hk, rfl, hA, rfl⟩ := hrel
    by_cases hlt : k < s.size
    · have hd : decide ((k : Int) < (s.size : Int)) = true := by simp; omega
      have hix := fun w => run_index_u8 (P := Tryz.prog) Tryz.underlying9 s k hlt (k : Int) rfl w
      have hx256 := u8at_lt s k
      have H1 := Lib.hid (okU_one s k hlt)
      have H0 := Lib.hid (okU_no s k hlt)
      have H2 := Lib.hid (okU_2 s k hlt)
      have H3 := Lib.hid (okU_3 s k hlt)
      have H4 := Lib.hid (okU_4 s k hlt)
      generalize u8at s k = x at hix hx256 H0 H1 H2 H3 H4
      rcases (by omega : (x < 32) ∨ (x = 127) ∨ (32 ≤ x ∧ x < 128 ∧ x ≠ 127) ∨ (128 ≤ x ∧ x < 192) ∨ (192 ≤ x ∧ x < 224) ∨ (224 ≤ x ∧ x < 240) ∨ (240 ≤ x ∧ x < 248) ∨ (248 ≤ x)) with h | h | h | h | h | h | h | h
      · have c0 : decide ((x : Int) < 32) = true := by simp; omega
        have HR := Lib.hid (show ANS = false by rw [← hA, H1.out (by omega), isU_low (.inl h)]; rfl)
        clear h hA
        go_wp2_with fail
        go_ret
        exact ⟨by rw [HR.out]; rfl, rfl⟩
      · have c0 : decide ((x : Int) < 32) = false := by simp; omega
        have c9 : ((x : Int) == 127) = true := by simp; omega
        have HR := Lib.hid (show ANS = false by rw [← hA, H1.out (by omega), isU_low (.inr h)]; rfl)
        clear h hA
        go_wp2_with fail
        go_ret
        exact ⟨by rw [HR.out]; rfl, rfl⟩
      · have c0 : decide ((x : Int) < 32) = false := by simp; omega
        have c9 : ((x : Int) == 127) = false := by simp; omega
        have c1 : decide ((x : Int) < 128) = true := by simp; omega
        have HR := Lib.hid (show okU (s.data.toList.drop (k + 1)) = ANS by rw [← hA, H1.out h.2.1, isU_mid h.1 h.2.2, Bool.true_and])
        clear h hA
        go_wp2_with fail
        go_roundw
        case rel => exact ⟨k + 1, by omega, by go_num, HR.out, by first | exact trivial | rfl⟩
        case measure => simp [intOf]; omega
      · have hcls := h
        have c9 : ((x : Int) == 127) = false := by simp; omega
        have c0 : decide ((x : Int) < 32) = false := by simp; omega
        have c1 : decide ((x : Int) < 128) = false := by simp; omega
        have c2 : decide ((192 : Int) ≤ (x : Int)) = false := by simp; omega
        have c3 : decide ((x : Int) < 224) = true := by simp; omega
        have c4 : decide ((224 : Int) ≤ (x : Int)) = false := by simp; omega
        have c5 : decide ((x : Int) < 240) = true := by simp; omega
        have c6 : decide ((240 : Int) ≤ (x : Int)) = false := by simp; omega
        have c7 : decide ((x : Int) < 248) = true := by simp; omega
        have HR := Lib.hid (show ANS = false by rw [← hA, H0.out (by omega)])
        clear h hA
        go_wp2_with fail
        go_ret
        exact ⟨by rw [HR.out]; rfl, rfl⟩
      · have hcls := h
        have c9 : ((x : Int) == 127) = false := by simp; omega
        have c0 : decide ((x : Int) < 32) = false := by simp; omega
        have c1 : decide ((x : Int) < 128) = false := by simp; omega
        have c2 : decide ((192 : Int) ≤ (x : Int)) = true := by simp; omega
        have c3 : decide ((x : Int) < 224) = true := by simp; omega
        have c4 : decide ((224 : Int) ≤ (x : Int)) = false := by simp; omega
        have c5 : decide ((x : Int) < 240) = true := by simp; omega
        have c6 : decide ((240 : Int) ≤ (x : Int)) = false := by simp; omega
        have c7 : decide ((x : Int) < 248) = true := by simp; omega
        have hKK := Lib.hid (hA.symm.trans (H2.out h))
        obtain ⟨m0, hm0⟩ : ∃ m0, m0 = x % 32 := ⟨_, rfl⟩
        have hand : bits BinOp.and .i64 (x : Int) 31 = (m0 : Int) := by rw [hm0]; exact (and_low x hx256).1
        have hm0b : m0 < 32 := by omega
        rw [← hm0] at hKK
        clear h hA hm0 hcls H0 H1 H2 H3 H4
        by_cases hlen : s.size ≤ k + 1
        · have c10 : decide ((s.size : Int) - (k : Int) ≤ 1) = true := by simp; omega
          have HR := Lib.hid (show ANS = false by rw [hKK.out, if_neg (by omega)])
          clear hlen
          go_wp2_with fail
          go_ret
          exact ⟨by rw [HR.out]; rfl, rfl⟩
        · have c10 : decide ((s.size : Int) - (k : Int) ≤ 1) = false := by simp; omega
          have hix1 := fun w => run_index_u8 (P := Tryz.prog) Tryz.underlying9 s (k + 1) (by omega) ((k : Int) + 1) (by omega) w
          have hb1 := u8at_lt s (k + 1)
          generalize u8at s (k + 1) = b1 at hix1 hb1 hKK
          obtain ⟨r1, hr1⟩ : ∃ r, r = b1 % 64 := ⟨_, rfl⟩
          obtain ⟨q1, hq1⟩ : ∃ q, q = b1 / 64 := ⟨_, rfl⟩
          have hri1 : (b1 : Int) % 64 = (r1 : Int) := by omega
          have hqi1 : (b1 : Int) / 64 = (q1 : Int) := by omega
          have hrb1 : r1 < 64 := by omega
          rw [← hr1, ← hq1] at hKK
          clear hr1 hq1
          have HKS := Lib.hid (show k + 1 < s.size by omega)
          clear hlen
          go_wp2_with fail
          go_loopw [7, 8] (fun v j wx => ((j = .int .i64 1 ∧ (True) ∧ v = .int .i64 ((m0 : Nat) : Int)) ∨ (j = .int .i64 2 ∧ (q1 = 2) ∧ v = .int .i64 ((64 * m0 + r1 : Nat) : Int))) ∧ wx = wr) (fun _ j _ => 2 - (intOf j).toNat)
          case atStart => exact ⟨.inl ⟨rfl, trivial, rfl⟩, rfl⟩
          case round =>
            obtain ⟨hrel, rfl⟩ := hrel
            have HKS2 := HKS.out
            rcases hrel with ⟨rfl, hq, rfl⟩ | ⟨rfl, hq, rfl⟩
            · by_cases h2 : q1 = 2
              · have e1 : ((q1 : Int) != 2) = false := by rw [h2]; rfl
                obtain ⟨vv, hvv⟩ : ∃ vv, vv = m0 := ⟨_, rfl⟩
                have hvb : vv < 10000000 := by omega
                have HN := Lib.hid (show ((64 * vv + r1 : Nat) : Int) = ((64 * m0 + r1 : Nat) : Int) by rw [hvv])
                rw [← hvv]
                have HQ := Lib.hid hq
                have HQ2 := Lib.hid h2
                clear hvv hq h2
                go_wp2_with fail
                go_roundw
                case rel => exact ⟨.inr (⟨by go_num, HQ2.out, by first | (rw [← HN.out]; go_num) | go_num⟩), by first | exact trivial | rfl⟩
                case measure => simp [intOf]
              · have e1 : ((q1 : Int) != 2) = true := by simp; omega
                have HR := Lib.hid (show ANS = false by rw [hKK.out, if_neg (by omega)])
                clear h2 hq
                go_wp2_with fail
                go_ret
                exact ⟨by rw [HR.out]; rfl, rfl⟩
            · obtain ⟨vv, hvv⟩ : ∃ vv, vv = 64 * m0 + r1 := ⟨_, rfl⟩
              rw [← hvv] at hKK ⊢
              have hvb : vv < 2048 := by omega
              clear hvv
              by_cases v1 : vv < 128
              · have d1 : decide ((vv : Int) < 128) = true := by simp; omega
                have HR := Lib.hid (show ANS = false by rw [hKK.out, if_neg (by omega)])
                clear v1 hq
                go_wp2_with fail
                go_ret
                exact ⟨by rw [HR.out]; rfl, rfl⟩
              · have d1 : decide ((vv : Int) < 128) = false := by simp; omega
                by_cases v2 : 1114111 < vv
                · have d2 : decide ((1114111 : Int) < (vv : Int)) = true := by simp; omega
                  have HR := Lib.hid (show ANS = false by rw [hKK.out, if_neg (by omega)])
                  clear v1 v2 hq
                  go_wp2_with fail
                  go_ret
                  exact ⟨by rw [HR.out]; rfl, rfl⟩
                · have d2 : decide ((1114111 : Int) < (vv : Int)) = false := by simp; omega
                  by_cases v3 : 55296 ≤ vv
                  · have d3 : decide ((55296 : Int) ≤ (vv : Int)) = true := by simp; omega
                    by_cases v4 : vv < 57344
                    · have d4 : decide ((vv : Int) < 57344) = true := by simp; omega
                      have HR := Lib.hid (show ANS = false by rw [hKK.out, if_neg (by omega)])
                      clear v1 v2 v3 v4 hq
                      go_wp2_with fail
                      go_ret
                      exact ⟨by rw [HR.out]; rfl, rfl⟩
                    · have d4 : decide ((vv : Int) < 57344) = false := by simp; omega
                      have HR := Lib.hid (show okU (s.data.toList.drop (k + 2)) = ANS by rw [hKK.out, if_pos (by omega)])
                      clear v1 v2 v3 v4 hq
                      go_wp2_with fail
                      go_roundw
                      case rel => exact ⟨k + 2, by omega, by go_num, HR.out, by first | exact trivial | rfl⟩
                      case measure => simp [intOf]; omega
                  · have d3 : decide ((55296 : Int) ≤ (vv : Int)) = false := by simp; omega
                    have HR := Lib.hid (show okU (s.data.toList.drop (k + 2)) = ANS by rw [hKK.out, if_pos (by omega)])
                    clear v1 v2 v3 hq
                    go_wp2_with fail
                    go_roundw
                    case rel => exact ⟨k + 2, by omega, by go_num, HR.out, by first | exact trivial | rfl⟩
                    case measure => simp [intOf]; omega
      · have hcls := h
        have c9 : ((x : Int) == 127) = false := by simp; omega
        have c0 : decide ((x : Int) < 32) = false := by simp; omega
        have c1 : decide ((x : Int) < 128) = false := by simp; omega
        have c2 : decide ((192 : Int) ≤ (x : Int)) = true := by simp; omega
        have c3 : decide ((x : Int) < 224) = false := by simp; omega
        have c4 : decide ((224 : Int) ≤ (x : Int)) = true := by simp; omega
        have c5 : decide ((x : Int) < 240) = true := by simp; omega
        have c6 : decide ((240 : Int) ≤ (x : Int)) = false := by simp; omega
        have c7 : decide ((x : Int) < 248) = true := by simp; omega
        have hKK := Lib.hid (hA.symm.trans (H3.out h))
        obtain ⟨m0, hm0⟩ : ∃ m0, m0 = x % 16 := ⟨_, rfl⟩
        have hand : bits BinOp.and .i64 (x : Int) 15 = (m0 : Int) := by rw [hm0]; exact (and_low x hx256).2.1
        have hm0b : m0 < 16 := by omega
        rw [← hm0] at hKK
        clear h hA hm0 hcls H0 H1 H2 H3 H4
        by_cases hlen : s.size ≤ k + 2
        · have c10 : decide ((s.size : Int) - (k : Int) ≤ 2) = true := by simp; omega
          have HR := Lib.hid (show ANS = false by rw [hKK.out, if_neg (by omega)])
          clear hlen
          go_wp2_with fail
          go_ret
          exact ⟨by rw [HR.out]; rfl, rfl⟩
        · have c10 : decide ((s.size : Int) - (k : Int) ≤ 2) = false := by simp; omega
          have hix1 := fun w => run_index_u8 (P := Tryz.prog) Tryz.underlying9 s (k + 1) (by omega) ((k : Int) + 1) (by omega) w
          have hb1 := u8at_lt s (k + 1)
          generalize u8at s (k + 1) = b1 at hix1 hb1 hKK
          obtain ⟨r1, hr1⟩ : ∃ r, r = b1 % 64 := ⟨_, rfl⟩
          obtain ⟨q1, hq1⟩ : ∃ q, q = b1 / 64 := ⟨_, rfl⟩
          have hri1 : (b1 : Int) % 64 = (r1 : Int) := by omega
          have hqi1 : (b1 : Int) / 64 = (q1 : Int) := by omega
          have hrb1 : r1 < 64 := by omega
          rw [← hr1, ← hq1] at hKK
          clear hr1 hq1
          have hix2 := fun w => run_index_u8 (P := Tryz.prog) Tryz.underlying9 s (k + 2) (by omega) ((k : Int) + 2) (by omega) w
          have hb2 := u8at_lt s (k + 2)
          generalize u8at s (k + 2) = b2 at hix2 hb2 hKK
          obtain ⟨r2, hr2⟩ : ∃ r, r = b2 % 64 := ⟨_, rfl⟩
          obtain ⟨q2, hq2⟩ : ∃ q, q = b2 / 64 := ⟨_, rfl⟩
          have hri2 : (b2 : Int) % 64 = (r2 : Int) := by omega
          have hqi2 : (b2 : Int) / 64 = (q2 : Int) := by omega
          have hrb2 : r2 < 64 := by omega
          rw [← hr2, ← hq2] at hKK
          clear hr2 hq2
          have HKS := Lib.hid (show k + 2 < s.size by omega)
          clear hlen
          go_wp2_with fail
          go_loopw [7, 8] (fun v j wx => ((j = .int .i64 1 ∧ (True) ∧ v = .int .i64 ((m0 : Nat) : Int)) ∨ (j = .int .i64 2 ∧ (q1 = 2) ∧ v = .int .i64 ((64 * m0 + r1 : Nat) : Int)) ∨ (j = .int .i64 3 ∧ (q1 = 2 ∧ q2 = 2) ∧ v = .int .i64 ((64 * (64 * m0 + r1) + r2 : Nat) : Int))) ∧ wx = wr) (fun _ j _ => 3 - (intOf j).toNat)
          case atStart => exact ⟨.inl ⟨rfl, trivial, rfl⟩, rfl⟩
          case round =>
            obtain ⟨hrel, rfl⟩ := hrel
            have HKS2 := HKS.out
            rcases hrel with ⟨rfl, hq, rfl⟩ | ⟨rfl, hq, rfl⟩ | ⟨rfl, hq, rfl⟩
            · by_cases h2 : q1 = 2
              · have e1 : ((q1 : Int) != 2) = false := by rw [h2]; rfl
                obtain ⟨vv, hvv⟩ : ∃ vv, vv = m0 := ⟨_, rfl⟩
                have hvb : vv < 10000000 := by omega
                have HN := Lib.hid (show ((64 * vv + r1 : Nat) : Int) = ((64 * m0 + r1 : Nat) : Int) by rw [hvv])
                rw [← hvv]
                have HQ := Lib.hid hq
                have HQ2 := Lib.hid h2
                clear hvv hq h2
                go_wp2_with fail
                go_roundw
                case rel => exact ⟨.inr (.inl ⟨by go_num, HQ2.out, by first | (rw [← HN.out]; go_num) | go_num⟩), by first | exact trivial | rfl⟩
                case measure => simp [intOf]
              · have e1 : ((q1 : Int) != 2) = true := by simp; omega
                have HR := Lib.hid (show ANS = false by rw [hKK.out, if_neg (by omega)])
                clear h2 hq
                go_wp2_with fail
                go_ret
                exact ⟨by rw [HR.out]; rfl, rfl⟩
            · by_cases h2 : q2 = 2
              · have e1 : ((q2 : Int) != 2) = false := by rw [h2]; rfl
                obtain ⟨vv, hvv⟩ : ∃ vv, vv = 64 * m0 + r1 := ⟨_, rfl⟩
                have hvb : vv < 10000000 := by omega
                have HN := Lib.hid (show ((64 * vv + r2 : Nat) : Int) = ((64 * (64 * m0 + r1) + r2 : Nat) : Int) by rw [hvv])
                rw [← hvv]
                have HQ := Lib.hid hq
                have HQ2 := Lib.hid h2
                clear hvv hq h2
                go_wp2_with fail
                go_roundw
                case rel => exact ⟨.inr (.inr (⟨by go_num, ⟨HQ.out, HQ2.out⟩, by first | (rw [← HN.out]; go_num) | go_num⟩)), by first | exact trivial | rfl⟩
                case measure => simp [intOf]
              · have e1 : ((q2 : Int) != 2) = true := by simp; omega
                have HR := Lib.hid (show ANS = false by rw [hKK.out, if_neg (by omega)])
                clear h2 hq
                go_wp2_with fail
                go_ret
                exact ⟨by rw [HR.out]; rfl, rfl⟩
            · obtain ⟨vv, hvv⟩ : ∃ vv, vv = 64 * (64 * m0 + r1) + r2 := ⟨_, rfl⟩
              rw [← hvv] at hKK ⊢
              have hvb : vv < 65536 := by omega
              clear hvv
              by_cases v1 : vv < 2048
              · have d1 : decide ((vv : Int) < 2048) = true := by simp; omega
                have HR := Lib.hid (show ANS = false by rw [hKK.out, if_neg (by omega)])
                clear v1 hq
                go_wp2_with fail
                go_ret
                exact ⟨by rw [HR.out]; rfl, rfl⟩
              · have d1 : decide ((vv : Int) < 2048) = false := by simp; omega
                by_cases v2 : 1114111 < vv
                · have d2 : decide ((1114111 : Int) < (vv : Int)) = true := by simp; omega
                  have HR := Lib.hid (show ANS = false by rw [hKK.out, if_neg (by omega)])
                  clear v1 v2 hq
                  go_wp2_with fail
                  go_ret
                  exact ⟨by rw [HR.out]; rfl, rfl⟩
                · have d2 : decide ((1114111 : Int) < (vv : Int)) = false := by simp; omega
                  by_cases v3 : 55296 ≤ vv
                  · have d3 : decide ((55296 : Int) ≤ (vv : Int)) = true := by simp; omega
                    by_cases v4 : vv < 57344
                    · have d4 : decide ((vv : Int) < 57344) = true := by simp; omega
                      have HR := Lib.hid (show ANS = false by rw [hKK.out, if_neg (by omega)])
                      clear v1 v2 v3 v4 hq
                      go_wp2_with fail
                      go_ret
                      exact ⟨by rw [HR.out]; rfl, rfl⟩
                    · have d4 : decide ((vv : Int) < 57344) = false := by simp; omega
                      have HR := Lib.hid (show okU (s.data.toList.drop (k + 3)) = ANS by rw [hKK.out, if_pos (by omega)])
                      clear v1 v2 v3 v4 hq
                      go_wp2_with fail
                      go_roundw
                      case rel => exact ⟨k + 3, by omega, by go_num, HR.out, by first | exact trivial | rfl⟩
                      case measure => simp [intOf]; omega
                  · have d3 : decide ((55296 : Int) ≤ (vv : Int)) = false := by simp; omega
                    have HR := Lib.hid (show okU (s.data.toList.drop (k + 3)) = ANS by rw [hKK.out, if_pos (by omega)])
                    clear v1 v2 v3 hq
                    go_wp2_with fail
                    go_roundw
                    case rel => exact ⟨k + 3, by omega, by go_num, HR.out, by first | exact trivial | rfl⟩
                    case measure => simp [intOf]; omega
      · have hcls := h
        have c9 : ((x : Int) == 127) = false := by simp; omega
        have c0 : decide ((x : Int) < 32) = false := by simp; omega
        have c1 : decide ((x : Int) < 128) = false := by simp; omega
        have c2 : decide ((192 : Int) ≤ (x : Int)) = true := by simp; omega
        have c3 : decide ((x : Int) < 224) = false := by simp; omega
        have c4 : decide ((224 : Int) ≤ (x : Int)) = true := by simp; omega
        have c5 : decide ((x : Int) < 240) = false := by simp; omega
        have c6 : decide ((240 : Int) ≤ (x : Int)) = true := by simp; omega
        have c7 : decide ((x : Int) < 248) = true := by simp; omega
        have hKK := Lib.hid (hA.symm.trans (H4.out h))
        obtain ⟨m0, hm0⟩ : ∃ m0, m0 = x % 8 := ⟨_, rfl⟩
        have hand : bits BinOp.and .i64 (x : Int) 7 = (m0 : Int) := by rw [hm0]; exact (and_low x hx256).2.2
        have hm0b : m0 < 8 := by omega
        rw [← hm0] at hKK
        clear h hA hm0 hcls H0 H1 H2 H3 H4
        by_cases hlen : s.size ≤ k + 3
        · have c10 : decide ((s.size : Int) - (k : Int) ≤ 3) = true := by simp; omega
          have HR := Lib.hid (show ANS = false by rw [hKK.out, if_neg (by omega)])
          clear hlen
          go_wp2_with fail
          go_ret
          exact ⟨by rw [HR.out]; rfl, rfl⟩
        · have c10 : decide ((s.size : Int) - (k : Int) ≤ 3) = false := by simp; omega
          have hix1 := fun w => run_index_u8 (P := Tryz.prog) Tryz.underlying9 s (k + 1) (by omega) ((k : Int) + 1) (by omega) w
          have hb1 := u8at_lt s (k + 1)
          generalize u8at s (k + 1) = b1 at hix1 hb1 hKK
          obtain ⟨r1, hr1⟩ : ∃ r, r = b1 % 64 := ⟨_, rfl⟩
          obtain ⟨q1, hq1⟩ : ∃ q, q = b1 / 64 := ⟨_, rfl⟩
          have hri1 : (b1 : Int) % 64 = (r1 : Int) := by omega
          have hqi1 : (b1 : Int) / 64 = (q1 : Int) := by omega
          have hrb1 : r1 < 64 := by omega
          rw [← hr1, ← hq1] at hKK
          clear hr1 hq1
          have hix2 := fun w => run_index_u8 (P := Tryz.prog) Tryz.underlying9 s (k + 2) (by omega) ((k : Int) + 2) (by omega) w
          have hb2 := u8at_lt s (k + 2)
          generalize u8at s (k + 2) = b2 at hix2 hb2 hKK
          obtain ⟨r2, hr2⟩ : ∃ r, r = b2 % 64 := ⟨_, rfl⟩
          obtain ⟨q2, hq2⟩ : ∃ q, q = b2 / 64 := ⟨_, rfl⟩
          have hri2 : (b2 : Int) % 64 = (r2 : Int) := by omega
          have hqi2 : (b2 : Int) / 64 = (q2 : Int) := by omega
          have hrb2 : r2 < 64 := by omega
          rw [← hr2, ← hq2] at hKK
          clear hr2 hq2
          have hix3 := fun w => run_index_u8 (P := Tryz.prog) Tryz.underlying9 s (k + 3) (by omega) ((k : Int) + 3) (by omega) w
          have hb3 := u8at_lt s (k + 3)
          generalize u8at s (k + 3) = b3 at hix3 hb3 hKK
          obtain ⟨r3, hr3⟩ : ∃ r, r = b3 % 64 := ⟨_, rfl⟩
          obtain ⟨q3, hq3⟩ : ∃ q, q = b3 / 64 := ⟨_, rfl⟩
          have hri3 : (b3 : Int) % 64 = (r3 : Int) := by omega
          have hqi3 : (b3 : Int) / 64 = (q3 : Int) := by omega
          have hrb3 : r3 < 64 := by omega
          rw [← hr3, ← hq3] at hKK
          clear hr3 hq3
          have HKS := Lib.hid (show k + 3 < s.size by omega)
          clear hlen
          go_wp2_with fail
          go_loopw [7, 8] (fun v j wx => ((j = .int .i64 1 ∧ (True) ∧ v = .int .i64 ((m0 : Nat) : Int)) ∨ (j = .int .i64 2 ∧ (q1 = 2) ∧ v = .int .i64 ((64 * m0 + r1 : Nat) : Int)) ∨ (j = .int .i64 3 ∧ (q1 = 2 ∧ q2 = 2) ∧ v = .int .i64 ((64 * (64 * m0 + r1) + r2 : Nat) : Int)) ∨ (j = .int .i64 4 ∧ (q1 = 2 ∧ q2 = 2 ∧ q3 = 2) ∧ v = .int .i64 ((64 * (64 * (64 * m0 + r1) + r2) + r3 : Nat) : Int))) ∧ wx = wr) (fun _ j _ => 4 - (intOf j).toNat)
          case atStart => exact ⟨.inl ⟨rfl, trivial, rfl⟩, rfl⟩
          case round =>
            obtain ⟨hrel, rfl⟩ := hrel
            have HKS2 := HKS.out
            rcases hrel with ⟨rfl, hq, rfl⟩ | ⟨rfl, hq, rfl⟩ | ⟨rfl, hq, rfl⟩ | ⟨rfl, hq, rfl⟩
            · by_cases h2 : q1 = 2
              · have e1 : ((q1 : Int) != 2) = false := by rw [h2]; rfl
                obtain ⟨vv, hvv⟩ : ∃ vv, vv = m0 := ⟨_, rfl⟩
                have hvb : vv < 10000000 := by omega
                have HN := Lib.hid (show ((64 * vv + r1 : Nat) : Int) = ((64 * m0 + r1 : Nat) : Int) by rw [hvv])
                rw [← hvv]
                have HQ := Lib.hid hq
                have HQ2 := Lib.hid h2
                clear hvv hq h2
                go_wp2_with fail
                go_roundw
                case rel => exact ⟨.inr (.inl ⟨by go_num, HQ2.out, by first | (rw [← HN.out]; go_num) | go_num⟩), by first | exact trivial | rfl⟩
                case measure => simp [intOf]
              · have e1 : ((q1 : Int) != 2) = true := by simp; omega
                have HR := Lib.hid (show ANS = false by rw [hKK.out, if_neg (by omega)])
                clear h2 hq
                go_wp2_with fail
                go_ret
                exact ⟨by rw [HR.out]; rfl, rfl⟩
            · by_cases h2 : q2 = 2
              · have e1 : ((q2 : Int) != 2) = false := by rw [h2]; rfl
                obtain ⟨vv, hvv⟩ : ∃ vv, vv = 64 * m0 + r1 := ⟨_, rfl⟩
                have hvb : vv < 10000000 := by omega
                have HN := Lib.hid (show ((64 * vv + r2 : Nat) : Int) = ((64 * (64 * m0 + r1) + r2 : Nat) : Int) by rw [hvv])
                rw [← hvv]
                have HQ := Lib.hid hq
                have HQ2 := Lib.hid h2
                clear hvv hq h2
                go_wp2_with fail
                go_roundw
                case rel => exact ⟨.inr (.inr (.inl ⟨by go_num, ⟨HQ.out, HQ2.out⟩, by first | (rw [← HN.out]; go_num) | go_num⟩)), by first | exact trivial | rfl⟩
                case measure => simp [intOf]
              · have e1 : ((q2 : Int) != 2) = true := by simp; omega
                have HR := Lib.hid (show ANS = false by rw [hKK.out, if_neg (by omega)])
                clear h2 hq
                go_wp2_with fail
                go_ret
                exact ⟨by rw [HR.out]; rfl, rfl⟩
            · by_cases h2 : q3 = 2
              · have e1 : ((q3 : Int) != 2) = false := by rw [h2]; rfl
                obtain ⟨vv, hvv⟩ : ∃ vv, vv = 64 * (64 * m0 + r1) + r2 := ⟨_, rfl⟩
                have hvb : vv < 10000000 := by omega
                have HN := Lib.hid (show ((64 * vv + r3 : Nat) : Int) = ((64 * (64 * (64 * m0 + r1) + r2) + r3 : Nat) : Int) by rw [hvv])
                rw [← hvv]
                have HQ := Lib.hid hq
                have HQ2 := Lib.hid h2
                clear hvv hq h2
                go_wp2_with fail
                go_roundw
                case rel => exact ⟨.inr (.inr (.inr (⟨by go_num, ⟨HQ.out.1, HQ.out.2, HQ2.out⟩, by first | (rw [← HN.out]; go_num) | go_num⟩))), by first | exact trivial | rfl⟩
                case measure => simp [intOf]
              · have e1 : ((q3 : Int) != 2) = true := by simp; omega
                have HR := Lib.hid (show ANS = false by rw [hKK.out, if_neg (by omega)])
                clear h2 hq
                go_wp2_with fail
                go_ret
                exact ⟨by rw [HR.out]; rfl, rfl⟩
            · obtain ⟨vv, hvv⟩ : ∃ vv, vv = 64 * (64 * (64 * m0 + r1) + r2) + r3 := ⟨_, rfl⟩
              rw [← hvv] at hKK ⊢
              have hvb : vv < 2097152 := by omega
              clear hvv
              by_cases v1 : vv < 65536
              · have d1 : decide ((vv : Int) < 65536) = true := by simp; omega
                have HR := Lib.hid (show ANS = false by rw [hKK.out, if_neg (by omega)])
                clear v1 hq
                go_wp2_with fail
                go_ret
                exact ⟨by rw [HR.out]; rfl, rfl⟩
              · have d1 : decide ((vv : Int) < 65536) = false := by simp; omega
                by_cases v2 : 1114111 < vv
                · have d2 : decide ((1114111 : Int) < (vv : Int)) = true := by simp; omega
                  have HR := Lib.hid (show ANS = false by rw [hKK.out, if_neg (by omega)])
                  clear v1 v2 hq
                  go_wp2_with fail
                  go_ret
                  exact ⟨by rw [HR.out]; rfl, rfl⟩
                · have d2 : decide ((1114111 : Int) < (vv : Int)) = false := by simp; omega
                  by_cases v3 : 55296 ≤ vv
                  · have d3 : decide ((55296 : Int) ≤ (vv : Int)) = true := by simp; omega
                    by_cases v4 : vv < 57344
                    · have d4 : decide ((vv : Int) < 57344) = true := by simp; omega
                      have HR := Lib.hid (show ANS = false by rw [hKK.out, if_neg (by omega)])
                      clear v1 v2 v3 v4 hq
                      go_wp2_with fail
                      go_ret
                      exact ⟨by rw [HR.out]; rfl, rfl⟩
                    · have d4 : decide ((vv : Int) < 57344) = false := by simp; omega
                      have HR := Lib.hid (show okU (s.data.toList.drop (k + 4)) = ANS by rw [hKK.out, if_pos (by omega)])
                      clear v1 v2 v3 v4 hq
                      go_wp2_with fail
                      go_roundw
                      case rel => exact ⟨k + 4, by omega, by go_num, HR.out, by first | exact trivial | rfl⟩
                      case measure => simp [intOf]; omega
                  · have d3 : decide ((55296 : Int) ≤ (vv : Int)) = false := by simp; omega
                    have HR := Lib.hid (show okU (s.data.toList.drop (k + 4)) = ANS by rw [hKK.out, if_pos (by omega)])
                    clear v1 v2 v3 hq
                    go_wp2_with fail
                    go_roundw
                    case rel => exact ⟨k + 4, by omega, by go_num, HR.out, by first | exact trivial | rfl⟩
                    case measure => simp [intOf]; omega
      · have hcls := h
        have c9 : ((x : Int) == 127) = false := by simp; omega
        have c0 : decide ((x : Int) < 32) = false := by simp; omega
        have c1 : decide ((x : Int) < 128) = false := by simp; omega
        have c2 : decide ((192 : Int) ≤ (x : Int)) = true := by simp; omega
        have c3 : decide ((x : Int) < 224) = false := by simp; omega
        have c4 : decide ((224 : Int) ≤ (x : Int)) = true := by simp; omega
        have c5 : decide ((x : Int) < 240) = false := by simp; omega
        have c6 : decide ((240 : Int) ≤ (x : Int)) = true := by simp; omega
        have c7 : decide ((x : Int) < 248) = false := by simp; omega
        have HR := Lib.hid (show ANS = false by rw [← hA, H0.out (by omega)])
        clear h hA
        go_wp2_with fail
        go_ret
        exact ⟨by rw [HR.out]; rfl, rfl⟩
    · have hd : decide ((k : Int) < (s.size : Int)) = false := by simp; omega
      have HR := Lib.hid (show ANS = true by rw [← hA, okU_end s k (by omega)])
      clear hA
      go_wp2_with fail
      go_ret
      exact ⟨by rw [HR.out]; rfl, rfl⟩
end Go.Proofs.YtbpdenfiifcfcaaGreatDoor
