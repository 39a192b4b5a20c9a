/-
  The contracts of the program's functions that say of one byte whether it may stand in a label or in a local part, and of consists: whether each byte of a text is in a set.
-/
import Derived.Test.YtjdfgalcnbnobaaGreatDoorQac
import Derived.Test.YtjdfgalcnbnobaaGreatDoorQam
import Derived.Test.YtjdfgalcnbnobaaGreatDoorQat
namespace Go.Proofs.YtjdfgalcnbnobaaGreatDoor
open Go.RowKit

theorem pidx_any (s : ByteArray) (c : UInt8) (w : World) : Calls Tryz.prog 141 #[.string s, .int .u8 ((c.toNat : Nat) : Int)] w fun e w' => e = .returned (.int .i64 (Lib.indexByte s.data.toList c)) ∧ w' = w := by
  have h := Any.strings_IndexByte lays137 s ((c.toNat : Nat) : Int) w
  have e : ((c.toNat : Nat) : Int).toNat.toUInt8 = c := by simp
  rw [e] at h
  exact h
set_option maxHeartbeats 1000000 in
theorem palnum_any (n : Nat) (w : World) :
    Calls Tryz.prog 140 #[.int .u8 (n : Int)] w fun e w' => e = .returned (.bool (alnum n)) ∧ w' = w := by
  rcases (by omega : (n < 48) ∨ (48 ≤ n ∧ n ≤ 57) ∨ (58 ≤ n ∧ n ≤ 64) ∨ (65 ≤ n ∧ n ≤ 90) ∨ (91 ≤ n ∧ n ≤ 96) ∨ (97 ≤ n ∧ n ≤ 122) ∨ (123 ≤ n)) with h | h | h | h | h | h | h
  · have hr : alnum n = false := by simp [alnum]; omega
    have d0 : decide ((65 : Int) ≤ (n : Int)) = false := by simp; omega
    have d1 : decide ((n : Int) ≤ 90) = true := by simp; omega
    have d2 : decide ((97 : Int) ≤ (n : Int)) = false := by simp; omega
    have d3 : decide ((n : Int) ≤ 122) = true := by simp; omega
    have d4 : decide ((48 : Int) ≤ (n : Int)) = false := by simp; omega
    have d5 : decide ((n : Int) ≤ 57) = true := by simp; omega
    have HR := Lib.hid hr
    clear hr h
    go_enter Tryz.func140, Tryz.ntmps140
    go_wp2_with fail
    go_ret
    exact ⟨by rw [HR.out]; rfl, rfl⟩
  · have hr : alnum n = true := by simp [alnum]; omega
    have d0 : decide ((65 : Int) ≤ (n : Int)) = false := by simp; omega
    have d1 : decide ((n : Int) ≤ 90) = true := by simp; omega
    have d2 : decide ((97 : Int) ≤ (n : Int)) = false := by simp; omega
    have d3 : decide ((n : Int) ≤ 122) = true := by simp; omega
    have d4 : decide ((48 : Int) ≤ (n : Int)) = true := by simp; omega
    have d5 : decide ((n : Int) ≤ 57) = true := by simp; omega
    have HR := Lib.hid hr
    clear hr h
    go_enter Tryz.func140, Tryz.ntmps140
    go_wp2_with fail
    go_ret
    exact ⟨by rw [HR.out]; rfl, rfl⟩
  · have hr : alnum n = false := by simp [alnum]; omega
    have d0 : decide ((65 : Int) ≤ (n : Int)) = false := by simp; omega
    have d1 : decide ((n : Int) ≤ 90) = true := by simp; omega
    have d2 : decide ((97 : Int) ≤ (n : Int)) = false := by simp; omega
    have d3 : decide ((n : Int) ≤ 122) = true := by simp; omega
    have d4 : decide ((48 : Int) ≤ (n : Int)) = true := by simp; omega
    have d5 : decide ((n : Int) ≤ 57) = false := by simp; omega
    have HR := Lib.hid hr
    clear hr h
    go_enter Tryz.func140, Tryz.ntmps140
    go_wp2_with fail
    go_ret
    exact ⟨by rw [HR.out]; rfl, rfl⟩
  · have hr : alnum n = true := by simp [alnum]; omega
    have d0 : decide ((65 : Int) ≤ (n : Int)) = true := by simp; omega
    have d1 : decide ((n : Int) ≤ 90) = true := by simp; omega
    have d2 : decide ((97 : Int) ≤ (n : Int)) = false := by simp; omega
    have d3 : decide ((n : Int) ≤ 122) = true := by simp; omega
    have d4 : decide ((48 : Int) ≤ (n : Int)) = true := by simp; omega
    have d5 : decide ((n : Int) ≤ 57) = false := by simp; omega
    have HR := Lib.hid hr
    clear hr h
    go_enter Tryz.func140, Tryz.ntmps140
    go_wp2_with fail
    go_ret
    exact ⟨by rw [HR.out]; rfl, rfl⟩
  · have hr : alnum n = false := by simp [alnum]; omega
    have d0 : decide ((65 : Int) ≤ (n : Int)) = true := by simp; omega
    have d1 : decide ((n : Int) ≤ 90) = false := by simp; omega
    have d2 : decide ((97 : Int) ≤ (n : Int)) = false := by simp; omega
    have d3 : decide ((n : Int) ≤ 122) = true := by simp; omega
    have d4 : decide ((48 : Int) ≤ (n : Int)) = true := by simp; omega
    have d5 : decide ((n : Int) ≤ 57) = false := by simp; omega
    have HR := Lib.hid hr
    clear hr h
    go_enter Tryz.func140, Tryz.ntmps140
    go_wp2_with fail
    go_ret
    exact ⟨by rw [HR.out]; rfl, rfl⟩
  · have hr : alnum n = true := by simp [alnum]; omega
    have d0 : decide ((65 : Int) ≤ (n : Int)) = true := by simp; omega
    have d1 : decide ((n : Int) ≤ 90) = false := by simp; omega
    have d2 : decide ((97 : Int) ≤ (n : Int)) = true := by simp; omega
    have d3 : decide ((n : Int) ≤ 122) = true := by simp; omega
    have d4 : decide ((48 : Int) ≤ (n : Int)) = true := by simp; omega
    have d5 : decide ((n : Int) ≤ 57) = false := by simp; omega
    have HR := Lib.hid hr
    clear hr h
    go_enter Tryz.func140, Tryz.ntmps140
    go_wp2_with fail
    go_ret
    exact ⟨by rw [HR.out]; rfl, rfl⟩
  · have hr : alnum n = false := by simp [alnum]; omega
    have d0 : decide ((65 : Int) ≤ (n : Int)) = true := by simp; omega
    have d1 : decide ((n : Int) ≤ 90) = false := by simp; omega
    have d2 : decide ((97 : Int) ≤ (n : Int)) = true := by simp; omega
    have d3 : decide ((n : Int) ≤ 122) = false := by simp; omega
    have d4 : decide ((48 : Int) ≤ (n : Int)) = true := by simp; omega
    have d5 : decide ((n : Int) ≤ 57) = false := by simp; omega
    have HR := Lib.hid hr
    clear hr h
    go_enter Tryz.func140, Tryz.ntmps140
    go_wp2_with fail
    go_ret
    exact ⟨by rw [HR.out]; rfl, rfl⟩


theorem palnum_is {c : UInt8} {b : Bool} (h : alnum c.toNat = b) (w : World) : Calls Tryz.prog 140 #[.int .u8 ((c.toNat : Nat) : Int)] w fun e w' => e = .returned (.bool b) ∧ w' = w := by
  have := palnum_any c.toNat w
  rwa [h] at this
set_option maxHeartbeats 1000000 in
theorem plb_any (c : UInt8) (w : World) : Calls Tryz.prog 143 #[.int .u8 ((c.toNat : Nat) : Int)] w fun e w' => e = .returned (.bool (lblB c)) ∧ w' = w := by
  cases ha : alnum c.toNat with
  | true =>
    have HR := Lib.hid (show lblB c = true by unfold lblB; rw [ha]; rfl)
    have HA := Lib.hid (fun w => palnum_is ha w)
    clear ha
    go_enter Tryz.func143, Tryz.ntmps143
    go_wp2_with (go_at_call 140; (with_reducible refine (HA.out _).mono ?_); rintro e w1 ⟨rfl, rfl⟩)
    go_ret
    exact ⟨by rw [HR.out]; rfl, rfl⟩
  | false =>
    have HA := Lib.hid (fun w => palnum_is ha w)
    by_cases h : c = 45
    · have d : (((c.toNat : Nat) : Int) == (45 : Int)) = true := by rw [h]; rfl
      have HR := Lib.hid (show lblB c = true by unfold lblB; rw [h]; rfl)
      clear ha h
      go_enter Tryz.func143, Tryz.ntmps143
      go_wp2_with (go_at_call 140; (with_reducible refine (HA.out _).mono ?_); rintro e w1 ⟨rfl, rfl⟩)
      go_ret
      exact ⟨by rw [HR.out]; rfl, rfl⟩
    · have d : (((c.toNat : Nat) : Int) == (45 : Int)) = false := by
        have : ¬ c.toNat = 45 := fun k => h (UInt8.toNat_inj.1 k)
        simp; omega
      have HR := Lib.hid (show lblB c = false by unfold lblB; rw [ha, beq_eq_false_iff_ne.2 h]; rfl)
      clear ha h
      go_enter Tryz.func143, Tryz.ntmps143
      go_wp2_with (go_at_call 140; (with_reducible refine (HA.out _).mono ?_); rintro e w1 ⟨rfl, rfl⟩)
      go_ret
      exact ⟨by rw [HR.out]; rfl, rfl⟩

def locB (c : UInt8) : Bool := alnum c.toNat || signsL.contains c
theorem pidx_signs (c : UInt8) (w : World) : Calls Tryz.prog 141 #[.string ⟨#[33, 35, 36, 37, 38, 39, 42, 43, 45, 47, 61, 63, 94, 95, 96, 123, 124, 125, 126, 46]⟩, .int .u8 ((c.toNat : Nat) : Int)] w fun e w' => e = .returned (.int .i64 (Lib.indexByte signsL c)) ∧ w' = w :=
  pidx_any ⟨#[33, 35, 36, 37, 38, 39, 42, 43, 45, 47, 61, 63, 94, 95, 96, 123, 124, 125, 126, 46]⟩ c w
set_option maxHeartbeats 1000000 in
theorem pxb_any (c : UInt8) (w : World) : Calls Tryz.prog 127 #[.int .u8 ((c.toNat : Nat) : Int)] w fun e w' => e = .returned (.bool (locB c)) ∧ w' = w := by
  cases ha : alnum c.toNat with
  | true =>
    have HR := Lib.hid (show locB c = true by unfold locB; rw [ha]; rfl)
    have HA := Lib.hid (fun w => palnum_is ha w)
    clear ha
    go_enter Tryz.func127, Tryz.ntmps127
    go_wp2_with (go_at_call 140; (with_reducible refine (HA.out _).mono ?_); rintro e w1 ⟨rfl, rfl⟩)
    go_ret
    exact ⟨by rw [HR.out]; rfl, rfl⟩
  | false =>
    have HA := Lib.hid (fun w => palnum_is ha w)
    have HX := Lib.hid (fun w => pidx_signs c w)
    have HR := Lib.hid (show locB c = decide (0 ≤ Lib.indexByte signsL c) by unfold locB; rw [ha, idx_has]; rfl)
    generalize Lib.indexByte signsL c = z at HX HR
    clear ha
    cases hz : decide ((0 : Int) ≤ z)
    · rw [hz] at HR
      go_enter Tryz.func127, Tryz.ntmps127
      go_wp2_with (first
        | (go_at_call 140; (with_reducible refine (HA.out _).mono ?_); rintro e w1 ⟨rfl, rfl⟩)
        | (go_at_call 141; (with_reducible refine (HX.out _).mono ?_); rintro e w1 ⟨rfl, rfl⟩))
      go_ret
      exact ⟨by rw [HR.out]; rfl, rfl⟩
    · rw [hz] at HR
      go_enter Tryz.func127, Tryz.ntmps127
      go_wp2_with (first
        | (go_at_call 140; (with_reducible refine (HA.out _).mono ?_); rintro e w1 ⟨rfl, rfl⟩)
        | (go_at_call 141; (with_reducible refine (HX.out _).mono ?_); rintro e w1 ⟨rfl, rfl⟩))
      go_ret
      exact ⟨by rw [HR.out]; rfl, rfl⟩

/-- The function numbered g says of each byte whether p holds. -/
def PaysB (g : Nat) (p : UInt8 → Bool) : Prop := ∀ (c : UInt8) w, Calls Tryz.prog g #[.int .u8 ((c.toNat : Nat) : Int)] w fun e w' => e = .returned (.bool (p c)) ∧ w' = w
set_option maxRecDepth 100000 in
set_option maxHeartbeats 2000000 in
theorem pcons_any (g : Nat) (eg : ∀ args w, (callFunc g args).run Tryz.prog w = .ok (.enter g args) w) (p : UInt8 → Bool) (hp : PaysB g p) (L : List UInt8) (hL : L.length ≤ 100000) (w : World) :
    Calls Tryz.prog 126 #[.string (strOf L), .func (.func g) #[] #[]] w fun e w' => e = .returned (.bool (L.all p)) ∧ w' = w := by
  have es := strOf_size L
  have HP := Lib.hid hp
  clear hp
  go_enter Tryz.func126, Tryz.ntmps126
  go_wp2_with fail
  go_loopw [8] (fun i wr => ∃ m : Nat, m ≤ L.length ∧ i = .int .i64 (m : Int) ∧ L.all p = (L.drop m).all p ∧ wr = w) (fun i _ => L.length - (intOf i).toNat)
  case atStart => exact ⟨0, Nat.zero_le _, rfl, rfl, rfl⟩
  case round =>
    obtain ⟨m, hm, rfl, hal, rfl⟩ := hrel
    by_cases hmt : m < L.length
    · have hd : decide ((m : Int) < (L.length : Int)) = true := by simp; omega
      obtain ⟨c, hc, hcn⟩ := u8at_list (strOf L) m (by rw [es]; exact hmt)
      have hix := run_index_u8 (P := Tryz.prog) Tryz.underlying9 (strOf L) m (by rw [es]; exact hmt) (m : Int) rfl
      rw [hcn] at hix
      rw [strOf_list] at hc
      rw [drop_cons hc, List.all_cons] at hal
      have HAL := Lib.hid hal
      have HC := Lib.hid (HP.out c wr)
      clear hc hcn hal
      cases ha : p c with
      | true =>
        rw [ha] at HAL HC
        have HN2 := Lib.hid (show L.all p = (L.drop (m + 1)).all p by rw [HAL.out, Bool.true_and])
        clear ha
        go_wp2_with (go_at_fn g; refine HC.out.mono ?_; rintro e W' ⟨rfl, rfl⟩)
        go_roundw
        case rel => exact ⟨m + 1, by omega, by go_num, HN2.out, by first | exact trivial | rfl⟩
        case measure => simp [intOf]; omega
      | false =>
        rw [ha] at HAL HC
        have HF := Lib.hid (show L.all p = false by rw [HAL.out, Bool.false_and])
        clear ha
        go_wp2_with (go_at_fn g; refine HC.out.mono ?_; rintro e W' ⟨rfl, rfl⟩)
        go_ret
        exact ⟨by rw [HF.out]; rfl, rfl⟩
    · have hd : decide ((m : Int) < (L.length : Int)) = false := by simp; omega
      have HF := Lib.hid (show L.all p = true by rw [hal, List.drop_eq_nil_of_le (by omega)]; rfl)
      clear hal
      go_wp2_with fail
      go_ret
      exact ⟨by rw [HF.out]; rfl, rfl⟩
theorem pcons_lb (L : List UInt8) (hL : L.length ≤ 100000) (w : World) : Calls Tryz.prog 126 #[.string (strOf L), .func (.func 143) #[] #[]] w fun e w' => e = .returned (.bool (L.all lblB)) ∧ w' = w :=
  pcons_any _ (enters_of Tryz.func143 (by kernel_rfl) rfl) lblB plb_any L hL w
theorem pcons_xb (L : List UInt8) (hL : L.length ≤ 100000) (w : World) : Calls Tryz.prog 126 #[.string (strOf L), .func (.func 127) #[] #[]] w fun e w' => e = .returned (.bool (L.all locB)) ∧ w' = w :=
  pcons_any _ (enters_of Tryz.func127 (by kernel_rfl) rfl) locB pxb_any L hL w
end Go.Proofs.YtjdfgalcnbnobaaGreatDoor
