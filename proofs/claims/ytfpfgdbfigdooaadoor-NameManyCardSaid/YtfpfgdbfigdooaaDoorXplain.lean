/-
  The contracts of isPlain of the program, and of Among and plain of the reference: whether a byte is one that is not escaped.
-/
import Derived.Test.YtfpfgdbfigdooaaDoorXlay
namespace Go.Proofs.YtfpfgdbfigdooaaDoor
open Go.RowKit

theorem isal_is {n : Nat} {b : Bool} (h : alnum n = b) (w : World) : Calls Tryd.prog 78 #[.int .i32 (n : Int)] w fun e w' => e = .returned (.bool b) ∧ w' = w := by
  have := isal_any n w
  rwa [h] at this
theorem ralnum_is {n : Nat} {b : Bool} (h : alnum n = b) (w : World) : Calls Tryd.prog 46 #[.int .u8 (n : Int)] w fun e w' => e = .returned (.bool b) ∧ w' = w := by
  have := ralnum_any n w
  rwa [h] at this
theorem idx_is {s : ByteArray} {c : UInt8} {b : Int} (h : Lib.indexByte s.data.toList c = b) (w : World) : Calls Tryd.prog 93 #[.string s, .int .u8 ((c.toNat : Nat) : Int)] w fun e w' => e = .returned (.int .i64 b) ∧ w' = w := by
  have := idx_any s c w
  rwa [h] at this

set_option maxHeartbeats 1000000 in
theorem isplain_any (c : UInt8) (w : World) :
    Calls Tryd.prog 85 #[.int .u8 ((c.toNat : Nat) : Int)] w fun e w' => e = .returned (.bool (plainB c)) ∧ w' = w := by
  have hlt := c.toNat_lt
  cases ha : alnum c.toNat with
  | true =>
    have HP := Lib.hid (show plainB c = true by unfold plainB; rw [ha]; rfl)
    have HA := Lib.hid ha
    clear ha
    go_enter Tryd.func85, Tryd.ntmps85
    go_wp2_with (go_at_call 78; (with_reducible refine (isal_is HA.out _).mono ?_); rintro e w1 ⟨rfl, rfl⟩)
    go_ret
    exact ⟨by rw [HP.out]; rfl, rfl⟩
  | false =>
    obtain ⟨ix, hix⟩ : ∃ ix, Lib.indexByte plainL c = ix := ⟨_, rfl⟩
    have HP := Lib.hid (show plainB c = decide (0 ≤ ix) by unfold plainB; rw [ha, idx_has, hix]; rfl)
    have HA := Lib.hid ha
    have HI := Lib.hid (show Lib.indexByte (⟨#[32, 39, 40, 41, 45, 46, 47, 58, 63, 64, 95]⟩ : ByteArray).data.toList c = ix from hix)
    clear ha hix
    go_enter Tryd.func85, Tryd.ntmps85
    go_wp2_with (first
      | (go_at_call 78; (with_reducible refine (isal_is HA.out _).mono ?_); rintro e w1 ⟨rfl, rfl⟩)
      | (go_at_call 93; (with_reducible refine (idx_is HI.out _).mono ?_); rintro e w1 ⟨rfl, rfl⟩))
    go_ret
    exact ⟨by rw [HP.out]; rfl, rfl⟩

set_option maxHeartbeats 1000000 in
theorem among_any (c : UInt8) (l : ByteArray) (hl : l.size ≤ 1000000) (w : World) :
    Calls Tryd.prog 47 #[.int .u8 ((c.toNat : Nat) : Int), .string l] w fun e w' => e = .returned (.bool (l.data.toList.contains c)) ∧ w' = w := by
  go_enter Tryd.func47, Tryd.ntmps47
  go_wp2_with fail
  go_loopw [5] (fun i wr => ∃ k : Nat, k ≤ l.size ∧ i = .int .i64 (k : Int) ∧ wr = w ∧ l.data.toList.contains c = (l.data.toList.drop k).contains c) (fun i _ => l.size - (intOf i).toNat)
  case atStart => exact ⟨0, by omega, rfl, rfl, by simp⟩
  case round =>
    obtain ⟨k, hk, rfl, rfl, hc⟩ := hrel
    by_cases hlt : k < l.size
    · have hd : decide ((k : Int) < (l.size : Int)) = true := by simp; omega
      obtain ⟨x, hx, hxn⟩ := u8at_list l k hlt
      have hix := run_index_u8 (P := Tryd.prog) Tryd.underlying9 l k hlt (k : Int) rfl wr
      rw [hxn] at hix
      rw [drop_cons hx, List.contains_cons] at hc
      by_cases e : x = c
      · have hq : ((x.toNat : Nat) : Int) == ((c.toNat : Nat) : Int) := by rw [e]; simp
        have HC := Lib.hid (show l.data.toList.contains c = true by rw [hc, e]; simp)
        clear hc hx hxn e
        go_wp2_with fail
        go_ret
        exact ⟨by rw [HC.out]; rfl, rfl⟩
      · have hne : ¬ x.toNat = c.toNat := fun h => e (UInt8.toNat_inj.1 h)
        have hq : (((x.toNat : Nat) : Int) == ((c.toNat : Nat) : Int)) = false := by simp; omega
        have HC := Lib.hid (show l.data.toList.contains c = (l.data.toList.drop (k + 1)).contains c by
          rw [hc, show (c == x) = false by simp; exact fun h => e h.symm, Bool.false_or])
        clear hc hx hxn e hne
        go_wp2_with fail
        go_roundw
        case rel => exact ⟨k + 1, by omega, by go_num, by first | exact trivial | rfl, HC.out⟩
        case measure => simp [intOf]; omega
    · have hd : decide ((k : Int) < (l.size : Int)) = false := by simp; omega
      have HC := Lib.hid (show l.data.toList.contains c = false by
        rw [hc, List.drop_eq_nil_of_le (show l.data.toList.length ≤ k by show l.size ≤ k; omega)]; rfl)
      clear hc
      go_wp2_with fail
      go_ret
      exact ⟨by rw [HC.out]; rfl, rfl⟩
theorem among_is {c : UInt8} {l : ByteArray} {b : Bool} (h : l.data.toList.contains c = b) (hl : l.size ≤ 1000000) (w : World) :
    Calls Tryd.prog 47 #[.int .u8 ((c.toNat : Nat) : Int), .string l] w fun e w' => e = .returned (.bool b) ∧ w' = w := by
  have := among_any c l hl w
  rwa [h] at this

set_option maxHeartbeats 1000000 in
theorem plain_any (c : UInt8) (w : World) :
    Calls Tryd.prog 57 #[.int .u8 ((c.toNat : Nat) : Int)] w fun e w' => e = .returned (.bool (plainB c)) ∧ w' = w := by
  cases ha : alnum c.toNat with
  | true =>
    have HP := Lib.hid (show plainB c = true by unfold plainB; rw [ha]; rfl)
    have HA := Lib.hid ha
    clear ha
    go_enter Tryd.func57, Tryd.ntmps57
    go_wp2_with (go_at_call 46; (with_reducible refine (ralnum_is HA.out _).mono ?_); rintro e w1 ⟨rfl, rfl⟩)
    go_ret
    exact ⟨by rw [HP.out]; rfl, rfl⟩
  | false =>
    obtain ⟨b, hb⟩ : ∃ b, plainL.contains c = b := ⟨_, rfl⟩
    have HP := Lib.hid (show plainB c = b by unfold plainB; rw [ha, hb]; rfl)
    have HA := Lib.hid ha
    have HI := Lib.hid (show (⟨#[32, 39, 40, 41, 45, 46, 47, 58, 63, 64, 95]⟩ : ByteArray).data.toList.contains c = b from hb)
    clear ha hb
    go_enter Tryd.func57, Tryd.ntmps57
    go_wp2_with (first
      | (go_at_call 46; (with_reducible refine (ralnum_is HA.out _).mono ?_); rintro e w1 ⟨rfl, rfl⟩)
      | (go_at_call 47; (with_reducible refine (among_is HI.out (by decide) _).mono ?_); rintro e w1 ⟨rfl, rfl⟩))
    go_ret
    exact ⟨by rw [HP.out]; rfl, rfl⟩
theorem isplain_is {c : UInt8} {b : Bool} (h : plainB c = b) (w : World) : Calls Tryd.prog 85 #[.int .u8 ((c.toNat : Nat) : Int)] w fun e w' => e = .returned (.bool b) ∧ w' = w := by
  have := isplain_any c w
  rwa [h] at this
theorem plain_is {c : UInt8} {b : Bool} (h : plainB c = b) (w : World) : Calls Tryd.prog 57 #[.int .u8 ((c.toNat : Nat) : Int)] w fun e w' => e = .returned (.bool b) ∧ w' = w := by
  have := plain_any c w
  rwa [h] at this
end Go.Proofs.YtfpfgdbfigdooaaDoor
