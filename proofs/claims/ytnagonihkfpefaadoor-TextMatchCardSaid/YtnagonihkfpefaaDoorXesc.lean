/-
  The contract of text.Escape: the escaped form of a string; nothing that was there before the call has changed.
-/
import Derived.Test.YtnagonihkfpefaaDoorXplain
import Derived.Test.YtnagonihkfpefaaDoorXfold
namespace Go.Proofs.YtnagonihkfpefaaDoor
open Go.RowKit

theorem digit_at (h : Nat) (hh : h < 16) (w : World) : (Instr.index 9 (.string ⟨#[48, 49, 50, 51, 52, 53, 54, 55, 56, 57, 97, 98, 99, 100, 101, 102]⟩) (.int .u8 (h : Int))).run Tryd.prog w = .ok (.int .u8 (((hexDigit h).toNat : Nat) : Int)) w := by
  obtain rfl | rfl | rfl | rfl | rfl | rfl | rfl | rfl | rfl | rfl | rfl | rfl | rfl | rfl | rfl | rfl : h = 0 ∨ h = 1 ∨ h = 2 ∨ h = 3 ∨ h = 4 ∨ h = 5 ∨ h = 6 ∨ h = 7 ∨ h = 8 ∨ h = 9 ∨ h = 10 ∨ h = 11 ∨ h = 12 ∨ h = 13 ∨ h = 14 ∨ h = 15 := by omega
  all_goals kernel_rfl
/-- The escaped form as a text. -/
def escS (s : ByteArray) : ByteArray := strOf (escL s.data.toList)
theorem escS_size (s : ByteArray) : (escS s).size ≤ 3 * s.size := escL_len s.data.toList
theorem hex_mask (n : Nat) (h : n < 256) : bits BinOp.and .u8 ((n : Nat) : Int) 15 = ((n % 16 : Nat) : Int) := by
  revert n; decide +kernel

set_option maxRecDepth 100000 in
set_option maxHeartbeats 2000000 in
theorem esc_any (s : ByteArray) (w : World) (hn : s.size ≤ 1099511627776) :
    Calls Tryd.prog 17 #[.string s] w fun e w' => e = .returned (.string (escS s)) ∧ Below w.heap.size w w' := by
  obtain ⟨i0, hi, hz0, hz1, hz2⟩ := info_parts byteInfo
  go_enter Tryd.func17, Tryd.ntmps17
  go_wp2_with (at_make; refine wpList_make_own _ rfl _ _ 22 rfl w.heap.size 5 i0 (.int .u8 0) 1 Tryd.underlying22 hi hz0 hz1 .i64 .i64 (s.size : Int) s.size rfl rfl (by omega) (by rw [hz2]; omega) (by unfold maxLen; omega) (Nat.le_refl _) ?_; intro w1 hown1 hgr1; have HO1 := Lib.hid hown1; have HG1 := Lib.hid hgr1; clear hown1 hgr1)
  go_loopw [3, 10] (fun v i wr => ∃ k : Nat, k ≤ s.size ∧ i = .int .i64 k ∧ OwnB 5 wr w.heap.size v (escL (s.data.toList.take k)) ∧ Below w.heap.size w wr) (fun _ i _ => s.size - (intOf i).toNat)
  case atStart => exact ⟨0, Nat.zero_le _, rfl, HO1.out, (Below.refl _ _).grown HG1.out (Nat.le_refl _) (fun _ e => by cases e)⟩
  case round =>
    obtain ⟨k, hk, rfl, hown, hb⟩ := hrel
    have HO := Lib.hid hown
    have HB := Lib.hid hb
    have hsb := hb.size
    have HLN := Lib.hid (show (escL (s.data.toList.take k)).length ≤ 3 * k by
      have := escL_len (s.data.toList.take k)
      rwa [take_len s hk] at this)
    clear hown hb
    by_cases hlt : k < s.size
    · have hd : decide ((k : Int) < (s.size : Int)) = true := by simp; omega
      obtain ⟨c, hc, hcn⟩ := u8at_list s k hlt
      have hix := fun w => run_index_u8 (P := Tryd.prog) Tryd.underlying9 s k hlt (k : Int) rfl w
      rw [hcn] at hix
      have HS := Lib.hid (show escL (s.data.toList.take (k + 1)) = escL (s.data.toList.take k) ++ escB c by rw [take_snoc hc, escL_snoc])
      clear hc hcn
      generalize escL (s.data.toList.take k) = D at HO HLN HS
      cases hp : plainB c with
      | true =>
        have HP := Lib.hid (fun w => isplain_is hp w)
        have HN := Lib.hid (show escL (s.data.toList.take (k + 1)) = D ++ [c] by rw [HS.out, escB_plain hp])
        have hDl := HLN.out
        clear hp
        go_wp2_with (first
          | (go_at_call 30; (with_reducible refine (HP.out _).mono ?_); rintro e w3 ⟨rfl, rfl⟩)
          | (at_builtin; (refine wpList_append_own _ rfl (.tmp 17) (.tmp 21) 22 rfl w.heap.size 5 i0 (.int .u8 0) 1 1 Tryd.underlying22 hi hz0 hz1 hz2 rfl (by decide) _ _ _ rfl (HO.out.alloc _) ⟨w3.heap.size, 0, none⟩ 1 1 [bcell c] rfl rfl (news_row w3 #[bcell c] 5) (bcells_one [c]) (by unfold maxLen; omega) (by omega) (by simp; omega) ?_); intro v' w2 hown2 hgr2 _; obtain ⟨P1, P2⟩ := out_round HO.out HB.out hown2 hgr2; have HP1 := Lib.hid P1; have HP2 := Lib.hid P2; clear hown2 hgr2 P1 P2))
        go_roundw
        case rel => exact ⟨k + 1, by omega, by go_num, by rw [HN.out]; exact HP1.out, HP2.out⟩
        case measure => simp [intOf]; omega
      | false =>
        have HP := Lib.hid (fun w => isplain_is hp w)
        obtain ⟨x, hx⟩ : ∃ x, x = c.toNat / 16 := ⟨_, rfl⟩
        obtain ⟨y, hy⟩ : ∃ y, y = c.toNat % 16 := ⟨_, rfl⟩
        have HN := Lib.hid (show escL (s.data.toList.take (k + 1)) = D ++ [92, hexDigit x, hexDigit y] by rw [HS.out, escB_other hp, hx, hy])
        have hq : ((c.toNat : Nat) : Int) / 16 = (x : Int) := by rw [hx]; rfl
        have hr : bits BinOp.and .u8 ((c.toNat : Nat) : Int) 15 = (y : Int) := by rw [hy]; exact hex_mask c.toNat c.toNat_lt
        have h1 := digit_at x (by have := c.toNat_lt; omega)
        have h2 := digit_at y (by omega)
        clear hx hy hp
        go_wp2_with (go_at_call 30; (with_reducible refine (HP.out _).mono ?_); rintro e w3 ⟨rfl, rfl⟩)
        go_region_law (refine step_append_own rfl (.tmp 23) (.tmp 34) 22 rfl w.heap.size 5 i0 (.int .u8 0) 1 Tryd.underlying22 hi hz0 hz1 hz2 rfl _ _ _ rfl ((HO.out.alloc _).drew) ⟨w3.heap.size, 0, none⟩ 3 3 [bcell 92, bcell (hexDigit x), bcell (hexDigit y)] rfl rfl (news_row w3 #[bcell 92, bcell (hexDigit x), bcell (hexDigit y)] 5) (bcells_one [92, hexDigit x, hexDigit y]) (by have := HLN.out; unfold maxLen; omega) (by have := HLN.out; omega) (by simp; omega) ?_; intro v' w2 hown2 hgr2 _)
        all_goals
          have ho : OwnB 5 w2 w.heap.size v' (D ++ [92, hexDigit x, hexDigit y]) := by
            unfold OwnB
            rw [List.length_append, List.map_append]; exact hown2
          have hb2 : Below w.heap.size w w2 := OwnB.grown ((HO.out.alloc (.cells #[bcell 92, bcell (hexDigit x), bcell (hexDigit y)] 5)).drew) (Below.drew (Below.alloc HB.out hsb _)) hgr2 (by simp; omega) (Nat.le_refl _)
          have HO2 := Lib.hid ho
          have HB2 := Lib.hid hb2
          clear hown2 hgr2 ho hb2
          go_wp2_with fail
          go_roundw
          case rel => exact ⟨k + 1, by omega, by go_num, by rw [HN.out]; exact HO2.out, HB2.out⟩
          case measure => simp [intOf]; omega
    · have ek : k = s.size := by omega
      subst ek
      have hd : decide ((s.size : Int) < (s.size : Int)) = false := by simp
      have hconv := own_str HO.out
      go_wp2_with fail
      go_ret
      refine ⟨?_, HB.out⟩
      rw [take_all s (Nat.le_refl _)]
      rfl
end Go.Proofs.YtnagonihkfpefaaDoor
