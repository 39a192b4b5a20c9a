/-
  The contract of the law's function pieces: some text of at most 160 bytes.
-/
import Derived.Test.YtnagonihkfpefaaDoorXbase
namespace Go.Proofs.YtnagonihkfpefaaDoor
open Go.RowKit

def words : List ByteArray := [⟨#[97]⟩, ⟨#[65]⟩, ⟨#[122]⟩, ⟨#[90]⟩, ⟨#[32]⟩, ⟨#[32, 32]⟩, ⟨#[92]⟩, ⟨#[50, 99]⟩, ⟨#[92, 50, 99]⟩, ⟨#[92, 50, 67]⟩, ⟨#[61]⟩, ⟨#[44]⟩, ⟨#[64]⟩, ⟨#[95]⟩, ⟨#[39]⟩, ⟨#[195, 169]⟩, ⟨#[197, 129]⟩, ⟨#[195]⟩, ⟨#[128]⟩, ⟨#[0]⟩, ⟨#[31]⟩, ⟨#[127]⟩, ⟨#[230, 151, 165]⟩, ⟨#[237, 160, 128]⟩, ⟨#[244, 143, 191, 191]⟩, ⟨#[244, 144, 128, 128]⟩, ⟨#[192, 128]⟩, ⟨#[224, 128, 128]⟩, ⟨#[91]⟩, ⟨#[96]⟩, ⟨#[48]⟩, ⟨#[38]⟩]
theorem words_size : ∀ k, k < 32 → (words.getD k ⟨#[]⟩).size ≤ 4 := by decide

set_option maxRecDepth 100000 in
set_option maxHeartbeats 1000000 in
theorem pieces_any (a0 : Option Addr) (l : List UInt8) (cap : Nat) (w : World) (hl : BLies w a0 l) (hlen : l.length ≤ 9223372036854775807) :
    Calls Tryd.prog 9 #[.slice a0 l.length cap] w fun e w' => ∃ s : ByteArray, e = .returned (.string s) ∧ s.size ≤ 160 ∧ Below w.heap.size w w' := by
  have HL := Lib.hid hl
  clear hl
  go_enter Tryd.func9, Tryd.ntmps9
  go_wp2_with fail
  go_loopw [3, 4] (fun u i wr => ∃ (k : Nat) (S : ByteArray), k ≤ 40 ∧ k ≤ l.length ∧ i = .int .i64 (k : Int) ∧ u = .string S ∧ S.size ≤ 4 * k ∧ Below w.heap.size w wr) (fun _ i _ => 40 - (intOf i).toNat)
  case atStart => exact ⟨0, ⟨#[]⟩, by omega, by omega, rfl, rfl, by decide, Below.refl _ _⟩
  case round =>
    obtain ⟨k, S, hk, hkl, rfl, rfl, hS, hb⟩ := hrel
    have HB := Lib.hid hb
    by_cases hlt : k < l.length ∧ k < 40
    · have g1 : decide ((k : Int) < (l.length : Int)) = true := by simp; omega
      have g2 : decide ((k : Int) < 40) = true := by simp; omega
      obtain ⟨h1, h2⟩ := hlt
      obtain ⟨b, off, rfl, hc⟩ := HL.out.resolve_left (fun e => by rw [e] at h1; simp at h1)
      have hcy : wr.cell? ⟨b, off + k, none⟩ = some (bcell l[k]) := by
        rw [← hc k h1]
        exact hb.cell (World.block_lt_of_cell? _ _ (hc k h1))
      rw [bcell] at hcy
      obtain ⟨x, hx⟩ : ∃ x, x = (l[k]).toNat := ⟨_, rfl⟩
      rw [← hx] at hcy
      have hx256 : x < 256 := by rw [hx]; exact (l[k]).toNat_lt
      obtain ⟨m, hm⟩ : ∃ m, m = x % 32 := ⟨_, rfl⟩
      have hmi : (x : Int) % 32 = (m : Int) := by omega
      have hm32 : m < 32 := by omega
      have hcw : (wr.alloc (.cells #[.string ⟨#[97]⟩, .string ⟨#[65]⟩, .string ⟨#[122]⟩, .string ⟨#[90]⟩, .string ⟨#[32]⟩, .string ⟨#[32, 32]⟩, .string ⟨#[92]⟩, .string ⟨#[50, 99]⟩, .string ⟨#[92, 50, 99]⟩, .string ⟨#[92, 50, 67]⟩, .string ⟨#[61]⟩, .string ⟨#[44]⟩, .string ⟨#[64]⟩, .string ⟨#[95]⟩, .string ⟨#[39]⟩, .string ⟨#[195, 169]⟩, .string ⟨#[197, 129]⟩, .string ⟨#[195]⟩, .string ⟨#[128]⟩, .string ⟨#[0]⟩, .string ⟨#[31]⟩, .string ⟨#[127]⟩, .string ⟨#[230, 151, 165]⟩, .string ⟨#[237, 160, 128]⟩, .string ⟨#[244, 143, 191, 191]⟩, .string ⟨#[244, 144, 128, 128]⟩, .string ⟨#[192, 128]⟩, .string ⟨#[224, 128, 128]⟩, .string ⟨#[91]⟩, .string ⟨#[96]⟩, .string ⟨#[48]⟩, .string ⟨#[38]⟩] 9)).cell? ⟨wr.heap.size, m, none⟩ = some (.string (words.getD m ⟨#[]⟩)) := row_strs wr words m hm32
      have hcy2 : (wr.alloc (.cells #[.string ⟨#[97]⟩, .string ⟨#[65]⟩, .string ⟨#[122]⟩, .string ⟨#[90]⟩, .string ⟨#[32]⟩, .string ⟨#[32, 32]⟩, .string ⟨#[92]⟩, .string ⟨#[50, 99]⟩, .string ⟨#[92, 50, 99]⟩, .string ⟨#[92, 50, 67]⟩, .string ⟨#[61]⟩, .string ⟨#[44]⟩, .string ⟨#[64]⟩, .string ⟨#[95]⟩, .string ⟨#[39]⟩, .string ⟨#[195, 169]⟩, .string ⟨#[197, 129]⟩, .string ⟨#[195]⟩, .string ⟨#[128]⟩, .string ⟨#[0]⟩, .string ⟨#[31]⟩, .string ⟨#[127]⟩, .string ⟨#[230, 151, 165]⟩, .string ⟨#[237, 160, 128]⟩, .string ⟨#[244, 143, 191, 191]⟩, .string ⟨#[244, 144, 128, 128]⟩, .string ⟨#[192, 128]⟩, .string ⟨#[224, 128, 128]⟩, .string ⟨#[91]⟩, .string ⟨#[96]⟩, .string ⟨#[48]⟩, .string ⟨#[38]⟩] 9)).cell? ⟨b, off + k, none⟩ = some (.int .u8 (x : Int)) := by
        rw [(belowNew wr _).cell (World.block_lt_of_cell? _ _ hcy)]; exact hcy
      have hws := words_size m hm32
      generalize words.getD m ⟨#[]⟩ = X at hcw hws
      have hcat : ∀ w, (Op.stringOp .add S X).run Tryd.prog w = .ok (.string (S ++ X)) w := fun w => run_string_add_sum w S X (by omega)
      have HSX := Lib.hid (show (S ++ X).size ≤ 4 * (k + 1) by rw [ByteArray.size_append]; omega)
      have HBA := Lib.hid (show Below w.heap.size w (wr.alloc (.cells #[.string ⟨#[97]⟩, .string ⟨#[65]⟩, .string ⟨#[122]⟩, .string ⟨#[90]⟩, .string ⟨#[32]⟩, .string ⟨#[32, 32]⟩, .string ⟨#[92]⟩, .string ⟨#[50, 99]⟩, .string ⟨#[92, 50, 99]⟩, .string ⟨#[92, 50, 67]⟩, .string ⟨#[61]⟩, .string ⟨#[44]⟩, .string ⟨#[64]⟩, .string ⟨#[95]⟩, .string ⟨#[39]⟩, .string ⟨#[195, 169]⟩, .string ⟨#[197, 129]⟩, .string ⟨#[195]⟩, .string ⟨#[128]⟩, .string ⟨#[0]⟩, .string ⟨#[31]⟩, .string ⟨#[127]⟩, .string ⟨#[230, 151, 165]⟩, .string ⟨#[237, 160, 128]⟩, .string ⟨#[244, 143, 191, 191]⟩, .string ⟨#[244, 144, 128, 128]⟩, .string ⟨#[192, 128]⟩, .string ⟨#[224, 128, 128]⟩, .string ⟨#[91]⟩, .string ⟨#[96]⟩, .string ⟨#[48]⟩, .string ⟨#[38]⟩] 9)) from hb.alloc hb.size _)
      clear hx hm hb hws hc
      go_wp2_with fail
      go_roundw
      case rel => exact ⟨k + 1, S ++ X, by omega, by omega, by go_num, rfl, HSX.out, HBA.out⟩
      case measure => simp [intOf]; omega
    · have hor : decide ((k : Int) < (l.length : Int)) = false ∧ ¬ k < l.length ∨ decide ((k : Int) < (l.length : Int)) = true ∧ k < l.length ∧ decide ((k : Int) < 40) = false := by
        by_cases h : k < l.length
        · right; exact ⟨by simp; omega, h, by simp; omega⟩
        · left; exact ⟨by simp; omega, h⟩
      have HS := Lib.hid (show S.size ≤ 160 by omega)
      clear hlt hk hkl hS hb
      rcases hor with ⟨g1, g3⟩ | ⟨g1, g3, g2⟩
      all_goals
        go_wp2_with fail
        go_ret
        exact ⟨S, rfl, HS.out, HB.out⟩
end Go.Proofs.YtnagonihkfpefaaDoor
