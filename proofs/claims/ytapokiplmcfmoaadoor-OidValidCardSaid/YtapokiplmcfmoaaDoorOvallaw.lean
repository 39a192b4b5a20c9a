/-
  The walk of the law OidValid: for every string and every slice of bytes it returns true, and leaves all that was there as it was.
-/
import Derived.Test.YtapokiplmcfmoaaDoorOawake
import Derived.Test.YtapokiplmcfmoaaDoorOpieces
namespace Go.Proofs.YtapokiplmcfmoaaDoor
open Go.RowKit

theorem cat_any (a b : ByteArray) (h : a.size + b.size ≤ 9223372036854775807) (w : World) : (Op.stringOp .add a b).run Tryd.prog w = .ok (.string (a ++ b)) w := run_string_add_sum w a b h

set_option maxRecDepth 100000 in
set_option maxHeartbeats 2000000 in
theorem vallaw (s : ByteArray) (a0 : Option Addr) (l : List UInt8) (cap : Nat) (w : World) (hl : BLies w a0 l) (hlen : l.length ≤ 9223372036854775807) :
    Calls Tryd.prog 3 #[.string s, .slice a0 l.length cap] w fun e w' => e = .returned (.bool true) ∧ Below w.heap.size w w' := by
  by_cases h : 200 < s.size
  · have d : decide ((200 : Int) < (s.size : Int)) = true := by simp; omega
    clear h
    go_enter Tryd.func3, Tryd.ntmps3
    go_wp2_with (go_at_call 8; (with_reducible refine (awake_any _).mono ?_); rintro e w1 ⟨rfl, hb1⟩; have HB1 := Lib.hid hb1; clear hb1)
    go_ret
    exact ⟨rfl, HB1.out⟩
  · have d : decide ((200 : Int) < (s.size : Int)) = false := by simp; omega
    have hs : s.size ≤ 200 := by omega
    have HL := Lib.hid hl
    have HLN := Lib.hid hlen
    have hcat := cat_any ⟨#[49, 46, 50, 46]⟩ s (by show 4 + s.size ≤ _; omega)
    clear h hl
    go_enter Tryd.func3, Tryd.ntmps3
    go_wp2_with (first
      | (go_at_call 9; (with_reducible refine (pieces_any _ l cap _ HL.out HLN.out).mono ?_); rintro e w1 ⟨S1, rfl, hS1, hb1⟩; have HS1 := Lib.hid hS1; have HB1 := Lib.hid hb1; clear hb1)
      | (go_at_call 9; (with_reducible refine (pieces_any _ l cap _ (HL.out.below HB1.out) HLN.out).mono ?_); rintro e w2 ⟨S2, rfl, hS2, hb2⟩; have HS2 := Lib.hid hS2; have HB2 := Lib.hid hb2; have hc2 := cat_any ⟨#[50, 46]⟩ S2 (by have := HS2.out; show 2 + S2.size ≤ _; omega); clear hb2))
    obtain ⟨X3, hX3⟩ : ∃ X3, X3 = (⟨#[50, 46]⟩ : ByteArray) ++ S2 := ⟨_, rfl⟩
    obtain ⟨X4, hX4⟩ : ∃ X4, X4 = (⟨#[49, 46, 50, 46]⟩ : ByteArray) ++ s := ⟨_, rfl⟩
    have hz3 : X3.size ≤ 400 := by rw [hX3, ByteArray.size_append]; show 2 + S2.size ≤ _; omega
    have hz4 : X4.size ≤ 400 := by rw [hX4, ByteArray.size_append]; show 4 + s.size ≤ _; omega
    rw [← hX3, ← hX4]
    clear hX3 hX4 hcat hc2
    have HBA := Lib.hid (show Below w.heap.size w (w2.alloc (.cells #[.string s, .string S1, .string X3, .string X4] 9)) from below_next (below_next HB1.out HB2.out) (belowNew w2 _))
    obtain ⟨LL, hLL⟩ : ∃ LL : List ByteArray, LL = [s, S1, X3, X4] := ⟨_, rfl⟩
    have HSZ := Lib.hid (show ∀ k, k < 4 → (LL.getD k ⟨#[]⟩).size ≤ 1099511627 from fun k hk => by
      rw [hLL]
      rcases (by omega : k = 0 ∨ k = 1 ∨ k = 2 ∨ k = 3) with rfl | rfl | rfl | rfl
      · show s.size ≤ _; omega
      · show S1.size ≤ _; omega
      · show X3.size ≤ _; omega
      · show X4.size ≤ _; omega)
    have HCL := Lib.hid (show ∀ k, k < 4 → (w2.alloc (.cells #[.string s, .string S1, .string X3, .string X4] 9)).cell? ⟨w2.heap.size, k, none⟩ = some (.string (LL.getD k ⟨#[]⟩)) from fun k hk => by
      rw [hLL]; exact row_strs w2 [s, S1, X3, X4] k hk)
    generalize hw3 : w2.alloc (.cells #[.string s, .string S1, .string X3, .string X4] 9) = w3 at HBA HCL ⊢
    have HSZ3 := Lib.hid (show w2.heap.size < w3.heap.size by rw [← hw3]; simp)
    clear hw3 hLL hz3 hz4 hS1 hS2
    go_loopw [25] (fun i wr => ∃ k : Nat, k ≤ 4 ∧ i = .int .i64 (k : Int) ∧ Below w3.heap.size w3 wr) (fun i _ => 4 - (intOf i).toNat)
    case atStart => exact ⟨0, by omega, rfl, Below.refl _ _⟩
    case round =>
      obtain ⟨k, hk, rfl, hb⟩ := hrel
      have HB := Lib.hid hb
      by_cases hlt : k < 4
      · have hd4 : decide ((k : Int) < 4) = true := by simp; omega
        have hcx : wr.cell? ⟨w2.heap.size, k, none⟩ = some (.string (LL.getD k ⟨#[]⟩)) := by
          rw [← HCL.out k hlt]; exact hb.cell HSZ3.out
        have hxz := HSZ.out k hlt
        generalize LL.getD k ⟨#[]⟩ = x at hcx hxz
        have HXZ := Lib.hid hxz
        clear hb hxz
        rcases oid_or x.data.toList with ⟨a, h⟩ | h
        · have HO := Lib.hid h
          obtain ⟨E, hE⟩ : ∃ E, E = strOf (enc a) := ⟨_, rfl⟩
          have HV := Lib.hid (show encVal a = .tuple #[.string E, .int .i64 0] by rw [hE]; rfl)
          clear h hE
          go_wp2_with (first
            | (go_at_call 10; (with_reducible refine (enc_yes HO.out _ HXZ.out).mono ?_); rw [HV.out]; rintro e w4 ⟨rfl, hb4⟩; have HB4 := Lib.hid (below_next HB.out hb4); clear hb4)
            | (go_at_call 11; (with_reducible refine (renc_yes HO.out _ HXZ.out).mono ?_); rw [HV.out]; rintro e w5 ⟨rfl, hb5⟩; have HB5 := Lib.hid (below_next HB4.out hb5); clear hb5)
            | (go_at_call 12; (with_reducible refine (valid_yes HO.out _ HXZ.out).mono ?_); rintro e w6 ⟨rfl, hb6⟩; have HB6 := Lib.hid (below_next HB5.out hb6); clear hb6)
            | (go_at_call 13; (with_reducible refine (rvalid_yes HO.out _ HXZ.out).mono ?_); rintro e w7 ⟨rfl, hb7⟩; have HB7 := Lib.hid (below_next HB6.out hb7); clear hb7))
          go_roundw
          case rel => exact ⟨k + 1, by omega, by go_num, HB7.out⟩
          case measure => simp [intOf]; omega
        · have HO := Lib.hid h
          have HV := Lib.hid (show noVal = .tuple #[.string ⟨#[]⟩, .int .i64 11] from rfl)
          clear h
          go_wp2_with (first
            | (go_at_call 10; (with_reducible refine (enc_no HO.out _ HXZ.out).mono ?_); rw [HV.out]; rintro e w4 ⟨rfl, hb4⟩; have HB4 := Lib.hid (below_next HB.out hb4); clear hb4)
            | (go_at_call 11; (with_reducible refine (renc_no HO.out _ HXZ.out).mono ?_); rw [HV.out]; rintro e w5 ⟨rfl, hb5⟩; have HB5 := Lib.hid (below_next HB4.out hb5); clear hb5)
            | (go_at_call 12; (with_reducible refine (valid_no HO.out _ HXZ.out).mono ?_); rintro e w6 ⟨rfl, hb6⟩; have HB6 := Lib.hid (below_next HB5.out hb6); clear hb6)
            | (go_at_call 13; (with_reducible refine (rvalid_no HO.out _ HXZ.out).mono ?_); rintro e w7 ⟨rfl, hb7⟩; have HB7 := Lib.hid (below_next HB6.out hb7); clear hb7))
          go_roundw
          case rel => exact ⟨k + 1, by omega, by go_num, HB7.out⟩
          case measure => simp [intOf]; omega
      · have ek : k = 4 := by omega
        subst ek
        have HBZ := Lib.hid (below_next HBA.out hb)
        go_wp2_with (go_at_call 8; (with_reducible refine (awake_any _).mono ?_); rintro e w8 ⟨rfl, hb8⟩; have HB8 := Lib.hid (below_next HBZ.out hb8); clear hb8)
        go_ret
        exact ⟨rfl, HB8.out⟩
end Go.Proofs.YtapokiplmcfmoaaDoor
