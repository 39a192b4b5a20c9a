/-
  The walk of the law TextValid: for every number, every string and every slice of bytes it returns true, and leaves all that was there as it was.
-/
import Derived.Test.YtnagonihkfpefaaDoorXawake
import Derived.Test.YtnagonihkfpefaaDoorXpieces
namespace Go.Proofs.YtnagonihkfpefaaDoor
open Go.RowKit

set_option maxRecDepth 100000 in
set_option maxHeartbeats 4000000 in
theorem vallaw (kind : Int) (s : ByteArray) (a0 : Option Addr) (l : List UInt8) (cap : Nat) (w : World) (hl : BLies w a0 l) (hlen : l.length ≤ 9223372036854775807) (hT : Tab w) :
    Calls Tryd.prog 3 #[.int .i64 kind, .string s, .slice a0 l.length cap] w fun e w' => e = .returned (.bool true) ∧ Below w.heap.size w w' := by
  have HT := Lib.hid hT
  clear hT
  by_cases h : 400 < s.size
  · have d : decide ((400 : Int) < (s.size : Int)) = true := by simp; omega
    clear h
    go_enter Tryd.func3, Tryd.ntmps3
    go_wp2_with (go_at_call 8; (with_reducible refine (awake_any _ HT.out).mono ?_); rintro e w1 ⟨rfl, hb1⟩; have HB1 := Lib.hid hb1; clear hb1)
    go_ret
    exact ⟨rfl, HB1.out⟩
  · have d : decide ((400 : Int) < (s.size : Int)) = false := by simp; omega
    have hs : s.size ≤ 400 := by omega
    have HL := Lib.hid hl
    have HLN := Lib.hid hlen
    clear h hl
    go_enter Tryd.func3, Tryd.ntmps3
    go_wp2_with fail
    obtain ⟨KL, hKL⟩ : ∃ KL : List Int, KL = [kind, 12, 19, 22] := ⟨_, rfl⟩
    have HBA := Lib.hid (belowNew w (.cells #[.int .i64 kind, .int .i64 12, .int .i64 19, .int .i64 22] 3))
    have HCK := Lib.hid (show ∀ k, k < 4 → (w.alloc (.cells #[.int .i64 kind, .int .i64 12, .int .i64 19, .int .i64 22] 3)).cell? ⟨w.heap.size, k, none⟩ = some (.int .i64 (KL.getD k 0)) from fun k hk => by
      rw [hKL]; exact row_ints w [kind, 12, 19, 22] k hk)
    generalize hw3 : w.alloc (.cells #[.int .i64 kind, .int .i64 12, .int .i64 19, .int .i64 22] 3) = w3 at HBA HCK ⊢
    have HSZ3 := Lib.hid (show w.heap.size < w3.heap.size by rw [← hw3]; simp)
    clear hw3 hKL
    go_loopw [18] (fun i wr => ∃ k : Nat, k ≤ 4 ∧ i = .int .i64 (k : Int) ∧ Below w3.heap.size w3 wr) (fun i _ => 4 - (intOf i).toNat)
    case atStart => exact ⟨0, by omega, rfl, Below.refl _ _⟩
    case round =>
      obtain ⟨k, hk, rfl, hb⟩ := hrel
      have HBZ := Lib.hid (below_next HBA.out hb)
      by_cases hlt : k < 4
      · have hd4 : decide ((k : Int) < 4) = true := by simp; omega
        have hck : wr.cell? ⟨w.heap.size, k, none⟩ = some (.int .i64 (KL.getD k 0)) := by
          rw [← HCK.out k hlt]; exact hb.cell HSZ3.out
        generalize KL.getD k 0 = kv at hck
        have HB := Lib.hid hb
        clear hb
        go_wp2_with (go_at_call 9; (with_reducible refine (pieces_any _ l cap _ (HL.out.below HBZ.out) HLN.out).mono ?_); rintro e w1 ⟨S1, rfl, hS1, hb1⟩; have HS1 := Lib.hid hS1; have HB1 := Lib.hid (below_next HB.out hb1); have HBZ1 := Lib.hid (below_next HBZ.out hb1); clear hb1)
        have HBS := Lib.hid (show Below w3.heap.size w3 (w1.alloc (.cells #[.string s, .string S1] 9)) from below_next HB1.out (belowNew w1 _))
        have HBZ2 := Lib.hid (show Below w.heap.size w (w1.alloc (.cells #[.string s, .string S1] 9)) from below_next HBZ1.out (belowNew w1 _))
        obtain ⟨LL, hLL⟩ : ∃ LL : List ByteArray, LL = [s, S1] := ⟨_, rfl⟩
        have HSZ := Lib.hid (show ∀ k, k < 2 → (LL.getD k ⟨#[]⟩).size ≤ 400 from fun k hk => by
          rw [hLL]
          rcases (by omega : k = 0 ∨ k = 1) with rfl | rfl
          · exact hs
          · show S1.size ≤ _; omega)
        have HCL := Lib.hid (show ∀ k, k < 2 → (w1.alloc (.cells #[.string s, .string S1] 9)).cell? ⟨w1.heap.size, k, none⟩ = some (.string (LL.getD k ⟨#[]⟩)) from fun k hk => by
          rw [hLL]; exact row_strs w1 [s, S1] k hk)
        generalize hw4 : w1.alloc (.cells #[.string s, .string S1] 9) = w4 at HBS HBZ2 HCL ⊢
        have HSZ4 := Lib.hid (show w1.heap.size < w4.heap.size by rw [← hw4]; simp)
        clear hw4 hLL hS1 hck hd4
        go_loopw [27] (fun i wx => ∃ j : Nat, j ≤ 2 ∧ i = .int .i64 (j : Int) ∧ Below w4.heap.size w4 wx) (fun i _ => 2 - (intOf i).toNat)
        case atStart => exact ⟨0, by omega, rfl, Below.refl _ _⟩
        case round =>
          obtain ⟨j, hj, rfl, hb⟩ := hrel
          by_cases hlj : j < 2
          · have hd2 : decide ((j : Int) < 2) = true := by simp; omega
            have hcx : wr.cell? ⟨w1.heap.size, j, none⟩ = some (.string (LL.getD j ⟨#[]⟩)) := by
              rw [← HCL.out j hlj]; exact hb.cell HSZ4.out
            have hxz := HSZ.out j hlj
            generalize LL.getD j ⟨#[]⟩ = x at hcx hxz
            obtain ⟨v, hv⟩ : ∃ v, validB kv x.data.toList = v := ⟨_, rfl⟩
            have HV := Lib.hid (fun w hT => tval_any kv x w (by omega) hT)
            have HR := Lib.hid (fun w => rval_any kv x w (by omega))
            rw [hv] at HV HR
            have HBJ := Lib.hid hb
            have HTJ := Lib.hid (HT.out.below (below_next HBZ2.out hb))
            clear hv hb hxz
            cases v with
            | true =>
              go_wp2_with (first
                | (go_at_call 10; (with_reducible refine (HV.out _ HTJ.out).mono ?_); rintro e w5 ⟨rfl, hb5⟩; have HB5 := Lib.hid (below_next HBJ.out hb5); clear hb5)
                | (go_at_call 11; (with_reducible refine (HR.out _).mono ?_); rintro e w6 ⟨rfl, hb6⟩; have HB6 := Lib.hid (below_next HB5.out hb6); clear hb6))
              go_roundw
              case rel => exact ⟨j + 1, by omega, by go_num, HB6.out⟩
              case measure => simp [intOf]; omega
            | false =>
              go_wp2_with (first
                | (go_at_call 10; (with_reducible refine (HV.out _ HTJ.out).mono ?_); rintro e w5 ⟨rfl, hb5⟩; have HB5 := Lib.hid (below_next HBJ.out hb5); clear hb5)
                | (go_at_call 11; (with_reducible refine (HR.out _).mono ?_); rintro e w6 ⟨rfl, hb6⟩; have HB6 := Lib.hid (below_next HB5.out hb6); clear hb6))
              go_roundw
              case rel => exact ⟨j + 1, by omega, by go_num, HB6.out⟩
              case measure => simp [intOf]; omega
          · have ej : j = 2 := by omega
            subst ej
            have HBJ := Lib.hid (below_next HBS.out hb)
            clear hb
            go_wp2_with fail
            go_roundw
            case rel => exact ⟨k + 1, by omega, by go_num, HBJ.out⟩
            case measure => simp [intOf]; omega
      · have ek : k = 4 := by omega
        subst ek
        go_wp2_with (go_at_call 8; (with_reducible refine (awake_any _ (HT.out.below HBZ.out)).mono ?_); rintro e w8 ⟨rfl, hb8⟩; have HB8 := Lib.hid (below_next HBZ.out hb8); clear hb8)
        go_ret
        exact ⟨rfl, HB8.out⟩
end Go.Proofs.YtnagonihkfpefaaDoor
