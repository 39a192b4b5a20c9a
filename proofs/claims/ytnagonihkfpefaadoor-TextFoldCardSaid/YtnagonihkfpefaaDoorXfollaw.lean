/-
  The walk of the law TextFold: for every two strings and every two slices of bytes it returns true, and leaves all that was there as it was.
-/
import Derived.Test.YtnagonihkfpefaaDoorXrfold
import Derived.Test.YtnagonihkfpefaaDoorXawake
import Derived.Test.YtnagonihkfpefaaDoorXpieces
import Derived.Lib.QuietBelow
import Derived.BigQuiet
namespace Go.Proofs.YtnagonihkfpefaaDoor
open Go.RowKit

set_option maxRecDepth 100000 in
set_option maxHeartbeats 8000000 in
theorem follaw (s t : ByteArray) (a0 a1 : Option Addr) (l m : List UInt8) (c0 c1 : Nat) (w : World) (hl : BLies w a0 l) (hm : BLies w a1 m) (hll : l.length ≤ 9223372036854775807) (hml : m.length ≤ 9223372036854775807) (hT : Tab w) :
    Calls Tryd.prog 5 #[.string s, .string t, .slice a0 l.length c0, .slice a1 m.length c1] w fun e w' => e = .returned (.bool true) ∧ Below w.heap.size w w' := by
  have HT := Lib.hid hT
  clear hT
  by_cases h : 400 < s.size ∨ 400 < t.size
  · have hor : decide ((400 : Int) < (s.size : Int)) = true ∨ decide ((400 : Int) < (s.size : Int)) = false ∧ decide ((400 : Int) < (t.size : Int)) = true := by
      by_cases h1 : 400 < s.size
      · left; simp; omega
      · right; exact ⟨by simp; omega, by simp; omega⟩
    clear h
    rcases hor with d | ⟨d, d2⟩
    all_goals
      go_enter Tryd.func5, Tryd.ntmps5
      go_wp2_with (go_at_call 8; (with_reducible refine (awake_any _ HT.out).mono ?_); rintro e w1 ⟨rfl, hb1⟩; have HB1 := Lib.hid hb1; clear hb1)
      go_ret
      exact ⟨rfl, HB1.out⟩
  · have d : decide ((400 : Int) < (s.size : Int)) = false := by simp; omega
    have d2 : decide ((400 : Int) < (t.size : Int)) = false := by simp; omega
    have hs : s.size ≤ 400 := by omega
    have ht : t.size ≤ 400 := by omega
    have HL := Lib.hid hl
    have HM := Lib.hid hm
    have HLN := Lib.hid hll
    have HMN := Lib.hid hml
    clear h hl hm
    go_enter Tryd.func5, Tryd.ntmps5
    go_wp2_with (first
      | (go_at_call 9; (with_reducible refine (pieces_any _ l c0 _ HL.out HLN.out).mono ?_); rintro e w1 ⟨S1, rfl, hz1, hb1⟩; have HZ1 := Lib.hid hz1; have HB1 := Lib.hid hb1; clear hb1 hz1)
      | (go_at_call 9; (with_reducible refine (pieces_any _ m c1 _ (HM.out.below HB1.out) HMN.out).mono ?_); rintro e w2 ⟨S2, rfl, hz2, hb2⟩; have HZ2 := Lib.hid hz2; have HB2 := Lib.hid (below_next HB1.out hb2); clear hb2 hz2)
      | (go_at_call 9; (with_reducible refine (pieces_any _ l c0 _ (HL.out.below HB2.out) HLN.out).mono ?_); rintro e w3 ⟨S3, rfl, hz3, hb3⟩; have HZ3 := Lib.hid hz3; have HB3 := Lib.hid (below_next HB2.out hb3); clear hb3 hz3)
      | (go_at_call 9; (with_reducible refine (pieces_any _ l c0 _ (HL.out.below HB3.out) HLN.out).mono ?_); rintro e w4 ⟨S4, rfl, hz4, hb4⟩; have HZ4 := Lib.hid hz4; have HB4 := Lib.hid (below_next HB3.out hb4); clear hb4 hz4)
      | (go_at_call 12; (with_reducible refine (lower_any S4 _ (Nat.le_trans HZ4.out (by omega))).mono ?_); rintro e w5 ⟨rfl, hb5⟩; have HB5 := Lib.hid (below_next HB4.out hb5); have hcat := cat_any ⟨#[32]⟩ (strOf (S4.data.toList.map small)) (by rw [strOf_size, List.length_map]; show 1 + S4.size ≤ _; have := HZ4.out; omega); clear hb5))
    obtain ⟨S5, hS5⟩ : ∃ S5, S5 = (⟨#[32]⟩ : ByteArray) ++ strOf (S4.data.toList.map small) := ⟨_, rfl⟩
    have hz5 : S5.size ≤ 400 := by
      rw [hS5, ByteArray.size_append, strOf_size, List.length_map]
      show 1 + S4.size ≤ _
      have := HZ4.out; omega
    rw [← hS5]
    obtain ⟨PL, hPL⟩ : ∃ PL : List (ByteArray × ByteArray), PL = [(s, t), (S1, S2), (S3, S5)] := ⟨_, rfl⟩
    have HSZ := Lib.hid (show ∀ k, k < 3 → (PL.getD k (⟨#[]⟩, ⟨#[]⟩)).1.size ≤ 400 ∧ (PL.getD k (⟨#[]⟩, ⟨#[]⟩)).2.size ≤ 400 from fun k hk => by
      have h1 := HZ1.out
      have h2 := HZ2.out
      have h3 := HZ3.out
      rw [hPL]
      rcases (by omega : k = 0 ∨ k = 1 ∨ k = 2) with rfl | rfl | rfl
      · exact ⟨hs, ht⟩
      · exact ⟨by show S1.size ≤ _; omega, by show S2.size ≤ _; omega⟩
      · exact ⟨by show S3.size ≤ _; omega, hz5⟩)
    have HCL := Lib.hid (show ∀ k, k < 3 → (w5.alloc (.cells #[.string s, .string t, .string S1, .string S2, .string S3, .string S5] 30)).cell? ⟨w5.heap.size, k * 2, none⟩ = some (.string (PL.getD k (⟨#[]⟩, ⟨#[]⟩)).1) ∧ (w5.alloc (.cells #[.string s, .string t, .string S1, .string S2, .string S3, .string S5] 30)).cell? ⟨w5.heap.size, k * 2 + 1, none⟩ = some (.string (PL.getD k (⟨#[]⟩, ⟨#[]⟩)).2) from fun k hk => by
      rw [hPL]
      exact row_pairs w5 [(s, t), (S1, S2), (S3, S5)] 30 k hk)
    have HBA := Lib.hid (show Below w.heap.size w (w5.alloc (.cells #[.string s, .string t, .string S1, .string S2, .string S3, .string S5] 30)) from below_next HB5.out (belowNew w5 _))
    generalize hw6 : w5.alloc (.cells #[.string s, .string t, .string S1, .string S2, .string S3, .string S5] 30) = w6 at HBA HCL ⊢
    have HS6 := Lib.hid (show w5.heap.size < w6.heap.size by rw [← hw6]; simp)
    clear hw6 hPL hcat hS5 hz5
    go_loopw [37] (fun i wr => ∃ k : Nat, k ≤ 3 ∧ i = .int .i64 (k : Int) ∧ Below w6.heap.size w6 wr) (fun i _ => 3 - (intOf i).toNat)
    case atStart => exact ⟨0, by omega, rfl, Below.refl _ _⟩
    case round =>
      obtain ⟨k, hk, rfl, hb⟩ := hrel
      have HBR := Lib.hid hb
      by_cases hlt : k < 3
      · have hd5 : decide ((k : Int) < 3) = true := by simp; omega
        have hcx : wr.cell? ⟨w5.heap.size, k * 2, none⟩ = some (.string (PL.getD k (⟨#[]⟩, ⟨#[]⟩)).1) := by
          rw [← (HCL.out k hlt).1]; exact hb.cell HS6.out
        have hcy : wr.cell? ⟨w5.heap.size, k * 2 + 1, none⟩ = some (.string (PL.getD k (⟨#[]⟩, ⟨#[]⟩)).2) := by
          rw [← (HCL.out k hlt).2]; exact hb.cell HS6.out
        have hxz := (HSZ.out k hlt).1
        have hyz := (HSZ.out k hlt).2
        generalize (PL.getD k (⟨#[]⟩, ⟨#[]⟩)).1 = x at hcx hxz
        generalize (PL.getD k (⟨#[]⟩, ⟨#[]⟩)).2 = y at hcy hyz
        clear hb
        go_wp2_with fail
        have hw0 := (row_pairs wr [(x, y)] 30 0 (by simp)).1
        have hw1 := (row_pairs wr [(x, y)] 30 0 (by simp)).2
        simp only [pairCells, List.getD_cons_zero, Nat.zero_mul, Nat.zero_add] at hw0 hw1
        have HBW := Lib.hid (HBR.out.alloc HBR.out.size (.cells #[.string x, .string y] 30))
        clear hcx hcy hd5
        generalize wr.alloc (Obj.cells #[Value.string x, Value.string y] 30) = W at hw0 hw1 HBW ⊢
        have k0 := cell_regrown hw0
        have k1 := cell_regrown hw1
        have hfz := foldS_size x
        have hff := foldS_foldS x
        have hmf := matchB_fold x
        obtain ⟨v, hv⟩ : ∃ v, matchB x y = v := ⟨_, rfl⟩
        have cF : ∀ d os, Calls Tryd.prog 13 #[.string x] (Sort.grow (redrawn W d) os) fun e w'' => e = .returned (.string (foldS x)) ∧ ∃ p : Regrown, w'' = Sort.grow (redrawn W p.d) p.os := fun d os => Calls.regrown_of (foldS_any x _ (by omega))
        have cR : ∀ d os, Calls Tryd.prog 14 #[.string x] (Sort.grow (redrawn W d) os) fun e w'' => e = .returned (.string (foldS x)) ∧ ∃ p : Regrown, w'' = Sort.grow (redrawn W p.d) p.os := fun d os => Calls.regrown_of (rfold_any x _ (by omega))
        have cG : ∀ d os, Calls Tryd.prog 13 #[.string (foldS x)] (Sort.grow (redrawn W d) os) fun e w'' => e = .returned (.string (foldS x)) ∧ ∃ p : Regrown, w'' = Sort.grow (redrawn W p.d) p.os := fun d os => Calls.regrown_of (by
          have := foldS_any (foldS x) (Sort.grow (redrawn W d) os) (by omega)
          rwa [hff] at this)
        have cM : ∀ d os, Calls Tryd.prog 15 #[.string x, .string y] (Sort.grow (redrawn W d) os) fun e w'' => e = .returned (.bool v) ∧ ∃ p : Regrown, w'' = Sort.grow (redrawn W p.d) p.os := fun d os => Calls.regrown_of (by
          have := match_any x y (Sort.grow (redrawn W d) os) (by omega) (by omega)
          rwa [hv] at this)
        have cN : ∀ d os, Calls Tryd.prog 16 #[.string x, .string y] (Sort.grow (redrawn W d) os) fun e w'' => e = .returned (.bool v) ∧ ∃ p : Regrown, w'' = Sort.grow (redrawn W p.d) p.os := fun d os => Calls.regrown_of (by
          have := rmatch_any x y (Sort.grow (redrawn W d) os) (by omega) (by omega)
          rwa [hv] at this)
        have cT : ∀ d os, Calls Tryd.prog 15 #[.string x, .string (foldS x)] (Sort.grow (redrawn W d) os) fun e w'' => e = .returned (.bool true) ∧ ∃ p : Regrown, w'' = Sort.grow (redrawn W p.d) p.os := fun d os => Calls.regrown_of (by
          have := match_any x (foldS x) (Sort.grow (redrawn W d) os) (by omega) (by omega)
          rwa [hmf] at this)
        generalize foldS x = F at cF cR cG cT
        have hq : (F.toList != F.toList) = false := by simp
        clear hw0 hw1 hv hxz hyz hfz hff hmf
        cases v
        all_goals
          refine wp_region_quiet_below (by kernel_rfl) (by kernel_rfl) ?_
          repeat (go_big_quiet_step (with_reducible first | exact cF _ _ | exact cR _ _ | exact cG _ _ | exact cM _ _ | exact cN _ _ | exact cT _ _))
          refine wpQuiet_nil ?_
          intro _ hw'
          obtain ⟨⟨dq, osq⟩, hw''⟩ := hw'
          subst hw''
          clear k0 k1 cF cR cG cM cN cT
          have HBZ := Lib.hid (HBW.out.trans ((below_regrown W dq osq).mono HBW.out.size))
          go_wp2_with fail
          go_roundw
          case rel => exact ⟨k + 1, by omega, by go_num, HBZ.out⟩
          case measure => simp [intOf]; omega
      · obtain rfl : k = 3 := by omega
        have hd5 : decide (((3 : Nat) : Int) < 3) = false := rfl
        have HBZ := Lib.hid (below_next HBA.out hb)
        clear hb hlt
        go_wp2_with (go_at_call 8; (with_reducible refine (awake_any _ (HT.out.below HBZ.out)).mono ?_); rintro e w8 ⟨rfl, hb8⟩; have HB8 := Lib.hid (below_next HBZ.out hb8); clear hb8)
        go_ret
        exact ⟨rfl, HB8.out⟩
end Go.Proofs.YtnagonihkfpefaaDoor
