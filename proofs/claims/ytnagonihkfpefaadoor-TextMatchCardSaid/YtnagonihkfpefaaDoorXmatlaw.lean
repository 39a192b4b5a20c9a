/-
  The walk of the law TextMatch: for every three slices of bytes it returns true, and leaves all that was there as it was.
-/
import Derived.Test.YtnagonihkfpefaaDoorXlow
import Derived.Test.YtnagonihkfpefaaDoorXawake
import Derived.Test.YtnagonihkfpefaaDoorXpieces
namespace Go.Proofs.YtnagonihkfpefaaDoor
open Go.RowKit

theorem match_is {a b : ByteArray} {v : Bool} (h : matchB a b = v) (w : World) (ha : a.size ≤ 1000000) (hb : b.size ≤ 1000000) :
    Calls Tryd.prog 15 #[.string a, .string b] w fun e w' => e = .returned (.bool v) ∧ Below w.heap.size w w' := by
  have := match_any a b w (by omega) (by omega)
  rwa [h] at this

set_option maxRecDepth 100000 in
set_option maxHeartbeats 4000000 in
theorem matlaw (a0 a1 a2 : Option Addr) (l0 l1 l2 : List UInt8) (c0 c1 c2 : Nat) (w : World) (hl0 : BLies w a0 l0) (hl1 : BLies w a1 l1) (hl2 : BLies w a2 l2)
    (hn0 : l0.length ≤ 9223372036854775807) (hn1 : l1.length ≤ 9223372036854775807) (hn2 : l2.length ≤ 9223372036854775807) (hT : Tab w) :
    Calls Tryd.prog 6 #[.slice a0 l0.length c0, .slice a1 l1.length c1, .slice a2 l2.length c2] w fun e w' => e = .returned (.bool true) ∧ Below w.heap.size w w' := by
  have HT := Lib.hid hT
  have HL0 := Lib.hid hl0
  have HL1 := Lib.hid hl1
  have HL2 := Lib.hid hl2
  have HN0 := Lib.hid hn0
  have HN1 := Lib.hid hn1
  have HN2 := Lib.hid hn2
  clear hT hl0 hl1 hl2 hn1 hn2
  by_cases h3 : l0.length < 3
  · have d3 : decide ((l0.length : Int) < 3) = true := by simp; omega
    clear h3
    go_enter Tryd.func6, Tryd.ntmps6
    go_upto_region 2 with (first
      | (go_at_call 9; (with_reducible refine (pieces_any _ l0 c0 _ HL0.out HN0.out).mono ?_); rintro e w1 ⟨A, rfl, hza, hb1⟩; have HZA := Lib.hid hza; have HB1 := Lib.hid hb1; clear hb1 hza)
      | (go_at_call 9; (with_reducible refine (pieces_any _ l1 c1 _ (HL1.out.below HB1.out) HN1.out).mono ?_); rintro e w2 ⟨B, rfl, hzb, hb2⟩; have HZB := Lib.hid hzb; have HB2 := Lib.hid (below_next HB1.out hb2); clear hb2 hzb)
      | (go_at_call 9; (with_reducible refine (pieces_any _ l2 c2 _ (HL2.out.below HB2.out) HN2.out).mono ?_); rintro e w3 ⟨C, rfl, hzc, hb3⟩; have HZC := Lib.hid hzc; have HZ := Lib.hid (below_next HB2.out hb3); clear hb3 hzc))
    have hza2 := HZA.out
    have hcat1 := cat_any ⟨#[32]⟩ A (by show 1 + A.size ≤ _; omega)
    obtain ⟨Y1, hY1⟩ : ∃ Y1, Y1 = (⟨#[32]⟩ : ByteArray) ++ A := ⟨_, rfl⟩
    rw [← hY1] at hcat1
    have hzY : Y1.size = 1 + A.size := by rw [hY1, ByteArray.size_append]; rfl
    have hcat2 := cat_any Y1 ⟨#[32, 32]⟩ (by show Y1.size + 2 ≤ _; omega)
    obtain ⟨X, hX⟩ : ∃ X, X = Y1 ++ (⟨#[32, 32]⟩ : ByteArray) := ⟨_, rfl⟩
    rw [← hX] at hcat2
    have hzX : X.size = Y1.size + 2 := by rw [hX, ByteArray.size_append]; rfl
    have HLOW := Lib.hid (fun w => lower_any A w (by omega))
    obtain ⟨D, hD⟩ : ∃ D, D = strOf (A.data.toList.map small) := ⟨_, rfl⟩
    have hzD : D.size = A.size := by rw [hD, strOf_size, List.length_map]; rfl
    rw [← hD] at HLOW
    have hza : A.size ≤ 1000000 := by omega
    have hzb : X.size ≤ 1000000 := by omega
    have hzc : D.size ≤ 1000000 := by omega
    clear hY1 hX hD hzY hzX hzD hza2
    go_upto_region 4 with (go_at_call 12; (with_reducible refine (HLOW.out _).mono ?_); rintro e w4 ⟨rfl, hb4⟩; have HZ := Lib.hid (below_next HZ.out hb4); clear hb4)
    clear hcat1 hcat2
    have HAA := Lib.hid (fun w => match_is (matchB_self A) w hza hza)
    obtain ⟨ab, hab⟩ : ∃ v, matchB A X = v := ⟨_, rfl⟩
    obtain ⟨bc, hbc⟩ : ∃ v, matchB X D = v := ⟨_, rfl⟩
    have HAB := Lib.hid (fun w => match_is hab w hza hzb)
    have HBA := Lib.hid (fun w => match_is ((matchB_symm X A).trans hab) w hzb hza)
    have HBC := Lib.hid (fun w => match_is hbc w hzb hzc)
    obtain ⟨ac, hac⟩ : ∃ v, matchB A D = v := ⟨_, rfl⟩
    have HTR := Lib.hid (show ab = true → bc = true → ac = true from fun h1 h2 => by rw [← hac]; exact matchB_trans (hab.trans h1) (hbc.trans h2))
    have HAC := Lib.hid (fun w => match_is hac w hza hzc)
    clear hab hbc hac hza hzb hzc
    cases ab with
    | false =>
      go_wp2_with (first
        | (go_at_call 8; (with_reducible refine (awake_any _ (HT.out.below HZ.out)).mono ?_); rintro e w8 ⟨rfl, hb8⟩; have HZ := Lib.hid (below_next HZ.out hb8); clear hb8)
        | (go_at_call 15; (with_reducible refine (HAA.out _).mono ?_); rintro e w8 ⟨rfl, hb8⟩; have HZ := Lib.hid (below_next HZ.out hb8); clear hb8)
        | (go_at_call 15; (with_reducible refine (HAB.out _).mono ?_); rintro e w8 ⟨rfl, hb8⟩; have HZ := Lib.hid (below_next HZ.out hb8); clear hb8)
        | (go_at_call 15; (with_reducible refine (HBA.out _).mono ?_); rintro e w8 ⟨rfl, hb8⟩; have HZ := Lib.hid (below_next HZ.out hb8); clear hb8)
        | (go_at_call 15; (with_reducible refine (HBC.out _).mono ?_); rintro e w8 ⟨rfl, hb8⟩; have HZ := Lib.hid (below_next HZ.out hb8); clear hb8)
        | (go_at_call 15; (with_reducible refine (HAC.out _).mono ?_); rintro e w8 ⟨rfl, hb8⟩; have HZ := Lib.hid (below_next HZ.out hb8); clear hb8))
      go_ret
      exact ⟨rfl, HZ.out⟩
    | true =>
      cases bc with
      | false =>
        go_wp2_with (first
          | (go_at_call 8; (with_reducible refine (awake_any _ (HT.out.below HZ.out)).mono ?_); rintro e w8 ⟨rfl, hb8⟩; have HZ := Lib.hid (below_next HZ.out hb8); clear hb8)
          | (go_at_call 15; (with_reducible refine (HAA.out _).mono ?_); rintro e w8 ⟨rfl, hb8⟩; have HZ := Lib.hid (below_next HZ.out hb8); clear hb8)
          | (go_at_call 15; (with_reducible refine (HAB.out _).mono ?_); rintro e w8 ⟨rfl, hb8⟩; have HZ := Lib.hid (below_next HZ.out hb8); clear hb8)
          | (go_at_call 15; (with_reducible refine (HBA.out _).mono ?_); rintro e w8 ⟨rfl, hb8⟩; have HZ := Lib.hid (below_next HZ.out hb8); clear hb8)
          | (go_at_call 15; (with_reducible refine (HBC.out _).mono ?_); rintro e w8 ⟨rfl, hb8⟩; have HZ := Lib.hid (below_next HZ.out hb8); clear hb8)
          | (go_at_call 15; (with_reducible refine (HAC.out _).mono ?_); rintro e w8 ⟨rfl, hb8⟩; have HZ := Lib.hid (below_next HZ.out hb8); clear hb8))
        go_ret
        exact ⟨rfl, HZ.out⟩
      | true =>
        obtain rfl := HTR.out rfl rfl
        go_wp2_with (first
          | (go_at_call 8; (with_reducible refine (awake_any _ (HT.out.below HZ.out)).mono ?_); rintro e w8 ⟨rfl, hb8⟩; have HZ := Lib.hid (below_next HZ.out hb8); clear hb8)
          | (go_at_call 15; (with_reducible refine (HAA.out _).mono ?_); rintro e w8 ⟨rfl, hb8⟩; have HZ := Lib.hid (below_next HZ.out hb8); clear hb8)
          | (go_at_call 15; (with_reducible refine (HAB.out _).mono ?_); rintro e w8 ⟨rfl, hb8⟩; have HZ := Lib.hid (below_next HZ.out hb8); clear hb8)
          | (go_at_call 15; (with_reducible refine (HBA.out _).mono ?_); rintro e w8 ⟨rfl, hb8⟩; have HZ := Lib.hid (below_next HZ.out hb8); clear hb8)
          | (go_at_call 15; (with_reducible refine (HBC.out _).mono ?_); rintro e w8 ⟨rfl, hb8⟩; have HZ := Lib.hid (below_next HZ.out hb8); clear hb8)
          | (go_at_call 15; (with_reducible refine (HAC.out _).mono ?_); rintro e w8 ⟨rfl, hb8⟩; have HZ := Lib.hid (below_next HZ.out hb8); clear hb8))
        go_ret
        exact ⟨rfl, HZ.out⟩
  · have d3 : decide ((l0.length : Int) < 3) = false := by simp; omega
    clear h3
    go_enter Tryd.func6, Tryd.ntmps6
    go_upto_region 2 with (first
      | (go_at_call 9; (with_reducible refine (pieces_any _ l0 c0 _ HL0.out HN0.out).mono ?_); rintro e w1 ⟨A, rfl, hza, hb1⟩; have HZA := Lib.hid hza; have HB1 := Lib.hid hb1; clear hb1 hza)
      | (go_at_call 9; (with_reducible refine (pieces_any _ l1 c1 _ (HL1.out.below HB1.out) HN1.out).mono ?_); rintro e w2 ⟨B, rfl, hzb, hb2⟩; have HZB := Lib.hid hzb; have HB2 := Lib.hid (below_next HB1.out hb2); clear hb2 hzb)
      | (go_at_call 9; (with_reducible refine (pieces_any _ l2 c2 _ (HL2.out.below HB2.out) HN2.out).mono ?_); rintro e w3 ⟨C, rfl, hzc, hb3⟩; have HZC := Lib.hid hzc; have HZ := Lib.hid (below_next HB2.out hb3); clear hb3 hzc))
    have hza : A.size ≤ 1000000 := by have := HZA.out; omega
    have hzb : B.size ≤ 1000000 := by have := HZB.out; omega
    have hzc : C.size ≤ 1000000 := by have := HZC.out; omega
    have HAA := Lib.hid (fun w => match_is (matchB_self A) w hza hza)
    obtain ⟨ab, hab⟩ : ∃ v, matchB A B = v := ⟨_, rfl⟩
    obtain ⟨bc, hbc⟩ : ∃ v, matchB B C = v := ⟨_, rfl⟩
    have HAB := Lib.hid (fun w => match_is hab w hza hzb)
    have HBA := Lib.hid (fun w => match_is ((matchB_symm B A).trans hab) w hzb hza)
    have HBC := Lib.hid (fun w => match_is hbc w hzb hzc)
    obtain ⟨ac, hac⟩ : ∃ v, matchB A C = v := ⟨_, rfl⟩
    have HTR := Lib.hid (show ab = true → bc = true → ac = true from fun h1 h2 => by rw [← hac]; exact matchB_trans (hab.trans h1) (hbc.trans h2))
    have HAC := Lib.hid (fun w => match_is hac w hza hzc)
    clear hab hbc hac hza hzb hzc
    cases ab with
    | false =>
      go_wp2_with (first
        | (go_at_call 8; (with_reducible refine (awake_any _ (HT.out.below HZ.out)).mono ?_); rintro e w8 ⟨rfl, hb8⟩; have HZ := Lib.hid (below_next HZ.out hb8); clear hb8)
        | (go_at_call 15; (with_reducible refine (HAA.out _).mono ?_); rintro e w8 ⟨rfl, hb8⟩; have HZ := Lib.hid (below_next HZ.out hb8); clear hb8)
        | (go_at_call 15; (with_reducible refine (HAB.out _).mono ?_); rintro e w8 ⟨rfl, hb8⟩; have HZ := Lib.hid (below_next HZ.out hb8); clear hb8)
        | (go_at_call 15; (with_reducible refine (HBA.out _).mono ?_); rintro e w8 ⟨rfl, hb8⟩; have HZ := Lib.hid (below_next HZ.out hb8); clear hb8)
        | (go_at_call 15; (with_reducible refine (HBC.out _).mono ?_); rintro e w8 ⟨rfl, hb8⟩; have HZ := Lib.hid (below_next HZ.out hb8); clear hb8)
        | (go_at_call 15; (with_reducible refine (HAC.out _).mono ?_); rintro e w8 ⟨rfl, hb8⟩; have HZ := Lib.hid (below_next HZ.out hb8); clear hb8))
      go_ret
      exact ⟨rfl, HZ.out⟩
    | true =>
      cases bc with
      | false =>
        go_wp2_with (first
          | (go_at_call 8; (with_reducible refine (awake_any _ (HT.out.below HZ.out)).mono ?_); rintro e w8 ⟨rfl, hb8⟩; have HZ := Lib.hid (below_next HZ.out hb8); clear hb8)
          | (go_at_call 15; (with_reducible refine (HAA.out _).mono ?_); rintro e w8 ⟨rfl, hb8⟩; have HZ := Lib.hid (below_next HZ.out hb8); clear hb8)
          | (go_at_call 15; (with_reducible refine (HAB.out _).mono ?_); rintro e w8 ⟨rfl, hb8⟩; have HZ := Lib.hid (below_next HZ.out hb8); clear hb8)
          | (go_at_call 15; (with_reducible refine (HBA.out _).mono ?_); rintro e w8 ⟨rfl, hb8⟩; have HZ := Lib.hid (below_next HZ.out hb8); clear hb8)
          | (go_at_call 15; (with_reducible refine (HBC.out _).mono ?_); rintro e w8 ⟨rfl, hb8⟩; have HZ := Lib.hid (below_next HZ.out hb8); clear hb8)
          | (go_at_call 15; (with_reducible refine (HAC.out _).mono ?_); rintro e w8 ⟨rfl, hb8⟩; have HZ := Lib.hid (below_next HZ.out hb8); clear hb8))
        go_ret
        exact ⟨rfl, HZ.out⟩
      | true =>
        obtain rfl := HTR.out rfl rfl
        go_wp2_with (first
          | (go_at_call 8; (with_reducible refine (awake_any _ (HT.out.below HZ.out)).mono ?_); rintro e w8 ⟨rfl, hb8⟩; have HZ := Lib.hid (below_next HZ.out hb8); clear hb8)
          | (go_at_call 15; (with_reducible refine (HAA.out _).mono ?_); rintro e w8 ⟨rfl, hb8⟩; have HZ := Lib.hid (below_next HZ.out hb8); clear hb8)
          | (go_at_call 15; (with_reducible refine (HAB.out _).mono ?_); rintro e w8 ⟨rfl, hb8⟩; have HZ := Lib.hid (below_next HZ.out hb8); clear hb8)
          | (go_at_call 15; (with_reducible refine (HBA.out _).mono ?_); rintro e w8 ⟨rfl, hb8⟩; have HZ := Lib.hid (below_next HZ.out hb8); clear hb8)
          | (go_at_call 15; (with_reducible refine (HBC.out _).mono ?_); rintro e w8 ⟨rfl, hb8⟩; have HZ := Lib.hid (below_next HZ.out hb8); clear hb8)
          | (go_at_call 15; (with_reducible refine (HAC.out _).mono ?_); rintro e w8 ⟨rfl, hb8⟩; have HZ := Lib.hid (below_next HZ.out hb8); clear hb8))
        go_ret
        exact ⟨rfl, HZ.out⟩
end Go.Proofs.YtnagonihkfpefaaDoor
