/-
  The walk of the law MerkleRaw, over what is wanted of the program.
  The walk of the law MerkleRaw at its fit, over what is wanted of the program.
-/
import Derived.Test.YtnmcocolahgfnaaDoorAah
import Derived.Deep.RegionHeld3
namespace Go.Proofs.YtnmcocolahgfnaaDoor
open Go.RowKit

set_option maxRecDepth 100000 in
set_option maxHeartbeats 2000000 in
theorem raw_out {TA : TreeP} (hT : Trees TA) (hV : VerPm) (h : Int) (id root m s : ByteArray) (fit : Bool) (hbig : 60 < id.size ∨ 60 < root.size ∨ 200 < m.size ∨ 700 < s.size) (w : World) (hK : Holds w 0 kWords) :
    Calls Tryd.prog 7 #[.agg #[.int .i64 h, .string id, .string root], .string m, .string s, .bool fit] w fun e w' => e = .returned (.bool true) ∧ Below w.heap.size w w' := by
  have HAW := Lib.hid (fun W hk => awakem_any hT hV W hk)
  have HK := Lib.hid (hK.old (belowNew w (.cells #[.int .i64 h, .string id, .string root] 29)))
  clear hT hV hK
  by_cases h0 : 60 < id.size
  · have d0 : decide ((60 : Int) < (id.size : Int)) = true := by simp; omega
    clear hbig
    go_enter Tryd.func7, Tryd.ntmps7
    go_wp2_with (go_at_call 11; (with_reducible refine (HAW.out _ HK.out).mono ?_); rintro e w1 ⟨rfl, hb1⟩; have HB1 := Lib.hid ((belowNew w _).next hb1); clear hb1)
    go_ret
    exact ⟨rfl, HB1.out⟩
  have d0 : decide ((60 : Int) < (id.size : Int)) = false := by simp; omega
  by_cases h1 : 60 < root.size
  · have d1 : decide ((60 : Int) < (root.size : Int)) = true := by simp; omega
    clear hbig
    go_enter Tryd.func7, Tryd.ntmps7
    go_wp2_with (go_at_call 11; (with_reducible refine (HAW.out _ HK.out).mono ?_); rintro e w1 ⟨rfl, hb1⟩; have HB1 := Lib.hid ((belowNew w _).next hb1); clear hb1)
    go_ret
    exact ⟨rfl, HB1.out⟩
  have d1 : decide ((60 : Int) < (root.size : Int)) = false := by simp; omega
  by_cases h2 : 200 < m.size
  · have d2 : decide ((200 : Int) < (m.size : Int)) = true := by simp; omega
    clear hbig
    go_enter Tryd.func7, Tryd.ntmps7
    go_wp2_with (go_at_call 11; (with_reducible refine (HAW.out _ HK.out).mono ?_); rintro e w1 ⟨rfl, hb1⟩; have HB1 := Lib.hid ((belowNew w _).next hb1); clear hb1)
    go_ret
    exact ⟨rfl, HB1.out⟩
  have d2 : decide ((200 : Int) < (m.size : Int)) = false := by simp; omega
  by_cases h3 : 700 < s.size
  · have d3 : decide ((700 : Int) < (s.size : Int)) = true := by simp; omega
    clear hbig
    go_enter Tryd.func7, Tryd.ntmps7
    go_wp2_with (go_at_call 11; (with_reducible refine (HAW.out _ HK.out).mono ?_); rintro e w1 ⟨rfl, hb1⟩; have HB1 := Lib.hid ((belowNew w _).next hb1); clear hb1)
    go_ret
    exact ⟨rfl, HB1.out⟩
  have d3 : decide ((700 : Int) < (s.size : Int)) = false := by simp; omega
  exfalso; omega
set_option maxRecDepth 100000 in
set_option maxHeartbeats 2000000 in
theorem raw_in {TA : TreeP} (hT : Trees TA) (hV : VerPm) (hC : CheckPm) (hL : LeafPm) (h : Int) (id root m s : ByteArray) (h1 : id.size ≤ 60) (h2 : root.size ≤ 60) (h3 : m.size ≤ 200) (h4 : s.size ≤ 700) (w : World) (hK : Holds w 0 kWords) :
    Calls Tryd.prog 7 #[.agg #[.int .i64 h, .string id, .string root], .string m, .string s, .bool false] w fun e w' => e = .returned (.bool true) ∧ Below w.heap.size w w' := by
  obtain ⟨lf, ok, hlv⟩ := leafV_some s
  have HLE : Hid (∀ W : World, Calls Tryd.prog 21 #[.string s] W fun e w' => e = .returned (.tuple #[.int .i64 (lf : Int), .bool ok]) ∧ Below W.heap.size W w') := Lib.hid fun W => by
    have := hL s W
    rw [hlv] at this
    exact this
  have HRL : Hid (∀ W : World, Calls Tryd.prog 27 #[.string s] W fun e w' => e = .returned (.tuple #[.int .i64 (lf : Int), .bool ok]) ∧ Below W.heap.size W w') := Lib.hid fun W => by
    have := rleaf_any s W
    rw [hlv] at this
    exact this
  obtain ⟨ke, hke⟩ : ∃ ke, ke = keyE h id root := ⟨_, rfl⟩
  obtain ⟨ve, hve⟩ : ∃ ve, ve = verE h id root m s := ⟨_, rfl⟩
  have HCK : Hid (∀ W : World, Calls Tryd.prog 18 #[.agg #[.int .i64 h, .string id, .string root]] W fun e w' => e = .returned (.int .i64 (ke : Int)) ∧ Below W.heap.size W w') := Lib.hid fun W => by rw [hke]; exact hC h id root W
  have HRC : Hid (∀ W : World, Calls Tryd.prog 19 #[.agg #[.int .i64 h, .string id, .string root]] W fun e w' => e = .returned (.int .i64 (ke : Int)) ∧ Below W.heap.size W w') := Lib.hid fun W => by rw [hke]; exact rckey_any h id root W
  have HVE : Hid (∀ W : World, Holds W 0 kWords → Calls Tryd.prog 25 #[.agg #[.int .i64 h, .string id, .string root], .string m, .string s] W fun e w' => e = .returned (.int .i64 (ve : Int)) ∧ Below W.heap.size W w') := Lib.hid fun W k => by rw [hve]; exact hV h id root m s W (by omega) (by omega) k
  have HRV : Hid (∀ W : World, Calls Tryd.prog 26 #[.agg #[.int .i64 h, .string id, .string root], .string m, .string s] W fun e w' => e = .returned (.int .i64 (ve : Int)) ∧ Below W.heap.size W w') := Lib.hid fun W => by rw [hve]; exact rver_any h id root m s (by omega) (by omega) W
  have HAW := Lib.hid (fun W hk => awakem_any hT hV W hk)
  have d1 : decide ((60 : Int) < (id.size : Int)) = false := by simp; omega
  have d2 : decide ((60 : Int) < (root.size : Int)) = false := by simp; omega
  have d3 : decide ((200 : Int) < (m.size : Int)) = false := by simp; omega
  have d4 : decide ((700 : Int) < (s.size : Int)) = false := by simp; omega
  obtain ⟨g, hg⟩ : ∃ g, g = w.heap.size := ⟨_, rfl⟩
  obtain ⟨WB, hWB⟩ : ∃ WB, WB = w.alloc (.cells #[.int .i64 h, .string id, .string root] 29) := ⟨_, rfl⟩
  have HQB : Hid (WB.heap[g]? = some (.cells #[.int .i64 h, .string id, .string root] 29 (0, 0))) := Lib.hid (by rw [hWB, hg]; exact heap_alloc_new w _)
  have HBB : Hid (Below w.heap.size w WB) := Lib.hid (by rw [hWB]; exact belowNew w _)
  have HKB := Lib.hid (hK.old HBB.out)
  have HWB := Lib.hid hWB.symm
  have HG := Lib.hid hg
  clear hT hV hC hL hK hlv hke hve h1 h2 h3 h4 hg hWB
  go_enter Tryd.func7, Tryd.ntmps7
  go_wp2_with (first
    | (go_at_call 21; rw [HWB.out]; (with_reducible refine (HLE.out _).mono ?_); rintro e w1 ⟨rfl, hb1⟩; have HB1 := Lib.hid hb1; clear hb1)
    | (go_at_call 27; (with_reducible refine (HRL.out _).mono ?_); rintro e w2 ⟨rfl, hb2⟩; have HB2 := Lib.hid (HB1.out.next hb2); clear hb2))
  rw [← HG.out]
  obtain ⟨k0, k1, k2, hgl⟩ := tcell HQB.out
  obtain ⟨j0, j1, j2, _⟩ := tcell ((HB2.out.block g hgl).trans HQB.out)
  have HGL := Lib.hid hgl
  clear hgl d1 d2 d3 d4
  go_region_held3 (fun w' => w'.cell? ⟨g, 0, none⟩ = some (.int .i64 h) ∧ w'.cell? ⟨g, 1, none⟩ = some (.string id) ∧ w'.cell? ⟨g, 2, none⟩ = some (.string root)) (first | with_reducible exact ⟨by assumption, by assumption, by assumption⟩ | go_keep)
    (first
      | (go_at_call 11; (with_reducible refine (HAW.out _ (by first | exact HKB.out.old HB2.out | exact (HKB.out.old HB2.out).old (Below.refl _ _).drew)).mono ?_); rintro e w3 ⟨rfl, hb3⟩; have hx : Below WB.heap.size WB w3 := (by first | exact HB2.out.next hb3 | exact HB2.out.drew.next hb3); have s0 := (hx.cell (p := ⟨g, 0, none⟩) HGL.out).trans k0; have s1 := (hx.cell (p := ⟨g, 1, none⟩) HGL.out).trans k1; have s2 := (hx.cell (p := ⟨g, 2, none⟩) HGL.out).trans k2; have HB3 := Lib.hid hx; clear hb3 hx)
      | (go_at_call 18; (with_reducible refine (HCK.out _).mono ?_); rintro e w4 ⟨rfl, hb4⟩; have hx : Below WB.heap.size WB w4 := HB3.out.next hb4; have s3 := (hx.cell (p := ⟨g, 0, none⟩) HGL.out).trans k0; have s4 := (hx.cell (p := ⟨g, 1, none⟩) HGL.out).trans k1; have s5 := (hx.cell (p := ⟨g, 2, none⟩) HGL.out).trans k2; have HB4 := Lib.hid hx; clear hb4 hx)
      | (go_at_call 19; (with_reducible refine (HRC.out _).mono ?_); rintro e w5 ⟨rfl, hb5⟩; have hx : Below WB.heap.size WB w5 := HB4.out.next hb5; have s6 := (hx.cell (p := ⟨g, 0, none⟩) HGL.out).trans k0; have s7 := (hx.cell (p := ⟨g, 1, none⟩) HGL.out).trans k1; have s8 := (hx.cell (p := ⟨g, 2, none⟩) HGL.out).trans k2; have HB5 := Lib.hid hx; clear hb5 hx)
      | (go_at_call 25; (with_reducible refine (HVE.out _ (HKB.out.old HB5.out)).mono ?_); rintro e w6 ⟨rfl, hb6⟩; have hx : Below WB.heap.size WB w6 := HB5.out.next hb6; have s9 := (hx.cell (p := ⟨g, 0, none⟩) HGL.out).trans k0; have s10 := (hx.cell (p := ⟨g, 1, none⟩) HGL.out).trans k1; have s11 := (hx.cell (p := ⟨g, 2, none⟩) HGL.out).trans k2; have HB6 := Lib.hid hx; clear hb6 hx)
      | (go_at_call 26; (with_reducible refine (HRV.out _).mono ?_); rintro e w7 ⟨rfl, hb7⟩; have hx : Below WB.heap.size WB w7 := HB6.out.next hb7; have s12 := (hx.cell (p := ⟨g, 0, none⟩) HGL.out).trans k0; have s13 := (hx.cell (p := ⟨g, 1, none⟩) HGL.out).trans k1; have s14 := (hx.cell (p := ⟨g, 2, none⟩) HGL.out).trans k2; have HB7 := Lib.hid hx; clear hb7 hx))
  all_goals
    go_wp2_with fail
    go_ret
    exact ⟨rfl, HBB.out.next HB7.out⟩
end Go.Proofs.YtnmcocolahgfnaaDoor
namespace Go.Proofs.YtnmcocolahgfnaaDoor
open Go.RowKit

set_option maxRecDepth 100000 in
set_option maxHeartbeats 2000000 in
theorem raw_fit {TA : TreeP} (hT : Trees TA) (hV : VerPm) (hC : CheckPm) (hL : LeafPm) (h : Int) (id root m s : ByteArray) (h1 : id.size ≤ 60) (h2 : root.size ≤ 60) (h3 : m.size ≤ 200) (h4 : s.size ≤ 700) (w : World) (hK : Holds w 0 kWords) :
    Calls Tryd.prog 7 #[.agg #[.int .i64 h, .string id, .string root], .string m, .string s, .bool true] w fun e w' => e = .returned (.bool true) ∧ Below w.heap.size w w' := by
  obtain ⟨i0, hi, hz0, hz1, hz2⟩ := info_parts (show (Tryd.prog.info? 5).map (fun i => (i.zero, i.size, i.bytes)) = some (some (.int .u8 0), 1, 1) by kernel_rfl)
  obtain ⟨Y, hY⟩ : ∃ Y, Y = strOf (List.replicate 560 0) := ⟨_, rfl⟩
  have hYs : Y.size = 560 := by rw [hY]; show (List.replicate 560 (0 : UInt8)).toArray.size = 560; rw [List.size_toArray, List.length_replicate]
  obtain ⟨Z, hZ⟩ : ∃ Z : ByteArray, Z = ⟨#[0, 0, 0, 0]⟩ ++ Y := ⟨_, rfl⟩
  have hZs : Z.size = 564 := by rw [hZ, ByteArray.size_append, hYs]; rfl
  obtain ⟨S1, hS1⟩ : ∃ S1, S1 = seedS 1 := ⟨_, rfl⟩
  obtain ⟨S2, hS2⟩ : ∃ S2, S2 = seedS 2 := ⟨_, rfl⟩
  have hS1i : (S1.size : Int) = 32 := by rw [hS1, seedS_size]; rfl
  have hS2i : (S2.size : Int) = 32 := by rw [hS2, seedS_size]; rfl
  obtain ⟨A, hA⟩ : ∃ A, A = S1.extract 0 16 := ⟨_, rfl⟩
  obtain ⟨B, hB⟩ : ∃ B, B = S2.extract 0 16 := ⟨_, rfl⟩
  have hAe : S1.extract 0 16 = A := hA.symm
  have hBe : S2.extract 0 16 = B := hB.symm
  have HD1 : Hid (∀ W : World, Calls Tryd.prog 10 #[.int .i64 1] W fun e w' => e = .returned (.string S1) ∧ Below W.heap.size W w') := Lib.hid fun W => by rw [hS1]; exact seedq_any 1 (by omega) W
  have HD2 : Hid (∀ W : World, Calls Tryd.prog 10 #[.int .i64 2] W fun e w' => e = .returned (.string S2) ∧ Below W.heap.size W w') := Lib.hid fun W => by rw [hS2]; exact seedq_any 2 (by omega) W
  obtain ⟨lf, ok, hlv⟩ := leafV_some Z
  have HLE : Hid (∀ W : World, Calls Tryd.prog 21 #[.string Z] W fun e w' => e = .returned (.tuple #[.int .i64 (lf : Int), .bool ok]) ∧ Below W.heap.size W w') := Lib.hid fun W => by
    have := hL Z W
    rw [hlv] at this
    exact this
  have HRL : Hid (∀ W : World, Calls Tryd.prog 27 #[.string Z] W fun e w' => e = .returned (.tuple #[.int .i64 (lf : Int), .bool ok]) ∧ Below W.heap.size W w') := Lib.hid fun W => by
    have := rleaf_any Z W
    rw [hlv] at this
    exact this
  obtain ⟨ke, hke⟩ : ∃ ke, ke = keyE 0 A B := ⟨_, rfl⟩
  obtain ⟨ve, hve⟩ : ∃ ve, ve = verE 0 A B m Z := ⟨_, rfl⟩
  have HCK : Hid (∀ W : World, Calls Tryd.prog 18 #[.agg #[.int .i64 0, .string A, .string B]] W fun e w' => e = .returned (.int .i64 (ke : Int)) ∧ Below W.heap.size W w') := Lib.hid fun W => by rw [hke]; exact hC 0 A B W
  have HRC : Hid (∀ W : World, Calls Tryd.prog 19 #[.agg #[.int .i64 0, .string A, .string B]] W fun e w' => e = .returned (.int .i64 (ke : Int)) ∧ Below W.heap.size W w') := Lib.hid fun W => by rw [hke]; exact rckey_any 0 A B W
  have HVE : Hid (∀ W : World, Holds W 0 kWords → Calls Tryd.prog 25 #[.agg #[.int .i64 0, .string A, .string B], .string m, .string Z] W fun e w' => e = .returned (.int .i64 (ve : Int)) ∧ Below W.heap.size W w') := Lib.hid fun W k => by rw [hve]; exact hV 0 A B m Z W (by omega) (by omega) k
  have HRV : Hid (∀ W : World, Calls Tryd.prog 26 #[.agg #[.int .i64 0, .string A, .string B], .string m, .string Z] W fun e w' => e = .returned (.int .i64 (ve : Int)) ∧ Below W.heap.size W w') := Lib.hid fun W => by rw [hve]; exact rver_any 0 A B m Z (by omega) (by omega) W
  have HAW := Lib.hid (fun W hk => awakem_any hT hV W hk)
  have d1 : decide ((60 : Int) < (id.size : Int)) = false := by simp; omega
  have d2 : decide ((60 : Int) < (root.size : Int)) = false := by simp; omega
  have d3 : decide ((200 : Int) < (m.size : Int)) = false := by simp; omega
  have d4 : decide ((700 : Int) < (s.size : Int)) = false := by simp; omega
  obtain ⟨g, hg⟩ : ∃ g, g = w.heap.size := ⟨_, rfl⟩
  obtain ⟨W0, hW0⟩ : ∃ W0, W0 = w.alloc (.cells #[.int .i64 h, .string id, .string root] 29) := ⟨_, rfl⟩
  have HQ0 : Hid (W0.heap[g]? = some (.cells #[.int .i64 h, .string id, .string root] 29 (0, 0))) := Lib.hid (by rw [hW0, hg]; exact heap_alloc_new w _)
  have HB0 : Hid (Below w.heap.size w W0) := Lib.hid (by rw [hW0]; exact belowNew w _)
  have HK := Lib.hid hK
  have HG := Lib.hid hg
  have HYY := Lib.hid hY
  have HZZ := Lib.hid hZ
  clear hT hV hC hL hK hlv hke hve h1 h2 h3 h4 hS1 hS2 hA hB hY hZ
  go_enter Tryd.func7, Tryd.ntmps7
  go_wp2_with fail
  rw [← hW0, ← hg]
  obtain ⟨k0, k1, k2, hgl⟩ := tcell HQ0.out
  have HGL0 := Lib.hid hgl
  have HD0 := Lib.hid (Below.refl W0.heap.size W0).drew
  clear hW0 hg hgl d1 d2 d3 d4 k0 k1 k2
  go_region_law (first
    | (go_simp; go_at_call 10; (with_reducible refine (HD1.out _).mono ?_); rintro e w1 ⟨rfl, hb1⟩; have HX1 := Lib.hid (HD0.out.next hb1); clear hb1)
    | (go_simp; go_at_call 10; (with_reducible refine (HD2.out _).mono ?_); rintro e w2 ⟨rfl, hb2⟩; have HX2 := Lib.hid (HX1.out.next hb2); have hq2 := (HX2.out.block g HGL0.out).trans HQ0.out; obtain ⟨c0, c1, c2, hg2⟩ := tcell hq2; have f0 := Lib.frozen_of_heap hq2 0; have f1 := Lib.frozen_of_heap hq2 1; have f2 := Lib.frozen_of_heap hq2 2; have HQ2 := Lib.hid hq2; clear hb2 hq2))
  obtain ⟨WB, hWB⟩ : ∃ WB, WB = ((w2.setCell ⟨g, 0, none⟩ (.int .i64 0)).setCell ⟨g, 1, none⟩ (.string A)).setCell ⟨g, 2, none⟩ (.string B) := ⟨_, rfl⟩
  have HQB : Hid (WB.heap[g]? = some (.cells #[.int .i64 0, .string A, .string B] 29 (0, 0))) := Lib.hid (by rw [hWB]; exact tset3 HQ2.out)
  have HBB : Hid (Below w.heap.size w WB) := Lib.hid (by
    rw [hWB]
    have hgw : w.heap.size ≤ g := by rw [HG.out]; exact Nat.le_refl _
    exact (((HB0.out.next HX2.out).setCell (p := ⟨g, 0, none⟩) hgw _).setCell (p := ⟨g, 1, none⟩) hgw _).setCell (p := ⟨g, 2, none⟩) hgw _)
  have HKB := Lib.hid (HK.out.old HBB.out)
  rw [← hWB]
  clear hWB c0 c1 c2 hg2 f0 f1 f2 hS1i hS2i hAe hBe
  go_wp2_with (first
    | (at_make; refine wpList_make_full _ rfl _ _ 60 rfl WB.heap.size 5 i0 (.int .u8 0) 1 Tryd.underlying60 hi hz0 hz1 .i64 .i64 560 560 560 rfl rfl (by omega) (by omega) (by rw [hz2]; omega) (by unfold maxLen; omega) (Nat.le_refl _) ?_; intro w4 hown4 hgr4; have ho4 : OwnB 5 w4 WB.heap.size _ (List.replicate 560 0) := (tail_made 551 hown4); have hcv := own_str ho4; rw [← HYY.out] at hcv; have HB0' := Lib.hid ((Below.refl WB.heap.size WB).grown hgr4 (Nat.le_refl _) (fun _ e => by cases e)); clear ho4 hown4 hgr4)
    | (rw [← HZZ.out]; go_at_call 21; (with_reducible refine (HLE.out _).mono ?_); rintro e w5 ⟨rfl, hb1⟩; have HB1 := Lib.hid (HB0'.out.next hb1); clear hb1)
    | (go_at_call 27; (with_reducible refine (HRL.out _).mono ?_); rintro e w2 ⟨rfl, hb2⟩; have HB2 := Lib.hid (HB1.out.next hb2); clear hb2))
  obtain ⟨k0, k1, k2, hgl⟩ := tcell HQB.out
  obtain ⟨j0, j1, j2, _⟩ := tcell ((HB2.out.block g hgl).trans HQB.out)
  have HGL := Lib.hid hgl
  clear hgl
  go_region_held3 (fun w' => w'.cell? ⟨g, 0, none⟩ = some (.int .i64 0) ∧ w'.cell? ⟨g, 1, none⟩ = some (.string A) ∧ w'.cell? ⟨g, 2, none⟩ = some (.string B)) (first | with_reducible exact ⟨by assumption, by assumption, by assumption⟩ | go_keep)
    (first
      | (go_at_call 11; (with_reducible refine (HAW.out _ (by first | exact HKB.out.old HB2.out | exact (HKB.out.old HB2.out).old (Below.refl _ _).drew)).mono ?_); rintro e w3 ⟨rfl, hb3⟩; have hx : Below WB.heap.size WB w3 := (by first | exact HB2.out.next hb3 | exact HB2.out.drew.next hb3); have s0 := (hx.cell (p := ⟨g, 0, none⟩) HGL.out).trans k0; have s1 := (hx.cell (p := ⟨g, 1, none⟩) HGL.out).trans k1; have s2 := (hx.cell (p := ⟨g, 2, none⟩) HGL.out).trans k2; have HB3 := Lib.hid hx; clear hb3 hx)
      | (go_at_call 18; (with_reducible refine (HCK.out _).mono ?_); rintro e w4 ⟨rfl, hb4⟩; have hx : Below WB.heap.size WB w4 := HB3.out.next hb4; have s3 := (hx.cell (p := ⟨g, 0, none⟩) HGL.out).trans k0; have s4 := (hx.cell (p := ⟨g, 1, none⟩) HGL.out).trans k1; have s5 := (hx.cell (p := ⟨g, 2, none⟩) HGL.out).trans k2; have HB4 := Lib.hid hx; clear hb4 hx)
      | (go_at_call 19; (with_reducible refine (HRC.out _).mono ?_); rintro e w5 ⟨rfl, hb5⟩; have hx : Below WB.heap.size WB w5 := HB4.out.next hb5; have s6 := (hx.cell (p := ⟨g, 0, none⟩) HGL.out).trans k0; have s7 := (hx.cell (p := ⟨g, 1, none⟩) HGL.out).trans k1; have s8 := (hx.cell (p := ⟨g, 2, none⟩) HGL.out).trans k2; have HB5 := Lib.hid hx; clear hb5 hx)
      | (go_at_call 25; (with_reducible refine (HVE.out _ (HKB.out.old HB5.out)).mono ?_); rintro e w6 ⟨rfl, hb6⟩; have hx : Below WB.heap.size WB w6 := HB5.out.next hb6; have s9 := (hx.cell (p := ⟨g, 0, none⟩) HGL.out).trans k0; have s10 := (hx.cell (p := ⟨g, 1, none⟩) HGL.out).trans k1; have s11 := (hx.cell (p := ⟨g, 2, none⟩) HGL.out).trans k2; have HB6 := Lib.hid hx; clear hb6 hx)
      | (go_at_call 26; (with_reducible refine (HRV.out _).mono ?_); rintro e w7 ⟨rfl, hb7⟩; have hx : Below WB.heap.size WB w7 := HB6.out.next hb7; have s12 := (hx.cell (p := ⟨g, 0, none⟩) HGL.out).trans k0; have s13 := (hx.cell (p := ⟨g, 1, none⟩) HGL.out).trans k1; have s14 := (hx.cell (p := ⟨g, 2, none⟩) HGL.out).trans k2; have HB7 := Lib.hid hx; clear hb7 hx))
  all_goals
    go_wp2_with fail
    go_ret
    exact ⟨rfl, HBB.out.next HB7.out⟩
theorem rawlaw {TA : TreeP} (hT : Trees TA) (hV : VerPm) (hC : CheckPm) (hL : LeafPm) (h : Int) (id root m s : ByteArray) (fit : Bool) (w : World) (hK : Holds w 0 kWords) :
    Calls Tryd.prog 7 #[.agg #[.int .i64 h, .string id, .string root], .string m, .string s, .bool fit] w fun e w' => e = .returned (.bool true) ∧ Below w.heap.size w w' := by
  by_cases hb : 60 < id.size ∨ 60 < root.size ∨ 200 < m.size ∨ 700 < s.size
  · exact raw_out hT hV h id root m s fit hb w hK
  · cases fit with
    | true => exact raw_fit hT hV hC hL h id root m s (by omega) (by omega) (by omega) (by omega) w hK
    | false => exact raw_in hT hV hC hL h id root m s (by omega) (by omega) (by omega) (by omega) w hK
end Go.Proofs.YtnmcocolahgfnaaDoor
