/-
  The walk of the law OtsApart with near set.
-/
import Derived.Test.YtbmphhiafepnoaaCan
namespace Go.Proofs.Ytbmphhiafepnoaa
open Go.RowKit

set_option maxRecDepth 100000 in
set_option maxHeartbeats 6000000 in
theorem apart_near (LA LB : List UInt8) (hA : LA.length = 16) (hB : LB.length = 16) (at' c : Nat) (hc : c < 256) (hD : DigP) (w : World) :
    Calls Try.prog 4 #[.agg (LA.map bcell).toArray, .agg (LB.map bcell).toArray, .int .u8 (at' : Int), .int .u8 (c : Int), .bool true] w fun e w' => e = .returned (.bool true) ∧ Below w.heap.size w w' := by
  have HAW := Lib.hid (awakeq_any hD)
  have HD := Lib.hid hD
  obtain ⟨LE, hLE⟩ : ∃ LE, LE = LA.set (at' % 16) (UInt8.ofNat c) := ⟨_, rfl⟩
  have hE : LE.length = 16 := by rw [hLE, List.length_set, hA]
  have HLA := Lib.hid hA
  have HLE := Lib.hid hE
  have hcmp := arr_eq LA LE hA hE
  obtain ⟨A, hAe⟩ : ∃ A, A = (LA.map bcell).toArray := ⟨_, rfl⟩
  obtain ⟨B, hBe⟩ : ∃ B, B = (LB.map bcell).toArray := ⟨_, rfl⟩
  obtain ⟨E, hEe⟩ : ∃ E, E = (LE.map bcell).toArray := ⟨_, rfl⟩
  rw [← hAe, ← hEe] at hcmp
  rw [← hAe, ← hBe]
  have HSA : Hid ((Try.prog.info? 22).map (·.size) = some A.size) := Lib.hid (by rw [show A.size = 16 by rw [hAe]; simp [hA]]; kernel_rfl)
  have HSE : Hid ((Try.prog.info? 22).map (·.size) = some E.size) := Lib.hid (by rw [show E.size = 16 by rw [hEe]; simp [hE]]; kernel_rfl)
  have HAE := Lib.hid hAe
  have HEE := Lib.hid hEe
  have g0 : ((w.alloc (.cells A 22)).alloc (.cells B 22)).heap[w.heap.size]? = some (.cells A 22 (0, 0)) := keep_cells (heap_alloc_new w _) _
  have g1 : ((w.alloc (.cells A 22)).alloc (.cells B 22)).heap[w.heap.size + 1]? = some (.cells B 22 (0, 0)) := by
    have := heap_alloc_new (w.alloc (.cells A 22)) (.cells B 22)
    simpa using this
  have g2 := setRow_heap _ (w.heap.size + 1) B A _ _ g1
  have HW : Hid (Below w.heap.size w ((w.alloc (.cells A 22)).alloc (.cells B 22))) := Lib.hid ((belowNew w _).next (belowNew _ _))
  have HG0 := Lib.hid g0
  have HG1 := Lib.hid g1
  have hcell1 : (((w.alloc (.cells A 22)).alloc (.cells B 22)).setRow (w.heap.size + 1) A).cell? ⟨w.heap.size + 1, at' % 16, none⟩ = some (bcell (LA.getD (at' % 16) 0)) := by
    rw [cell_of_row _ _ _ _ _ _ g2, hAe]
    have : at' % 16 < LA.length := by omega
    simp [this]
  have hfrz1 : (((w.alloc (.cells A 22)).alloc (.cells B 22)).setRow (w.heap.size + 1) A).frozen? ⟨w.heap.size + 1, at' % 16, none⟩ = false := Lib.frozen_of_heap g2 (at' % 16)
  have eS : ((((w.alloc (.cells A 22)).alloc (.cells B 22)).setRow (w.heap.size + 1) A).setCell ⟨w.heap.size + 1, at' % 16, none⟩ (.int .u8 (c : Int))) = ((w.alloc (.cells A 22)).alloc (.cells B 22)).setRow (w.heap.size + 1) E := by
    rw [setCell_eq_setRow _ _ _ _ _ _ _ g2, setRow_setRow]
    congr 1
    rw [hEe, hAe, hLE]
    exact set_arr LA (at' % 16) c hc
  have HGA : Hid (((((w.alloc (.cells A 22)).alloc (.cells B 22)).setRow (w.heap.size + 1) A).setCell ⟨w.heap.size + 1, at' % 16, none⟩ (.int .u8 (c : Int))).heap[w.heap.size]? = some (.cells A 22 (0, 0))) := Lib.hid (by rw [eS, setRow_other _ _ _ _ (by omega)]; exact g0)
  have HGE : Hid (((((w.alloc (.cells A 22)).alloc (.cells B 22)).setRow (w.heap.size + 1) A).setCell ⟨w.heap.size + 1, at' % 16, none⟩ (.int .u8 (c : Int))).heap[w.heap.size + 1]? = some (.cells E 22 (0, 0))) := Lib.hid (by rw [eS]; exact setRow_heap _ _ _ _ _ _ g1)
  have HW : Hid (Below w.heap.size w ((((w.alloc (.cells A 22)).alloc (.cells B 22)).setRow (w.heap.size + 1) A).setCell ⟨w.heap.size + 1, at' % 16, none⟩ (.int .u8 (c : Int)))) := Lib.hid (by rw [eS]; exact below_row HW.out (w.heap.size + 1) (by omega) E)
  have HOC : Hid (A.all (·.oneCell') = true) := Lib.hid (by rw [hAe]; simp [bcell, Value.oneCell'])
  have HSZ : Hid (B.size = A.size) := Lib.hid (by rw [hAe, hBe]; simp [hA, hB])
  clear g0 g1 g2 eS hBe hB
  obtain ⟨U, hU⟩ : ∃ U, U = strOf LA := ⟨_, rfl⟩
  obtain ⟨V, hV⟩ : ∃ V, V = strOf LE := ⟨_, rfl⟩
  obtain ⟨D, hDe⟩ : ∃ D, D = digs LA := ⟨_, rfl⟩
  obtain ⟨F, hFe⟩ : ∃ F, F = digs LE := ⟨_, rfl⟩
  have HDL := Lib.hid (show D.length = 35 by rw [hDe, digs_len, hA])
  have HFL := Lib.hid (show F.length = 35 by rw [hFe, digs_len, hE])
  have HDN := Lib.hid (show D ≠ [] by intro h; have := HDL.out; rw [h] at this; cases this)
  have HFN := Lib.hid (show F ≠ [] by intro h; have := HFL.out; rw [h] at this; cases this)
  have HP1 : Hid (∀ W : World, Calls Try.prog 7 #[.string U] W fun e w' => (∃ v, e = .returned (.tuple #[v, .int .i64 0]) ∧ OwnI w' W.heap.size v D) ∧ Below W.heap.size W w') := Lib.hid fun W => by rw [hU, hDe]; exact HD.out _ W hA
  have HP2 : Hid (∀ W : World, Calls Try.prog 7 #[.string V] W fun e w' => (∃ v, e = .returned (.tuple #[v, .int .i64 0]) ∧ OwnI w' W.heap.size v F) ∧ Below W.heap.size W w') := Lib.hid fun W => by rw [hV, hFe]; exact HD.out _ W hE
  have HCA : Hid (CB ((((w.alloc (.cells A 22)).alloc (.cells B 22)).setRow (w.heap.size + 1) A).setCell ⟨w.heap.size + 1, at' % 16, none⟩ (.int .u8 (c : Int))) w.heap.size LA) := Lib.hid (CB.of (t := 22) (by rw [← hAe]; exact HGA.out))
  have HCB : Hid (CB ((((w.alloc (.cells A 22)).alloc (.cells B 22)).setRow (w.heap.size + 1) A).setCell ⟨w.heap.size + 1, at' % 16, none⟩ (.int .u8 (c : Int))) (w.heap.size + 1) LE) := Lib.hid (CB.of (t := 22) (by rw [← hEe]; exact HGE.out))
  have hcvA := HCA.out.text Try.underlying24 16 16 HLA.out.symm
  rw [← hU] at hcvA
  have HU := Lib.hid hU
  have HV := Lib.hid hV
  have HDE := Lib.hid hDe
  have HFE := Lib.hid hFe
  clear hAe hEe hA hE hD hU hV hDe hFe
  by_cases hab : LA = LE
  · have hdec : decide (LA = LE) = true := decide_eq_true hab
    rw [hdec] at hcmp
    clear hab hdec
    go_enter Try.func4, Try.ntmps4
    go_wp2_with (first | (refine wpList_load_row rfl 22 (.tmp 5) rfl w.heap.size rfl 22 A (0,0) _ HG0.out Try.underlying22 rfl HSA.out ?_) | (refine wpList_store_row rfl 22 _ _ rfl (w.heap.size + 1) A rfl rfl 22 B HG1.out HSA.out HSZ.out HOC.out ?_) | (refine wpList_load_row rfl 22 (.tmp 5) rfl w.heap.size rfl 22 A (0,0) _ HGA.out Try.underlying22 rfl HSA.out ?_) | (refine wpList_load_row rfl 22 (.tmp 6) rfl (w.heap.size + 1) rfl 22 E (0,0) _ HGE.out Try.underlying22 rfl HSE.out ?_) | (go_at_call 5; (with_reducible refine (HAW.out _).mono ?_); rintro e w9 ⟨rfl, hb9⟩; have HB9 := Lib.hid (HW.out.next hb9); clear hb9))
    go_ret
    exact ⟨rfl, HB9.out⟩
  · have hdec : decide (LA = LE) = false := decide_eq_false hab
    rw [hdec] at hcmp
    have HNE := Lib.hid hab
    clear hab hdec
    go_enter Try.func4, Try.ntmps4
    go_wp2_with (first | (go_at_call 7; (with_reducible refine (HP1.out _).mono ?_); rintro e w3 ⟨⟨v, rfl, ho3⟩, hb3⟩; obtain ⟨g3, c3, rfl, _, hI3, _⟩ := ho3.open HDN.out; rw [HDL.out]; have HI3 := Lib.hid hI3; have HB3 := Lib.hid (HW.out.next hb3); have hcvB := (HCB.out.below hb3).text Try.underlying24 16 16 HLE.out.symm; rw [← HV.out] at hcvB; clear hb3 ho3 hI3) | (go_at_call 7; (with_reducible refine (HP2.out _).mono ?_); rintro e w4 ⟨⟨v, rfl, ho4⟩, hb4⟩; obtain ⟨g4, c4, rfl, _, hI4, _⟩ := ho4.open HFN.out; rw [HFL.out]; have HI4 := Lib.hid hI4; have HI34 := Lib.hid (HI3.out.below hb4); have HB4 := Lib.hid (HB3.out.next hb4); clear hb4 ho4 hI4) | (refine wpList_load_row rfl 22 (.tmp 5) rfl w.heap.size rfl 22 A (0,0) _ HG0.out Try.underlying22 rfl HSA.out ?_) | (refine wpList_load_row rfl 22 (.tmp 5) rfl w.heap.size rfl 22 A (0,0) _ HGA.out Try.underlying22 rfl HSA.out ?_) | (refine wpList_load_row rfl 22 (.tmp 6) rfl (w.heap.size + 1) rfl 22 E (0,0) _ HGE.out Try.underlying22 rfl HSE.out ?_) | (refine wpList_store_row rfl 22 _ _ rfl (w.heap.size + 1) A rfl rfl 22 B HG1.out HSA.out HSZ.out HOC.out ?_))
    go_loopw [15, 16, 58] (fun l m i wr => ∃ k : Nat, k ≤ 35 ∧ i = .int .i64 (k : Int) ∧ l = .bool (lessQ D F k) ∧ m = .bool (lessQ F D k) ∧ ILie wr g3 D ∧ ILie wr g4 F ∧ Below w.heap.size w wr) (fun _ _ i _ => 35 - (intOf i).toNat)
    case atStart => exact ⟨0, by decide, rfl, rfl, rfl, HI34.out, HI4.out, HB4.out⟩
    case round =>
      obtain ⟨k, hk, rfl, rfl, rfl, hi3, hi4, hb⟩ := hrel
      have HK3 := Lib.hid hi3
      have HK4 := Lib.hid hi4
      have HB := Lib.hid hb
      by_cases hlt : k < 35
      · have hd : decide ((k : Int) < 35) = true := by simp; omega
        have hki : (k : Int) < 35 := by omega
        have hc3 := hi3.cell k (by rw [HDL.out]; exact hlt)
        have hc4 := hi4.cell k (by rw [HFL.out]; exact hlt)
        have H1 : Hid (lessQ D F (k + 1) = (lessQ D F k || decide ((D.getD k 0 : Int) < (F.getD k 0 : Int)))) := Lib.hid rfl
        have H2 : Hid (lessQ F D (k + 1) = (lessQ F D k || decide ((F.getD k 0 : Int) < (D.getD k 0 : Int)))) := Lib.hid rfl
        generalize lessQ D F k = l at H1 ⊢
        generalize lessQ F D k = m at H2 ⊢
        generalize D.getD k 0 = x at hc3 H1 H2
        generalize F.getD k 0 = y at hc4 H1 H2
        obtain ⟨p, hp⟩ : ∃ p, decide ((x : Int) < (y : Int)) = p := ⟨_, rfl⟩
        obtain ⟨q, hq⟩ : ∃ q, decide ((y : Int) < (x : Int)) = q := ⟨_, rfl⟩
        rw [hp] at H1
        rw [hq] at H2
        have hc3d : wr.drew.cell? ⟨g3, k, none⟩ = some (.int .i64 ((x : Nat) : Int)) := hc3
        have hc4d : wr.drew.cell? ⟨g4, k, none⟩ = some (.int .i64 ((y : Nat) : Int)) := hc4
        clear hi3 hi4 hb
        cases l <;> cases m <;>
        ( go_wp2_with fail
          go_region
          go_wp2_with fail
          go_roundw
          case rel => exact ⟨k + 1, by omega, by go_num, by rw [H1.out]; simp [← hp], by rw [H2.out]; simp [← hq], HK3.out, HK4.out, HB.out.drew⟩
          case measure => simp [intOf]; omega )
      · have hk35 : k = 35 := by omega
        subst hk35
        have hd : decide ((35 : Int) < 35) = false := by decide
        have e1 : lessQ D F 35 = true := by
          obtain ⟨i, hi, hl⟩ := digs_apart (a := LA) (b := LE) (by rw [HLA.out, HLE.out]) HNE.out
          rw [← HDE.out] at hi hl
          rw [← HFE.out] at hl
          exact lessQ_true (by have := HDL.out; omega) hl
        have e2 : lessQ F D 35 = true := by
          obtain ⟨i, hi, hl⟩ := digs_apart (a := LE) (b := LA) (by rw [HLA.out, HLE.out]) (fun h => HNE.out h.symm)
          rw [← HFE.out] at hi hl
          rw [← HDE.out] at hl
          exact lessQ_true (by have := HFL.out; omega) hl
        rw [e1, e2]
        clear hi3 hi4 hb
        go_wp2_with (first | (go_at_call 5; (with_reducible refine (HAW.out _).mono ?_); rintro e w9 ⟨rfl, hb9⟩; have HB9 := Lib.hid (HB.out.next hb9); clear hb9))
        go_ret
        exact ⟨rfl, HB9.out⟩
end Go.Proofs.Ytbmphhiafepnoaa
