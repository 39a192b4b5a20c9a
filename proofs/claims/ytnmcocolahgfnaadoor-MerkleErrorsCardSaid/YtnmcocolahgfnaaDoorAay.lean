/-
  The walk of the law MerkleErrors, over what is wanted of the program.
  The law MerkleErrors for every input, over what is wanted of the program.
  What is wanted of the program where there is no tree.
-/
import Derived.Test.YtnmcocolahgfnaaDoorAal
import Derived.Test.YtnmcocolahgfnaaDoorAag
import Derived.Deep.RegionHeld3
import Derived.Test.YtnmcocolahgfnaaDoorAan
namespace Go.Proofs.YtnmcocolahgfnaaDoor
open Go.RowKit

set_option maxRecDepth 100000 in
set_option maxHeartbeats 1000000 in
theorem rgen_badz (seed : ByteArray) (h : Int) (hn : genE seed h ≠ 0) (w : World) :
    Calls Tryd.prog 16 #[.string seed, .int .i64 h] w fun e w' => e = .returned (.tuple #[.agg #[.string ⟨#[]⟩, .string ⟨#[]⟩, .slice none 0 0], .int .i64 ((genE seed h : Nat) : Int)]) ∧ Below w.heap.size w w' := by
  obtain ⟨n, hnn⟩ : ∃ n, n = seed.size := ⟨_, rfl⟩
  have hni : (seed.size : Int) = (n : Int) := by rw [hnn]
  have hQ : genE seed h = if n = 32 then (if 0 ≤ h ∧ h ≤ 8 then 0 else 1) else 18 := by unfold genE; rw [hnn]
  rw [hQ] at hn ⊢
  clear hnn hQ
  rcases Nat.decEq n 32 with h1 | h1
  · have d1 : ((n : Int) == 32) = false := by simp; omega
    rw [if_neg h1]
    clear hn
    go_enter Tryd.func16, Tryd.ntmps16
    go_wp2_with fail
    exact bodyPost_ret (results_cell_row2 rfl _ _ w.heap.size 34 _ (0, 0) _ rfl (heap_alloc_new w _) Tryd.underlying34 rfl treeSize) rfl ⟨rfl, belowNew w _⟩
  · subst h1
    rw [if_pos rfl] at hn ⊢
    by_cases h2 : h < 0
    · have d2 : decide (h < 0) = true := by simp; omega
      rw [if_neg (by omega)]
      clear hn
      go_enter Tryd.func16, Tryd.ntmps16
      go_wp2_with fail
      exact bodyPost_ret (results_cell_row2 rfl _ _ w.heap.size 34 _ (0, 0) _ rfl (heap_alloc_new w _) Tryd.underlying34 rfl treeSize) rfl ⟨rfl, belowNew w _⟩
    · have d2 : decide (h < 0) = false := by simp; omega
      have h3 : 8 < h := by
        by_cases h3 : h ≤ 8
        · exact absurd (if_pos ⟨by omega, h3⟩) hn
        · omega
      have d3 : decide (8 < h) = true := by simp; omega
      rw [if_neg (by omega)]
      clear hn
      go_enter Tryd.func16, Tryd.ntmps16
      go_wp2_with fail
      exact bodyPost_ret (results_cell_row2 rfl _ _ w.heap.size 34 _ (0, 0) _ rfl (heap_alloc_new w _) Tryd.underlying34 rfl treeSize) rfl ⟨rfl, belowNew w _⟩

set_option maxRecDepth 100000 in
set_option maxHeartbeats 40000000 in
theorem errs_m {TA : TreeP} (hT : Trees TA) (hV : VerPm) (hC : CheckPm) (hZ : NoTrees) (seed m id root : ByteArray) (h leaf kh : Int) (w : World) (hK : Holds w 0 kWords)
    (hs : seed.size ≤ 60) (hm : m.size ≤ 200) (hi : id.size ≤ 60) (hr : root.size ≤ 60) :
    Calls Tryd.prog 4 #[.string seed, .int .i64 h, .int .i64 leaf, .string m, keyV kh id root] w fun e w' => e = .returned (.bool true) ∧ Below w.heap.size w w' := by
  have z1 : decide ((60 : Int) < (seed.size : Int)) = false := by simp; omega
  have z2 : decide ((200 : Int) < (m.size : Int)) = false := by simp; omega
  have z3 : decide ((60 : Int) < (id.size : Int)) = false := by simp; omega
  have z4 : decide ((60 : Int) < (root.size : Int)) = false := by simp; omega
  obtain ⟨S, hS⟩ : ∃ S, S = seedS 3 := ⟨_, rfl⟩
  have hSs : S.size = 32 := by rw [hS]; exact seedS_size 3
  have HSD : Hid (∀ W : World, Calls Tryd.prog 10 #[.int .i64 3] W fun e w' => e = .returned (.string S) ∧ Below W.heap.size W w') := Lib.hid fun W => by rw [hS]; exact seedq_any 3 (by omega) W
  have HGN : Hid (∀ W : World, Holds W 0 kWords → Calls Tryd.prog 9 #[.string S, .int .i64 1] W fun e w' => (∃ p, e = .returned (.tuple #[.pointer (some ⟨p, 0, none⟩), .int .i64 0]) ∧ TA w' p S 1) ∧ Below W.heap.size W w') := Lib.hid fun W h => hT.gen S 1 W hSs (by omega) h
  have HAW := Lib.hid (fun W hk => awakem_any hT hV W hk)
  have HZS := Lib.hid (fun v W hv => hZ.sign v leaf m W hv)
  have HZL := Lib.hid (fun v W hv => hZ.leaves v W hv)
  have HZK := Lib.hid (fun v W hv => hZ.key v W hv)
  obtain ⟨ke, hke⟩ : ∃ ke, ke = keyE kh id root := ⟨_, rfl⟩
  have HCK : Hid (∀ W : World, Calls Tryd.prog 18 #[.agg #[.int .i64 kh, .string id, .string root]] W fun e w' => e = .returned (.int .i64 (ke : Int)) ∧ Below W.heap.size W w') := Lib.hid fun W => by rw [hke]; exact hC kh id root W
  have HRK : Hid (∀ W : World, Calls Tryd.prog 19 #[.agg #[.int .i64 kh, .string id, .string root]] W fun e w' => e = .returned (.int .i64 (ke : Int)) ∧ Below W.heap.size W w') := Lib.hid fun W => by rw [hke]; exact rckey_any kh id root W
  have HK := Lib.hid hK
  have HTK := Lib.hid hT.keep
  unfold keyV
  have HSG : Hid (∀ (p : Nat) (W : World), TA W p S 1 → Holds W 0 kWords → Calls Tryd.prog 17 #[.pointer (some ⟨p, 0, none⟩), .int .i64 leaf, .string m] W fun e w' => e = .returned (signV S 1 leaf m) ∧ Below W.heap.size W w') := Lib.hid fun p W ht k => hT.sign p S 1 leaf m W ht hSs (by omega) (by omega) k
  have hleaf : (leaf = 0 ∧ ∃ X, signV S 1 leaf m = .tuple #[.string X, .int .i64 0]) ∨ (leaf = 1 ∧ ∃ X, signV S 1 leaf m = .tuple #[.string X, .int .i64 0]) ∨ ((leaf == 0) = false ∧ (leaf == 1) = false ∧ signV S 1 leaf m = .tuple #[.string ⟨#[]⟩, .int .i64 1]) := by
    by_cases h0 : leaf = 0
    · exact .inl ⟨h0, _, by rw [h0]; exact signV_ok S 1 0 m (by omega)⟩
    by_cases h1 : leaf = 1
    · exact .inr (.inl ⟨h1, _, by rw [h1]; exact signV_ok S 1 1 m (by omega)⟩)
    exact .inr (.inr ⟨by simp; omega, by simp; omega, by unfold signV; rw [if_neg (by omega)]; rfl⟩)
  have hgen : ((seed.size : Int) = 32 ∧ decide (h < 0) = false ∧ decide (8 < h) = false) ∨ (genE seed h ≠ 0 ∧ ((¬ (seed.size : Int) = 32) ∨ ((seed.size : Int) = 32 ∧ decide (h < 0) = true) ∨ ((seed.size : Int) = 32 ∧ decide (h < 0) = false ∧ decide (8 < h) = true))) := by
    by_cases h1 : seed.size = 32
    · by_cases h2 : h < 0
      · exact .inr ⟨by unfold genE; rw [if_pos h1, if_neg (by omega)]; omega, .inr (.inl ⟨by omega, by simp; omega⟩)⟩
      · by_cases h3 : 8 < h
        · exact .inr ⟨by unfold genE; rw [if_pos h1, if_neg (by omega)]; omega, .inr (.inr ⟨by omega, by simp; omega, by simp; omega⟩)⟩
        · exact .inl ⟨by omega, by simp; omega, by simp; omega⟩
    · exact .inr ⟨by unfold genE; rw [if_neg h1]; omega, .inl (by omega)⟩
  have HGB : Hid (genE seed h ≠ 0 → ∀ W : World, Calls Tryd.prog 9 #[.string seed, .int .i64 h] W fun e w' => e = .returned (.tuple #[.pointer none, .int .i64 ((genE seed h : Nat) : Int)]) ∧ Below W.heap.size W w') := Lib.hid fun hn W => hZ.gen seed h W hn
  have HGR : Hid (genE seed h ≠ 0 → ∀ W : World, Calls Tryd.prog 16 #[.string seed, .int .i64 h] W fun e w' => e = .returned (.tuple #[.agg #[.string ⟨#[]⟩, .string ⟨#[]⟩, .slice none 0 0], .int .i64 ((genE seed h : Nat) : Int)]) ∧ Below W.heap.size W w') := Lib.hid fun hn W => rgen_badz seed h hn W
  obtain ⟨g, hg⟩ : ∃ g, g = genE seed h := ⟨_, rfl⟩
  rw [← hg] at HGB HGR hgen
  clear hS hSs hke hK hT hV hC hZ hs hm hi hr hg
  rcases hleaf with ⟨rfl, X, hx⟩ | ⟨rfl, X, hx⟩ | ⟨e0, e1, hx⟩ <;> rw [hx] at HSG <;> clear hx <;>
  rcases hgen with ⟨q1, q2, q3⟩ | ⟨hn, q1 | ⟨q1, q2⟩ | ⟨q1, q2, q3⟩⟩
  all_goals (try (have HGB := Lib.hid (HGB.out hn); have HGR := Lib.hid (HGR.out hn); clear hn))
  all_goals
    go_enter Tryd.func4, Tryd.ntmps4
    go_wp2_with (first
      | (go_at_call 9; (with_reducible refine (HGB.out _).mono ?_); rintro e v1 ⟨rfl, hb1⟩; have HN := Lib.hid hb1; clear hb1)
      | (go_at_call 16; (with_reducible refine (HGR.out _).mono ?_); rintro e v2 ⟨rfl, hb1⟩; have HN := Lib.hid (HN.out.next hb1); clear hb1)
      | (go_at_call 10; (with_reducible refine (HSD.out _).mono ?_); rintro e w1 ⟨rfl, hb1⟩; have HN1 : Hid (Below (w.alloc (.cells #[.int .i64 kh, .string id, .string root] 29)).heap.size (w.alloc (.cells #[.int .i64 kh, .string id, .string root] 29)) w1) := Lib.hid (by first | exact hb1 | exact (HN.out.alloc HN.out.size _).next hb1); clear hb1)
      | (go_at_call 9; (with_reducible refine (HGN.out _ (HK.out.old ((belowNew w _).next HN1.out))).mono ?_); rintro e w2 ⟨⟨p, rfl, ht⟩, hb2⟩; have HN2 := Lib.hid (HN1.out.next hb2); have HT2 := Lib.hid ht; clear hb2 ht)
      | (go_at_call 17; (with_reducible refine (HSG.out _ _ HT2.out (HK.out.old ((belowNew w _).next HN2.out))).mono ?_); rintro e w3 ⟨rfl, hb3⟩; have HN3 := Lib.hid (HN2.out.next hb3); clear hb3))
  all_goals
    obtain ⟨W4, hW4⟩ : ∃ W4, W4 = w3.alloc (.cells #[.int .i64 0, .string ⟨#[]⟩, .string ⟨#[]⟩, .string ⟨#[]⟩, .slice none 0 0] 45) := ⟨_, rfl⟩
    rw [← hW4]
    obtain ⟨W5, hW5⟩ : ∃ W5, W5 = W4.alloc (.cells #[.pointer none, .pointer (some ⟨w3.heap.size, 0, none⟩)] 22) := ⟨_, rfl⟩
    rw [← hW5]
    have h4s : W4.heap.size = w3.heap.size + 1 := by rw [hW4]; simp
    have hz4 : W4.heap[w3.heap.size]? = some (.cells zeroTc 45 (0, 0)) := by rw [hW4]; exact heap_alloc_new _ _
    have hz5 : W5.heap[w3.heap.size]? = some (.cells zeroTc 45 (0, 0)) := by rw [hW5]; exact ((belowNew W4 _).block w3.heap.size (by rw [h4s]; omega)).trans hz4
    have hs5 : W5.heap[w3.heap.size + 1]? = some (.cells #[.pointer none, .pointer (some ⟨w3.heap.size, 0, none⟩)] 22 (0, 0)) := by rw [hW5, ← h4s]; exact heap_alloc_new _ _
    have hlt5 : w3.heap.size + 1 < W5.heap.size := (Array.getElem?_eq_some_iff.1 hs5).1
    have hc0 : W5.cell? ⟨w3.heap.size + 1, 0, none⟩ = some (.pointer none) := by rw [cell_of_row W5 _ _ _ _ _ hs5]; rfl
    have hc1 : W5.cell? ⟨w3.heap.size + 1, 1, none⟩ = some (.pointer (some ⟨w3.heap.size, 0, none⟩)) := by rw [cell_of_row W5 _ _ _ _ _ hs5]; rfl
    have hn0 : Hid (NoTree W5 (.pointer none)) := Lib.hid (.inl rfl)
    have hn1 : Hid (NoTree W5 (.pointer (some ⟨w3.heap.size, 0, none⟩))) := Lib.hid (.inr ⟨_, rfl, hz5⟩)
    have HN5 : Hid (Below (w.alloc (.cells #[.int .i64 kh, .string id, .string root] 29)).heap.size (w.alloc (.cells #[.int .i64 kh, .string id, .string root] 29)) W5) := Lib.hid (by rw [hW5, hW4]; exact (HN3.out.alloc HN3.out.size _).alloc (by have := HN3.out.size; simp at *; omega) _)
    have HC0 := Lib.hid hc0
    have HC1 := Lib.hid hc1
    have HLT5 := Lib.hid hlt5
    clear hW4 hW5 h4s hz4 hz5 hs5 hc0 hc1 hlt5
    go_loopw [115] (fun i wr => (i = .int .i64 0 ∨ i = .int .i64 1 ∨ i = .int .i64 2) ∧ Below W5.heap.size W5 wr) (fun i _ => 2 - (intOf i).toNat)
    case atStart => exact ⟨.inl rfl, Below.refl _ _⟩
    case round =>
      obtain ⟨hi, hb⟩ := hrel
      have HB := Lib.hid hb
      have c0 : wr.cell? ⟨w3.heap.size + 1, 0, none⟩ = some (.pointer none) := (hb.cell (p := ⟨w3.heap.size + 1, 0, none⟩) HLT5.out).trans HC0.out
      have c1 : wr.cell? ⟨w3.heap.size + 1, 1, none⟩ = some (.pointer (some ⟨w3.heap.size, 0, none⟩)) := (hb.cell (p := ⟨w3.heap.size + 1, 1, none⟩) HLT5.out).trans HC1.out
      clear hb
      rcases hi with rfl | rfl | rfl
      · go_wp2_with (first
          | (go_at_call 17; (with_reducible refine (HZS.out _ _ (hn0.out.below HB.out)).mono ?_); rintro e x1 ⟨rfl, hb1⟩; have HX1 := Lib.hid (HB.out.next hb1); clear hb1)
          | (go_at_call 15; (with_reducible refine (HZL.out _ _ (hn0.out.below HX1.out)).mono ?_); rintro e x2 ⟨rfl, hb1⟩; have HX2 := Lib.hid (HX1.out.next hb1); clear hb1)
          | (go_at_call 12; (with_reducible refine (HZK.out _ _ (hn0.out.below HX2.out)).mono ?_); rintro e x3 ⟨rfl, hb1⟩; have HX3 := Lib.hid (HX2.out.next hb1); clear hb1))
        go_roundw
        case rel => exact ⟨.inr (.inl rfl), HX3.out⟩
        case measure => simp [intOf]
      · go_wp2_with (first
          | (go_at_call 17; (with_reducible refine (HZS.out _ _ (hn1.out.below HB.out)).mono ?_); rintro e x1 ⟨rfl, hb1⟩; have HX1 := Lib.hid (HB.out.next hb1); clear hb1)
          | (go_at_call 15; (with_reducible refine (HZL.out _ _ (hn1.out.below HX1.out)).mono ?_); rintro e x2 ⟨rfl, hb1⟩; have HX2 := Lib.hid (HX1.out.next hb1); clear hb1)
          | (go_at_call 12; (with_reducible refine (HZK.out _ _ (hn1.out.below HX2.out)).mono ?_); rintro e x3 ⟨rfl, hb1⟩; have HX3 := Lib.hid (HX2.out.next hb1); clear hb1))
        go_roundw
        case rel => exact ⟨.inr (.inr rfl), HX3.out⟩
        case measure => simp [intOf]
      · have hkey : wr.heap[w.heap.size]? = some (.cells #[.int .i64 kh, .string id, .string root] 29 (0, 0)) := ((HN5.out.next HB.out).block w.heap.size (by simp)).trans (heap_alloc_new w _)
        obtain ⟨k0, k1, k2, hkl⟩ := tcell hkey
        have HKL := Lib.hid hkl
        have HKW : Hid (Holds wr 0 kWords) := Lib.hid (HK.out.old ((belowNew w _).next (HN5.out.next HB.out)))
        have HKD : Hid (Holds wr.drew 0 kWords) := Lib.hid (HKW.out.old (Below.refl _ _).drew)
        clear hkey hkl c0 c1
        go_wp2_with fail
        go_region_held3 (fun w' => w'.cell? ⟨w.heap.size, 0, none⟩ = some (.int .i64 kh) ∧ w'.cell? ⟨w.heap.size, 1, none⟩ = some (.string id) ∧ w'.cell? ⟨w.heap.size, 2, none⟩ = some (.string root)) (first | with_reducible exact ⟨by assumption, by assumption, by assumption⟩ | go_keep)
          (first
          | (go_at_call 11; (with_reducible refine (HAW.out _ (by first | exact HKW.out | exact HKD.out)).mono ?_); rintro e y1 ⟨rfl, hb1⟩; have hx : Below wr.heap.size wr y1 := (by first | exact hb1 | exact (Below.refl _ _).drew.trans hb1); have y1k0 := (hx.cell (p := ⟨w.heap.size, 0, none⟩) HKL.out).trans k0; have y1k1 := (hx.cell (p := ⟨w.heap.size, 1, none⟩) HKL.out).trans k1; have y1k2 := (hx.cell (p := ⟨w.heap.size, 2, none⟩) HKL.out).trans k2; have Hy1 := Lib.hid hx; clear hb1 hx)
          | (go_at_call 18; (with_reducible refine (HCK.out _).mono ?_); rintro e y2 ⟨rfl, hb1⟩; have hx : Below wr.heap.size wr y2 := Hy1.out.next hb1; have y2k0 := (hx.cell (p := ⟨w.heap.size, 0, none⟩) HKL.out).trans k0; have y2k1 := (hx.cell (p := ⟨w.heap.size, 1, none⟩) HKL.out).trans k1; have y2k2 := (hx.cell (p := ⟨w.heap.size, 2, none⟩) HKL.out).trans k2; have Hy2 := Lib.hid hx; clear hb1 hx)
          | (go_at_call 19; (with_reducible refine (HRK.out _).mono ?_); rintro e y3 ⟨rfl, hb1⟩; have hx : Below wr.heap.size wr y3 := Hy2.out.next hb1; have y3k0 := (hx.cell (p := ⟨w.heap.size, 0, none⟩) HKL.out).trans k0; have y3k1 := (hx.cell (p := ⟨w.heap.size, 1, none⟩) HKL.out).trans k1; have y3k2 := (hx.cell (p := ⟨w.heap.size, 2, none⟩) HKL.out).trans k2; have Hy3 := Lib.hid hx; clear hb1 hx))
        go_wp2_with fail
        go_ret
        exact ⟨rfl, (belowNew w _).next (HN5.out.next (HB.out.next Hy3.out))⟩
end Go.Proofs.YtnmcocolahgfnaaDoor
namespace Go.Proofs.YtnmcocolahgfnaaDoor
open Go.RowKit

set_option maxRecDepth 100000 in
set_option maxHeartbeats 4000000 in
theorem errlawm {TA : TreeP} (hT : Trees TA) (hV : VerPm) (hC : CheckPm) (hZ : NoTrees) (seed m id root : ByteArray) (h leaf kh : Int) (w : World) (hK : Holds w 0 kWords) :
    Calls Tryd.prog 4 #[.string seed, .int .i64 h, .int .i64 leaf, .string m, keyV kh id root] w fun e w' => e = .returned (.bool true) ∧ Below w.heap.size w w' := by
  by_cases hs : seed.size ≤ 60 ∧ m.size ≤ 200 ∧ id.size ≤ 60 ∧ root.size ≤ 60
  · exact errs_m hT hV hC hZ seed m id root h leaf kh w hK hs.1 hs.2.1 hs.2.2.1 hs.2.2.2
  have HAW := Lib.hid (fun W hk => awakem_any hT hV W hk)
  have HKW := Lib.hid (hK.old (belowNew w (.cells #[.int .i64 kh, .string id, .string root] 29)))
  unfold keyV
  have hway : decide ((60 : Int) < (seed.size : Int)) = true ∨ (decide ((60 : Int) < (seed.size : Int)) = false ∧ decide ((200 : Int) < (m.size : Int)) = true) ∨ (decide ((60 : Int) < (seed.size : Int)) = false ∧ decide ((200 : Int) < (m.size : Int)) = false ∧ decide ((60 : Int) < (id.size : Int)) = true) ∨ (decide ((60 : Int) < (seed.size : Int)) = false ∧ decide ((200 : Int) < (m.size : Int)) = false ∧ decide ((60 : Int) < (id.size : Int)) = false ∧ decide ((60 : Int) < (root.size : Int)) = true) := by
    simp only [decide_eq_true_eq, decide_eq_false_iff_not]
    omega
  clear hT hV hC hZ hK hs
  rcases hway with a1 | ⟨a1, a2⟩ | ⟨a1, a2, a3⟩ | ⟨a1, a2, a3, a4⟩
  all_goals
    go_enter Tryd.func4, Tryd.ntmps4
    go_wp2_with (go_at_call 11; (with_reducible refine (HAW.out _ HKW.out).mono ?_); rintro e w1 ⟨rfl, hb1⟩; have HB1 := Lib.hid ((belowNew w _).next hb1); clear hb1)
    go_ret
    exact ⟨rfl, HB1.out⟩
end Go.Proofs.YtnmcocolahgfnaaDoor
namespace Go.Proofs.YtnmcocolahgfnaaDoor

theorem noTreesP : NoTrees where
  gen := fun seed h w hn => mgen_bad seed h w hn
  sign := fun v leaf m w t => nsign_any v leaf m w t
  leaves := fun v w t => nleaves_any v w t
  key := fun v w t => nkey_any v w t
end Go.Proofs.YtnmcocolahgfnaaDoor
