/-
  What the reference's Generate answers where it refuses, with the tree that it returns.
  The walk of the law SignerErrors, over what is wanted of the program.
  What no signer answers: the methods of the nil pointer and of a signer that nothing was written to.
  What is wanted of the program where there is no signer.
-/
import Derived.Test.YtphgpakfdhdklaaDoorAah
import Derived.Test.YtphgpakfdhdklaaDoorAan
import Derived.Test.YtphgpakfdhdklaaDoorAap
import Derived.Test.YtphgpakfdhdklaaDoorAaq
namespace Go.Proofs.YtphgpakfdhdklaaDoor
open Go.RowKit

set_option maxRecDepth 100000 in
set_option maxHeartbeats 1000000 in
theorem rgen_badv (seed : ByteArray) (h : Int) (hn : genE seed h ≠ 0) (w : World) :
    Calls Tryd.prog 27 #[.string seed, .int .i64 h] w fun e w' => e = .returned (.tuple #[.agg #[.string ⟨#[]⟩, .string ⟨#[]⟩, .slice none 0 0], .int .i64 ((genE seed h : Nat) : Int)]) ∧ Below w.heap.size w w' := by
  obtain ⟨n, hnn⟩ : ∃ n, n = seed.size := ⟨_, rfl⟩
  have hni : (seed.size : Int) = (n : Int) := by rw [hnn]
  have hQ : genE seed h = if n = 32 then (if 0 ≤ h ∧ h ≤ 8 then 0 else 1) else 18 := by unfold genE; rw [hnn]
  rw [hQ] at hn ⊢
  clear hnn hQ
  rcases Nat.decEq n 32 with h1 | h1
  · have d1 : ((n : Int) == 32) = false := by simp; omega
    rw [if_neg h1]
    clear hn
    go_enter Tryd.func27, Tryd.ntmps27
    go_wp2_with fail
    exact bodyPost_ret (results_cell_row2 rfl _ _ w.heap.size 25 _ (0, 0) _ rfl (heap_alloc_new w _) Tryd.underlying25 rfl treeSize) rfl ⟨rfl, belowNew w _⟩
  · subst h1
    rw [if_pos rfl] at hn ⊢
    by_cases h2 : h < 0
    · have d2 : decide (h < 0) = true := by simp; omega
      rw [if_neg (by omega)]
      clear hn
      go_enter Tryd.func27, Tryd.ntmps27
      go_wp2_with fail
      exact bodyPost_ret (results_cell_row2 rfl _ _ w.heap.size 25 _ (0, 0) _ rfl (heap_alloc_new w _) Tryd.underlying25 rfl treeSize) rfl ⟨rfl, belowNew w _⟩
    · have d2 : decide (h < 0) = false := by simp; omega
      have h3 : 8 < h := by
        by_cases h3 : h ≤ 8
        · exact absurd (if_pos ⟨by omega, h3⟩) hn
        · omega
      have d3 : decide (8 < h) = true := by simp; omega
      rw [if_neg (by omega)]
      clear hn
      go_enter Tryd.func27, Tryd.ntmps27
      go_wp2_with fail
      exact bodyPost_ret (results_cell_row2 rfl _ _ w.heap.size 25 _ (0, 0) _ rfl (heap_alloc_new w _) Tryd.underlying25 rfl treeSize) rfl ⟨rfl, belowNew w _⟩
end Go.Proofs.YtphgpakfdhdklaaDoor
namespace Go.Proofs.YtphgpakfdhdklaaDoor
open Go.RowKit

set_option maxRecDepth 100000 in
set_option maxHeartbeats 1000000 in
theorem err_out {SA : SignP} (hS : Signers SA) (seed : ByteArray) (h next n : Int) (k : Nat) (hbig : 60 < seed.size) (w : World) (hK : Holds w 0 kWords) :
    Calls Tryd.prog 4 #[.string seed, .int .i64 h, .int .i64 next, .int .i64 n, .int .u8 (k : Int)] w fun e w' => e = .returned (.bool true) ∧ Below w.heap.size w w' := by
  have HAW := Lib.hid (awakev_any hS w hK)
  have d1 : decide ((60 : Int) < (seed.size : Int)) = true := by simp; omega
  clear hS hK hbig
  go_enter Tryd.func4, Tryd.ntmps4
  go_wp2_with (go_at_call 25; (with_reducible refine HAW.out.mono ?_); rintro e w1 ⟨rfl, hb1⟩; have HB1 := Lib.hid hb1; clear hb1)
  go_ret
  exact ⟨rfl, HB1.out⟩

set_option maxRecDepth 100000 in
set_option maxHeartbeats 4000000 in
theorem err_in {SA : SignP} (hS : Signers SA) (hZ : NoSigners) (seed : ByteArray) (h next n : Int) (k : Nat) (hk : k < 256) (hs : seed.size ≤ 60) (w : World) (hK : Holds w 0 kWords) :
    Calls Tryd.prog 4 #[.string seed, .int .i64 h, .int .i64 next, .int .i64 n, .int .u8 (k : Int)] w fun e w' => e = .returned (.bool true) ∧ Below w.heap.size w w' := by
  have z1 : decide ((60 : Int) < (seed.size : Int)) = false := by simp; omega
  obtain ⟨S, hSS⟩ : ∃ S, S = seedS k := ⟨_, rfl⟩
  have hSs : S.size = 32 := by rw [hSS]; exact seedS_size k
  have hkw : IntKind.i64.wrap (k : Int) = (k : Int) := by rw [wrap_i64]; omega
  have HSD : Hid (∀ W : World, Calls Tryd.prog 10 #[.int .i64 (k : Int)] W fun e w' => e = .returned (.string S) ∧ Below W.heap.size W w') := Lib.hid fun W => by rw [hSS]; exact seedq_any k (by omega) W
  have HAW := Lib.hid (fun W hk => awakev_any hS W hk)
  have HHS := Lib.hid hS
  have HZ := Lib.hid hZ
  have HK := Lib.hid hK
  have hgen : ((seed.size : Int) = 32 ∧ decide (h < 0) = false ∧ decide (8 < h) = false) ∨ (genE seed h ≠ 0 ∧ ((¬ (seed.size : Int) = 32) ∨ ((seed.size : Int) = 32 ∧ decide (h < 0) = true) ∨ ((seed.size : Int) = 32 ∧ decide (h < 0) = false ∧ decide (8 < h) = true))) := by
    by_cases h1 : seed.size = 32
    · by_cases h2 : h < 0
      · exact .inr ⟨by unfold genE; rw [if_pos h1, if_neg (by omega)]; omega, .inr (.inl ⟨by omega, by simp; omega⟩)⟩
      · by_cases h3 : 8 < h
        · exact .inr ⟨by unfold genE; rw [if_pos h1, if_neg (by omega)]; omega, .inr (.inr ⟨by omega, by simp; omega, by simp; omega⟩)⟩
        · exact .inl ⟨by omega, by simp; omega, by simp; omega⟩
    · exact .inr ⟨by unfold genE; rw [if_neg h1]; omega, .inl (by omega)⟩
  have HNB : Hid (genE seed h ≠ 0 → ∀ W : World, Calls Tryd.prog 9 #[.string seed, .int .i64 h] W fun e w' => e = .returned (.tuple #[.pointer none, .int .i64 ((genE seed h : Nat) : Int)]) ∧ Below W.heap.size W w') := Lib.hid fun hn W => hZ.new seed h W hn
  have HAB : Hid (genE seed h ≠ 0 → ∀ W : World, Calls Tryd.prog 26 #[.string seed, .int .i64 h, .int .i64 next] W fun e w' => e = .returned (.tuple #[.pointer none, .int .i64 ((genE seed h : Nat) : Int)]) ∧ Below W.heap.size W w') := Lib.hid fun hn W => hZ.atb seed h next W hn
  have HGR : Hid (genE seed h ≠ 0 → ∀ W : World, Calls Tryd.prog 27 #[.string seed, .int .i64 h] W fun e w' => e = .returned (.tuple #[.agg #[.string ⟨#[]⟩, .string ⟨#[]⟩, .slice none 0 0], .int .i64 ((genE seed h : Nat) : Int)]) ∧ Below W.heap.size W w') := Lib.hid fun hn W => rgen_badv seed h hn W
  obtain ⟨g, hg⟩ : ∃ g, g = genE seed h := ⟨_, rfl⟩
  rw [← hg] at HNB HAB HGR hgen
  have hnext : (∃ j lf : Nat, next = (j : Int) ∧ j ≤ 2 ∧ 2 - j = lf ∧ (2 : Int) - (j : Int) = (lf : Int) ∧ decide ((0 : Int) ≤ next) = true ∧ decide (next ≤ 2) = true) ∨ (¬ (0 ≤ next ∧ next ≤ 2) ∧ (decide ((0 : Int) ≤ next) = false ∨ (decide ((0 : Int) ≤ next) = true ∧ decide (next ≤ 2) = false))) := by
    by_cases h1 : 0 ≤ next
    · by_cases h2 : next ≤ 2
      · exact .inl ⟨next.toNat, 2 - next.toNat, by omega, by omega, rfl, by omega, by simp; omega, by simp; omega⟩
      · exact .inr ⟨by omega, .inr ⟨by simp; omega, by simp; omega⟩⟩
    · exact .inr ⟨by omega, .inl (by simp; omega)⟩
  have HSs := Lib.hid hSs
  clear hSS hSs hS hZ hK hs hg hk
  rcases hnext with ⟨j, lf, rfl, hj2, hlf, hlfi, q4, q5⟩ | ⟨hno, hq⟩
  · have HAT : Hid (∀ W : World, Holds W 0 kWords → Calls Tryd.prog 26 #[.string S, .int .i64 1, .int .i64 (j : Int)] W fun e w' => (∃ p, W.heap.size ≤ p ∧ e = .returned (.tuple #[.pointer (some ⟨p, 0, none⟩), .int .i64 0]) ∧ SA w' p S 1 j) ∧ Below W.heap.size W w') := Lib.hid fun W hk => HHS.out.at' S 1 j W HSs.out (by omega) (by omega) hk
    have HNX : Hid (∀ (p : Nat) (W : World), SA W p S 1 j → Calls Tryd.prog 21 #[.pointer (some ⟨p, 0, none⟩)] W fun e w' => e = .returned (.int .i64 (j : Int)) ∧ Below W.heap.size W w') := Lib.hid fun p W ht => HHS.out.next p S 1 j W ht
    have HLF : Hid (∀ (p : Nat) (W : World), SA W p S 1 j → Calls Tryd.prog 22 #[.pointer (some ⟨p, 0, none⟩)] W fun e w' => e = .returned (.int .i64 (lf : Int)) ∧ Below W.heap.size W w') := Lib.hid fun p W ht => by
      have h1 := HHS.out.left p S 1 j W ht
      rw [show 2 ^ 1 - j = lf from hlf] at h1
      exact h1
    clear hlf
    rcases hgen with ⟨q1, q2, q3⟩ | ⟨hn, q1 | ⟨q1, q2⟩ | ⟨q1, q2, q3⟩⟩
    all_goals (try (have HNB := Lib.hid (HNB.out hn); have HAB := Lib.hid (HAB.out hn); have HGR := Lib.hid (HGR.out hn); clear hn))
    all_goals
      go_enter Tryd.func4, Tryd.ntmps4
      go_wp2_with (first
        | (go_at_call 9; (with_reducible refine (HNB.out _).mono ?_); rintro e v1 ⟨rfl, hb1⟩; have HN1 := Lib.hid hb1; clear hb1)
        | (go_at_call 26; (with_reducible refine (HAB.out _).mono ?_); rintro e v2 ⟨rfl, hb1⟩; have HN2 := Lib.hid (HN1.out.next hb1); clear hb1)
        | (go_at_call 27; (with_reducible refine (HGR.out _).mono ?_); rintro e v3 ⟨rfl, hb1⟩; have HN3 := Lib.hid (HN2.out.next hb1); clear hb1)
        | (go_at_call 10; (with_reducible refine (HSD.out _).mono ?_); rintro e w1 ⟨rfl, hb1⟩; have HW1 : Hid (Below w.heap.size w w1) := Lib.hid (by first | exact hb1 | exact (HN3.out.next (belowNew _ _)).next hb1); clear hb1)
        | (go_at_call 26; (with_reducible refine (HAT.out _ (HK.out.old HW1.out)).mono ?_); rintro e w2 ⟨⟨p, hp, rfl, ht⟩, hb2⟩; have HW2 := Lib.hid (HW1.out.next hb2); have HT2 := Lib.hid ht; clear hb2 ht hp)
        | (go_at_call 21; (with_reducible refine (HNX.out _ _ HT2.out).mono ?_); rintro e w3 ⟨rfl, hb3⟩; have HW3 := Lib.hid (HW2.out.next hb3); have HT3 := Lib.hid (HHS.out.keep _ _ _ _ _ _ HT2.out hb3); clear hb3)
        | (go_at_call 22; (with_reducible refine (HLF.out _ _ HT3.out).mono ?_); rintro e w4 ⟨rfl, hb4⟩; have HW4 := Lib.hid (HW3.out.next hb4); clear hb4))
    all_goals
      obtain ⟨W4, hW4⟩ : ∃ W4, W4 = w4.alloc (.cells #[.pointer none, .string ⟨#[]⟩, .int .i64 0] 55) := ⟨_, rfl⟩
      rw [← hW4]
      obtain ⟨W5, hW5⟩ : ∃ W5, W5 = W4.alloc (.cells #[.pointer none, .pointer (some ⟨w4.heap.size, 0, none⟩)] 27) := ⟨_, rfl⟩
      rw [← hW5]
      have h4s : W4.heap.size = w4.heap.size + 1 := by rw [hW4]; simp
      have hz4 : W4.heap[w4.heap.size]? = some (.cells zeroSc 55 (0, 0)) := by rw [hW4]; exact heap_alloc_new _ _
      have hz5 : W5.heap[w4.heap.size]? = some (.cells zeroSc 55 (0, 0)) := by rw [hW5]; exact ((belowNew W4 _).block w4.heap.size (by rw [h4s]; omega)).trans hz4
      have hs5 : W5.heap[w4.heap.size + 1]? = some (.cells #[.pointer none, .pointer (some ⟨w4.heap.size, 0, none⟩)] 27 (0, 0)) := by rw [hW5, ← h4s]; exact heap_alloc_new _ _
      have hlt5 : w4.heap.size + 1 < W5.heap.size := (Array.getElem?_eq_some_iff.1 hs5).1
      have hc0 : W5.cell? ⟨w4.heap.size + 1, 0, none⟩ = some (.pointer none) := by rw [cell_of_row W5 _ _ _ _ _ hs5]; rfl
      have hc1 : W5.cell? ⟨w4.heap.size + 1, 1, none⟩ = some (.pointer (some ⟨w4.heap.size, 0, none⟩)) := by rw [cell_of_row W5 _ _ _ _ _ hs5]; rfl
      have hn0 : Hid (NoSigner W5 (.pointer none)) := Lib.hid (.inl rfl)
      have hn1 : Hid (NoSigner W5 (.pointer (some ⟨w4.heap.size, 0, none⟩))) := Lib.hid (.inr ⟨_, rfl, hz5⟩)
      have HN5 : Hid (Below w.heap.size w W5) := Lib.hid (by rw [hW5, hW4]; exact (HW4.out.next (belowNew _ _)).next (belowNew _ _))
      have HC0 := Lib.hid hc0
      have HC1 := Lib.hid hc1
      have HLT5 := Lib.hid hlt5
      clear hW4 hW5 h4s hz4 hz5 hs5 hc0 hc1 hlt5
      go_loopw [126] (fun i wr => (i = .int .i64 0 ∨ i = .int .i64 1 ∨ i = .int .i64 2) ∧ Below W5.heap.size W5 wr) (fun i _ => 2 - (intOf i).toNat)
      case atStart => exact ⟨.inl rfl, Below.refl _ _⟩
      case round =>
        obtain ⟨hi, hb⟩ := hrel
        have HB := Lib.hid hb
        have c0 : wr.cell? ⟨w4.heap.size + 1, 0, none⟩ = some (.pointer none) := (hb.cell (p := ⟨w4.heap.size + 1, 0, none⟩) HLT5.out).trans HC0.out
        have c1 : wr.cell? ⟨w4.heap.size + 1, 1, none⟩ = some (.pointer (some ⟨w4.heap.size, 0, none⟩)) := (hb.cell (p := ⟨w4.heap.size + 1, 1, none⟩) HLT5.out).trans HC1.out
        clear hb
        rcases hi with rfl | rfl | rfl
        · go_wp2_with (first
            | (go_at_call 14; (with_reducible refine (HZ.out.sign _ _ _ (hn0.out.below HB.out)).mono ?_); rintro e x1 ⟨rfl, hb1⟩; have HX1 := Lib.hid (HB.out.next hb1); clear hb1)
            | (go_at_call 23; (with_reducible refine (HZ.out.key _ _ (hn0.out.below HX1.out)).mono ?_); rintro e x2 ⟨rfl, hb1⟩; have HX2 := Lib.hid (HX1.out.next hb1); clear hb1)
            | (go_at_call 21; (with_reducible refine (HZ.out.next _ _ (hn0.out.below HX2.out)).mono ?_); rintro e x3 ⟨rfl, hb1⟩; have HX3 := Lib.hid (HX2.out.next hb1); clear hb1)
            | (go_at_call 22; (with_reducible refine (HZ.out.left _ _ (hn0.out.below HX3.out)).mono ?_); rintro e x4 ⟨rfl, hb1⟩; have HX4 := Lib.hid (HX3.out.next hb1); clear hb1)
            | (go_at_call 16; (with_reducible refine (HZ.out.skip _ _ _ (hn0.out.below HX4.out)).mono ?_); rintro e x5 ⟨rfl, hb1⟩; have HX5 := Lib.hid (HX4.out.next hb1); clear hb1)
            | (go_at_call 17; (with_reducible refine (HZ.out.fork _ _ (hn0.out.below HX5.out)).mono ?_); rintro e x6 ⟨rfl, hb1⟩; have HX6 := Lib.hid (HX5.out.next hb1); clear hb1)
            | (go_at_call 18; (with_reducible refine (HZ.out.save _ _ (hn0.out.below HX6.out)).mono ?_); rintro e x7 ⟨rfl, hb1⟩; have HX7 := Lib.hid (HX6.out.next hb1); clear hb1))
          go_roundw
          case rel => exact ⟨.inr (.inl rfl), HX7.out⟩
          case measure => simp [intOf]
        · go_wp2_with (first
            | (go_at_call 14; (with_reducible refine (HZ.out.sign _ _ _ (hn1.out.below HB.out)).mono ?_); rintro e x1 ⟨rfl, hb1⟩; have HX1 := Lib.hid (HB.out.next hb1); clear hb1)
            | (go_at_call 23; (with_reducible refine (HZ.out.key _ _ (hn1.out.below HX1.out)).mono ?_); rintro e x2 ⟨rfl, hb1⟩; have HX2 := Lib.hid (HX1.out.next hb1); clear hb1)
            | (go_at_call 21; (with_reducible refine (HZ.out.next _ _ (hn1.out.below HX2.out)).mono ?_); rintro e x3 ⟨rfl, hb1⟩; have HX3 := Lib.hid (HX2.out.next hb1); clear hb1)
            | (go_at_call 22; (with_reducible refine (HZ.out.left _ _ (hn1.out.below HX3.out)).mono ?_); rintro e x4 ⟨rfl, hb1⟩; have HX4 := Lib.hid (HX3.out.next hb1); clear hb1)
            | (go_at_call 16; (with_reducible refine (HZ.out.skip _ _ _ (hn1.out.below HX4.out)).mono ?_); rintro e x5 ⟨rfl, hb1⟩; have HX5 := Lib.hid (HX4.out.next hb1); clear hb1)
            | (go_at_call 17; (with_reducible refine (HZ.out.fork _ _ (hn1.out.below HX5.out)).mono ?_); rintro e x6 ⟨rfl, hb1⟩; have HX6 := Lib.hid (HX5.out.next hb1); clear hb1)
            | (go_at_call 18; (with_reducible refine (HZ.out.save _ _ (hn1.out.below HX6.out)).mono ?_); rintro e x7 ⟨rfl, hb1⟩; have HX7 := Lib.hid (HX6.out.next hb1); clear hb1))
          go_roundw
          case rel => exact ⟨.inr (.inr rfl), HX7.out⟩
          case measure => simp [intOf]
        · go_wp2_with (go_at_call 25; (with_reducible refine (HAW.out _ (HK.out.old (HN5.out.next HB.out))).mono ?_); rintro e x1 ⟨rfl, hb1⟩; have HX1 := Lib.hid ((HN5.out.next HB.out).next hb1); clear hb1)
          go_ret
          exact ⟨rfl, HX1.out⟩
  · have HAT : Hid (∀ W : World, Holds W 0 kWords → Calls Tryd.prog 26 #[.string S, .int .i64 1, .int .i64 next] W fun e w' => e = .returned (.tuple #[.pointer none, .int .i64 1]) ∧ Below W.heap.size W w') := Lib.hid fun W hk => HZ.out.atr S 1 next W HSs.out (by omega) hno hk
    clear hno
    rcases hq with hq1 | ⟨hq1, hq2⟩ <;>
    rcases hgen with ⟨q1, q2, q3⟩ | ⟨hn, q1 | ⟨q1, q2⟩ | ⟨q1, q2, q3⟩⟩
    all_goals (try (have HNB := Lib.hid (HNB.out hn); have HAB := Lib.hid (HAB.out hn); have HGR := Lib.hid (HGR.out hn); clear hn))
    all_goals
      go_enter Tryd.func4, Tryd.ntmps4
      go_wp2_with (first
        | (go_at_call 9; (with_reducible refine (HNB.out _).mono ?_); rintro e v1 ⟨rfl, hb1⟩; have HN1 := Lib.hid hb1; clear hb1)
        | (go_at_call 26; (with_reducible refine (HAB.out _).mono ?_); rintro e v2 ⟨rfl, hb1⟩; have HN2 := Lib.hid (HN1.out.next hb1); clear hb1)
        | (go_at_call 27; (with_reducible refine (HGR.out _).mono ?_); rintro e v3 ⟨rfl, hb1⟩; have HN3 := Lib.hid (HN2.out.next hb1); clear hb1)
        | (go_at_call 10; (with_reducible refine (HSD.out _).mono ?_); rintro e w1 ⟨rfl, hb1⟩; have HW1 : Hid (Below w.heap.size w w1) := Lib.hid (by first | exact hb1 | exact (HN3.out.next (belowNew _ _)).next hb1); clear hb1)
        | (go_at_call 26; (with_reducible refine (HAT.out _ (HK.out.old HW1.out)).mono ?_); rintro e w4 ⟨rfl, hb2⟩; have HW4 := Lib.hid (HW1.out.next hb2); clear hb2))
    all_goals
      obtain ⟨W4, hW4⟩ : ∃ W4, W4 = w4.alloc (.cells #[.pointer none, .string ⟨#[]⟩, .int .i64 0] 55) := ⟨_, rfl⟩
      rw [← hW4]
      obtain ⟨W5, hW5⟩ : ∃ W5, W5 = W4.alloc (.cells #[.pointer none, .pointer (some ⟨w4.heap.size, 0, none⟩)] 27) := ⟨_, rfl⟩
      rw [← hW5]
      have h4s : W4.heap.size = w4.heap.size + 1 := by rw [hW4]; simp
      have hz4 : W4.heap[w4.heap.size]? = some (.cells zeroSc 55 (0, 0)) := by rw [hW4]; exact heap_alloc_new _ _
      have hz5 : W5.heap[w4.heap.size]? = some (.cells zeroSc 55 (0, 0)) := by rw [hW5]; exact ((belowNew W4 _).block w4.heap.size (by rw [h4s]; omega)).trans hz4
      have hs5 : W5.heap[w4.heap.size + 1]? = some (.cells #[.pointer none, .pointer (some ⟨w4.heap.size, 0, none⟩)] 27 (0, 0)) := by rw [hW5, ← h4s]; exact heap_alloc_new _ _
      have hlt5 : w4.heap.size + 1 < W5.heap.size := (Array.getElem?_eq_some_iff.1 hs5).1
      have hc0 : W5.cell? ⟨w4.heap.size + 1, 0, none⟩ = some (.pointer none) := by rw [cell_of_row W5 _ _ _ _ _ hs5]; rfl
      have hc1 : W5.cell? ⟨w4.heap.size + 1, 1, none⟩ = some (.pointer (some ⟨w4.heap.size, 0, none⟩)) := by rw [cell_of_row W5 _ _ _ _ _ hs5]; rfl
      have hn0 : Hid (NoSigner W5 (.pointer none)) := Lib.hid (.inl rfl)
      have hn1 : Hid (NoSigner W5 (.pointer (some ⟨w4.heap.size, 0, none⟩))) := Lib.hid (.inr ⟨_, rfl, hz5⟩)
      have HN5 : Hid (Below w.heap.size w W5) := Lib.hid (by rw [hW5, hW4]; exact (HW4.out.next (belowNew _ _)).next (belowNew _ _))
      have HC0 := Lib.hid hc0
      have HC1 := Lib.hid hc1
      have HLT5 := Lib.hid hlt5
      clear hW4 hW5 h4s hz4 hz5 hs5 hc0 hc1 hlt5
      go_loopw [126] (fun i wr => (i = .int .i64 0 ∨ i = .int .i64 1 ∨ i = .int .i64 2) ∧ Below W5.heap.size W5 wr) (fun i _ => 2 - (intOf i).toNat)
      case atStart => exact ⟨.inl rfl, Below.refl _ _⟩
      case round =>
        obtain ⟨hi, hb⟩ := hrel
        have HB := Lib.hid hb
        have c0 : wr.cell? ⟨w4.heap.size + 1, 0, none⟩ = some (.pointer none) := (hb.cell (p := ⟨w4.heap.size + 1, 0, none⟩) HLT5.out).trans HC0.out
        have c1 : wr.cell? ⟨w4.heap.size + 1, 1, none⟩ = some (.pointer (some ⟨w4.heap.size, 0, none⟩)) := (hb.cell (p := ⟨w4.heap.size + 1, 1, none⟩) HLT5.out).trans HC1.out
        clear hb
        rcases hi with rfl | rfl | rfl
        · go_wp2_with (first
            | (go_at_call 14; (with_reducible refine (HZ.out.sign _ _ _ (hn0.out.below HB.out)).mono ?_); rintro e x1 ⟨rfl, hb1⟩; have HX1 := Lib.hid (HB.out.next hb1); clear hb1)
            | (go_at_call 23; (with_reducible refine (HZ.out.key _ _ (hn0.out.below HX1.out)).mono ?_); rintro e x2 ⟨rfl, hb1⟩; have HX2 := Lib.hid (HX1.out.next hb1); clear hb1)
            | (go_at_call 21; (with_reducible refine (HZ.out.next _ _ (hn0.out.below HX2.out)).mono ?_); rintro e x3 ⟨rfl, hb1⟩; have HX3 := Lib.hid (HX2.out.next hb1); clear hb1)
            | (go_at_call 22; (with_reducible refine (HZ.out.left _ _ (hn0.out.below HX3.out)).mono ?_); rintro e x4 ⟨rfl, hb1⟩; have HX4 := Lib.hid (HX3.out.next hb1); clear hb1)
            | (go_at_call 16; (with_reducible refine (HZ.out.skip _ _ _ (hn0.out.below HX4.out)).mono ?_); rintro e x5 ⟨rfl, hb1⟩; have HX5 := Lib.hid (HX4.out.next hb1); clear hb1)
            | (go_at_call 17; (with_reducible refine (HZ.out.fork _ _ (hn0.out.below HX5.out)).mono ?_); rintro e x6 ⟨rfl, hb1⟩; have HX6 := Lib.hid (HX5.out.next hb1); clear hb1)
            | (go_at_call 18; (with_reducible refine (HZ.out.save _ _ (hn0.out.below HX6.out)).mono ?_); rintro e x7 ⟨rfl, hb1⟩; have HX7 := Lib.hid (HX6.out.next hb1); clear hb1))
          go_roundw
          case rel => exact ⟨.inr (.inl rfl), HX7.out⟩
          case measure => simp [intOf]
        · go_wp2_with (first
            | (go_at_call 14; (with_reducible refine (HZ.out.sign _ _ _ (hn1.out.below HB.out)).mono ?_); rintro e x1 ⟨rfl, hb1⟩; have HX1 := Lib.hid (HB.out.next hb1); clear hb1)
            | (go_at_call 23; (with_reducible refine (HZ.out.key _ _ (hn1.out.below HX1.out)).mono ?_); rintro e x2 ⟨rfl, hb1⟩; have HX2 := Lib.hid (HX1.out.next hb1); clear hb1)
            | (go_at_call 21; (with_reducible refine (HZ.out.next _ _ (hn1.out.below HX2.out)).mono ?_); rintro e x3 ⟨rfl, hb1⟩; have HX3 := Lib.hid (HX2.out.next hb1); clear hb1)
            | (go_at_call 22; (with_reducible refine (HZ.out.left _ _ (hn1.out.below HX3.out)).mono ?_); rintro e x4 ⟨rfl, hb1⟩; have HX4 := Lib.hid (HX3.out.next hb1); clear hb1)
            | (go_at_call 16; (with_reducible refine (HZ.out.skip _ _ _ (hn1.out.below HX4.out)).mono ?_); rintro e x5 ⟨rfl, hb1⟩; have HX5 := Lib.hid (HX4.out.next hb1); clear hb1)
            | (go_at_call 17; (with_reducible refine (HZ.out.fork _ _ (hn1.out.below HX5.out)).mono ?_); rintro e x6 ⟨rfl, hb1⟩; have HX6 := Lib.hid (HX5.out.next hb1); clear hb1)
            | (go_at_call 18; (with_reducible refine (HZ.out.save _ _ (hn1.out.below HX6.out)).mono ?_); rintro e x7 ⟨rfl, hb1⟩; have HX7 := Lib.hid (HX6.out.next hb1); clear hb1))
          go_roundw
          case rel => exact ⟨.inr (.inr rfl), HX7.out⟩
          case measure => simp [intOf]
        · go_wp2_with (go_at_call 25; (with_reducible refine (HAW.out _ (HK.out.old (HN5.out.next HB.out))).mono ?_); rintro e x1 ⟨rfl, hb1⟩; have HX1 := Lib.hid ((HN5.out.next HB.out).next hb1); clear hb1)
          go_ret
          exact ⟨rfl, HX1.out⟩
theorem errlawv {SA : SignP} (hS : Signers SA) (hZ : NoSigners) (seed : ByteArray) (h next n : Int) (k : Nat) (hk : k < 256) (w : World) (hK : Holds w 0 kWords) :
    Calls Tryd.prog 4 #[.string seed, .int .i64 h, .int .i64 next, .int .i64 n, .int .u8 (k : Int)] w fun e w' => e = .returned (.bool true) ∧ Below w.heap.size w w' := by
  by_cases hs : 60 < seed.size
  · exact err_out hS seed h next n k hs w hK
  · exact err_in hS hZ seed h next n k hk (by omega) w hK
end Go.Proofs.YtphgpakfdhdklaaDoor
namespace Go.Proofs.YtphgpakfdhdklaaDoor
open Go.RowKit

set_option maxRecDepth 100000 in
set_option maxHeartbeats 1000000 in
theorem nsnext_any (v : Value) (w : World) (t : NoSigner w v) :
    Calls Tryd.prog 21 #[v] w fun e w' => e = .returned (.int .i64 0) ∧ Below w.heap.size w w' := by
  have HE := Lib.hid (sempty_yes t)
  clear t
  go_enter Tryd.func21, Tryd.ntmps21
  go_wp2_with (go_at_call 33; (with_reducible refine HE.out.mono ?_); rintro e w1 ⟨rfl, hb1⟩; have HB1 := Lib.hid hb1; clear hb1)
  go_ret
  exact ⟨rfl, HB1.out⟩
set_option maxRecDepth 100000 in
set_option maxHeartbeats 1000000 in
theorem nsleft_any (v : Value) (w : World) (t : NoSigner w v) :
    Calls Tryd.prog 22 #[v] w fun e w' => e = .returned (.int .i64 0) ∧ Below w.heap.size w w' := by
  have HE := Lib.hid (sempty_yes t)
  clear t
  go_enter Tryd.func22, Tryd.ntmps22
  go_wp2_with (go_at_call 33; (with_reducible refine HE.out.mono ?_); rintro e w1 ⟨rfl, hb1⟩; have HB1 := Lib.hid hb1; clear hb1)
  go_ret
  exact ⟨rfl, HB1.out⟩
set_option maxRecDepth 100000 in
set_option maxHeartbeats 1000000 in
theorem nsskip_any (v : Value) (n : Int) (w : World) (t : NoSigner w v) :
    Calls Tryd.prog 16 #[v, .int .i64 n] w fun e w' => e = .returned (.int .i64 0) ∧ Below w.heap.size w w' := by
  have HE := Lib.hid (sempty_yes t)
  clear t
  go_enter Tryd.func16, Tryd.ntmps16
  go_wp2_with (go_at_call 33; (with_reducible refine HE.out.mono ?_); rintro e w1 ⟨rfl, hb1⟩; have HB1 := Lib.hid hb1; clear hb1)
  go_ret
  exact ⟨rfl, HB1.out⟩
set_option maxRecDepth 100000 in
set_option maxHeartbeats 1000000 in
theorem nsfork_any (v : Value) (w : World) (t : NoSigner w v) :
    Calls Tryd.prog 17 #[v] w fun e w' => e = .returned (.pointer none) ∧ Below w.heap.size w w' := by
  have HE := Lib.hid (sempty_yes t)
  clear t
  go_enter Tryd.func17, Tryd.ntmps17
  go_wp2_with (go_at_call 33; (with_reducible refine HE.out.mono ?_); rintro e w1 ⟨rfl, hb1⟩; have HB1 := Lib.hid hb1; clear hb1)
  go_ret
  exact ⟨rfl, HB1.out⟩
set_option maxRecDepth 100000 in
set_option maxHeartbeats 1000000 in
theorem nssave_any (v : Value) (w : World) (t : NoSigner w v) :
    Calls Tryd.prog 18 #[v] w fun e w' => e = .returned (.string ⟨#[]⟩) ∧ Below w.heap.size w w' := by
  have HE := Lib.hid (sempty_yes t)
  clear t
  go_enter Tryd.func18, Tryd.ntmps18
  go_wp2_with (go_at_call 33; (with_reducible refine HE.out.mono ?_); rintro e w1 ⟨rfl, hb1⟩; have HB1 := Lib.hid hb1; clear hb1)
  go_ret
  exact ⟨rfl, HB1.out⟩
set_option maxRecDepth 100000 in
set_option maxHeartbeats 1000000 in
theorem nssign_any (v : Value) (m : ByteArray) (w : World) (t : NoSigner w v) :
    Calls Tryd.prog 14 #[v, .string m] w fun e w' => e = .returned (.tuple #[.string ⟨#[]⟩, .int .i64 18]) ∧ Below w.heap.size w w' := by
  have HE := Lib.hid (sempty_yes t)
  clear t
  go_enter Tryd.func14, Tryd.ntmps14
  go_wp2_with (go_at_call 33; (with_reducible refine HE.out.mono ?_); rintro e w1 ⟨rfl, hb1⟩; have HB1 := Lib.hid hb1; clear hb1)
  go_ret2
  exact ⟨rfl, HB1.out⟩
set_option maxRecDepth 100000 in
set_option maxHeartbeats 1000000 in
theorem nskey_any (v : Value) (w : World) (t : NoSigner w v) :
    Calls Tryd.prog 23 #[v] w fun e w' => e = .returned (.agg #[.int .i64 0, .string ⟨#[]⟩, .string ⟨#[]⟩]) ∧ Below w.heap.size w w' := by
  obtain ⟨g, hg⟩ : ∃ g, g = w.heap.size := ⟨_, rfl⟩
  obtain ⟨W1, hW1⟩ : ∃ W1, W1 = w.alloc (.cells #[.int .i64 0, .string ⟨#[]⟩, .string ⟨#[]⟩] 46) := ⟨_, rfl⟩
  have HB1 : Hid (Below w.heap.size w W1) := Lib.hid (by rw [hW1]; exact belowNew w _)
  have HG1 : Hid (W1.heap[g]? = some (.cells #[.int .i64 0, .string ⟨#[]⟩, .string ⟨#[]⟩] 46 (0, 0))) := Lib.hid (by rw [hW1, hg]; exact heap_alloc_new w _)
  have HE := Lib.hid (sempty_yes (t.below HB1.out))
  have HW1 := Lib.hid hW1.symm
  subst hg
  clear t hW1
  go_enter Tryd.func23, Tryd.ntmps23
  go_wp2_with (go_at_call 33; rw [HW1.out]; (with_reducible refine HE.out.mono ?_); rintro e w1 ⟨rfl, hb1⟩; have HB2 := Lib.hid (HB1.out.next hb1); have hg1 := (hb1.block w.heap.size (Array.getElem?_eq_some_iff.1 HG1.out).1).trans HG1.out; obtain ⟨k0, k1, k2, hgl⟩ := tcell hg1; have f0 := Lib.frozen_of_heap hg1 0; have f1 := Lib.frozen_of_heap hg1 1; have f2 := Lib.frozen_of_heap hg1 2; have HG2 := Lib.hid hg1; clear hb1 hg1)
  exact bodyPost_ret (results_cell_row rfl _ _ w.heap.size 46 _ (0, 0) _ rfl (tset3 HG2.out) Tryd.underlying46 rfl keySizeM) rfl ⟨rfl, ((HB2.out.setCell (p := ⟨w.heap.size, 0, none⟩) (Nat.le_refl _) _).setCell (p := ⟨w.heap.size, 1, none⟩) (Nat.le_refl _) _).setCell (p := ⟨w.heap.size, 2, none⟩) (Nat.le_refl _) _⟩
end Go.Proofs.YtphgpakfdhdklaaDoor
namespace Go.Proofs.YtphgpakfdhdklaaDoor

theorem noSignersP : NoSigners where
  new := fun seed h w hn => snew_bad seed h w hn
  atb := fun seed h n w hn => sat_bad seed h n w hn
  atr := fun seed h n w hs h8 hn hK => sat_rng seed h n w hs h8 hn hK
  sign := fun v m w t => nssign_any v m w t
  key := fun v w t => nskey_any v w t
  next := fun v w t => nsnext_any v w t
  left := fun v w t => nsleft_any v w t
  skip := fun v n w t => nsskip_any v n w t
  fork := fun v w t => nsfork_any v w t
  save := fun v w t => nssave_any v w t
end Go.Proofs.YtphgpakfdhdklaaDoor
