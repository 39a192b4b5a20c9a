/-
  The contracts of slices.Grow from nothing and of slices.Concat, over general names.
  The contract of withinEach of package subtree.
  The contract of certpathref07.add over a growing row of general names whose names lie where they lay.
  The contract of the program's distinct.
-/
import Derived.Test.YtofadgmnjckpcaaGreatDoorUbf
import Derived.Lib.AppendZerosOnto
import Derived.Test.YtofadgmnjckpcaaGreatDoorUbg
import Derived.Test.YtofadgmnjckpcaaGreatDoorUbd
import Derived.Test.YtofadgmnjckpcaaGreatDoorUak
import Derived.Test.YtofadgmnjckpcaaGreatDoorUao
import Derived.Deep.CutRange
import Derived.Deep.DeepCutAuto
import Derived.Test.YtofadgmnjckpcaaGreatDoorUax
import Derived.Test.YtofadgmnjckpcaaGreatDoorUay
namespace Go.Proofs.YtofadgmnjckpcaaGreatDoor
open Go.RowKit

theorem zcells_size (z : Array Value) (n : Nat) : (Builtin.zeroCells z n).size = n * z.size := by simp [Builtin.zeroCells]
set_option maxRecDepth 100000 in
set_option maxHeartbeats 4000000 in
theorem growg_core (n : Nat) (hn : n ≤ 1000000) (w : World) :
    Calls Tryz.prog 71 #[.slice none 0 0, .int .i64 (n : Int)] w fun e w' => ∃ v, e = .returned v ∧ w'.ownsRow w.heap.size 32 3 v 0 [] ∧ Below w.heap.size w w' := by
  obtain ⟨i0, hi, hz0, hz1, hz2⟩ := info_parts gInfo
  by_cases h0 : n = 0
  · subst h0
    go_enter Tryz.func71, Tryz.ntmps71
    go_wp2_with fail
    go_ret
    exact ⟨_, rfl, World.ownsRow_nil _ _ _ _, Below.refl _ _⟩
  · have hGn : n ≤ grownCap w n 0 32 := grownCap_ge w _ _ _
    have hG63 := grownCap_le_maxLen w n 0 32 (by unfold maxLen; omega)
    have hrz : ∀ ty, (Builtin.append_ #[25, 3] ty #[.slice none 0 0, .int .i64 (n : Int)]).run Tryz.prog w =
      .ok (.slice (some ⟨w.heap.size, 0, none⟩) n (grownCap w n 0 32)) (w.drew.alloc (.cells (Builtin.zeroCells #[.int .i64 0, .string ⟨#[]⟩, .slice none 0 0] n ++ Builtin.zeroCells #[.int .i64 0, .string ⟨#[]⟩, .slice none 0 0] (grownCap w n 0 32 - n)) 32)) := fun ty => by
      have h := Lib.run_append_grow_zeros w 25 3 ty 32 i0 _ .i64 .i64 Tryz.underlying25 Tryz.underlying3 hi hz0 none 0 0 [] (run_firstCells_none w.drew i0.size 0 0 0) n (by omega) (by rw [hz1]; decide) (by omega) (by omega)
        (by rw [hz2]; omega) (growslice_fits (by omega) (by rw [hz2]; omega))
      rw [Nat.zero_add] at h
      simpa [Value.cells] using h
    have h1 : decide ((n : Int) < 0) = false := by simp
    have h2 : decide ((0 : Int) < (n : Int)) = true := by simp; omega
    have h3 : decide (0 < n) = true := by simp; omega
    obtain ⟨G, hG⟩ : ∃ G, G = grownCap w n 0 32 := ⟨_, rfl⟩
    rw [← hG] at hrz hGn hG63
    have HG63 := Lib.hid hG63
    have HGN := Lib.hid hGn
    have hg : G ≤ 9223372036854775807 := by unfold maxLen at hG63; omega
    clear hG hi hz0 hz1 hz2 hG63
    go_enter Tryz.func71, Tryz.ntmps71
    go_wp2_with (at_builtin; refine Lib.wpList_append_run _ rfl _ _ _ _ rfl _ _ rfl rfl _ _ (hrz _) ?_)
    go_ret
    exact ⟨_, rfl, ⟨rfl, .inr ⟨w.heap.size, G, _, rfl, Nat.le_refl _, heap_alloc_new w.drew _, Nat.zero_le _, HG63.out, by have := HGN.out; rw [Array.size_append, zcells_size, zcells_size]; simp; omega, rfl⟩⟩, (belowNew w _).drew⟩
set_option maxRecDepth 100000 in
set_option maxHeartbeats 4000000 in
theorem concat_core (Q : Option Addr → Nm → Prop) (a0 : Option Addr) (c m : Nat) (L : List (List Gn)) (w : World) (h : LLiesQ Q w a0 L) (hm : m = L.length) (hmm : m ≤ 1000000) (hne : ∀ l ∈ L, l.length ≠ 0) (hf : L.flatten.length ≤ 1000000) :
    Calls Tryz.prog 57 #[.slice a0 m c] w fun e w' => ∃ v, e = .returned v ∧ RowQ Q w' w.heap.size v L.flatten ∧ Below w.heap.size w w' := by
  obtain ⟨i0, hi, hz0, hz1, hz2⟩ := info_parts gInfo
  have H1 := Lib.hid h
  have HM := Lib.hid hm
  have HNE := Lib.hid hne
  have HF := Lib.hid hf
  clear h hm hne hf
  go_enter Tryz.func57, Tryz.ntmps57
  go_wp2_with fail
  go_loopw [3, 11] (fun z i wr => ∃ k s : Nat, k ≤ m ∧ i = .int .i64 (k : Int) ∧ z = .int .i64 (s : Int) ∧ s = (L.take k).flatten.length ∧ wr = w) (fun _ i _ => m - (intOf i).toNat)
  case atStart => exact ⟨0, 0, Nat.zero_le _, rfl, rfl, rfl, rfl⟩
  case round =>
    obtain ⟨wq, hwq⟩ : ∃ wq, wq = wr := ⟨_, rfl⟩
    subst hwq
    obtain ⟨k, s, hk, rfl, rfl, hs, rfl⟩ := hrel
    have HS := Lib.hid hs
    by_cases hlt : k < m
    · have hd : decide ((k : Int) < (m : Int)) = true := by simp; omega
      obtain ⟨b, o, rfl, hbl, a1, c1, e0, hc1, hL1⟩ := H1.out.at k (by rw [← HM.out]; exact hlt)
      have hst := flatL_step L k (by rw [← HM.out]; exact hlt)
      have hle := flat_le L (k + 1)
      rw [hst, List.length_append, ← hs] at hle
      clear hbl hs
      generalize L.getD k [] = G at e0 hc1 hL1 hst hle
      obtain ⟨N, hN⟩ : ∃ N, N = G.length := ⟨_, rfl⟩
      rw [← hN] at e0 hle hc1
      have hsn : s + N ≤ 1000000 := Nat.le_trans hle HF.out
      have hsz : decide (((s : Int) + (N : Int)) < 0) = false := by simp; omega
      have HST := Lib.hid hst
      have HN := Lib.hid hN
      clear hst hle hN hc1 hL1
      go_wp2_with fail
      go_roundw
      case rel => exact ⟨k + 1, s + N, by omega, by go_num, by go_num, by rw [HST.out, List.length_append, ← HN.out, ← HS.out], trivial⟩
      case measure => simp [intOf]; omega
    · have hd : decide ((k : Int) < (m : Int)) = false := by simp; omega
      obtain rfl : k = m := by omega
      have hsl : s = L.flatten.length := by rw [hs, List.take_of_length_le (by rw [← HM.out]; exact Nat.le_refl _)]
      have hsm : s ≤ 1000000 := by rw [hsl]; exact HF.out
      have HG := Lib.hid (growg_core s hsm wq)
      clear hs hsl HS
      go_wp2_with (go_at_call 71; (with_reducible refine HG.out.mono ?_); rintro e w1 ⟨v1, rfl, ho1, hb1⟩; have HO1 := Lib.hid ho1; have HB1 := Lib.hid hb1; clear ho1 hb1)
      clear HG
      go_loopw [6, 27] (fun v i wx => ∃ j : Nat, j ≤ k ∧ i = .int .i64 (j : Int) ∧ RowQ Q wx wq.heap.size v (L.take j).flatten ∧ Below wq.heap.size wq wx) (fun _ i _ => k - (intOf i).toNat)
      case atStart => exact ⟨0, Nat.zero_le _, rfl, ⟨[], rfl, HO1.out, fun i hi => absurd hi (Nat.not_lt_zero _)⟩, HB1.out⟩
      case round =>
        obtain ⟨wz, hwz⟩ : ∃ wz, wz = wr := ⟨_, rfl⟩
        subst hwz
        obtain ⟨j, hj, rfl, hrow, hb⟩ := hrel
        have HB := Lib.hid hb
        obtain ⟨X, hX⟩ : ∃ X, X = (L.take j).flatten := ⟨_, rfl⟩
        rw [← hX] at hrow
        have hXl : X.length ≤ 1000000 := by rw [hX]; exact Nat.le_trans (flat_le L j) HF.out
        obtain ⟨av, cv, hv, _, hlv⟩ := hrow.lies
        subst hv
        obtain ⟨MX, hMX⟩ : ∃ MX, MX = X.length := ⟨_, rfl⟩
        have HMX := Lib.hid hMX
        have HROW := Lib.hid hrow
        have HX := Lib.hid hX
        have HXL := Lib.hid hXl
        rw [← hMX] at HROW HXL ⊢
        clear hMX hX hXl hrow hlv
        by_cases hlt2 : j < k
        · have hd2 : decide ((j : Int) < (k : Int)) = true := by simp; omega
          obtain ⟨b, o, rfl, hbl, a1, c1, e0, hc1, hL1⟩ := H1.out.at j (by rw [← HM.out]; exact hlt2)
          have hst := flatL_step L j (by rw [← HM.out]; exact hlt2)
          have hle := flat_le L (j + 1)
          have hne0 := HNE.out (L.getD j []) (by rw [List.getD_eq_getElem?_getD, List.getElem?_eq_getElem (by rw [← HM.out]; exact hlt2)]; exact List.getElem_mem _)
          have f0 := (hb.cell (p := ⟨b, o + j, none⟩) hbl).trans e0
          rw [hst, List.length_append, ← HX.out, ← HMX.out] at hle
          rw [← HX.out] at hst
          clear hbl e0
          generalize L.getD j [] = G at f0 hc1 hL1 hst hle hne0
          cases a1 with
          | none =>
            have hz : G.length = 0 := by
              rcases hL1 with h | ⟨b, o, h, _⟩
              · rw [h]; rfl
              · cases h
            exact absurd hz hne0
          | some ad =>
          obtain ⟨tt, htt, hnw, hnm⟩ := gliesq_list (hL1.below hb)
          have HON := Lib.hid (gs_one G tt htt (fun i hi => by obtain ⟨a, c, e, _⟩ := hnm i hi; exact ⟨_, _, _, e⟩))
          obtain ⟨N, hN⟩ : ∃ N, N = G.length := ⟨_, rfl⟩
          rw [← hN] at f0 hle hc1
          have hsn : MX + N ≤ 1000000 := Nat.le_trans hle HF.out
          have HST := Lib.hid hst
          have HN := Lib.hid hN
          have HNW := Lib.hid hnw
          have HTT := Lib.hid htt
          have HNM := Lib.hid hnm
          obtain ⟨ss, hv1, hv2, hv3⟩ := HROW.out
          rw [← HMX.out] at hv2
          have HV1 := Lib.hid hv1
          have HV2 := Lib.hid hv2
          have HV3 := Lib.hid hv3
          clear hst hle hN hc1 hL1 hne0 htt hnw hnm hv1 hv2 hv3 hb
          go_wp2_with (at_builtin; (refine wpList_append_own _ rfl (.tmp 31) (.tmp 32) 25 rfl wq.heap.size 32 i0 (.agg #[.int .i64 0, .string ⟨#[]⟩, .slice none 0 0]) 3 48 Tryz.underlying25 hi hz0 hz1 hz2 rfl (by decide) (.slice av MX cv) MX (gsCells X ss) rfl HV2.out ad N c1 (gsCells G tt) rfl (by rw [gsCells_length G tt HTT.out, HN.out]) HNW.out HON.out (by unfold maxLen; omega) (by omega) HB.out.size ?_); intro v' w6 hown6 hgr6 _; have HP1 := Lib.hid hown6; have HP2 := Lib.hid (HB.out.grown hgr6 HB.out.size (fun j e => (World.ownsRow.lt HV2.out j e).1)); clear hown6 hgr6)
          go_roundw
          case rel => exact ⟨j + 1, by omega, by go_num, by
            rw [HST.out]
            exact RowQ.append HV1.out HV3.out HTT.out HNM.out (by rw [← HMX.out, ← HN.out]; exact HP1.out), HP2.out⟩
          case measure => simp [intOf]; omega
        · have hd2 : decide ((j : Int) < (k : Int)) = false := by simp; omega
          obtain rfl : j = k := by omega
          have HT := Lib.hid (show X = L.flatten by rw [HX.out, List.take_of_length_le (by rw [← HM.out]; exact Nat.le_refl _)])
          clear hb
          go_wp2_with fail
          go_ret
          exact ⟨_, rfl, by rw [← HT.out]; exact HROW.out, HB.out⟩
end Go.Proofs.YtofadgmnjckpcaaGreatDoor
namespace Go.Proofs.YtofadgmnjckpcaaGreatDoor
open Go.RowKit

set_option maxRecDepth 100000 in
set_option maxHeartbeats 4000000 in
theorem within_core' (Q : Option Addr → Nm → Prop) (al : Option Addr) (cl m : Nat) (L : List (List Gn)) (w : World) (h : LLiesQ Q w al L) (hQ : ∀ V, Below w.heap.size w V → ∀ a n, Q a n → RLies V a n) (hm : m = L.length) (hmm : m ≤ 1000000) (hne : ∀ l ∈ L, l.length ≠ 0) (hf : L.flatten.length ≤ 1000000) (hL : ∀ x ∈ L, SmL x ∧ x.length ≤ 1000000) (hmk : Mk w) :
    Calls Tryz.prog 40 #[.slice al m cl] w fun e w' => ∃ v, e = .returned v ∧ RowQ Q w' w.heap.size v (keepG (outG L) L.flatten) ∧ Below w.heap.size w w' := by
  obtain ⟨W0, hW0⟩ : ∃ W0, W0 = w.alloc (.cells #[.slice al m cl] 75) := ⟨_, rfl⟩
  have hwr := hW0.symm
  have hb0 : Below w.heap.size w W0 := by rw [hW0]; exact belowNew w _
  obtain ⟨b0, _, lb⟩ := one_facts (w := W0) (g := w.heap.size) (by rw [hW0]; exact heap_alloc_new w _)
  have HB0 := Lib.hid hb0
  have HWS := Lib.hid hb0.size
  have HP := Lib.hid (show GivesI 54 #[.pointer (some ⟨w.heap.size, 0, none⟩)] (outG L) SmG Q (fun V => Below W0.heap.size W0 V) from
    fun a c N q t n V hI hq hN hNc hs => outside_any al a cl m c N w.heap.size L q t n V ((hI.cell (p := ⟨w.heap.size, 0, none⟩) lb).trans b0) (Nat.lt_of_lt_of_le lb hI.size) (((h.below hb0).below hI).toL (hQ V (below_next hb0 hI))) hm (by omega) hL (hQ V (below_next hb0 hI) _ _ hq) hN hNc hs ((hmk.below hb0).below hI))
  have HPR := Lib.hid (show ∀ x ∈ L.flatten, SmG x from fun x hx => by
    obtain ⟨l, hl, hxl⟩ := List.mem_flatten.1 hx
    exact (hL l hl).1 x hxl)
  have HC := Lib.hid (concat_core Q al cl m L W0 (h.below hb0) hm hmm hne hf)
  obtain ⟨F, hF⟩ : ∃ F, F = L.flatten := ⟨_, rfl⟩
  rw [← hF] at HC HPR hf ⊢
  obtain ⟨NF, hNF⟩ : ∃ NF, NF = F.length := ⟨_, rfl⟩
  rw [← hNF] at hf
  have HNF := Lib.hid hNF
  have HDF := Lib.hid (fun (av : Option Addr) (cv : Nat) (V : World) (hr : RowQ Q V W0.heap.size (.slice av NF cv) F) (hv : Below W0.heap.size W0 V) =>
    delf_core 54 #[.pointer (some ⟨w.heap.size, 0, none⟩)] (enters_of Tryz.func54 (by kernel_rfl) rfl) (outG L) SmG Q (fun V => Below W0.heap.size W0 V) W0.heap.size (fun V V' hV hb => hV.trans hb) HP.out av cv NF F V hr hNF hf hv.size hv HPR.out)
  clear h hQ hm hne hf hL hmk hb0 hW0 hF hNF lb
  go_enter Tryz.func40, Tryz.ntmps40
  go_wp2_with (first
    | (go_at_call 57; (with_reducible refine HC.out.mono ?_); rintro e w3 ⟨v3, rfl, hr3, hb3⟩; obtain ⟨a3, c3, rfl, _, _⟩ := hr3.lies; rw [← HNF.out]; have HD := Lib.hid (HDF.out a3 c3 w3 (by rw [HNF.out]; exact hr3) hb3); have HB3 := Lib.hid hb3; clear hr3 hb3)
    | (go_at_call 52; (with_reducible refine HD.out.mono ?_); rintro e w4 ⟨v4, rfl, hr4, hb4⟩; have HR4 := Lib.hid hr4; have HB4 := Lib.hid (HB3.out.trans hb4); clear hr4 hb4))
  go_ret
  exact ⟨_, rfl, HR4.out.base HWS.out, below_next HB0.out HB4.out⟩
end Go.Proofs.YtofadgmnjckpcaaGreatDoor
namespace Go.Proofs.YtofadgmnjckpcaaGreatDoor
open Go.RowKit

end Go.Proofs.YtofadgmnjckpcaaGreatDoor
namespace Go.Proofs.YtofadgmnjckpcaaGreatDoor
open Go.RowKit

theorem adds_snoc (l : List Gn) (k : Nat) (hk : k < l.length) : addsG [] (l.take (k + 1)) = addG (addsG [] (l.take k)) (l.getD k noG) := by
  unfold addsG
  rw [List.take_succ_eq_append_getElem hk, List.foldl_append, List.getD_eq_getElem?_getD, List.getElem?_eq_getElem hk]
  rfl
set_option maxRecDepth 100000 in
set_option maxHeartbeats 4000000 in
theorem distinct1_any (ag a : Option Addr) (cg c N m B : Nat) (q k : Int) (t u : List UInt8) (n r : Nm) (W : World) (g0 : W.cell? ⟨B, 0, none⟩ = some (.int .i64 q)) (g1 : W.cell? ⟨B, 1, none⟩ = some (.string (strOf t))) (g2 : W.cell? ⟨B, 2, none⟩ = some (.slice ag N cg)) (hB : B < W.heap.size)
    (hg : RLies W ag n) (hr : RLies W a r) (hN : N = n.length) (hmc : m ≤ c) (hm : m = r.length) (hs : SmG (q, t, n)) (hu : SmG (k, u, r)) (hmk : Mk W) :
    Calls Tryz.prog 58 (#[.agg #[.int .i64 k, .string (strOf u), .slice a m c]] ++ #[.pointer (some ⟨B, 0, none⟩)]) W fun e w' => e = .returned (.bool (sG (k, u, r) (q, t, n))) ∧ Below W.heap.size W w' := by
  obtain ⟨W0, hW0⟩ : ∃ W0, W0 = W.alloc (.cells #[.int .i64 k, .string (strOf u), .slice a m c] 32) := ⟨_, rfl⟩
  have hwr := hW0.symm
  have hb0 : Below W.heap.size W W0 := by rw [hW0]; exact belowNew W _
  obtain ⟨b0, b1, b2, lb⟩ := three_facts (w := W0) (g := W.heap.size) (by rw [hW0]; exact heap_alloc_new W _)
  have k0 := (hb0.cell (p := ⟨B, 0, none⟩) hB).trans g0
  have k1 := (hb0.cell (p := ⟨B, 1, none⟩) hB).trans g1
  have k2 := (hb0.cell (p := ⟨B, 2, none⟩) hB).trans g2
  have HB0 := Lib.hid hb0
  have HX := Lib.hid (gsame_core a ag c cg m N k q u t r n W0 (hr.below hb0) (hg.below hb0) hm hN hmc hu.1 hs.1 hu.2 hs.2 (hmk.below hb0))
  rw [show sameG k u r q t n = sG (k, u, r) (q, t, n) from rfl] at HX
  generalize sG (k, u, r) (q, t, n) = E at HX
  clear g0 g1 g2 hg hr hN hmc hm hs hu hmk hb0 hW0
  go_enter Tryz.func58, Tryz.ntmps58
  go_wp2_with (go_at_call 59; (with_reducible refine HX.out.mono ?_); rintro e w3 ⟨rfl, hb3⟩; have HB3 := Lib.hid (below_next HB0.out hb3); clear hb3)
  go_ret
  exact ⟨rfl, HB3.out⟩
set_option maxRecDepth 100000 in
set_option maxHeartbeats 4000000 in
/-- w is the world now, W the one in which the names lie. -/
theorem distinct_core (a0 : Option Addr) (c m : Nat) (l : List Gn) (W w : World) (hW : Below W.heap.size W w) (h : GLiesQ (fun a n => RLies W a n) w a0 l) (hm : m = l.length) (hmm : m ≤ 1000000) (hl : SmL l) (hmk : Mk w) :
    Calls Tryz.prog 42 #[.slice a0 m c] w fun e w' => ∃ v, e = .returned v ∧ RowQ (fun a n => RLies W a n) w' w.heap.size v (addsG [] l) ∧ (addsG [] l).length ≤ m ∧ SmL (addsG [] l) ∧ Below w.heap.size w w' := by
  obtain ⟨i0, hi, hz0, hz1, hz2⟩ := info_parts gInfo
  have HGL := Lib.hid h
  have HM := Lib.hid hm
  have HL := Lib.hid hl
  have HK := Lib.hid hmk
  have HWW := Lib.hid hW
  clear h hm hl hmk hW
  go_enter Tryz.func42, Tryz.ntmps42
  go_wp2_with fail
  go_loopw [3, 8] (fun v i wr => ∃ (k : Nat) (X : List Gn), k ≤ m ∧ i = .int .i64 k ∧ X = addsG [] (l.take k) ∧ X.length ≤ k ∧ SmL X ∧ RowQ (fun a n => RLies W a n) wr w.heap.size v X ∧ Below w.heap.size w wr) (fun _ i _ => m - (intOf i).toNat)
  case atStart => exact ⟨0, [], Nat.zero_le _, rfl, rfl, Nat.le_refl _, (fun _ h => nomatch h), RowQ.nil _ _ _, Below.refl _ _⟩
  case round =>
    obtain ⟨wz, hwz⟩ : ∃ wz, wz = wr := ⟨_, rfl⟩
    subst hwz
    obtain ⟨k, X, hk, rfl, hX, hXl, hXs, hrow, hb⟩ := hrel
    have HB := Lib.hid hb
    have HX := Lib.hid hX
    have HXS := Lib.hid hXs
    have HXL := Lib.hid hXl
    obtain ⟨av, cv, hv, _, hlv⟩ := hrow.lies
    subst hv
    obtain ⟨MX, hMX⟩ : ∃ MX, MX = X.length := ⟨_, rfl⟩
    have HMX := Lib.hid hMX
    have HROW := Lib.hid hrow
    rw [← hMX] at HROW HXL ⊢
    by_cases hlt : k < m
    · have hd : decide ((k : Int) < (m : Int)) = true := by simp; omega
      obtain ⟨b, o, rfl, hbl, e0, e1, a1, c1, e2, hc1, hL1⟩ := HGL.out.at k (by rw [← HM.out]; exact hlt)
      have f0 := (hb.cell (p := ⟨b, o + k * 3, none⟩) hbl).trans e0
      have f1 := (hb.cell (p := ⟨b, o + k * 3 + 1, none⟩) hbl).trans e1
      have f2 := (hb.cell (p := ⟨b, o + k * 3 + 2, none⟩) hbl).trans e2
      have hst := adds_snoc l k (by rw [← HM.out]; exact hlt)
      have hsm := HL.out (l.getD k noG) (by rw [List.getD_eq_getElem?_getD, List.getElem?_eq_getElem (by rw [← HM.out]; exact hlt)]; exact List.getElem_mem _)
      rw [← hX] at hst
      have HST := Lib.hid hst
      clear e0 e1 e2 hbl hst hX
      generalize l.getD k noG = G at f0 f1 f2 hsm hL1 hc1 HST
      obtain ⟨q, t, n⟩ := G
      simp only at f0 f1 f2 hsm hL1 hc1 HST
      obtain ⟨N, hN⟩ : ∃ N, N = n.length := ⟨_, rfl⟩
      rw [← hN] at f2 hc1
      have HN := Lib.hid hN
      have HC1 := Lib.hid hc1
      have HS := Lib.hid hsm
      have HL1 := Lib.hid hL1
      obtain ⟨W2, hW2⟩ : ∃ W2, W2 = wz.alloc (.cells #[.int .i64 q, .string (strOf t), .slice a1 N c1] 32) := ⟨_, rfl⟩
      have hb2 : Below wz.heap.size wz W2 := by rw [hW2]; exact belowNew wz _
      obtain ⟨s0, s1, s2, ls⟩ := three_facts (w := W2) (g := wz.heap.size) (by rw [hW2]; exact heap_alloc_new wz _)
      have hwr := hW2.symm
      have hbw := below_next hb hb2
      have hWW := below_next HWW.out hbw
      have HB2 := Lib.hid hbw
      have HCF := Lib.hid (contf_core 58 #[.pointer (some ⟨wz.heap.size, 0, none⟩)] (enters_of Tryz.func58 (by kernel_rfl) rfl) (fun x => sG x (q, t, n)) SmG (fun a n => RLies W a n) (fun V => Below W2.heap.size W2 V) (fun V V' h hb => below_next h hb)
        (fun a c m' k' u r V hI hr hm' hmc hu => distinct1_any a1 a c1 c N m' wz.heap.size q k' t u n r V ((hI.cell (p := ⟨wz.heap.size, 0, none⟩) ls).trans s0) ((hI.cell (p := ⟨wz.heap.size, 1, none⟩) ls).trans s1) ((hI.cell (p := ⟨wz.heap.size, 2, none⟩) ls).trans s2) (Nat.lt_of_lt_of_le ls hI.size) (hL1.below (below_next hWW hI)) (hr.below (below_next hWW hI)) hN hmc hm' hsm hu ((HK.out.below hbw).below hI)) av cv MX X W2 (hlv.below hb2) hMX (by omega) (Below.refl _ _) hXs)
      have HSP := Lib.hid (show addG X (q, t, n) = if X.any (fun x => sG x (q, t, n)) = true then X else X ++ [(q, t, n)] from rfl)
      generalize X.any (fun x => sG x (q, t, n)) = P at HCF HSP
      have S0 := Lib.hid s0
      have S1 := Lib.hid s1
      have S2 := Lib.hid s2
      clear hb hMX hW2 hb2 hbw hWW hsm hL1 hc1 hN hXs hXl hrow hlv s0 s1 s2
      go_wp2_with fail
      refine HCF.out.mono ?_
      rintro e w3 ⟨rfl, hb3⟩
      have HB3 := Lib.hid (below_next HB2.out hb3)
      have s0 := (hb3.cell (p := ⟨wz.heap.size, 0, none⟩) ls).trans S0.out
      have s1 := (hb3.cell (p := ⟨wz.heap.size, 1, none⟩) ls).trans S1.out
      have s2 := (hb3.cell (p := ⟨wz.heap.size, 2, none⟩) ls).trans S2.out
      have hb23 : Below wz.heap.size wz w3 := below_next (by rw [← hwr]; exact belowNew wz _) hb3
      have HB23 := Lib.hid hb23
      clear hb3 HCF f0 f1 f2 hwr hb23
      cases P with
      | true =>
        have HSE := Lib.hid (show addsG [] (l.take (k + 1)) = X by rw [HST.out, HSP.out]; rfl)
        clear HSP
        go_wp2_with fail
        go_roundw
        case rel => exact ⟨k + 1, X, by omega, by go_num, HSE.out.symm, by rw [← HMX.out]; have := HXL.out; omega, HXS.out, HROW.out.below HB23.out, HB3.out⟩
        case measure => simp [intOf]; omega
      | false =>
        have HSE := Lib.hid (show addsG [] (l.take (k + 1)) = X ++ [(q, t, n)] by rw [HST.out, HSP.out]; rfl)
        clear HSP
        obtain ⟨ss, hv1, hv2, hv3⟩ := HROW.out
        rw [← HMX.out] at hv2
        have HV1 := Lib.hid hv1
        have HV2 := Lib.hid (own_below hv2 HB23.out)
        have HV3 := Lib.hid hv3
        clear hv1 hv2 hv3
        go_wp2_with (at_builtin; (refine wpList_append_own _ rfl (.tmp 16) (.tmp 18) 25 rfl w.heap.size 32 i0 (.agg #[.int .i64 0, .string ⟨#[]⟩, .slice none 0 0]) 3 48 Tryz.underlying25 hi hz0 hz1 hz2 rfl (by decide) (.slice av MX cv) MX (gsCells X ss) rfl (own_below HV2.out (belowNew _ _)) ⟨w3.heap.size, 0, none⟩ 1 1 (gCells (q, t, n) (.slice a1 N c1)) rfl rfl (fun j u h => news_row w3 #[.int .i64 q, .string (strOf t), .slice a1 N c1] 32 j u (by simpa [gCells] using h)) (gCells_one _ _ _ _) (by have := HXL.out; unfold maxLen; omega) (by have := HXL.out; omega) (by have := HB3.out.size; simp; omega) ?_); intro v' w6 hown6 hgr6 _; have P3 := RowQ.snoc (Q := fun a m => RLies W a m) (a := a1) (c := c1) (g := (q, t, n)) HV1.out HV3.out HL1.out (by rw [← HN.out]; exact HC1.out) (by rw [← HMX.out, ← HN.out]; exact hown6); have P2 := (HB3.out.trans ((belowNew w3 _).mono HB3.out.size)).grown hgr6 (by have := HB3.out.size; simp; omega) (fun j e => (World.ownsRow.lt HV2.out j e).1); have HP3 := Lib.hid P3; have HP2 := Lib.hid P2; clear P2 P3 hown6 hgr6)
        go_roundw
        case rel => exact ⟨k + 1, X ++ [(q, t, n)], by omega, by go_num, HSE.out.symm, by rw [List.length_append, ← HMX.out]; have := HXL.out; simp; omega, (fun x hx => by
          rcases List.mem_append.1 hx with hx | hx
          · exact HXS.out x hx
          · rw [List.mem_singleton.1 hx]; exact HS.out), HP3.out, HP2.out⟩
        case measure => simp [intOf]; omega
    · have hd : decide ((k : Int) < (m : Int)) = false := by simp; omega
      obtain rfl : k = m := by omega
      have HT := Lib.hid (show X = addsG [] l by rw [hX, List.take_of_length_le (by rw [← HM.out]; exact Nat.le_refl _)])
      clear hX hXl hXs hrow hlv hMX hb
      go_wp2_with fail
      go_ret
      exact ⟨_, rfl, by rw [← HT.out]; exact HROW.out, by rw [← HT.out, ← HMX.out]; exact HXL.out, by rw [← HT.out]; exact HXS.out, HB.out⟩
end Go.Proofs.YtofadgmnjckpcaaGreatDoor
