/-
  The contracts of both PermitsReduced, and of slices.Contains over ints.
-/
import Derived.Test.YtofadgmnjckpcaaGreatDoorVba
import Derived.Test.YtofadgmnjckpcaaGreatDoorVar
import Derived.Test.YtofadgmnjckpcaaGreatDoorVbe
import Derived.Lib.QuietBelow
import Derived.BigQuiet
namespace Go.Proofs.YtofadgmnjckpcaaGreatDoor
open Go.RowKit

theorem any_ints (zs : List Int) (x : Int) (k : Nat) (hk : k < zs.length) (_ : ∀ j, j < k → zs.getD j 0 ≠ x) (e : zs.getD k 0 = x) : zs.any (fun z => decide (z = x)) = true := by
  rw [List.getD_eq_getElem?_getD, List.getElem?_eq_getElem hk] at e
  exact List.any_eq_true.2 ⟨_, List.getElem_mem hk, by simpa using e⟩
theorem any_noints (zs : List Int) (x : Int) (h : ∀ j, j < zs.length → zs.getD j 0 ≠ x) : zs.any (fun z => decide (z = x)) = false := by
  rw [List.any_eq_false]
  intro z hz
  obtain ⟨i, hi, rfl⟩ := List.getElem_of_mem hz
  have := h i hi
  rw [List.getD_eq_getElem?_getD, List.getElem?_eq_getElem hi] at this
  simpa using this
theorem any_contains (zs : List Int) (x : Int) : zs.any (fun z => decide (z = x)) = zs.contains x := by
  induction zs with
  | nil => rfl
  | cons z r ih =>
    rw [List.any_cons, List.contains_cons, ih]
    by_cases h : z = x
    · subst h; simp
    · have h2 : (x == z) = false := by simpa using fun e => h e.symm
      rw [h2]; simp [h]
theorem any_istep (zs : List Int) (x : Int) (k : Nat) (hk : k < zs.length) : (zs.take (k + 1)).any (fun z => decide (z = x)) = ((zs.take k).any (fun z => decide (z = x)) || decide (zs.getD k 0 = x)) := by
  rw [List.take_succ_eq_append_getElem hk, List.any_append, List.getD_eq_getElem?_getD, List.getElem?_eq_getElem hk]
  simp
set_option maxRecDepth 100000 in
theorem intidx_core (a : Option Addr) (c m : Nat) (zs : List Int) (x : Int) (w : World) (h : ILies w a zs) (hm : m = zs.length) (hmm : m ≤ 1000000) :
    Calls Tryz.prog 63 #[.slice a m c, .int .i64 x] w fun e w' => ∃ r : Int, e = .returned (.int .i64 r) ∧ decide (0 ≤ r) = zs.any (fun z => decide (z = x)) ∧ w' = w := by
  have H1 := Lib.hid h
  have HN := Lib.hid hm
  clear h hm
  go_enter Tryz.func63, Tryz.ntmps63
  go_wp2_with fail
  go_loopw [5, 8] (fun _ i wr => ∃ k : Nat, k ≤ m ∧ i = .int .i64 k ∧ (∀ j, j < k → zs.getD j 0 ≠ x) ∧ wr = w) (fun _ i _ => m - (intOf i).toNat)
  case atStart => exact ⟨0, Nat.zero_le _, rfl, fun j hj => absurd hj (Nat.not_lt_zero _), rfl⟩
  case round =>
    obtain ⟨k, hk, rfl, hA, rfl⟩ := hrel
    have HA := Lib.hid hA
    clear hA
    by_cases hlt : k < m
    · have hd : decide ((k : Int) < (m : Int)) = true := by simp; omega
      have hki : (k : Int) < (m : Int) := by omega
      obtain ⟨b, o, rfl, e0⟩ := H1.out.at k (by rw [← HN.out]; exact hlt)
      obtain ⟨z, hz⟩ : ∃ z, z = zs.getD k 0 := ⟨_, rfl⟩
      rw [← hz] at e0
      have HZ := Lib.hid hz
      clear hz
      by_cases hx : x = z
      · have hxd : decide (x = z) = true := decide_eq_true hx
        have hxb : (x == z) = true := by simpa using hx
        have HX := Lib.hid hx
        clear hx
        go_wp2_with fail
        go_ret
        exact ⟨_, rfl, by rw [any_ints zs x k (by rw [← HN.out]; exact hlt) HA.out (HZ.out.symm.trans HX.out.symm)]; simp, rfl⟩
      · have hxd : decide (x = z) = false := decide_eq_false hx
        have hxb : (x == z) = false := by simpa using hx
        have HX := Lib.hid hx
        clear hx
        go_wp2_with fail
        go_roundw
        case rel => exact ⟨k + 1, by omega, by go_num, fun j hj => by
          by_cases hjk : j < k
          · exact HA.out j hjk
          · obtain rfl : j = k := by omega
            exact fun e => HX.out (e.symm.trans HZ.out.symm), trivial⟩
        case measure => simp [intOf]; omega
    · have hd : decide ((k : Int) < (m : Int)) = false := by simp; omega
      obtain rfl : k = m := by omega
      go_wp2_with fail
      go_ret
      exact ⟨_, rfl, by rw [any_noints zs x (by rw [← HN.out]; exact HA.out)]; simp, rfl⟩
set_option maxRecDepth 100000 in
theorem intcon_core (a : Option Addr) (c m : Nat) (zs : List Int) (x : Int) (w : World) (h : ILies w a zs) (hm : m = zs.length) (hmm : m ≤ 1000000) :
    Calls Tryz.prog 46 #[.slice a m c, .int .i64 x] w fun e w' => e = .returned (.bool (zs.contains x)) ∧ Below w.heap.size w w' := by
  have HI := Lib.hid (intidx_core a c m zs x w h hm hmm)
  clear h hm
  go_enter Tryz.func46, Tryz.ntmps46
  go_wp2_with (go_at_call 63; (with_reducible refine HI.out.mono ?_); rintro e w1 ⟨r, rfl, hr, rfl⟩; have HR := Lib.hid hr; clear hr)
  go_ret
  exact ⟨by show Ending.returned (.bool (decide (0 ≤ r))) = _; rw [HR.out, any_contains], Below.refl _ _⟩
set_option maxRecDepth 100000 in
set_option maxHeartbeats 4000000 in
theorem pred_core (ai a1 a2 ag : Option Addr) (ci NI c1 c2 NA NB cg N : Nat) (zs : List Int) (A B : List Gn) (q : Int) (t : List UInt8) (n : Nm) (w : World) (hz : ILies w ai zs) (hzn : NI = zs.length) (hzz : NI ≤ 1000000) (h1 : GLies w a1 A) (h2 : GLies w a2 B) (hA : NA = A.length) (hB : NB = B.length) (hzs : NA ≤ 1000000 ∧ NB ≤ 1000000) (hg : RLies w ag n) (hN : N = n.length) (hNc : N ≤ cg) (hs : SmG (q, t, n)) (hl : SmL A ∧ SmL B) (hmk : Mk w) :
    Calls Tryz.prog 27 #[.agg #[.slice ai NI ci, .slice a1 NA c1, .slice a2 NB c2], .agg #[.int .i64 q, .string (strOf t), .slice ag N cg]] w fun e w' => e = .returned (.bool (perR zs A B (q, t, n))) ∧ Below w.heap.size w w' := by
  obtain ⟨W0, hW0⟩ : ∃ W0, W0 = (w.alloc (.cells #[.slice ai NI ci, .slice a1 NA c1, .slice a2 NB c2] 53)).alloc (.cells #[.int .i64 q, .string (strOf t), .slice ag N cg] 32) := ⟨_, rfl⟩
  have hwr := hW0.symm
  have hb0 : Below w.heap.size w W0 := by rw [hW0]; exact belowTwo w _ _
  obtain ⟨x0, x1, x2, lx⟩ := three_facts (w := W0) (g := w.heap.size) (by rw [hW0, heap_first]; exact heap_alloc_new w _)
  obtain ⟨g0, g1, g2, lg⟩ := three_facts (w := W0) (g := w.heap.size + 1) (by rw [hW0]; exact heap_second w _ _ _)
  obtain ⟨W1, hW1⟩ : ∃ W1, W1 = W0.alloc (.cells #[.slice a1 NA c1, .slice a2 NB c2] 27) := ⟨_, rfl⟩
  have hwr1 := hW1.symm
  have hb1 : Below w.heap.size w W1 := below_next hb0 (by rw [hW1]; exact belowNew W0 _)
  have hb01 : Below W0.heap.size W0 W1 := by rw [hW1]; exact belowNew W0 _
  obtain ⟨s0, s1, ls⟩ := two_facts (w := W1) (g := W0.heap.size) (by rw [hW1]; exact heap_alloc_new W0 _)
  have HB1 := Lib.hid hb1
  have y0 := cell_regrown ((hb01.cell (p := ⟨w.heap.size, 0, none⟩) lx).trans x0)
  have y3 := cell_regrown ((hb01.cell (p := ⟨w.heap.size + 1, 0, none⟩) lg).trans g0)
  have y4 := cell_regrown ((hb01.cell (p := ⟨w.heap.size + 1, 1, none⟩) lg).trans g1)
  have y5 := cell_regrown ((hb01.cell (p := ⟨w.heap.size + 1, 2, none⟩) lg).trans g2)
  have y6 := cell_regrown s0
  have y7 := cell_regrown s1
  have HC := Lib.hid (fun W (hb : Below W1.heap.size W1 W) => intcon_core ai ci NI zs q W (ints_below (ints_below hz hb1) hb) hzn hzz)
  have HP := Lib.hid (fun W (hb : Below W1.heap.size W1 W) => ppermits_core a1 a2 ag c1 c2 NA NB cg N A B (zs.contains q) q t n W ((h1.below hb1).below hb) ((h2.below hb1).below hb) hA hB hzs ((hg.below hb1).below hb) hN hNc hs hl ((hmk.below hb1).below hb))
  have z1 : ∀ d os, _ := fun d os => Calls.regrown_of (HC.out (Sort.grow (redrawn W1 d) os) (below_regrown W1 d os))
  have z2 : ∀ d os, _ := fun d os => Calls.regrown_of (HP.out (Sort.grow (redrawn W1 d) os) (below_regrown W1 d os))
  have HE := Lib.hid (show perR zs A B (q, t, n) = (!inG (q, t, n) B && (!zs.contains q || inG (q, t, n) A)) from rfl)
  generalize zs.contains q = P at z1 z2 HE
  clear hz hzn h1 h2 hA hB hzs hg hN hNc hs hl hmk hb0 hb1 hb01 hW0 hW1 HC HP ls g0 g1 g2 s0 s1
  go_enter Tryz.func27, Tryz.ntmps27
  go_upto_region 2 with (fail)
  clear hwr hwr1 x0 x1 x2
  refine wp_region_quiet_below (by kernel_rfl) (by kernel_rfl) ?_
  repeat (go_big_quiet_step (with_reducible first | exact z1 _ _ | exact z2 _ _))
  refine wpQuiet_nil ?_
  intro _ hw'
  obtain ⟨⟨dq, osq⟩, hw''⟩ := hw'
  subst hw''
  have HBQ := Lib.hid (below_next HB1.out (below_regrown W1 dq osq))
  clear z1 z2 y0 y3 y4 y5 y6 y7
  go_wp2_with fail
  go_ret
  exact ⟨by rw [HE.out]; rfl, HBQ.out⟩
theorem contains_step (zs : List Int) (x : Int) (k : Nat) (hk : k < zs.length) : (zs.take (k + 1)).contains x = ((zs.take k).contains x || decide (zs.getD k 0 = x)) := by
  rw [← any_contains, ← any_contains]; exact any_istep zs x k hk
set_option maxRecDepth 100000 in
set_option maxHeartbeats 4000000 in
theorem rpred_core (ai a1 a2 ag : Option Addr) (ci NI c1 c2 NA NB cg N : Nat) (zs : List Int) (A B : List Gn) (q : Int) (t : List UInt8) (n : Nm) (w : World) (hz : ILies w ai zs) (hzn : NI = zs.length) (hzz : NI ≤ 1000000) (h1 : GLies w a1 A) (h2 : GLies w a2 B) (hA : NA = A.length) (hB : NB = B.length) (hzs : NA ≤ 1000000 ∧ NB ≤ 1000000) (hg : RLies w ag n) (hN : N = n.length) (hs : SmG (q, t, n)) (hl : SmL A ∧ SmL B) :
    Calls Tryz.prog 28 #[.agg #[.slice ai NI ci, .slice a1 NA c1, .slice a2 NB c2], .agg #[.int .i64 q, .string (strOf t), .slice ag N cg]] w fun e w' => e = .returned (.bool (perR zs A B (q, t, n))) ∧ Below w.heap.size w w' := by
  obtain ⟨W0, hW0⟩ : ∃ W0, W0 = (w.alloc (.cells #[.slice ai NI ci, .slice a1 NA c1, .slice a2 NB c2] 53)).alloc (.cells #[.int .i64 q, .string (strOf t), .slice ag N cg] 32) := ⟨_, rfl⟩
  have hwr := hW0.symm
  have hb0 : Below w.heap.size w W0 := by rw [hW0]; exact belowTwo w _ _
  obtain ⟨x0, x1, x2, lx⟩ := three_facts (w := W0) (g := w.heap.size) (by rw [hW0, heap_first]; exact heap_alloc_new w _)
  obtain ⟨g0, g1, g2, lg⟩ := three_facts (w := W0) (g := w.heap.size + 1) (by rw [hW0]; exact heap_second w _ _ _)
  have HB0 := Lib.hid hb0
  have HZ := Lib.hid (ints_below hz hb0)
  have HZN := Lib.hid hzn
  have HA := Lib.hid (fun W (hb : Below W0.heap.size W0 W) => rin_core a2 ag c2 NB cg N B q t n W ((h2.below hb0).below hb) hB (by omega) ((hg.below hb0).below hb) hN hs hl.2)
  have HC := Lib.hid (fun W (hb : Below W0.heap.size W0 W) => rin_core a1 ag c1 NA cg N A q t n W ((h1.below hb0).below hb) hA (by omega) ((hg.below hb0).below hb) hN hs hl.1)
  have X1 := Lib.hid x1
  have X2 := Lib.hid x2
  have G0 := Lib.hid g0
  have G1 := Lib.hid g1
  have G2 := Lib.hid g2
  have HE := Lib.hid (show perR zs A B (q, t, n) = (!inG (q, t, n) B && (!zs.contains q || inG (q, t, n) A)) from rfl)
  generalize inG (q, t, n) B = P2 at HA HE
  generalize inG (q, t, n) A = P1 at HC HE
  clear hz hzn h1 h2 hA hB hzs hg hN hs hl hb0 hW0 x1 x2 g0 g1 g2
  go_enter Tryz.func28, Tryz.ntmps28
  go_wp2_with fail
  clear hwr x0
  go_loopw [5, 11] (fun v i wr => ∃ k : Nat, k ≤ NI ∧ v = .bool ((zs.take k).contains q) ∧ i = .int .i64 k ∧ wr = W0) (fun _ i _ => NI - (intOf i).toNat)
  case atStart => exact ⟨0, Nat.zero_le _, rfl, rfl, rfl⟩
  case round =>
    obtain ⟨k, hk, rfl, rfl, rfl⟩ := hrel
    have g0 := G0.out
    by_cases hlt : k < NI
    · have hd : decide ((k : Int) < (NI : Int)) = true := by simp; omega
      obtain ⟨b, o, rfl, e0⟩ := HZ.out.at k (by rw [← HZN.out]; exact hlt)
      have HST := Lib.hid (contains_step zs q k (by rw [← HZN.out]; exact hlt))
      generalize zs.getD k 0 = z at e0 HST
      generalize (zs.take k).contains q = P at HST ⊢
      have HDEC := Lib.hid (show decide (z = q) = (z == q) from by by_cases h : z = q <;> simp [h])
      cases P with
      | true =>
        go_wp2_with fail
        go_roundw
        case rel => exact ⟨k + 1, by omega, by rw [HST.out]; rfl, by go_num, trivial⟩
        case measure => simp [intOf]; omega
      | false =>
        by_cases hx : z = q
        · have hxd : decide (z = q) = true := decide_eq_true hx
          have hxb : (z == q) = true := by simpa using hx
          clear hx
          go_wp2_with fail
          go_roundw
          case rel => exact ⟨k + 1, by omega, by rw [HST.out, hxd]; rfl, by go_num, trivial⟩
          case measure => simp [intOf]; omega
        · have hxd : decide (z = q) = false := decide_eq_false hx
          have hxb : (z == q) = false := by simpa using hx
          clear hx
          go_wp2_with fail
          go_roundw
          case rel => exact ⟨k + 1, by omega, by rw [HST.out, hxd]; rfl, by go_num, trivial⟩
          case measure => simp [intOf]; omega
    · have hd : decide ((k : Int) < (NI : Int)) = false := by simp; omega
      obtain rfl : k = NI := by omega
      have HT := Lib.hid (show zs.take k = zs from List.take_of_length_le (by rw [← HZN.out]; exact Nat.le_refl _))
      rw [HT.out]
      have x1 := X1.out
      have x2 := X2.out
      have g1 := G1.out
      have g2 := G2.out
      generalize zs.contains q = P at HE ⊢
      go_wp2_with (first
        | (go_at_call 33; (with_reducible refine (HA.out _ (Below.refl _ _)).mono ?_); rintro e w1 ⟨rfl, hb1⟩; have x1 := (hb1.cell (p := ⟨w.heap.size, 1, none⟩) lx).trans X1.out; have g0 := (hb1.cell (p := ⟨w.heap.size + 1, 0, none⟩) lg).trans G0.out; have g1 := (hb1.cell (p := ⟨w.heap.size + 1, 1, none⟩) lg).trans G1.out; have g2 := (hb1.cell (p := ⟨w.heap.size + 1, 2, none⟩) lg).trans G2.out; have HB1 := Lib.hid hb1; have HBL := Lib.hid hb1; clear hb1; cases P2 <;> cases P)
        | (go_at_call 33; (with_reducible refine (HC.out _ HB1.out).mono ?_); rintro e w2 ⟨rfl, hb2⟩; have HBL := Lib.hid (below_next HB1.out hb2); clear hb2))
      all_goals go_ret
      all_goals exact ⟨by rw [HE.out]; first | rfl | simp, below_next HB0.out HBL.out⟩
end Go.Proofs.YtofadgmnjckpcaaGreatDoor
