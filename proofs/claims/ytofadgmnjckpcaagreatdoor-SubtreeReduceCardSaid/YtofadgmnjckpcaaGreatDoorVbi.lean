/-
  The contract of slices.DeleteFunc over a row of general names of its own memory.
  The contract of permittedOf of package subtree.
  The contracts of slices.Grow from nothing and of slices.Concat, over general names.
-/
import Derived.Test.YtofadgmnjckpcaaGreatDoorVbh
import Derived.Test.YtofadgmnjckpcaaGreatDoorVar
import Derived.Test.YtofadgmnjckpcaaGreatDoorVbc
import Derived.Lib.AppendZerosOnto
namespace Go.Proofs.YtofadgmnjckpcaaGreatDoor
open Go.RowKit

set_option maxRecDepth 100000 in
set_option maxHeartbeats 4000000 in
theorem delf_core (g : Nat) (lb : Array Value) (eg : ∀ args w, (callFunc g args).run Tryz.prog w = .ok (.enter g args) w) (p : Gn → Bool) (Pre : Gn → Prop) (Q : Option Addr → Nm → Prop) (Inv : World → Prop) (B : Nat) (hI : ∀ W W', Inv W → Below B W W' → Inv W') (hp : GivesI g lb p Pre Q Inv)
    (av : Option Addr) (cv m : Nat) (l : List Gn) (w : World) (h : RowQ Q w B (.slice av m cv) l) (hm : m = l.length) (hmm : m ≤ 1000000) (hB : B ≤ w.heap.size) (hi : Inv w) (hpre : ∀ x ∈ l, Pre x) :
    Calls Tryz.prog 52 #[.slice av m cv, .func (.func g) #[] lb] w fun e w' => ∃ v', e = .returned v' ∧ RowQ Q w' B v' (keepG p l) ∧ Below B w w' := by
  obtain ⟨a', c', e', _, hlie⟩ := h.lies
  obtain ⟨rfl, hxx, rfl⟩ := slice_inj e'
  clear hxx
  have hI2 : ∀ W W', (Inv W ∧ B ≤ W.heap.size) → Below W.heap.size W W' → (Inv W' ∧ B ≤ W'.heap.size) := fun W W' hW hb => ⟨hI W W' hW.1 (hb.mono hW.2), Nat.le_trans hW.2 hb.size⟩
  have HX := Lib.hid (idxf_core g lb eg p Pre Q (fun W => Inv W ∧ B ≤ W.heap.size) hI2 (fun a c N q t n W hW => hp a c N q t n W hW.1) av cv m l w hlie hm (by omega) ⟨hi, hB⟩ hpre)
  have HR := Lib.hid h
  have HM := Lib.hid hm
  have HBW := Lib.hid hB
  have HIW := Lib.hid hi
  have HI := Lib.hid hI
  have HP := Lib.hid hp
  have HPR := Lib.hid hpre
  clear h hm hB hi hI hI2 hp hpre hlie e'
  go_enter Tryz.func52, Tryz.ntmps52
  go_upto_region 2 with (go_at_call 50; (with_reducible refine HX.out.mono ?_); rintro e w1 ⟨r, rfl, hR, hb1⟩; have HRR := Lib.hid hR; have HB1 := Lib.hid (hb1.mono HBW.out); have HR1 := Lib.hid (HR.out.below hb1); have HS1 := Lib.hid (Nat.le_trans HBW.out hb1.size); clear hR hb1)
  clear HX
  rcases HRR.out with ⟨k, hk, rfl, hpk, hall⟩ | ⟨rfl, hall⟩
  case inr =>
    have HK := Lib.hid (keep_all p l hall)
    clear hall HRR
    go_wp2_with fail
    go_ret
    exact ⟨_, rfl, by rw [HK.out]; exact HR1.out, HB1.out⟩
  obtain ⟨ss, hss, hrow, hnm⟩ := HR1.out
  have hrow2 := hrow
  rw [← HM.out] at hrow
  rcases hrow.2 with ⟨_, h0⟩ | ⟨gB, cap, cur, hv, hBg, hcell, hmc, hcap, hsz, htake⟩
  · exact absurd h0 (by have := HM.out; omega)
  obtain ⟨rfl, hxx, rfl⟩ := slice_inj hv
  clear hxx
  have HCELL := Lib.hid hcell
  have HST := Lib.hid (DelI.start (C := cur.toList) hss (by rw [← HM.out]; exact htake) hk hall hpk hnm)
  have HSS := Lib.hid hss
  have HNM := Lib.hid hnm
  have HSZ := Lib.hid hsz
  have HGB := Lib.hid hBg
  have HCAP := Lib.hid (And.intro hmc hcap)
  have HKM := Lib.hid (show k < m by rw [HM.out]; exact hk)
  have hkm : k < m := HKM.out
  have hne : ((k : Int) == -1) = false := by simp <;> omega
  have hnd : decide ((k : Int) = -1) = false := by simp <;> omega
  clear hv hcell hrow hrow2 hss hnm hsz htake hall hpk hk HRR HR1 hmc hcap hBg
  go_wp2_with fail
  clear hne hnd
  go_loopw [5, 6] (fun i j wr => ∃ (a b : Nat) (cz : Array Value), i = .int .i64 (a : Int) ∧ j = .int .i64 (b : Int) ∧ b ≤ m ∧ a < b ∧ wr.heap[gB]? = some (.cells cz 32 (0, 0)) ∧ cz.size = cv * 3 ∧ DelI Q p l ss cz.toList b a ∧ Below B w wr ∧ B ≤ wr.heap.size) (fun _ j _ => m - (intOf j).toNat)
  case atStart => exact ⟨k, k + 1, cur, rfl, by go_num, HKM.out, by omega, HCELL.out, HSZ.out, HST.out, HB1.out, HS1.out⟩
  case round =>
    obtain ⟨wz, hwz⟩ : ∃ wz, wz = wr := ⟨_, rfl⟩
    subst hwz
    obtain ⟨a, b, cz, rfl, rfl, hbm, hab, hcz, hczs, hdel, hb, hBs⟩ := hrel
    have HDEL := Lib.hid hdel
    have HB := Lib.hid hb
    have HBS := Lib.hid hBs
    have HCZ := Lib.hid hcz
    have HCS := Lib.hid hczs
    have HIZ := Lib.hid (HI.out w wz HIW.out hb)
    have hgl : gB < wz.heap.size := (Array.getElem?_eq_some_iff.1 hcz).1
    have HGL := Lib.hid hgl
    have HAB := Lib.hid hab
    clear hdel hb hBs hczs
    by_cases hlt : b < m
    · have hd : decide ((b : Int) < (m : Int)) = true := by simp; omega
      have hbl : b < l.length := by rw [← HM.out]; exact hlt
      have hcell : ∀ j, j < 3 → wz.cell? ⟨gB, b * 3 + j, none⟩ = (gCells (l.getD b noG) (ss.getD b noS))[j]? := fun j hj => by
        obtain ⟨_, _, _, _, _, h5⟩ := HDEL.out
        rw [Lib.cell_of_heap hcz, ← Array.getElem?_toList, h5 (b * 3 + j) (by omega) (by omega)]
        exact gs_at l ss b j HSS.out hbl hj
      obtain ⟨a1, c1, e1, hc1, hq1⟩ := HNM.out b hbl
      have hpr := HPR.out (l.getD b noG) (by rw [List.getD_eq_getElem?_getD, List.getElem?_eq_getElem hbl]; exact List.getElem_mem _)
      have HKEEP := Lib.hid (fun (h : p (l.getD b noG) = false) => HDEL.out.keep (show b < l.length from hbl) h (by rw [Array.length_toList (xs := cz), HCS.out, ← HM.out]; have := HCAP.out.1; omega) HNM.out)
      have HDROP := Lib.hid (fun (h : p (l.getD b noG) = true) => HDEL.out.drop hbl h)
      rw [e1] at hcell HKEEP
      have f0 := hcell 0 (by omega)
      have f1 := hcell 1 (by omega)
      have f2 := hcell 2 (by omega)
      clear hcell e1
      generalize l.getD b noG = G at f0 f1 f2 hc1 hq1 hpr HKEEP HDROP
      obtain ⟨q, t, n⟩ := G
      simp only [gCells, List.getElem?_cons_zero, List.getElem?_cons_succ, Nat.add_zero] at f0 f1 f2 hc1 hq1 hpr
      simp only at HKEEP HDROP
      obtain ⟨N, hN⟩ : ∃ N, N = n.length := ⟨_, rfl⟩
      rw [← hN] at f2 hc1 HKEEP
      obtain ⟨W2, hW2⟩ : ∃ W2, W2 = wz.alloc (.cells #[.int .i64 q, .string (strOf t), .slice a1 N c1] 32) := ⟨_, rfl⟩
      have hb2 : Below wz.heap.size wz W2 := by rw [hW2]; exact belowNew wz _
      obtain ⟨s0, s1, s2, ls⟩ := three_facts (w := W2) (g := wz.heap.size) (by rw [hW2]; exact heap_alloc_new wz _)
      have hwr := hW2.symm
      have HBZ := Lib.hid hb2
      have HC := Lib.hid (HP.out a1 c1 N q t n W2 (HI.out wz W2 HIZ.out (hb2.mono HBS.out)) hq1 hN hc1 hpr)
      have S0 := Lib.hid s0
      have S1 := Lib.hid s1
      have S2 := Lib.hid s2
      have HLT := Lib.hid hlt
      clear hpr hN hc1 hq1 hbl hW2 hb2
      generalize hPX : p (q, t, n) = X at HC HKEEP HDROP
      clear hPX hcz hgl
      cases X with
      | true =>
        have HD := Lib.hid (HDROP.out rfl)
        clear HKEEP HDROP
        go_wp2_with (go_at_fn g; refine HC.out.mono ?_; rintro e w3 ⟨rfl, hb3⟩; have HB3 := Lib.hid (below_next HBZ.out hb3); have s0 := (hb3.cell (p := ⟨wz.heap.size, 0, none⟩) ls).trans S0.out; have s1 := (hb3.cell (p := ⟨wz.heap.size, 1, none⟩) ls).trans S1.out; have s2 := (hb3.cell (p := ⟨wz.heap.size, 2, none⟩) ls).trans S2.out; clear hb3)
        go_roundw
        case rel => exact ⟨a, b + 1, cz, rfl, by go_num, HLT.out, by have := HAB.out; omega, (HB3.out.block gB HGL.out).trans HCZ.out, HCS.out, HD.out, HB.out.trans (HB3.out.mono HBS.out), Nat.le_trans HBS.out HB3.out.size⟩
        case measure => simp [intOf]; omega
      | false =>
        have HK := Lib.hid (HKEEP.out rfl)
        clear HKEEP HDROP
        have ha3 : a * 3 + 3 ≤ cz.size := by rw [HCS.out]; have := HCAP.out.1; have := HLT.out; have := HAB.out; omega
        obtain ⟨x0, r0⟩ : ∃ x, wz.cell? ⟨gB, a * 3, none⟩ = some x := ⟨_, by rw [Lib.cell_of_heap HCZ.out]; exact Array.getElem?_eq_getElem (by omega)⟩
        obtain ⟨x1, r1⟩ : ∃ x, wz.cell? ⟨gB, a * 3 + 1, none⟩ = some x := ⟨_, by rw [Lib.cell_of_heap HCZ.out]; exact Array.getElem?_eq_getElem (by omega)⟩
        obtain ⟨x2, r2⟩ : ∃ x, wz.cell? ⟨gB, a * 3 + 2, none⟩ = some x := ⟨_, by rw [Lib.cell_of_heap HCZ.out]; exact Array.getElem?_eq_getElem (by omega)⟩
        have R0 := Lib.hid r0
        have R1 := Lib.hid r1
        have R2 := Lib.hid r2
        have am : decide ((a : Int) < (m : Int)) = true := by have := HAB.out; simp; omega
        clear r0 r1 r2 ha3
        go_wp2_with (go_at_fn g; refine HC.out.mono ?_; rintro e w3 ⟨rfl, hb3⟩; have HB3 := Lib.hid (below_next HBZ.out hb3); have s0 := (hb3.cell (p := ⟨wz.heap.size, 0, none⟩) ls).trans S0.out; have s1 := (hb3.cell (p := ⟨wz.heap.size, 1, none⟩) ls).trans S1.out; have s2 := (hb3.cell (p := ⟨wz.heap.size, 2, none⟩) ls).trans S2.out; have hh3 := (HB3.out.block gB HGL.out).trans HCZ.out; have HH3 := Lib.hid hh3; have r0 := (HB3.out.cell (p := ⟨gB, a * 3, none⟩) HGL.out).trans R0.out; have r1 := (HB3.out.cell (p := ⟨gB, a * 3 + 1, none⟩) HGL.out).trans R1.out; have r2 := (HB3.out.cell (p := ⟨gB, a * 3 + 2, none⟩) HGL.out).trans R2.out; have z0 := Lib.frozen_of_heap hh3 (a * 3); have z1 := Lib.frozen_of_heap hh3 (a * 3 + 1); have z2 := Lib.frozen_of_heap hh3 (a * 3 + 2); have lg := Nat.lt_of_lt_of_le HGL.out HB3.out.size; clear hb3 hh3)
        go_roundw
        case rel =>
          obtain ⟨cz', hz1, hz2⟩ := set_three (n := a * 3) (a := .int .i64 q) (b := .string (strOf t)) (c := .slice a1 N c1) HH3.out
          have hsz : cz'.size = cz.size := by rw [← Array.length_toList, hz2, set3_length, Array.length_toList]
          have hs := ((But.set gB (a * 3) w3 (.int .i64 q)).next (But.set gB (a * 3 + 1) _ (.string (strOf t)))).next (But.set gB (a * 3 + 2) _ (.slice a1 N c1))
          exact ⟨a + 1, b + 1, cz', by go_num, by go_num, HLT.out, by have := HAB.out; omega, hz1, hsz.trans HCS.out, by rw [hz2]; exact HK.out, (HB.out.trans (HB3.out.mono HBS.out)).trans ((hs.below (Nat.le_of_lt (Nat.lt_of_lt_of_le HGL.out HB3.out.size))).mono HGB.out), Nat.le_trans (Nat.le_trans HBS.out HB3.out.size) hs.size⟩
        case measure => simp [intOf]; omega
    · have hd : decide ((b : Int) < (m : Int)) = false := by simp; omega
      obtain rfl : b = m := by omega
      obtain ⟨i0, hi0, hz0, _, _⟩ := info_parts gInfo
      have hcl : ∀ ty, (Builtin.clear_ #[25] ty #[.slice (some ⟨gB, a * 3, none⟩) (b - a) (cv - a)]).run Tryz.prog wz = .ok (.tuple #[]) (wz.setCells gB (a * 3) (Builtin.zeroCells #[.int .i64 0, .string ⟨#[]⟩, .slice none 0 0] (b - a)).toList) := fun ty =>
        run_clear_cells wz 25 32 ty (.agg #[.int .i64 0, .string ⟨#[]⟩, .slice none 0 0]) Tryz.underlying25 (fun w => by simp [zeroValue, typeInfo, hi0, hz0]) (by decide) (by decide) gB (a * 3) (b - a) (cv - a) (by omega)
          (fun j hj => by
            have e3 : (#[Value.int .i64 0, .string ⟨#[]⟩, .slice none 0 0] : Array Value).size = 3 := rfl
            have hj3 : j < (b - a) * 3 := hj
            rw [Lib.cell_of_heap hcz, Array.getElem?_eq_getElem (by rw [HCS.out]; have := HCAP.out.1; omega)]; rfl) (fun j _ => Lib.frozen_of_heap hcz _)
      obtain ⟨cz', k1, k2, k3⟩ := cells_from (Builtin.zeroCells #[.int .i64 0, .string ⟨#[]⟩, .slice none 0 0] (b - a)).toList (a * 3) wz cz hcz
      have hbut := but_cells gB (Builtin.zeroCells #[.int .i64 0, .string ⟨#[]⟩, .slice none 0 0] (b - a)).toList (a * 3) wz
      have HK1 := Lib.hid k1
      have HK2 := Lib.hid k2
      have HK3 := Lib.hid (k3 (a * 3) (Nat.le_refl _))
      have HBUT := Lib.hid hbut
      clear k1 k2 k3 hbut hcz hi0 hz0
      generalize wz.setCells gB (a * 3) (Builtin.zeroCells #[.int .i64 0, .string ⟨#[]⟩, .slice none 0 0] (b - a)).toList = w8 at hcl HK1 HBUT
      have hle1 : (a : Int) ≤ (b : Int) := by omega
      have hle2 : (a : Int) ≤ (cv : Int) := by have := HCAP.out.1; omega
      have hle3 : a ≤ cv := by have := HCAP.out.1; omega
      have hle4 : a ≤ b := by omega
      have hne4 : ¬ cv = a := by have := HCAP.out.1; omega
      have hne5 : ¬ (cv : Int) = (a : Int) := by have := HCAP.out.1; omega
      have hcv : cv ≤ 9223372036854775807 := by have := HCAP.out.2; unfold maxLen at this; omega
      go_wp2_with fail
      go_ret
      obtain ⟨K, d1, d2, d3, d4, _⟩ := HDEL.out
      rw [HM.out, List.take_of_length_le (Nat.le_refl _)] at d1 d2 d3 d4
      refine ⟨.slice (some ⟨gB, 0, none⟩) a cv, rfl, ⟨K, d1, ⟨gsCells_length _ _ d1, .inr ⟨gB, cv, cz', by rw [d2], HGB.out, HK1.out, by rw [← d2]; exact hle3, HCAP.out.2, HK2.out.trans HCS.out, by rw [← d2, HK3.out]; exact d3⟩⟩, d4⟩, HB.out.trans ((HBUT.out.below (Nat.le_of_lt HGL.out)).mono HGB.out)⟩
end Go.Proofs.YtofadgmnjckpcaaGreatDoor
namespace Go.Proofs.YtofadgmnjckpcaaGreatDoor
open Go.RowKit

theorem lsInfo : (Tryz.prog.info? 25).map (fun i => (i.zero, i.size, i.bytes)) = some (some (.slice none 0 0), 1, 24) := by kernel_rfl
set_option maxRecDepth 100000 in
set_option maxHeartbeats 4000000 in
theorem permof_core (Q : Option Addr → Nm → Prop) (a0 : Option Addr) (c m : Nat) (L : List Sub) (k : Int) (w : World) (h : SLiesQ Q w a0 L) (hm : m = L.length) (hmm : m ≤ 1000000) (hz : ∀ s ∈ L, s.1.length ≤ 1000000) :
    Calls Tryz.prog 39 #[.agg #[.slice a0 m c], .int .i64 k] w fun e w' => ∃ v, e = .returned v ∧ RowL Q w' w.heap.size v (plist L k) ∧ Below w.heap.size w w' := by
  obtain ⟨i0, hi, hz0, hz1, hz2⟩ := info_parts lsInfo
  obtain ⟨W0, hW0⟩ : ∃ W0, W0 = (w.alloc (.cells #[.slice a0 m c] 24)).alloc (.cells #[.int .i64 k] 3) := ⟨_, rfl⟩
  have hwr := hW0.symm
  have hb0 : Below w.heap.size w W0 := by rw [hW0]; exact belowTwo w _ _
  obtain ⟨x0, _, lx⟩ := one_facts (w := W0) (g := w.heap.size) (by rw [hW0, heap_first]; exact heap_alloc_new w _)
  obtain ⟨b0, _, lb⟩ := one_facts (w := W0) (g := w.heap.size + 1) (by rw [hW0]; exact heap_second w _ _ _)
  have HB0 := Lib.hid hb0
  have H1 := Lib.hid (h.below hb0)
  have HM := Lib.hid hm
  have HZ := Lib.hid hz
  have HWS := Lib.hid hb0.size
  have HP := Lib.hid (show GivesI 51 #[.pointer (some ⟨w.heap.size + 1, 0, none⟩)] (pK k) (fun _ => True) Q (fun V => Below W0.heap.size W0 V) from
    fun a c N q t n V hI _ _ _ _ => permitted1_any a c N (w.heap.size + 1) q k t V ((hI.cell (p := ⟨w.heap.size + 1, 0, none⟩) lb).trans b0) (Nat.lt_of_lt_of_le lb hI.size))
  clear h hm hz hb0 hW0
  go_enter Tryz.func39, Tryz.ntmps39
  go_wp2_with fail
  clear hwr b0 x0 lx lb
  go_loopw [6, 14] (fun v i wr => ∃ j : Nat, j ≤ m ∧ i = .int .i64 (j : Int) ∧ RowL Q wr W0.heap.size v (plist (L.take j) k) ∧ Below W0.heap.size W0 wr) (fun _ i _ => m - (intOf i).toNat)
  case atStart => exact ⟨0, Nat.zero_le _, rfl, RowL.nil _ _ _, Below.refl _ _⟩
  case round =>
    obtain ⟨wz, hwz⟩ : ∃ wz, wz = wr := ⟨_, rfl⟩
    subst hwz
    obtain ⟨j, hj, rfl, hrow, hb⟩ := hrel
    have HB := Lib.hid hb
    have hXl : (plist (L.take j) k).length ≤ j := Nat.le_trans (plist_len _ _) (by rw [List.length_take]; omega)
    by_cases hlt : j < m
    · have hd : decide ((j : Int) < (m : Int)) = true := by simp; omega
      obtain ⟨b, o, rfl, hbl, a1, c1, a2, c2, e0, e1, ⟨hc1, hL1⟩, hc2, hL2⟩ := H1.out.at j (by rw [← HM.out]; exact hlt)
      have f0 := (hb.cell (p := ⟨b, o + j * 2, none⟩) hbl).trans e0
      have f1 := (hb.cell (p := ⟨b, o + j * 2 + 1, none⟩) hbl).trans e1
      have hst := plist_step L k j (by rw [← HM.out]; exact hlt)
      have hzk := HZ.out (L.getD j noSub) (by rw [List.getD_eq_getElem?_getD, List.getElem?_eq_getElem (by rw [← HM.out]; exact hlt)]; exact List.getElem_mem _)
      clear e0 e1 hbl
      generalize L.getD j noSub = G at f0 f1 hst hzk hL1 hL2 hc1 hc2
      obtain ⟨A, E⟩ := G
      simp only at f0 f1 hL1 hL2 hc1 hc2 hst hzk
      obtain ⟨NA, hNA⟩ : ∃ NA, NA = A.length := ⟨_, rfl⟩
      obtain ⟨NB, hNB⟩ : ∃ NB, NB = E.length := ⟨_, rfl⟩
      rw [← hNA] at f0 hzk
      rw [← hNB] at f1
      obtain ⟨X, hX⟩ : ∃ X, X = plist (L.take j) k := ⟨_, rfl⟩
      rw [← hX] at hrow hst hXl
      obtain ⟨W2, hW2⟩ : ∃ W2, W2 = wz.alloc (.cells #[.slice a1 NA c1, .slice a2 NB c2] 27) := ⟨_, rfl⟩
      have hb2 : Below wz.heap.size wz W2 := by rw [hW2]; exact belowNew wz _
      obtain ⟨s0, s1, ls⟩ := two_facts (w := W2) (g := wz.heap.size) (by rw [hW2]; exact heap_alloc_new wz _)
      have hbw := below_next hb hb2
      have HB2 := Lib.hid hbw
      have HBZ := Lib.hid hb2
      have HCL := Lib.hid (cloneg_core Q a1 c1 NA A W2 (hL1.below hbw) hNA hzk)
      have HDF := Lib.hid (fun (av : Option Addr) (cv : Nat) (V : World) (hr : RowQ Q V W2.heap.size (.slice av NA cv) A) (hv : Below W2.heap.size W2 V) =>
        delf_core 51 #[.pointer (some ⟨w.heap.size + 1, 0, none⟩)] (enters_of Tryz.func51 (by kernel_rfl) rfl) (pK k) (fun _ => True) Q (fun V => Below W0.heap.size W0 V) W2.heap.size (fun V V' hV hb => hV.trans (hb.mono hbw.size)) HP.out av cv NA A V hr hNA hzk hv.size (below_next hbw hv) (fun _ _ => trivial))
      have HWE := hW2.symm
      have HLT := Lib.hid hlt
      have HNA := Lib.hid hNA
      have HROW := Lib.hid hrow
      have HXL := Lib.hid hXl
      have HZA := Lib.hid hzk
      have HST := Lib.hid hst
      clear hst hrow hNA hNB hc1 hc2 hL1 hL2 hX hW2 hb2 hbw hb hXl hzk
      obtain ⟨Z, hZ⟩ : ∃ Z, Z = keepG (pK k) A := ⟨_, rfl⟩
      rw [← hZ] at HDF
      have HZK := Lib.hid (show ofK k A = Z from hZ.symm)
      obtain ⟨N4, hN4⟩ : ∃ N4, N4 = Z.length := ⟨_, rfl⟩
      have HN4 := Lib.hid hN4
      have HZL := Lib.hid (show N4 ≤ 1000000 by rw [hN4, hZ]; exact Nat.le_trans (ofK_len k A) (by have := HZA.out; rw [HNA.out] at this; exact this))
      by_cases hne : N4 = 0
      · have h1 : decide ((N4 : Int) > 0) = false := by simp; omega
        have h2 : decide (0 < N4) = false := by simp; omega
        have h3 : decide ((0 : Int) < (N4 : Int)) = false := by simp; omega
        have HSE := Lib.hid (show plist (L.take (j + 1)) k = X by rw [HST.out, HZK.out, List.length_eq_zero_iff.1 (hN4.symm.trans hne)]; exact List.append_nil _)
        clear hN4 hZ hne
        go_wp2_with (first
          | (go_at_call 53; (with_reducible refine HCL.out.mono ?_); rintro e w3 ⟨v3, rfl, hr3, hb3⟩; obtain ⟨a3, c3, rfl, _, _⟩ := hr3.lies; rw [← HNA.out]; have HD := Lib.hid (HDF.out a3 c3 w3 (by rw [HNA.out]; exact hr3) hb3); have HB3 := Lib.hid hb3; clear hr3 hb3)
          | (go_at_call 52; (with_reducible refine HD.out.mono ?_); rintro e w4 ⟨v4, rfl, hr4, hb4⟩; obtain ⟨a4, c4, rfl, _, _⟩ := hr4.lies; rw [← HN4.out] at hr4 ⊢; have HR4 := Lib.hid hr4; have HB4 := Lib.hid (HB3.out.trans hb4); clear hr4 hb4))
        go_roundw
        case rel => exact ⟨j + 1, by omega, by go_num, by rw [HSE.out]; exact HROW.out.below (HBZ.out.trans (HB4.out.mono HBZ.out.size)), HB2.out.trans (HB4.out.mono HB2.out.size)⟩
        case measure => simp [intOf]; omega
      · have h1 : decide ((N4 : Int) > 0) = true := by simp; omega
        have h2 : decide (0 < N4) = true := by simp; omega
        have h3 : decide ((0 : Int) < (N4 : Int)) = true := by simp; omega
        have HSE := Lib.hid (show plist (L.take (j + 1)) k = X ++ [Z] by
          rw [HST.out, HZK.out]
          cases Z with
          | nil => exact absurd hN4 hne
          | cons x y => rfl)
        obtain ⟨av, cv, hv, _, _⟩ := HROW.out.lies' 
        subst hv
        clear hN4 hZ hne
        obtain ⟨MX, hMX⟩ : ∃ MX, MX = X.length := ⟨_, rfl⟩
        have HMX := Lib.hid hMX
        rw [← hMX] at HROW HXL ⊢
        obtain ⟨vs, hv1, hv2, hv3⟩ := HROW.out
        rw [← hMX] at hv2
        have HV1 := Lib.hid hv1
        have HV2 := Lib.hid hv2
        have HV3 := Lib.hid hv3
        clear hMX hv1 hv2 hv3
        go_wp2_with (first
          | (go_at_call 53; (with_reducible refine HCL.out.mono ?_); rintro e w3 ⟨v3, rfl, hr3, hb3⟩; obtain ⟨a3, c3, rfl, _, _⟩ := hr3.lies; rw [← HNA.out]; have HD := Lib.hid (HDF.out a3 c3 w3 (by rw [HNA.out]; exact hr3) hb3); have HB3 := Lib.hid hb3; clear hr3 hb3)
          | (go_at_call 52; (with_reducible refine HD.out.mono ?_); rintro e w4 ⟨v4, rfl, hr4, hb4⟩; obtain ⟨a4, c4, rfl, _, _⟩ := hr4.lies; rw [← HN4.out] at hr4 ⊢; have HR4 := Lib.hid hr4; have HB4 := Lib.hid (HB3.out.trans hb4); clear hr4 hb4)
          | (at_builtin; have HBW := Lib.hid (HBZ.out.trans (HB4.out.mono HBZ.out.size)); have HBQ := Lib.hid (HB2.out.trans (HB4.out.mono HB2.out.size)); (refine wpList_append_own _ rfl (.tmp 26) (.tmp 28) 75 rfl W0.heap.size 25 i0 (.slice none 0 0) 1 24 Tryz.underlying75 hi hz0 hz1 hz2 rfl (by decide) (.slice av MX cv) MX vs rfl ((own_below HV2.out HBW.out).alloc _) ⟨w4.heap.size, 0, none⟩ 1 1 [.slice a4 N4 c4] rfl rfl (row_news w4 _ _) (one_one _ _ _) (by have := HXL.out; unfold maxLen; omega) (by have := HXL.out; omega) (by have := HBQ.out.size; simp; omega) ?_); intro v' w6 hown6 hgr6 _; have P3 := RowL.snoc (Q := Q) (g := Z) HV1.out (by rw [← HMX.out]; exact (own_below HV2.out HBW.out).alloc _) (fun i hi => ((HV3.out i hi).below HBW.out).below (belowNew w4 _)) ((HR4.out.below (belowNew w4 _)).base HB2.out.size) hgr6 (by rw [← HMX.out]; exact hown6); have P2 := (HBQ.out.trans ((belowNew w4 _).mono HBQ.out.size)).grown hgr6 (by have := HBQ.out.size; simp; omega) (fun j e => (World.ownsRow.lt HV2.out j e).1); have HP3 := Lib.hid P3; have HP2 := Lib.hid P2; clear P2 P3 hown6 hgr6))
        go_roundw
        case rel => exact ⟨j + 1, by omega, by go_num, by rw [HSE.out]; exact HP3.out, HP2.out⟩
        case measure => simp [intOf]; omega
    · have hd : decide ((j : Int) < (m : Int)) = false := by simp; omega
      obtain rfl : j = m := by omega
      have HT := Lib.hid (show plist (L.take j) k = plist L k by rw [List.take_of_length_le (by rw [← HM.out]; exact Nat.le_refl _)])
      have HROW := Lib.hid hrow
      clear hrow hb
      go_wp2_with fail
      go_ret
      exact ⟨_, rfl, by rw [← HT.out]; exact HROW.out.base HWS.out, below_next HB0.out HB.out⟩
end Go.Proofs.YtofadgmnjckpcaaGreatDoor
namespace Go.Proofs.YtofadgmnjckpcaaGreatDoor
open Go.RowKit

theorem zcells_size (z : Array Value) (n : Nat) : (Builtin.zeroCells z n).size = n * z.size := by simp [Builtin.zeroCells]
set_option maxRecDepth 100000 in
set_option maxHeartbeats 4000000 in
theorem growg_core (n : Nat) (hn : n ≤ 1000000) (w : World) :
    Calls Tryz.prog 71 #[.slice none 0 0, .int .i64 (n : Int)] w fun e w' => ∃ v, e = .returned v ∧ w'.ownsRow w.heap.size 32 3 v 0 [] ∧ Below w.heap.size w w' := by
  obtain ⟨i0, hi, hz0, hz1, hz2⟩ := info_parts gInfo
  by_cases h0 : n = 0
  · subst h0
    go_enter Tryz.func71, Tryz.ntmps71
    go_wp2_with fail
    go_ret
    exact ⟨_, rfl, World.ownsRow_nil _ _ _ _, Below.refl _ _⟩
  · have hGn : n ≤ grownCap w n 0 32 := grownCap_ge w _ _ _
    have hG63 := grownCap_le_maxLen w n 0 32 (by unfold maxLen; omega)
    have hrz : ∀ ty, (Builtin.append_ #[25, 3] ty #[.slice none 0 0, .int .i64 (n : Int)]).run Tryz.prog w =
      .ok (.slice (some ⟨w.heap.size, 0, none⟩) n (grownCap w n 0 32)) (w.drew.alloc (.cells (Builtin.zeroCells #[.int .i64 0, .string ⟨#[]⟩, .slice none 0 0] n ++ Builtin.zeroCells #[.int .i64 0, .string ⟨#[]⟩, .slice none 0 0] (grownCap w n 0 32 - n)) 32)) := fun ty => by
      have h := Lib.run_append_grow_zeros w 25 3 ty 32 i0 _ .i64 .i64 Tryz.underlying25 Tryz.underlying3 hi hz0 none 0 0 [] (run_firstCells_none w.drew i0.size 0 0 0) n (by omega) (by rw [hz1]; decide) (by omega) (by omega)
        (by rw [hz2]; omega) (growslice_fits (by omega) (by rw [hz2]; omega))
      rw [Nat.zero_add] at h
      simpa [Value.cells] using h
    have h1 : decide ((n : Int) < 0) = false := by simp
    have h2 : decide ((0 : Int) < (n : Int)) = true := by simp; omega
    have h3 : decide (0 < n) = true := by simp; omega
    obtain ⟨G, hG⟩ : ∃ G, G = grownCap w n 0 32 := ⟨_, rfl⟩
    rw [← hG] at hrz hGn hG63
    have HG63 := Lib.hid hG63
    have HGN := Lib.hid hGn
    have hg : G ≤ 9223372036854775807 := by unfold maxLen at hG63; omega
    clear hG hi hz0 hz1 hz2 hG63
    go_enter Tryz.func71, Tryz.ntmps71
    go_wp2_with (at_builtin; refine Lib.wpList_append_run _ rfl _ _ _ _ rfl _ _ rfl rfl _ _ (hrz _) ?_)
    go_ret
    exact ⟨_, rfl, ⟨rfl, .inr ⟨w.heap.size, G, _, rfl, Nat.le_refl _, heap_alloc_new w.drew _, Nat.zero_le _, HG63.out, by have := HGN.out; rw [Array.size_append, zcells_size, zcells_size]; simp; omega, rfl⟩⟩, (belowNew w _).drew⟩
set_option maxRecDepth 100000 in
set_option maxHeartbeats 4000000 in
theorem concat_core (Q : Option Addr → Nm → Prop) (a0 : Option Addr) (c m : Nat) (L : List (List Gn)) (w : World) (h : LLiesQ Q w a0 L) (hm : m = L.length) (hmm : m ≤ 1000000) (hne : ∀ l ∈ L, l.length ≠ 0) (hf : L.flatten.length ≤ 1000000) :
    Calls Tryz.prog 57 #[.slice a0 m c] w fun e w' => ∃ v, e = .returned v ∧ RowQ Q w' w.heap.size v L.flatten ∧ Below w.heap.size w w' := by
  obtain ⟨i0, hi, hz0, hz1, hz2⟩ := info_parts gInfo
  have H1 := Lib.hid h
  have HM := Lib.hid hm
  have HNE := Lib.hid hne
  have HF := Lib.hid hf
  clear h hm hne hf
  go_enter Tryz.func57, Tryz.ntmps57
  go_wp2_with fail
  go_loopw [3, 11] (fun z i wr => ∃ k s : Nat, k ≤ m ∧ i = .int .i64 (k : Int) ∧ z = .int .i64 (s : Int) ∧ s = (L.take k).flatten.length ∧ wr = w) (fun _ i _ => m - (intOf i).toNat)
  case atStart => exact ⟨0, 0, Nat.zero_le _, rfl, rfl, rfl, rfl⟩
  case round =>
    obtain ⟨wq, hwq⟩ : ∃ wq, wq = wr := ⟨_, rfl⟩
    subst hwq
    obtain ⟨k, s, hk, rfl, rfl, hs, rfl⟩ := hrel
    have HS := Lib.hid hs
    by_cases hlt : k < m
    · have hd : decide ((k : Int) < (m : Int)) = true := by simp; omega
      obtain ⟨b, o, rfl, hbl, a1, c1, e0, hc1, hL1⟩ := H1.out.at k (by rw [← HM.out]; exact hlt)
      have hst := flatL_step L k (by rw [← HM.out]; exact hlt)
      have hle := flat_le L (k + 1)
      rw [hst, List.length_append, ← hs] at hle
      clear hbl hs
      generalize L.getD k [] = G at e0 hc1 hL1 hst hle
      obtain ⟨N, hN⟩ : ∃ N, N = G.length := ⟨_, rfl⟩
      rw [← hN] at e0 hle hc1
      have hsn : s + N ≤ 1000000 := Nat.le_trans hle HF.out
      have hsz : decide (((s : Int) + (N : Int)) < 0) = false := by simp; omega
      have HST := Lib.hid hst
      have HN := Lib.hid hN
      clear hst hle hN hc1 hL1
      go_wp2_with fail
      go_roundw
      case rel => exact ⟨k + 1, s + N, by omega, by go_num, by go_num, by rw [HST.out, List.length_append, ← HN.out, ← HS.out], trivial⟩
      case measure => simp [intOf]; omega
    · have hd : decide ((k : Int) < (m : Int)) = false := by simp; omega
      obtain rfl : k = m := by omega
      have hsl : s = L.flatten.length := by rw [hs, List.take_of_length_le (by rw [← HM.out]; exact Nat.le_refl _)]
      have hsm : s ≤ 1000000 := by rw [hsl]; exact HF.out
      have HG := Lib.hid (growg_core s hsm wq)
      clear hs hsl HS
      go_wp2_with (go_at_call 71; (with_reducible refine HG.out.mono ?_); rintro e w1 ⟨v1, rfl, ho1, hb1⟩; have HO1 := Lib.hid ho1; have HB1 := Lib.hid hb1; clear ho1 hb1)
      clear HG
      go_loopw [6, 27] (fun v i wx => ∃ j : Nat, j ≤ k ∧ i = .int .i64 (j : Int) ∧ RowQ Q wx wq.heap.size v (L.take j).flatten ∧ Below wq.heap.size wq wx) (fun _ i _ => k - (intOf i).toNat)
      case atStart => exact ⟨0, Nat.zero_le _, rfl, ⟨[], rfl, HO1.out, fun i hi => absurd hi (Nat.not_lt_zero _)⟩, HB1.out⟩
      case round =>
        obtain ⟨wz, hwz⟩ : ∃ wz, wz = wr := ⟨_, rfl⟩
        subst hwz
        obtain ⟨j, hj, rfl, hrow, hb⟩ := hrel
        have HB := Lib.hid hb
        obtain ⟨X, hX⟩ : ∃ X, X = (L.take j).flatten := ⟨_, rfl⟩
        rw [← hX] at hrow
        have hXl : X.length ≤ 1000000 := by rw [hX]; exact Nat.le_trans (flat_le L j) HF.out
        obtain ⟨av, cv, hv, _, hlv⟩ := hrow.lies
        subst hv
        obtain ⟨MX, hMX⟩ : ∃ MX, MX = X.length := ⟨_, rfl⟩
        have HMX := Lib.hid hMX
        have HROW := Lib.hid hrow
        have HX := Lib.hid hX
        have HXL := Lib.hid hXl
        rw [← hMX] at HROW HXL ⊢
        clear hMX hX hXl hrow hlv
        by_cases hlt2 : j < k
        · have hd2 : decide ((j : Int) < (k : Int)) = true := by simp; omega
          obtain ⟨b, o, rfl, hbl, a1, c1, e0, hc1, hL1⟩ := H1.out.at j (by rw [← HM.out]; exact hlt2)
          have hst := flatL_step L j (by rw [← HM.out]; exact hlt2)
          have hle := flat_le L (j + 1)
          have hne0 := HNE.out (L.getD j []) (by rw [List.getD_eq_getElem?_getD, List.getElem?_eq_getElem (by rw [← HM.out]; exact hlt2)]; exact List.getElem_mem _)
          have f0 := (hb.cell (p := ⟨b, o + j, none⟩) hbl).trans e0
          rw [hst, List.length_append, ← HX.out, ← HMX.out] at hle
          rw [← HX.out] at hst
          clear hbl e0
          generalize L.getD j [] = G at f0 hc1 hL1 hst hle hne0
          cases a1 with
          | none =>
            have hz : G.length = 0 := by
              rcases hL1 with h | ⟨b, o, h, _⟩
              · rw [h]; rfl
              · cases h
            exact absurd hz hne0
          | some ad =>
          obtain ⟨tt, htt, hnw, hnm⟩ := gliesq_list (hL1.below hb)
          have HON := Lib.hid (gs_one G tt htt (fun i hi => by obtain ⟨a, c, e, _⟩ := hnm i hi; exact ⟨_, _, _, e⟩))
          obtain ⟨N, hN⟩ : ∃ N, N = G.length := ⟨_, rfl⟩
          rw [← hN] at f0 hle hc1
          have hsn : MX + N ≤ 1000000 := Nat.le_trans hle HF.out
          have HST := Lib.hid hst
          have HN := Lib.hid hN
          have HNW := Lib.hid hnw
          have HTT := Lib.hid htt
          have HNM := Lib.hid hnm
          obtain ⟨ss, hv1, hv2, hv3⟩ := HROW.out
          rw [← HMX.out] at hv2
          have HV1 := Lib.hid hv1
          have HV2 := Lib.hid hv2
          have HV3 := Lib.hid hv3
          clear hst hle hN hc1 hL1 hne0 htt hnw hnm hv1 hv2 hv3 hb
          go_wp2_with (at_builtin; (refine wpList_append_own _ rfl (.tmp 31) (.tmp 32) 25 rfl wq.heap.size 32 i0 (.agg #[.int .i64 0, .string ⟨#[]⟩, .slice none 0 0]) 3 48 Tryz.underlying25 hi hz0 hz1 hz2 rfl (by decide) (.slice av MX cv) MX (gsCells X ss) rfl HV2.out ad N c1 (gsCells G tt) rfl (by rw [gsCells_length G tt HTT.out, HN.out]) HNW.out HON.out (by unfold maxLen; omega) (by omega) HB.out.size ?_); intro v' w6 hown6 hgr6 _; have HP1 := Lib.hid hown6; have HP2 := Lib.hid (HB.out.grown hgr6 HB.out.size (fun j e => (World.ownsRow.lt HV2.out j e).1)); clear hown6 hgr6)
          go_roundw
          case rel => exact ⟨j + 1, by omega, by go_num, by
            rw [HST.out]
            exact RowQ.append HV1.out HV3.out HTT.out HNM.out (by rw [← HMX.out, ← HN.out]; exact HP1.out), HP2.out⟩
          case measure => simp [intOf]; omega
        · have hd2 : decide ((j : Int) < (k : Int)) = false := by simp; omega
          obtain rfl : j = k := by omega
          have HT := Lib.hid (show X = L.flatten by rw [HX.out, List.take_of_length_le (by rw [← HM.out]; exact Nat.le_refl _)])
          clear hb
          go_wp2_with fail
          go_ret
          exact ⟨_, rfl, by rw [← HT.out]; exact HROW.out, HB.out⟩
end Go.Proofs.YtofadgmnjckpcaaGreatDoor
