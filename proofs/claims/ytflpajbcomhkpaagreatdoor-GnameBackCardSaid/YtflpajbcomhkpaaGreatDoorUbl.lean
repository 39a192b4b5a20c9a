/-
  The contracts of formatRelative's comparison and of slices.SortFunc over attributes, for at most twelve of them.
-/
import Derived.Test.YtflpajbcomhkpaaGreatDoorUbk
import Derived.Test.YtflpajbcomhkpaaGreatDoorUav
import Derived.Test.YtflpajbcomhkpaaGreatDoorUbc
import Derived.Test.YtflpajbcomhkpaaGreatDoorUan
import Derived.Test.YtflpajbcomhkpaaGreatDoorUau
import Derived.Deep.RegionHeld3
import Derived.Lib.QuietBelow
import Derived.BigQuiet
namespace Go.Proofs.YtflpajbcomhkpaaGreatDoor
open Go.RowKit

set_option maxRecDepth 100000 in
set_option maxHeartbeats 4000000 in
theorem fcmp_any (x y : At) (w : World) (hx : x.1.size ≤ 1000000) (hy : y.1.size ≤ 1000000) :
    Calls Tryz.prog 169 #[atV x, atV y] w fun e w' => e = .returned (.int .i64 (Lib.compareBytes (encL x) (encL y))) ∧ Below w.heap.size w w' := by
  have e1 := fun W => enca_any x W (Nat.le_trans hx (by omega))
  have e2 := fun W => enca_any y W (Nat.le_trans hy (by omega))
  have hc : ∀ d os W, Calls Tryz.prog 170 #[.string (encA x), .string (encA y)] (Sort.grow (redrawn W d) os) fun e w'' => e = .returned (.int .i64 (Lib.compareBytes (encL x) (encL y))) ∧ ∃ p : Regrown, w'' = Sort.grow (redrawn W p.d) p.os := fun d os W => (compare_any (encA x) (encA y) _).mono fun e w' ⟨he, hw⟩ => ⟨he, ⟨⟨d, os⟩, hw⟩⟩
  obtain ⟨C, hC⟩ : ∃ C, C = Lib.compareBytes (encL x) (encL y) := ⟨_, rfl⟩
  rw [← hC] at hc ⊢
  obtain ⟨t, k, v⟩ := x
  obtain ⟨t2, k2, v2⟩ := y
  obtain ⟨X, hX⟩ : ∃ X, X = encA (t, k, v) := ⟨_, rfl⟩
  obtain ⟨Y, hY⟩ : ∃ Y, Y = encA (t2, k2, v2) := ⟨_, rfl⟩
  rw [← hX] at e1 hc
  rw [← hY] at e2 hc
  unfold atV at *
  simp only at *
  obtain ⟨G, hG⟩ : ∃ G, G = w.heap.size := ⟨_, rfl⟩
  obtain ⟨W, hW⟩ : ∃ W, W = (w.alloc (.cells #[.string t, .int .i64 k, .string v] 103)).alloc (.cells #[.string t2, .int .i64 k2, .string v2] 103) := ⟨_, rfl⟩
  have hb : Below w.heap.size w W := by rw [hW]; exact belowTwo w _ _
  have h1 : W.heap[G]? = some (.cells #[.string t, .int .i64 k, .string v] 103 (0, 0)) := by rw [hW, hG]; exact heap_keep (heap_alloc_new w _) _
  have h2 : W.heap[G + 1]? = some (.cells #[.string t2, .int .i64 k2, .string v2] 103 (0, 0)) := by
    have := heap_alloc_new (w.alloc (.cells #[.string t, .int .i64 k, .string v] 103)) (.cells #[.string t2, .int .i64 k2, .string v2] 103)
    rw [show (w.alloc (.cells #[.string t, .int .i64 k, .string v] 103)).heap.size = w.heap.size + 1 from by simp] at this
    rw [hW, hG]
    exact this
  obtain ⟨a0, a1, a2, _, _, _, _⟩ := at_facts h1
  obtain ⟨b0, b1, b2, _, _, _, _⟩ := at_facts h2
  have c0 := cell_regrown a0
  have c1 := cell_regrown a1
  have c2 := cell_regrown a2
  have c3 := cell_regrown b0
  have c4 := cell_regrown b1
  have c5 := cell_regrown b2
  have d1 : ∀ d os, _ := fun d os => Calls.regrown_of (e1 (Sort.grow (redrawn W d) os))
  have d2 : ∀ d os, _ := fun d os => Calls.regrown_of (e2 (Sort.grow (redrawn W d) os))
  have d3 := fun d os => hc d os W
  have HB := Lib.hid hb
  have HWE := Lib.hid hW.symm
  have HGE := Lib.hid hG.symm
  clear e1 e2 hc hC hX hY hb h1 h2 hW hG a0 a1 a2 b0 b1 b2 hx hy
  go_enter Tryz.func169, Tryz.ntmps169
  go_wp2_with fail
  rw [HWE.out, HGE.out]
  refine wp_region_quiet_below (by kernel_rfl) (by kernel_rfl) ?_
  repeat (go_big_quiet_step (with_reducible first | exact d1 _ _ | exact d2 _ _ | exact d3 _ _))
  refine wpQuiet_nil ?_
  intro _ hw'
  obtain ⟨⟨dq, osq⟩, hw''⟩ := hw'
  subst hw''
  have HZ := Lib.hid (below_next HB.out (below_regrown W dq osq))
  clear c0 c1 c2 c3 c4 c5 d1 d2 d3
  go_wp2_with fail
  go_ret
  exact ⟨rfl, HZ.out⟩

/-! ### A row of attributes -/
def RowG (w : World) (g : Nat) (rest : List Value) (D : List At) : Prop := w.heap[g]? = some (.cells (atsCells D ++ rest).toArray 103 (0, 0))
theorem RowG.lt {w : World} {g : Nat} {rest : List Value} {D : List At} (h : RowG w g rest D) : g < w.heap.size := (Array.getElem?_eq_some_iff.1 h).1
theorem RowG.below {w w' : World} {g : Nat} {rest : List Value} {D : List At} (h : RowG w g rest D) (hb : Below w.heap.size w w') : RowG w' g rest D := (hb.block g h.lt).trans h
theorem RowG.drew {w : World} {g : Nat} {rest : List Value} {D : List At} (h : RowG w g rest D) : RowG w.drew g rest D := h
theorem RowG.at {w : World} {g : Nat} {rest : List Value} {D : List At} (h : RowG w g rest D) (k : Nat) (hk : k < D.length) :
    w.cell? ⟨g, k * 3, none⟩ = some (.string (D.getD k noAt).1) ∧ w.cell? ⟨g, k * 3 + 1, none⟩ = some (.int .i64 (D.getD k noAt).2.1) ∧ w.cell? ⟨g, k * 3 + 2, none⟩ = some (.string (D.getD k noAt).2.2) ∧
      w.frozen? ⟨g, k * 3, none⟩ = false ∧ w.frozen? ⟨g, k * 3 + 1, none⟩ = false ∧ w.frozen? ⟨g, k * 3 + 2, none⟩ = false := by
  have hc : ∀ j, j < 3 → w.cell? ⟨g, k * 3 + j, none⟩ = (atCells (D.getD k noAt))[j]? := fun j hj => by
    rw [Lib.cell_of_heap h, List.getElem?_toArray, List.getElem?_append_left (by rw [atsCells_length]; omega)]
    exact ats_at D k hk j hj
  exact ⟨hc 0 (by omega), hc 1 (by omega), hc 2 (by omega), Lib.frozen_of_heap h _, Lib.frozen_of_heap h _, Lib.frozen_of_heap h _⟩
theorem getD_mid {P R : List At} {x : At} {k : Nat} (hk : k = P.length) : (P ++ x :: R).getD k noAt = x := by
  subst hk
  rw [List.getD_eq_getElem?_getD, List.getElem?_append_right (Nat.le_refl _), Nat.sub_self]; rfl
theorem getD_mid2 {P R : List At} {x : At} (y : At) {k : Nat} (hk : k = P.length) : (P ++ y :: x :: R).getD (k + 1) noAt = x := by
  subst hk
  rw [List.getD_eq_getElem?_getD, List.getElem?_append_right (by omega), show P.length + 1 - P.length = 1 by omega]; rfl
theorem swap_list (A C : List Value) (a0 a1 a2 b0 b1 b2 : Value) (k : Nat) (hk : k = A.length) :
    ((((((A ++ a0 :: a1 :: a2 :: b0 :: b1 :: b2 :: C).set (k + 3) a0).set (k + 3 + 1) a1).set (k + 3 + 2) a2).set k b0).set (k + 1) b1).set (k + 2) b2 = A ++ b0 :: b1 :: b2 :: a0 :: a1 :: a2 :: C := by
  subst hk
  have e : ∀ (j : Nat) (L : List Value) (v : Value), (A ++ L).set (A.length + j) v = A ++ L.set j v := fun j L v => by
    rw [List.set_append_right _ _ (by omega), show A.length + j - A.length = j by omega]
  have e0 : ∀ (L : List Value) (v : Value), (A ++ L).set A.length v = A ++ L.set 0 v := fun L v => e 0 L v
  rw [e 3, show A.length + 3 + 1 = A.length + 4 by omega, e 4, show A.length + 3 + 2 = A.length + 5 by omega, e 5, e0, e 1, e 2]
  rfl
theorem RowG.swap {w : World} {g k : Nat} {rest : List Value} {P S : List At} {x y : At} (h : RowG w g rest (P ++ y :: x :: S)) (hk : k = P.length) :
    RowG ((((((w.setCell ⟨g, (k + 1) * 3, none⟩ (.string y.1)).setCell ⟨g, (k + 1) * 3 + 1, none⟩ (.int .i64 y.2.1)).setCell ⟨g, (k + 1) * 3 + 2, none⟩ (.string y.2.2)).setCell ⟨g, k * 3, none⟩ (.string x.1)).setCell ⟨g, k * 3 + 1, none⟩ (.int .i64 x.2.1)).setCell ⟨g, k * 3 + 2, none⟩ (.string x.2.2)) g rest (P ++ x :: y :: S) := by
  have hs := swap_list (atsCells P) (atsCells S ++ rest) (.string y.1) (.int .i64 y.2.1) (.string y.2.2) (.string x.1) (.int .i64 x.2.1) (.string x.2.2) (k * 3) (by rw [atsCells_length, hk])
  have e1 : atsCells (P ++ y :: x :: S) ++ rest = atsCells P ++ .string y.1 :: .int .i64 y.2.1 :: .string y.2.2 :: .string x.1 :: .int .i64 x.2.1 :: .string x.2.2 :: (atsCells S ++ rest) := by
    simp [atsCells, atCells]
  have e2 : atsCells (P ++ x :: y :: S) ++ rest = atsCells P ++ .string x.1 :: .int .i64 x.2.1 :: .string x.2.2 :: .string y.1 :: .int .i64 y.2.1 :: .string y.2.2 :: (atsCells S ++ rest) := by
    simp [atsCells, atCells]
  unfold RowG at h ⊢
  rw [e1] at h
  rw [e2, ← hs, show (k + 1) * 3 = k * 3 + 3 by omega]
  simp [World.setCell, Array.getElem?_modify, h]
theorem swap_but {w : World} {g : Nat} {i0 i1 i2 i3 i4 i5 : Nat} {v0 v1 v2 v3 v4 v5 : Value} : But g w ((((((w.setCell ⟨g, i0, none⟩ v0).setCell ⟨g, i1, none⟩ v1).setCell ⟨g, i2, none⟩ v2).setCell ⟨g, i3, none⟩ v3).setCell ⟨g, i4, none⟩ v4).setCell ⟨g, i5, none⟩ v5) :=
  (((((But.set g i0 w v0).next (But.set g i1 _ v1)).next (But.set g i2 _ v2)).next (But.set g i3 _ v3)).next (But.set g i4 _ v4)).next (But.set g i5 _ v5)
theorem small_perm {D L : List At} (h : D.Perm L) (hs : SmallR L) : ∀ x ∈ D, SmallA x := fun _ hx => small_mem hs (h.mem_iff.1 hx)

set_option maxRecDepth 100000 in
set_option maxHeartbeats 8000000 in
theorem isort_any (g c n : Nat) (rest : List Value) (L : List At) (w : World) (h : RowG w g rest L) (hn : n = L.length) (h1 : 1 ≤ n) (h12 : n ≤ 12) (hs : SmallR L) :
    Calls Tryz.prog 237 #[.slice (some ⟨g, 0, none⟩) n c, .int .i64 0, .int .i64 (n : Int), .func (.func 169) #[] #[]] w fun e w' => e = .returned (.tuple #[]) ∧ ∃ D, D.Perm L ∧ Srt D ∧ RowG w' g rest D ∧ But g w w' := by
  have eg : ∀ args w, (callFunc 169 args).run Tryz.prog w = .ok (.enter 169 args) w := enters_of Tryz.func169 (by kernel_rfl) rfl
  have H0 := Lib.hid h
  have HN := Lib.hid hn
  have HS := Lib.hid hs
  clear h hn hs
  go_enter Tryz.func237, Tryz.ntmps237
  go_wp2_with fail
  go_loopw [8] (fun i wr => ∃ (k : Nat) (D R : List At), k ≤ n ∧ i = .int .i64 (k : Int) ∧ D.length = k ∧ 1 ≤ k ∧ RowG wr g rest (D ++ R) ∧ (D ++ R).Perm L ∧ Srt D ∧ But g w wr) (fun i _ => n - (intOf i).toNat)
  case atStart =>
    cases L with
    | nil => have := HN.out; simp at this; omega
    | cons x R => exact ⟨1, [x], R, h1, rfl, rfl, Nat.le_refl _, H0.out, List.Perm.refl _, List.pairwise_singleton _ _, But.refl _ _⟩
  case round =>
    obtain ⟨wo, hwo⟩ : ∃ wo, wo = wr := ⟨_, rfl⟩
    subst hwo
    obtain ⟨k, D, R, hk, rfl, hDk, hk1, hrow, hperm, hsrt, hbut⟩ := hrel
    have HDK := Lib.hid hDk
    have HROW := Lib.hid hrow
    have HPERM := Lib.hid hperm
    have HSRT := Lib.hid hsrt
    have HBUT := Lib.hid hbut
    have HLEN := Lib.hid (show D.length + R.length = n by rw [← List.length_append, hperm.length_eq, ← HN.out])
    clear hDk hrow hperm hsrt hbut
    by_cases hlt : k < n
    · have hd : decide ((k : Int) < (n : Int)) = true := by simp; omega
      obtain ⟨x, R2, hR⟩ : ∃ x R2, R = x :: R2 := by
        cases R with
        | nil => have := HLEN.out; have := HDK.out; simp at *; omega
        | cons x R2 => exact ⟨x, R2, rfl⟩
      subst hR
      go_wp2_with fail
      go_loopw [9] (fun i ws => ∃ (j : Nat) (P Q : List At), i = .int .i64 (j : Int) ∧ P.length = j ∧ j ≤ k ∧ RowG ws g rest (P ++ x :: (Q ++ R2)) ∧ (P ++ x :: (Q ++ R2)).Perm L ∧ Srt (P ++ Q) ∧ (P ++ Q).length = k ∧ (∀ y ∈ Q, leA x y) ∧ But g w ws) (fun i _ => (intOf i).toNat)
      case atStart => exact ⟨k, D, [], rfl, HDK.out, Nat.le_refl _, HROW.out, HPERM.out, by rw [List.append_nil]; exact HSRT.out, by rw [List.append_nil]; exact HDK.out, fun y hy => by (cases hy), HBUT.out⟩
      case round =>
        obtain ⟨ws, hws⟩ : ∃ ws, ws = wr := ⟨_, rfl⟩
        subst hws
        obtain ⟨j, P, Q, rfl, hP, hjk, hrow, hperm, hsrt, hpq, hq, hbut⟩ := hrel
        have HP := Lib.hid hP
        have HROW2 := Lib.hid hrow
        have HPERM2 := Lib.hid hperm
        have HSRT2 := Lib.hid hsrt
        have HQ := Lib.hid hq
        have HPQ := Lib.hid hpq
        have HBUT2 := Lib.hid hbut
        clear hP hrow hperm hsrt hq hbut hpq
        by_cases hj0 : j = 0
        · subst hj0
          have HF := Lib.hid (show Srt (P ++ x :: Q) from srt_put HSRT2.out HQ.out (fun y hy => by rw [List.eq_nil_of_length_eq_zero HP.out] at hy; cases hy))
          have hz0 : ((0 : Nat) : Int) = 0 := rfl
          rw [hz0]
          clear hz0
          go_wp2_with fail
          go_region
          all_goals go_wp2_with fail
          all_goals go_roundw
          all_goals (try (case rel => exact ⟨k + 1, P ++ x :: Q, R2, by omega, by go_num, by have := HPQ.out; rw [List.length_append] at this ⊢; rw [List.length_cons]; omega, by omega, by rw [List.append_assoc]; exact HROW2.out, by rw [List.append_assoc]; exact HPERM2.out, HF.out, by first | exact HBUT2.out | exact HBUT2.out.drew⟩))
          all_goals (try (case measure => simp [intOf]; omega))
        · obtain ⟨q, rfl⟩ : ∃ q, j = q + 1 := ⟨j - 1, by omega⟩
          obtain ⟨P', y, hPy⟩ : ∃ P' y, P = P' ++ [y] := ⟨P.dropLast, P.getLast (by intro e; have := HP.out; rw [e] at this; cases this), (List.dropLast_concat_getLast _).symm⟩
          subst hPy
          have hq' : q = P'.length := by have := HP.out; rw [List.length_append, List.length_singleton] at this; omega
          have hrw := HROW2.out
          rw [List.append_assoc, List.singleton_append] at hrw
          have hpm := HPERM2.out
          rw [List.append_assoc, List.singleton_append] at hpm
          have hln : q + 1 < (P' ++ y :: x :: (Q ++ R2)).length := by rw [List.length_append, List.length_cons, List.length_cons, ← hq']; omega
          obtain ⟨a0, a1, a2, a3, a4, a5⟩ := hrw.at (q + 1) hln
          obtain ⟨b0, b1, b2, b3, b4, b5⟩ := hrw.at q (by omega)
          rw [getD_mid2 y hq'] at a0 a1 a2
          rw [getD_mid hq'] at b0 b1 b2
          have hsx := small_perm hpm HS.out x (List.mem_append_right _ (List.mem_cons_of_mem _ List.mem_cons_self))
          have hsy := small_perm hpm HS.out y (List.mem_append_right _ List.mem_cons_self)
          have HRW := Lib.hid hrw
          have HPM := Lib.hid hpm
          have HQQ := Lib.hid hq'
          have hci := cb_iff (encL x) (encL y)
          have HCM := Lib.hid (fun W => fcmp_any x y W hsx.1 hsy.1)
          obtain ⟨z, hz⟩ : ∃ z, z = Lib.compareBytes (encL x) (encL y) := ⟨_, rfl⟩
          rw [← hz] at hci HCM
          have HCI := Lib.hid hci
          clear hrw hpm hln hsx hsy hq' hz hci
          obtain ⟨j, hj⟩ : ∃ j, j = q + 1 := ⟨_, rfl⟩
          have hj2 : q = j - 1 := by omega
          rw [← hj] at a0 a1 a2 a3 a4 a5 hjk ⊢
          rw [hj2] at b0 b1 b2 b3 b4 b5
          have HJ := Lib.hid hj
          have hj1 : 1 ≤ j := by omega
          have hd1 : decide ((0 : Int) < (j : Int)) = true := by simp; omega
          have hd2 : decide (0 < j) = true := by simp; omega
          have hjn : j < n := by omega
          have hjw : IntKind.i64.wrap ((j : Int) - 1) = ((j - 1 : Nat) : Int) := by simp [IntKind.wrap, IntKind.bits, IntKind.signed]; omega
          have hjm : j - 1 < n := by omega
          clear hj hj2 hj0
          obtain ⟨xt, xk, xv⟩ := x
          obtain ⟨yt, yk, yv⟩ := y
          simp only [] at a0 a1 a2 b0 b1 b2
          unfold atV at HCM
          simp only [] at HCM
          by_cases hless : z < 0
          · have dz : decide (z < 0) = true := by simpa using hless
            have HLT := Lib.hid (leA_of_lt (HCI.out.1 hless))
            clear hless
            have c0 := cell_regrown a0
            have c1 := cell_regrown a1
            have c2 := cell_regrown a2
            have c3 := cell_regrown b0
            have c4 := cell_regrown b1
            have c5 := cell_regrown b2
            have d1 : ∀ d os, _ := fun d os => Calls.regrown_of (HCM.out (Sort.grow (redrawn ws d) os))
            clear a0 a1 a2 b0 b1 b2
            go_wp2_with fail
            refine wp_region_quiet_below (by kernel_rfl) (by kernel_rfl) ?_
            repeat (go_big_quiet_step (with_reducible exact d1 _ _))
            refine wpQuiet_nil ?_
            intro _ hw'
            obtain ⟨⟨dq, osq⟩, hw''⟩ := hw'
            subst hw''
            clear c0 c1 c2 c3 c4 c5 d1 a3 a4 a5 b3 b4 b5
            have hbr := below_regrown ws dq osq
            have HRV := Lib.hid (HRW.out.below hbr)
            have HBV := Lib.hid (HBUT2.out.next (But.of hbr))
            generalize Sort.grow (redrawn ws dq) osq = V2 at hbr HRV HBV ⊢
            clear hbr
            obtain ⟨a0, a1, a2, a3, a4, a5⟩ := HRV.out.at (q + 1) (by have := HJ.out; have := HPM.out.length_eq; have := HN.out; omega)
            obtain ⟨b0, b1, b2, b3, b4, b5⟩ := HRV.out.at q (by have := HJ.out; have := HPM.out.length_eq; have := HN.out; omega)
            rw [getD_mid2 _ HQQ.out] at a0 a1 a2
            rw [getD_mid HQQ.out] at b0 b1 b2
            rw [← HJ.out] at a0 a1 a2 a3 a4 a5
            rw [show q = j - 1 by have := HJ.out; omega] at b0 b1 b2 b3 b4 b5
            simp only [] at a0 a1 a2 b0 b1 b2
            have hlt2 : g < V2.heap.size := HRV.out.lt
            go_wp2_with fail
            go_region
            have hsw := HRV.out.swap HQQ.out
            have hsb : But g V2 _ := swap_but (w := V2) (g := g) (i0 := j * 3) (i1 := j * 3 + 1) (i2 := j * 3 + 2) (i3 := (j - 1) * 3) (i4 := (j - 1) * 3 + 1) (i5 := (j - 1) * 3 + 2) (v0 := .string yt) (v1 := .int .i64 yk) (v2 := .string yv) (v3 := .string xt) (v4 := .int .i64 xk) (v5 := .string xv)
            rw [← HJ.out, show q = j - 1 by have := HJ.out; omega] at hsw
            have HSW := Lib.hid hsw.drew
            have HSB := Lib.hid (HBV.out.next hsb).drew
            clear hsw hsb a0 a1 a2 a3 a4 a5 b0 b1 b2 b3 b4 b5
            go_wp2_with fail
            go_roundw
            case rel =>
              refine ⟨j - 1, P', (yt, yk, yv) :: Q, by go_num, by have := HQQ.out; have := HJ.out; omega, by omega, HSW.out, ?_, ?_, ?_, ?_, HSB.out⟩
              · refine (List.Perm.append_left P' (List.Perm.swap (yt, yk, yv) (xt, xk, xv) (Q ++ R2))).trans HPM.out
              · have := HSRT2.out; rw [List.append_assoc, List.singleton_append] at this; exact this
              · have := HPQ.out; rw [List.append_assoc, List.singleton_append] at this; exact this
              · intro v hv
                rcases List.mem_cons.1 hv with rfl | hv
                · exact HLT.out
                · exact HQ.out v hv
            case measure => simp [intOf]; omega
          · have dz : decide (z < 0) = false := by simpa using hless
            have HLT := Lib.hid (show leA (yt, yk, yv) (xt, xk, xv) from fun h => hless (HCI.out.2 h))
            clear hless
            have c0 := cell_regrown a0
            have c1 := cell_regrown a1
            have c2 := cell_regrown a2
            have c3 := cell_regrown b0
            have c4 := cell_regrown b1
            have c5 := cell_regrown b2
            have d1 : ∀ d os, _ := fun d os => Calls.regrown_of (HCM.out (Sort.grow (redrawn ws d) os))
            clear a0 a1 a2 b0 b1 b2
            go_wp2_with fail
            refine wp_region_quiet_below (by kernel_rfl) (by kernel_rfl) ?_
            repeat (go_big_quiet_step (with_reducible exact d1 _ _))
            refine wpQuiet_nil ?_
            intro _ hw'
            obtain ⟨⟨dq, osq⟩, hw''⟩ := hw'
            subst hw''
            clear c0 c1 c2 c3 c4 c5 d1 a3 a4 a5 b3 b4 b5
            have hbr := below_regrown ws dq osq
            have HRV := Lib.hid (HROW2.out.below hbr)
            have HBV := Lib.hid (HBUT2.out.next (But.of hbr))
            generalize Sort.grow (redrawn ws dq) osq = V2 at hbr HRV HBV ⊢
            clear hbr
            have HF := Lib.hid (show Srt ((P' ++ [(yt, yk, yv)]) ++ (xt, xk, xv) :: Q) from srt_put HSRT2.out HQ.out (srt_last (by have := HSRT2.out; unfold Srt at this ⊢; exact (List.pairwise_append.1 this).1) HLT.out))
            go_wp2_with fail
            go_roundw
            case rel => exact ⟨k + 1, (P' ++ [(yt, yk, yv)]) ++ (xt, xk, xv) :: Q, R2, by omega, by go_num, by have := HPQ.out; rw [List.length_append] at this ⊢; rw [List.length_cons]; omega, by omega, by rw [List.append_assoc]; exact HRV.out, by rw [List.append_assoc]; exact HPERM2.out, HF.out, HBV.out⟩
            case measure => simp [intOf]; omega
    · have hd : decide ((k : Int) < (n : Int)) = false := by simp; omega
      obtain rfl : R = [] := List.eq_nil_of_length_eq_zero (by have := HLEN.out; have := HDK.out; omega)
      have HRD := Lib.hid (show RowG wo g rest D by have := HROW.out; rwa [List.append_nil] at this)
      have HPD := Lib.hid (show D.Perm L by have := HPERM.out; rwa [List.append_nil] at this)
      go_wp2_with fail
      go_end0
      exact ⟨rfl, D, HPD.out, HSRT.out, HRD.out, HBUT.out⟩
end Go.Proofs.YtflpajbcomhkpaaGreatDoor
