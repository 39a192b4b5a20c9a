/-
  Attributes in the order of their encodings: there is one such order. Nothing is claimed of the program here.
  The contracts of formatRelative's comparison and of slices.SortFunc over attributes, for at most twelve of them.
  The keys of names as texts: two valid names have the same key exactly if they match. Nothing is claimed of the program here.
  Names as texts: what is written is read, and the name that is read matches. Nothing is claimed of the program here.
  The contracts of assign, of Key's closure and of join of the program.
  The contract of join of the program, over whatever function answers for the relative names.
  The contracts of shortOf, of slices.Clone and slices.SortFunc over attributes, and of formatRelative.
-/
import Derived.Test.YtflpajbcomhkpaaGreatDoorSbg
import Derived.Test.YtflpajbcomhkpaaGreatDoorSav
import Derived.Test.YtflpajbcomhkpaaGreatDoorSbe
import Derived.Test.YtflpajbcomhkpaaGreatDoorSap
import Derived.Deep.RegionHeld3
import Derived.Lib.QuietBelow
import Derived.BigQuiet
import Derived.Test.YtflpajbcomhkpaaGreatDoorSac
import Derived.Test.YtflpajbcomhkpaaGreatDoorSaf
import Derived.Test.YtflpajbcomhkpaaGreatDoorSad
import Derived.Test.YtflpajbcomhkpaaGreatDoorSau
import Derived.Test.YtflpajbcomhkpaaGreatDoorSaa
import Derived.Test.YtflpajbcomhkpaaGreatDoorSam
import Derived.Test.YtflpajbcomhkpaaGreatDoorSbc
import Derived.Lib.SliceRun
namespace Go.Proofs.YtflpajbcomhkpaaGreatDoor
open Go.RowKit

noncomputable def encL (a : At) : List UInt8 := (encA a).data.toList
def leA (a b : At) : Prop := ¬ encL b < encL a
def Srt (l : List At) : Prop := l.Pairwise leA
theorem leA.trans {a b c : At} (h : leA a b) (k : leA b c) : leA a c := List.not_lt.2 (List.le_trans (List.not_lt.1 h) (List.not_lt.1 k))
theorem leA_of_lt {a b : At} (h : encL a < encL b) : leA a b := fun k => List.lt_irrefl _ (List.lt_trans h k)
theorem encA_inj {a b : At} (ha : okA a) (hb : okA b) (h : encL a = encL b) : a = b := by
  have h1 : encA a = encA b := ext_list_t h
  obtain ⟨_, _, e1⟩ := read_one (b := encA a) (c := inA a) (by have := inA_size ha; omega) rfl
  obtain ⟨_, _, e2⟩ := read_one (b := encA b) (c := inA b) (by have := inA_size hb; omega) rfl
  have e3 : inA a = inA b := by rw [← e1, ← e2, h1]
  have e4 := decA_elA ha
  have e5 := decA_elA hb
  have e6 : elA a = elA b := by unfold elA; rw [e3, h1]
  rw [e6, e5] at e4
  exact (Prod.mk.inj e4).2.symm
theorem sort_srt (r : List At) : Srt (sortR r) := by
  have tr : ∀ a b c : At, decide (encL a ≤ encL b) = true → decide (encL b ≤ encL c) = true → decide (encL a ≤ encL c) = true := fun a b c h1 h2 => by simp only [decide_eq_true_eq] at *; exact List.le_trans h1 h2
  have tot : ∀ a b : At, (decide (encL a ≤ encL b) || decide (encL b ≤ encL a)) = true := fun a b => by simp only [Bool.or_eq_true, decide_eq_true_eq]; exact List.le_total _ _
  exact (List.pairwise_mergeSort tr tot r).imp fun {a b} hh => List.not_lt.2 (of_decide_eq_true hh)
theorem sort_unique {D r : List At} (hs : Srt D) (hp : D.Perm r) (hok : ∀ a ∈ r, okA a) : D = sortR r := by
  refine List.Perm.eq_of_pairwise (le := leA) (fun a b ha hb h1 h2 => ?_) hs (sort_srt r) (hp.trans (sortR_perm r).symm)
  exact encA_inj (hok a (hp.mem_iff.1 ha)) (hok b ((sortR_perm r).mem_iff.1 hb)) (List.le_antisymm (List.not_lt.1 h1) (List.not_lt.1 h2))
theorem srt_put {P Q : List At} {x : At} (h : Srt (P ++ Q)) (h1 : ∀ y ∈ Q, leA x y) (h2 : ∀ y ∈ P, leA y x) : Srt (P ++ x :: Q) := by
  unfold Srt at *
  rw [List.pairwise_append] at h ⊢
  refine ⟨h.1, List.pairwise_cons.2 ⟨h1, h.2.1⟩, fun a ha b hb => ?_⟩
  rcases List.mem_cons.1 hb with rfl | hb
  · exact h2 a ha
  · exact h.2.2 a ha b hb
theorem srt_last {P : List At} {y x : At} (h : Srt (P ++ [y])) (k : leA y x) : ∀ z ∈ P ++ [y], leA z x := by
  intro z hz
  unfold Srt at h
  rw [List.pairwise_append] at h
  rcases List.mem_append.1 hz with hz | hz
  · exact (h.2.2 z hz y (List.mem_singleton.2 rfl)).trans k
  · rw [List.mem_singleton.1 hz]; exact k
end Go.Proofs.YtflpajbcomhkpaaGreatDoor
namespace Go.Proofs.YtflpajbcomhkpaaGreatDoor
open Go.RowKit

set_option maxRecDepth 100000 in
set_option maxHeartbeats 4000000 in
theorem fcmp_any (x y : At) (w : World) (hx : x.1.size ≤ 1000000) (hy : y.1.size ≤ 1000000) :
    Calls Tryz.prog 169 #[atV x, atV y] w fun e w' => e = .returned (.int .i64 (Lib.compareBytes (encL x) (encL y))) ∧ Below w.heap.size w w' := by
  have e1 := fun W => enca_any x W (Nat.le_trans hx (by omega))
  have e2 := fun W => enca_any y W (Nat.le_trans hy (by omega))
  have hc : ∀ d os W, Calls Tryz.prog 170 #[.string (encA x), .string (encA y)] (Sort.grow (redrawn W d) os) fun e w'' => e = .returned (.int .i64 (Lib.compareBytes (encL x) (encL y))) ∧ ∃ p : Regrown, w'' = Sort.grow (redrawn W p.d) p.os := fun d os W => (compare_any (encA x) (encA y) _).mono fun e w' ⟨he, hw⟩ => ⟨he, ⟨⟨d, os⟩, hw⟩⟩
  obtain ⟨C, hC⟩ : ∃ C, C = Lib.compareBytes (encL x) (encL y) := ⟨_, rfl⟩
  rw [← hC] at hc ⊢
  obtain ⟨t, k, v⟩ := x
  obtain ⟨t2, k2, v2⟩ := y
  obtain ⟨X, hX⟩ : ∃ X, X = encA (t, k, v) := ⟨_, rfl⟩
  obtain ⟨Y, hY⟩ : ∃ Y, Y = encA (t2, k2, v2) := ⟨_, rfl⟩
  rw [← hX] at e1 hc
  rw [← hY] at e2 hc
  unfold atV at *
  simp only at *
  obtain ⟨G, hG⟩ : ∃ G, G = w.heap.size := ⟨_, rfl⟩
  obtain ⟨W, hW⟩ : ∃ W, W = (w.alloc (.cells #[.string t, .int .i64 k, .string v] 103)).alloc (.cells #[.string t2, .int .i64 k2, .string v2] 103) := ⟨_, rfl⟩
  have hb : Below w.heap.size w W := by rw [hW]; exact belowTwo w _ _
  have h1 : W.heap[G]? = some (.cells #[.string t, .int .i64 k, .string v] 103 (0, 0)) := by rw [hW, hG]; exact heap_keep (heap_alloc_new w _) _
  have h2 : W.heap[G + 1]? = some (.cells #[.string t2, .int .i64 k2, .string v2] 103 (0, 0)) := by
    have := heap_alloc_new (w.alloc (.cells #[.string t, .int .i64 k, .string v] 103)) (.cells #[.string t2, .int .i64 k2, .string v2] 103)
    rw [show (w.alloc (.cells #[.string t, .int .i64 k, .string v] 103)).heap.size = w.heap.size + 1 from by simp] at this
    rw [hW, hG]
    exact this
  obtain ⟨a0, a1, a2, _, _, _, _⟩ := at_facts h1
  obtain ⟨b0, b1, b2, _, _, _, _⟩ := at_facts h2
  have c0 := cell_regrown a0
  have c1 := cell_regrown a1
  have c2 := cell_regrown a2
  have c3 := cell_regrown b0
  have c4 := cell_regrown b1
  have c5 := cell_regrown b2
  have d1 : ∀ d os, _ := fun d os => Calls.regrown_of (e1 (Sort.grow (redrawn W d) os))
  have d2 : ∀ d os, _ := fun d os => Calls.regrown_of (e2 (Sort.grow (redrawn W d) os))
  have d3 := fun d os => hc d os W
  have HB := Lib.hid hb
  have HWE := Lib.hid hW.symm
  have HGE := Lib.hid hG.symm
  clear e1 e2 hc hC hX hY hb h1 h2 hW hG a0 a1 a2 b0 b1 b2 hx hy
  go_enter Tryz.func169, Tryz.ntmps169
  go_wp2_with fail
  rw [HWE.out, HGE.out]
  refine wp_region_quiet_below (by kernel_rfl) (by kernel_rfl) ?_
  repeat (go_big_quiet_step (with_reducible first | exact d1 _ _ | exact d2 _ _ | exact d3 _ _))
  refine wpQuiet_nil ?_
  intro _ hw'
  obtain ⟨⟨dq, osq⟩, hw''⟩ := hw'
  subst hw''
  have HZ := Lib.hid (below_next HB.out (below_regrown W dq osq))
  clear c0 c1 c2 c3 c4 c5 d1 d2 d3
  go_wp2_with fail
  go_ret
  exact ⟨rfl, HZ.out⟩

/-! ### A row of attributes -/
def RowG (w : World) (g : Nat) (rest : List Value) (D : List At) : Prop := w.heap[g]? = some (.cells (atsCells D ++ rest).toArray 103 (0, 0))
theorem RowG.lt {w : World} {g : Nat} {rest : List Value} {D : List At} (h : RowG w g rest D) : g < w.heap.size := (Array.getElem?_eq_some_iff.1 h).1
theorem RowG.below {w w' : World} {g : Nat} {rest : List Value} {D : List At} (h : RowG w g rest D) (hb : Below w.heap.size w w') : RowG w' g rest D := (hb.block g h.lt).trans h
theorem RowG.drew {w : World} {g : Nat} {rest : List Value} {D : List At} (h : RowG w g rest D) : RowG w.drew g rest D := h
theorem RowG.at {w : World} {g : Nat} {rest : List Value} {D : List At} (h : RowG w g rest D) (k : Nat) (hk : k < D.length) :
    w.cell? ⟨g, k * 3, none⟩ = some (.string (D.getD k noAt).1) ∧ w.cell? ⟨g, k * 3 + 1, none⟩ = some (.int .i64 (D.getD k noAt).2.1) ∧ w.cell? ⟨g, k * 3 + 2, none⟩ = some (.string (D.getD k noAt).2.2) ∧
      w.frozen? ⟨g, k * 3, none⟩ = false ∧ w.frozen? ⟨g, k * 3 + 1, none⟩ = false ∧ w.frozen? ⟨g, k * 3 + 2, none⟩ = false := by
  have hc : ∀ j, j < 3 → w.cell? ⟨g, k * 3 + j, none⟩ = (atCells (D.getD k noAt))[j]? := fun j hj => by
    rw [Lib.cell_of_heap h, List.getElem?_toArray, List.getElem?_append_left (by rw [atsCells_length]; omega)]
    exact ats_at D k hk j hj
  exact ⟨hc 0 (by omega), hc 1 (by omega), hc 2 (by omega), Lib.frozen_of_heap h _, Lib.frozen_of_heap h _, Lib.frozen_of_heap h _⟩
theorem getD_mid {P R : List At} {x : At} {k : Nat} (hk : k = P.length) : (P ++ x :: R).getD k noAt = x := by
  subst hk
  rw [List.getD_eq_getElem?_getD, List.getElem?_append_right (Nat.le_refl _), Nat.sub_self]; rfl
theorem getD_mid2 {P R : List At} {x : At} (y : At) {k : Nat} (hk : k = P.length) : (P ++ y :: x :: R).getD (k + 1) noAt = x := by
  subst hk
  rw [List.getD_eq_getElem?_getD, List.getElem?_append_right (by omega), show P.length + 1 - P.length = 1 by omega]; rfl
theorem swap_list (A C : List Value) (a0 a1 a2 b0 b1 b2 : Value) (k : Nat) (hk : k = A.length) :
    ((((((A ++ a0 :: a1 :: a2 :: b0 :: b1 :: b2 :: C).set (k + 3) a0).set (k + 3 + 1) a1).set (k + 3 + 2) a2).set k b0).set (k + 1) b1).set (k + 2) b2 = A ++ b0 :: b1 :: b2 :: a0 :: a1 :: a2 :: C := by
  subst hk
  have e : ∀ (j : Nat) (L : List Value) (v : Value), (A ++ L).set (A.length + j) v = A ++ L.set j v := fun j L v => by
    rw [List.set_append_right _ _ (by omega), show A.length + j - A.length = j by omega]
  have e0 : ∀ (L : List Value) (v : Value), (A ++ L).set A.length v = A ++ L.set 0 v := fun L v => e 0 L v
  rw [e 3, show A.length + 3 + 1 = A.length + 4 by omega, e 4, show A.length + 3 + 2 = A.length + 5 by omega, e 5, e0, e 1, e 2]
  rfl
theorem RowG.swap {w : World} {g k : Nat} {rest : List Value} {P S : List At} {x y : At} (h : RowG w g rest (P ++ y :: x :: S)) (hk : k = P.length) :
    RowG ((((((w.setCell ⟨g, (k + 1) * 3, none⟩ (.string y.1)).setCell ⟨g, (k + 1) * 3 + 1, none⟩ (.int .i64 y.2.1)).setCell ⟨g, (k + 1) * 3 + 2, none⟩ (.string y.2.2)).setCell ⟨g, k * 3, none⟩ (.string x.1)).setCell ⟨g, k * 3 + 1, none⟩ (.int .i64 x.2.1)).setCell ⟨g, k * 3 + 2, none⟩ (.string x.2.2)) g rest (P ++ x :: y :: S) := by
  have hs := swap_list (atsCells P) (atsCells S ++ rest) (.string y.1) (.int .i64 y.2.1) (.string y.2.2) (.string x.1) (.int .i64 x.2.1) (.string x.2.2) (k * 3) (by rw [atsCells_length, hk])
  have e1 : atsCells (P ++ y :: x :: S) ++ rest = atsCells P ++ .string y.1 :: .int .i64 y.2.1 :: .string y.2.2 :: .string x.1 :: .int .i64 x.2.1 :: .string x.2.2 :: (atsCells S ++ rest) := by
    simp [atsCells, atCells]
  have e2 : atsCells (P ++ x :: y :: S) ++ rest = atsCells P ++ .string x.1 :: .int .i64 x.2.1 :: .string x.2.2 :: .string y.1 :: .int .i64 y.2.1 :: .string y.2.2 :: (atsCells S ++ rest) := by
    simp [atsCells, atCells]
  unfold RowG at h ⊢
  rw [e1] at h
  rw [e2, ← hs, show (k + 1) * 3 = k * 3 + 3 by omega]
  simp [World.setCell, Array.getElem?_modify, h]
theorem swap_but {w : World} {g : Nat} {i0 i1 i2 i3 i4 i5 : Nat} {v0 v1 v2 v3 v4 v5 : Value} : But g w ((((((w.setCell ⟨g, i0, none⟩ v0).setCell ⟨g, i1, none⟩ v1).setCell ⟨g, i2, none⟩ v2).setCell ⟨g, i3, none⟩ v3).setCell ⟨g, i4, none⟩ v4).setCell ⟨g, i5, none⟩ v5) :=
  (((((But.set g i0 w v0).next (But.set g i1 _ v1)).next (But.set g i2 _ v2)).next (But.set g i3 _ v3)).next (But.set g i4 _ v4)).next (But.set g i5 _ v5)
theorem small_perm {D L : List At} (h : D.Perm L) (hs : SmallR L) : ∀ x ∈ D, SmallA x := fun _ hx => small_mem hs (h.mem_iff.1 hx)

set_option maxRecDepth 100000 in
set_option maxHeartbeats 8000000 in
theorem isort_any (g c n : Nat) (rest : List Value) (L : List At) (w : World) (h : RowG w g rest L) (hn : n = L.length) (h1 : 1 ≤ n) (h12 : n ≤ 12) (hs : SmallR L) :
    Calls Tryz.prog 237 #[.slice (some ⟨g, 0, none⟩) n c, .int .i64 0, .int .i64 (n : Int), .func (.func 169) #[] #[]] w fun e w' => e = .returned (.tuple #[]) ∧ ∃ D, D.Perm L ∧ Srt D ∧ RowG w' g rest D ∧ But g w w' := by
  have eg : ∀ args w, (callFunc 169 args).run Tryz.prog w = .ok (.enter 169 args) w := enters_of Tryz.func169 (by kernel_rfl) rfl
  have H0 := Lib.hid h
  have HN := Lib.hid hn
  have HS := Lib.hid hs
  clear h hn hs
  go_enter Tryz.func237, Tryz.ntmps237
  go_wp2_with fail
  go_loopw [8] (fun i wr => ∃ (k : Nat) (D R : List At), k ≤ n ∧ i = .int .i64 (k : Int) ∧ D.length = k ∧ 1 ≤ k ∧ RowG wr g rest (D ++ R) ∧ (D ++ R).Perm L ∧ Srt D ∧ But g w wr) (fun i _ => n - (intOf i).toNat)
  case atStart =>
    cases L with
    | nil => have := HN.out; simp at this; omega
    | cons x R => exact ⟨1, [x], R, h1, rfl, rfl, Nat.le_refl _, H0.out, List.Perm.refl _, List.pairwise_singleton _ _, But.refl _ _⟩
  case round =>
    obtain ⟨wo, hwo⟩ : ∃ wo, wo = wr := ⟨_, rfl⟩
    subst hwo
    obtain ⟨k, D, R, hk, rfl, hDk, hk1, hrow, hperm, hsrt, hbut⟩ := hrel
    have HDK := Lib.hid hDk
    have HROW := Lib.hid hrow
    have HPERM := Lib.hid hperm
    have HSRT := Lib.hid hsrt
    have HBUT := Lib.hid hbut
    have HLEN := Lib.hid (show D.length + R.length = n by rw [← List.length_append, hperm.length_eq, ← HN.out])
    clear hDk hrow hperm hsrt hbut
    by_cases hlt : k < n
    · have hd : decide ((k : Int) < (n : Int)) = true := by simp; omega
      obtain ⟨x, R2, hR⟩ : ∃ x R2, R = x :: R2 := by
        cases R with
        | nil => have := HLEN.out; have := HDK.out; simp at *; omega
        | cons x R2 => exact ⟨x, R2, rfl⟩
      subst hR
      go_wp2_with fail
      go_loopw [9] (fun i ws => ∃ (j : Nat) (P Q : List At), i = .int .i64 (j : Int) ∧ P.length = j ∧ j ≤ k ∧ RowG ws g rest (P ++ x :: (Q ++ R2)) ∧ (P ++ x :: (Q ++ R2)).Perm L ∧ Srt (P ++ Q) ∧ (P ++ Q).length = k ∧ (∀ y ∈ Q, leA x y) ∧ But g w ws) (fun i _ => (intOf i).toNat)
      case atStart => exact ⟨k, D, [], rfl, HDK.out, Nat.le_refl _, HROW.out, HPERM.out, by rw [List.append_nil]; exact HSRT.out, by rw [List.append_nil]; exact HDK.out, fun y hy => by (cases hy), HBUT.out⟩
      case round =>
        obtain ⟨ws, hws⟩ : ∃ ws, ws = wr := ⟨_, rfl⟩
        subst hws
        obtain ⟨j, P, Q, rfl, hP, hjk, hrow, hperm, hsrt, hpq, hq, hbut⟩ := hrel
        have HP := Lib.hid hP
        have HROW2 := Lib.hid hrow
        have HPERM2 := Lib.hid hperm
        have HSRT2 := Lib.hid hsrt
        have HQ := Lib.hid hq
        have HPQ := Lib.hid hpq
        have HBUT2 := Lib.hid hbut
        clear hP hrow hperm hsrt hq hbut hpq
        by_cases hj0 : j = 0
        · subst hj0
          have HF := Lib.hid (show Srt (P ++ x :: Q) from srt_put HSRT2.out HQ.out (fun y hy => by rw [List.eq_nil_of_length_eq_zero HP.out] at hy; cases hy))
          have hz0 : ((0 : Nat) : Int) = 0 := rfl
          rw [hz0]
          clear hz0
          go_wp2_with fail
          go_region
          all_goals go_wp2_with fail
          all_goals go_roundw
          all_goals (try (case rel => exact ⟨k + 1, P ++ x :: Q, R2, by omega, by go_num, by have := HPQ.out; rw [List.length_append] at this ⊢; rw [List.length_cons]; omega, by omega, by rw [List.append_assoc]; exact HROW2.out, by rw [List.append_assoc]; exact HPERM2.out, HF.out, by first | exact HBUT2.out | exact HBUT2.out.drew⟩))
          all_goals (try (case measure => simp [intOf]; omega))
        · obtain ⟨q, rfl⟩ : ∃ q, j = q + 1 := ⟨j - 1, by omega⟩
          obtain ⟨P', y, hPy⟩ : ∃ P' y, P = P' ++ [y] := ⟨P.dropLast, P.getLast (by intro e; have := HP.out; rw [e] at this; cases this), (List.dropLast_concat_getLast _).symm⟩
          subst hPy
          have hq' : q = P'.length := by have := HP.out; rw [List.length_append, List.length_singleton] at this; omega
          have hrw := HROW2.out
          rw [List.append_assoc, List.singleton_append] at hrw
          have hpm := HPERM2.out
          rw [List.append_assoc, List.singleton_append] at hpm
          have hln : q + 1 < (P' ++ y :: x :: (Q ++ R2)).length := by rw [List.length_append, List.length_cons, List.length_cons, ← hq']; omega
          obtain ⟨a0, a1, a2, a3, a4, a5⟩ := hrw.at (q + 1) hln
          obtain ⟨b0, b1, b2, b3, b4, b5⟩ := hrw.at q (by omega)
          rw [getD_mid2 y hq'] at a0 a1 a2
          rw [getD_mid hq'] at b0 b1 b2
          have hsx := small_perm hpm HS.out x (List.mem_append_right _ (List.mem_cons_of_mem _ List.mem_cons_self))
          have hsy := small_perm hpm HS.out y (List.mem_append_right _ List.mem_cons_self)
          have HRW := Lib.hid hrw
          have HPM := Lib.hid hpm
          have HQQ := Lib.hid hq'
          have hci := cb_iff (encL x) (encL y)
          have HCM := Lib.hid (fun W => fcmp_any x y W hsx.1 hsy.1)
          obtain ⟨z, hz⟩ : ∃ z, z = Lib.compareBytes (encL x) (encL y) := ⟨_, rfl⟩
          rw [← hz] at hci HCM
          have HCI := Lib.hid hci
          clear hrw hpm hln hsx hsy hq' hz hci
          obtain ⟨j, hj⟩ : ∃ j, j = q + 1 := ⟨_, rfl⟩
          have hj2 : q = j - 1 := by omega
          rw [← hj] at a0 a1 a2 a3 a4 a5 hjk ⊢
          rw [hj2] at b0 b1 b2 b3 b4 b5
          have HJ := Lib.hid hj
          have hj1 : 1 ≤ j := by omega
          have hd1 : decide ((0 : Int) < (j : Int)) = true := by simp; omega
          have hd2 : decide (0 < j) = true := by simp; omega
          have hjn : j < n := by omega
          have hjw : IntKind.i64.wrap ((j : Int) - 1) = ((j - 1 : Nat) : Int) := by simp [IntKind.wrap, IntKind.bits, IntKind.signed]; omega
          have hjm : j - 1 < n := by omega
          clear hj hj2 hj0
          obtain ⟨xt, xk, xv⟩ := x
          obtain ⟨yt, yk, yv⟩ := y
          simp only [] at a0 a1 a2 b0 b1 b2
          unfold atV at HCM
          simp only [] at HCM
          by_cases hless : z < 0
          · have dz : decide (z < 0) = true := by simpa using hless
            have HLT := Lib.hid (leA_of_lt (HCI.out.1 hless))
            clear hless
            have c0 := cell_regrown a0
            have c1 := cell_regrown a1
            have c2 := cell_regrown a2
            have c3 := cell_regrown b0
            have c4 := cell_regrown b1
            have c5 := cell_regrown b2
            have d1 : ∀ d os, _ := fun d os => Calls.regrown_of (HCM.out (Sort.grow (redrawn ws d) os))
            clear a0 a1 a2 b0 b1 b2
            go_wp2_with fail
            refine wp_region_quiet_below (by kernel_rfl) (by kernel_rfl) ?_
            repeat (go_big_quiet_step (with_reducible exact d1 _ _))
            refine wpQuiet_nil ?_
            intro _ hw'
            obtain ⟨⟨dq, osq⟩, hw''⟩ := hw'
            subst hw''
            clear c0 c1 c2 c3 c4 c5 d1 a3 a4 a5 b3 b4 b5
            have hbr := below_regrown ws dq osq
            have HRV := Lib.hid (HRW.out.below hbr)
            have HBV := Lib.hid (HBUT2.out.next (But.of hbr))
            generalize Sort.grow (redrawn ws dq) osq = V2 at hbr HRV HBV ⊢
            clear hbr
            obtain ⟨a0, a1, a2, a3, a4, a5⟩ := HRV.out.at (q + 1) (by have := HJ.out; have := HPM.out.length_eq; have := HN.out; omega)
            obtain ⟨b0, b1, b2, b3, b4, b5⟩ := HRV.out.at q (by have := HJ.out; have := HPM.out.length_eq; have := HN.out; omega)
            rw [getD_mid2 _ HQQ.out] at a0 a1 a2
            rw [getD_mid HQQ.out] at b0 b1 b2
            rw [← HJ.out] at a0 a1 a2 a3 a4 a5
            rw [show q = j - 1 by have := HJ.out; omega] at b0 b1 b2 b3 b4 b5
            simp only [] at a0 a1 a2 b0 b1 b2
            have hlt2 : g < V2.heap.size := HRV.out.lt
            go_wp2_with fail
            go_region
            have hsw := HRV.out.swap HQQ.out
            have hsb : But g V2 _ := swap_but (w := V2) (g := g) (i0 := j * 3) (i1 := j * 3 + 1) (i2 := j * 3 + 2) (i3 := (j - 1) * 3) (i4 := (j - 1) * 3 + 1) (i5 := (j - 1) * 3 + 2) (v0 := .string yt) (v1 := .int .i64 yk) (v2 := .string yv) (v3 := .string xt) (v4 := .int .i64 xk) (v5 := .string xv)
            rw [← HJ.out, show q = j - 1 by have := HJ.out; omega] at hsw
            have HSW := Lib.hid hsw.drew
            have HSB := Lib.hid (HBV.out.next hsb).drew
            clear hsw hsb a0 a1 a2 a3 a4 a5 b0 b1 b2 b3 b4 b5
            go_wp2_with fail
            go_roundw
            case rel =>
              refine ⟨j - 1, P', (yt, yk, yv) :: Q, by go_num, by have := HQQ.out; have := HJ.out; omega, by omega, HSW.out, ?_, ?_, ?_, ?_, HSB.out⟩
              · refine (List.Perm.append_left P' (List.Perm.swap (yt, yk, yv) (xt, xk, xv) (Q ++ R2))).trans HPM.out
              · have := HSRT2.out; rw [List.append_assoc, List.singleton_append] at this; exact this
              · have := HPQ.out; rw [List.append_assoc, List.singleton_append] at this; exact this
              · intro v hv
                rcases List.mem_cons.1 hv with rfl | hv
                · exact HLT.out
                · exact HQ.out v hv
            case measure => simp [intOf]; omega
          · have dz : decide (z < 0) = false := by simpa using hless
            have HLT := Lib.hid (show leA (yt, yk, yv) (xt, xk, xv) from fun h => hless (HCI.out.2 h))
            clear hless
            have c0 := cell_regrown a0
            have c1 := cell_regrown a1
            have c2 := cell_regrown a2
            have c3 := cell_regrown b0
            have c4 := cell_regrown b1
            have c5 := cell_regrown b2
            have d1 : ∀ d os, _ := fun d os => Calls.regrown_of (HCM.out (Sort.grow (redrawn ws d) os))
            clear a0 a1 a2 b0 b1 b2
            go_wp2_with fail
            refine wp_region_quiet_below (by kernel_rfl) (by kernel_rfl) ?_
            repeat (go_big_quiet_step (with_reducible exact d1 _ _))
            refine wpQuiet_nil ?_
            intro _ hw'
            obtain ⟨⟨dq, osq⟩, hw''⟩ := hw'
            subst hw''
            clear c0 c1 c2 c3 c4 c5 d1 a3 a4 a5 b3 b4 b5
            have hbr := below_regrown ws dq osq
            have HRV := Lib.hid (HROW2.out.below hbr)
            have HBV := Lib.hid (HBUT2.out.next (But.of hbr))
            generalize Sort.grow (redrawn ws dq) osq = V2 at hbr HRV HBV ⊢
            clear hbr
            have HF := Lib.hid (show Srt ((P' ++ [(yt, yk, yv)]) ++ (xt, xk, xv) :: Q) from srt_put HSRT2.out HQ.out (srt_last (by have := HSRT2.out; unfold Srt at this ⊢; exact (List.pairwise_append.1 this).1) HLT.out))
            go_wp2_with fail
            go_roundw
            case rel => exact ⟨k + 1, (P' ++ [(yt, yk, yv)]) ++ (xt, xk, xv) :: Q, R2, by omega, by go_num, by have := HPQ.out; rw [List.length_append] at this ⊢; rw [List.length_cons]; omega, by omega, by rw [List.append_assoc]; exact HRV.out, by rw [List.append_assoc]; exact HPERM2.out, HF.out, HBV.out⟩
            case measure => simp [intOf]; omega
    · have hd : decide ((k : Int) < (n : Int)) = false := by simp; omega
      obtain rfl : R = [] := List.eq_nil_of_length_eq_zero (by have := HLEN.out; have := HDK.out; omega)
      have HRD := Lib.hid (show RowG wo g rest D by have := HROW.out; rwa [List.append_nil] at this)
      have HPD := Lib.hid (show D.Perm L by have := HPERM.out; rwa [List.append_nil] at this)
      go_wp2_with fail
      go_end0
      exact ⟨rfl, D, HPD.out, HSRT.out, HRD.out, HBUT.out⟩
end Go.Proofs.YtflpajbcomhkpaaGreatDoor
namespace Go.Proofs.YtflpajbcomhkpaaGreatDoor
open Go.RowKit

/-! ### The bytes of object identifiers and of escaped texts -/
/-! ### Keys -/
/-- A relative name without an error. -/
def okR (r : List At) : Prop := 1 ≤ r.length ∧ (∀ a ∈ r, okA a) ∧ (r.map (·.1)).Nodup
theorem okR_of {r : List At} (h : chkR r = 0) : okR r := by
  obtain ⟨h1, _, h3, h4⟩ := (chkR_iff r).1 h
  exact ⟨h1, h3, h4⟩
end Go.Proofs.YtflpajbcomhkpaaGreatDoor
namespace Go.Proofs.YtflpajbcomhkpaaGreatDoor
open Go.RowKit

/-! ### What is written -/
def shortO (x : ByteArray) : ByteArray := match SH.find? (fun p => decide (p.2 = x)) with | some p => p.1 | none => x
def fmtA (a : At) : ByteArray := strOf ((shortO a.1).data.toList ++ 61 :: escL a.2.2.data.toList)
noncomputable def fmtR (r : List At) : ByteArray := strOf (Lib.join (((sortR r).map fmtA).map (·.data.toList)) [43])
noncomputable def fmtN (n : Nm) : ByteArray := strOf (Lib.join ((n.map fmtR).map (·.data.toList)) [44])
/-! ### What is read -/
end Go.Proofs.YtflpajbcomhkpaaGreatDoor
namespace Go.Proofs.YtflpajbcomhkpaaGreatDoor
open Go.RowKit Go.Sort

set_option maxRecDepth 100000 in
set_option maxHeartbeats 1000000 in
theorem assign_any (x v : ByteArray) (w : World) (hx : x.size ≤ 1000000) (hv : v.size ≤ 1000000) :
    Calls Tryz.prog 171 #[.string x, .string v] w fun e w' => e = .returned (.string (strOf (x.data.toList ++ 61 :: escL v.data.toList))) ∧ Below w.heap.size w w' := by
  have HE := Lib.hid (fun W => esc_any v W (by omega))
  have HL := Lib.hid (show (x ++ (⟨#[61]⟩ : ByteArray)) ++ escS v = strOf (x.data.toList ++ 61 :: escL v.data.toList) from by
    apply ext_list_t
    simp [escS, strOf])
  have hz := escS_size v
  obtain ⟨E, hE⟩ : ∃ E, E = escS v := ⟨_, rfl⟩
  rw [← hE] at HE HL hz
  have hz1 : E.size ≤ 3000000 := by omega
  have h1 : ∀ w, (Op.stringOp .add x ⟨#[61]⟩).run Tryz.prog w = .ok (.string (x ++ ⟨#[61]⟩)) w := fun w => run_string_add_sum w x _ (by show x.size + 1 ≤ _; omega)
  have h2 : ∀ w, (Op.stringOp .add (x ++ ⟨#[61]⟩) E).run Tryz.prog w = .ok (.string (x ++ ⟨#[61]⟩ ++ E)) w := fun w => run_string_add_sum w _ _ (by rw [ByteArray.size_append]; show x.size + 1 + E.size ≤ _; omega)
  clear hE hz
  go_enter Tryz.func171, Tryz.ntmps171
  go_wp2_with (go_at_call 91; (with_reducible refine (HE.out _).mono ?_); rintro e w1 ⟨rfl, hb1⟩; have HB := Lib.hid hb1; clear hb1)
  go_ret
  exact ⟨by rw [← HL.out]; rfl, HB.out⟩

end Go.Proofs.YtflpajbcomhkpaaGreatDoor
namespace Go.Proofs.YtflpajbcomhkpaaGreatDoor
open Go.RowKit Go.Sort

/-- The function numbered f answers for a relative name with a new row of the strings out. -/
def GivesR (f : Nat) (out : List At → List ByteArray) (Pre : List At → Prop) (Inv : World → Prop) : Prop :=
  ∀ (a : Option Addr) (c q : Nat) (r : List At) (W : World), ALies W a r → q = r.length → q ≤ c → Pre r → Inv W →
    Calls Tryz.prog f #[.slice a q c] W fun e w' => ∃ g, e = .returned (.slice (some ⟨g, 0, none⟩) q q) ∧ (out r).length = q ∧ (∀ j x, (out r)[j]? = some x → w'.cell? ⟨g, 0 + j, none⟩ = some (.string x)) ∧ g < w'.heap.size ∧ Below W.heap.size W w'
def joinS (out : List At → List ByteArray) (r : List At) : ByteArray := ⟨(Lib.join ((out r).map (·.data.toList)) [43]).toArray⟩
theorem join_len (c : UInt8) (M : Nat) : ∀ (ps : List (List UInt8)), (∀ p ∈ ps, p.length ≤ M) → (Lib.join ps [c]).length ≤ (M + 1) * ps.length
  | [], _ => by show 0 ≤ _; omega
  | [p], h => by
    rw [Lib.join_one]
    have := h p List.mem_cons_self
    rw [List.length_singleton]
    omega
  | p :: q :: r, h => by
    have h1 := h p List.mem_cons_self
    have h2 := join_len c M (q :: r) (fun x hx => h x (List.mem_cons_of_mem _ hx))
    rw [join_two, List.length_append, List.length_cons, List.length_cons, Nat.mul_succ]
    omega

set_option maxRecDepth 100000 in
set_option maxHeartbeats 4000000 in
theorem djoin_core (f : Nat) (eg : ∀ args w, (callFunc f args).run Tryz.prog w = .ok (.enter f args) w) (out : List At → List ByteArray) (Pre : List At → Prop) (Inv : World → Prop) (hf : GivesR f out Pre Inv) (hI : ∀ W W', Inv W → Below W.heap.size W W' → Inv W')
    (hO : ∀ r, Pre r → (joinS out r).size ≤ 1000000) (a0 : Option Addr) (c m : Nat) (n : Nm) (w : World) (h : RLies w a0 n) (hn : m = n.length) (hm : m ≤ 1000) (hr : ∀ i, i < n.length → (n.getD i []).length ≤ 1000) (hp : ∀ i, i < n.length → Pre (n.getD i [])) (hi : Inv w) :
    Calls Tryz.prog 131 #[.agg #[.slice a0 m c], .func (.func f) #[] #[]] w fun e w' => e = .returned (.string ⟨(Lib.join ((n.map (joinS out)).map (·.data.toList)) [44]).toArray⟩) ∧ Below w.heap.size w w' := by
  have hmk := strs_make m (by omega)
  obtain ⟨W0, hW0⟩ : ∃ W0, W0 = w.alloc (.cells #[.slice a0 m c] 30) := ⟨_, rfl⟩
  have hwr : w.alloc (.cells #[.slice a0 m c] 30) = W0 := hW0.symm
  have hb0 : Below w.heap.size w W0 := by rw [hW0]; exact belowNew w _
  have hq0 : W0.heap[w.heap.size]? = some (.cells #[.slice a0 m c] 30 (0, 0)) := by rw [hW0]; exact heap_alloc_new w _
  have hz0 : W0.heap.size = w.heap.size + 1 := by rw [hW0]; simp
  obtain ⟨W1, hW1⟩ : ∃ W1, W1 = W0.alloc (.cells (rowT m []) 9) := ⟨_, rfl⟩
  have hb1 : Below W0.heap.size W0 W1 := by rw [hW1]; exact belowNew W0 _
  have hq1 : W1.heap[W0.heap.size]? = some (.cells (rowT m []) 9 (0, 0)) := by rw [hW1]; exact heap_alloc_new W0 _
  obtain ⟨g, hg⟩ : ∃ g, g = W0.heap.size := ⟨_, rfl⟩
  obtain ⟨c0, f0, l0⟩ := one_facts hq0
  have c1 := (hb1.cell (p := ⟨w.heap.size, 0, none⟩) l0).trans c0
  rw [← hg] at hq1
  have HWE := Lib.hid hW1.symm
  have HB1 := Lib.hid (below_next hb0 hb1)
  have HQ1 := Lib.hid hq1
  have hwg : w.heap.size ≤ g := by rw [hg, hz0]; omega
  have HG := Lib.hid hg
  have H1 := Lib.hid h
  have HN := Lib.hid hn
  have HF := Lib.hid hf
  have HP := Lib.hid hp
  have HR := Lib.hid hr
  have HI := Lib.hid (fun W (hb : Below w.heap.size w W) => hI w W hi hb)
  have HO := Lib.hid hO
  have hlast : ∀ L : List ByteArray, L = n.map (joinS out) → (Lib.join (L.map (·.data.toList)) [44]).length ≤ 140737488355328 := fun L hL => by
    have := join_len 44 1000000 (L.map (·.data.toList)) (fun p hp' => by
      obtain ⟨s, hs, rfl⟩ := List.mem_map.1 hp'
      rw [hL] at hs
      obtain ⟨r, hr', rfl⟩ := List.mem_map.1 hs
      obtain ⟨i, hi', rfl⟩ := List.getElem_of_mem hr'
      have := hO _ (hp i hi')
      rw [getD_mem hi' _] at this
      exact this)
    rw [List.length_map, hL, List.length_map, ← hn] at this
    rw [hL]
    exact Nat.le_trans this (by have := Nat.mul_le_mul_left (1000000 + 1) hm; omega)
  have HLA := Lib.hid hlast
  obtain ⟨E, hE⟩ : ∃ E : ByteArray, E = ⟨(Lib.join ((n.map (joinS out)).map (·.data.toList)) [44]).toArray⟩ := ⟨_, rfl⟩
  rw [← hE]
  have HE := Lib.hid hE
  clear hE
  clear h hn hf hp hr hI hi hO hW0 hW1 hb0 hb1 hq0 hq1 hg hz0 hlast
  go_enter Tryz.func131, Tryz.ntmps131
  go_wp2_with fail
  rw [HWE.out, ← HG.out]
  clear hmk c0 c1 f0 l0 hwr
  go_loopw [15] (fun i wr => ∃ k : Nat, k ≤ m ∧ i = .int .i64 (k : Int) ∧ wr.heap[g]? = some (.cells (rowT m ((n.take k).map (joinS out))) 9 (0, 0)) ∧ Below w.heap.size w wr) (fun i _ => m - (intOf i).toNat)
  case atStart => exact ⟨0, Nat.zero_le _, rfl, HQ1.out, HB1.out⟩
  case round =>
    obtain ⟨wo, hwo⟩ : ∃ wo, wo = wr := ⟨_, rfl⟩
    subst hwo
    obtain ⟨k, hk, rfl, hq, hb⟩ := hrel
    have HB := Lib.hid hb
    have HQ := Lib.hid hq
    clear hb hq
    by_cases hlt : k < m
    · have hd : decide ((k : Int) < (m : Int)) = true := by simp; omega
      have hki : (k : Int) < (m : Int) := by omega
      obtain ⟨b, o, rfl, hb, a', c', e0, hc', hL⟩ := H1.out.at k (by rw [← HN.out]; exact hlt)
      have a0 : wo.cell? ⟨b, o + k, none⟩ = _ := (HB.out.cell (p := ⟨b, o + k, none⟩) hb).trans e0
      have hst : (n.take (k + 1)).map (joinS out) = (n.take k).map (joinS out) ++ [joinS out (n.getD k [])] := by rw [takeD n k (by rw [← HN.out]; exact hlt) []]; simp
      have hpr := HP.out k (by rw [← HN.out]; exact hlt)
      have hrz := HR.out k (by rw [← HN.out]; exact hlt)
      generalize n.getD k [] = r at a0 hst hpr hc' hL hrz
      obtain ⟨q, hqq⟩ : ∃ q, q = r.length := ⟨_, rfl⟩
      rw [← hqq] at a0 hc' hrz
      have HGR := Lib.hid (HF.out a' c' q r wo (hL.below HB.out) hqq hc' hpr (HI.out wo HB.out))
      have HJ := Lib.hid (HO.out r hpr)
      have HST := Lib.hid hst
      have HLL := Lib.hid (show k = ((n.take k).map (joinS out)).length by rw [List.length_map, List.length_take, ← HN.out]; omega)
      have hgl : g < wo.heap.size := (Array.getElem?_eq_some_iff.1 HQ.out).1
      obtain ⟨J, hJ⟩ : ∃ J, J = joinS out r := ⟨_, rfl⟩
      rw [← hJ] at HST
      have HJJ := Lib.hid hJ
      clear e0 hb hst hpr hqq hL hc' hJ
      go_wp2_with (first
        | (go_at_fn f; refine HGR.out.mono ?_; rintro e w3 ⟨g3, rfl, hlen3, hc3, hl3, hb3⟩; have hq3 := (hb3.block g hgl).trans HQ.out; have HQ3 := Lib.hid hq3; have HB3 := Lib.hid (below_next HB.out hb3); have hj3 := join_any g3 0 q (out r) ⟨#[43]⟩ w3 hc3 hl3 (by rw [hlen3]; omega) (by rw [hlen3]; exact Nat.le_refl _) (by have := HJ.out; exact Nat.le_trans this (by omega)); rw [hlen3] at hj3; have HJ3 := Lib.hid hj3; clear hb3 hq3 hj3 hc3 hl3 hlen3)
        | (go_at_call 166; (with_reducible refine HJ3.out.mono ?_); rintro e w4 ⟨he, hb4⟩; obtain rfl : e = .returned (.string J) := (by rw [he, HJJ.out]; rfl); have hq4 := (hb4.block g (Array.getElem?_eq_some_iff.1 HQ3.out).1).trans HQ3.out; have HQ4 := Lib.hid hq4; have HB4 := Lib.hid (below_next HB3.out hb4); obtain ⟨cv, hcv⟩ := rowT_at m ((n.take k).map (joinS out)) (by have := HLL.out; omega) k hlt; have hcell : w4.cell? ⟨g, k, none⟩ = some cv := (by rw [Lib.cell_of_heap hq4]; exact hcv); have hfz : w4.frozen? ⟨g, k, none⟩ = false := Lib.frozen_of_heap hq4 k; clear hb4 hq4 hcv he))
      go_roundw
      case rel => exact ⟨k + 1, by omega, by go_num, by rw [HST.out]; exact row_put HQ4.out HLL.out hlt, HB4.out.setCell (p := ⟨g, k, none⟩) hwg _⟩
      case measure => simp [intOf]; omega
    · have hd : decide ((k : Int) < (m : Int)) = false := by simp; omega
      have hq := HQ.out
      rw [List.take_of_length_le (by rw [← HN.out]; omega)] at hq
      obtain ⟨X, hX⟩ : ∃ X, X = n.map (joinS out) := ⟨_, rfl⟩
      rw [← hX] at hq
      have hXl : X.length = m := by rw [hX, List.length_map, ← HN.out]
      have hgl : g < wo.heap.size := (Array.getElem?_eq_some_iff.1 hq).1
      have hj := join_any g 0 m X ⟨#[44]⟩ wo (fun j x hx => by
        rw [Nat.zero_add, Lib.cell_of_heap hq, rowT_all m X hXl]
        simp [hx]) hgl (by rw [hXl]; omega) (by rw [hXl]; exact Nat.le_refl _) (HLA.out X hX)
      rw [hXl] at hj
      have HJ := Lib.hid hj
      have HEX := Lib.hid (show E = ⟨(Lib.join (X.map (·.data.toList)) [44]).toArray⟩ by rw [HE.out, hX])
      clear hq hX hXl hj
      go_wp2_with (go_at_call 166; (with_reducible refine HJ.out.mono ?_); rintro e w4 ⟨he, hb4⟩; obtain rfl : e = .returned (.string E) := (by rw [he, HEX.out]); have HB4 := Lib.hid (below_next HB.out hb4); clear hb4 he)
      go_ret
      exact ⟨rfl, HB4.out⟩
end Go.Proofs.YtflpajbcomhkpaaGreatDoor
namespace Go.Proofs.YtflpajbcomhkpaaGreatDoor
open Go.RowKit

/-! ### shortOf -/
theorem find_first2 {x : ByteArray} {d : ByteArray × ByteArray} : ∀ (l : List (ByteArray × ByteArray)) (k : Nat), k < l.length → (∀ j, j < k → (l.getD j d).2 ≠ x) → (l.getD k d).2 = x → l.find? (fun p => decide (p.2 = x)) = some (l.getD k d)
  | [], k, h, _, _ => absurd h (Nat.not_lt_zero _)
  | p :: l, 0, _, _, h => by
    rw [List.find?_cons_of_pos (by simpa using h)]; rfl
  | p :: l, k + 1, h, h1, h2 => by
    rw [List.find?_cons_of_neg (by simpa using h1 0 (by omega)), find_first2 (d := d) l k (by simpa using h) (fun j hj => by simpa using h1 (j + 1) (by omega)) (by simpa using h2)]
    simp
theorem find_no2 {x : ByteArray} {d : ByteArray × ByteArray} {l : List (ByteArray × ByteArray)} (h : ∀ j, j < l.length → (l.getD j d).2 ≠ x) : l.find? (fun p => decide (p.2 = x)) = none := by
  rw [List.find?_eq_none]
  intro p hp
  obtain ⟨j, hj, rfl⟩ := List.getElem_of_mem hp
  have := h j hj
  rw [List.getD_eq_getElem?_getD, List.getElem?_eq_getElem hj] at this
  simpa using this
theorem short_hit {x : ByteArray} (k : Nat) (hk : k < 7) (h1 : ∀ j, j < k → (SH.getD j (⟨#[]⟩, ⟨#[]⟩)).2 ≠ x) (h2 : (SH.getD k (⟨#[]⟩, ⟨#[]⟩)).2 = x) : shortO x = (SH.getD k (⟨#[]⟩, ⟨#[]⟩)).1 := by
  unfold shortO
  rw [find_first2 SH k hk h1 h2]
theorem short_miss {x : ByteArray} (h : ∀ j, j < 7 → (SH.getD j (⟨#[]⟩, ⟨#[]⟩)).2 ≠ x) : shortO x = x := by
  unfold shortO
  rw [find_no2 (l := SH) h]

set_option maxRecDepth 100000 in
set_option maxHeartbeats 4000000 in
theorem shortO_any (x : ByteArray) (w : World) (h : ShT w) :
    Calls Tryz.prog 172 #[.string x] w fun e w' => e = .returned (.string (shortO x)) ∧ Below w.heap.size w w' := by
  have c0 : w.cell? ⟨1, 0, none⟩ = some (.string ⟨#[67, 78]⟩) := h 0 (by omega)
  have c1 : w.cell? ⟨1, 1, none⟩ = some (.string ⟨#[50, 46, 53, 46, 52, 46, 51]⟩) := h 1 (by omega)
  have c2 : w.cell? ⟨1, 2, none⟩ = some (.string ⟨#[67]⟩) := h 2 (by omega)
  have c3 : w.cell? ⟨1, 3, none⟩ = some (.string ⟨#[50, 46, 53, 46, 52, 46, 54]⟩) := h 3 (by omega)
  have c4 : w.cell? ⟨1, 4, none⟩ = some (.string ⟨#[76]⟩) := h 4 (by omega)
  have c5 : w.cell? ⟨1, 5, none⟩ = some (.string ⟨#[50, 46, 53, 46, 52, 46, 55]⟩) := h 5 (by omega)
  have c6 : w.cell? ⟨1, 6, none⟩ = some (.string ⟨#[79]⟩) := h 6 (by omega)
  have c7 : w.cell? ⟨1, 7, none⟩ = some (.string ⟨#[50, 46, 53, 46, 52, 46, 49, 48]⟩) := h 7 (by omega)
  have c8 : w.cell? ⟨1, 8, none⟩ = some (.string ⟨#[79, 85]⟩) := h 8 (by omega)
  have c9 : w.cell? ⟨1, 9, none⟩ = some (.string ⟨#[50, 46, 53, 46, 52, 46, 49, 49]⟩) := h 9 (by omega)
  have c10 : w.cell? ⟨1, 10, none⟩ = some (.string ⟨#[68, 67]⟩) := h 10 (by omega)
  have c11 : w.cell? ⟨1, 11, none⟩ = some (.string ⟨#[48, 46, 57, 46, 50, 51, 52, 50, 46, 49, 57, 50, 48, 48, 51, 48, 48, 46, 49, 48, 48, 46, 49, 46, 50, 53]⟩) := h 11 (by omega)
  have c12 : w.cell? ⟨1, 12, none⟩ = some (.string ⟨#[69]⟩) := h 12 (by omega)
  have c13 : w.cell? ⟨1, 13, none⟩ = some (.string ⟨#[49, 46, 50, 46, 56, 52, 48, 46, 49, 49, 51, 53, 52, 57, 46, 49, 46, 57, 46, 49]⟩) := h 13 (by omega)
  obtain ⟨t, ht⟩ : ∃ t, t = shortO x := ⟨_, rfl⟩
  have HT := Lib.hid ht
  rw [← ht]
  clear h ht
  go_enter Tryz.func172, Tryz.ntmps172
  go_wp2_with fail
  clear c0 c1 c2 c3 c4 c5 c6 c7 c8 c9 c10 c11 c12 c13
  go_loopw [6] (fun i wr => ∃ k : Nat, k ≤ 7 ∧ i = .int .i64 k ∧ (∀ j, j < k → (SH.getD j (⟨#[]⟩, ⟨#[]⟩)).2 ≠ x) ∧ Below w.heap.size w wr) (fun i _ => 7 - (intOf i).toNat)
  case atStart => exact ⟨0, by omega, rfl, fun j hj => absurd hj (Nat.not_lt_zero _), Below.refl _ _⟩
  case round =>
    obtain ⟨k, hk, rfl, hA, hb⟩ := hrel
    have HB := Lib.hid hb
    have HA := Lib.hid hA
    clear hb hA
    by_cases hlt : k < 7
    · have hd : decide ((k : Int) < 7) = true := by simp; omega
      have hix := index_short k hlt
      obtain ⟨s, hs⟩ : ∃ s, s = (SH.getD k (⟨#[]⟩, ⟨#[]⟩)).1 := ⟨_, rfl⟩
      obtain ⟨i, hi⟩ : ∃ i, i = (SH.getD k (⟨#[]⟩, ⟨#[]⟩)).2 := ⟨_, rfl⟩
      rw [← hs, ← hi] at hix
      have HB1 := Lib.hid (below_next HB.out (belowNew wr (.cells #[.string s, .string i] 196)))
      have HE := Lib.hid (beq_str i x)
      by_cases hx : i = x
      · have hbq : (i.toList == x.toList) = true := by rw [HE.out]; exact decide_eq_true hx
        have HF := Lib.hid (show t = s by rw [HT.out, hs]; exact short_hit k hlt HA.out (by rw [← hi]; exact hx))
        clear hs hi hx
        go_wp2_with fail
        go_ret
        exact ⟨by rw [HF.out]; rfl, HB1.out⟩
      · have hbq : (i.toList == x.toList) = false := by rw [HE.out]; exact decide_eq_false hx
        have HF := Lib.hid (show ∀ j, j < k + 1 → (SH.getD j (⟨#[]⟩, ⟨#[]⟩)).2 ≠ x from fun j hj => by
          by_cases e : j = k
          · rw [e, ← hi]; exact hx
          · exact HA.out j (by omega))
        clear hs hi hx
        go_wp2_with fail
        go_roundw
        case rel => exact ⟨k + 1, by omega, by go_num, HF.out, HB1.out⟩
        case measure => simp [intOf]; omega
    · obtain rfl : k = 7 := by omega
      have hd : decide (((7 : Nat) : Int) < 7) = false := rfl
      have HF := Lib.hid (show t = x by rw [HT.out]; exact short_miss HA.out)
      go_wp2_with fail
      go_ret
      exact ⟨by rw [HF.out]; rfl, HB.out⟩

/-! ### Clone -/
theorem lies_news {w : World} {b o : Nat} {l : List At} (h : ALies w (some ⟨b, o, none⟩) l) : ∀ j u, (atsCells l)[j]? = some u → w.cell? ((⟨b, o, none⟩ : Addr).add j) = some u := by
  intro j u hj
  have hj2 : j < l.length * 3 := by rw [← atsCells_length]; exact (List.getElem?_eq_some_iff.1 hj).1
  have e : j = j / 3 * 3 + j % 3 := by omega
  rcases h with h | ⟨b', o', hb, hc⟩
  · rw [h] at hj2; simp at hj2
  · obtain ⟨rfl, rfl⟩ : b = b' ∧ o = o' := by simpa using hb
    obtain ⟨c0, c1, c2⟩ := hc (j / 3) (by omega)
    have ha := ats_at l (j / 3) (by omega) (j % 3) (by omega)
    rw [← e, hj] at ha
    have ea : (⟨b, o, none⟩ : Addr).add j = ⟨b, o + j, none⟩ := by
      by_cases h0 : j = 0
      · subst h0; simp [Addr.add]
      · simp [Addr.add, h0]
    rw [ea]
    rcases (by omega : j % 3 = 0 ∨ j % 3 = 1 ∨ j % 3 = 2) with m | m | m
    · rw [m] at ha
      rw [show o + j = o + j / 3 * 3 by omega, c0]; exact ha.symm
    · rw [m] at ha
      rw [show o + j = o + j / 3 * 3 + 1 by omega, c1]; exact ha.symm
    · rw [m] at ha
      rw [show o + j = o + j / 3 * 3 + 2 by omega, c2]; exact ha.symm
theorem lit_none (w : World) (B G : Nat) (hG : w.heap.size = G) (hB : B ≤ w.heap.size) : OwnA (w.alloc (.cells #[] 103)) B (.slice (some ⟨G, 0, none⟩) 0 0) [] := by
  subst hG
  exact World.ownsRow_lit w #[] 0 hB (by unfold maxLen; omega) rfl

set_option maxRecDepth 100000 in
set_option maxHeartbeats 4000000 in
theorem aclone_any (b o c n : Nat) (l : List At) (w : World) (h : ALies w (some ⟨b, o, none⟩) l) (hn : n = l.length) (h1 : 1 ≤ n) (hz : n ≤ 1000) :
    Calls Tryz.prog 167 #[.slice (some ⟨b, o, none⟩) n c] w fun e w' => ∃ v, e = .returned v ∧ OwnA w' w.heap.size v l ∧ Below w.heap.size w w' := by
  obtain ⟨i1, hi', hy0, hy1, hy2⟩ := info_parts atInfo
  have HO := Lib.hid (lit_none w w.heap.size w.heap.size rfl (Nat.le_refl _))
  have HNW := Lib.hid (lies_news (h.below (belowNew w (.cells #[] 103))))
  have HN := Lib.hid hn
  have hnil : ∀ w, (binOp .eql 101 (.slice (some ⟨b, o, none⟩) n c) (.slice none 0 0)).run Tryz.prog w = .ok (.bool false) w := fun w => run_eql_slice_nil w _ _ _ _ _ Tryz.underlying101
  clear h hn
  go_enter Tryz.func167, Tryz.ntmps167
  go_wp2_with (at_builtin; ((refine wpList_append_own _ rfl (.tmp 5) (.tmp 6) 101 rfl w.heap.size 103 i1 (.agg #[.string ⟨#[]⟩, .int .i64 0, .string ⟨#[]⟩]) 3 40 Tryz.underlying101 hi' hy0 hy1 hy2 rfl (by decide) _ 0 [] rfl HO.out ⟨b, o, none⟩ n c (atsCells l) rfl (by rw [atsCells_length, HN.out]) HNW.out (atsCells_one l) (by unfold maxLen; omega) (by omega) (by simp) ?_); intro v' w6 hown6 hgr6 _; have HP1 := Lib.hid hown6; have HP2 := Lib.hid hgr6; clear hown6 hgr6))
  go_ret
  refine ⟨_, rfl, ?_, (belowNew w _).grown HP2.out (by simp) (fun j e => (World.ownsRow.lt HO.out j e).1)⟩
  have := HP1.out
  rw [Nat.zero_add, List.nil_append, HN.out] at this
  exact this
end Go.Proofs.YtflpajbcomhkpaaGreatDoor
