/-
  The contracts of Encode of package subtree, and of the reference's EncodeSubtrees.
  Rows of general names that go on lying while one block alone is written. Nothing is claimed of the program here.
  The constraints of the generator are such that the code gives them back; the contract of the reference's SameSubtrees.
  The contract of the law's state: up to four constraints of the generator.
  The contracts of Add of package subtree and of the law's awake.
-/
import Derived.Test.YtbpdenfiifcfcaaGreatDoorMbi
import Derived.Test.YtbpdenfiifcfcaaGreatDoorMbm
import Derived.Test.YtbpdenfiifcfcaaGreatDoorMbh
import Derived.Test.YtbpdenfiifcfcaaGreatDoorMbl
import Derived.Test.YtbpdenfiifcfcaaGreatDoorMbk
import Derived.Test.YtbpdenfiifcfcaaGreatDoorMbj
namespace Go.Proofs.YtbpdenfiifcfcaaGreatDoor
open Go.RowKit

noncomputable def encV2 (s : Sub) : Value := .tuple #[.string (encSub s).1, .int .i64 (((encSub s).2 : Nat) : Int)]
theorem errT_all : ∀ {l : List Gn}, errT l = 0 → ∀ g ∈ l, xGt g = 0
  | [], _, g, hg => by cases hg
  | x :: r, h, g, hg => by
    by_cases hx : xGt x = 0
    · have h1 : errT r = 0 := by
        have h2 : (if xGt x ≠ 0 then xGt x else errT r) = 0 := h
        rwa [if_neg (not_not_intro hx)] at h2
      rcases List.mem_cons.1 hg with rfl | hg
      · exact hx
      · exact errT_all h1 g hg
    · have h2 : (if xGt x ≠ 0 then xGt x else errT r) = 0 := h
      rw [if_pos hx] at h2
      exact absurd h2 hx
theorem chkS_all {s : Sub} (h : chkS s = 0) : s.1.length ≤ 16 ∧ s.2.length ≤ 16 ∧ (∀ g ∈ s.1, xGt g = 0) ∧ ∀ g ∈ s.2, xGt g = 0 := by
  unfold chkS at h
  split at h
  · cases h
  · split at h
    · cases h
    · rename_i h16
      have := errT_all h
      exact ⟨by omega, by omega, fun g hg => this g (List.mem_append_left _ hg), fun g hg => this g (List.mem_append_right _ hg)⟩
theorem encV2_err {s : Sub} (h : chkS s ≠ 0) : encV2 s = .tuple #[.string ⟨#[]⟩, .int .i64 ((chkS s : Nat) : Int)] := by unfold encV2 encSub; rw [if_pos h]
theorem encV2_one {s : Sub} (h : chkS s = 0) (h1 : (partB 160 s.1).2 ≠ 0) : encV2 s = .tuple #[.string ⟨#[]⟩, .int .i64 (((partB 160 s.1).2 : Nat) : Int)] := by unfold encV2 encSub; rw [if_neg (not_not_intro h), if_pos h1]
theorem encV2_two {s : Sub} (h : chkS s = 0) (h1 : (partB 160 s.1).2 = 0) (h2 : (partB 161 s.2).2 ≠ 0) : encV2 s = .tuple #[.string ⟨#[]⟩, .int .i64 (((partB 161 s.2).2 : Nat) : Int)] := by unfold encV2 encSub; rw [if_neg (not_not_intro h), if_neg (not_not_intro h1), if_pos h2]
theorem encV2_ok {s : Sub} (h : chkS s = 0) (h1 : (partB 160 s.1).2 = 0) (h2 : (partB 161 s.2).2 = 0) : encV2 s = fitV 48 ⟨((partB 160 s.1).1.data.toList ++ (partB 161 s.2).1.data.toList).toArray⟩ := by unfold encV2 encSub fitV; rw [if_neg (not_not_intro h), if_neg (not_not_intro h1), if_neg (not_not_intro h2)]
theorem fit2 (T : Int) (hT : TagOk T) (g : Nat) (x y : ByteArray) (w : World) (h : w.cell? ⟨g, 0, none⟩ = some (.string x)) (k : w.cell? ⟨g, 1, none⟩ = some (.string y)) :
    Calls Tryz.prog 29 #[.int .i64 T, .slice (some ⟨g, 0, none⟩) 2 2] w fun e w' => e = .returned (fitV T ⟨(x.data.toList ++ y.data.toList).toArray⟩) ∧ Below w.heap.size w w' := by
  have := swrap_any T hT _ _ _ _ w (reads_two h k) (by simp)
  rwa [cat_two] at this
theorem rfit2 (T : Int) (hT : TagOk T) (g : Nat) (x y : ByteArray) (w : World) (h : w.cell? ⟨g, 0, none⟩ = some (.string x)) (k : w.cell? ⟨g, 1, none⟩ = some (.string y)) (hx : x.size + y.size ≤ 1099511627776) :
    Calls Tryz.prog 31 #[.int .i64 T, .slice (some ⟨g, 0, none⟩) 2 2] w fun e w' => e = .returned (fitV T ⟨(x.data.toList ++ y.data.toList).toArray⟩) ∧ Below w.heap.size w w' := by
  have := rfit_any T hT _ _ _ _ w (reads_two h k) (by simp) (by rw [cat_two, List.length_append]; exact hx)
  rwa [cat_two] at this
theorem partB_size (T : Int) (l : List Gn) : (partB T l).1.size ≤ 131080 := by
  unfold partB fitB
  split
  · show 0 ≤ _; omega
  · split
    · exact wrapStr_size _ _
    · show 0 ≤ _; omega
theorem bxa (V : World) (x y : ByteArray) (T : TypeId) : (V.alloc (.cells #[.string x, .string y] T)).cell? ⟨V.heap.size, 0, none⟩ = some (.string x) ∧ (V.alloc (.cells #[.string x, .string y] T)).cell? ⟨V.heap.size, 1, none⟩ = some (.string y) := by
  obtain ⟨h1, h2, _⟩ := two_facts (heap_alloc_new V (.cells #[.string x, .string y] T))
  exact ⟨h1, h2⟩

set_option maxRecDepth 100000 in
set_option maxHeartbeats 4000000 in
theorem encs_core (a1 a2 : Option Addr) (c1 c2 m1 m2 : Nat) (s : Sub) (w : World) (h1 : GLies w a1 s.1) (h2 : GLies w a2 s.2) (hm1 : m1 = s.1.length) (hm2 : m2 = s.2.length) (hs1 : SmL s.1) (hs2 : SmL s.2) (hmm1 : m1 ≤ 1000000) (hmm2 : m2 ≤ 1000000) (hT : Tab w) (hmk : Mk w) :
    Calls Tryz.prog 14 #[.agg #[.slice a1 m1 c1, .slice a2 m2 c2]] w fun e w' => e = .returned (encV2 s) ∧ Below w.heap.size w w' := by
  obtain ⟨W0, hW0⟩ : ∃ W0, W0 = w.alloc (.cells #[.slice a1 m1 c1, .slice a2 m2 c2] 24) := ⟨_, rfl⟩
  have hwr := hW0.symm
  have hb0 : Below w.heap.size w W0 := by rw [hW0]; exact belowNew w _
  obtain ⟨b0, b1, lb⟩ := two_facts (w := W0) (g := w.heap.size) (by rw [hW0]; exact heap_alloc_new w _)
  have HB0 := Lib.hid hb0
  have HC := Lib.hid (chks_core a1 a2 c1 c2 m1 m2 s W0 (h1.below hb0) (h2.below hb0) hm1 hm2 hmm1 hmm2 hs1 hs2 (hT.below hb0) (hmk.below hb0))
  obtain ⟨E, hE⟩ : ∃ E, E = chkS s := ⟨_, rfl⟩
  rw [← hE] at HC
  by_cases hz : E = 0
  · have hx := chkS_all (s := s) (by rw [← hE, hz])
    have HP1 := Lib.hid (fun W (hb : Below w.heap.size w W) => encpart_core 160 (.inr (.inl rfl)) a1 c1 m1 s.1 W (h1.below hb) hm1 (by have := hx.1; omega) hs1 hx.2.2.1 (hT.below hb) (hmk.below hb))
    have HP2 := Lib.hid (fun W (hb : Below w.heap.size w W) => encpart_core 161 (.inr (.inr rfl)) a2 c2 m2 s.2 W (h2.below hb) hm2 (by have := hx.2.1; omega) hs2 hx.2.2.2 (hT.below hb) (hmk.below hb))
    unfold partV at HP1 HP2
    have e1 := fun k => encV2_one (s := s) (by rw [← hE, hz]) k
    have e2 := fun k l => encV2_two (s := s) (by rw [← hE, hz]) k l
    have e3 := fun k l => encV2_ok (s := s) (by rw [← hE, hz]) k l
    have z1 := partB_size 160 s.1
    have z2 := partB_size 161 s.2
    generalize partB 160 s.1 = A at HP1 e1 e2 e3 z1
    generalize partB 161 s.2 = B at HP2 e2 e3 z2
    obtain ⟨A1, A2⟩ := A
    obtain ⟨B1, B2⟩ := B
    simp only at HP1 HP2 e1 e2 e3 z1 z2
    have E1 := Lib.hid e1
    have E2 := Lib.hid e2
    have E3 := Lib.hid e3
    have HF := Lib.hid (fun g W h k => fit2 48 (.inl rfl) g A1 B1 W h k)
    subst hz
    clear h1 h2 hm1 hm2 hs1 hs2 hW0 hb0 hE hx e1 e2 e3 z1 z2 hT hmk hmm1 hmm2
    by_cases hA : A2 = 0
    · subst hA
      by_cases hB : B2 = 0
      · subst hB
        rw [E3.out rfl rfl]
        generalize (⟨(A1.data.toList ++ B1.data.toList).toArray⟩ : ByteArray) = X at HF ⊢
        unfold fitV at HF ⊢
        generalize fitB 48 X = F at HF ⊢
        obtain ⟨F1, F2⟩ := F
        simp only at HF ⊢
        go_enter Tryz.func14, Tryz.ntmps14
        go_wp2_with (first
          | (go_at_call 16; (with_reducible refine HC.out.mono ?_); rintro e w1 ⟨rfl, hb1⟩; have HB1 := Lib.hid (below_next HB0.out hb1); have d0 := (hb1.cell (p := ⟨w.heap.size, 0, none⟩) lb).trans b0; have d1 := (hb1.cell (p := ⟨w.heap.size, 1, none⟩) lb).trans b1; have ld := Nat.lt_of_lt_of_le lb hb1.size; clear hb1)
          | (go_at_call 28; (with_reducible refine (HP1.out _ HB1.out).mono ?_); rintro e w2 ⟨rfl, hb2⟩; have HB2 := Lib.hid (below_next HB1.out hb2); have f1 := (hb2.cell (p := ⟨w.heap.size, 1, none⟩) ld).trans d1; clear hb2)
          | (go_at_call 28; (with_reducible refine (HP2.out _ HB2.out).mono ?_); rintro e w3 ⟨rfl, hb3⟩; have HB3 := Lib.hid (below_next HB2.out hb3); clear hb3)
          | (go_at_call 29; (with_reducible refine (HF.out _ _ (bxa _ _ _ _).1 (bxa _ _ _ _).2).mono ?_); rintro e w5 ⟨rfl, hb5⟩; have HB5 := Lib.hid (below_next HB3.out (below_next (belowNew _ _) hb5)); clear hb5))
        go_ret2
        exact ⟨rfl, HB5.out⟩
      · have hz1 := errno_ne hB
        rw [E2.out rfl hB]
        clear E1 E2 E3 HF hB
        go_enter Tryz.func14, Tryz.ntmps14
        go_wp2_with (first
          | (go_at_call 16; (with_reducible refine HC.out.mono ?_); rintro e w1 ⟨rfl, hb1⟩; have HB1 := Lib.hid (below_next HB0.out hb1); have d0 := (hb1.cell (p := ⟨w.heap.size, 0, none⟩) lb).trans b0; have d1 := (hb1.cell (p := ⟨w.heap.size, 1, none⟩) lb).trans b1; have ld := Nat.lt_of_lt_of_le lb hb1.size; clear hb1)
          | (go_at_call 28; (with_reducible refine (HP1.out _ HB1.out).mono ?_); rintro e w2 ⟨rfl, hb2⟩; have HB2 := Lib.hid (below_next HB1.out hb2); have f1 := (hb2.cell (p := ⟨w.heap.size, 1, none⟩) ld).trans d1; clear hb2)
          | (go_at_call 28; (with_reducible refine (HP2.out _ HB2.out).mono ?_); rintro e w3 ⟨rfl, hb3⟩; have HB3 := Lib.hid (below_next HB2.out hb3); clear hb3))
        go_ret2
        exact ⟨rfl, HB3.out⟩
    · have hz1 := errno_ne hA
      rw [E1.out hA]
      clear E1 E2 E3 HF hA
      go_enter Tryz.func14, Tryz.ntmps14
      go_wp2_with (first
        | (go_at_call 16; (with_reducible refine HC.out.mono ?_); rintro e w1 ⟨rfl, hb1⟩; have HB1 := Lib.hid (below_next HB0.out hb1); have d0 := (hb1.cell (p := ⟨w.heap.size, 0, none⟩) lb).trans b0; clear hb1)
        | (go_at_call 28; (with_reducible refine (HP1.out _ HB1.out).mono ?_); rintro e w2 ⟨rfl, hb2⟩; have HB2 := Lib.hid (below_next HB1.out hb2); clear hb2))
      go_ret2
      exact ⟨rfl, HB2.out⟩
  · have hz1 := errno_ne hz
    rw [encV2_err (by rw [← hE]; exact hz), ← hE]
    clear h1 h2 hm1 hm2 hs1 hs2 hW0 hb0 hE hT hmk hmm1 hmm2
    go_enter Tryz.func14, Tryz.ntmps14
    go_wp2_with (go_at_call 16; (with_reducible refine HC.out.mono ?_); rintro e w1 ⟨rfl, hb1⟩; have HB1 := Lib.hid (below_next HB0.out hb1); clear hb1)
    go_ret2
    exact ⟨rfl, HB1.out⟩

set_option maxRecDepth 100000 in
set_option maxHeartbeats 4000000 in
theorem rencs_core (a1 a2 : Option Addr) (c1 c2 m1 m2 : Nat) (s : Sub) (w : World) (h1 : GLies w a1 s.1) (h2 : GLies w a2 s.2) (hm1 : m1 = s.1.length) (hm2 : m2 = s.2.length) (hs1 : SmL s.1) (hs2 : SmL s.2) (hn1 : a1 = none → m1 = 0 ∧ c1 = 0) (hn2 : a2 = none → m2 = 0 ∧ c2 = 0) :
    Calls Tryz.prog 15 #[.agg #[.slice a1 m1 c1, .slice a2 m2 c2]] w fun e w' => e = .returned (encV2 s) ∧ Below w.heap.size w w' := by
  obtain ⟨W0, hW0⟩ : ∃ W0, W0 = w.alloc (.cells #[.slice a1 m1 c1, .slice a2 m2 c2] 24) := ⟨_, rfl⟩
  have hwr := hW0.symm
  have hb0 : Below w.heap.size w W0 := by rw [hW0]; exact belowNew w _
  obtain ⟨b0, b1, lb⟩ := two_facts (w := W0) (g := w.heap.size) (by rw [hW0]; exact heap_alloc_new w _)
  have HB0 := Lib.hid hb0
  have HC := Lib.hid (rchks_core a1 a2 c1 c2 m1 m2 s W0 (h1.below hb0) (h2.below hb0) hm1 hm2 hn1 hn2 hs1 hs2)
  obtain ⟨E, hE⟩ : ∃ E, E = chkS s := ⟨_, rfl⟩
  rw [← hE] at HC
  by_cases hz : E = 0
  · have hx := chkS_all (s := s) (by rw [← hE, hz])
    have HP1 := Lib.hid (fun W (hb : Below w.heap.size w W) => rpart_core 160 (.inr (.inl rfl)) a1 c1 m1 s.1 W (h1.below hb) hm1 (by have := hx.1; omega) hs1 hx.2.2.1)
    have HP2 := Lib.hid (fun W (hb : Below w.heap.size w W) => rpart_core 161 (.inr (.inr rfl)) a2 c2 m2 s.2 W (h2.below hb) hm2 (by have := hx.2.1; omega) hs2 hx.2.2.2)
    unfold partV at HP1 HP2
    have e1 := fun k => encV2_one (s := s) (by rw [← hE, hz]) k
    have e2 := fun k l => encV2_two (s := s) (by rw [← hE, hz]) k l
    have e3 := fun k l => encV2_ok (s := s) (by rw [← hE, hz]) k l
    have z1 := partB_size 160 s.1
    have z2 := partB_size 161 s.2
    generalize partB 160 s.1 = A at HP1 e1 e2 e3 z1
    generalize partB 161 s.2 = B at HP2 e2 e3 z2
    obtain ⟨A1, A2⟩ := A
    obtain ⟨B1, B2⟩ := B
    simp only at HP1 HP2 e1 e2 e3 z1 z2
    have E1 := Lib.hid e1
    have E2 := Lib.hid e2
    have E3 := Lib.hid e3
    have HF := Lib.hid (fun g W h k => rfit2 48 (.inl rfl) g A1 B1 W h k (by omega))
    subst hz
    clear h1 h2 hm1 hm2 hs1 hs2 hW0 hb0 hE hx e1 e2 e3 z1 z2 hn1 hn2
    by_cases hA : A2 = 0
    · subst hA
      by_cases hB : B2 = 0
      · subst hB
        rw [E3.out rfl rfl]
        generalize (⟨(A1.data.toList ++ B1.data.toList).toArray⟩ : ByteArray) = X at HF ⊢
        unfold fitV at HF ⊢
        generalize fitB 48 X = F at HF ⊢
        obtain ⟨F1, F2⟩ := F
        simp only at HF ⊢
        go_enter Tryz.func15, Tryz.ntmps15
        go_wp2_with (first
          | (go_at_call 17; (with_reducible refine HC.out.mono ?_); rintro e w1 ⟨rfl, hb1⟩; have HB1 := Lib.hid (below_next HB0.out hb1); have d0 := (hb1.cell (p := ⟨w.heap.size, 0, none⟩) lb).trans b0; have d1 := (hb1.cell (p := ⟨w.heap.size, 1, none⟩) lb).trans b1; have ld := Nat.lt_of_lt_of_le lb hb1.size; clear hb1)
          | (go_at_call 30; (with_reducible refine (HP1.out _ HB1.out).mono ?_); rintro e w2 ⟨rfl, hb2⟩; have HB2 := Lib.hid (below_next HB1.out hb2); have f1 := (hb2.cell (p := ⟨w.heap.size, 1, none⟩) ld).trans d1; clear hb2)
          | (go_at_call 30; (with_reducible refine (HP2.out _ HB2.out).mono ?_); rintro e w3 ⟨rfl, hb3⟩; have HB3 := Lib.hid (below_next HB2.out hb3); clear hb3)
          | (go_at_call 31; (with_reducible refine (HF.out _ _ (bxa _ _ _ _).1 (bxa _ _ _ _).2).mono ?_); rintro e w5 ⟨rfl, hb5⟩; have HB5 := Lib.hid (below_next HB3.out (below_next (belowNew _ _) hb5)); clear hb5))
        go_ret2
        exact ⟨rfl, HB5.out⟩
      · have hz1 := errno_ne hB
        rw [E2.out rfl hB]
        clear E1 E2 E3 HF hB
        go_enter Tryz.func15, Tryz.ntmps15
        go_wp2_with (first
          | (go_at_call 17; (with_reducible refine HC.out.mono ?_); rintro e w1 ⟨rfl, hb1⟩; have HB1 := Lib.hid (below_next HB0.out hb1); have d0 := (hb1.cell (p := ⟨w.heap.size, 0, none⟩) lb).trans b0; have d1 := (hb1.cell (p := ⟨w.heap.size, 1, none⟩) lb).trans b1; have ld := Nat.lt_of_lt_of_le lb hb1.size; clear hb1)
          | (go_at_call 30; (with_reducible refine (HP1.out _ HB1.out).mono ?_); rintro e w2 ⟨rfl, hb2⟩; have HB2 := Lib.hid (below_next HB1.out hb2); have f1 := (hb2.cell (p := ⟨w.heap.size, 1, none⟩) ld).trans d1; clear hb2)
          | (go_at_call 30; (with_reducible refine (HP2.out _ HB2.out).mono ?_); rintro e w3 ⟨rfl, hb3⟩; have HB3 := Lib.hid (below_next HB2.out hb3); clear hb3))
        go_ret2
        exact ⟨rfl, HB3.out⟩
    · have hz1 := errno_ne hA
      rw [E1.out hA]
      clear E1 E2 E3 HF hA
      go_enter Tryz.func15, Tryz.ntmps15
      go_wp2_with (first
        | (go_at_call 17; (with_reducible refine HC.out.mono ?_); rintro e w1 ⟨rfl, hb1⟩; have HB1 := Lib.hid (below_next HB0.out hb1); have d0 := (hb1.cell (p := ⟨w.heap.size, 0, none⟩) lb).trans b0; clear hb1)
        | (go_at_call 30; (with_reducible refine (HP1.out _ HB1.out).mono ?_); rintro e w2 ⟨rfl, hb2⟩; have HB2 := Lib.hid (below_next HB1.out hb2); clear hb2))
      go_ret2
      exact ⟨rfl, HB2.out⟩
  · have hz1 := errno_ne hz
    rw [encV2_err (by rw [← hE]; exact hz), ← hE]
    clear h1 h2 hm1 hm2 hs1 hs2 hW0 hb0 hE hn1 hn2
    go_enter Tryz.func15, Tryz.ntmps15
    go_wp2_with (go_at_call 17; (with_reducible refine HC.out.mono ?_); rintro e w1 ⟨rfl, hb1⟩; have HB1 := Lib.hid (below_next HB0.out hb1); clear hb1)
    go_ret2
    exact ⟨rfl, HB1.out⟩
end Go.Proofs.YtbpdenfiifcfcaaGreatDoor
namespace Go.Proofs.YtbpdenfiifcfcaaGreatDoor
open Go.RowKit

theorem ownG_at {w : World} {B n c : Nat} {a : Option Addr} {l : List Gn} (h : OwnG w B (.slice a n c) l) : GLies w a l := by
  obtain ⟨a', c', e, _, hl⟩ := h.lies
  obtain ⟨rfl, _, _⟩ : a = a' ∧ n = l.length ∧ c = c' := by simpa using e
  exact hl
theorem own_room {w : World} {B n c : Nat} {a : Option Addr} {l : List Gn} (h : OwnG w B (.slice a n c) l) : a = none → n = 0 ∧ c = 0 := fun e => by
  obtain ⟨a', c', e1, hc, _⟩ := h.lies
  obtain ⟨rfl, rfl, rfl⟩ : a = a' ∧ n = l.length ∧ c = c' := by simpa using e1
  obtain ⟨ss, _, h2, _⟩ := h
  obtain ⟨a'', c'', e2, hz⟩ := own_formz h2
  obtain ⟨rfl, rfl⟩ : a = a'' ∧ c = c'' := by simpa using e2
  have := hz e
  exact ⟨by omega, this⟩
def KeepS (p : Nat) (w : World) (a : Option Addr) (n c : Nat) (l : List Gn) : Prop := n = l.length ∧ n ≤ c ∧ (a = none → n = 0 ∧ c = 0) ∧ ∀ W, But p w W → GLies W a l
theorem KeepS.next {p : Nat} {w w' : World} {a : Option Addr} {n c : Nat} {l : List Gn} (h : KeepS p w a n c l) (hb : But p w w') : KeepS p w' a n c l := ⟨h.1, h.2.1, h.2.2.1, fun W hW => h.2.2.2 W (hb.next hW)⟩
theorem KeepS.lies {p : Nat} {w : World} {a : Option Addr} {n c : Nat} {l : List Gn} (h : KeepS p w a n c l) : GLies w a l := h.2.2.2 w (But.refl p w)
theorem KeepS.own {p B : Nat} {w : World} {a : Option Addr} {n c : Nat} {l : List Gn} (h : OwnG w B (.slice a n c) l) (hp : p < B) : KeepS p w a n c l := by
  have hz := own_room h
  obtain ⟨a', c', e, hc, _⟩ := h.lies
  obtain ⟨rfl, rfl, rfl⟩ : a = a' ∧ n = l.length ∧ c = c' := by simpa using e
  exact ⟨rfl, hc, hz, fun W hW => ownG_at (h.but hW hp)⟩
/-- A name that lies elsewhere behind a row that is owned. -/
theorem KeepS.snoc {p B : Nat} {w : World} {v : Value} {A : List Gn} {g : Gn} {ss : List Value} {ag : Option Addr} {cg : Nat} (hp : p < B) (h1 : ss.length = A.length) (hown : w.ownsRow B 29 3 v (A.length + 1) (gsCells A ss ++ gCells g (.slice ag g.2.2.length cg))) (h3 : ∀ i, i < A.length → OwnN w B (ss.getD i noS) (A.getD i noG).2.2)
    (hr : ∀ W, But p w W → RLies W ag g.2.2) (hcg : g.2.2.length ≤ cg) : ∃ a c, v = .slice a (A.length + 1) c ∧ KeepS p w a (A.length + 1) c (A ++ [g]) := by
  obtain ⟨a, c, e, hz⟩ := own_formz hown
  have key : ∀ W, But p w W → A.length + 1 ≤ c ∧ GLies W a (A ++ [g]) := fun W hW => by
    have hq : RowQ (fun a n => RLies W a n) W B v (A ++ [g]) := by
      refine ⟨ss ++ [.slice ag g.2.2.length cg], by simp [h1], by rw [List.length_append, gsCells_snoc A ss g _ h1]; exact own_but hown hW hp, fun i hi => ?_⟩
      by_cases hlt : i < A.length
      · rw [getD_snoc_lt _ _ _ _ (by omega), getD_snoc_lt _ _ _ _ hlt]
        obtain ⟨a5, c5, e5, hc5, hr5⟩ := ((h3 i hlt).but hW hp).lies
        exact ⟨a5, c5, e5, hc5, hr5⟩
      · rw [List.length_append, List.length_singleton] at hi
        obtain rfl : i = A.length := by omega
        rw [getD_snoc_eq, ← h1, getD_snoc_eq]
        exact ⟨ag, cg, rfl, hcg, hr W hW⟩
    obtain ⟨a', c', e', hc', hl⟩ := hq.lies
    rw [e] at e'
    obtain ⟨rfl, hn, rfl⟩ : a = a' ∧ A.length + 1 = (A ++ [g]).length ∧ c = c' := by simpa using e'
    exact ⟨by rw [hn]; exact hc', hl⟩
  refine ⟨a, c, e, by simp, (key w (But.refl p w)).1, fun h => ?_, fun W hW => (key W hW).2⟩
  have h2 := hz h
  have h4 := (key w (But.refl p w)).1
  omega
theorem own_block_ne {w : World} {B k n : Nat} {e T : TypeId} {v : Value} {xs : List Value} {q : Nat} {cs : Array Value} {f : Nat × Nat} (h : w.ownsRow B e k v n xs) (hq : w.heap[q]? = some (.cells cs T f)) (hT : T ≠ e) : v.ownBlock ≠ some q := by
  rcases h.2 with ⟨hv, _⟩ | ⟨b, cap, cur, hv, _, hb, _⟩
  · rw [hv]; simp [Value.ownBlock]
  · intro e1
    rw [hv] at e1
    simp [Value.ownBlock] at e1
    subst e1
    rw [hq] at hb
    simp at hb
    exact hT hb.2.1
/-- A block of another type is kept while a row grows. -/
theorem grown_other {w w' : World} {B k n : Nat} {e T : TypeId} {v : Value} {xs : List Value} {q : Nat} {cs : Array Value} {f : Nat × Nat} (h : w.ownsRow B e k v n xs) (hg : w.grownBy w' v.ownBlock) (hq : w.heap[q]? = some (.cells cs T f)) (hT : T ≠ e) : w'.heap[q]? = some (.cells cs T f) :=
  (hg.block q (Array.getElem?_eq_some_iff.1 hq).1 (fun e1 => own_block_ne h hq hT e1.symm)).trans hq
end Go.Proofs.YtbpdenfiifcfcaaGreatDoor
namespace Go.Proofs.YtbpdenfiifcfcaaGreatDoor
open Go.RowKit

theorem okG_sm {g : Gn} (h : OkG g) : SmG g := by
  have := okC_len h
  exact ⟨Nat.le_trans this.1 (by omega), madeN_small this.2⟩
end Go.Proofs.YtbpdenfiifcfcaaGreatDoor
namespace Go.Proofs.YtbpdenfiifcfcaaGreatDoor
open Go.RowKit

def StaMid (w0 wr : World) (p : Nat) (a : Option Addr) (cap : Nat) (zs : List Int) (v : Value) (L : List Sub) (k : Nat) : Prop :=
  wr.heap[w0.heap.size]? = some (.cells #[.slice none 0 0] 55 (0, 0)) ∧ wr.heap[w0.heap.size + 1]? = some (.cells #[v] 55 (0, 0)) ∧
    OwnSb wr (w0.heap.size + 2) v L ∧ p < w0.heap.size ∧ DeckAt wr p a cap zs k ∧ But p w0 wr
theorem StaMid.call {w0 wr w5 : World} {p : Nat} {a : Option Addr} {cap : Nat} {zs : List Int} {v : Value} {L : List Sub} {k k5 : Nat} (h : StaMid w0 wr p a cap zs v L k) (hb : But p wr w5) (hd : DeckAt w5 p a cap zs k5) : StaMid w0 w5 p a cap zs v L k5 := by
  obtain ⟨h1, h2, h3, h6, h7, h8⟩ := h
  exact ⟨(hb.block _ (Array.getElem?_eq_some_iff.1 h1).1 (by simp; omega)).trans h1, (hb.block _ (Array.getElem?_eq_some_iff.1 h2).1 (by simp; omega)).trans h2, h3.but hb (by omega), h6, hd, h8.next hb⟩
theorem StaMid.below {w0 wr w5 : World} {p : Nat} {a : Option Addr} {cap : Nat} {zs : List Int} {v : Value} {L : List Sub} {k : Nat} (h : StaMid w0 wr p a cap zs v L k) (hb : Below wr.heap.size wr w5) : StaMid w0 w5 p a cap zs v L k := by
  obtain ⟨h1, h2, h3, h6, h7, h8⟩ := h
  exact ⟨(hb.block _ (Array.getElem?_eq_some_iff.1 h1).1).trans h1, (hb.block _ (Array.getElem?_eq_some_iff.1 h2).1).trans h2, h3.below hb, h6, h7.below hb, h8.next (But.of hb)⟩
theorem StaMid.push {w0 w w6 : World} {p : Nat} {a : Option Addr} {cap : Nat} {zs : List Int} {v v' : Value} {s : Value × Value} {L : List Sub} {k : Nat} {g : Sub} {ss : List (Value × Value)} (h : StaMid w0 w p a cap zs v L k)
    (h1 : ss.length = L.length) (h2 : w.ownsRow (w0.heap.size + 2) 24 2 v L.length (ssCells ss)) (h3 : ∀ i, i < L.length → OwnG w (w0.heap.size + 2) (ss.getD i noSV).1 (L.getD i noSub).1 ∧ OwnG w (w0.heap.size + 2) (ss.getD i noSV).2 (L.getD i noSub).2) (hr : OwnG w (w0.heap.size + 2) s.1 g.1 ∧ OwnG w (w0.heap.size + 2) s.2 g.2)
    (hg : w.grownBy w6 v.ownBlock) (h4 : w6.ownsRow (w0.heap.size + 2) 24 2 v' (L.length + 1) (ssCells ss ++ sCells s)) : StaMid w0 (w6.setCell ⟨w0.heap.size + 1, 0, none⟩ v') p a cap zs v' (L ++ [g]) k := by
  obtain ⟨q1, q2, q3, q6, q7, q8⟩ := h
  have hs := But.set (w0.heap.size + 1) 0 w6 v'
  have c1 := (row_block h2 hg (Array.getElem?_eq_some_iff.1 q1).1 (by omega)).trans q1
  have c2 := (row_block h2 hg (Array.getElem?_eq_some_iff.1 q2).1 (by omega)).trans q2
  exact ⟨(hs.block _ (Array.getElem?_eq_some_iff.1 c1).1 (by simp)).trans c1, one_set c2, (OwnSb.snoc h1 h2 h3 hr hg h4).but hs (by omega), q6, (q7.grown hg (fun j e => by have := (World.ownsRow.lt h2 j e).1; omega)).grown hs (fun j e => by obtain rfl := Option.some.inj e; omega), (but_grown q8 h2 (by omega) hg).fresh hs (by omega)⟩
end Go.Proofs.YtbpdenfiifcfcaaGreatDoor
namespace Go.Proofs.YtbpdenfiifcfcaaGreatDoor
open Go.RowKit

/-- Bounds under which the functions on states are known. -/
def OkS (L : List Sub) : Prop := SmS L ∧ L.length ≤ 1000000 ∧ ∀ s ∈ L, s.1.length ≤ 1000000 ∧ s.2.length ≤ 1000000
theorem OkS.nil : OkS [] := ⟨(fun _ h => nomatch h), (Nat.zero_le _), (fun _ h => nomatch h)⟩
theorem OkS.snoc {L : List Sub} {s : Sub} (h : OkS L) (hl : L.length < 1000000) (h1 : SmL s.1) (h2 : SmL s.2) (h3 : s.1.length ≤ 1000000) (h4 : s.2.length ≤ 1000000) : OkS (L ++ [s]) := by
  refine ⟨fun x hx => ?_, by rw [List.length_append]; simp; omega, fun x hx => ?_⟩
  · rcases List.mem_append.1 hx with hx | hx
    · exact h.1 x hx
    · rw [List.mem_singleton.1 hx]; exact ⟨h1, h2⟩
  · rcases List.mem_append.1 hx with hx | hx
    · exact h.2.2 x hx
    · rw [List.mem_singleton.1 hx]; exact ⟨h3, h4⟩
theorem OkS.sz {L : List Sub} (h : OkS L) {i : Nat} (hi : i < L.length) : (L.getD i noSub).1.length ≤ 1000000 ∧ (L.getD i noSub).2.length ≤ 1000000 := by
  rw [List.getD_eq_getElem?_getD, List.getElem?_eq_getElem hi]; exact h.2.2 _ (List.getElem_mem hi)
set_option maxRecDepth 100000 in
set_option maxHeartbeats 4000000 in
theorem copiess_core (f : Nat) (eg : ∀ args w, (callFunc f args).run Tryz.prog w = .ok (.enter f args) w) (hf : CopiesS f) (a0 : Option Addr) (c m : Nat) (l : List Sub) (w : World) (h : SLies w a0 l) (hm : m = l.length) (hs : OkS l) :
    Calls Tryz.prog 45 #[.slice a0 m c, .func (.func f) #[] #[]] w fun e w' => ∃ v, e = .returned v ∧ OwnSb w' w.heap.size v l ∧ Below w.heap.size w w' := by
  obtain ⟨i0, hi, hz0, hz1, hz2⟩ := info_parts subInfo
  have hmm : m ≤ 1000000 := by rw [hm]; exact hs.2.1
  have H1 := Lib.hid h
  have HN := Lib.hid hm
  have HF := Lib.hid hf
  have HS := Lib.hid hs
  clear h hm hf hs
  go_enter Tryz.func45, Tryz.ntmps45
  go_wp2_with fail
  go_loopw [5, 10] (fun v i wr => ∃ k : Nat, k ≤ m ∧ i = .int .i64 k ∧ OwnSb wr w.heap.size v (l.take k) ∧ Below w.heap.size w wr) (fun _ i _ => m - (intOf i).toNat)
  case atStart => exact ⟨0, Nat.zero_le _, rfl, OwnSb.nil _ _, Below.refl _ _⟩
  case round =>
    obtain ⟨wz, hwz⟩ : ∃ wz, wz = wr := ⟨_, rfl⟩
    subst hwz
    obtain ⟨k, hk, rfl, ho, hb⟩ := hrel
    obtain ⟨av, cv, hv5, _, _⟩ := ho.lies
    have HB := Lib.hid hb
    have HO := Lib.hid ho
    have HNX : (l.take k).length = k := by rw [List.length_take]; exact Nat.min_eq_left (by rw [← HN.out]; exact hk)
    rw [HNX] at hv5
    have HTK := Lib.hid HNX
    clear hb ho HNX
    subst hv5
    by_cases hlt : k < m
    · have hd : decide ((k : Int) < (m : Int)) = true := by simp; omega
      have hki : (k : Int) < (m : Int) := by omega
      obtain ⟨b, o, rfl, hbl, a1, c1, a2, c2, e0, e1, ⟨hc1, hL1⟩, hc2, hL2⟩ := H1.out.at k (by rw [← HN.out]; exact hlt)
      have f0 := (HB.out.cell (p := ⟨b, o + k * 2, none⟩) hbl).trans e0
      have f1 := (HB.out.cell (p := ⟨b, o + k * 2 + 1, none⟩) hbl).trans e1
      have hsk := HS.out.1.at (i := k) (by rw [← HN.out]; exact hlt)
      have hzk := HS.out.sz (i := k) (by rw [← HN.out]; exact hlt)
      have HST := Lib.hid (takeN l k (by rw [← HN.out]; exact hlt) noSub)
      have HLT := Lib.hid hlt
      clear e0 e1 hbl
      generalize l.getD k noSub = G at f0 f1 hsk hzk hL1 hL2 hc1 hc2 HST
      obtain ⟨A, B⟩ := G
      simp only at f0 f1 hL1 hL2 hc1 hc2 hzk
      obtain ⟨NA, hNA⟩ : ∃ NA, NA = A.length := ⟨_, rfl⟩
      obtain ⟨NB, hNB⟩ : ∃ NB, NB = B.length := ⟨_, rfl⟩
      rw [← hNA] at f0 hzk
      rw [← hNB] at f1 hzk
      obtain ⟨W2, hW2⟩ : ∃ W2, W2 = wz.alloc (.cells #[.slice a1 NA c1, .slice a2 NB c2] 24) := ⟨_, rfl⟩
      have hb2 : Below wz.heap.size wz W2 := by rw [hW2]; exact belowNew wz _
      obtain ⟨s0, s1, ls⟩ := two_facts (w := W2) (g := wz.heap.size) (by rw [hW2]; exact heap_alloc_new wz _)
      have HB2 := Lib.hid (below_next HB.out hb2)
      have HO2 := Lib.hid (HO.out.below hb2)
      have HC := Lib.hid (HF.out a1 a2 c1 c2 NA NB A B W2 ((hL1.below HB.out).below hb2) ((hL2.below HB.out).below hb2) hNA hNB hzk.1 hzk.2 hsk.1 hsk.2)
      have HWE := hW2.symm
      clear hL1 hL2 hc1 hc2 hNA hNB hsk hzk hW2 hb2
      obtain ⟨X, hX⟩ : ∃ X, X = l.take k := ⟨_, rfl⟩
      rw [← hX] at HO2 HST HTK
      clear hX HO
      go_wp2_with (first
        | (go_at_fn f; refine HC.out.mono ?_; rintro e w3 ⟨u, v, rfl, ho3, ho4, hb3⟩; obtain ⟨a3, c3, rfl, _, _⟩ := ho3.lies; obtain ⟨a4, c4, rfl, _, _⟩ := ho4.lies; have HB3 := Lib.hid (below_next HB2.out hb3); obtain ⟨vs, hv1, hv2, hv3⟩ := HO2.out.below hb3; have HV1 := Lib.hid hv1; have HV2 := Lib.hid hv2; have HV3 := Lib.hid hv3; have HO3 := Lib.hid (And.intro (ho3.base HB2.out.size) (ho4.base HB2.out.size)); clear hb3 ho3 ho4 hv1 hv2 hv3)
        | (at_builtin; (refine wpList_append_own _ rfl (.tmp 14) (.tmp 18) 39 rfl w.heap.size 24 i0 (.agg #[.slice none 0 0, .slice none 0 0]) 2 48 Tryz.underlying39 hi hz0 hz1 hz2 rfl (by decide) _ X.length (ssCells vs) rfl (own_below HV2.out (belowNew _ _)) ⟨w3.heap.size, 0, none⟩ 1 1 (sCells (.slice a3 A.length c3, .slice a4 B.length c4)) rfl rfl (fun j u h => news_row w3 #[.slice a3 A.length c3, .slice a4 B.length c4] 24 j u (by simpa [sCells] using h)) (sCells_one _ _ _ _ _ _) (by have := HTK.out; unfold maxLen; omega) (by have := HTK.out; omega) (by have := HB3.out.size; simp; omega) ?_); intro v' w6 hown6 hgr6 _; have P3 := OwnSb.snoc HV1.out (own_below HV2.out (belowNew w3 _)) (fun i hi => ⟨(HV3.out i hi).1.below (belowNew w3 _), (HV3.out i hi).2.below (belowNew w3 _)⟩) ⟨HO3.out.1.below (belowNew w3 _), HO3.out.2.below (belowNew w3 _)⟩ hgr6 hown6 (g := (A, B)); have P2 := (HB3.out.trans ((belowNew w3 _).mono HB3.out.size)).grown hgr6 (by have := HB3.out.size; simp; omega) (fun j e => (World.ownsRow.lt HV2.out j e).1); obtain ⟨a6, c6, hv6, _, _⟩ := P3.lies; rw [List.length_append, List.length_singleton, HTK.out] at hv6; subst hv6; have HP3 := Lib.hid P3; have HP2 := Lib.hid P2; clear P2 P3 hown6 hgr6))
      go_roundw
      case rel => exact ⟨k + 1, HLT.out, by go_num, by rw [HST.out]; exact HP3.out, HP2.out⟩
      case measure => simp [intOf]; omega
    · have hd : decide ((k : Int) < (m : Int)) = false := by simp; omega
      obtain rfl : k = m := by omega
      go_wp2_with fail
      go_ret
      refine ⟨_, rfl, ?_, HB.out⟩
      have := HO.out
      rw [List.take_of_length_le (by rw [← HN.out]; exact Nat.le_refl _)] at this
      exact this
set_option maxRecDepth 100000 in
set_option maxHeartbeats 4000000 in
theorem add_core (a0 a1 a2 : Option Addr) (c m c1 c2 NA NB : Nat) (L : List Sub) (A B : List Gn) (w : World) (h : SLies w a0 L) (hm : m = L.length) (hs : OkS L) (hlt : m < 1000000) (h1 : GLies w a1 A) (h2 : GLies w a2 B) (hA : NA = A.length) (hB : NB = B.length) (hzA : NA ≤ 1000000) (hzB : NB ≤ 1000000) (hsA : SmL A) (hsB : SmL B) :
    Calls Tryz.prog 25 #[.agg #[.slice a0 m c], .agg #[.slice a1 NA c1, .slice a2 NB c2]] w fun e w' => ∃ v, e = .returned (.agg #[v]) ∧ OwnSb w' w.heap.size v (L ++ [(A, B)]) ∧ Below w.heap.size w w' := by
  obtain ⟨i0, hi, hz0, hz1, hz2⟩ := info_parts subInfo
  obtain ⟨V0, hV0⟩ : ∃ V0, V0 = (w.alloc (.cells #[.slice a0 m c] 55)).alloc (.cells #[.slice a1 NA c1, .slice a2 NB c2] 24) := ⟨_, rfl⟩
  obtain ⟨W0, hW0⟩ : ∃ W0, W0 = V0.alloc (.cells #[.slice none 0 0] 55) := ⟨_, rfl⟩
  have hwr : ((w.alloc (.cells #[.slice a0 m c] 55)).alloc (.cells #[.slice a1 NA c1, .slice a2 NB c2] 24)).alloc (.cells #[.slice none 0 0] 55) = W0 := by rw [hW0, hV0]
  have hbv : Below w.heap.size w V0 := by rw [hV0]; exact belowTwo w _ _
  have hvz : V0.heap.size = w.heap.size + 2 := by rw [hV0]; simp
  have hbn : Below V0.heap.size V0 W0 := by rw [hW0]; exact belowNew V0 _
  have hb0 : Below w.heap.size w W0 := below_next hbv hbn
  have hq0 : W0.heap[w.heap.size]? = some (.cells #[.slice a0 m c] 55 (0, 0)) := (hbn.block _ (by omega)).trans (by rw [hV0, heap_first]; exact heap_alloc_new w _)
  have hq1 : W0.heap[w.heap.size + 1]? = some (.cells #[.slice a1 NA c1, .slice a2 NB c2] 24 (0, 0)) := (hbn.block _ (by omega)).trans (by rw [hV0]; exact heap_second w _ _ _)
  have hq2 : W0.heap[w.heap.size + 2]? = some (.cells #[.slice none 0 0] 55 (0, 0)) := by rw [hW0, ← hvz]; exact heap_alloc_new V0 _
  obtain ⟨x0, _, lx⟩ := one_facts hq0
  obtain ⟨s0, s1, ls⟩ := two_facts hq1
  have lr := (Array.getElem?_eq_some_iff.1 hq2).1
  have HB0 := Lib.hid hb0
  have HQ2 := Lib.hid hq2
  have SS0 := Lib.hid s0
  have SS1 := Lib.hid s1
  have HML := Lib.hid hm
  have HC := Lib.hid (copiess_core 46 (enters_of Tryz.func46 (by kernel_rfl) rfl) copysub_core a0 c m L W0 (h.below hb0) hm hs)
  have HD := Lib.hid (fun W (hb : Below W0.heap.size W0 W) => copysub_core a1 a2 c1 c2 NA NB A B W ((h1.below hb0).below hb) ((h2.below hb0).below hb) hA hB hzA hzB hsA hsB)
  clear h hm hs h1 h2 hA hB hsA hsB hb0 hq0 hq1 hq2 hW0 hV0 hbv hbn s0 s1 hvz
  go_enter Tryz.func25, Tryz.ntmps25
  go_wp2_with (first
    | (go_at_call 45; (with_reducible refine HC.out.mono ?_); rintro e w3 ⟨v, rfl, ho3, hb3⟩; obtain ⟨av, cv, hv3, _, _⟩ := ho3.lies; rw [← HML.out] at hv3; subst hv3; have HB3 := Lib.hid hb3; have HO3 := Lib.hid ho3; have s0 := (hb3.cell (p := ⟨w.heap.size + 1, 0, none⟩) ls).trans SS0.out; have s1 := (hb3.cell (p := ⟨w.heap.size + 1, 1, none⟩) ls).trans SS1.out; clear hb3 ho3)
    | (go_at_call 46; (with_reducible refine (HD.out _ HB3.out).mono ?_); rintro e w4 ⟨u1, u2, rfl, ho4, ho5, hb4⟩; obtain ⟨a4, c4, rfl, _, _⟩ := ho4.lies; obtain ⟨a5, c5, rfl, _, _⟩ := ho5.lies; have HB4 := Lib.hid (below_next HB3.out hb4); obtain ⟨vs, hv1, hv2, hv3⟩ := HO3.out.below hb4; have HV1 := Lib.hid hv1; have HV2 := Lib.hid hv2; have HV3 := Lib.hid hv3; have HO4 := Lib.hid (And.intro (ho4.base HB3.out.size) (ho5.base HB3.out.size)); clear hb4 ho4 ho5 hv1 hv2 hv3)
    | (at_builtin; (refine wpList_append_own _ rfl (.tmp 9) (.tmp 12) 39 rfl W0.heap.size 24 i0 (.agg #[.slice none 0 0, .slice none 0 0]) 2 48 Tryz.underlying39 hi hz0 hz1 hz2 rfl (by decide) _ L.length (ssCells vs) rfl (own_below HV2.out (belowNew _ _)) ⟨w4.heap.size, 0, none⟩ 1 1 (sCells (.slice a4 A.length c4, .slice a5 B.length c5)) rfl rfl (fun j u h => news_row w4 #[.slice a4 A.length c4, .slice a5 B.length c5] 24 j u (by simpa [sCells] using h)) (sCells_one _ _ _ _ _ _) (by have := HML.out; unfold maxLen; omega) (by have := HML.out; omega) (by have := HB4.out.size; simp; omega) ?_); intro v' w6 hown6 hgr6 _; have P3 := OwnSb.snoc HV1.out (own_below HV2.out (belowNew w4 _)) (fun i hi => ⟨(HV3.out i hi).1.below (belowNew w4 _), (HV3.out i hi).2.below (belowNew w4 _)⟩) ⟨HO4.out.1.below (belowNew w4 _), HO4.out.2.below (belowNew w4 _)⟩ hgr6 hown6 (g := (A, B)); have P2 := (HB4.out.trans ((belowNew w4 _).mono HB4.out.size)).grown hgr6 (by have := HB4.out.size; simp; omega) (fun j e => (World.ownsRow.lt HV2.out j e).1); obtain ⟨a6, c6, hv6, _, _⟩ := P3.lies; rw [List.length_append, List.length_singleton, ← HML.out] at hv6; subst hv6; have hq6 := (P2.block (w.heap.size + 2) lr).trans HQ2.out; obtain ⟨r0, r1, lr6⟩ := one_facts hq6; have HQ6 := Lib.hid hq6; have HP3 := Lib.hid P3; have HP2 := Lib.hid P2; clear P2 P3 hown6 hgr6 hq6))
  have hs := But.set (w.heap.size + 2) 0 w6 (.slice a6 (m + 1) c6)
  exact bodyPost_ret (stRes rfl _ _ _ _ rfl (one_set HQ6.out)) rfl ⟨_, rfl, (HP3.out.but hs lr).base HB0.out.size, below_set (below_next HB0.out HP2.out) (by omega)⟩
end Go.Proofs.YtbpdenfiifcfcaaGreatDoor
