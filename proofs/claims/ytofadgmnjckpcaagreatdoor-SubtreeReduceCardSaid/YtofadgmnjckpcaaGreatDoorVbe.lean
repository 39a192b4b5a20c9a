/-
  The contracts of Add of package subtree and of the law's awake.
  The contract of Parse: the name that a text denotes, or the error.
  The contract of the law's function awake: the chapter's example answers as written.
  Names that a law holds in blocks of its own; the calls of Match and awake in a region that draws.
  Small facts for the laws of layer 10.
  A name that can be read: its relative names lie at its address, and their attributes at theirs.
-/
import Derived.Test.YtofadgmnjckpcaaGreatDoorVbc
import Derived.Test.YtofadgmnjckpcaaGreatDoorVba
import Derived.Test.YtofadgmnjckpcaaGreatDoorVag
import Derived.Test.YtofadgmnjckpcaaGreatDoorVaf
import Derived.Test.YtofadgmnjckpcaaGreatDoorVap
import Derived.Test.YtofadgmnjckpcaaGreatDoorVan
import Derived.Deep.DeepCutAuto
import Derived.Deep.RegionHeld3
import Derived.Lib.QuietBelow
import Derived.BigQuiet
import Derived.Test.YtofadgmnjckpcaaGreatDoorVaq
import Derived.Test.YtofadgmnjckpcaaGreatDoorVad
import Derived.ProofKit
import Derived.OpenShut
import Derived.Deep.Slices
import Derived.Deep.Strs
import Derived.Deep.DeepHandedRow
namespace Go.Proofs.YtofadgmnjckpcaaGreatDoor
open Go.RowKit

/-- Bounds under which the functions on states are known. -/
def OkS (L : List Sub) : Prop := SmS L ∧ L.length ≤ 1000000 ∧ ∀ s ∈ L, s.1.length ≤ 1000000 ∧ s.2.length ≤ 1000000
theorem OkS.nil : OkS [] := ⟨(fun _ h => nomatch h), (Nat.zero_le _), (fun _ h => nomatch h)⟩
theorem OkS.snoc {L : List Sub} {s : Sub} (h : OkS L) (hl : L.length < 1000000) (h1 : SmL s.1) (h2 : SmL s.2) (h3 : s.1.length ≤ 1000000) (h4 : s.2.length ≤ 1000000) : OkS (L ++ [s]) := by
  refine ⟨fun x hx => ?_, by rw [List.length_append]; simp; omega, fun x hx => ?_⟩
  · rcases List.mem_append.1 hx with hx | hx
    · exact h.1 x hx
    · rw [List.mem_singleton.1 hx]; exact ⟨h1, h2⟩
  · rcases List.mem_append.1 hx with hx | hx
    · exact h.2.2 x hx
    · rw [List.mem_singleton.1 hx]; exact ⟨h3, h4⟩
theorem OkS.sz {L : List Sub} (h : OkS L) {i : Nat} (hi : i < L.length) : (L.getD i noSub).1.length ≤ 1000000 ∧ (L.getD i noSub).2.length ≤ 1000000 := by
  rw [List.getD_eq_getElem?_getD, List.getElem?_eq_getElem hi]; exact h.2.2 _ (List.getElem_mem hi)
set_option maxRecDepth 100000 in
set_option maxHeartbeats 4000000 in
theorem copiess_core (f : Nat) (eg : ∀ args w, (callFunc f args).run Tryz.prog w = .ok (.enter f args) w) (hf : CopiesS f) (a0 : Option Addr) (c m : Nat) (l : List Sub) (w : World) (h : SLies w a0 l) (hm : m = l.length) (hs : OkS l) :
    Calls Tryz.prog 29 #[.slice a0 m c, .func (.func f) #[] #[]] w fun e w' => ∃ v, e = .returned v ∧ OwnSb w' w.heap.size v l ∧ Below w.heap.size w w' := by
  obtain ⟨i0, hi, hz0, hz1, hz2⟩ := info_parts subInfo
  have hmm : m ≤ 1000000 := by rw [hm]; exact hs.2.1
  have H1 := Lib.hid h
  have HN := Lib.hid hm
  have HF := Lib.hid hf
  have HS := Lib.hid hs
  clear h hm hf hs
  go_enter Tryz.func29, Tryz.ntmps29
  go_wp2_with fail
  go_loopw [5, 10] (fun v i wr => ∃ k : Nat, k ≤ m ∧ i = .int .i64 k ∧ OwnSb wr w.heap.size v (l.take k) ∧ Below w.heap.size w wr) (fun _ i _ => m - (intOf i).toNat)
  case atStart => exact ⟨0, Nat.zero_le _, rfl, OwnSb.nil _ _, Below.refl _ _⟩
  case round =>
    obtain ⟨wz, hwz⟩ : ∃ wz, wz = wr := ⟨_, rfl⟩
    subst hwz
    obtain ⟨k, hk, rfl, ho, hb⟩ := hrel
    obtain ⟨av, cv, hv5, _, _⟩ := ho.lies
    have HB := Lib.hid hb
    have HO := Lib.hid ho
    have HNX : (l.take k).length = k := by rw [List.length_take]; exact Nat.min_eq_left (by rw [← HN.out]; exact hk)
    rw [HNX] at hv5
    have HTK := Lib.hid HNX
    clear hb ho HNX
    subst hv5
    by_cases hlt : k < m
    · have hd : decide ((k : Int) < (m : Int)) = true := by simp; omega
      have hki : (k : Int) < (m : Int) := by omega
      obtain ⟨b, o, rfl, hbl, a1, c1, a2, c2, e0, e1, ⟨hc1, hL1⟩, hc2, hL2⟩ := H1.out.at k (by rw [← HN.out]; exact hlt)
      have f0 := (HB.out.cell (p := ⟨b, o + k * 2, none⟩) hbl).trans e0
      have f1 := (HB.out.cell (p := ⟨b, o + k * 2 + 1, none⟩) hbl).trans e1
      have hsk := HS.out.1.at (i := k) (by rw [← HN.out]; exact hlt)
      have hzk := HS.out.sz (i := k) (by rw [← HN.out]; exact hlt)
      have HST := Lib.hid (takeN l k (by rw [← HN.out]; exact hlt) noSub)
      have HLT := Lib.hid hlt
      clear e0 e1 hbl
      generalize l.getD k noSub = G at f0 f1 hsk hzk hL1 hL2 hc1 hc2 HST
      obtain ⟨A, B⟩ := G
      simp only at f0 f1 hL1 hL2 hc1 hc2 hzk
      obtain ⟨NA, hNA⟩ : ∃ NA, NA = A.length := ⟨_, rfl⟩
      obtain ⟨NB, hNB⟩ : ∃ NB, NB = B.length := ⟨_, rfl⟩
      rw [← hNA] at f0 hzk
      rw [← hNB] at f1 hzk
      obtain ⟨W2, hW2⟩ : ∃ W2, W2 = wz.alloc (.cells #[.slice a1 NA c1, .slice a2 NB c2] 27) := ⟨_, rfl⟩
      have hb2 : Below wz.heap.size wz W2 := by rw [hW2]; exact belowNew wz _
      obtain ⟨s0, s1, ls⟩ := two_facts (w := W2) (g := wz.heap.size) (by rw [hW2]; exact heap_alloc_new wz _)
      have HB2 := Lib.hid (below_next HB.out hb2)
      have HO2 := Lib.hid (HO.out.below hb2)
      have HC := Lib.hid (HF.out a1 a2 c1 c2 NA NB A B W2 ((hL1.below HB.out).below hb2) ((hL2.below HB.out).below hb2) hNA hNB hzk.1 hzk.2 hsk.1 hsk.2)
      have HWE := hW2.symm
      clear hL1 hL2 hc1 hc2 hNA hNB hsk hzk hW2 hb2
      obtain ⟨X, hX⟩ : ∃ X, X = l.take k := ⟨_, rfl⟩
      rw [← hX] at HO2 HST HTK
      clear hX HO
      go_wp2_with (first
        | (go_at_fn f; refine HC.out.mono ?_; rintro e w3 ⟨u, v, rfl, ho3, ho4, hb3⟩; obtain ⟨a3, c3, rfl, _, _⟩ := ho3.lies; obtain ⟨a4, c4, rfl, _, _⟩ := ho4.lies; have HB3 := Lib.hid (below_next HB2.out hb3); obtain ⟨vs, hv1, hv2, hv3⟩ := HO2.out.below hb3; have HV1 := Lib.hid hv1; have HV2 := Lib.hid hv2; have HV3 := Lib.hid hv3; have HO3 := Lib.hid (And.intro (ho3.base HB2.out.size) (ho4.base HB2.out.size)); clear hb3 ho3 ho4 hv1 hv2 hv3)
        | (at_builtin; (refine wpList_append_own _ rfl (.tmp 14) (.tmp 18) 22 rfl w.heap.size 27 i0 (.agg #[.slice none 0 0, .slice none 0 0]) 2 48 Tryz.underlying22 hi hz0 hz1 hz2 rfl (by decide) _ X.length (ssCells vs) rfl (own_below HV2.out (belowNew _ _)) ⟨w3.heap.size, 0, none⟩ 1 1 (sCells (.slice a3 A.length c3, .slice a4 B.length c4)) rfl rfl (fun j u h => news_row w3 #[.slice a3 A.length c3, .slice a4 B.length c4] 27 j u (by simpa [sCells] using h)) (sCells_one _ _ _ _ _ _) (by have := HTK.out; unfold maxLen; omega) (by have := HTK.out; omega) (by have := HB3.out.size; simp; omega) ?_); intro v' w6 hown6 hgr6 _; have P3 := OwnSb.snoc HV1.out (own_below HV2.out (belowNew w3 _)) (fun i hi => ⟨(HV3.out i hi).1.below (belowNew w3 _), (HV3.out i hi).2.below (belowNew w3 _)⟩) ⟨HO3.out.1.below (belowNew w3 _), HO3.out.2.below (belowNew w3 _)⟩ hgr6 hown6 (g := (A, B)); have P2 := (HB3.out.trans ((belowNew w3 _).mono HB3.out.size)).grown hgr6 (by have := HB3.out.size; simp; omega) (fun j e => (World.ownsRow.lt HV2.out j e).1); obtain ⟨a6, c6, hv6, _, _⟩ := P3.lies; rw [List.length_append, List.length_singleton, HTK.out] at hv6; subst hv6; have HP3 := Lib.hid P3; have HP2 := Lib.hid P2; clear P2 P3 hown6 hgr6))
      go_roundw
      case rel => exact ⟨k + 1, HLT.out, by go_num, by rw [HST.out]; exact HP3.out, HP2.out⟩
      case measure => simp [intOf]; omega
    · have hd : decide ((k : Int) < (m : Int)) = false := by simp; omega
      obtain rfl : k = m := by omega
      go_wp2_with fail
      go_ret
      refine ⟨_, rfl, ?_, HB.out⟩
      have := HO.out
      rw [List.take_of_length_le (by rw [← HN.out]; exact Nat.le_refl _)] at this
      exact this
set_option maxRecDepth 100000 in
set_option maxHeartbeats 4000000 in
theorem add_core (a0 a1 a2 : Option Addr) (c m c1 c2 NA NB : Nat) (L : List Sub) (A B : List Gn) (w : World) (h : SLies w a0 L) (hm : m = L.length) (hs : OkS L) (hlt : m < 1000000) (h1 : GLies w a1 A) (h2 : GLies w a2 B) (hA : NA = A.length) (hB : NB = B.length) (hzA : NA ≤ 1000000) (hzB : NB ≤ 1000000) (hsA : SmL A) (hsB : SmL B) :
    Calls Tryz.prog 14 #[.agg #[.slice a0 m c], .agg #[.slice a1 NA c1, .slice a2 NB c2]] w fun e w' => ∃ v, e = .returned (.agg #[v]) ∧ OwnSb w' w.heap.size v (L ++ [(A, B)]) ∧ Below w.heap.size w w' := by
  obtain ⟨i0, hi, hz0, hz1, hz2⟩ := info_parts subInfo
  obtain ⟨V0, hV0⟩ : ∃ V0, V0 = (w.alloc (.cells #[.slice a0 m c] 24)).alloc (.cells #[.slice a1 NA c1, .slice a2 NB c2] 27) := ⟨_, rfl⟩
  obtain ⟨W0, hW0⟩ : ∃ W0, W0 = V0.alloc (.cells #[.slice none 0 0] 24) := ⟨_, rfl⟩
  have hwr : ((w.alloc (.cells #[.slice a0 m c] 24)).alloc (.cells #[.slice a1 NA c1, .slice a2 NB c2] 27)).alloc (.cells #[.slice none 0 0] 24) = W0 := by rw [hW0, hV0]
  have hbv : Below w.heap.size w V0 := by rw [hV0]; exact belowTwo w _ _
  have hvz : V0.heap.size = w.heap.size + 2 := by rw [hV0]; simp
  have hbn : Below V0.heap.size V0 W0 := by rw [hW0]; exact belowNew V0 _
  have hb0 : Below w.heap.size w W0 := below_next hbv hbn
  have hq0 : W0.heap[w.heap.size]? = some (.cells #[.slice a0 m c] 24 (0, 0)) := (hbn.block _ (by omega)).trans (by rw [hV0, heap_first]; exact heap_alloc_new w _)
  have hq1 : W0.heap[w.heap.size + 1]? = some (.cells #[.slice a1 NA c1, .slice a2 NB c2] 27 (0, 0)) := (hbn.block _ (by omega)).trans (by rw [hV0]; exact heap_second w _ _ _)
  have hq2 : W0.heap[w.heap.size + 2]? = some (.cells #[.slice none 0 0] 24 (0, 0)) := by rw [hW0, ← hvz]; exact heap_alloc_new V0 _
  obtain ⟨x0, _, lx⟩ := one_facts hq0
  obtain ⟨s0, s1, ls⟩ := two_facts hq1
  have lr := (Array.getElem?_eq_some_iff.1 hq2).1
  have HB0 := Lib.hid hb0
  have HQ2 := Lib.hid hq2
  have SS0 := Lib.hid s0
  have SS1 := Lib.hid s1
  have HML := Lib.hid hm
  have HC := Lib.hid (copiess_core 30 (enters_of Tryz.func30 (by kernel_rfl) rfl) copysub_core a0 c m L W0 (h.below hb0) hm hs)
  have HD := Lib.hid (fun W (hb : Below W0.heap.size W0 W) => copysub_core a1 a2 c1 c2 NA NB A B W ((h1.below hb0).below hb) ((h2.below hb0).below hb) hA hB hzA hzB hsA hsB)
  clear h hm hs h1 h2 hA hB hsA hsB hb0 hq0 hq1 hq2 hW0 hV0 hbv hbn s0 s1 hvz
  go_enter Tryz.func14, Tryz.ntmps14
  go_wp2_with (first
    | (go_at_call 29; (with_reducible refine HC.out.mono ?_); rintro e w3 ⟨v, rfl, ho3, hb3⟩; obtain ⟨av, cv, hv3, _, _⟩ := ho3.lies; rw [← HML.out] at hv3; subst hv3; have HB3 := Lib.hid hb3; have HO3 := Lib.hid ho3; have s0 := (hb3.cell (p := ⟨w.heap.size + 1, 0, none⟩) ls).trans SS0.out; have s1 := (hb3.cell (p := ⟨w.heap.size + 1, 1, none⟩) ls).trans SS1.out; clear hb3 ho3)
    | (go_at_call 30; (with_reducible refine (HD.out _ HB3.out).mono ?_); rintro e w4 ⟨u1, u2, rfl, ho4, ho5, hb4⟩; obtain ⟨a4, c4, rfl, _, _⟩ := ho4.lies; obtain ⟨a5, c5, rfl, _, _⟩ := ho5.lies; have HB4 := Lib.hid (below_next HB3.out hb4); obtain ⟨vs, hv1, hv2, hv3⟩ := HO3.out.below hb4; have HV1 := Lib.hid hv1; have HV2 := Lib.hid hv2; have HV3 := Lib.hid hv3; have HO4 := Lib.hid (And.intro (ho4.base HB3.out.size) (ho5.base HB3.out.size)); clear hb4 ho4 ho5 hv1 hv2 hv3)
    | (at_builtin; (refine wpList_append_own _ rfl (.tmp 9) (.tmp 12) 22 rfl W0.heap.size 27 i0 (.agg #[.slice none 0 0, .slice none 0 0]) 2 48 Tryz.underlying22 hi hz0 hz1 hz2 rfl (by decide) _ L.length (ssCells vs) rfl (own_below HV2.out (belowNew _ _)) ⟨w4.heap.size, 0, none⟩ 1 1 (sCells (.slice a4 A.length c4, .slice a5 B.length c5)) rfl rfl (fun j u h => news_row w4 #[.slice a4 A.length c4, .slice a5 B.length c5] 27 j u (by simpa [sCells] using h)) (sCells_one _ _ _ _ _ _) (by have := HML.out; unfold maxLen; omega) (by have := HML.out; omega) (by have := HB4.out.size; simp; omega) ?_); intro v' w6 hown6 hgr6 _; have P3 := OwnSb.snoc HV1.out (own_below HV2.out (belowNew w4 _)) (fun i hi => ⟨(HV3.out i hi).1.below (belowNew w4 _), (HV3.out i hi).2.below (belowNew w4 _)⟩) ⟨HO4.out.1.below (belowNew w4 _), HO4.out.2.below (belowNew w4 _)⟩ hgr6 hown6 (g := (A, B)); have P2 := (HB4.out.trans ((belowNew w4 _).mono HB4.out.size)).grown hgr6 (by have := HB4.out.size; simp; omega) (fun j e => (World.ownsRow.lt HV2.out j e).1); obtain ⟨a6, c6, hv6, _, _⟩ := P3.lies; rw [List.length_append, List.length_singleton, ← HML.out] at hv6; subst hv6; have hq6 := (P2.block (w.heap.size + 2) lr).trans HQ2.out; obtain ⟨r0, r1, lr6⟩ := one_facts hq6; have HQ6 := Lib.hid hq6; have HP3 := Lib.hid P3; have HP2 := Lib.hid P2; clear P2 P3 hown6 hgr6 hq6))
  have hs := But.set (w.heap.size + 2) 0 w6 (.slice a6 (m + 1) c6)
  exact bodyPost_ret (stRes rfl _ _ _ _ rfl (one_set HQ6.out)) rfl ⟨_, rfl, (HP3.out.but hs lr).base HB0.out.size, below_set (below_next HB0.out HP2.out) (by omega)⟩
end Go.Proofs.YtofadgmnjckpcaaGreatDoor
namespace Go.Proofs.YtofadgmnjckpcaaGreatDoor
open Go.RowKit

end Go.Proofs.YtofadgmnjckpcaaGreatDoor
namespace Go.Proofs.YtofadgmnjckpcaaGreatDoor
open Go.RowKit

end Go.Proofs.YtofadgmnjckpcaaGreatDoor
namespace Go.Proofs.YtofadgmnjckpcaaGreatDoor
open Go.RowKit

/-- A name of a call's own, in block q. -/
def Held (w : World) (q lo : Nat) (n : Nm) : Prop := ∃ s, w.heap[q]? = some (.cells #[s] 30 (0, 0)) ∧ OwnN w lo s n
theorem Held.but {w w' : World} {p q lo : Nat} {n : Nm} (h : Held w q lo n) (hb : But p w w') (hq : p ≠ q) (hl : p < lo) : Held w' q lo n := by
  obtain ⟨s, h1, h2⟩ := h
  exact ⟨s, (hb.block q (Array.getElem?_eq_some_iff.1 h1).1 (by simp; omega)).trans h1, h2.but hb hl⟩
theorem spN_of_made {n : Nm} (h : MadeN n) : SpN 20 n := by
  refine ⟨h.1, fun r hr => ⟨(h.2 r hr).1.1, fun x hx => ?_⟩⟩
  have hm := (h.2 r hr).1.2.1 x hx
  have hall : ∀ y ∈ madeL, y.1.size ≤ 100 ∧ y.2.2.size ≤ 20 := by decide
  exact hall x hm
theorem small_of_sp {L : Nat} {n : Nm} (h : SpN L n) (hL : L ≤ 1000) : SmallN n := by
  refine ⟨Nat.le_trans h.1 (by omega), fun i hi => ?_⟩
  have hr := h.2 _ (getD_memS n i hi [])
  refine ⟨Nat.le_trans hr.1 (by omega), fun j hj => ?_⟩
  have hx := hr.2 _ (getD_memS _ j hj noAt)
  exact ⟨Nat.le_trans hx.1 (by omega), Nat.le_trans hx.2 (by omega)⟩

/-- A name that can be read: its slice lies in block q. -/
def HoldAt (V : World) (q : Nat) (a : Option Addr) (N c : Nat) (n : Nm) : Prop := V.cell? ⟨q, 0, none⟩ = some (.slice a N c) ∧ N = n.length ∧ N ≤ c ∧ RLies V a n ∧ SmallN n
theorem HoldAt.below {w w' : World} {q N c : Nat} {a : Option Addr} {n : Nm} (h : HoldAt w q a N c n) (hb : Below w.heap.size w w') : HoldAt w' q a N c n :=
  ⟨(hb.cell (p := ⟨q, 0, none⟩) (block_lt h.1)).trans h.1, h.2.1, h.2.2.1, h.2.2.2.1.below hb, h.2.2.2.2⟩
end Go.Proofs.YtofadgmnjckpcaaGreatDoor
namespace Go.Proofs.YtofadgmnjckpcaaGreatDoor
open Go.RowKit

theorem genB_sm {s : Sub} (h : GenB s) : SmL s.1 ∧ SmL s.2 := ⟨fun g hg => by
    have h1 := bse_len (h.2.2.2.1 g hg)
    exact ⟨Nat.le_trans h1.1 (by omega), small_of_sp (spN_of_made h1.2) (by omega)⟩, fun g hg => by
    have h1 := bse_len (h.2.2.2.2 g hg)
    exact ⟨Nat.le_trans h1.1 (by omega), small_of_sp (spN_of_made h1.2) (by omega)⟩⟩
theorem made_small {n : Nm} (h : MadeN n) : SmallN n := small_of_sp (spN_of_made h) (by omega)
theorem genB_ok {L : List Sub} (h : ∀ s ∈ L, GenB s) (hl : L.length ≤ 1000000) : OkS L :=
  ⟨fun s hs => genB_sm (h s hs), hl, fun s hs => ⟨Nat.le_trans (h s hs).1 (by omega), Nat.le_trans (h s hs).2.1 (by omega)⟩⟩
theorem own_rl_s {w : World} {B : Nat} {a : Option Addr} {k c : Nat} {n : Nm} (h : OwnN w B (.slice a k c) n) : RLies w a n := by
  obtain ⟨a', c', e, _, hl⟩ := h.lies
  rw [(slice_inj e).1]; exact hl
theorem ints_below {w w' : World} {a : Option Addr} {zs : List Int} (h : ILies w a zs) (hb : Below w.heap.size w w') : ILies w' a zs := h.below hb (fun x hx hne => by
  rcases h with h | ⟨b, o, h1, h2⟩
  · exact absurd h hne
  · rw [h1] at hx
    obtain rfl := Option.some.inj hx
    have := h2 0 (List.length_pos_iff.2 hne)
    exact block_lt this)
end Go.Proofs.YtofadgmnjckpcaaGreatDoor
namespace Go.Proofs.YtofadgmnjckpcaaGreatDoor
open Go.ChangeShapes Go.WideShapes Go.ChangeAt Go.RowKit Go.ChangeMaps Go.Deep

def AtOk (a : At) : Prop := a.1.size ≤ 9223372036854775807 ∧ a.2.2.size ≤ 9223372036854775807 ∧ -9223372036854775808 ≤ a.2.1 ∧ a.2.1 ≤ 9223372036854775807
def RdnOk (r : List At) : Prop := r.length ≤ 9223372036854775807 ∧ ∀ i, i < r.length → AtOk (r.getD i noAt)
def NameOk (n : Nm) : Prop := n.length ≤ 9223372036854775807 ∧ ∀ i, i < n.length → RdnOk (n.getD i [])

theorem getD_map_range {α : Type} (f : Nat → α) (n i : Nat) (h : i < n) (d : α) : ((List.range n).map f).getD i d = f i := by
  rw [List.getD_eq_getElem?_getD, List.getElem?_map, List.getElem?_range h]; rfl
set_option maxRecDepth 10000 in
/-- One attribute, of three cells. -/
theorem open_at {H : Type} {enc : TypeId × Value → H} {W : World} {n : Nat} {cs : List Value} {x : DataW H × List MemPlace} (h : DataW.trod enc Tryz.prog W 0 (fun _ => true) true n 69 cs = some x) :
    ∃ t : At, cs = [.string t.1, .int .i64 t.2.1, .string t.2.2] ∧ AtOk t := by
  obtain ⟨xs, k, _, _, hl, hlen, hfd⟩ := DataW.trod_struct Tryz.underlying69 h
  have c1 : Tryz.prog.cellsOf 3 = 1 := by kernel_rfl
  have c2 : Tryz.prog.cellsOf 9 = 1 := by kernel_rfl
  have c3 : Tryz.prog.cellsOf 69 = 3 := by kernel_rfl
  have hlen3 : xs.length = 3 := hlen
  have hs3 : cs.length = 3 := hl.trans c3
  match xs, hlen3 with
  | [y0, y1, y2], _ =>
    match cs, hs3 with
    | [z0, z1, z2], _ =>
      have g0 : DataW.trod enc Tryz.prog W 0 (fun _ => true) true k 9 (([z0, z1, z2].drop 0).take (Tryz.prog.cellsOf 9)) = some y0 := hfd 0 _ rfl
      rw [c2] at g0
      obtain ⟨s0, e0, _, w0⟩ := DataW.trod_string Tryz.underlying9 g0
      have g1 : DataW.trod enc Tryz.prog W 0 (fun _ => true) true k 3 (([z0, z1, z2].drop 1).take (Tryz.prog.cellsOf 3)) = some y1 := hfd 1 _ rfl
      rw [c1] at g1
      obtain ⟨n1, e1, _, w1⟩ := DataW.trod_int Tryz.underlying3 g1
      have g2 : DataW.trod enc Tryz.prog W 0 (fun _ => true) true k 9 (([z0, z1, z2].drop 2).take (Tryz.prog.cellsOf 9)) = some y2 := hfd 2 _ rfl
      rw [c2] at g2
      obtain ⟨s2, e2, _, w2⟩ := DataW.trod_string Tryz.underlying9 g2
      have r0 : z0 = .string s0 := by simpa using e0
      have r1 : z1 = .int .i64 n1 := by simpa using e1
      have r2 : z2 = .string s2 := by simpa using e2
      have b1 := bounds_i64 w1
      refine ⟨(s0, n1, s2), by rw [r0, r1, r2], ?_, ?_, ?_, ?_⟩
      · show s0.size ≤ _
        unfold maxLen at w0; omega
      · show s2.size ≤ _
        unfold maxLen at w2; omega
      · exact b1.1
      · exact b1.2
set_option maxRecDepth 10000 in
theorem open_ats {H : Type} {enc : TypeId × Value → H} {W : World} {n : Nat} {z : Value} {x : DataW H × List MemPlace} (h : DataW.trod enc Tryz.prog W 0 (fun _ => true) true n 67 [z] = some x) :
    ∃ a c, ∃ l : List At, z = .slice a l.length c ∧ l.length ≤ c ∧ ALies W a l ∧ RdnOk l := by
  have c3 : Tryz.prog.cellsOf 69 = 3 := by kernel_rfl
  rcases open_slice Tryz.underlying67 h with ⟨hcs, _⟩ | ⟨a, len, cap, m, k, D, Pl, hcs, _, hl, hm, hmm, _, hx⟩
  · exact ⟨none, 0, [], by simpa using hcs, by simp, .inl rfl, by simp, fun i hi => absurd hi (Nat.not_lt_zero _)⟩
  · have hlm : len ≤ m := by rw [hmm]; split <;> omega
    obtain ⟨f, hf⟩ := choose_lt (α := At) (n := len) (p := fun i t => AtOk t ∧ W.cell? (a.add (i * 3)) = some (.string t.1) ∧ W.cell? (a.add (i * 3 + 1)) = some (.int .i64 t.2.1) ∧ W.cell? (a.add (i * 3 + 2)) = some (.string t.2.2)) (fun i hi => by
      obtain ⟨cs', h1, h2⟩ := hx i (by omega)
      obtain ⟨t, rfl, ht⟩ := open_at h2
      rw [c3] at h1
      obtain ⟨_, _, hc⟩ := World.cells?_some h1
      have e0 := hc 0 (by omega)
      have e1 := hc 1 (by omega)
      have e2 := hc 2 (by omega)
      rw [add_add] at e0 e1 e2
      exact ⟨t, ht, by simpa using e0, by simpa using e1, by simpa using e2⟩)
    refine ⟨some a, cap, (List.range len).map f, by simpa using hcs, by simpa using hl, ?_, by simp; unfold maxLen at hm; omega, fun i hi => ?_⟩
    · by_cases h0 : len = 0
      · exact .inl (by rw [h0]; rfl)
      · obtain ⟨b, off, spot⟩ := a
        have hspot : spot = none := by
          have := (hf 0 (by omega)).2.1
          simpa [Addr.add] using World.cell?_spot this
        subst hspot
        refine .inr ⟨b, off, rfl, fun i hi => ?_⟩
        simp at hi
        rw [getD_map_range _ _ _ hi]
        have hh := (hf i hi).2
        rw [Go.WideShapes.add_plain, Go.WideShapes.add_plain, Go.WideShapes.add_plain] at hh
        simpa [Nat.add_assoc] using hh
    · simp at hi
      rw [getD_map_range _ _ _ hi]
      exact (hf i hi).1
set_option maxRecDepth 10000 in
theorem open_rdns {H : Type} {enc : TypeId × Value → H} {W : World} {n : Nat} {z : Value} {x : DataW H × List MemPlace} (h : DataW.trod enc Tryz.prog W 0 (fun _ => true) true n 28 [z] = some x) :
    ∃ a c, ∃ l : Nm, z = .slice a l.length c ∧ l.length ≤ c ∧ RLies W a l ∧ NameOk l := by
  have c1 : Tryz.prog.cellsOf 67 = 1 := by kernel_rfl
  rcases open_slice1 Tryz.underlying28 c1 h with ⟨hcs, _⟩ | ⟨a, len, cap, m, k, V, D, Pl, hcs, _, hl, hm, hmm, _, hx⟩
  · exact ⟨none, 0, [], by simpa using hcs, by simp, .inl rfl, by simp, fun i hi => absurd hi (Nat.not_lt_zero _)⟩
  · have hlm : len ≤ m := by rw [hmm]; split <;> omega
    obtain ⟨f, hf⟩ := choose_lt (α := List At) (n := len) (p := fun i r => RdnOk r ∧ ∃ a' c', W.cell? (a.add i) = some (.slice a' r.length c') ∧ r.length ≤ c' ∧ ALies W a' r) (fun i hi => by
      obtain ⟨h1, h2⟩ := hx i (by omega)
      obtain ⟨a', c', l, e, hl3, hl, hk⟩ := open_ats h2
      exact ⟨l, hk, a', c', by rw [← e]; exact h1, hl3, hl⟩)
    refine ⟨some a, cap, (List.range len).map f, by simpa using hcs, by simpa using hl, ?_, by simp; unfold maxLen at hm; omega, fun i hi => ?_⟩
    · by_cases h0 : len = 0
      · exact .inl (by rw [h0]; rfl)
      · obtain ⟨b, off, spot⟩ := a
        have hspot : spot = none := by
          obtain ⟨_, _, _, q, _⟩ := hf 0 (by omega)
          simpa [Addr.add] using World.cell?_spot q
        subst hspot
        refine .inr ⟨b, off, rfl, fun i hi => ?_⟩
        simp at hi
        rw [getD_map_range _ _ _ hi]
        obtain ⟨_, a', c', q1, q3, q2⟩ := hf i hi
        rw [Go.WideShapes.add_plain] at q1
        exact ⟨a', c', q1, q3, q2⟩
    · simp at hi
      rw [getD_map_range _ _ _ hi]
      exact (hf i hi).1
end Go.Proofs.YtofadgmnjckpcaaGreatDoor
