/-
  The contracts of checkBases and Check of package subtree.
  The contracts of wrap, encodeSubtree, convert and encodePart of package subtree, and of the reference's Fit and part.
  The contracts of encodePart of package subtree, and of the reference's part.
  The contracts of gname's small and equal: whether two texts differ in case only.
  The contracts of gname's sameMail, Same, Match and Within.
-/
import Derived.Test.YtbpdenfiifcfcaaGreatDoorMbh
import Derived.Test.YtbpdenfiifcfcaaGreatDoorMbc
import Derived.Test.YtbpdenfiifcfcaaGreatDoorMbg
import Derived.Test.YtbpdenfiifcfcaaGreatDoorMav
import Derived.Test.YtbpdenfiifcfcaaGreatDoorMay
import Derived.Test.YtbpdenfiifcfcaaGreatDoorMad
import Derived.Deep.CutRange
import Derived.Deep.DeepCutAuto
import Derived.Deep.RegionWith
import Derived.Lib.QuietBelow
import Derived.BigQuiet
import Derived.Test.YtbpdenfiifcfcaaGreatDoorMaw
import Derived.Test.YtbpdenfiifcfcaaGreatDoorMak
namespace Go.Proofs.YtbpdenfiifcfcaaGreatDoor
open Go.RowKit

theorem errT_step : ∀ (l : List Gn) (k : Nat), k < l.length → errT (l.drop k) = if xGt (l.getD k noG) ≠ 0 then xGt (l.getD k noG) else errT (l.drop (k + 1))
  | [], k, h => absurd h (Nat.not_lt_zero _)
  | g :: r, 0, _ => rfl
  | g :: r, k + 1, h => by
    have := errT_step r k (by simpa using h)
    simpa using this
theorem errT_end (l : List Gn) : errT (l.drop l.length) = 0 := by rw [List.drop_length]; rfl
theorem errT_app : ∀ (a b : List Gn), errT (a ++ b) = if errT a ≠ 0 then errT a else errT b
  | [], b => (if_neg (by show ¬ (0 : Nat) ≠ 0; decide)).symm
  | g :: r, b => by
    show (if xGt g ≠ 0 then xGt g else errT (r ++ b)) = if (if xGt g ≠ 0 then xGt g else errT r) ≠ 0 then (if xGt g ≠ 0 then xGt g else errT r) else errT b
    by_cases h : xGt g = 0
    · rw [if_neg (not_not_intro h), if_neg (not_not_intro h), errT_app r b]
    · rw [if_pos h, if_pos h, if_pos h]

set_option maxRecDepth 100000 in
set_option maxHeartbeats 4000000 in
theorem chkb_core (a0 : Option Addr) (c m : Nat) (l : List Gn) (w : World) (h : GLies w a0 l) (hm : m = l.length) (hmm : m ≤ 1000000) (hs : SmL l) (hT : Tab w) (hmk : Mk w) :
    Calls Tryz.prog 32 #[.slice a0 m c] w fun e w' => e = .returned (.int .i64 ((errT l : Nat) : Int)) ∧ Below w.heap.size w w' := by
  have H1 := Lib.hid h
  have HN := Lib.hid hm
  have HS := Lib.hid hs
  have HT := Lib.hid (fun W (hb : Below w.heap.size w W) => hT.below hb)
  have HMK := Lib.hid (fun W (hb : Below w.heap.size w W) => hmk.below hb)
  obtain ⟨E0, hE0⟩ : ∃ E0, E0 = errT l := ⟨_, rfl⟩
  rw [← hE0]
  have HE0 := Lib.hid hE0
  clear h hm hs hT hmk hE0
  go_enter Tryz.func32, Tryz.ntmps32
  go_wp2_with fail
  go_loopw [8] (fun i wr => ∃ k : Nat, k ≤ m ∧ i = .int .i64 k ∧ E0 = errT (l.drop k) ∧ Below w.heap.size w wr) (fun i _ => m - (intOf i).toNat)
  case atStart => exact ⟨0, Nat.zero_le _, rfl, HE0.out, Below.refl _ _⟩
  case round =>
    obtain ⟨wz, hwz⟩ : ∃ wz, wz = wr := ⟨_, rfl⟩
    subst hwz
    obtain ⟨k, hk, rfl, hA, hb⟩ := hrel
    have HB := Lib.hid hb
    have HA := Lib.hid hA
    clear hb hA
    by_cases hlt : k < m
    · have hd : decide ((k : Int) < (m : Int)) = true := by simp; omega
      have hkl : k < l.length := by rw [← HN.out]; exact hlt
      obtain ⟨b, o, rfl, hb, e0, e1, a1, c1, e2, hc1, hL1⟩ := H1.out.at k hkl
      have f0 : wz.cell? ⟨b, o + k * 3, none⟩ = _ := (HB.out.cell (p := ⟨b, o + k * 3, none⟩) hb).trans e0
      have f1 : wz.cell? ⟨b, o + k * 3 + 1, none⟩ = _ := (HB.out.cell (p := ⟨b, o + k * 3 + 1, none⟩) hb).trans e1
      have f2 : wz.cell? ⟨b, o + k * 3 + 2, none⟩ = _ := (HB.out.cell (p := ⟨b, o + k * 3 + 2, none⟩) hb).trans e2
      have hsm := HS.out.at hkl
      have HSTEP := HA.out.trans (errT_step l k hkl)
      obtain ⟨G, hG⟩ : ∃ G, G = l.getD k noG := ⟨_, rfl⟩
      rw [← hG] at f0 f1 f2 hsm hL1 hc1 HSTEP
      obtain ⟨q, t, n⟩ := G
      simp only at f0 f1 f2 hL1 hc1 hsm
      obtain ⟨N, hNn⟩ : ∃ N, N = n.length := ⟨_, rfl⟩
      rw [← hNn] at f2
      obtain ⟨W2, hW2⟩ : ∃ W2, W2 = wz.alloc (.cells #[.int .i64 q, .string (strOf t), .slice a1 N c1] 29) := ⟨_, rfl⟩
      have hb2 : Below wz.heap.size wz W2 := by rw [hW2]; exact belowNew wz _
      obtain ⟨g0, g1, g2, _⟩ := three_facts (w := W2) (g := wz.heap.size) (by rw [hW2]; exact heap_alloc_new wz _)
      have HB2 := Lib.hid (below_next HB.out hb2)
      have HCH := Lib.hid (gchk_core a1 c1 N q t n true W2 ((hL1.below HB.out).below hb2) hNn hsm.1 hsm.2 (HT.out _ HB2.out) (HMK.out _ HB2.out))
      have HWE := hW2.symm
      have HST := Lib.hid (show E0 = if chkG true q t n ≠ 0 then chkG true q t n else errT (l.drop (k + 1)) from HSTEP)
      obtain ⟨X, hX⟩ : ∃ X, X = chkG true q t n := ⟨_, rfl⟩
      rw [← hX] at HCH HST
      clear e0 e1 e2 hb hL1 hc1 hG hNn hW2 hb2 hsm HSTEP hX hkl
      rcases Nat.eq_zero_or_pos X with hz | hz
      · have HE1 := Lib.hid (HST.out.trans (if_neg (not_not_intro hz)))
        subst hz
        go_wp2_with (go_at_call 55; (with_reducible refine HCH.out.mono ?_); rintro e w3 ⟨rfl, hb3⟩; have HB3 := Lib.hid (below_next HB2.out hb3); clear hb3)
        go_roundw
        case rel => exact ⟨k + 1, by omega, by go_num, HE1.out, HB3.out⟩
        case measure => simp [intOf]; omega
      · have hz1 := errno_ne (Nat.ne_of_gt hz)
        have HE1 := Lib.hid (HST.out.trans (if_pos (Nat.ne_of_gt hz)))
        go_wp2_with (go_at_call 55; (with_reducible refine HCH.out.mono ?_); rintro e w3 ⟨rfl, hb3⟩; have HB3 := Lib.hid (below_next HB2.out hb3); clear hb3)
        go_ret
        exact ⟨by rw [HE1.out]; rfl, HB3.out⟩
    · have hd : decide ((k : Int) < (m : Int)) = false := by simp; omega
      obtain rfl : k = m := by omega
      have HE1 := Lib.hid (show E0 = 0 from by rw [HA.out, HN.out, errT_end])
      go_wp2_with fail
      go_ret
      exact ⟨by rw [HE1.out]; rfl, HB.out⟩

set_option maxRecDepth 100000 in
set_option maxHeartbeats 4000000 in
theorem chks_core (a1 a2 : Option Addr) (c1 c2 m1 m2 : Nat) (s : Sub) (w : World) (h1 : GLies w a1 s.1) (h2 : GLies w a2 s.2) (hm1 : m1 = s.1.length) (hm2 : m2 = s.2.length) (hmm1 : m1 ≤ 1000000) (hmm2 : m2 ≤ 1000000) (hs1 : SmL s.1) (hs2 : SmL s.2) (hT : Tab w) (hmk : Mk w) :
    Calls Tryz.prog 16 #[.agg #[.slice a1 m1 c1, .slice a2 m2 c2]] w fun e w' => e = .returned (.int .i64 ((chkS s : Nat) : Int)) ∧ Below w.heap.size w w' := by
  obtain ⟨W0, hW0⟩ : ∃ W0, W0 = w.alloc (.cells #[.slice a1 m1 c1, .slice a2 m2 c2] 24) := ⟨_, rfl⟩
  have hwr := hW0.symm
  have hb0 : Below w.heap.size w W0 := by rw [hW0]; exact belowNew w _
  obtain ⟨b0, b1, lb⟩ := two_facts (w := W0) (g := w.heap.size) (by rw [hW0]; exact heap_alloc_new w _)
  have HB0 := Lib.hid hb0
  have HE := show chkS s = if m1 = 0 ∧ m2 = 0 then 7 else if 16 < m1 ∨ 16 < m2 then 2 else if errT s.1 ≠ 0 then errT s.1 else errT s.2 by unfold chkS; rw [errT_app, ← hm1, ← hm2]
  obtain ⟨E, hE⟩ : ∃ E, E = chkS s := ⟨_, rfl⟩
  rw [← hE] at HE ⊢
  have H1 := Lib.hid (chkb_core a1 c1 m1 s.1 W0 (h1.below hb0) hm1 hmm1 hs1 (hT.below hb0) (hmk.below hb0))
  have H2 := Lib.hid (fun W (hb : Below w.heap.size w W) => chkb_core a2 c2 m2 s.2 W (h2.below hb) hm2 hmm2 hs2 (hT.below hb) (hmk.below hb))
  obtain ⟨X, hX⟩ : ∃ X, X = errT s.1 := ⟨_, rfl⟩
  obtain ⟨Y, hY⟩ : ∃ Y, Y = errT s.2 := ⟨_, rfl⟩
  rw [← hX] at H1 HE
  rw [← hY] at H2 HE
  clear hW0 hb0 h1 h2 hm1 hm2 hs1 hs2 hT hmk hE hX hY
  by_cases hz : m1 = 0 ∧ m2 = 0
  · obtain ⟨rfl, rfl⟩ := hz
    rw [if_pos ⟨rfl, rfl⟩] at HE
    subst HE
    clear H1 H2
    go_enter Tryz.func16, Tryz.ntmps16
    go_wp2_with fail
    go_ret
    exact ⟨rfl, HB0.out⟩
  rw [if_neg hz] at HE
  have HZ := Lib.hid hz
  have q1 : ((m1 : Int) == 0) = true ∨ ((m1 : Int) == 0) = false := by cases ((m1 : Int) == 0) <;> simp
  have HQ2 := Lib.hid (show ((m1 : Int) == 0) = true → ((m2 : Int) == 0) = false from fun h => by simp at h ⊢; omega)
  clear hz
  by_cases hy : 16 < m1 ∨ 16 < m2
  · rw [if_pos hy] at HE
    subst HE
    clear H1 H2
    rcases Nat.lt_or_ge 16 m1 with hy1 | hy1
    · have q3 : decide ((16 : Int) < (m1 : Int)) = true := by simp; omega
      have q1 : ((m1 : Int) == 0) = false := by simp; omega
      go_enter Tryz.func16, Tryz.ntmps16
      go_wp2_with fail
      go_ret
      exact ⟨rfl, HB0.out⟩
    · have q3 : decide ((16 : Int) < (m1 : Int)) = false := by simp; omega
      have q4 : decide ((16 : Int) < (m2 : Int)) = true := by simp; omega
      have q2 : ((m2 : Int) == 0) = false := by simp; omega
      clear hy hy1
      rcases q1 with q1 | q1
      · go_enter Tryz.func16, Tryz.ntmps16
        go_wp2_with fail
        go_ret
        exact ⟨rfl, HB0.out⟩
      · go_enter Tryz.func16, Tryz.ntmps16
        go_wp2_with fail
        go_ret
        exact ⟨rfl, HB0.out⟩
  rw [if_neg hy] at HE
  have q3 : decide ((16 : Int) < (m1 : Int)) = false := by simp; omega
  have q4 : decide ((16 : Int) < (m2 : Int)) = false := by simp; omega
  clear hy
  have HX := Lib.hid HE
  clear HE
  rcases q1 with q1 | q1
  · have q2 := HQ2.out q1
    rcases Nat.eq_zero_or_pos X with hx | hx
    · have HE1 := Lib.hid (HX.out.trans (if_neg (not_not_intro hx)))
      subst hx
      go_enter Tryz.func16, Tryz.ntmps16
      go_wp2_with (first
        | (with_reducible refine H1.out.mono ?_; rintro e w1 ⟨rfl, hb1⟩; have HB1 := Lib.hid (below_next HB0.out hb1); have d1 := (hb1.cell (p := ⟨w.heap.size, 1, none⟩) lb).trans b1; clear hb1)
        | (with_reducible refine (H2.out _ HB1.out).mono ?_; rintro e w2 ⟨rfl, hb2⟩; have HB2 := Lib.hid (below_next HB1.out hb2); clear hb2))
      go_ret
      exact ⟨by rw [HE1.out]; rfl, HB2.out⟩
    · have hz1 := errno_ne (Nat.ne_of_gt hx)
      have HE1 := Lib.hid (HX.out.trans (if_pos (Nat.ne_of_gt hx)))
      go_enter Tryz.func16, Tryz.ntmps16
      go_wp2_with (with_reducible refine H1.out.mono ?_; rintro e w1 ⟨rfl, hb1⟩; have HB1 := Lib.hid (below_next HB0.out hb1); have d1 := (hb1.cell (p := ⟨w.heap.size, 1, none⟩) lb).trans b1; clear hb1)
      go_ret
      exact ⟨by rw [HE1.out]; rfl, HB1.out⟩
  · rcases Nat.eq_zero_or_pos X with hx | hx
    · have HE1 := Lib.hid (HX.out.trans (if_neg (not_not_intro hx)))
      subst hx
      go_enter Tryz.func16, Tryz.ntmps16
      go_wp2_with (first
        | (with_reducible refine H1.out.mono ?_; rintro e w1 ⟨rfl, hb1⟩; have HB1 := Lib.hid (below_next HB0.out hb1); have d1 := (hb1.cell (p := ⟨w.heap.size, 1, none⟩) lb).trans b1; clear hb1)
        | (with_reducible refine (H2.out _ HB1.out).mono ?_; rintro e w2 ⟨rfl, hb2⟩; have HB2 := Lib.hid (below_next HB1.out hb2); clear hb2))
      go_ret
      exact ⟨by rw [HE1.out]; rfl, HB2.out⟩
    · have hz1 := errno_ne (Nat.ne_of_gt hx)
      have HE1 := Lib.hid (HX.out.trans (if_pos (Nat.ne_of_gt hx)))
      go_enter Tryz.func16, Tryz.ntmps16
      go_wp2_with (with_reducible refine H1.out.mono ?_; rintro e w1 ⟨rfl, hb1⟩; have HB1 := Lib.hid (below_next HB0.out hb1); have d1 := (hb1.cell (p := ⟨w.heap.size, 1, none⟩) lb).trans b1; clear hb1)
      go_ret
      exact ⟨by rw [HE1.out]; rfl, HB1.out⟩
end Go.Proofs.YtbpdenfiifcfcaaGreatDoor
namespace Go.Proofs.YtbpdenfiifcfcaaGreatDoor
open Go.RowKit

def TagOk (T : Int) : Prop := T = 48 ∨ T = 160 ∨ T = 161
noncomputable def fitV (T : Int) (x : ByteArray) : Value := .tuple #[.string (fitB T x).1, .int .i64 (((fitB T x).2 : Nat) : Int)]
theorem fit_or (T : Int) (h : TagOk T) (l : List UInt8) (x : ByteArray) (hx : x = ⟨l.toArray⟩) : (wrapErr T l.length = 0 ∧ fitB T x = (wrapStr T l, 0)) ∨ (wrapErr T l.length ≠ 0 ∧ fitB T x = (⟨#[]⟩, 2)) := by
  have hs : x.size = l.length := by rw [hx]; show l.toArray.size = _; rw [List.size_toArray]
  have hl : x.data.toList = l := by rw [hx]
  have ht : ¬ (T < 0 ∨ 255 < T ∨ T % 32 = 31) := by rcases h with rfl | rfl | rfl <;> decide
  unfold wrapErr fitB wr1
  rw [hs, hl, if_neg ht]
  by_cases hc : l.length ≤ 131072
  · rw [if_pos hc, if_neg (by omega)]; exact .inl ⟨rfl, rfl⟩
  · rw [if_neg hc, if_pos (by omega)]; exact .inr ⟨by decide, rfl⟩

set_option maxRecDepth 100000 in
set_option maxHeartbeats 1000000 in
theorem swrap_any (T : Int) (hT : TagOk T) (a : Option Addr) (n c : Nat) (ss : List ByteArray) (w : World) (hv : Reads w (.slice a n c) ss) (hn : ss.length < 4611686018427387904) :
    Calls Tryz.prog 29 #[.int .i64 T, .slice a n c] w fun e w' => e = .returned (fitV T ⟨(cat_t ss).toArray⟩) ∧ Below w.heap.size w w' := by
  have HW := wrap_any T _ ss w hv hn
  unfold wrapVal at HW
  rcases fit_or T hT (cat_t ss) _ rfl with ⟨h1, h2⟩ | ⟨h1, h2⟩
  · unfold fitV
    rw [h1] at HW
    rw [h2]
    have H := Lib.hid HW
    clear HW hv hn h1 h2 hT
    go_enter Tryz.func29, Tryz.ntmps29
    go_wp2_with (go_at_call 52; (with_reducible refine H.out.mono ?_); rintro e w1 ⟨rfl, hb⟩; have HB := Lib.hid hb; clear hb)
    go_ret2
    exact ⟨rfl, HB.out⟩
  · unfold fitV
    rw [h2]
    have hz1 := errno_ne h1
    have H := Lib.hid HW
    clear HW hv hn h2 hT h1
    generalize wrapErr T (cat_t ss).length = X at H hz1
    go_enter Tryz.func29, Tryz.ntmps29
    go_wp2_with (go_at_call 52; (with_reducible refine H.out.mono ?_); rintro e w1 ⟨rfl, hb⟩; have HB := Lib.hid hb; clear hb)
    go_ret2
    exact ⟨rfl, HB.out⟩

set_option maxRecDepth 100000 in
set_option maxHeartbeats 1000000 in
theorem rfit_any (T : Int) (hT : TagOk T) (a : Option Addr) (n c : Nat) (ss : List ByteArray) (w : World) (hv : Reads w (.slice a n c) ss) (hn : ss.length < 4611686018427387904) (hb : (cat_t ss).length ≤ 1099511627776) :
    Calls Tryz.prog 31 #[.int .i64 T, .slice a n c] w fun e w' => e = .returned (fitV T ⟨(cat_t ss).toArray⟩) ∧ Below w.heap.size w w' := by
  have HW := rwrap_any T _ ss w hv hn hb
  unfold wrapVal at HW
  rcases fit_or T hT (cat_t ss) _ rfl with ⟨h1, h2⟩ | ⟨h1, h2⟩
  · unfold fitV
    rw [h1] at HW
    rw [h2]
    have H := Lib.hid HW
    clear HW hv hn h1 h2 hT hb
    go_enter Tryz.func31, Tryz.ntmps31
    go_wp2_with (go_at_call 54; (with_reducible refine H.out.mono ?_); rintro e w1 ⟨rfl, hb⟩; have HB := Lib.hid hb; clear hb)
    go_ret2
    exact ⟨rfl, HB.out⟩
  · unfold fitV
    rw [h2]
    have hz1 := errno_ne h1
    have H := Lib.hid HW
    clear HW hv hn h2 hT h1 hb
    generalize wrapErr T (cat_t ss).length = X at H hz1
    go_enter Tryz.func31, Tryz.ntmps31
    go_wp2_with (go_at_call 54; (with_reducible refine H.out.mono ?_); rintro e w1 ⟨rfl, hb⟩; have HB := Lib.hid hb; clear hb)
    go_ret2
    exact ⟨rfl, HB.out⟩

theorem fit1 (T : Int) (hT : TagOk T) (g : Nat) (x : ByteArray) (w : World) (h : w.cell? ⟨g, 0, none⟩ = some (.string x)) :
    Calls Tryz.prog 29 #[.int .i64 T, .slice (some ⟨g, 0, none⟩) 1 1] w fun e w' => e = .returned (fitV T x) ∧ Below w.heap.size w w' := by
  have := swrap_any T hT _ _ _ _ w (reads_one h) (by simp)
  rwa [cat_one] at this
theorem rfit1 (T : Int) (hT : TagOk T) (g : Nat) (x : ByteArray) (w : World) (h : w.cell? ⟨g, 0, none⟩ = some (.string x)) (hx : x.size ≤ 1099511627776) :
    Calls Tryz.prog 31 #[.int .i64 T, .slice (some ⟨g, 0, none⟩) 1 1] w fun e w' => e = .returned (fitV T x) ∧ Below w.heap.size w w' := by
  have := rfit_any T hT _ _ _ _ w (reads_one h) (by simp) (by rw [cat_one]; exact hx)
  rwa [cat_one] at this
theorem eGt_le {g : Gn} (h : xGt g = 0) : (eGt g).size ≤ 4500 := by
  obtain ⟨k, t, n⟩ := g
  have h0 : chkG true k t n = 0 := h
  show (encG true k t n).size ≤ 4500
  unfold encG
  rw [if_pos h0]
  rcases encG_zero h0 with ⟨rfl, rfl, hk⟩ | ⟨h4, hok, _, _⟩
  · rw [if_pos rfl]
    have h1 := encN_le64 hk
    have h2 := wrapStr_le 164 (encN n).data.toList
    have h3 : (encN n).data.toList.length = (encN n).size := rfl
    show (wrapStr 164 (encN n).data.toList).size ≤ 4500
    omega
  · rw [if_neg h4]
    have h1 : t.length ≤ 128 := okT_len hok
    have h2 := wrapStr_le (128 + k) (strOf t).data.toList
    have h3 : (strOf t).data.toList.length = t.length := by rw [strOf_list]
    show (wrapStr (128 + k) (strOf t).data.toList).size ≤ 4500
    omega
theorem fitV_eGt {g : Gn} (h : xGt g = 0) : fitV 48 (eGt g) = .tuple #[.string (treeB g), .int .i64 0] := by
  have h1 := eGt_le h
  unfold fitV fitB
  rw [if_pos (by omega)]
  rfl
theorem treeB_le {g : Gn} (h : xGt g = 0) : (treeB g).size ≤ 4510 := by
  have h1 := eGt_le h
  have h2 := wrapStr_le 48 (eGt g).data.toList
  have h3 : (eGt g).data.toList.length = (eGt g).size := rfl
  show (wrapStr 48 (eGt g).data.toList).size ≤ 4510
  omega

set_option maxRecDepth 100000 in
set_option maxHeartbeats 4000000 in
theorem enctree_core (a0 : Option Addr) (c m : Nat) (k : Int) (t : List UInt8) (n : Nm) (w : World) (h : RLies w a0 n) (hn : m = n.length) (ht : t.length ≤ 150000) (hs : SmallN n) (hT : Tab w) (hmk : Mk w) (hx : xGt (k, t, n) = 0) :
    Calls Tryz.prog 51 #[.agg #[.int .i64 k, .string (strOf t), .slice a0 m c]] w fun e w' => e = .returned (.tuple #[.string (treeB (k, t, n)), .int .i64 0]) ∧ Below w.heap.size w w' := by
  obtain ⟨W0, hW0⟩ : ∃ W0, W0 = w.alloc (.cells #[.int .i64 k, .string (strOf t), .slice a0 m c] 29) := ⟨_, rfl⟩
  have hwr := hW0.symm
  have hb0 : Below w.heap.size w W0 := by rw [hW0]; exact belowNew w _
  have hq0 : W0.heap[w.heap.size]? = some (.cells #[.int .i64 k, .string (strOf t), .slice a0 m c] 29 (0, 0)) := by rw [hW0]; exact heap_alloc_new w _
  obtain ⟨c0, c1, c2, l0⟩ := three_facts hq0
  have HB0 := Lib.hid hb0
  have HC := genc_core a0 c m k t n true W0 (h.below hb0) hn ht hs (hT.below hb0) (hmk.below hb0)
  rw [show chkG true k t n = 0 from hx, show encG true k t n = eGt (k, t, n) from rfl] at HC
  have HE := Lib.hid HC
  have HW1 := Lib.hid (fun g W h => fit1 48 (.inl rfl) g (eGt (k, t, n)) W h)
  rw [fitV_eGt hx] at HW1
  obtain ⟨V, hV⟩ : ∃ V, V = treeB (k, t, n) := ⟨_, rfl⟩
  rw [← hV] at HW1 ⊢
  generalize eGt (k, t, n) = EE at HE HW1
  clear h hn ht hs hT hmk hW0 hb0 hq0 HC hx hV
  go_enter Tryz.func51, Tryz.ntmps51
  go_wp2_with (first
    | (go_at_call 75; (with_reducible refine HE.out.mono ?_); rintro e w1 ⟨rfl, hb1⟩; have HB1 := Lib.hid (below_next HB0.out hb1); clear hb1)
    | (go_at_call 29; (with_reducible refine (HW1.out _ _ (bx1 _ _ _)).mono ?_); rintro e w5 ⟨rfl, hb5⟩; have HB5 := Lib.hid (below_next HB1.out (below_next (belowNew _ _) hb5)); clear hb5))
  go_ret2
  exact ⟨rfl, HB5.out⟩

theorem treesB_le : ∀ (l : List Gn), (∀ g ∈ l, xGt g = 0) → (cat_t (l.map treeB)).length ≤ 4510 * l.length
  | [], _ => Nat.le_refl _
  | g :: r, h => by
    have h1 := treesB_le r (fun x hx => h x (List.mem_cons_of_mem _ hx))
    have h2 := treeB_le (h g (by simp))
    have h3 : (treeB g).data.toList.length = (treeB g).size := rfl
    show ((treeB g).data.toList ++ cat_t (r.map treeB)).length ≤ 4510 * (r.length + 1)
    rw [List.length_append]
    omega
theorem at_mem {l : List Gn} {p : Gn → Prop} (h : ∀ g ∈ l, p g) {i : Nat} (hi : i < l.length) : p (l.getD i noG) := by
  rw [List.getD_eq_getElem?_getD, List.getElem?_eq_getElem hi]; exact h _ (List.getElem_mem hi)
/-- The function numbered f makes the element of one subtree. -/
def EncsF (f : Nat) (w : World) : Prop := ∀ (a : Option Addr) (c N : Nat) (q : Int) (t : List UInt8) (n : Nm) (W : World), Below w.heap.size w W → RLies W a n → N = n.length → t.length ≤ 150000 → SmallN n → xGt (q, t, n) = 0 →
  Calls Tryz.prog f #[.agg #[.int .i64 q, .string (strOf t), .slice a N c]] W fun e w' => e = .returned (.tuple #[.string (treeB (q, t, n)), .int .i64 0]) ∧ Below W.heap.size W w'
set_option maxRecDepth 100000 in
set_option maxHeartbeats 4000000 in
theorem convs_core (f : Nat) (eg : ∀ args w, (callFunc f args).run Tryz.prog w = .ok (.enter f args) w) (a0 : Option Addr) (c m : Nat) (l : List Gn) (w : World) (hf : EncsF f w) (h : GLies w a0 l) (hm : m = l.length) (hmm : m ≤ 1000) (hs : SmL l) (hx : ∀ g ∈ l, xGt g = 0) :
    Calls Tryz.prog 50 #[.slice a0 m c, .func (.func f) #[] #[]] w fun e w' => ∃ g, e = .returned (.tuple #[.slice (some ⟨g, 0, none⟩) m m, .int .i64 0]) ∧ Reads w' (.slice (some ⟨g, 0, none⟩) m m) (l.map treeB) ∧ Below w.heap.size w w' := by
  have hmk := strs_make m (by omega)
  obtain ⟨W0, hW0⟩ : ∃ W0, W0 = w.alloc (.cells (rowT m []) 9) := ⟨_, rfl⟩
  have hb0 : Below w.heap.size w W0 := by rw [hW0]; exact belowNew w _
  have hq0 : W0.heap[w.heap.size]? = some (.cells (rowT m []) 9 (0, 0)) := by rw [hW0]; exact heap_alloc_new w _
  obtain ⟨g, hg⟩ : ∃ g, g = w.heap.size := ⟨_, rfl⟩
  have HWE := Lib.hid hW0.symm
  have HB0 := Lib.hid hb0
  rw [← hg] at hq0
  have HQ0 := Lib.hid hq0
  have HG := Lib.hid hg
  have H1 := Lib.hid h
  have HN := Lib.hid hm
  have HS := Lib.hid hs
  have HX := Lib.hid hx
  have HF := Lib.hid hf
  clear h hm hs hx hf hW0 hb0 hq0 hg
  go_enter Tryz.func50, Tryz.ntmps50
  go_wp2_with fail
  rw [HWE.out, ← HG.out]
  clear hmk
  go_loopw [15] (fun i wr => ∃ k : Nat, k ≤ m ∧ i = .int .i64 (k : Int) ∧ wr.heap[g]? = some (.cells (rowT m ((l.take k).map treeB)) 9 (0, 0)) ∧ Below w.heap.size w wr) (fun i _ => m - (intOf i).toNat)
  case atStart => exact ⟨0, Nat.zero_le _, rfl, HQ0.out, HB0.out⟩
  case round =>
    obtain ⟨wz, hwz⟩ : ∃ wz, wz = wr := ⟨_, rfl⟩
    subst hwz
    obtain ⟨k, hk, rfl, hq, hb⟩ := hrel
    have HB := Lib.hid hb
    have HQ := Lib.hid hq
    clear hb hq
    by_cases hlt : k < m
    · have hd : decide ((k : Int) < (m : Int)) = true := by simp; omega
      have hkl : k < l.length := by rw [← HN.out]; exact hlt
      obtain ⟨b, o, rfl, hbl, e0, e1, a1, c1, e2, hc1, hL1⟩ := H1.out.at k hkl
      have f0 : wz.cell? ⟨b, o + k * 3, none⟩ = _ := (HB.out.cell (p := ⟨b, o + k * 3, none⟩) hbl).trans e0
      have f1 : wz.cell? ⟨b, o + k * 3 + 1, none⟩ = _ := (HB.out.cell (p := ⟨b, o + k * 3 + 1, none⟩) hbl).trans e1
      have f2 : wz.cell? ⟨b, o + k * 3 + 2, none⟩ = _ := (HB.out.cell (p := ⟨b, o + k * 3 + 2, none⟩) hbl).trans e2
      have hsm := HS.out.at hkl
      have hxk := at_mem HX.out hkl
      have hst : (l.take (k + 1)).map treeB = (l.take k).map treeB ++ [treeB (l.getD k noG)] := by rw [takeD l k hkl noG]; simp
      obtain ⟨G, hG⟩ : ∃ G, G = l.getD k noG := ⟨_, rfl⟩
      rw [← hG] at f0 f1 f2 hsm hxk hL1 hc1 hst
      obtain ⟨q, t, n⟩ := G
      simp only at f0 f1 f2 hL1 hc1
      obtain ⟨N, hNn⟩ : ∃ N, N = n.length := ⟨_, rfl⟩
      rw [← hNn] at f2
      obtain ⟨W2, hW2⟩ : ∃ W2, W2 = wz.alloc (.cells #[.int .i64 q, .string (strOf t), .slice a1 N c1] 29) := ⟨_, rfl⟩
      have hb2 : Below wz.heap.size wz W2 := by rw [hW2]; exact belowNew wz _
      obtain ⟨g0, g1, g2, _⟩ := three_facts (w := W2) (g := wz.heap.size) (by rw [hW2]; exact heap_alloc_new wz _)
      have hgl : g < wz.heap.size := (Array.getElem?_eq_some_iff.1 HQ.out).1
      have HB2 := Lib.hid (below_next HB.out hb2)
      have HQ2 := Lib.hid ((hb2.block g hgl).trans HQ.out)
      have HGL := Lib.hid (Nat.lt_of_lt_of_le hgl hb2.size)
      have HCH := Lib.hid (HF.out a1 c1 N q t n W2 HB2.out ((hL1.below HB.out).below hb2) hNn hsm.1 hsm.2 hxk)
      have HWE := hW2.symm
      obtain ⟨s, hs⟩ : ∃ s, s = treeB (q, t, n) := ⟨_, rfl⟩
      rw [← hs] at HCH hst
      have HST := Lib.hid hst
      have HLL := Lib.hid (show k = ((l.take k).map treeB).length by rw [List.length_map, List.length_take, ← HN.out]; omega)
      clear e0 e1 e2 hbl hL1 hc1 hG hNn hW2 hb2 hsm hxk hs hst hkl HQ hgl
      go_wp2_with (go_at_fn f; refine HCH.out.mono ?_; rintro e w1 ⟨rfl, hb1⟩; have hq1 := (hb1.block g HGL.out).trans HQ2.out; have HQ1 := Lib.hid hq1; have HB1 := Lib.hid (below_next HB2.out hb1); obtain ⟨cv, hcv⟩ := rowT_at m ((l.take k).map treeB) (by have := HLL.out; omega) k hlt; have hcell : w1.cell? ⟨g, k, none⟩ = some cv := (by rw [Lib.cell_of_heap hq1]; exact hcv); have hfz : w1.frozen? ⟨g, k, none⟩ = false := Lib.frozen_of_heap hq1 k; clear hb1 hq1 hcv)
      go_roundw
      case rel => exact ⟨k + 1, by omega, by go_num, by rw [HST.out]; exact row_put HQ1.out HLL.out hlt, HB1.out.setCell (p := ⟨g, k, none⟩) (by rw [HG.out]; exact Nat.le_refl _) _⟩
      case measure => simp [intOf]; omega
    · have hd : decide ((k : Int) < (m : Int)) = false := by simp; omega
      have hR := row_reads HQ.out (by rw [List.length_map, List.length_take, ← HN.out]; omega)
      rw [List.take_of_length_le (by rw [← HN.out]; omega)] at hR
      have HR := Lib.hid hR
      clear hR
      go_wp2_with fail
      go_ret2
      exact ⟨g, rfl, HR.out, HB.out⟩
end Go.Proofs.YtbpdenfiifcfcaaGreatDoor
namespace Go.Proofs.YtbpdenfiifcfcaaGreatDoor
open Go.RowKit

noncomputable def partV (T : Int) (l : List Gn) : Value := .tuple #[.string (partB T l).1, .int .i64 (((partB T l).2 : Nat) : Int)]
theorem partV_fit (T : Int) {l : List Gn} (h : l.length ≠ 0) : partV T l = fitV T (treesB l) := by unfold partV partB fitV; rw [if_neg h]
theorem partV_nil (T : Int) {l : List Gn} (h : l.length = 0) : partV T l = .tuple #[.string ⟨#[]⟩, .int .i64 0] := by unfold partV partB; rw [if_pos h]; rfl
theorem encsF_ok (w : World) (hT : Tab w) (hmk : Mk w) : EncsF 51 w := fun a c N q t n W hb h hn ht hs hx => enctree_core a c N q t n W h hn ht hs (hT.below hb) (hmk.below hb) hx

set_option maxRecDepth 100000 in
set_option maxHeartbeats 4000000 in
theorem encpart_core (T : Int) (hTag : TagOk T) (a0 : Option Addr) (c m : Nat) (l : List Gn) (w : World) (h : GLies w a0 l) (hm : m = l.length) (hmm : m ≤ 1000) (hs : SmL l) (hx : ∀ g ∈ l, xGt g = 0) (hT : Tab w) (hmk : Mk w) :
    Calls Tryz.prog 28 #[.int .i64 T, .slice a0 m c] w fun e w' => e = .returned (partV T l) ∧ Below w.heap.size w w' := by
  rcases Nat.eq_zero_or_pos m with hz | hz
  · rw [partV_nil T (by omega)]
    subst hz
    clear h hm hmm hs hx hT hmk hTag
    go_enter Tryz.func28, Tryz.ntmps28
    go_wp2_with fail
    go_ret2
    exact ⟨rfl, Below.refl _ _⟩
  · have hq : ((m : Int) == 0) = false := by simp; omega
    rw [partV_fit T (by omega)]
    have HC := Lib.hid (convs_core 51 (enters_of Tryz.func51 (by kernel_rfl) rfl) a0 c m l w (encsF_ok w hT hmk) h hm hmm hs hx)
    have HW := Lib.hid (fun g W (hr : Reads W (.slice (some ⟨g, 0, none⟩) m m) (l.map treeB)) => swrap_any T hTag (some ⟨g, 0, none⟩) m m (l.map treeB) W hr (by rw [List.length_map]; omega))
    rw [show (⟨(cat_t (l.map treeB)).toArray⟩ : ByteArray) = treesB l from rfl] at HW
    obtain ⟨V, hV⟩ : ∃ V, V = fitB T (treesB l) := ⟨_, rfl⟩
    have hVV : fitV T (treesB l) = .tuple #[.string V.1, .int .i64 ((V.2 : Nat) : Int)] := by unfold fitV; rw [← hV]
    rw [hVV] at HW ⊢
    clear h hm hmm hs hx hT hmk hTag hV hVV hz
    obtain ⟨V1, V2⟩ := V
    simp only at HW ⊢
    go_enter Tryz.func28, Tryz.ntmps28
    go_wp2_with (first
      | (go_at_call 50; (with_reducible refine HC.out.mono ?_); rintro e w1 ⟨g, rfl, hr1, hb1⟩; have HR1 := Lib.hid hr1; have HB1 := Lib.hid hb1; clear hr1 hb1)
      | (go_at_call 29; (with_reducible refine (HW.out _ _ HR1.out).mono ?_); rintro e w2 ⟨rfl, hb2⟩; have HB2 := Lib.hid (below_next HB1.out hb2); clear hb2))
    go_ret2
    exact ⟨rfl, HB2.out⟩

set_option maxRecDepth 100000 in
set_option maxHeartbeats 4000000 in
theorem rpart_core (T : Int) (hTag : TagOk T) (a0 : Option Addr) (c m : Nat) (l : List Gn) (w : World) (h : GLies w a0 l) (hm : m = l.length) (hmm : m ≤ 1000) (hs : SmL l) (hx : ∀ g ∈ l, xGt g = 0) :
    Calls Tryz.prog 30 #[.int .i64 T, .slice a0 m c] w fun e w' => e = .returned (partV T l) ∧ Below w.heap.size w w' := by
  rcases Nat.eq_zero_or_pos m with hz | hz
  · rw [partV_nil T (by omega)]
    subst hz
    clear h hm hmm hs hx hTag
    go_enter Tryz.func30, Tryz.ntmps30
    go_wp2_with fail
    go_ret2
    exact ⟨rfl, Below.refl _ _⟩
  · have hq : ((m : Int) == 0) = false := by simp; omega
    rw [partV_fit T (by omega)]
    have H1 := Lib.hid h
    have HN := Lib.hid hm
    have HS := Lib.hid hs
    have HX := Lib.hid hx
    have hle := treesB_le l hx
    have hTS : (treesB l).size = (cat_t (l.map treeB)).length := by show (cat_t (l.map treeB)).toArray.size = _; rw [List.size_toArray]
    have HW := Lib.hid (fun g W h => rfit1 T hTag g (treesB l) W h (by rw [hTS]; have := hm; omega))
    obtain ⟨V, hV⟩ : ∃ V, V = fitB T (treesB l) := ⟨_, rfl⟩
    have hVV : fitV T (treesB l) = .tuple #[.string V.1, .int .i64 ((V.2 : Nat) : Int)] := by unfold fitV; rw [← hV]
    rw [hVV] at HW ⊢
    clear h hm hs hx hTag hV hVV hz hle hTS
    obtain ⟨V1, V2⟩ := V
    simp only at HW ⊢
    go_enter Tryz.func30, Tryz.ntmps30
    go_wp2_with fail
    clear hq
    go_loopw [6, 16] (fun u i wr => ∃ (k : Nat) (S : ByteArray), k ≤ m ∧ i = .int .i64 (k : Int) ∧ u = .string S ∧ S.data.toList = cat_t ((l.take k).map treeB) ∧ S.size ≤ 131080 * k ∧ Below w.heap.size w wr) (fun _ i _ => m - (intOf i).toNat)
    case atStart => exact ⟨0, ⟨#[]⟩, Nat.zero_le _, rfl, rfl, rfl, by decide, Below.refl _ _⟩
    case round =>
      obtain ⟨wz, hwz⟩ : ∃ wz, wz = wr := ⟨_, rfl⟩
      subst hwz
      obtain ⟨k, S, hk, rfl, rfl, hS, hSz, hb⟩ := hrel
      have HB := Lib.hid hb
      have HSL := Lib.hid hS
      clear hb hS
      by_cases hlt : k < m
      · have hd : decide ((k : Int) < (m : Int)) = true := by simp; omega
        have hkl : k < l.length := by rw [← HN.out]; exact hlt
        obtain ⟨b, o, rfl, hbl, e0, e1, a1, c1, e2, hc1, hL1⟩ := H1.out.at k hkl
        have f0 : wz.cell? ⟨b, o + k * 3, none⟩ = _ := (HB.out.cell (p := ⟨b, o + k * 3, none⟩) hbl).trans e0
        have f1 : wz.cell? ⟨b, o + k * 3 + 1, none⟩ = _ := (HB.out.cell (p := ⟨b, o + k * 3 + 1, none⟩) hbl).trans e1
        have f2 : wz.cell? ⟨b, o + k * 3 + 2, none⟩ = _ := (HB.out.cell (p := ⟨b, o + k * 3 + 2, none⟩) hbl).trans e2
        have hsm := HS.out.at hkl
        have hxk := at_mem HX.out hkl
        have hst : (l.take (k + 1)).map treeB = (l.take k).map treeB ++ [treeB (l.getD k noG)] := by rw [takeD l k hkl noG]; simp
        obtain ⟨G, hG⟩ : ∃ G, G = l.getD k noG := ⟨_, rfl⟩
        rw [← hG] at f0 f1 f2 hsm hxk hL1 hc1 hst
        obtain ⟨q, t, n⟩ := G
        simp only at f0 f1 f2 hL1 hc1
        obtain ⟨N, hNn⟩ : ∃ N, N = n.length := ⟨_, rfl⟩
        rw [← hNn] at f2
        obtain ⟨W2, hW2⟩ : ∃ W2, W2 = wz.alloc (.cells #[.int .i64 q, .string (strOf t), .slice a1 N c1] 29) := ⟨_, rfl⟩
        have hb2 : Below wz.heap.size wz W2 := by rw [hW2]; exact belowNew wz _
        obtain ⟨g0, g1, g2, _⟩ := three_facts (w := W2) (g := wz.heap.size) (by rw [hW2]; exact heap_alloc_new wz _)
        have HB2 := Lib.hid (below_next HB.out hb2)
        have HCE := rencG_core a1 c1 N q t n true W2 ((hL1.below HB.out).below hb2) hNn hsm.1 hsm.2
        rw [show chkG true q t n = 0 from hxk, show encG true q t n = eGt (q, t, n) from rfl] at HCE
        have HCH := Lib.hid HCE
        have HWE := hW2.symm
        have hez := eGt_le hxk
        have htz := treeB_le hxk
        have HW1 := Lib.hid (fun g W h => rw1 48 g (eGt (q, t, n)) W h (by omega))
        rw [show wr1 48 (eGt (q, t, n)) = treeB (q, t, n) from rfl] at HW1
        obtain ⟨s, hs⟩ : ∃ s, s = treeB (q, t, n) := ⟨_, rfl⟩
        rw [← hs] at HW1 hst htz
        have hcat := cat_any S s (by omega)
        obtain ⟨TT, hTT⟩ : ∃ TT, TT = S ++ s := ⟨_, rfl⟩
        rw [← hTT] at hcat
        have HTL := Lib.hid (show TT.data.toList = cat_t ((l.take (k + 1)).map treeB) by rw [hst, catt_snoc, ← HSL.out, hTT]; simp)
        have HTZ := Lib.hid (show TT.size ≤ 131080 * (k + 1) by rw [hTT, ByteArray.size_append]; omega)
        generalize eGt (q, t, n) = EE at HCH HW1
        clear e0 e1 e2 hbl hL1 hc1 hG hNn hW2 hb2 hsm hxk hs hst hkl hez htz hTT HCE
        go_wp2_with (first
          | (go_at_call 53; (with_reducible refine HCH.out.mono ?_); rintro e w3 ⟨rfl, hb3⟩; have HB3 := Lib.hid (below_next HB2.out hb3); clear hb3)
          | (go_at_call 37; (with_reducible refine (HW1.out _ _ (bx1 _ _ _)).mono ?_); rintro e w5 ⟨rfl, hb5⟩; have HB5 := Lib.hid (below_next HB3.out (below_next (belowNew _ _) hb5)); clear hb5))
        go_roundw
        case rel => exact ⟨k + 1, TT, by omega, by go_num, rfl, HTL.out, HTZ.out, HB5.out⟩
        case measure => simp [intOf]; omega
      · have hd : decide ((k : Int) < (m : Int)) = false := by simp; omega
        have HS2 := Lib.hid (show S = treesB l by
          have h1 := HSL.out
          rw [List.take_of_length_le (by rw [← HN.out]; omega)] at h1
          unfold treesB
          rw [← h1])
        go_wp2_with (go_at_call 31; (with_reducible refine (HW.out _ _ (by rw [← HS2.out]; exact bx1 _ _ _)).mono ?_); rintro e w5 ⟨rfl, hb5⟩; have HB5 := Lib.hid (below_next HB.out (below_next (belowNew _ _) hb5)); clear hb5)
        go_ret2
        exact ⟨rfl, HB5.out⟩
end Go.Proofs.YtbpdenfiifcfcaaGreatDoor
namespace Go.Proofs.YtbpdenfiifcfcaaGreatDoor
open Go.RowKit

end Go.Proofs.YtbpdenfiifcfcaaGreatDoor
namespace Go.Proofs.YtbpdenfiifcfcaaGreatDoor
open Go.RowKit

set_option maxRecDepth 100000 in
set_option maxHeartbeats 4000000 in
theorem gwithin_core (a0 b0 : Option Addr) (c d n m : Nat) (k l : Int) (t u : List UInt8) (r s : Nm) (w : World) (h1 : RLies w a0 r) (h2 : RLies w b0 s) (hn : n = r.length) (hm : m = s.length) (hnc : n ≤ c) (ht : t.length ≤ 150000) (hu : u.length ≤ 150000) (hr : SmallN r) (hs : SmallN s) (hmk : Mk w) :
    Calls Tryz.prog 98 #[.agg #[.int .i64 k, .string (strOf t), .slice a0 n c], .agg #[.int .i64 l, .string (strOf u), .slice b0 m d]] w fun e w' => e = .returned (.bool (withinG k t r l u s)) ∧ Below w.heap.size w w' := by
  obtain ⟨W0, hW0⟩ : ∃ W0, W0 = (w.alloc (.cells #[.int .i64 k, .string (strOf t), .slice a0 n c] 29)).alloc (.cells #[.int .i64 l, .string (strOf u), .slice b0 m d] 29) := ⟨_, rfl⟩
  have hwr : (w.alloc (.cells #[.int .i64 k, .string (strOf t), .slice a0 n c] 29)).alloc (.cells #[.int .i64 l, .string (strOf u), .slice b0 m d] 29) = W0 := hW0.symm
  have hb0 : Below w.heap.size w W0 := by rw [hW0]; exact belowTwo w _ _
  obtain ⟨c0, c1, c2, d0, d1, d2, l1⟩ := box_two w (.int .i64 k) (.string (strOf t)) (.slice a0 n c) (.int .i64 l) (.string (strOf u)) (.slice b0 m d) 29
  rw [← hW0] at c0 c1 c2 d0 d1 d2 l1
  have l0 : w.heap.size < W0.heap.size := by omega
  have HB0 := Lib.hid hb0
  have HT := Lib.hid ht
  have HU := Lib.hid hu
  have HK := Lib.hid (fun W (hb : Below w.heap.size w W) => gkind_any k (strOf t) a0 n c W (hmk.below hb).2)
  obtain ⟨E, hE⟩ : ∃ E, E = withinG k t r l u s := ⟨_, rfl⟩
  rw [← hE]
  have HE := Lib.hid hE
  clear hE hW0
  have HMW := Lib.hid (fun W (hb : Below w.heap.size w W) => pmw_any t u HT.out HU.out W (hmk.below hb).1)
  have HDW := Lib.hid (fun W (hb : Below w.heap.size w W) => pwithin_any t u HT.out HU.out W)
  have HX := Lib.hid (fun W (hb : Below w.heap.size w W) => within_core a0 b0 c d n m r s W (h1.below hb) (h2.below hb) hn hm hnc hr hs)
  have HAW := Lib.hid (fun W (hb : Below w.heap.size w W) => paw_any t u HT.out HU.out W)
  clear h1 h2 hn hm hnc hr hs ht hu hb0 hmk
  by_cases hkl : k = l
  case neg =>
    have e1 : (k != l) = true := bne_iff_ne.2 hkl
    have HV := Lib.hid (show E = false by rw [HE.out]; unfold withinG; rw [if_pos hkl])
    clear hkl
    go_enter Tryz.func98, Tryz.ntmps98
    go_wp2_with fail
    go_ret
    exact ⟨by rw [HV.out]; rfl, HB0.out⟩
  subst hkl
  rcases kind_or k with rfl | rfl | rfl | rfl | hk
  · have HV := Lib.hid (show E = mailWithinB t u by rw [HE.out]; unfold withinG; rw [if_neg (by simp), if_pos rfl])
    rw [show ((kdOf 1 : Nat) : Int) = 0 from rfl] at HK
    go_enter Tryz.func98, Tryz.ntmps98
    go_wp2_with (first
      | (go_at_call 100; (with_reducible refine (HK.out _ HB0.out).mono ?_); rintro e w1 ⟨rfl, hb9⟩; have HB1 := Lib.hid (below_next HB0.out hb9); have q0 := (hb9.cell (p := ⟨w.heap.size, 0, none⟩) l0).trans c0; have q1 := (hb9.cell (p := ⟨w.heap.size, 1, none⟩) l0).trans c1; have q2 := (hb9.cell (p := ⟨w.heap.size, 2, none⟩) l0).trans c2; have p0 := (hb9.cell (p := ⟨w.heap.size + 1, 0, none⟩) l1).trans d0; have p1 := (hb9.cell (p := ⟨w.heap.size + 1, 1, none⟩) l1).trans d1; have p2 := (hb9.cell (p := ⟨w.heap.size + 1, 2, none⟩) l1).trans d2; clear hb9)
      | (go_at_call 118; (with_reducible refine (HMW.out _ HB1.out).mono ?_); rintro e w2 ⟨rfl, hb9⟩; have HB2 := Lib.hid (below_next HB1.out hb9); clear hb9))
    go_ret
    exact ⟨by rw [HV.out]; rfl, HB2.out⟩
  · have HV := Lib.hid (show E = dnsWithinB t u by rw [HE.out]; unfold withinG; rw [if_neg (by simp), if_neg (by decide), if_pos rfl])
    rw [show ((kdOf 2 : Nat) : Int) = 1 from rfl] at HK
    go_enter Tryz.func98, Tryz.ntmps98
    go_wp2_with (first
      | (go_at_call 100; (with_reducible refine (HK.out _ HB0.out).mono ?_); rintro e w1 ⟨rfl, hb9⟩; have HB1 := Lib.hid (below_next HB0.out hb9); have q0 := (hb9.cell (p := ⟨w.heap.size, 0, none⟩) l0).trans c0; have q1 := (hb9.cell (p := ⟨w.heap.size, 1, none⟩) l0).trans c1; have q2 := (hb9.cell (p := ⟨w.heap.size, 2, none⟩) l0).trans c2; have p0 := (hb9.cell (p := ⟨w.heap.size + 1, 0, none⟩) l1).trans d0; have p1 := (hb9.cell (p := ⟨w.heap.size + 1, 1, none⟩) l1).trans d1; have p2 := (hb9.cell (p := ⟨w.heap.size + 1, 2, none⟩) l1).trans d2; clear hb9)
      | (go_at_call 119; (with_reducible refine (HDW.out _ HB1.out).mono ?_); rintro e w2 ⟨rfl, hb9⟩; have HB2 := Lib.hid (below_next HB1.out hb9); clear hb9))
    go_ret
    exact ⟨by rw [HV.out]; rfl, HB2.out⟩
  · have HV := Lib.hid (show E = decide (WithinN r s) by rw [HE.out]; unfold withinG; rw [if_neg (by simp), if_neg (by decide), if_neg (by decide), if_pos rfl])
    rw [show ((kdOf 4 : Nat) : Int) = 2 from rfl] at HK
    go_enter Tryz.func98, Tryz.ntmps98
    go_wp2_with (first
      | (go_at_call 100; (with_reducible refine (HK.out _ HB0.out).mono ?_); rintro e w1 ⟨rfl, hb9⟩; have HB1 := Lib.hid (below_next HB0.out hb9); have q0 := (hb9.cell (p := ⟨w.heap.size, 0, none⟩) l0).trans c0; have q1 := (hb9.cell (p := ⟨w.heap.size, 1, none⟩) l0).trans c1; have q2 := (hb9.cell (p := ⟨w.heap.size, 2, none⟩) l0).trans c2; have p0 := (hb9.cell (p := ⟨w.heap.size + 1, 0, none⟩) l1).trans d0; have p1 := (hb9.cell (p := ⟨w.heap.size + 1, 1, none⟩) l1).trans d1; have p2 := (hb9.cell (p := ⟨w.heap.size + 1, 2, none⟩) l1).trans d2; clear hb9)
      | (go_at_call 120; (with_reducible refine (HX.out _ HB1.out).mono ?_); rintro e w2 ⟨rfl, hb9⟩; have HB2 := Lib.hid (below_next HB1.out hb9); clear hb9))
    go_ret
    exact ⟨by rw [HV.out]; rfl, HB2.out⟩
  · have HV := Lib.hid (show E = addrWithinB t u by rw [HE.out]; unfold withinG; rw [if_neg (by simp), if_neg (by decide), if_neg (by decide), if_neg (by decide), if_pos rfl])
    rw [show ((kdOf 7 : Nat) : Int) = 3 from rfl] at HK
    go_enter Tryz.func98, Tryz.ntmps98
    go_wp2_with (first
      | (go_at_call 100; (with_reducible refine (HK.out _ HB0.out).mono ?_); rintro e w1 ⟨rfl, hb9⟩; have HB1 := Lib.hid (below_next HB0.out hb9); have q0 := (hb9.cell (p := ⟨w.heap.size, 0, none⟩) l0).trans c0; have q1 := (hb9.cell (p := ⟨w.heap.size, 1, none⟩) l0).trans c1; have q2 := (hb9.cell (p := ⟨w.heap.size, 2, none⟩) l0).trans c2; have p0 := (hb9.cell (p := ⟨w.heap.size + 1, 0, none⟩) l1).trans d0; have p1 := (hb9.cell (p := ⟨w.heap.size + 1, 1, none⟩) l1).trans d1; have p2 := (hb9.cell (p := ⟨w.heap.size + 1, 2, none⟩) l1).trans d2; clear hb9)
      | (go_at_call 121; (with_reducible refine (HAW.out _ HB1.out).mono ?_); rintro e w2 ⟨rfl, hb9⟩; have HB2 := Lib.hid (below_next HB1.out hb9); clear hb9))
    go_ret
    exact ⟨by rw [HV.out]; rfl, HB2.out⟩
  · have HV := Lib.hid (show E = false by rw [HE.out]; unfold withinG; rw [if_neg (by simp), if_neg hk.1, if_neg hk.2.1, if_neg hk.2.2.1, if_neg hk.2.2.2])
    rw [kdOf_no hk, show (((4 : Nat)) : Int) = 4 from rfl] at HK
    have e0 : (k != k) = false := by simp
    clear hk
    go_enter Tryz.func98, Tryz.ntmps98
    go_wp2_with (go_at_call 100; (with_reducible refine (HK.out _ HB0.out).mono ?_); rintro e w1 ⟨rfl, hb9⟩; have HB1 := Lib.hid (below_next HB0.out hb9); have q0 := (hb9.cell (p := ⟨w.heap.size, 0, none⟩) l0).trans c0; have q1 := (hb9.cell (p := ⟨w.heap.size, 1, none⟩) l0).trans c1; have q2 := (hb9.cell (p := ⟨w.heap.size, 2, none⟩) l0).trans c2; have p0 := (hb9.cell (p := ⟨w.heap.size + 1, 0, none⟩) l1).trans d0; have p1 := (hb9.cell (p := ⟨w.heap.size + 1, 1, none⟩) l1).trans d1; have p2 := (hb9.cell (p := ⟨w.heap.size + 1, 2, none⟩) l1).trans d2; clear hb9)
    go_ret
    exact ⟨by rw [HV.out]; rfl, HB1.out⟩

end Go.Proofs.YtbpdenfiifcfcaaGreatDoor
