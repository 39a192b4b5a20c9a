/-
  The walk of the law NameMatch: for every two names and every list of numbers it returns true, and leaves all that was there as it was.
-/
import Derived.Test.YtfpfgdbfigdooaaDoorNordlaw
import Derived.Test.YtfpfgdbfigdooaaDoorNrmat
import Derived.Test.YtfpfgdbfigdooaaDoorMbn
namespace Go.Proofs.YtfpfgdbfigdooaaDoor
open Go.RowKit

theorem hold_rmatch {V : World} {q1 N1 c1 q2 N2 c2 : Nat} {a1 a2 : Option Addr} {n1 n2 : Nm} (h1 : HoldAt V q1 a1 N1 c1 n1) (h2 : HoldAt V q2 a2 N2 c2 n2) (v : Bool) (hv : decide (MatchN n1 n2) = v) (d : Nat) (os : Array Obj) :
    Calls Tryd.prog 17 #[.agg #[.slice a1 N1 c1], .agg #[.slice a2 N2 c2]] (Sort.grow (redrawn V d) os) fun e w'' => e = .returned (.bool v) ∧ ∃ p : Regrown, w'' = Sort.grow (redrawn V p.d) p.os := by
  refine Calls.regrown_of ?_
  rw [← hv]
  exact rmatch_core a1 a2 c1 c2 N1 N2 n1 n2 _ (h1.2.2.2.1.below (below_regrown V d os)) (h2.2.2.2.1.below (below_regrown V d os)) h1.2.1 h2.2.1 h1.2.2.2.2 h2.2.2.2.2
theorem hold_rwithin {V : World} {q1 N1 c1 q2 N2 c2 : Nat} {a1 a2 : Option Addr} {n1 n2 : Nm} (h1 : HoldAt V q1 a1 N1 c1 n1) (h2 : HoldAt V q2 a2 N2 c2 n2) (v : Bool) (hv : decide (WithinN n1 n2) = v) (d : Nat) (os : Array Obj) :
    Calls Tryd.prog 19 #[.agg #[.slice a1 N1 c1], .agg #[.slice a2 N2 c2]] (Sort.grow (redrawn V d) os) fun e w'' => e = .returned (.bool v) ∧ ∃ p : Regrown, w'' = Sort.grow (redrawn V p.d) p.os := by
  refine Calls.regrown_of ?_
  rw [← hv]
  exact rwithin_core a1 a2 c1 c2 N1 N2 n1 n2 _ (h1.2.2.2.1.below (below_regrown V d os)) (h2.2.2.2.1.below (below_regrown V d os)) h1.2.1 h2.2.1 h1.2.2.2.2 h2.2.2.2.2
theorem hold_match0 {V : World} {q1 N1 c1 q2 N2 c2 : Nat} {a1 a2 : Option Addr} {n1 n2 : Nm} (h1 : HoldAt V q1 a1 N1 c1 n1) (h2 : HoldAt V q2 a2 N2 c2 n2) (v : Bool) (hv : decide (MatchN n1 n2) = v) :
    Calls Tryd.prog 16 #[.agg #[.slice a1 N1 c1], .agg #[.slice a2 N2 c2]] V fun e w'' => e = .returned (.bool v) ∧ Below V.heap.size V w'' := by
  rw [← hv]
  exact match_core a1 a2 c1 c2 N1 N2 n1 n2 _ h1.2.2.2.1 h2.2.2.2.1 h1.2.1 h2.2.1 h1.2.2.2.2 h2.2.2.2.2
theorem hold_within0 {V : World} {q1 N1 c1 q2 N2 c2 : Nat} {a1 a2 : Option Addr} {n1 n2 : Nm} (h1 : HoldAt V q1 a1 N1 c1 n1) (h2 : HoldAt V q2 a2 N2 c2 n2) (v : Bool) (hv : decide (WithinN n1 n2) = v) :
    Calls Tryd.prog 18 #[.agg #[.slice a1 N1 c1], .agg #[.slice a2 N2 c2]] V fun e w'' => e = .returned (.bool v) ∧ Below V.heap.size V w'' := by
  rw [← hv]
  exact within_core a1 a2 c1 c2 N1 N2 n1 n2 _ h1.2.2.2.1 h2.2.2.2.1 h1.2.1 h2.2.1 h1.2.2.1 h1.2.2.2.2 h2.2.2.2.2
theorem ok_short {n : Nm} (h : NameOk n) : ∀ i, i < n.length → (n.getD i []).length ≤ 9223372036854775807 ∧ ∀ j, j < (n.getD i []).length → ((n.getD i []).getD j noAt).1.size ≤ 9223372036854775807 ∧ ((n.getD i []).getD j noAt).2.2.size ≤ 9223372036854775807 :=
  fun i hi => ⟨(h.2 i hi).1, fun j hj => ⟨((h.2 i hi).2 j hj).1, ((h.2 i hi).2 j hj).2.1⟩⟩

theorem Held.at {w : World} {q lo L N c : Nat} {a : Option Addr} {n : Nm} (h : Held w q lo n) (hs : SpN L n) (hL : L ≤ 1000) (hc : w.cell? ⟨q, 0, none⟩ = some (.slice a N c)) : HoldAt w q a N c n := by
  obtain ⟨a', N', c', h'⟩ := h.open hs hL
  have e := h'.1.symm.trans hc
  obtain ⟨rfl, rfl, rfl⟩ : a' = a ∧ N' = N ∧ c' = c := by simpa using e
  exact h'
theorem Held.same {W V : World} {q lo L N c p : Nat} {a : Option Addr} {n : Nm} (h : Held W q lo n) (hs : SpN L n) (hL : L ≤ 1000) (hb : But p W V) (hq : p ≠ q) (hl : p < lo) (hc : W.cell? ⟨q, 0, none⟩ = some (.slice a N c)) : HoldAt V q a N c n :=
  (h.but hb hq hl).at hs hL ((cell_same (hb.block q (block_lt hc) (by simp; omega)) 0).trans hc)
theorem HoldAt.takes {V : World} {q N c b rr : Nat} {a : Option Addr} {n : Nm} (h : HoldAt V q a N c n) (hr : rr ≤ n.length) (hc : V.cell? ⟨b, 0, none⟩ = some (.slice a rr c)) : HoldAt V b a rr c (n.take rr) := by
  refine ⟨hc, by rw [List.length_take]; omega, ?_, h.2.2.2.1.take rr, ?_⟩
  · have h1 := h.2.1; have h2 := h.2.2.1; omega
  · refine ⟨by rw [List.length_take]; have := h.2.2.2.2.1; omega, fun i hi => ?_⟩
    rw [List.length_take] at hi
    rw [getD_take _ _ _ (by omega)]
    exact h.2.2.2.2.2 i (by omega)

set_option maxRecDepth 100000 in
set_option maxHeartbeats 8000000 in
theorem matlaw (u0 v0 : Value) (r s : Nm) (a : Option Addr) (cap : Nat) (zs : List Int) (w : World) (h1 : NameV w u0 r) (h2 : NameV w v0 s) (q1 : NameOk r) (q2 : NameOk s) (hl : ILies w a zs) (hz : zs.length ≤ 9223372036854775807) (hT : Tab w) (hS : ShT w) :
    Calls Tryd.prog 4 #[u0, v0, .slice a zs.length cap] w fun e w' => e = .returned (.bool true) ∧ Below w.heap.size w w' := by
  obtain ⟨aR, cR, rfl, hcR, lR⟩ := h1
  obtain ⟨aS, cS, rfl, hcS, lS⟩ := h2
  obtain ⟨NR, hNR⟩ : ∃ NR, NR = r.length := ⟨_, rfl⟩
  obtain ⟨NS, hNS⟩ : ∃ NS, NS = s.length := ⟨_, rfl⟩
  rw [← hNR] at hcR ⊢
  rw [← hNS] at hcS ⊢
  obtain ⟨g, hg⟩ : ∃ g, g = w.heap.size := ⟨_, rfl⟩
  obtain ⟨W, hW⟩ : ∃ W, W = (w.alloc (.cells #[.slice aR NR cR] 24)).alloc (.cells #[.slice aS NS cS] 24) := ⟨_, rfl⟩
  have hb : Below w.heap.size w W := by rw [hW]; exact belowTwo w _ _
  have k0 : W.cell? ⟨g, 0, none⟩ = some (.slice aR NR cR) := by
    rw [hg, hW, World.cell?_alloc_old _ _ _ (by simp), cell_of_row _ _ 0 _ _ _ (heap_alloc_new w _)]; rfl
  have k1 : W.cell? ⟨g + 1, 0, none⟩ = some (.slice aS NS cS) := by
    rw [hg, hW]
    have := cell_of_row (w := (w.alloc (.cells #[.slice aR NR cR] 24)).alloc (.cells #[.slice aS NS cS] 24)) (w.heap.size + 1) 0 #[.slice aS NS cS] 24 (0, 0) (by have := heap_alloc_new (w.alloc (.cells #[.slice aR NR cR] 24)) (.cells #[.slice aS NS cS] 24); simpa using this)
    rw [this]; rfl
  have HWE := Lib.hid (show (w.alloc (.cells #[.slice aR NR cR] 24)).alloc (.cells #[.slice aS NS cS] 24) = W from hW.symm)
  have HG := Lib.hid hg
  have HB := Lib.hid hb
  have HLR := Lib.hid (lR.below hb)
  have HLS := Lib.hid (lS.below hb)
  have HNR := Lib.hid hNR
  have HNS := Lib.hid hNS
  have HCR := Lib.hid hcR
  have HCS := Lib.hid hcS
  have HT := Lib.hid (hT.below hb)
  have HS := Lib.hid (hS.below hb)
  have HIL := Lib.hid (show ILies W a zs from hl.below hb (fun x hx hne => by
    rcases hl with h | ⟨b, o, rfl, h⟩
    · exact absurd h hne
    · obtain rfl := Option.some.inj hx
      cases zs with
      | nil => exact absurd rfl hne
      | cons z t => exact block_lt (h 0 (by simp))))
  have HIB := Lib.hid hz
  have HZ := Lib.hid hz
  have HQ1 := Lib.hid q1
  have HQ2 := Lib.hid q2
  have HK0 := Lib.hid k0
  have HK1 := Lib.hid k1
  clear hW hb lR lS hNR hNS hcR hcS hT hS hl hz q1 q2 hg k1
  go_enter Tryd.func4, Tryd.ntmps4
  go_wp2_with fail
  rw [HWE.out, ← HG.out]
  refine (short_core aR cR NR r W HLR.out HNR.out (by rw [HNR.out]; exact HQ1.out.1) (ok_short HQ1.out)).mono ?_
  rintro e w1 ⟨hsh1, hb1⟩
  have HB1 := Lib.hid hb1
  have k1' := (hb1.cell (p := ⟨g + 1, 0, none⟩) (block_lt HK1.out)).trans HK1.out
  clear hb1 k0
  rcases hsh1 with ⟨rfl, hsh1⟩ | rfl
  case inr =>
    go_wp2_with fail
    refine (awake_any w1 (HT.out.below HB1.out) (HS.out.below HB1.out)).mono ?_
    rintro e w2 ⟨rfl, hb2⟩
    have HB2 := Lib.hid (below_next HB.out (below_next HB1.out hb2))
    clear hb2
    go_wp2_with fail
    go_ret
    exact ⟨rfl, HB2.out⟩
  have HSH1 := Lib.hid hsh1.small
  clear hsh1
  go_wp2_with fail
  refine (short_core aS cS NS s w1 (HLS.out.below HB1.out) HNS.out (by rw [HNS.out]; exact HQ2.out.1) (ok_short HQ2.out)).mono ?_
  rintro e w2 ⟨hsh2, hb2⟩
  have HB2 := Lib.hid (below_next HB1.out hb2)
  clear hb2 k1'
  rcases hsh2 with ⟨rfl, hsh2⟩ | rfl
  case inr =>
    go_wp2_with fail
    refine (awake_any w2 (HT.out.below HB2.out) (HS.out.below HB2.out)).mono ?_
    rintro e w3 ⟨rfl, hb3⟩
    have HB3 := Lib.hid (below_next HB.out (below_next HB2.out hb3))
    clear hb3
    go_wp2_with fail
    go_ret
    exact ⟨rfl, HB3.out⟩
  have HA1 := Lib.hid (show HoldAt w2 g aR NR cR r from ⟨(HB2.out.cell (p := ⟨g, 0, none⟩) (block_lt HK0.out)).trans HK0.out, HNR.out, HCR.out, HLR.out.below HB2.out, HSH1.out⟩)
  have HA2 := Lib.hid (show HoldAt w2 (g + 1) aS NS cS s from ⟨(HB2.out.cell (p := ⟨g + 1, 0, none⟩) (block_lt HK1.out)).trans HK1.out, HNS.out, HCS.out, HLS.out.below HB2.out, hsh2.small⟩)
  clear hsh2
  have HT2 := Lib.hid (HT.out.below HB2.out)
  have HS2 := Lib.hid (HS.out.below HB2.out)
  have HBB := Lib.hid (below_next HB.out HB2.out)
  have hin := new_any a cap zs w2 (HIL.out.below HB2.out (fun x hx hne => by
    rcases HIL.out with h | ⟨b, o, rfl, h⟩
    · exact absurd h hne
    · obtain rfl := Option.some.inj hx
      cases zs with
      | nil => exact absurd rfl hne
      | cons z t => exact block_lt (h 0 (by simp)))) HZ.out
  have HIN := Lib.hid hin
  clear hin HB HB1 HB2 HLR HLS HNR HNS HCR HCS HT HS HIL HQ1 HQ2 HK0 HK1 HSH1 HWE HG
  obtain ⟨p, hp⟩ : ∃ p, p = w2.heap.size := ⟨_, rfl⟩
  have HP := Lib.hid hp
  clear hp
  go_wp2_with fail
  refine HIN.out.mono ?_
  rintro e w3 ⟨rfl, hd, hb⟩
  rw [← HP.out] at hd hb ⊢
  have HB3 := Lib.hid hb
  have HD3 := Lib.hid hd
  clear hd hb
  go_wp2_with fail
  refine (name_any p a cap zs 0 w3 HD3.out (by omega)).mono ?_
  rintro e w4 ⟨v, n, k4, hmade, rfl, ⟨s4, rfl, hown⟩, hd, hk4, hb⟩
  have hp3 := HD3.out.lt
  obtain ⟨aA, cA, rfl, hcA, _⟩ := hown.lies
  obtain ⟨A, hA⟩ : ∃ A, A = w4.heap.size := ⟨_, rfl⟩
  have hpA : p < A := by rw [hA]; exact hd.lt
  obtain ⟨W5, hW5⟩ : ∃ W5, W5 = w4.alloc (.cells #[.slice aA n.length cA] 24) := ⟨_, rfl⟩
  have HH := Lib.hid (show Held W5 A w3.heap.size n from ⟨_, by rw [hW5, hA]; exact heap_alloc_new w4 _, by rw [hW5]; exact hown.below (belowNew w4 _)⟩)
  have HD := Lib.hid (show DeckAt W5 p a cap zs k4 by rw [hW5]; exact hd.below (belowNew w4 _))
  have HBW := Lib.hid (show Below p w2 W5 by rw [hW5]; exact (HB3.out.trans ((hb.below (Nat.le_of_lt hp3)))).trans ((belowNew w4 _).mono (by omega)))
  have HSn := Lib.hid (spN_of_made hmade)
  have HSP := Lib.hid (show ∃ vs : List Value, vs.length = n.length ∧ W5.ownsRow w3.heap.size 27 1 (.slice aA n.length cA) n.length vs ∧ ∀ i, i < n.length → OwnA W5 w3.heap.size (vs.getD i (.slice none 0 0)) (n.getD i []) by rw [hW5]; exact hown.below (belowNew w4 _))
  have HW5 := Lib.hid hW5.symm
  have HA := Lib.hid hA
  clear hd hb hown hmade hA hW5
  go_wp2_with fail
  rw [HW5.out, ← HA.out]
  generalize w3.heap.size = lo at HH hp3 HSP
  obtain ⟨vs, hv1, hv2, hv3⟩ := HSP.out
  replace HSP := Lib.hid (spel_any p a cap zs k4 aA n.length cA cA lo 20 n vs W5 HD.out (by omega) hv1 hv2 hv3 hp3 (Nat.le_refl _) HSn.out (by omega))
  have hpW5 : p < W5.heap.size := HD.out.lt
  clear hv1 hv2 hv3 hcA
  refine HSP.out.mono ?_
  rintro e w6 ⟨v6, m, k6, hm6, hs6, rfl, ⟨s6, rfl, ho6⟩, hd6, hk6, hb6⟩
  obtain ⟨aM, cM, rfl, hcM, hlM⟩ := ho6.lies
  obtain ⟨B, hB⟩ : ∃ B, B = w6.heap.size := ⟨_, rfl⟩
  obtain ⟨W7, hW7⟩ : ∃ W7, W7 = w6.alloc (.cells #[.slice aM m.length cM] 24) := ⟨_, rfl⟩
  have hb7 : But p W5 W7 := by rw [hW7]; exact hb6.alloc _
  have HH7 := Lib.hid (HH.out.but hb7 (by omega) hp3)
  have HM7 := Lib.hid (show Held W7 B W5.heap.size m from ⟨_, by rw [hW7, hB]; exact heap_alloc_new w6 _, by rw [hW7]; exact ho6.below (belowNew w6 _)⟩)
  have HMM := Lib.hid (show MatchN n m by rwa [List.take_length] at hm6)
  have HSM := Lib.hid hs6
  have HD7 := Lib.hid (show DeckAt W7 p a cap zs k6 by rw [hW7]; exact hd6.below (belowNew w6 _))
  have HBW7 := Lib.hid (HBW.out.trans (hb7.below (Nat.le_of_lt hpW5)))
  have hpB : p < B := by rw [hB]; exact hd6.lt
  have HW7 := Lib.hid hW7.symm
  have HB7 := Lib.hid hB
  clear hm6 hs6 ho6 hd6 hb6 hlM hW7 hB hb7 HSP
  go_wp2_with fail
  rw [HW7.out, ← HB7.out]
  have hlo7 : p < W5.heap.size := hpW5
  generalize W5.heap.size = lo7 at HM7 hlo7
  go_cut [10] (fun s10 wx => ∃ (b rr : Nat) (aO : Option Addr) (cO k3 N : Nat), s10 = .pointer (some ⟨b, 0, none⟩) ∧ rr ≤ m.length ∧ wx.cell? ⟨b, 0, none⟩ = some (.slice aO rr cO) ∧ wx.cell? ⟨B, 0, none⟩ = some (.slice aO N cO) ∧ p < b ∧ DeckAt wx p a cap zs k3 ∧ k3 ≤ 20 ∧ But p W7 wx)
  case first =>
    obtain ⟨aM2, M, cM2, hM⟩ := HM7.out.open HSM.out (by omega)
    have HHM := Lib.hid hM
    have c0 := hM.1
    have hltB : B < W7.heap.size := block_lt c0
    have hM3 : M ≤ 3 := by rw [hM.2.1]; exact HSM.out.1
    have hMc := hM.2.2.1
    have HMN := Lib.hid hM.2.1
    have HC0 := Lib.hid c0
    clear hM
    have hne3 : ¬ B = W7.heap.size := by omega
    have hne3' : ¬ W7.heap.size = B := by omega
    have hwr : IntKind.i64.wrap ((M : Int) + 1) = (M : Int) + 1 := by rw [wrap_i64]; omega
    go_region_held3 (fun w' => w'.cell? ⟨B, 0, none⟩ = some (.slice aM2 M cM2)) (first | assumption | go_keep)
      (first | (go_at_call 15; (with_reducible refine (next_up p a cap zs k6 M _ (by first | exact HD7.out | exact deck_up HD7.out | exact HD7.out.below (belowNew _ _) | exact deck_up (HD7.out.below (belowNew _ _)) | exact (deck_up HD7.out).below (belowNew _ _)) (by omega) (by omega)).mono ?_); rintro e w8 ⟨rr, k8, hr, rfl, hd8, hk8, hb8⟩; have hbx : But p W7 w8 := (by first | exact ((But.refl p W7).drew).next hb8 | exact ((But.of (belowNew W7 _)).drew).next hb8 | exact (((But.refl p W7).drew).alloc _).next hb8); have c8 : w8.cell? ⟨B, 0, none⟩ = some (.slice aM2 M cM2) := (cell_same (hbx.block B hltB (by simp; omega)) 0).trans c0; have HBX := Lib.hid hbx; have hlt8 : B < w8.heap.size := block_lt c8; have hne4 : ¬ B = w8.heap.size := (by omega); have hne4' : ¬ w8.heap.size = B := (by omega); have hsl := slice_head aM2 M cM2 rr (by omega); (try (have h9 : w8.heap[W7.heap.size]? = some (.cells #[.slice none 0 0] 24 (0, 0)) := (hb8.block W7.heap.size (by simp) (by simp; omega)).trans (heap_alloc_new W7 _); obtain ⟨z0, z1, z2⟩ := one_facts h9; have H9 := Lib.hid h9; clear h9)); have HD8 := Lib.hid hd8; have HR8 := Lib.hid hr; clear hd8 hb8 hbx))
    all_goals go_wp2_with fail
    all_goals go_meet
    · exact ⟨w8.heap.size, rr, aM2, cM2, k8, M, rfl, by rw [← HMN.out]; omega, (one_facts (heap_alloc_new w8 _)).1, ((belowNew w8 _).cell (p := ⟨B, 0, none⟩) hlt8).trans c8, HD8.out.lt, HD8.out.below (belowNew w8 _), by omega, HBX.out.alloc _⟩
    · have hs := But.set W7.heap.size 0 w8 (.slice aM2 rr cM2)
      exact ⟨W7.heap.size, rr, aM2, cM2, k8, M, rfl, by rw [← HMN.out]; omega, (one_facts (one_set H9.out)).1, (cell_same (hs.block B hlt8 (by simp; omega)) 0).trans c8, HD7.out.lt, HD8.out.grown hs (fun j e => by obtain rfl := Option.some.inj e; exact HD7.out.lt), by omega, HBX.out.fresh hs (Nat.le_refl _)⟩
  case rest =>
    obtain ⟨bO, rO, aO, cO, k9, M, rfl, hrO, hcO, hcB, hpO, hd9, hk9, hb9⟩ := hcut
    have HD9 := Lib.hid hd9
    have HB9 := Lib.hid hb9
    have HCO := Lib.hid hcO
    have HCB := Lib.hid hcB
    clear hd9 hb9 hcO hcB
    go_wp2_with fail
    refine (name_any p a cap zs k9 _ HD9.out (by omega)).mono ?_
    rintro e w10 ⟨v10, n2, k10, hmade2, rfl, ⟨s10, rfl, hown2⟩, hd10, hk10, hb10⟩
    obtain ⟨aP, cP, rfl, hcP, hlP⟩ := hown2.lies
    obtain ⟨P, hP⟩ : ∃ P, P = w10.heap.size := ⟨_, rfl⟩
    obtain ⟨V, hV⟩ : ∃ V, V = w10.alloc (.cells #[.slice aP n2.length cP] 24) := ⟨_, rfl⟩
    have hbV : But p wc V := by rw [hV]; exact hb10.alloc _
    have hb7V : But p W7 V := HB9.out.next hbV
    have hbv : Below w2.heap.size w2 V := by
      have h := HBW7.out.trans (hb7V.below (Nat.le_of_lt (show p < W7.heap.size from HD7.out.lt)))
      rw [HP.out] at h
      exact h
    obtain ⟨a1, N1, c1, H1⟩ := (HH7.out.but hb7V (by omega) hp3).open HSn.out (by omega)
    have cB : V.cell? ⟨B, 0, none⟩ = some (.slice aO M cO) := (cell_same (hbV.block B (block_lt HCB.out) (by simp; omega)) 0).trans HCB.out
    have H2 : HoldAt V B aO M cO m := (HM7.out.but hb7V (by omega) hlo7).at HSM.out (by omega) cB
    have H3 : HoldAt V bO aO rO cO (m.take rO) := H2.takes hrO ((cell_same (hbV.block bO (block_lt HCO.out) (by simp; omega)) 0).trans HCO.out)
    have H4 : HoldAt V P aP n2.length cP n2 := by
      refine ⟨?_, rfl, hcP, by rw [hV]; exact hlP.below (belowNew w10 _), small_of_sp (spN_of_made hmade2) (by omega)⟩
      rw [hV, hP]
      exact (one_facts (heap_alloc_new w10 _)).1
    have H5 : HoldAt V g aR NR cR r := HA1.out.below hbv
    have H6 : HoldAt V (g + 1) aS NS cS s := HA2.out.below hbv
    have HWN := Lib.hid (show WithinN n (m.take rO) from HMM.out.within.trans (take_within m rO))
    have HBV := Lib.hid (below_next HBB.out hbv)
    have HT3 := Lib.hid (HT2.out.below hbv)
    have HS3 := Lib.hid (HS2.out.below hbv)
    have hVE := hV.symm
    have hPE := hP.symm
    clear hP hV hbV hb7V hbv hown2 hd10 hb10 hlP cB hmade2 HD9 HB9 HCO HCB HH7 HM7 HD7 HBW7 HW7 HB7 HSM HD HBW HSn HW5 HA HH HA1 HA2 HT2 HS2 HBB HB3 HD3
    obtain ⟨L2, hL2⟩ : ∃ L2, L2 = n2.length := ⟨_, rfl⟩
    rw [← hL2] at H4 hVE ⊢
    have d1 := H1.1
    have d2 := H2.1
    have d3 := H3.1
    have d4 := H4.1
    have d5 := H5.1
    have d6 := H6.1
    have HH1 := Lib.hid H1
    have HH2 := Lib.hid H2
    have HH3 := Lib.hid H3
    have HH4 := Lib.hid H4
    have HH5 := Lib.hid H5
    have HH6 := Lib.hid H6
    clear H1 H2 H3 H4 H5 H6 hL2
    go_wp2_with fail
    obtain ⟨W9, hW9⟩ : ∃ W9, W9 = V.alloc (.cells #[.slice aR NR cR, .slice aS NS cS, .slice a1 N1 c1, .slice aO M cO, .slice a1 N1 c1, .slice aO rO cO, .slice aO rO cO, .slice a1 N1 c1, .slice a1 N1 c1, .slice aP L2 cP, .slice aR NR cR, .slice a1 N1 c1] 41) := ⟨_, rfl⟩
    rw [← hW9]
    have hb9 : Below V.heap.size V W9 := by rw [hW9]; exact belowNew V _
    obtain ⟨G, hG⟩ : ∃ G, G = V.heap.size := ⟨_, rfl⟩
    have HROW := Lib.hid (show ∀ k, k < 6 → ∃ (x1 : Option Addr) (M1 e1 : Nat) (m1 : Nm) (b1 : Nat) (x2 : Option Addr) (M2 e2 : Nat) (m2 : Nm) (b2 : Nat), W9.cell? ⟨G, k * 2, none⟩ = some (.slice x1 M1 e1) ∧ W9.cell? ⟨G, k * 2 + 1, none⟩ = some (.slice x2 M2 e2) ∧ HoldAt W9 b1 x1 M1 e1 m1 ∧ HoldAt W9 b2 x2 M2 e2 m2 from by
      intro k hk
      have hc : ∀ j, W9.cell? ⟨G, j, none⟩ = (#[Value.slice aR NR cR, .slice aS NS cS, .slice a1 N1 c1, .slice aO M cO, .slice a1 N1 c1, .slice aO rO cO, .slice aO rO cO, .slice a1 N1 c1, .slice a1 N1 c1, .slice aP L2 cP, .slice aR NR cR, .slice a1 N1 c1] : Array Value)[j]? := fun j => by
        rw [hG, hW9]
        exact cell_of_row _ _ j _ _ _ (heap_alloc_new V _)
      rcases (by omega : k = 0 ∨ k = 1 ∨ k = 2 ∨ k = 3 ∨ k = 4 ∨ k = 5) with rfl | rfl | rfl | rfl | rfl | rfl
      · exact ⟨_, _, _, _, _, _, _, _, _, _, hc 0, hc 1, HH5.out.below hb9, HH6.out.below hb9⟩
      · exact ⟨_, _, _, _, _, _, _, _, _, _, hc 2, hc 3, HH1.out.below hb9, HH2.out.below hb9⟩
      · exact ⟨_, _, _, _, _, _, _, _, _, _, hc 4, hc 5, HH1.out.below hb9, HH3.out.below hb9⟩
      · exact ⟨_, _, _, _, _, _, _, _, _, _, hc 6, hc 7, HH3.out.below hb9, HH1.out.below hb9⟩
      · exact ⟨_, _, _, _, _, _, _, _, _, _, hc 8, hc 9, HH1.out.below hb9, HH4.out.below hb9⟩
      · exact ⟨_, _, _, _, _, _, _, _, _, _, hc 10, hc 11, HH5.out.below hb9, HH1.out.below hb9⟩)
    have HJ1 := Lib.hid (HH1.out.below hb9)
    have HJ2 := Lib.hid (HH2.out.below hb9)
    have HJ3 := Lib.hid (HH3.out.below hb9)
    have HBW9 := Lib.hid (below_next HBV.out hb9)
    have HTW := Lib.hid (HT3.out.below hb9)
    have HSW := Lib.hid (HS3.out.below hb9)
    rw [← hG]
    clear hW9 hb9 hG d1 d2 d3 d4 d5 d6 HH1 HH2 HH3 HH4 HH5 HH6 HBV HT3 HS3 hVE hPE
    go_loopw [62] (fun i ws => ∃ k : Nat, k ≤ 6 ∧ i = .int .i64 k ∧ Below W9.heap.size W9 ws) (fun i _ => 6 - (intOf i).toNat)
    case atStart => exact ⟨0, Nat.zero_le _, rfl, Below.refl _ _⟩
    case round =>
      obtain ⟨k, hk, rfl, hb⟩ := hrel
      have HB := Lib.hid hb
      by_cases hlt : k < 6
      · have hd : decide ((k : Int) < 6) = true := by simp; omega
        obtain ⟨x1, M1, e1, m1, b1, x2, M2, e2, m2, b2, r1, r2, h1, h2⟩ := HROW.out k hlt
        have f1 := (hb.cell (p := ⟨G, k * 2, none⟩) (block_lt r1)).trans r1
        have f2 := (hb.cell (p := ⟨G, k * 2 + 1, none⟩) (block_lt r2)).trans r2
        have HX1 := Lib.hid (h1.below hb)
        have HX2 := Lib.hid (h2.below hb)
        clear r1 r2 h1 h2 hb
        go_wp2_with fail
        have hbx := heap_alloc_new wr (.cells #[.slice x1 M1 e1, .slice x2 M2 e2] 41)
        have HBA := Lib.hid (belowNew wr (.cells #[.slice x1 M1 e1, .slice x2 M2 e2] 41))
        have k0 : (wr.alloc (.cells #[.slice x1 M1 e1, .slice x2 M2 e2] 41)).cell? ⟨wr.heap.size, 0, none⟩ = some (.slice x1 M1 e1) := cell_of_row _ _ 0 _ _ _ hbx
        have k1 : (wr.alloc (.cells #[.slice x1 M1 e1, .slice x2 M2 e2] 41)).cell? ⟨wr.heap.size, 1, none⟩ = some (.slice x2 M2 e2) := cell_of_row _ _ 1 _ _ _ hbx
        have HBU := Lib.hid (below_next HB.out HBA.out)
        clear hbx f1 f2
        generalize wr.alloc (.cells #[.slice x1 M1 e1, .slice x2 M2 e2] 41) = U at k0 k1 HBA HBU ⊢
        have HY1 := Lib.hid (HX1.out.below HBA.out)
        have HY2 := Lib.hid (HX2.out.below HBA.out)
        obtain ⟨y1, hy1⟩ : ∃ y1, decide (MatchN m1 m2) = y1 := ⟨_, rfl⟩
        obtain ⟨y2, hy2⟩ : ∃ y2, decide (WithinN m1 m2) = y2 := ⟨_, rfl⟩
        have b1' := hold_match HY1.out HY2.out y1 hy1
        have b2' := hold_rmatch HY1.out HY2.out y1 hy1
        have b3' := hold_within HY1.out HY2.out y2 hy2
        have b4' := hold_rwithin HY1.out HY2.out y2 hy2
        have c0 := cell_regrown k0
        have c1 := cell_regrown k1
        clear hy1 hy2 k0 k1
        refine wp_region_quiet_below (by kernel_rfl) (by kernel_rfl) ?_
        repeat (go_big_quiet_step (with_reducible first | exact b1' _ _ | exact b2' _ _ | exact b3' _ _ | exact b4' _ _))
        refine wpQuiet_nil ?_
        intro _ hw'
        obtain ⟨⟨dq, osq⟩, hw''⟩ := hw'
        subst hw''
        clear c0 c1 b1' b2' b3' b4'
        have HBZ := Lib.hid (below_next HBU.out (below_regrown U dq osq))
        go_wp2_with fail
        go_roundw
        case rel => exact ⟨k + 1, by omega, by go_num, HBZ.out⟩
        case measure => simp [intOf]; omega
      · have hd : decide ((k : Int) < 6) = false := by simp; omega
        have HAW := Lib.hid (awake_any wr (HTW.out.below hb) (HSW.out.below hb))
        go_wp2_with fail
        refine HAW.out.mono ?_
        rintro e w11 ⟨rfl, hb11⟩
        have HK1 := Lib.hid ((HJ1.out.below hb).below hb11)
        have HK2 := Lib.hid ((HJ2.out.below hb).below hb11)
        have HK3 := Lib.hid ((HJ3.out.below hb).below hb11)
        have HBK := Lib.hid (below_next HBW9.out (below_next hb hb11))
        clear hb hb11
        have d1 := HK1.out.1
        have d2 := HK2.out.1
        go_wp2_with fail
        refine (hold_match0 HK1.out HK2.out true (decide_eq_true HMM.out)).mono ?_
        rintro e w12 ⟨rfl, hb12⟩
        have HL1 := Lib.hid (HK1.out.below hb12)
        have HL3 := Lib.hid (HK3.out.below hb12)
        have HBL := Lib.hid (below_next HBK.out hb12)
        clear hb12 d1 d2
        have d1 := HL1.out.1
        have d3 := HL3.out.1
        go_wp2_with fail
        refine (hold_within0 HL1.out HL3.out true (decide_eq_true HWN.out)).mono ?_
        rintro e w13 ⟨rfl, hb13⟩
        have HBM := Lib.hid (below_next HBL.out hb13)
        clear hb13 d1 d3
        go_wp2_with fail
        go_ret
        exact ⟨rfl, HBM.out⟩
end Go.Proofs.YtfpfgdbfigdooaaDoor
