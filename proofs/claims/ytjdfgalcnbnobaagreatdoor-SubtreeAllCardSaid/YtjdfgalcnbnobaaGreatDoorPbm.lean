/-
  The walk of the law SubtreeAll: for every name, every list of general names and every slice of ints it returns true, and leaves all that was there as it was.
-/
import Derived.Test.YtjdfgalcnbnobaaGreatDoorPaz
import Derived.Test.YtjdfgalcnbnobaaGreatDoorPbi
import Derived.Test.YtjdfgalcnbnobaaGreatDoorPbj
import Derived.Test.YtjdfgalcnbnobaaGreatDoorPbl
import Derived.Test.YtjdfgalcnbnobaaGreatDoorPat
import Derived.Lib.QuietBelow
import Derived.BigQuiet
namespace Go.Proofs.YtjdfgalcnbnobaaGreatDoor
open Go.RowKit

theorem glies_two_s {w : World} {g : Nat} {k q : Int} {t u : List UInt8} {n m : Nm} {a b : Option Addr} {c d : Nat} {T : TypeId} (h : w.heap[g]? = some (.cells #[.int .i64 k, .string (strOf t), .slice a n.length c, .int .i64 q, .string (strOf u), .slice b m.length d] T (0, 0)))
    (hc : n.length ≤ c) (hr : RLies w a n) (hd : m.length ≤ d) (hs : RLies w b m) : GLies w (some ⟨g, 0, none⟩) [(k, t, n), (q, u, m)] := by
  refine .inr ⟨g, 0, rfl, fun i hi => ?_⟩
  have e : ∀ j, w.cell? ⟨g, j, none⟩ = #[Value.int .i64 k, .string (strOf t), .slice a n.length c, .int .i64 q, .string (strOf u), .slice b m.length d][j]? := fun j => Lib.cell_of_heap h j
  obtain rfl | rfl : i = 0 ∨ i = 1 := by simp at hi; omega
  · exact ⟨e 0, e 1, a, c, e 2, hc, hr⟩
  · exact ⟨e 3, e 4, b, d, e 5, hd, hs⟩
theorem GLies.take {w : World} {a : Option Addr} {l : List Gn} (h : GLies w a l) (k : Nat) : GLies w a (l.take k) := by
  rcases h with h | ⟨b, o, h1, h2⟩
  · exact .inl (by rw [h]; simp)
  · refine .inr ⟨b, o, h1, fun i hi => ?_⟩
    rw [List.length_take] at hi
    rw [show (l.take k).getD i noG = l.getD i noG by rw [List.getD_eq_getElem?_getD, List.getD_eq_getElem?_getD, List.getElem?_take_of_lt (by omega)]]
    exact h2 i (by omega)
theorem sbN_short {n : Nm} (h : ShN n) : SbN n := ⟨ShN.small h, Nat.le_trans h.1 (by omega), fun r hr => by
  obtain ⟨i, hi, rfl⟩ := List.getElem_of_mem hr
  have h2 := h.2 i hi
  rw [List.getD_eq_getElem?_getD, List.getElem?_eq_getElem hi] at h2
  refine ⟨Nat.le_trans h2.1 (by omega), fun x hx => ?_⟩
  obtain ⟨j, hj, rfl⟩ := List.getElem_of_mem hx
  have h3 := (h2.2 j hj).2
  simp only [Option.getD_some] at h3
  rw [List.getD_eq_getElem?_getD, List.getElem?_eq_getElem hj] at h3
  exact Nat.le_trans h3 (by omega)⟩
theorem sbN_made {n : Nm} (h : MadeN n) : SbN n := ⟨made_small h, Nat.le_trans h.1 (by omega), fun r hr => ⟨Nat.le_trans (h.2 r hr).1.1 (by omega), fun x hx => by
  have hall : ∀ y ∈ madeL, y.2.2.size ≤ 20 := by decide
  exact Nat.le_trans (hall x ((h.2 r hr).1.2.1 x hx)) (by omega)⟩⟩
set_option maxRecDepth 100000 in
set_option maxHeartbeats 8000000 in
theorem salllaw (a0 a1 a2 : Option Addr) (c0 N0 c1 m1 c2 : Nat) (n0 : Nm) (l1 : List Gn) (zs : List Int) (w : World) (h0 : RLies w a0 n0) (hN0 : N0 = n0.length) (hc0 : N0 ≤ c0) (hb0 : NameOk n0) (h1 : GLies w a1 l1) (hm1 : m1 = l1.length) (hq1 : BigL l1) (h2 : ILies w a2 zs) (hz : zs.length ≤ 9223372036854775807) (hmk : Mk w) :
    Calls Tryz.prog 4 #[.agg #[.slice a0 N0 c0], .slice a1 m1 c1, .slice a2 zs.length c2] w fun e w' => e = .returned (.bool true) ∧ Below w.heap.size w w' := by
  obtain ⟨W0, hW0⟩ : ∃ W0, W0 = w.alloc (.cells #[.slice a0 N0 c0] 30) := ⟨_, rfl⟩
  have hwr := hW0.symm
  have hb00 : Below w.heap.size w W0 := by rw [hW0]; exact belowNew w _
  obtain ⟨x0, _, lx⟩ := one_facts (w := W0) (g := w.heap.size) (by rw [hW0]; exact heap_alloc_new w _)
  have HB0 := Lib.hid hb00
  have X0 := Lib.hid x0
  have HAW := Lib.hid (fun V (hb : Below W0.heap.size W0 V) => awake_core V ((hmk.below hb00).below hb))
  have HMX := Lib.hid (fun V (hb : Below W0.heap.size W0 V) => (hmk.below hb00).below hb)
  have HSN := Lib.hid (short_core a0 c0 N0 n0 W0 (h0.below hb00) hN0 (by rw [hN0]; exact hb0.1) (fun i hi => ⟨(hb0.2 i hi).1, fun j hj => ⟨((hb0.2 i hi).2 j hj).1, ((hb0.2 i hi).2 j hj).2.1⟩⟩))
  have HSS := Lib.hid (fun V (hb : Below W0.heap.size W0 V) => shorts_any a1 c1 m1 l1 V ((h1.below hb00).below hb) hm1 (by rw [hm1]; exact hq1.1) hq1.2)
  have HNW := Lib.hid (fun V (hb : Below W0.heap.size W0 V) => new_any a2 c2 zs V (ints_below (ints_below h2 hb00) hb) hz)
  have HR0 := Lib.hid (h0.below hb00)
  have HG1 := Lib.hid (h1.below hb00)
  have HN0 := Lib.hid hN0
  have HC0 := Lib.hid hc0
  have HM1 := Lib.hid hm1
  clear h0 hN0 hc0 hb0 h1 hm1 hq1 h2 hz hmk hb00 hW0
  go_enter Tryz.func4, Tryz.ntmps4
  go_upto_region 1 with (fail)
  go_wp2_with fail
  refine HSN.out.mono ?_
  rintro e w1 ⟨hS, hb1⟩
  have HB1 := Lib.hid hb1
  clear hb1 HSN hwr x0
  rcases hS with ⟨rfl, hSh⟩ | rfl
  case inr =>
    go_wp2_with (go_at_call 9; (with_reducible refine (HAW.out _ HB1.out).mono ?_); rintro e w2 ⟨rfl, hb2⟩; have HB2 := Lib.hid (below_next HB1.out hb2); clear hb2)
    go_ret
    exact ⟨rfl, below_next HB0.out HB2.out⟩
  have HSH := Lib.hid hSh
  clear hSh
  go_wp2_with fail
  refine (HSS.out w1 HB1.out).mono ?_
  rintro e w2 ⟨hS, hb2⟩
  have HB2 := Lib.hid (below_next HB1.out hb2)
  clear hb2 HSS
  rcases hS with ⟨rfl, hSh⟩ | rfl
  case inr =>
    go_wp2_with (go_at_call 9; (with_reducible refine (HAW.out _ HB2.out).mono ?_); rintro e w3 ⟨rfl, hb3⟩; have HB3 := Lib.hid (below_next HB2.out hb3); clear hb3)
    go_ret
    exact ⟨rfl, below_next HB0.out HB3.out⟩
  have HSL := Lib.hid (show ShL l1 from hSh)
  clear hSh
  go_wp2_with fail
  refine (HNW.out w2 HB2.out).mono ?_
  rintro e w3 ⟨rfl, hd3, hb3⟩
  have HBN := Lib.hid (below_next HB2.out hb3)
  obtain ⟨p, hp⟩ : ∃ p, p = w2.heap.size := ⟨_, rfl⟩
  rw [← hp] at hd3 ⊢
  have HBW := Lib.hid (fun V (h : But p w3 V) => show Below W0.heap.size W0 V from HBN.out.trans ((h.below (Nat.le_of_lt hd3.lt)).mono (by rw [hp]; exact HB2.out.size)))
  have HD3 := Lib.hid hd3
  have hpw : w.heap.size < p := by rw [hp]; exact Nat.lt_of_lt_of_le lx HB2.out.size
  clear hd3 hb3 hp HNW HB1 HB2
  have HST := Lib.hid (state_any p a2 c2 zs 0 w3 HD3.out (by omega))
  go_upto_region 5 with (go_at_call 11; (with_reducible refine HST.out.mono ?_); rintro e w4 ⟨v, L, k4, hL4, hG, rfl, ho, hd4, hk4, hb4⟩; obtain ⟨av, cv, rfl, _, _⟩ := ho.lies; have HG := Lib.hid hG; have HL4 := Lib.hid hL4; have HO4 := Lib.hid ho; have HD4 := Lib.hid hd4; have HK4 := Lib.hid hk4; have HB4 := Lib.hid hb4; clear ho hd4 hk4 hb4 hG hL4)
  obtain ⟨NL, hNL⟩ : ∃ NL, NL = L.length := ⟨_, rfl⟩
  have HNL := Lib.hid hNL
  rw [← hNL] at HO4 HL4 ⊢
  obtain ⟨W5, hW5⟩ : ∃ W5, W5 = w4.alloc (.cells #[.slice av NL cv] 24) := ⟨_, rfl⟩
  have hb5 : Below w4.heap.size w4 W5 := by rw [hW5]; exact belowNew w4 _
  obtain ⟨gS, hgS⟩ : ∃ gS, gS = w4.heap.size := ⟨_, rfl⟩
  have hq5 : W5.heap[gS]? = some (.cells #[.slice av NL cv] 24 (0, 0)) := by rw [hW5, hgS]; exact heap_alloc_new w4 _
  rw [← hW5, ← hgS]
  obtain ⟨B, hB⟩ : ∃ B, B = w3.heap.size := ⟨_, rfl⟩
  rw [← hB] at HO4
  have hpB : p < B := by rw [hB]; exact HD3.out.lt
  have hBS : B ≤ gS := by rw [hB, hgS]; exact HB4.out.size
  have HOK := Lib.hid (genB_ok HG.out (by rw [← HNL.out]; exact Nat.le_trans HL4.out (by omega)))
  have HQ5 := Lib.hid hq5
  have HO5 := Lib.hid (HO4.out.below hb5)
  have HD5 := Lib.hid (HD4.out.below hb5)
  have HB5 := Lib.hid (HB4.out.next (But.of hb5))
  have HNA := Lib.hid (name_any p a2 c2 zs k4 W5 HD5.out (by have := HK4.out; omega))
  have hsB : B ≤ W5.heap.size := Nat.le_trans hBS (Nat.le_of_lt (Array.getElem?_eq_some_iff.1 hq5).1)
  clear hb5 hq5 hW5 hgS hB hNL HST HO4 HD4 HB4
  go_upto_region 6 with (go_at_call 20; (with_reducible refine HNA.out.mono ?_); rintro e w6 ⟨v, n, k6, hn, rfl, ⟨s, rfl, hso⟩, hd6, hk6, hb6⟩; obtain ⟨an, cn, rfl, hcn, _⟩ := hso.lies; have HMN := Lib.hid hn; have HQ6 := Lib.hid ((hb6.block gS (Array.getElem?_eq_some_iff.1 HQ5.out).1 (by simp; omega)).trans HQ5.out); have HO6 := Lib.hid (HO5.out.but hb6 hpB); have HN6 := Lib.hid (hso.base hsB); have HCN := Lib.hid hcn; have HD6 := Lib.hid hd6; have HK6 := Lib.hid (show k6 ≤ 331 by have := HK4.out; omega); have HB6 := Lib.hid (HB5.out.next hb6); have hs6 : B ≤ w6.heap.size := (Nat.le_trans hsB hb6.size); clear hn hso hd6 hk6 hb6 hcn)
  obtain ⟨Nn, hNn⟩ : ∃ Nn, Nn = n.length := ⟨_, rfl⟩
  have HNN := Lib.hid hNn
  rw [← hNn] at HN6 HCN ⊢
  obtain ⟨W7, hW7⟩ : ∃ W7, W7 = w6.alloc (.cells #[.slice an Nn cn] 30) := ⟨_, rfl⟩
  have hb7 : Below w6.heap.size w6 W7 := by rw [hW7]; exact belowNew w6 _
  obtain ⟨gN, hgN⟩ : ∃ gN, gN = w6.heap.size := ⟨_, rfl⟩
  have hq7 : W7.heap[gN]? = some (.cells #[.slice an Nn cn] 30 (0, 0)) := by rw [hW7, hgN]; exact heap_alloc_new w6 _
  rw [← hW7, ← hgN]
  have hgB : B ≤ gN := by rw [hgN]; exact hs6
  have HQ7 := Lib.hid (And.intro ((hb7.block gS (Array.getElem?_eq_some_iff.1 HQ6.out).1).trans HQ6.out) hq7)
  have HO7 := Lib.hid (And.intro (HO6.out.below hb7) (HN6.out.below hb7))
  have HD7 := Lib.hid (HD6.out.below hb7)
  have HB7 := Lib.hid (HB6.out.next (But.of hb7))
  have HG7 := Lib.hid (general_any p a2 c2 zs k6 W7 HD7.out (by have := HK6.out; omega))
  have hs7 : B ≤ W7.heap.size := Nat.le_trans hs6 hb7.size
  clear hb7 hq7 hW7 hgN hNn HNA HO6 HN6 HD6 HB6 HQ5 HO5 HD5 HB5 HQ6 hs6
  go_upto_region 7 with (first
    | (go_at_call 15; (with_reducible refine HG7.out.mono ?_); rintro e w8 ⟨q1, t1, s1, n1, k8, hG1, rfl, hso, hd8, hk8, hb8⟩; obtain ⟨ag, cg, rfl, hcg, _⟩ := hso.lies; have HGA := Lib.hid (And.intro (gen_len hG1) hcg); have HOA := Lib.hid (hso.base hs7); have HQ8 := Lib.hid (And.intro ((hb8.block gS (Array.getElem?_eq_some_iff.1 HQ7.out.1).1 (by simp; omega)).trans HQ7.out.1) ((hb8.block gN (Array.getElem?_eq_some_iff.1 HQ7.out.2).1 (by simp; omega)).trans HQ7.out.2)); have HO8 := Lib.hid (And.intro (HO7.out.1.but hb8 hpB) (HO7.out.2.but hb8 hpB)); have HB8 := Lib.hid (HB7.out.next hb8); have hs8 : B ≤ w8.heap.size := (Nat.le_trans hs7 hb8.size); have HK8 := Lib.hid (show k8 ≤ 343 by have := HK6.out; omega); have HG8 := Lib.hid (general_any p a2 c2 zs k8 w8 hd8 (by have := HK6.out; omega)); clear hG1 hso hd8 hk8 hb8 hcg)
    | (go_at_call 15; (with_reducible refine HG8.out.mono ?_); rintro e w9 ⟨q2, t2, s2, n2, k9, hG2, rfl, hso, hd9, hk9, hb9⟩; obtain ⟨ah, ch, rfl, hch, _⟩ := hso.lies; have HGB := Lib.hid (And.intro (gen_len hG2) hch); have HOB := Lib.hid (hso.base hs8); have HOC := Lib.hid (HOA.out.but hb9 hpB); have HQ9 := Lib.hid (And.intro ((hb9.block gS (Array.getElem?_eq_some_iff.1 HQ8.out.1).1 (by simp; omega)).trans HQ8.out.1) ((hb9.block gN (Array.getElem?_eq_some_iff.1 HQ8.out.2).1 (by simp; omega)).trans HQ8.out.2)); have HO9 := Lib.hid (And.intro (HO8.out.1.but hb9 hpB) (HO8.out.2.but hb9 hpB)); have HB9 := Lib.hid (HB8.out.next hb9); have hs9 : B ≤ w9.heap.size := (Nat.le_trans hs8 hb9.size); have HNXT := Lib.hid (fun V (hb : Below w9.heap.size w9 V) => next3 p a2 c2 zs k9 V (hd9.below hb) (by have := HK8.out; omega)); clear hG2 hso hd9 hk9 hb9 hch)
    | (go_at_call 21; (with_reducible refine (HNXT.out _ (belowNew w9 _)).mono ?_); rintro e wA ⟨r, kA, hr, rfl, hdA, hkA, hbA⟩; have hbx : But p w9 wA := (But.of (belowNew w9 _)).next hbA; have HQA := Lib.hid (And.intro ((hbx.block gS (Array.getElem?_eq_some_iff.1 HQ9.out.1).1 (by simp; omega)).trans HQ9.out.1) ((hbx.block gN (Array.getElem?_eq_some_iff.1 HQ9.out.2).1 (by simp; omega)).trans HQ9.out.2)); have HOX := Lib.hid (And.intro (HO9.out.1.but hbx hpB) (HO9.out.2.but hbx hpB)); have HGX := Lib.hid (show GLies wA (some ⟨w9.heap.size, 0, none⟩) [(q1, t1, n1), (q2, t2, n2)] from glies_two_s ((hbA.block w9.heap.size (by simp) (by simp; omega)).trans (heap_alloc_new w9 _)) HGA.out.2 (own_rl_s (HOC.out.but hbx hpB)) HGB.out.2 (own_rl_s (HOB.out.but hbx hpB))); have HBA := Lib.hid (HB9.out.next hbx); have hr3 : r ≤ 2 := (by omega); have hri : (r : Int) ≤ 2 := (by omega); clear hdA hkA hbA hbx hr))
  clear HG7 HG8 HNXT HQ7 HQ8 HQ9 HO7 HO8 HO9 HB7 HB8 HB9 HOA HOB HOC
  obtain ⟨gR, hgR⟩ : ∃ gR, gR = w9.heap.size := ⟨_, rfl⟩
  rw [← hgR] at HGX ⊢
  have hx0 := HBW.out wA HBA.out
  have HBX := Lib.hid hx0
  have y0 := cell_regrown ((hx0.cell (p := ⟨w.heap.size, 0, none⟩) lx).trans X0.out)
  have y1 := cell_regrown (one_facts HQA.out.1).1
  have y2 := cell_regrown (one_facts HQA.out.2).1
  have HP0 := Lib.hid (fun V (hb : Below wA.heap.size wA V) => pall_core av a0 a1 cv NL c0 N0 c1 m1 L n0 l1 V (lies_of (HOX.out.1.below hb)) HNL.out HOK.out (HR0.out.below (below_next hx0 hb)) HN0.out HC0.out (sbN_short HSH.out) (HG1.out.below (below_next hx0 hb)) HM1.out (by rw [HM1.out]; exact Nat.le_trans HSL.out.1 (by omega)) HSL.out.sm (HMX.out V (below_next hx0 hb)))
  have HR0' := Lib.hid (fun V (hb : Below wA.heap.size wA V) => rpall_core av a0 a1 cv NL c0 N0 c1 m1 L n0 l1 V (lies_of (HOX.out.1.below hb)) HNL.out HOK.out (HR0.out.below (below_next hx0 hb)) HN0.out (sbN_short HSH.out) (HG1.out.below (below_next hx0 hb)) HM1.out (by rw [HM1.out]; exact Nat.le_trans HSL.out.1 (by omega)) HSL.out.sm)
  have hsl2 : SmL ([(q1, t1, n1), (q2, t2, n2)].take r) := fun g hg => by
    have := List.mem_of_mem_take hg
    simp at this
    rcases this with rfl | rfl
    · exact ⟨Nat.le_trans HGA.out.1.1 (by omega), made_small HGA.out.1.2⟩
    · exact ⟨Nat.le_trans HGB.out.1.1 (by omega), made_small HGB.out.1.2⟩
  have hrl : r = ([(q1, t1, n1), (q2, t2, n2)].take r).length := by rw [List.length_take]; simp; omega
  have HP1 := Lib.hid (fun V (hb : Below wA.heap.size wA V) => pall_core av an (some ⟨gR, 0, none⟩) cv NL cn Nn 2 r L n ([(q1, t1, n1), (q2, t2, n2)].take r) V (lies_of (HOX.out.1.below hb)) HNL.out HOK.out (own_rl_s (HOX.out.2.below hb)) HNN.out HCN.out (sbN_made HMN.out) ((HGX.out.take r).below hb) hrl (by omega) hsl2 (HMX.out V (below_next hx0 hb)))
  have HR1' := Lib.hid (fun V (hb : Below wA.heap.size wA V) => rpall_core av an (some ⟨gR, 0, none⟩) cv NL cn Nn 2 r L n ([(q1, t1, n1), (q2, t2, n2)].take r) V (lies_of (HOX.out.1.below hb)) HNL.out HOK.out (own_rl_s (HOX.out.2.below hb)) HNN.out (sbN_made HMN.out) ((HGX.out.take r).below hb) hrl (by omega) hsl2)
  have HP2 := Lib.hid (fun V (hb : Below wA.heap.size wA V) => pall_core av an none cv NL cn Nn 0 0 L n [] V (lies_of (HOX.out.1.below hb)) HNL.out HOK.out (own_rl_s (HOX.out.2.below hb)) HNN.out HCN.out (sbN_made HMN.out) (.inl rfl) rfl (by omega) sm_none (HMX.out V (below_next hx0 hb)))
  have HR2' := Lib.hid (fun V (hb : Below wA.heap.size wA V) => rpall_core av an none cv NL cn Nn 0 0 L n [] V (lies_of (HOX.out.1.below hb)) HNL.out HOK.out (own_rl_s (HOX.out.2.below hb)) HNN.out (sbN_made HMN.out) (.inl rfl) rfl (by omega) sm_none)
  generalize (allG L (subjL n0) && allG L l1) = P0 at HP0 HR0'
  generalize (allG L (subjL n) && allG L ([(q1, t1, n1), (q2, t2, n2)].take r)) = P1 at HP1 HR1'
  generalize (allG L (subjL n) && allG L []) = P2 at HP2 HR2'
  have z0 : ∀ d os, _ := fun d os => Calls.regrown_of (HAW.out (Sort.grow (redrawn wA d) os) (below_next hx0 (below_regrown wA d os)))
  have z1 : ∀ d os, _ := fun d os => Calls.regrown_of (HP0.out (Sort.grow (redrawn wA d) os) (below_regrown wA d os))
  have z2 : ∀ d os, _ := fun d os => Calls.regrown_of (HR0'.out (Sort.grow (redrawn wA d) os) (below_regrown wA d os))
  have z3 : ∀ d os, _ := fun d os => Calls.regrown_of (HP1.out (Sort.grow (redrawn wA d) os) (below_regrown wA d os))
  have z4 : ∀ d os, _ := fun d os => Calls.regrown_of (HR1'.out (Sort.grow (redrawn wA d) os) (below_regrown wA d os))
  have z5 : ∀ d os, _ := fun d os => Calls.regrown_of (HP2.out (Sort.grow (redrawn wA d) os) (below_regrown wA d os))
  have z6 : ∀ d os, _ := fun d os => Calls.regrown_of (HR2'.out (Sort.grow (redrawn wA d) os) (below_regrown wA d os))
  clear hx0 hsl2 hrl HP0 HR0' HP1 HR1' HP2 HR2' HQA HOX HGX hgR
  have e1 : ∀ b : Bool, (b == b) = true := fun b => by cases b <;> rfl
  refine wp_region_quiet_below (by kernel_rfl) (by kernel_rfl) ?_
  repeat (go_big_quiet_step (with_reducible first | exact z0 _ _ | exact z1 _ _ | exact z2 _ _ | exact z3 _ _ | exact z4 _ _ | exact z5 _ _ | exact z6 _ _))
  refine wpQuiet_nil ?_
  intro _ hw'
  obtain ⟨⟨dq, osq⟩, hw''⟩ := hw'
  subst hw''
  have HBR := Lib.hid (below_next HBX.out (below_regrown wA dq osq))
  clear z0 z1 z2 z3 z4 z5 z6 y0 y1 y2
  go_wp2_with fail
  go_ret
  exact ⟨by first | rfl | simp, below_next HB0.out HBR.out⟩
theorem sallv (v0 : Value) (a1 a2 : Option Addr) (c1 c2 : Nat) (n0 : Nm) (l1 : List Gn) (zs : List Int) (w : World) (h0 : NameV w v0 n0) (hb0 : NameOk n0) (h1 : GLies w a1 l1) (hz1 : l1.length ≤ 9223372036854775807) (hq1 : ∀ i, i < l1.length → BigG (l1.getD i noG)) (h2 : ILies w a2 zs) (hz : zs.length ≤ 9223372036854775807) (hmk : Mk w) :
    Calls Tryz.prog 4 #[v0, .slice a1 l1.length c1, .slice a2 zs.length c2] w fun e w' => e = .returned (.bool true) ∧ Below w.heap.size w w' := by
  obtain ⟨a0, c0, rfl, hc, hr⟩ := h0
  exact salllaw a0 a1 a2 c0 n0.length c1 l1.length c2 n0 l1 zs w hr rfl hc hb0 h1 rfl ⟨hz1, hq1⟩ h2 hz hmk
end Go.Proofs.YtjdfgalcnbnobaaGreatDoor
