/-
  The walk of the law GnameMatch: for every two general names and every slice of ints it returns true, and leaves all that was there as it was.
-/
import Derived.Test.YtkiniledfcdgjaaGreatDoorPbo
import Derived.Test.YtkiniledfcdgjaaGreatDoorPbg
import Derived.Deep.RegionHeld3
namespace Go.Proofs.YtkiniledfcdgjaaGreatDoor
open Go.RowKit

theorem own_rl2 {w : World} {B c : Nat} {a : Option Addr} {n : Nm} (h : OwnN w B (.slice a n.length c) n) : n.length ≤ c ∧ RLies w a n := by
  obtain ⟨a', c', e, hc, hr⟩ := h.lies
  obtain ⟨rfl, rfl⟩ : a = a' ∧ c = c' := by simpa using e
  exact ⟨hc, hr⟩
/-- A general name in a box, and what is behind it. -/
def GBox (w : World) (g : Nat) (k : Int) (t : List UInt8) (a : Option Addr) (m c : Nat) (n : Nm) : Prop :=
  (w.cell? ⟨g, 0, none⟩ = some (.int .i64 k) ∧ w.cell? ⟨g, 1, none⟩ = some (.string (strOf t)) ∧ w.cell? ⟨g, 2, none⟩ = some (.slice a m c)) ∧ m = n.length ∧ m ≤ c ∧ RLies w a n ∧ t.length ≤ 100000 ∧ SmallN n
theorem GBox.below {w w' : World} {g : Nat} {k : Int} {t : List UInt8} {a : Option Addr} {m c : Nat} {n : Nm} (h : GBox w g k t a m c n) (hb : Below w.heap.size w w') : GBox w' g k t a m c n :=
  ⟨⟨(hb.cell (block_lt h.1.1)).trans h.1.1, (hb.cell (block_lt h.1.2.1)).trans h.1.2.1, (hb.cell (block_lt h.1.2.2)).trans h.1.2.2⟩, h.2.1, h.2.2.1, h.2.2.2.1.below hb, h.2.2.2.2⟩
/-- What is behind a general name, wherever it lies. -/
def GBeh (w : World) (t : List UInt8) (a : Option Addr) (m c : Nat) (n : Nm) : Prop := m = n.length ∧ m ≤ c ∧ RLies w a n ∧ t.length ≤ 100000 ∧ SmallN n
theorem GBeh.below {w w' : World} {t : List UInt8} {a : Option Addr} {m c : Nat} {n : Nm} (h : GBeh w t a m c n) (hb : Below w.heap.size w w') : GBeh w' t a m c n := ⟨h.1, h.2.1, h.2.2.1.below hb, h.2.2.2⟩
theorem gbeh_own {w : World} {B L c : Nat} {t : List UInt8} {a : Option Addr} {n : Nm} (h : OwnN w B (.slice a L c) n) (hL : L = n.length) (ht : t.length ≤ 100000) (hs : SmallN n) : GBeh w t a L c n := by
  subst hL; exact ⟨rfl, (own_rl2 h).1, (own_rl2 h).2, ht, hs⟩
theorem box_three (x : World) (A B C : Array Value) (T : TypeId) : (((x.alloc (.cells A T)).alloc (.cells B T)).alloc (.cells C T)).heap[x.heap.size]? = some (.cells A T (0, 0)) ∧ (((x.alloc (.cells A T)).alloc (.cells B T)).alloc (.cells C T)).heap[x.heap.size + 1]? = some (.cells B T (0, 0)) ∧
    (((x.alloc (.cells A T)).alloc (.cells B T)).alloc (.cells C T)).heap[x.heap.size + 2]? = some (.cells C T (0, 0)) ∧ Below x.heap.size x (((x.alloc (.cells A T)).alloc (.cells B T)).alloc (.cells C T)) := by
  have e1 : (x.alloc (.cells A T)).heap.size = x.heap.size + 1 := by simp
  have e2 : ((x.alloc (.cells A T)).alloc (.cells B T)).heap.size = x.heap.size + 2 := by simp
  have h3 := heap_alloc_new ((x.alloc (.cells A T)).alloc (.cells B T)) (.cells C T)
  have h2 := heap_alloc_new (x.alloc (.cells A T)) (.cells B T)
  have h1 := heap_alloc_new x (.cells A T)
  have b3 := belowNew ((x.alloc (.cells A T)).alloc (.cells B T)) (.cells C T)
  have b2 := belowNew (x.alloc (.cells A T)) (.cells B T)
  rw [e2] at h3
  rw [e1] at h2
  exact ⟨(b3.block _ (by omega)).trans ((b2.block _ (by omega)).trans h1), (b3.block _ (by omega)).trans h2, h3, below_next (belowNew x _) (below_next b2 b3)⟩

set_option maxRecDepth 100000 in
set_option maxHeartbeats 16000000 in
theorem gmatlaw (hPE : PEnc) (hPM : PMatch) (hPS : PSame) (hPW : PWithin) (a0 : Option Addr) (c m : Nat) (k : Int) (t : List UInt8) (n : Nm) (b0 : Option Addr) (d o : Nat) (l : Int) (u : List UInt8) (s : Nm) (a : Option Addr) (cap : Nat) (zs : List Int) (w : World)
    (h1 : RLies w a0 n) (hn1 : m = n.length) (hc1 : m ≤ c) (hq1 : BigG (k, t, n)) (h2 : RLies w b0 s) (hn2 : o = s.length) (hc2 : o ≤ d) (hq2 : BigG (l, u, s)) (hl : ILies w a zs) (hz : zs.length ≤ 9223372036854775807) (hT : Tab w) (hm : Mk w) :
    Calls Tryz.prog 4 #[.agg #[.int .i64 k, .string (strOf t), .slice a0 m c], .agg #[.int .i64 l, .string (strOf u), .slice b0 o d], .slice a zs.length cap] w fun e w' => e = .returned (.bool true) ∧ Below w.heap.size w w' := by
  obtain ⟨W0, hW0⟩ : ∃ W0, W0 = (w.alloc (.cells #[.int .i64 k, .string (strOf t), .slice a0 m c] 26)).alloc (.cells #[.int .i64 l, .string (strOf u), .slice b0 o d] 26) := ⟨_, rfl⟩
  have hwr : (w.alloc (.cells #[.int .i64 k, .string (strOf t), .slice a0 m c] 26)).alloc (.cells #[.int .i64 l, .string (strOf u), .slice b0 o d] 26) = W0 := hW0.symm
  have hb0 : Below w.heap.size w W0 := by rw [hW0]; exact belowTwo w _ _
  obtain ⟨c0, c1, c2, d0, d1, d2, l1⟩ := box_two w (.int .i64 k) (.string (strOf t)) (.slice a0 m c) (.int .i64 l) (.string (strOf u)) (.slice b0 o d) 26
  rw [← hW0] at c0 c1 c2 d0 d1 d2 l1
  have HB0 := Lib.hid hb0
  have HS1 := Lib.hid (shortG_core a0 c m k t n W0 (h1.below hb0) hn1 hc1 hq1)
  have HS2 := Lib.hid (fun V (hb : Below w.heap.size w V) => shortG_core b0 d o l u s V (h2.below hb) hn2 hc2 hq2)
  have HR1 := Lib.hid (fun V (hb : Below w.heap.size w V) => h1.below hb)
  have HR2 := Lib.hid (fun V (hb : Below w.heap.size w V) => h2.below hb)
  have HAW := Lib.hid (fun V (hb : Below w.heap.size w V) => gawake_any hPE hPM V (hT.below hb) (hm.below hb))
  have HMX := Lib.hid (fun V (hb : Below w.heap.size w V) => hm.below hb)
  have HNW := Lib.hid (fun V (hb : Below w.heap.size w V) => new_any a cap zs V (hl.below hb (fun x hx hne => by
    rcases hl with h | ⟨b, o, rfl, h⟩
    · exact absurd h hne
    · obtain rfl := Option.some.inj hx
      cases zs with
      | nil => exact absurd rfl hne
      | cons z t => exact block_lt (h 0 (by simp)))) hz)
  have HN := Lib.hid (And.intro (And.intro hn1 hc1) (And.intro hn2 hc2))
  have HPS := Lib.hid hPS
  have HPM := Lib.hid hPM
  have HPW := Lib.hid hPW
  clear h1 hn1 hc1 hq1 h2 hn2 hc2 hq2 hl hz hT hm hW0 hb0 hPE hPM hPS hPW
  go_enter Tryz.func4, Tryz.ntmps4
  go_wp2_with fail
  refine HS1.out.mono ?_
  rintro e w1 ⟨hS, hb1⟩
  have HB1 := Lib.hid (below_next HB0.out hb1)
  have HX1 := Lib.hid (And.intro (And.intro ((hb1.cell (p := ⟨w.heap.size, 0, none⟩) (show w.heap.size < W0.heap.size by omega)).trans c0) (And.intro ((hb1.cell (p := ⟨w.heap.size, 1, none⟩) (show w.heap.size < W0.heap.size by omega)).trans c1) ((hb1.cell (p := ⟨w.heap.size, 2, none⟩) (show w.heap.size < W0.heap.size by omega)).trans c2))) (And.intro ((hb1.cell (p := ⟨w.heap.size + 1, 0, none⟩) l1).trans d0) (And.intro ((hb1.cell (p := ⟨w.heap.size + 1, 1, none⟩) l1).trans d1) ((hb1.cell (p := ⟨w.heap.size + 1, 2, none⟩) l1).trans d2))))
  clear hb1 c0 c1 c2 d0 d1 d2 l1 hwr HS1
  rcases hS with ⟨rfl, hS⟩ | rfl
  case inr =>
    go_wp2_with (go_at_call 7; (with_reducible refine (HAW.out _ HB1.out).mono ?_); rintro e w2 ⟨rfl, hb2⟩; have HB2 := Lib.hid (below_next HB1.out hb2); clear hb2)
    go_ret
    exact ⟨rfl, HB2.out⟩
  have HSH1 := Lib.hid hS
  clear hS
  obtain ⟨⟨c0, c1, c2⟩, d0, d1, d2⟩ := HX1.out
  go_wp2_with fail
  refine (HS2.out w1 HB1.out).mono ?_
  rintro e w2 ⟨hS, hb2⟩
  have HB2 := Lib.hid (below_next HB1.out hb2)
  have HX2 := Lib.hid (And.intro (And.intro ((hb2.cell (block_lt c0)).trans c0) (And.intro ((hb2.cell (block_lt c1)).trans c1) ((hb2.cell (block_lt c2)).trans c2))) (And.intro ((hb2.cell (block_lt d0)).trans d0) (And.intro ((hb2.cell (block_lt d1)).trans d1) ((hb2.cell (block_lt d2)).trans d2))))
  have hw2 : w.heap.size + 1 < w2.heap.size := Nat.lt_of_lt_of_le (block_lt d0) hb2.size
  clear hb2 c0 c1 c2 d0 d1 d2 HS2 HX1
  rcases hS with ⟨rfl, hS⟩ | rfl
  case inr =>
    go_wp2_with (go_at_call 7; (with_reducible refine (HAW.out _ HB2.out).mono ?_); rintro e w3 ⟨rfl, hb3⟩; have HB3 := Lib.hid (below_next HB2.out hb3); clear hb3)
    go_ret
    exact ⟨rfl, HB3.out⟩
  have HSH2 := Lib.hid hS
  clear hS
  have HNW2 := Lib.hid (HNW.out w2 HB2.out)
  go_upto_region 4 with (go_at_call 9; (with_reducible refine HNW2.out.mono ?_); rintro e w3 ⟨rfl, hd3, hb3⟩; have HD3 := Lib.hid hd3; have HB3 := Lib.hid hb3; clear hd3 hb3)
  obtain ⟨p, hp⟩ : ∃ p, p = w2.heap.size := ⟨_, rfl⟩
  have HP := Lib.hid hp
  rw [← hp] at HD3 ⊢
  have hp0 : w.heap.size + 1 < p := by rw [hp]; exact hw2
  have HB23 := Lib.hid (show Below p w2 w3 by rw [hp]; exact HB3.out)
  have HX3 := Lib.hid (show (w3.cell? ⟨w.heap.size, 0, none⟩ = some (.int .i64 k) ∧ w3.cell? ⟨w.heap.size, 1, none⟩ = some (.string (strOf t)) ∧ w3.cell? ⟨w.heap.size, 2, none⟩ = some (.slice a0 m c)) ∧ w3.cell? ⟨w.heap.size + 1, 0, none⟩ = some (.int .i64 l) ∧ w3.cell? ⟨w.heap.size + 1, 1, none⟩ = some (.string (strOf u)) ∧ w3.cell? ⟨w.heap.size + 1, 2, none⟩ = some (.slice b0 o d) by
    obtain ⟨⟨q0, q1, q2⟩, r0, r1, r2⟩ := HX2.out
    have hb := HB3.out
    exact ⟨⟨(hb.cell (block_lt q0)).trans q0, (hb.cell (block_lt q1)).trans q1, (hb.cell (block_lt q2)).trans q2⟩, (hb.cell (block_lt r0)).trans r0, (hb.cell (block_lt r1)).trans r1, (hb.cell (block_lt r2)).trans r2⟩)
  have HN3 := Lib.hid (general_any p a cap zs 0 w3 HD3.out (by omega))
  clear hp HNW HNW2 HX2 hw2 HB3
  go_upto_region 5 with (first
    | (go_at_call 14; (with_reducible refine HN3.out.mono ?_); rintro e w4 ⟨k1, t1, sq, n1, j4, hG, rfl, hso, hd4, hk4, hb4⟩; obtain ⟨a1, e1, rfl, hcs, _⟩ := hso.lies; clear hcs; have HG1 := Lib.hid (gen_len hG); have HO1 := Lib.hid (hso.base (Nat.le_of_lt HD3.out.lt)); have HD4 := Lib.hid hd4; have HK4 := Lib.hid hk4; have HB4 := Lib.hid hb4; have HN4 := Lib.hid (general_any p a cap zs j4 w4 hd4 (by omega)); clear hG hso hd4 hk4 hb4)
    | (go_at_call 14; (with_reducible refine HN4.out.mono ?_); rintro e w5 ⟨k2, t2, sq, n2, j5, hG, rfl, hso, hd5, hk5, hb5⟩; obtain ⟨a2, e2, rfl, hcs, _⟩ := hso.lies; clear hcs; have HG2 := Lib.hid (gen_len hG); have HO2 := Lib.hid (hso.base (Nat.le_of_lt HD4.out.lt)); have HO1' := Lib.hid (HO1.out.apart HD4.out.1 (by decide) (by decide) hb5); have HD5 := Lib.hid hd5; have HK5 := Lib.hid (show j5 ≤ 24 by have := HK4.out; omega); have HB5 := Lib.hid (HB4.out.next hb5); have HN5 := Lib.hid (base_any_g p a cap zs j5 w5 hd5 (by have := HK4.out; omega)); clear hG hso hd5 hk5 hb5)
    | (go_at_call 15; (with_reducible refine HN5.out.mono ?_); rintro e w6 ⟨k3, t3, sq, n3, j6, hG, rfl, hso, hd6, hk6, hb6⟩; obtain ⟨a3, e3, rfl, hcs, _⟩ := hso.lies; clear hcs; have HG3 := Lib.hid (bse_len hG); have HO3 := Lib.hid (hso.base (Nat.le_of_lt HD5.out.lt)); have HO2' := Lib.hid (HO2.out.apart HD5.out.1 (by decide) (by decide) hb6); have HO1'' := Lib.hid (HO1'.out.apart HD5.out.1 (by decide) (by decide) hb6); have HD6 := Lib.hid hd6; have HK6 := Lib.hid (show j6 ≤ 36 by have := HK5.out; omega); have HB6 := Lib.hid (HB5.out.next hb6); clear hG hso hd6 hk6 hb6))
  obtain ⟨y1, y2, y3, hb7⟩ := box_three w6 #[.int .i64 k1, .string (strOf t1), .slice a1 n1.length e1] #[.int .i64 k2, .string (strOf t2), .slice a2 n2.length e2] #[.int .i64 k3, .string (strOf t3), .slice a3 n3.length e3] 26
  obtain ⟨W7, hW7⟩ : ∃ W7, W7 = ((w6.alloc (.cells #[.int .i64 k1, .string (strOf t1), .slice a1 n1.length e1] 26)).alloc (.cells #[.int .i64 k2, .string (strOf t2), .slice a2 n2.length e2] 26)).alloc (.cells #[.int .i64 k3, .string (strOf t3), .slice a3 n3.length e3] 26) := ⟨_, rfl⟩
  rw [← hW7] at y1 y2 y3 hb7 ⊢
  obtain ⟨g, hg⟩ : ∃ g, g = w6.heap.size := ⟨_, rfl⟩
  have hpg : p < g := by rw [hg]; exact HD6.out.lt
  rw [← hg] at y1 y2 y3 ⊢
  have HY := Lib.hid (And.intro y1 (And.intro y2 y3))
  have HB7 := Lib.hid (show But p w3 W7 from HB6.out.next (But.of hb7))
  have HU1 := Lib.hid (HO1''.out.below hb7)
  have HU2 := Lib.hid (HO2'.out.below hb7)
  have HU3 := Lib.hid (HO3.out.below hb7)
  have HD7 := Lib.hid (HD6.out.below hb7)
  clear y1 y2 y3 hb7 hW7 hg HO1 HO1' HO1'' HO2 HO2' HO3 HD4 HD5 HD6 HB4 HB5 HB6 HN3 HN4 HN5 HK4 HK5
  have HSM := Lib.hid (some_any p a cap zs j6 W7 HD7.out (by have := HK6.out; omega))
  go_upto_region 6 with (go_at_call 8; (with_reducible refine HSM.out.mono ?_); rintro e w8 ⟨k4, t4, sq, n4, j8, hu4, hm4, rfl, hso, hd8, hk8, hb8⟩; obtain ⟨a4, e4, rfl, hcs, _⟩ := hso.lies; clear hcs; have HG4 := Lib.hid (And.intro hu4 hm4); have HO4 := Lib.hid (hso.base (Nat.le_of_lt HD7.out.lt)); have HD8 := Lib.hid hd8; have HK8 := Lib.hid (show j8 ≤ 100 by have := HK6.out; omega); have HB8 := Lib.hid hb8; clear hu4 hm4 hso hd8 hk8 hb8)
  obtain ⟨V, hV⟩ : ∃ V, V = w8.alloc (.cells #[.int .i64 k4, .string (strOf t4), .slice a4 n4.length e4] 26) := ⟨_, rfl⟩
  obtain ⟨g4, hg4⟩ : ∃ g4, g4 = w8.heap.size := ⟨_, rfl⟩
  have hbV : Below w8.heap.size w8 V := by rw [hV]; exact belowNew w8 _
  have hq4 : V.heap[g4]? = some (.cells #[.int .i64 k4, .string (strOf t4), .slice a4 n4.length e4] 26 (0, 0)) := by rw [hV, hg4]; exact heap_alloc_new w8 _
  have hpg4 : p < g4 := by rw [hg4]; exact HD8.out.lt
  rw [← hV, ← hg4]
  have HDV := Lib.hid (HD8.out.below hbV)
  have hB7V : But p W7 V := HB8.out.next (But.of hbV)
  have hB3V : But p w3 V := HB7.out.next hB7V
  have HBV := Lib.hid hB3V
  have HBW := Lib.hid (show Below w.heap.size w V from below_next HB2.out (by
    have h := HB23.out.trans (hB3V.below (Nat.le_of_lt HD3.out.lt))
    rw [HP.out] at h
    exact h))
  have G0 : GBox V w.heap.size k t a0 m c n := by
    obtain ⟨⟨q0, q1, q2⟩, r0, r1, r2⟩ := HX3.out
    have hk := hB3V.block w.heap.size (block_lt q0) (by simp; omega)
    exact ⟨⟨(cell_same hk 0).trans q0, (cell_same hk 1).trans q1, (cell_same hk 2).trans q2⟩, HN.out.1.1, HN.out.1.2, HR1.out V HBW.out, Nat.le_trans HSH1.out.1 (by omega), HSH1.out.small⟩
  have G1 : GBox V (w.heap.size + 1) l u b0 o d s := by
    obtain ⟨⟨q0, q1, q2⟩, r0, r1, r2⟩ := HX3.out
    have hk := hB3V.block (w.heap.size + 1) (block_lt r0) (by simp; omega)
    exact ⟨⟨(cell_same hk 0).trans r0, (cell_same hk 1).trans r1, (cell_same hk 2).trans r2⟩, HN.out.2.1, HN.out.2.2, HR2.out V HBW.out, Nat.le_trans HSH2.out.1 (by omega), HSH2.out.small⟩
  have G2 : GBox V (g) k1 t1 a1 n1.length e1 n1 := by
    have hy := HY.out.1
    obtain ⟨q0, q1, q2, _⟩ := three_facts ((hB7V.block _ (Array.getElem?_eq_some_iff.1 hy).1 (by simp; omega)).trans hy)
    have ho := (HU1.out.apart HD7.out.1 (by decide) (by decide) HB8.out).below hbV
    exact ⟨⟨q0, q1, q2⟩, rfl, (own_rl2 ho).1, (own_rl2 ho).2, Nat.le_trans HG1.out.1 (by omega), madeN_small HG1.out.2⟩
  have G3 : GBox V (g + 1) k2 t2 a2 n2.length e2 n2 := by
    have hy := HY.out.2.1
    obtain ⟨q0, q1, q2, _⟩ := three_facts ((hB7V.block _ (Array.getElem?_eq_some_iff.1 hy).1 (by simp; omega)).trans hy)
    have ho := (HU2.out.apart HD7.out.1 (by decide) (by decide) HB8.out).below hbV
    exact ⟨⟨q0, q1, q2⟩, rfl, (own_rl2 ho).1, (own_rl2 ho).2, Nat.le_trans HG2.out.1 (by omega), madeN_small HG2.out.2⟩
  have G4 : GBox V (g + 2) k3 t3 a3 n3.length e3 n3 := by
    have hy := HY.out.2.2
    obtain ⟨q0, q1, q2, _⟩ := three_facts ((hB7V.block _ (Array.getElem?_eq_some_iff.1 hy).1 (by simp; omega)).trans hy)
    have ho := (HU3.out.apart HD7.out.1 (by decide) (by decide) HB8.out).below hbV
    exact ⟨⟨q0, q1, q2⟩, rfl, (own_rl2 ho).1, (own_rl2 ho).2, Nat.le_trans HG3.out.1 (by omega), madeN_small HG3.out.2⟩
  have G5 : GBox V g4 k4 t4 a4 n4.length e4 n4 := by
    obtain ⟨q0, q1, q2, _⟩ := three_facts hq4
    have ho := HO4.out.below hbV
    exact ⟨⟨q0, q1, q2⟩, rfl, (own_rl2 ho).1, (own_rl2 ho).2, Nat.le_trans HG4.out.1 (by omega), madeN_small HG4.out.2⟩
  have HQ1 := Lib.hid ((HU1.out.apart HD7.out.1 (by decide) (by decide) HB8.out).below hbV)
  have HQ2 := Lib.hid ((HU2.out.apart HD7.out.1 (by decide) (by decide) HB8.out).below hbV)
  have HQ3 := Lib.hid ((HU3.out.apart HD7.out.1 (by decide) (by decide) HB8.out).below hbV)
  have HQ4 := Lib.hid (HO4.out.below hbV)
  obtain ⟨L1, hL1⟩ : ∃ L1, L1 = n1.length := ⟨_, rfl⟩
  obtain ⟨L2, hL2⟩ : ∃ L2, L2 = n2.length := ⟨_, rfl⟩
  obtain ⟨L3, hL3⟩ : ∃ L3, L3 = n3.length := ⟨_, rfl⟩
  obtain ⟨L4, hL4⟩ : ∃ L4, L4 = n4.length := ⟨_, rfl⟩
  rw [← hL1] at G2 HQ1
  rw [← hL2] at G3 HQ2
  rw [← hL3] at G4 HQ3
  rw [← hL4] at G5 HQ4
  have HQ1L := Lib.hid hL1
  have HQ2L := Lib.hid hL2
  have HQ3L := Lib.hid hL3
  have HQ4L := Lib.hid hL4
  have HG0V := Lib.hid G0
  have HG1V := Lib.hid G1
  have HG2V := Lib.hid G2
  have HG3V := Lib.hid G3
  have HG4V := Lib.hid G4
  have HG5V := Lib.hid G5
  obtain ⟨⟨x00, x01, x02⟩, zz⟩ := G0
  clear zz
  obtain ⟨⟨x10, x11, x12⟩, zz⟩ := G1
  clear zz
  obtain ⟨⟨x20, x21, x22⟩, zz⟩ := G2
  clear zz
  obtain ⟨⟨x30, x31, x32⟩, zz⟩ := G3
  clear zz
  obtain ⟨⟨x40, x41, x42⟩, zz⟩ := G4
  clear zz
  obtain ⟨⟨x50, x51, x52⟩, zz⟩ := G5
  clear zz
  have hsz0 : w.heap.size < V.heap.size := block_lt x00
  have hpV : p < V.heap.size := HDV.out.lt
  clear hL1 hL2 hL3 hL4 hV hg4 hbV hq4 hB7V hB3V HY HU1 HU2 HU3 HB7 HO4 HD8 HB8 HD7 HG1 HG2 HG3 HG4 HSH1 HSH2 HX3 HSM HB23 HB1 HB0
  have HNB := Lib.hid (fun U (h : DeckAt U p a cap zs j8) => base_any_g p a cap zs j8 U h (by have := HK8.out; omega))
  go_cut [58, 59, 60] (fun s58 s59 s60 wx => ∃ (G : Nat), s58 = .slice (some ⟨G, 0, none⟩) 8 8 ∧ s59 = .int .i64 8 ∧ s60 = .int .i64 0 ∧ Below w.heap.size w wx ∧ ∀ i, i < 8 → ∃ (q1 : Int) (v1 : List UInt8) (b1 : Option Addr) (m1 f1 : Nat) (r1 : Nm) (q2 : Int) (v2 : List UInt8) (b2 : Option Addr) (m2 f2 : Nat) (r2 : Nm), wx.cell? ⟨G, i * 6, none⟩ = some (.int .i64 q1) ∧ wx.cell? ⟨G, i * 6 + 1, none⟩ = some (.string (strOf v1)) ∧ wx.cell? ⟨G, i * 6 + 2, none⟩ = some (.slice b1 m1 f1) ∧ wx.cell? ⟨G, i * 6 + 3, none⟩ = some (.int .i64 q2) ∧ wx.cell? ⟨G, i * 6 + 4, none⟩ = some (.string (strOf v2)) ∧ wx.cell? ⟨G, i * 6 + 5, none⟩ = some (.slice b2 m2 f2) ∧ GBeh wx v1 b1 m1 f1 r1 ∧ GBeh wx v2 b2 m2 f2 r2)
  case first =>
    go_region_held3 (fun w' => w'.cell? ⟨w.heap.size, 0, none⟩ = some (.int .i64 k) ∧ w'.cell? ⟨w.heap.size, 1, none⟩ = some (.string (strOf t)) ∧ w'.cell? ⟨w.heap.size, 2, none⟩ = some (.slice a0 m c) ∧ w'.cell? ⟨w.heap.size + 1, 0, none⟩ = some (.int .i64 l) ∧ w'.cell? ⟨w.heap.size + 1, 1, none⟩ = some (.string (strOf u)) ∧ w'.cell? ⟨w.heap.size + 1, 2, none⟩ = some (.slice b0 o d) ∧ w'.cell? ⟨g, 0, none⟩ = some (.int .i64 k1) ∧ w'.cell? ⟨g, 1, none⟩ = some (.string (strOf t1)) ∧ w'.cell? ⟨g, 2, none⟩ = some (.slice a1 L1 e1) ∧ w'.cell? ⟨g + 1, 0, none⟩ = some (.int .i64 k2) ∧ w'.cell? ⟨g + 1, 1, none⟩ = some (.string (strOf t2)) ∧ w'.cell? ⟨g + 1, 2, none⟩ = some (.slice a2 L2 e2) ∧ w'.cell? ⟨g + 2, 0, none⟩ = some (.int .i64 k3) ∧ w'.cell? ⟨g + 2, 1, none⟩ = some (.string (strOf t3)) ∧ w'.cell? ⟨g + 2, 2, none⟩ = some (.slice a3 L3 e3) ∧ w'.cell? ⟨g4, 0, none⟩ = some (.int .i64 k4) ∧ w'.cell? ⟨g4, 1, none⟩ = some (.string (strOf t4)) ∧ w'.cell? ⟨g4, 2, none⟩ = some (.slice a4 L4 e4)) (first | exact ⟨by assumption, by assumption, by assumption, by assumption, by assumption, by assumption, by assumption, by assumption, by assumption, by assumption, by assumption, by assumption, by assumption, by assumption, by assumption, by assumption, by assumption, by assumption⟩ | go_keep)
      (first | (go_at_call 15; (with_reducible refine (HNB.out _ (by first | exact HDV.out | exact deck_up HDV.out)).mono ?_); rintro e w9 ⟨k5, t5, s5, n5, j9, hG5, rfl, hso, hd9, hk9, hb9⟩; obtain ⟨a5, e5, rfl, hcs, _⟩ := hso.lies; have ho5 := own_rl2 hso; have HG5 := Lib.hid (bse_len hG5); have HO5 := Lib.hid ho5; have hbx : But p V w9 := (by first | exact hb9 | exact ((But.refl p V).drew).next hb9); have HBX := Lib.hid hbx; clear hcs hso hd9 hk9 hb9 hG5 ho5; have z00 := (cell_same (hbx.block _ (block_lt x00) (by simp; omega)) 0).trans x00; have z01 := (cell_same (hbx.block _ (block_lt x01) (by simp; omega)) 1).trans x01; have z02 := (cell_same (hbx.block _ (block_lt x02) (by simp; omega)) 2).trans x02; have z10 := (cell_same (hbx.block _ (block_lt x10) (by simp; omega)) 0).trans x10; have z11 := (cell_same (hbx.block _ (block_lt x11) (by simp; omega)) 1).trans x11; have z12 := (cell_same (hbx.block _ (block_lt x12) (by simp; omega)) 2).trans x12; have z20 := (cell_same (hbx.block _ (block_lt x20) (by simp; omega)) 0).trans x20; have z21 := (cell_same (hbx.block _ (block_lt x21) (by simp; omega)) 1).trans x21; have z22 := (cell_same (hbx.block _ (block_lt x22) (by simp; omega)) 2).trans x22; have z30 := (cell_same (hbx.block _ (block_lt x30) (by simp; omega)) 0).trans x30; have z31 := (cell_same (hbx.block _ (block_lt x31) (by simp; omega)) 1).trans x31; have z32 := (cell_same (hbx.block _ (block_lt x32) (by simp; omega)) 2).trans x32; have z40 := (cell_same (hbx.block _ (block_lt x40) (by simp; omega)) 0).trans x40; have z41 := (cell_same (hbx.block _ (block_lt x41) (by simp; omega)) 1).trans x41; have z42 := (cell_same (hbx.block _ (block_lt x42) (by simp; omega)) 2).trans x42; have z50 := (cell_same (hbx.block _ (block_lt x50) (by simp; omega)) 0).trans x50; have z51 := (cell_same (hbx.block _ (block_lt x51) (by simp; omega)) 1).trans x51; have z52 := (cell_same (hbx.block _ (block_lt x52) (by simp; omega)) 2).trans x52; obtain ⟨L5, hL5⟩ : ∃ L5, L5 = n5.length := ⟨_, rfl⟩; rw [← hL5] at HO5 ⊢; have HL5 := Lib.hid hL5; clear hL5 hbx))
    all_goals go_wp2_with fail
    all_goals go_meet
    all_goals skip
    all_goals
      obtain ⟨W9, hW9⟩ : ∃ W9, W9 = w9.alloc (.cells #[.int .i64 k, .string (strOf t), .slice a0 m c, .int .i64 l, .string (strOf u), .slice b0 o d, .int .i64 k1, .string (strOf t1), .slice a1 L1 e1, .int .i64 k2, .string (strOf t2), .slice a2 L2 e2, .int .i64 k1, .string (strOf t1), .slice a1 L1 e1, .int .i64 k1, .string (strOf t1), .slice a1 L1 e1, .int .i64 k1, .string (strOf t1), .slice a1 L1 e1, .int .i64 k3, .string (strOf t3), .slice a3 L3 e3, .int .i64 k3, .string (strOf t3), .slice a3 L3 e3, .int .i64 k5, .string (strOf t5), .slice a5 L5 e5, .int .i64 k4, .string (strOf t4), .slice a4 L4 e4, .int .i64 k1, .string (strOf t1), .slice a1 L1 e1, .int .i64 k1, .string (strOf t1), .slice a1 L1 e1, .int .i64 k4, .string (strOf t4), .slice a4 L4 e4, .int .i64 k, .string (strOf t), .slice a0 m c, .int .i64 k4, .string (strOf t4), .slice a4 L4 e4] 40) := ⟨_, rfl⟩
      have hb9 : Below w9.heap.size w9 W9 := by rw [hW9]; exact belowNew w9 _
      have hc : ∀ j, W9.cell? ⟨w9.heap.size, j, none⟩ = (#[.int .i64 k, .string (strOf t), .slice a0 m c, .int .i64 l, .string (strOf u), .slice b0 o d, .int .i64 k1, .string (strOf t1), .slice a1 L1 e1, .int .i64 k2, .string (strOf t2), .slice a2 L2 e2, .int .i64 k1, .string (strOf t1), .slice a1 L1 e1, .int .i64 k1, .string (strOf t1), .slice a1 L1 e1, .int .i64 k1, .string (strOf t1), .slice a1 L1 e1, .int .i64 k3, .string (strOf t3), .slice a3 L3 e3, .int .i64 k3, .string (strOf t3), .slice a3 L3 e3, .int .i64 k5, .string (strOf t5), .slice a5 L5 e5, .int .i64 k4, .string (strOf t4), .slice a4 L4 e4, .int .i64 k1, .string (strOf t1), .slice a1 L1 e1, .int .i64 k1, .string (strOf t1), .slice a1 L1 e1, .int .i64 k4, .string (strOf t4), .slice a4 L4 e4, .int .i64 k, .string (strOf t), .slice a0 m c, .int .i64 k4, .string (strOf t4), .slice a4 L4 e4] : Array Value)[j]? := fun j => by
        rw [hW9]
        exact cell_of_row _ _ j _ _ _ (heap_alloc_new w9 _)
      have hw9 : Below w.heap.size w w9 := HBW.out.trans ((HBX.out.below (Nat.le_of_lt hpV)).mono (by omega))
      have f0 : GBeh W9 t a0 m c n := (show GBeh w9 t a0 m c n from ⟨HG0V.out.2.1, HG0V.out.2.2.1, HR1.out _ hw9, HG0V.out.2.2.2.2⟩).below hb9
      have f1 : GBeh W9 u b0 o d s := (show GBeh w9 u b0 o d s from ⟨HG1V.out.2.1, HG1V.out.2.2.1, HR2.out _ hw9, HG1V.out.2.2.2.2⟩).below hb9
      have f2 : GBeh W9 t1 a1 L1 e1 n1 := (gbeh_own (HQ1.out.apart HDV.out.1 (by decide) (by decide) HBX.out) HQ1L.out HG2V.out.2.2.2.2.1 HG2V.out.2.2.2.2.2).below hb9
      have f3 : GBeh W9 t2 a2 L2 e2 n2 := (gbeh_own (HQ2.out.apart HDV.out.1 (by decide) (by decide) HBX.out) HQ2L.out HG3V.out.2.2.2.2.1 HG3V.out.2.2.2.2.2).below hb9
      have f4 : GBeh W9 t3 a3 L3 e3 n3 := (gbeh_own (HQ3.out.apart HDV.out.1 (by decide) (by decide) HBX.out) HQ3L.out HG4V.out.2.2.2.2.1 HG4V.out.2.2.2.2.2).below hb9
      have f5 : GBeh W9 t4 a4 L4 e4 n4 := (gbeh_own (HQ4.out.apart HDV.out.1 (by decide) (by decide) HBX.out) HQ4L.out HG5V.out.2.2.2.2.1 HG5V.out.2.2.2.2.2).below hb9
      have f6 : GBeh W9 t5 a5 L5 e5 n5 := (show GBeh w9 t5 a5 L5 e5 n5 from ⟨HL5.out, HO5.out.1, HO5.out.2, Nat.le_trans HG5.out.1 (by omega), madeN_small HG5.out.2⟩).below hb9
      refine ⟨w9.heap.size, rfl, rfl, rfl, by rw [← hW9]; exact below_next hw9 hb9, fun i hi => ?_⟩
      rw [← hW9]
      rcases (by omega : i = 0 ∨ i = 1 ∨ i = 2 ∨ i = 3 ∨ i = 4 ∨ i = 5 ∨ i = 6 ∨ i = 7) with rfl | rfl | rfl | rfl | rfl | rfl | rfl | rfl
      · exact ⟨_, _, _, _, _, _, _, _, _, _, _, _, hc 0, hc 1, hc 2, hc 3, hc 4, hc 5, f0, f1⟩
      · exact ⟨_, _, _, _, _, _, _, _, _, _, _, _, hc 6, hc 7, hc 8, hc 9, hc 10, hc 11, f2, f3⟩
      · exact ⟨_, _, _, _, _, _, _, _, _, _, _, _, hc 12, hc 13, hc 14, hc 15, hc 16, hc 17, f2, f2⟩
      · exact ⟨_, _, _, _, _, _, _, _, _, _, _, _, hc 18, hc 19, hc 20, hc 21, hc 22, hc 23, f2, f4⟩
      · exact ⟨_, _, _, _, _, _, _, _, _, _, _, _, hc 24, hc 25, hc 26, hc 27, hc 28, hc 29, f4, f6⟩
      · exact ⟨_, _, _, _, _, _, _, _, _, _, _, _, hc 30, hc 31, hc 32, hc 33, hc 34, hc 35, f5, f2⟩
      · exact ⟨_, _, _, _, _, _, _, _, _, _, _, _, hc 36, hc 37, hc 38, hc 39, hc 40, hc 41, f2, f5⟩
      · exact ⟨_, _, _, _, _, _, _, _, _, _, _, _, hc 42, hc 43, hc 44, hc 45, hc 46, hc 47, f0, f5⟩
  case rest =>
    obtain ⟨G, rfl, rfl, rfl, hbw, hrow⟩ := hcut
    have HROW := Lib.hid hrow
    have HBWC := Lib.hid hbw
    obtain ⟨U, hU⟩ : ∃ U, U = wc := ⟨_, rfl⟩
    subst hU
    clear hrow hbw x00 x01 x02 x10 x11 x12 x20 x21 x22 x30 x31 x32 x40 x41 x42 x50 x51 x52 HG0V HG1V HG2V HG3V HG4V HG5V HQ1 HQ2 HQ3 HQ4 HQ1L HQ2L HQ3L HQ4L HNB HDV HBV HBW HR1 HR2 HN HD3 hpg hpg4 hp0 hsz0 hpV HK6 HK8 HP HB2
    go_wp2_with fail
    go_loopw [60] (fun i wr => ∃ j : Nat, j ≤ 8 ∧ i = .int .i64 (j : Int) ∧ Below U.heap.size U wr) (fun i _ => 8 - (intOf i).toNat)
    case atStart => exact ⟨0, Nat.zero_le _, rfl, Below.refl _ _⟩
    case round =>
      obtain ⟨wz, hwz⟩ : ∃ wz, wz = wr := ⟨_, rfl⟩
      subst hwz
      obtain ⟨j, hj, rfl, hb⟩ := hrel
      have HBJ := Lib.hid hb
      clear hb
      by_cases hlt : j < 8
      · have hd : decide ((j : Int) < 8) = true := decide_eq_true (by omega)
        obtain ⟨q1, v1, b1, m1, f1, r1, q2, v2, b2, m2, f2, r2, y0, y1, y2, y3, y4, y5, hA, hB⟩ := HROW.out j hlt
        have z0 := (HBJ.out.cell (block_lt y0)).trans y0
        have z1 := (HBJ.out.cell (block_lt y1)).trans y1
        have z2 := (HBJ.out.cell (block_lt y2)).trans y2
        have z3 := (HBJ.out.cell (block_lt y3)).trans y3
        have z4 := (HBJ.out.cell (block_lt y4)).trans y4
        have z5 := (HBJ.out.cell (block_lt y5)).trans y5
        have HA := Lib.hid (hA.below HBJ.out)
        have HB := Lib.hid (hB.below HBJ.out)
        have HJ := Lib.hid hlt
        clear y0 y1 y2 y3 y4 y5 hA hB hj
        obtain ⟨W2, hW2⟩ : ∃ W2, W2 = wz.alloc (.cells #[.int .i64 q1, .string (strOf v1), .slice b1 m1 f1, .int .i64 q2, .string (strOf v2), .slice b2 m2 f2] 40) := ⟨_, rfl⟩
        have hb2 : Below wz.heap.size wz W2 := by rw [hW2]; exact belowNew wz _
        have hq2 : ∀ j, W2.cell? ⟨wz.heap.size, j, none⟩ = (#[.int .i64 q1, .string (strOf v1), .slice b1 m1 f1, .int .i64 q2, .string (strOf v2), .slice b2 m2 f2] : Array Value)[j]? := fun j => by
          rw [hW2]
          exact cell_of_row _ _ j _ _ _ (heap_alloc_new wz _)
        have k0 : W2.cell? ⟨wz.heap.size, 0, none⟩ = some (.int .i64 q1) := hq2 0
        have k1 : W2.cell? ⟨wz.heap.size, 1, none⟩ = some (.string (strOf v1)) := hq2 1
        have k2 : W2.cell? ⟨wz.heap.size, 2, none⟩ = some (.slice b1 m1 f1) := hq2 2
        have k3 : W2.cell? ⟨wz.heap.size, 3, none⟩ = some (.int .i64 q2) := hq2 3
        have k4 : W2.cell? ⟨wz.heap.size, 4, none⟩ = some (.string (strOf v2)) := hq2 4
        have k5 : W2.cell? ⟨wz.heap.size, 5, none⟩ = some (.slice b2 m2 f2) := hq2 5
        have HWE := hW2.symm
        have HB2 := Lib.hid hb2
        have HBU := Lib.hid (HBJ.out.trans (hb2.mono HBJ.out.size))
        have HBK := Lib.hid (below_next HBWC.out HBU.out)
        clear hW2 hb2 hq2
        go_upto_region 9 with (fail)
        try rw [HWE]
        obtain ⟨E1, hE1⟩ : ∃ E1, E1 = sameG q1 v1 r1 q2 v2 r2 := ⟨_, rfl⟩
        obtain ⟨E2, hE2⟩ : ∃ E2, E2 = matchG q1 v1 r1 q2 v2 r2 := ⟨_, rfl⟩
        obtain ⟨E3, hE3⟩ : ∃ E3, E3 = withinG q1 v1 r1 q2 v2 r2 := ⟨_, rfl⟩
        have HBR := Lib.hid (fun d os => below_regrown W2 d os)
        have HA2 := Lib.hid (HA.out.below HB2.out)
        have HB2' := Lib.hid (HB.out.below HB2.out)
        have g1 : ∀ d os, _ := fun d os => Calls.regrown_of (HPS.out b1 b2 f1 f2 m1 m2 q1 q2 v1 v2 r1 r2 (Sort.grow (redrawn W2 d) os) (HA2.out.2.2.1.below (HBR.out d os)) (HB2'.out.2.2.1.below (HBR.out d os)) HA2.out.1 HB2'.out.1 HA2.out.2.1 HA2.out.2.2.2.1 HB2'.out.2.2.2.1 HA2.out.2.2.2.2 HB2'.out.2.2.2.2 (HMX.out _ (below_next HBK.out (HBR.out d os))))
        have g2 : ∀ d os, _ := fun d os => Calls.regrown_of (rsameG_core b1 b2 f1 f2 m1 m2 q1 q2 v1 v2 r1 r2 (Sort.grow (redrawn W2 d) os) (HA2.out.2.2.1.below (HBR.out d os)) (HB2'.out.2.2.1.below (HBR.out d os)) HA2.out.1 HB2'.out.1 HA2.out.2.2.2.1 HB2'.out.2.2.2.1 HA2.out.2.2.2.2 HB2'.out.2.2.2.2)
        have g3 : ∀ d os, _ := fun d os => Calls.regrown_of (HPM.out b1 b2 f1 f2 m1 m2 q1 q2 v1 v2 r1 r2 (Sort.grow (redrawn W2 d) os) (HA2.out.2.2.1.below (HBR.out d os)) (HB2'.out.2.2.1.below (HBR.out d os)) HA2.out.1 HB2'.out.1 HA2.out.2.1 HA2.out.2.2.2.1 HB2'.out.2.2.2.1 HA2.out.2.2.2.2 HB2'.out.2.2.2.2 (HMX.out _ (below_next HBK.out (HBR.out d os))))
        have g4 : ∀ d os, _ := fun d os => Calls.regrown_of (rmatchG_core b1 b2 f1 f2 m1 m2 q1 q2 v1 v2 r1 r2 (Sort.grow (redrawn W2 d) os) (HA2.out.2.2.1.below (HBR.out d os)) (HB2'.out.2.2.1.below (HBR.out d os)) HA2.out.1 HB2'.out.1 HA2.out.2.2.2.1 HB2'.out.2.2.2.1 HA2.out.2.2.2.2 HB2'.out.2.2.2.2)
        have g5 : ∀ d os, _ := fun d os => Calls.regrown_of (HPW.out b1 b2 f1 f2 m1 m2 q1 q2 v1 v2 r1 r2 (Sort.grow (redrawn W2 d) os) (HA2.out.2.2.1.below (HBR.out d os)) (HB2'.out.2.2.1.below (HBR.out d os)) HA2.out.1 HB2'.out.1 HA2.out.2.1 HA2.out.2.2.2.1 HB2'.out.2.2.2.1 HA2.out.2.2.2.2 HB2'.out.2.2.2.2 (HMX.out _ (below_next HBK.out (HBR.out d os))))
        have g6 : ∀ d os, _ := fun d os => Calls.regrown_of (rwithinG_core b1 b2 f1 f2 m1 m2 q1 q2 v1 v2 r1 r2 (Sort.grow (redrawn W2 d) os) (HA2.out.2.2.1.below (HBR.out d os)) (HB2'.out.2.2.1.below (HBR.out d os)) HA2.out.1 HB2'.out.1 HA2.out.2.2.2.1 HB2'.out.2.2.2.1 HA2.out.2.2.2.2 HB2'.out.2.2.2.2)
        rw [← hE1] at g1 g2
        rw [← hE2] at g3 g4
        rw [← hE3] at g5 g6
        have p0 := cell_regrown k0
        have p1 := cell_regrown k1
        have p2 := cell_regrown k2
        have p3 := cell_regrown k3
        have p4 := cell_regrown k4
        have p5 := cell_regrown k5
        clear z0 z1 z2 z3 z4 z5 k0 k1 k2 k3 k4 k5 hE1 hE2 hE3
        refine wp_region_quiet_below (by kernel_rfl) (by kernel_rfl) ?_
        repeat (go_big_quiet_step (with_reducible first | exact g1 _ _ | exact g2 _ _ | exact g3 _ _ | exact g4 _ _ | exact g5 _ _ | exact g6 _ _))
        refine wpQuiet_nil ?_
        intro _ hw'
        obtain ⟨⟨dq, osq⟩, hw''⟩ := hw'
        subst hw''
        have HZ := Lib.hid (below_next HBU.out (below_regrown W2 dq osq))
        clear p0 p1 p2 p3 p4 p5 g1 g2 g3 g4 g5 g6
        have hj8 := HJ.out
        go_wp2_with fail
        go_roundw
        case rel => exact ⟨j + 1, by have := HJ.out; omega, by go_num, HZ.out⟩
        case measure => have := HJ.out; simp [intOf]; omega
      · have ej : j = 8 := by omega
        subst ej
        have hd : decide (((8 : Nat) : Int) < 8) = false := by decide
        have HZ := Lib.hid (below_next HBWC.out HBJ.out)
        go_wp2_with (go_at_call 7; (with_reducible refine (HAW.out _ HZ.out).mono ?_); rintro e w9 ⟨rfl, hb9⟩; have HY9 := Lib.hid (below_next HZ.out hb9); clear hb9)
        go_ret
        exact ⟨rfl, HY9.out⟩
end Go.Proofs.YtkiniledfcdgjaaGreatDoor
