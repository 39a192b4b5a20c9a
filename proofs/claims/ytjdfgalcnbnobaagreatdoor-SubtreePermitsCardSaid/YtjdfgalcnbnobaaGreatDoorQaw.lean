/-
  The contracts of the reference's In, limits and Permits.
-/
import Derived.Test.YtjdfgalcnbnobaaGreatDoorQav
import Derived.Test.YtjdfgalcnbnobaaGreatDoorQas
namespace Go.Proofs.YtjdfgalcnbnobaaGreatDoor
open Go.RowKit

theorem two_facts {w : World} {g : Nat} {x y : Value} {t : TypeId} (h : w.heap[g]? = some (.cells #[x, y] t (0, 0))) :
    w.cell? ⟨g, 0, none⟩ = some x ∧ w.cell? ⟨g, 1, none⟩ = some y ∧ g < w.heap.size := by
  refine ⟨?_, ?_, (Array.getElem?_eq_some_iff.1 h).1⟩ <;> (rw [Lib.cell_of_heap h]; rfl)
theorem heap_first (w : World) (o p : Obj) : ((w.alloc o).alloc p).heap[w.heap.size]? = (w.alloc o).heap[w.heap.size]? := (belowNew (w.alloc o) p).block _ (by simp)
theorem heap_second (w : World) (o : Obj) (cs : Array Value) (T : TypeId) : ((w.alloc o).alloc (.cells cs T)).heap[w.heap.size + 1]? = some (.cells cs T (0, 0)) := by
  have := heap_alloc_new (w.alloc o) (.cells cs T)
  simpa using this
set_option maxRecDepth 100000 in
set_option maxHeartbeats 4000000 in
theorem rin_core (a0 ag : Option Addr) (c m cg N : Nat) (l : List Gn) (q : Int) (t : List UInt8) (n : Nm) (w : World) (h : GLies w a0 l) (hm : m = l.length) (hmm : m ≤ 9223372036854775807) (hg : RLies w ag n) (hN : N = n.length) (hs : SmG (q, t, n)) (hl : SmL l) :
    Calls Tryz.prog 33 #[.agg #[.int .i64 q, .string (strOf t), .slice ag N cg], .slice a0 m c] w fun e w' => e = .returned (.bool (inG (q, t, n) l)) ∧ Below w.heap.size w w' := by
  obtain ⟨W0, hW0⟩ : ∃ W0, W0 = w.alloc (.cells #[.int .i64 q, .string (strOf t), .slice ag N cg] 32) := ⟨_, rfl⟩
  have hwr := hW0.symm
  have hb0 : Below w.heap.size w W0 := by rw [hW0]; exact belowNew w _
  obtain ⟨b0, b1, b2, lb⟩ := three_facts (w := W0) (g := w.heap.size) (by rw [hW0]; exact heap_alloc_new w _)
  have HB0 := Lib.hid hb0
  have H1 := Lib.hid (h.below hb0)
  have HG := Lib.hid (hg.below hb0)
  have HN := Lib.hid hm
  have HNN := Lib.hid hN
  have HS := Lib.hid hs
  have HL := Lib.hid hl
  clear h hg hm hN hs hl hb0 hW0
  go_enter Tryz.func33, Tryz.ntmps33
  go_wp2_with fail
  clear hwr
  have P0 := Lib.hid b0
  have P1 := Lib.hid b1
  have P2 := Lib.hid b2
  clear b0 b1 b2
  go_loopw [9] (fun i wr => ∃ k : Nat, k ≤ m ∧ i = .int .i64 k ∧ inG (q, t, n) l = inG (q, t, n) (l.drop k) ∧ Below W0.heap.size W0 wr) (fun i _ => m - (intOf i).toNat)
  case atStart => exact ⟨0, Nat.zero_le _, rfl, rfl, Below.refl _ _⟩
  case round =>
    obtain ⟨wz, hwz⟩ : ∃ wz, wz = wr := ⟨_, rfl⟩
    subst hwz
    obtain ⟨k, hk, rfl, hi, hb⟩ := hrel
    have HB := Lib.hid hb
    have HI := Lib.hid hi
    clear hb hi
    by_cases hlt : k < m
    · have hd : decide ((k : Int) < (m : Int)) = true := by simp; omega
      obtain ⟨b, o, rfl, hbl, e0, e1, a1, c1, e2, hc1, hL1⟩ := H1.out.at k (by rw [← HN.out]; exact hlt)
      have f0 := (HB.out.cell (p := ⟨b, o + k * 3, none⟩) hbl).trans e0
      have f1 := (HB.out.cell (p := ⟨b, o + k * 3 + 1, none⟩) hbl).trans e1
      have f2 := (HB.out.cell (p := ⟨b, o + k * 3 + 2, none⟩) hbl).trans e2
      have hst := inG_step (q, t, n) l k (by rw [← HN.out]; exact hlt)
      have hsm := HL.out.at (i := k) (by rw [← HN.out]; exact hlt)
      clear e0 e1 e2 hbl
      generalize l.getD k noG = G at f0 f1 f2 hst hsm hL1 hc1
      obtain ⟨q2, t2, n2⟩ := G
      simp only at f0 f1 f2 hL1 hc1
      obtain ⟨N2, hN2⟩ : ∃ N2, N2 = n2.length := ⟨_, rfl⟩
      rw [← hN2] at f2
      obtain ⟨W2, hW2⟩ : ∃ W2, W2 = wz.alloc (.cells #[.int .i64 q2, .string (strOf t2), .slice a1 N2 c1] 32) := ⟨_, rfl⟩
      have hb2 : Below wz.heap.size wz W2 := by rw [hW2]; exact belowNew wz _
      obtain ⟨g0, g1, g2, lg⟩ := three_facts (w := W2) (g := wz.heap.size) (by rw [hW2]; exact heap_alloc_new wz _)
      have HB2 := Lib.hid (below_next HB.out hb2)
      have p0 := (HB2.out.cell (p := ⟨w.heap.size, 0, none⟩) lb).trans P0.out
      have p1 := (HB2.out.cell (p := ⟨w.heap.size, 1, none⟩) lb).trans P1.out
      have p2 := (HB2.out.cell (p := ⟨w.heap.size, 2, none⟩) lb).trans P2.out
      have HX := Lib.hid (rwithinG_core ag a1 cg c1 N N2 q q2 t t2 n n2 W2 (HG.out.below HB2.out) ((hL1.below HB.out).below hb2) HNN.out hN2 HS.out.1 hsm.1 HS.out.2 hsm.2)
      rw [show withinG q t n q2 t2 n2 = wG (q, t, n) (q2, t2, n2) from rfl] at HX
      have HWE := hW2.symm
      generalize wG (q, t, n) (q2, t2, n2) = E at HX hst
      have HST := Lib.hid (HI.out.trans hst)
      have HLT := Lib.hid hlt
      clear hst hsm hL1 hc1 hN2 hW2 hb2
      cases E with
      | true =>
        go_wp2_with (go_at_call 49; (with_reducible refine HX.out.mono ?_); rintro e w3 ⟨rfl, hb3⟩; have HB3 := Lib.hid (below_next HB0.out (below_next HB2.out hb3)); clear hb3)
        go_ret
        exact ⟨by rw [HST.out]; rfl, HB3.out⟩
      | false =>
        go_wp2_with (go_at_call 49; (with_reducible refine HX.out.mono ?_); rintro e w3 ⟨rfl, hb3⟩; have HB3 := Lib.hid (below_next HB2.out hb3); clear hb3)
        go_roundw
        case rel => exact ⟨k + 1, HLT.out, by go_num, by rw [HST.out]; rfl, HB3.out⟩
        case measure => simp [intOf]; omega
    · have hd : decide ((k : Int) < (m : Int)) = false := by simp; omega
      obtain rfl : k = m := by omega
      go_wp2_with fail
      go_ret
      exact ⟨by rw [HI.out, List.drop_of_length_le (by rw [← HN.out]; exact Nat.le_refl _)]; rfl, below_next HB0.out HB.out⟩
set_option maxRecDepth 100000 in
set_option maxHeartbeats 4000000 in
theorem rlimits_core (a0 : Option Addr) (c m : Nat) (l : List Gn) (q : Int) (w : World) (h : GLies w a0 l) (hm : m = l.length) (hmm : m ≤ 9223372036854775807) :
    Calls Tryz.prog 34 #[.slice a0 m c, .int .i64 q] w fun e w' => e = .returned (.bool (limG l q)) ∧ Below w.heap.size w w' := by
  have H1 := Lib.hid h
  have HN := Lib.hid hm
  clear h hm
  go_enter Tryz.func34, Tryz.ntmps34
  go_wp2_with fail
  go_loopw [9] (fun i wr => ∃ k : Nat, k ≤ m ∧ i = .int .i64 k ∧ limG l q = limG (l.drop k) q ∧ Below w.heap.size w wr) (fun i _ => m - (intOf i).toNat)
  case atStart => exact ⟨0, Nat.zero_le _, rfl, rfl, Below.refl _ _⟩
  case round =>
    obtain ⟨wz, hwz⟩ : ∃ wz, wz = wr := ⟨_, rfl⟩
    subst hwz
    obtain ⟨k, hk, rfl, hi, hb⟩ := hrel
    have HB := Lib.hid hb
    have HI := Lib.hid hi
    clear hb hi
    by_cases hlt : k < m
    · have hd : decide ((k : Int) < (m : Int)) = true := by simp; omega
      obtain ⟨b, o, rfl, hbl, e0, e1, a1, c1, e2, hc1, hL1⟩ := H1.out.at k (by rw [← HN.out]; exact hlt)
      have f0 := (HB.out.cell (p := ⟨b, o + k * 3, none⟩) hbl).trans e0
      have f1 := (HB.out.cell (p := ⟨b, o + k * 3 + 1, none⟩) hbl).trans e1
      have f2 := (HB.out.cell (p := ⟨b, o + k * 3 + 2, none⟩) hbl).trans e2
      have hst := limG_step q l k (by rw [← HN.out]; exact hlt)
      clear e0 e1 e2 hbl hL1 hc1
      generalize l.getD k noG = G at f0 f1 f2 hst
      obtain ⟨q2, t2, n2⟩ := G
      simp only at f0 f1 f2 hst
      obtain ⟨N2, hN2⟩ : ∃ N2, N2 = n2.length := ⟨_, rfl⟩
      rw [← hN2] at f2
      obtain ⟨W2, hW2⟩ : ∃ W2, W2 = wz.alloc (.cells #[.int .i64 q2, .string (strOf t2), .slice a1 N2 c1] 32) := ⟨_, rfl⟩
      have hb2 : Below wz.heap.size wz W2 := by rw [hW2]; exact belowNew wz _
      obtain ⟨g0, g1, g2, lg⟩ := three_facts (w := W2) (g := wz.heap.size) (by rw [hW2]; exact heap_alloc_new wz _)
      have HB2 := Lib.hid (below_next HB.out hb2)
      have HWE := hW2.symm
      have HST := Lib.hid (HI.out.trans hst)
      have HLT := Lib.hid hlt
      clear hst hN2 hW2 hb2
      by_cases hq : q2 = q
      · have d1 : (q2 == q) = true := beq_iff_eq.2 hq
        have HV := Lib.hid (show limG l q = true by rw [HST.out, decide_eq_true hq]; rfl)
        clear hq HST
        go_wp2_with fail
        go_ret
        exact ⟨by rw [HV.out]; rfl, HB2.out⟩
      · have d1 : (q2 == q) = false := beq_eq_false_iff_ne.2 hq
        have HV := Lib.hid (show limG l q = limG (l.drop (k + 1)) q by rw [HST.out, decide_eq_false hq]; rfl)
        clear hq HST
        go_wp2_with fail
        go_roundw
        case rel => exact ⟨k + 1, HLT.out, by go_num, HV.out, HB2.out⟩
        case measure => simp [intOf]; omega
    · have hd : decide ((k : Int) < (m : Int)) = false := by simp; omega
      obtain rfl : k = m := by omega
      go_wp2_with fail
      go_ret
      exact ⟨by rw [HI.out, List.drop_of_length_le (by rw [← HN.out]; exact Nat.le_refl _)]; rfl, HB.out⟩
set_option maxRecDepth 100000 in
set_option maxHeartbeats 4000000 in
theorem rpermits_core (a0 ag : Option Addr) (c m cg N : Nat) (L : List Sub) (q : Int) (t : List UInt8) (n : Nm) (w : World) (h : SLies w a0 L) (hm : m = L.length) (hmm : m ≤ 1000000) (hg : RLies w ag n) (hN : N = n.length) (hs : SmG (q, t, n)) (hl : SmS L) (hz : ∀ s ∈ L, s.1.length ≤ 1000000 ∧ s.2.length ≤ 1000000) :
    Calls Tryz.prog 18 #[.agg #[.slice a0 m c], .agg #[.int .i64 q, .string (strOf t), .slice ag N cg]] w fun e w' => e = .returned (.bool (perG L (q, t, n))) ∧ Below w.heap.size w w' := by
  obtain ⟨W0, hW0⟩ : ∃ W0, W0 = (w.alloc (.cells #[.slice a0 m c] 24)).alloc (.cells #[.int .i64 q, .string (strOf t), .slice ag N cg] 32) := ⟨_, rfl⟩
  have hwr := hW0.symm
  have hb0 : Below w.heap.size w W0 := by rw [hW0]; exact belowTwo w _ _
  obtain ⟨x0, _, lx⟩ := one_facts (w := W0) (g := w.heap.size) (by rw [hW0, heap_first]; exact heap_alloc_new w _)
  obtain ⟨b0, b1, b2, lb⟩ := three_facts (w := W0) (g := w.heap.size + 1) (by rw [hW0]; exact heap_second w _ _ _)
  have HB0 := Lib.hid hb0
  have H1 := Lib.hid (h.below hb0)
  have HG := Lib.hid (hg.below hb0)
  have HN := Lib.hid hm
  have HNN := Lib.hid hN
  have HS := Lib.hid hs
  have HL := Lib.hid hl
  have HZ := Lib.hid hz
  clear h hg hm hN hs hl hz hb0 hW0
  go_enter Tryz.func18, Tryz.ntmps18
  go_wp2_with fail
  clear hwr
  have P0 := Lib.hid b0
  have P1 := Lib.hid b1
  have P2 := Lib.hid b2
  clear b0 b1 b2 x0 lx
  go_loopw [10] (fun i wr => ∃ k : Nat, k ≤ m ∧ i = .int .i64 k ∧ perG L (q, t, n) = perG (L.drop k) (q, t, n) ∧ Below W0.heap.size W0 wr) (fun i _ => m - (intOf i).toNat)
  case atStart => exact ⟨0, Nat.zero_le _, rfl, rfl, Below.refl _ _⟩
  case round =>
    obtain ⟨wz, hwz⟩ : ∃ wz, wz = wr := ⟨_, rfl⟩
    subst hwz
    obtain ⟨k, hk, rfl, hi, hb⟩ := hrel
    have HB := Lib.hid hb
    have HI := Lib.hid hi
    clear hb hi
    by_cases hlt : k < m
    · have hd : decide ((k : Int) < (m : Int)) = true := by simp; omega
      obtain ⟨b, o, rfl, hbl, a1, c1, a2, c2, e0, e1, ⟨hc1, hL1⟩, hc2, hL2⟩ := H1.out.at k (by rw [← HN.out]; exact hlt)
      have f0 := (HB.out.cell (p := ⟨b, o + k * 2, none⟩) hbl).trans e0
      have f1 := (HB.out.cell (p := ⟨b, o + k * 2 + 1, none⟩) hbl).trans e1
      have hst := perG_step (q, t, n) L k (by rw [← HN.out]; exact hlt)
      have hsm := HL.out.at (i := k) (by rw [← HN.out]; exact hlt)
      have hzk := HZ.out (L.getD k noSub) (by rw [List.getD_eq_getElem?_getD, List.getElem?_eq_getElem (by rw [← HN.out]; exact hlt)]; exact List.getElem_mem _)
      clear e0 e1 hbl
      generalize L.getD k noSub = G at f0 f1 hst hsm hzk hL1 hL2 hc1 hc2
      obtain ⟨A, B⟩ := G
      simp only at f0 f1 hL1 hL2 hc1 hc2 hsm hst hzk
      obtain ⟨NA, hNA⟩ : ∃ NA, NA = A.length := ⟨_, rfl⟩
      obtain ⟨NB, hNB⟩ : ∃ NB, NB = B.length := ⟨_, rfl⟩
      rw [← hNA] at f0
      rw [← hNB] at f1
      obtain ⟨W2, hW2⟩ : ∃ W2, W2 = wz.alloc (.cells #[.slice a1 NA c1, .slice a2 NB c2] 27) := ⟨_, rfl⟩
      have hb2 : Below wz.heap.size wz W2 := by rw [hW2]; exact belowNew wz _
      obtain ⟨s0, s1, ls⟩ := two_facts (w := W2) (g := wz.heap.size) (by rw [hW2]; exact heap_alloc_new wz _)
      have hbw := below_next HB.out hb2
      have HB2 := Lib.hid hbw
      have p0 := (hbw.cell (p := ⟨w.heap.size + 1, 0, none⟩) lb).trans P0.out
      have p1 := (hbw.cell (p := ⟨w.heap.size + 1, 1, none⟩) lb).trans P1.out
      have p2 := (hbw.cell (p := ⟨w.heap.size + 1, 2, none⟩) lb).trans P2.out
      have lp : w.heap.size + 1 < W2.heap.size := Nat.lt_of_lt_of_le lb hbw.size
      have HA := Lib.hid (fun W (hb : Below W2.heap.size W2 W) => rin_core a2 ag c2 NB cg N B q t n W (((hL2.below HB.out).below hb2).below hb) hNB (by omega) ((HG.out.below hbw).below hb) HNN.out HS.out hsm.2)
      have HC := Lib.hid (fun W (hb : Below W2.heap.size W2 W) => rin_core a1 ag c1 NA cg N A q t n W (((hL1.below HB.out).below hb2).below hb) hNA (by omega) ((HG.out.below hbw).below hb) HNN.out HS.out hsm.1)
      have HD := Lib.hid (fun W (hb : Below W2.heap.size W2 W) => rlimits_core a1 c1 NA A q W (((hL1.below HB.out).below hb2).below hb) hNA (by omega))
      have HWE := hW2.symm
      have PP0 := Lib.hid p0
      have PP1 := Lib.hid p1
      have PP2 := Lib.hid p2
      have SS0 := Lib.hid s0
      have SS1 := Lib.hid s1
      generalize inG (q, t, n) B = x at HA hst
      generalize limG A q = y at HD hst
      generalize inG (q, t, n) A = z at HC hst
      have HST := Lib.hid (HI.out.trans hst)
      have HLT := Lib.hid hlt
      have HX := Lib.hid (Below.refl W2.heap.size W2)
      clear hst hsm hL1 hc1 hL2 hc2 hNA hNB hW2 hb2 hzk hbw
      cases x with
      | true =>
        go_wp2_with (first
          | (go_at_call 33; (with_reducible refine (HA.out _ HX.out).mono ?_); rintro e w3 ⟨rfl, hb9⟩; have HX := Lib.hid (below_next HX.out hb9); have p0 := (HX.out.cell (p := ⟨w.heap.size + 1, 0, none⟩) lp).trans PP0.out; have p1 := (HX.out.cell (p := ⟨w.heap.size + 1, 1, none⟩) lp).trans PP1.out; have p2 := (HX.out.cell (p := ⟨w.heap.size + 1, 2, none⟩) lp).trans PP2.out; have s0 := (HX.out.cell (p := ⟨wz.heap.size, 0, none⟩) ls).trans SS0.out; have s1 := (HX.out.cell (p := ⟨wz.heap.size, 1, none⟩) ls).trans SS1.out; clear hb9)
          | (go_at_call 34; (with_reducible refine (HD.out _ HX.out).mono ?_); rintro e w4 ⟨rfl, hb9⟩; have HX := Lib.hid (below_next HX.out hb9); have p0 := (HX.out.cell (p := ⟨w.heap.size + 1, 0, none⟩) lp).trans PP0.out; have p1 := (HX.out.cell (p := ⟨w.heap.size + 1, 1, none⟩) lp).trans PP1.out; have p2 := (HX.out.cell (p := ⟨w.heap.size + 1, 2, none⟩) lp).trans PP2.out; have s0 := (HX.out.cell (p := ⟨wz.heap.size, 0, none⟩) ls).trans SS0.out; have s1 := (HX.out.cell (p := ⟨wz.heap.size, 1, none⟩) ls).trans SS1.out; clear hb9)
          | (go_at_call 33; (with_reducible refine (HC.out _ HX.out).mono ?_); rintro e w5 ⟨rfl, hb9⟩; have HX := Lib.hid (below_next HX.out hb9); have p0 := (HX.out.cell (p := ⟨w.heap.size + 1, 0, none⟩) lp).trans PP0.out; have p1 := (HX.out.cell (p := ⟨w.heap.size + 1, 1, none⟩) lp).trans PP1.out; have p2 := (HX.out.cell (p := ⟨w.heap.size + 1, 2, none⟩) lp).trans PP2.out; have s0 := (HX.out.cell (p := ⟨wz.heap.size, 0, none⟩) ls).trans SS0.out; have s1 := (HX.out.cell (p := ⟨wz.heap.size, 1, none⟩) ls).trans SS1.out; clear hb9))
        go_ret
        exact ⟨by rw [HST.out]; rfl, below_next HB0.out (below_next HB2.out HX.out)⟩
      | false =>
        cases y with
        | false =>
          go_wp2_with (first
            | (go_at_call 33; (with_reducible refine (HA.out _ HX.out).mono ?_); rintro e w3 ⟨rfl, hb9⟩; have HX := Lib.hid (below_next HX.out hb9); have p0 := (HX.out.cell (p := ⟨w.heap.size + 1, 0, none⟩) lp).trans PP0.out; have p1 := (HX.out.cell (p := ⟨w.heap.size + 1, 1, none⟩) lp).trans PP1.out; have p2 := (HX.out.cell (p := ⟨w.heap.size + 1, 2, none⟩) lp).trans PP2.out; have s0 := (HX.out.cell (p := ⟨wz.heap.size, 0, none⟩) ls).trans SS0.out; have s1 := (HX.out.cell (p := ⟨wz.heap.size, 1, none⟩) ls).trans SS1.out; clear hb9)
            | (go_at_call 34; (with_reducible refine (HD.out _ HX.out).mono ?_); rintro e w4 ⟨rfl, hb9⟩; have HX := Lib.hid (below_next HX.out hb9); have p0 := (HX.out.cell (p := ⟨w.heap.size + 1, 0, none⟩) lp).trans PP0.out; have p1 := (HX.out.cell (p := ⟨w.heap.size + 1, 1, none⟩) lp).trans PP1.out; have p2 := (HX.out.cell (p := ⟨w.heap.size + 1, 2, none⟩) lp).trans PP2.out; have s0 := (HX.out.cell (p := ⟨wz.heap.size, 0, none⟩) ls).trans SS0.out; have s1 := (HX.out.cell (p := ⟨wz.heap.size, 1, none⟩) ls).trans SS1.out; clear hb9)
            | (go_at_call 33; (with_reducible refine (HC.out _ HX.out).mono ?_); rintro e w5 ⟨rfl, hb9⟩; have HX := Lib.hid (below_next HX.out hb9); have p0 := (HX.out.cell (p := ⟨w.heap.size + 1, 0, none⟩) lp).trans PP0.out; have p1 := (HX.out.cell (p := ⟨w.heap.size + 1, 1, none⟩) lp).trans PP1.out; have p2 := (HX.out.cell (p := ⟨w.heap.size + 1, 2, none⟩) lp).trans PP2.out; have s0 := (HX.out.cell (p := ⟨wz.heap.size, 0, none⟩) ls).trans SS0.out; have s1 := (HX.out.cell (p := ⟨wz.heap.size, 1, none⟩) ls).trans SS1.out; clear hb9))
          go_roundw
          case rel => exact ⟨k + 1, HLT.out, by go_num, by rw [HST.out]; rfl, below_next HB2.out HX.out⟩
          case measure => simp [intOf]; omega
        | true =>
          cases z with
          | true =>
            go_wp2_with (first
              | (go_at_call 33; (with_reducible refine (HA.out _ HX.out).mono ?_); rintro e w3 ⟨rfl, hb9⟩; have HX := Lib.hid (below_next HX.out hb9); have p0 := (HX.out.cell (p := ⟨w.heap.size + 1, 0, none⟩) lp).trans PP0.out; have p1 := (HX.out.cell (p := ⟨w.heap.size + 1, 1, none⟩) lp).trans PP1.out; have p2 := (HX.out.cell (p := ⟨w.heap.size + 1, 2, none⟩) lp).trans PP2.out; have s0 := (HX.out.cell (p := ⟨wz.heap.size, 0, none⟩) ls).trans SS0.out; have s1 := (HX.out.cell (p := ⟨wz.heap.size, 1, none⟩) ls).trans SS1.out; clear hb9)
              | (go_at_call 34; (with_reducible refine (HD.out _ HX.out).mono ?_); rintro e w4 ⟨rfl, hb9⟩; have HX := Lib.hid (below_next HX.out hb9); have p0 := (HX.out.cell (p := ⟨w.heap.size + 1, 0, none⟩) lp).trans PP0.out; have p1 := (HX.out.cell (p := ⟨w.heap.size + 1, 1, none⟩) lp).trans PP1.out; have p2 := (HX.out.cell (p := ⟨w.heap.size + 1, 2, none⟩) lp).trans PP2.out; have s0 := (HX.out.cell (p := ⟨wz.heap.size, 0, none⟩) ls).trans SS0.out; have s1 := (HX.out.cell (p := ⟨wz.heap.size, 1, none⟩) ls).trans SS1.out; clear hb9)
              | (go_at_call 33; (with_reducible refine (HC.out _ HX.out).mono ?_); rintro e w5 ⟨rfl, hb9⟩; have HX := Lib.hid (below_next HX.out hb9); have p0 := (HX.out.cell (p := ⟨w.heap.size + 1, 0, none⟩) lp).trans PP0.out; have p1 := (HX.out.cell (p := ⟨w.heap.size + 1, 1, none⟩) lp).trans PP1.out; have p2 := (HX.out.cell (p := ⟨w.heap.size + 1, 2, none⟩) lp).trans PP2.out; have s0 := (HX.out.cell (p := ⟨wz.heap.size, 0, none⟩) ls).trans SS0.out; have s1 := (HX.out.cell (p := ⟨wz.heap.size, 1, none⟩) ls).trans SS1.out; clear hb9))
            go_roundw
            case rel => exact ⟨k + 1, HLT.out, by go_num, by rw [HST.out]; rfl, below_next HB2.out HX.out⟩
            case measure => simp [intOf]; omega
          | false =>
            go_wp2_with (first
              | (go_at_call 33; (with_reducible refine (HA.out _ HX.out).mono ?_); rintro e w3 ⟨rfl, hb9⟩; have HX := Lib.hid (below_next HX.out hb9); have p0 := (HX.out.cell (p := ⟨w.heap.size + 1, 0, none⟩) lp).trans PP0.out; have p1 := (HX.out.cell (p := ⟨w.heap.size + 1, 1, none⟩) lp).trans PP1.out; have p2 := (HX.out.cell (p := ⟨w.heap.size + 1, 2, none⟩) lp).trans PP2.out; have s0 := (HX.out.cell (p := ⟨wz.heap.size, 0, none⟩) ls).trans SS0.out; have s1 := (HX.out.cell (p := ⟨wz.heap.size, 1, none⟩) ls).trans SS1.out; clear hb9)
              | (go_at_call 34; (with_reducible refine (HD.out _ HX.out).mono ?_); rintro e w4 ⟨rfl, hb9⟩; have HX := Lib.hid (below_next HX.out hb9); have p0 := (HX.out.cell (p := ⟨w.heap.size + 1, 0, none⟩) lp).trans PP0.out; have p1 := (HX.out.cell (p := ⟨w.heap.size + 1, 1, none⟩) lp).trans PP1.out; have p2 := (HX.out.cell (p := ⟨w.heap.size + 1, 2, none⟩) lp).trans PP2.out; have s0 := (HX.out.cell (p := ⟨wz.heap.size, 0, none⟩) ls).trans SS0.out; have s1 := (HX.out.cell (p := ⟨wz.heap.size, 1, none⟩) ls).trans SS1.out; clear hb9)
              | (go_at_call 33; (with_reducible refine (HC.out _ HX.out).mono ?_); rintro e w5 ⟨rfl, hb9⟩; have HX := Lib.hid (below_next HX.out hb9); have p0 := (HX.out.cell (p := ⟨w.heap.size + 1, 0, none⟩) lp).trans PP0.out; have p1 := (HX.out.cell (p := ⟨w.heap.size + 1, 1, none⟩) lp).trans PP1.out; have p2 := (HX.out.cell (p := ⟨w.heap.size + 1, 2, none⟩) lp).trans PP2.out; have s0 := (HX.out.cell (p := ⟨wz.heap.size, 0, none⟩) ls).trans SS0.out; have s1 := (HX.out.cell (p := ⟨wz.heap.size, 1, none⟩) ls).trans SS1.out; clear hb9))
            go_ret
            exact ⟨by rw [HST.out]; rfl, below_next HB0.out (below_next HB2.out HX.out)⟩
    · have hd : decide ((k : Int) < (m : Int)) = false := by simp; omega
      obtain rfl : k = m := by omega
      go_wp2_with fail
      go_ret
      exact ⟨by rw [HI.out, List.drop_of_length_le (by rw [← HN.out]; exact Nat.le_refl _)]; rfl, below_next HB0.out HB.out⟩
end Go.Proofs.YtjdfgalcnbnobaaGreatDoor
