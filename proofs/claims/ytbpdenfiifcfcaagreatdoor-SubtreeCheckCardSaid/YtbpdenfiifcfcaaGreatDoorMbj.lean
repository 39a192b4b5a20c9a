/-
  The contracts of slices.IndexFunc and slices.ContainsFunc over general names, of whatever function; and of hasKind, withinAny, permits and Permits of package subtree.
-/
import Derived.Test.YtbpdenfiifcfcaaGreatDoorMbh
import Derived.Test.YtbpdenfiifcfcaaGreatDoorMbi
import Derived.Lib.QuietBelow
import Derived.BigQuiet
namespace Go.Proofs.YtbpdenfiifcfcaaGreatDoor
open Go.RowKit

/-- At the address lie the general names l, the names of which are as Q says. -/
def GLiesQ (Q : Option Addr → Nm → Prop) (w : World) (a : Option Addr) (l : List Gn) : Prop :=
  l = [] ∨ ∃ b o, a = some ⟨b, o, none⟩ ∧ ∀ i, i < l.length → w.cell? ⟨b, o + i * 3, none⟩ = some (.int .i64 (l.getD i noG).1) ∧ w.cell? ⟨b, o + i * 3 + 1, none⟩ = some (.string (strOf (l.getD i noG).2.1)) ∧
    ∃ a' c', w.cell? ⟨b, o + i * 3 + 2, none⟩ = some (.slice a' (l.getD i noG).2.2.length c') ∧ (l.getD i noG).2.2.length ≤ c' ∧ Q a' (l.getD i noG).2.2
theorem GLiesQ.at {Q : Option Addr → Nm → Prop} {w : World} {a : Option Addr} {l : List Gn} (h : GLiesQ Q w a l) (k : Nat) (hk : k < l.length) : ∃ b o, a = some ⟨b, o, none⟩ ∧ b < w.heap.size ∧
    w.cell? ⟨b, o + k * 3, none⟩ = some (.int .i64 (l.getD k noG).1) ∧ w.cell? ⟨b, o + k * 3 + 1, none⟩ = some (.string (strOf (l.getD k noG).2.1)) ∧
    ∃ a' c', w.cell? ⟨b, o + k * 3 + 2, none⟩ = some (.slice a' (l.getD k noG).2.2.length c') ∧ (l.getD k noG).2.2.length ≤ c' ∧ Q a' (l.getD k noG).2.2 := by
  rcases h with h | ⟨b, o, h1, h2⟩
  · rw [h] at hk; exact absurd hk (Nat.not_lt_zero _)
  · obtain ⟨c0, c1, a', c', c2, c3, c4⟩ := h2 k hk
    exact ⟨b, o, h1, block_lt c0, c0, c1, a', c', c2, c3, c4⟩
theorem GLiesQ.below {Q : Option Addr → Nm → Prop} {w w' : World} {a : Option Addr} {l : List Gn} (h : GLiesQ Q w a l) (hb : Below w.heap.size w w') : GLiesQ Q w' a l := by
  rcases h with h | ⟨b, o, h1, h2⟩
  · exact .inl h
  · refine .inr ⟨b, o, h1, fun i hi => ?_⟩
    obtain ⟨c0, c1, a', c', c2, c3, c4⟩ := h2 i hi
    exact ⟨(hb.cell (block_lt c0)).trans c0, (hb.cell (block_lt c1)).trans c1, a', c', (hb.cell (block_lt c2)).trans c2, c3, c4⟩
/-- The function numbered g, with what it has captured, says of a general name whether p holds, in each world in which Inv holds. -/
def GivesI (g : Nat) (lb : Array Value) (p : Gn → Bool) (Pre : Gn → Prop) (Q : Option Addr → Nm → Prop) (Inv : World → Prop) : Prop :=
  ∀ (a : Option Addr) (c N : Nat) (q : Int) (t : List UInt8) (n : Nm) (W : World), Inv W → Q a n → N = n.length → N ≤ c → Pre (q, t, n) →
    Calls Tryz.prog g (#[.agg #[.int .i64 q, .string (strOf t), .slice a N c]] ++ lb) W fun e w' => e = .returned (.bool (p (q, t, n))) ∧ Below W.heap.size W w'
def IdxR (l : List Gn) (p : Gn → Bool) (r : Int) : Prop :=
  (∃ k : Nat, k < l.length ∧ r = (k : Int) ∧ p (l.getD k noG) = true ∧ ∀ j, j < k → p (l.getD j noG) = false) ∨ (r = -1 ∧ ∀ j, j < l.length → p (l.getD j noG) = false)
theorem IdxR.any {l : List Gn} {p : Gn → Bool} {r : Int} (h : IdxR l p r) : decide (0 ≤ r) = l.any p := by
  rcases h with ⟨k, hk, rfl, hp, _⟩ | ⟨rfl, hp⟩
  · rw [decide_eq_true (by omega)]
    symm
    rw [List.any_eq_true]
    exact ⟨l.getD k noG, by rw [List.getD_eq_getElem?_getD, List.getElem?_eq_getElem hk]; exact List.getElem_mem hk, hp⟩
  · rw [decide_eq_false (by omega)]
    symm
    rw [List.any_eq_false]
    intro x hx
    obtain ⟨i, hi, rfl⟩ := List.getElem_of_mem hx
    have := hp i hi
    rw [List.getD_eq_getElem?_getD, List.getElem?_eq_getElem hi] at this
    simpa using this
set_option maxRecDepth 100000 in
set_option maxHeartbeats 4000000 in
theorem idxf_core (g : Nat) (lb : Array Value) (eg : ∀ args w, (callFunc g args).run Tryz.prog w = .ok (.enter g args) w) (p : Gn → Bool) (Pre : Gn → Prop) (Q : Option Addr → Nm → Prop) (Inv : World → Prop) (hI : ∀ W W', Inv W → Below W.heap.size W W' → Inv W') (hp : GivesI g lb p Pre Q Inv)
    (a0 : Option Addr) (c m : Nat) (l : List Gn) (w : World) (h : GLiesQ Q w a0 l) (hm : m = l.length) (hmm : m ≤ 9223372036854775807) (hi : Inv w) (hpre : ∀ x ∈ l, Pre x) :
    Calls Tryz.prog 99 #[.slice a0 m c, .func (.func g) #[] lb] w fun e w' => ∃ r : Int, e = .returned (.int .i64 r) ∧ IdxR l p r ∧ Below w.heap.size w w' := by
  have H1 := Lib.hid h
  have HN := Lib.hid hm
  have HP := Lib.hid hp
  have HPR := Lib.hid hpre
  have HI := Lib.hid (fun W (hb : Below w.heap.size w W) => hI w W hi hb)
  clear h hm hp hpre hI hi
  go_enter Tryz.func99, Tryz.ntmps99
  go_wp2_with fail
  go_loopw [5, 8] (fun _ i wr => ∃ k : Nat, k ≤ m ∧ i = .int .i64 k ∧ (∀ j, j < k → p (l.getD j noG) = false) ∧ Below w.heap.size w wr) (fun _ i _ => m - (intOf i).toNat)
  case atStart => exact ⟨0, Nat.zero_le _, rfl, fun j hj => absurd hj (Nat.not_lt_zero _), Below.refl _ _⟩
  case round =>
    obtain ⟨wz, hwz⟩ : ∃ wz, wz = wr := ⟨_, rfl⟩
    subst hwz
    obtain ⟨k, hk, rfl, hA, hb⟩ := hrel
    have HB := Lib.hid hb
    have HA := Lib.hid hA
    clear hb hA
    by_cases hlt : k < m
    · have hd : decide ((k : Int) < (m : Int)) = true := by simp; omega
      have hki : (k : Int) < (m : Int) := by omega
      obtain ⟨b, o, rfl, hbl, e0, e1, a1, c1, e2, hc1, hL1⟩ := H1.out.at k (by rw [← HN.out]; exact hlt)
      have f0 := (HB.out.cell (p := ⟨b, o + k * 3, none⟩) hbl).trans e0
      have f1 := (HB.out.cell (p := ⟨b, o + k * 3 + 1, none⟩) hbl).trans e1
      have f2 := (HB.out.cell (p := ⟨b, o + k * 3 + 2, none⟩) hbl).trans e2
      have hpr := HPR.out (l.getD k noG) (by rw [List.getD_eq_getElem?_getD, List.getElem?_eq_getElem (by rw [← HN.out]; exact hlt)]; exact List.getElem_mem _)
      have HLT := Lib.hid hlt
      clear e0 e1 e2 hbl
      obtain ⟨G, hG⟩ : ∃ G, G = l.getD k noG := ⟨_, rfl⟩
      rw [← hG] at f0 f1 f2 hpr hL1 hc1
      obtain ⟨q2, t2, n2⟩ := G
      simp only at f0 f1 f2 hL1 hc1
      obtain ⟨N2, hN2⟩ : ∃ N2, N2 = n2.length := ⟨_, rfl⟩
      rw [← hN2] at f2 hc1
      have HC := Lib.hid (HP.out a1 c1 N2 q2 t2 n2 wz (HI.out wz HB.out) hL1 hN2 hc1 hpr)
      have HGK := Lib.hid (show p (l.getD k noG) = p (q2, t2, n2) by rw [← hG])
      clear hpr hL1 hc1 hN2 hG
      generalize p (q2, t2, n2) = E at HC HGK
      cases E with
      | true =>
        go_wp2_with (go_at_fn g; refine HC.out.mono ?_; rintro e w3 ⟨rfl, hb3⟩; have HB3 := Lib.hid (below_next HB.out hb3); clear hb3)
        go_ret
        exact ⟨(k : Int), rfl, .inl ⟨k, by have := HLT.out; rw [← HN.out]; exact this, rfl, HGK.out, HA.out⟩, HB3.out⟩
      | false =>
        go_wp2_with (go_at_fn g; refine HC.out.mono ?_; rintro e w3 ⟨rfl, hb3⟩; have HB3 := Lib.hid (below_next HB.out hb3); clear hb3)
        go_roundw
        case rel => exact ⟨k + 1, HLT.out, by go_num, fun j hj => by
          by_cases e : j = k
          · rw [e]; exact HGK.out
          · exact HA.out j (by omega), HB3.out⟩
        case measure => simp [intOf]; omega
    · have hd : decide ((k : Int) < (m : Int)) = false := by simp; omega
      obtain rfl : k = m := by omega
      go_wp2_with fail
      go_ret
      exact ⟨-1, rfl, .inr ⟨rfl, fun j hj => HA.out j (by rw [HN.out]; exact hj)⟩, HB.out⟩
set_option maxRecDepth 100000 in
set_option maxHeartbeats 4000000 in
theorem contf_core (g : Nat) (lb : Array Value) (eg : ∀ args w, (callFunc g args).run Tryz.prog w = .ok (.enter g args) w) (p : Gn → Bool) (Pre : Gn → Prop) (Q : Option Addr → Nm → Prop) (Inv : World → Prop) (hI : ∀ W W', Inv W → Below W.heap.size W W' → Inv W') (hp : GivesI g lb p Pre Q Inv)
    (a0 : Option Addr) (c m : Nat) (l : List Gn) (w : World) (h : GLiesQ Q w a0 l) (hm : m = l.length) (hmm : m ≤ 9223372036854775807) (hi : Inv w) (hpre : ∀ x ∈ l, Pre x) :
    Calls Tryz.prog 73 #[.slice a0 m c, .func (.func g) #[] lb] w fun e w' => e = .returned (.bool (l.any p)) ∧ Below w.heap.size w w' := by
  have HX := Lib.hid (idxf_core g lb eg p Pre Q Inv hI hp a0 c m l w h hm hmm hi hpre)
  clear h hm hi hpre hI hp
  go_enter Tryz.func73, Tryz.ntmps73
  go_wp2_with (go_at_call 99; (with_reducible refine HX.out.mono ?_); rintro e w3 ⟨r, rfl, hR, hb3⟩; have HR := Lib.hid hR.any; have HB3 := Lib.hid hb3; clear hb3 hR)
  go_ret
  refine ⟨?_, HB3.out⟩
  rw [← HR.out]
  rfl
set_option maxRecDepth 100000 in
set_option maxHeartbeats 4000000 in
theorem haskind1_any (a : Option Addr) (c N B : Nat) (q k : Int) (t : List UInt8) (W : World) (hc : W.cell? ⟨B, 0, none⟩ = some (.int .i64 k)) (hB : B < W.heap.size) :
    Calls Tryz.prog 74 (#[.agg #[.int .i64 q, .string (strOf t), .slice a N c]] ++ #[.pointer (some ⟨B, 0, none⟩)]) W fun e w' => e = .returned (.bool (decide (q = k))) ∧ Below W.heap.size W w' := by
  obtain ⟨W0, hW0⟩ : ∃ W0, W0 = W.alloc (.cells #[.int .i64 q, .string (strOf t), .slice a N c] 29) := ⟨_, rfl⟩
  have hwr := hW0.symm
  have hb0 : Below W.heap.size W W0 := by rw [hW0]; exact belowNew W _
  obtain ⟨b0, b1, b2, lb⟩ := three_facts (w := W0) (g := W.heap.size) (by rw [hW0]; exact heap_alloc_new W _)
  have k0 := (hb0.cell (p := ⟨B, 0, none⟩) hB).trans hc
  have HB0 := Lib.hid hb0
  clear hb0 hW0 hc
  by_cases hq : q = k
  · have d1 : (q == k) = true := beq_iff_eq.2 hq
    rw [decide_eq_true hq]
    clear hq
    go_enter Tryz.func74, Tryz.ntmps74
    go_wp2_with fail
    go_ret
    exact ⟨rfl, HB0.out⟩
  · have d1 : (q == k) = false := beq_eq_false_iff_ne.2 hq
    rw [decide_eq_false hq]
    clear hq
    go_enter Tryz.func74, Tryz.ntmps74
    go_wp2_with fail
    go_ret
    exact ⟨rfl, HB0.out⟩
set_option maxRecDepth 100000 in
set_option maxHeartbeats 4000000 in
theorem haskind_core (a0 : Option Addr) (c m : Nat) (l : List Gn) (k : Int) (w : World) (h : GLies w a0 l) (hm : m = l.length) (hmm : m ≤ 9223372036854775807) :
    Calls Tryz.prog 48 #[.slice a0 m c, .int .i64 k] w fun e w' => e = .returned (.bool (limG l k)) ∧ Below w.heap.size w w' := by
  obtain ⟨W0, hW0⟩ : ∃ W0, W0 = w.alloc (.cells #[.int .i64 k] 3) := ⟨_, rfl⟩
  have hwr := hW0.symm
  have hb0 : Below w.heap.size w W0 := by rw [hW0]; exact belowNew w _
  obtain ⟨b0, _, lb⟩ := one_facts (w := W0) (g := w.heap.size) (by rw [hW0]; exact heap_alloc_new w _)
  have HB0 := Lib.hid hb0
  have HX := Lib.hid (contf_core 74 #[.pointer (some ⟨w.heap.size, 0, none⟩)] (enters_of Tryz.func74 (by kernel_rfl) rfl) (fun b => decide (b.1 = k)) (fun _ => True) (fun a n => RLies W0 a n) (fun W => Below W0.heap.size W0 W) (fun W W' h hb => below_next h hb)
    (fun a c N q t n W hI _ _ _ _ => haskind1_any a c N w.heap.size q k t W ((hI.cell (p := ⟨w.heap.size, 0, none⟩) lb).trans b0) (Nat.lt_of_lt_of_le lb hI.size)) a0 c m l W0 (h.below hb0) hm hmm (Below.refl _ _) (fun _ _ => trivial))
  clear h hm hb0 hW0 b0 lb
  go_enter Tryz.func48, Tryz.ntmps48
  go_wp2_with (go_at_call 73; (with_reducible refine HX.out.mono ?_); rintro e w3 ⟨rfl, hb3⟩; have HB3 := Lib.hid (below_next HB0.out hb3); clear hb3)
  go_ret
  exact ⟨rfl, HB3.out⟩
set_option maxRecDepth 100000 in
set_option maxHeartbeats 4000000 in
theorem within1_any (ag a : Option Addr) (cg c N m B : Nat) (q k : Int) (t u : List UInt8) (n r : Nm) (W : World) (g0 : W.cell? ⟨B, 0, none⟩ = some (.int .i64 q)) (g1 : W.cell? ⟨B, 1, none⟩ = some (.string (strOf t))) (g2 : W.cell? ⟨B, 2, none⟩ = some (.slice ag N cg)) (hB : B < W.heap.size)
    (hg : RLies W ag n) (hr : RLies W a r) (hN : N = n.length) (hNc : N ≤ cg) (hm : m = r.length) (hs : SmG (q, t, n)) (hu : SmG (k, u, r)) (hmk : Mk W) :
    Calls Tryz.prog 97 (#[.agg #[.int .i64 k, .string (strOf u), .slice a m c]] ++ #[.pointer (some ⟨B, 0, none⟩)]) W fun e w' => e = .returned (.bool (wG (q, t, n) (k, u, r))) ∧ Below W.heap.size W w' := by
  obtain ⟨W0, hW0⟩ : ∃ W0, W0 = W.alloc (.cells #[.int .i64 k, .string (strOf u), .slice a m c] 29) := ⟨_, rfl⟩
  have hwr := hW0.symm
  have hb0 : Below W.heap.size W W0 := by rw [hW0]; exact belowNew W _
  obtain ⟨b0, b1, b2, lb⟩ := three_facts (w := W0) (g := W.heap.size) (by rw [hW0]; exact heap_alloc_new W _)
  have k0 := (hb0.cell (p := ⟨B, 0, none⟩) hB).trans g0
  have k1 := (hb0.cell (p := ⟨B, 1, none⟩) hB).trans g1
  have k2 := (hb0.cell (p := ⟨B, 2, none⟩) hB).trans g2
  have HB0 := Lib.hid hb0
  have HX := Lib.hid (gwithin_core ag a cg c N m q k t u n r W0 (hg.below hb0) (hr.below hb0) hN hm hNc hs.1 hu.1 hs.2 hu.2 (hmk.below hb0))
  rw [show withinG q t n k u r = wG (q, t, n) (k, u, r) from rfl] at HX
  generalize wG (q, t, n) (k, u, r) = E at HX
  clear g0 g1 g2 hg hr hN hNc hm hs hu hmk hb0 hW0
  go_enter Tryz.func97, Tryz.ntmps97
  go_wp2_with (go_at_call 98; (with_reducible refine HX.out.mono ?_); rintro e w3 ⟨rfl, hb3⟩; have HB3 := Lib.hid (below_next HB0.out hb3); clear hb3)
  go_ret
  exact ⟨rfl, HB3.out⟩
set_option maxRecDepth 100000 in
set_option maxHeartbeats 4000000 in
theorem withinany_core (a0 ag : Option Addr) (c m cg N : Nat) (l : List Gn) (q : Int) (t : List UInt8) (n : Nm) (w : World) (h : GLies w a0 l) (hm : m = l.length) (hmm : m ≤ 9223372036854775807) (hg : RLies w ag n) (hN : N = n.length) (hNc : N ≤ cg) (hs : SmG (q, t, n)) (hl : SmL l) (hmk : Mk w) :
    Calls Tryz.prog 72 #[.agg #[.int .i64 q, .string (strOf t), .slice ag N cg], .slice a0 m c] w fun e w' => e = .returned (.bool (inG (q, t, n) l)) ∧ Below w.heap.size w w' := by
  obtain ⟨W0, hW0⟩ : ∃ W0, W0 = w.alloc (.cells #[.int .i64 q, .string (strOf t), .slice ag N cg] 29) := ⟨_, rfl⟩
  have hwr := hW0.symm
  have hb0 : Below w.heap.size w W0 := by rw [hW0]; exact belowNew w _
  obtain ⟨b0, b1, b2, lb⟩ := three_facts (w := W0) (g := w.heap.size) (by rw [hW0]; exact heap_alloc_new w _)
  have HB0 := Lib.hid hb0
  have HX := Lib.hid (contf_core 97 #[.pointer (some ⟨w.heap.size, 0, none⟩)] (enters_of Tryz.func97 (by kernel_rfl) rfl) (wG (q, t, n)) SmG (fun a n => RLies W0 a n) (fun W => Below W0.heap.size W0 W) (fun W W' h hb => below_next h hb)
    (fun a c m' k u r W hI hr hm' _ hu => within1_any ag a cg c N m' w.heap.size q k t u n r W ((hI.cell (p := ⟨w.heap.size, 0, none⟩) lb).trans b0) ((hI.cell (p := ⟨w.heap.size, 1, none⟩) lb).trans b1) ((hI.cell (p := ⟨w.heap.size, 2, none⟩) lb).trans b2) (Nat.lt_of_lt_of_le lb hI.size) ((hg.below hb0).below hI) (hr.below hI) hN hNc hm' hs hu ((hmk.below hb0).below hI)) a0 c m l W0 (h.below hb0) hm hmm (Below.refl _ _) hl)
  rw [show l.any (wG (q, t, n)) = inG (q, t, n) l from rfl] at HX
  generalize inG (q, t, n) l = E at HX
  clear h hm hg hN hNc hs hl hmk hb0 hW0 b0 b1 b2 lb
  go_enter Tryz.func72, Tryz.ntmps72
  go_wp2_with (go_at_call 73; (with_reducible refine HX.out.mono ?_); rintro e w3 ⟨rfl, hb3⟩; have HB3 := Lib.hid (below_next HB0.out hb3); clear hb3)
  go_ret
  exact ⟨rfl, HB3.out⟩
set_option maxRecDepth 100000 in
set_option maxHeartbeats 4000000 in
theorem ppermits_core (a1 a2 ag : Option Addr) (c1 c2 NA NB cg N : Nat) (A B : List Gn) (lim : Bool) (q : Int) (t : List UInt8) (n : Nm) (w : World) (h1 : GLies w a1 A) (h2 : GLies w a2 B) (hA : NA = A.length) (hB : NB = B.length) (hz : NA ≤ 1000000 ∧ NB ≤ 1000000) (hg : RLies w ag n) (hN : N = n.length) (hNc : N ≤ cg) (hs : SmG (q, t, n)) (hl : SmL A ∧ SmL B) (hmk : Mk w) :
    Calls Tryz.prog 47 #[.agg #[.slice a1 NA c1, .slice a2 NB c2], .agg #[.int .i64 q, .string (strOf t), .slice ag N cg], .bool lim] w fun e w' => e = .returned (.bool (!inG (q, t, n) B && (!lim || inG (q, t, n) A))) ∧ Below w.heap.size w w' := by
  obtain ⟨W0, hW0⟩ : ∃ W0, W0 = (w.alloc (.cells #[.slice a1 NA c1, .slice a2 NB c2] 24)).alloc (.cells #[.int .i64 q, .string (strOf t), .slice ag N cg] 29) := ⟨_, rfl⟩
  have hwr := hW0.symm
  have hb0 : Below w.heap.size w W0 := by rw [hW0]; exact belowTwo w _ _
  obtain ⟨s0, s1, ls⟩ := two_facts (w := W0) (g := w.heap.size) (by rw [hW0, heap_first]; exact heap_alloc_new w _)
  obtain ⟨p0, p1, p2, lp⟩ := three_facts (w := W0) (g := w.heap.size + 1) (by rw [hW0]; exact heap_second w _ _ _)
  have HB0 := Lib.hid hb0
  have HA := Lib.hid (fun W (hb : Below W0.heap.size W0 W) => withinany_core a2 ag c2 NB cg N B q t n W ((h2.below hb0).below hb) hB (by omega) ((hg.below hb0).below hb) hN hNc hs hl.2 ((hmk.below hb0).below hb))
  have HC := Lib.hid (fun W (hb : Below W0.heap.size W0 W) => withinany_core a1 ag c1 NA cg N A q t n W ((h1.below hb0).below hb) hA (by omega) ((hg.below hb0).below hb) hN hNc hs hl.1 ((hmk.below hb0).below hb))
  generalize inG (q, t, n) B = x at HA ⊢
  generalize inG (q, t, n) A = z at HC ⊢
  have HX := Lib.hid (Below.refl W0.heap.size W0)
  have PP0 := Lib.hid p0
  have PP1 := Lib.hid p1
  have PP2 := Lib.hid p2
  have SS0 := Lib.hid s0
  have SS1 := Lib.hid s1
  clear h1 h2 hA hB hz hg hN hNc hs hl hmk hb0 hW0
  cases x with
  | true =>
    go_enter Tryz.func47, Tryz.ntmps47
    go_wp2_with (first
      | (go_at_call 72; (with_reducible refine (HA.out _ HX.out).mono ?_); rintro e w3 ⟨rfl, hb9⟩; have HX := Lib.hid (below_next HX.out hb9); have p0 := (HX.out.cell (p := ⟨w.heap.size + 1, 0, none⟩) lp).trans PP0.out; have p1 := (HX.out.cell (p := ⟨w.heap.size + 1, 1, none⟩) lp).trans PP1.out; have p2 := (HX.out.cell (p := ⟨w.heap.size + 1, 2, none⟩) lp).trans PP2.out; have s0 := (HX.out.cell (p := ⟨w.heap.size, 0, none⟩) ls).trans SS0.out; have s1 := (HX.out.cell (p := ⟨w.heap.size, 1, none⟩) ls).trans SS1.out; clear hb9)
      | (go_at_call 72; (with_reducible refine (HC.out _ HX.out).mono ?_); rintro e w4 ⟨rfl, hb9⟩; have HX := Lib.hid (below_next HX.out hb9); have p0 := (HX.out.cell (p := ⟨w.heap.size + 1, 0, none⟩) lp).trans PP0.out; have p1 := (HX.out.cell (p := ⟨w.heap.size + 1, 1, none⟩) lp).trans PP1.out; have p2 := (HX.out.cell (p := ⟨w.heap.size + 1, 2, none⟩) lp).trans PP2.out; have s0 := (HX.out.cell (p := ⟨w.heap.size, 0, none⟩) ls).trans SS0.out; have s1 := (HX.out.cell (p := ⟨w.heap.size, 1, none⟩) ls).trans SS1.out; clear hb9))
    go_ret
    exact ⟨rfl, below_next HB0.out HX.out⟩
  | false =>
    cases lim with
    | false =>
      go_enter Tryz.func47, Tryz.ntmps47
      go_wp2_with (first
        | (go_at_call 72; (with_reducible refine (HA.out _ HX.out).mono ?_); rintro e w3 ⟨rfl, hb9⟩; have HX := Lib.hid (below_next HX.out hb9); have p0 := (HX.out.cell (p := ⟨w.heap.size + 1, 0, none⟩) lp).trans PP0.out; have p1 := (HX.out.cell (p := ⟨w.heap.size + 1, 1, none⟩) lp).trans PP1.out; have p2 := (HX.out.cell (p := ⟨w.heap.size + 1, 2, none⟩) lp).trans PP2.out; have s0 := (HX.out.cell (p := ⟨w.heap.size, 0, none⟩) ls).trans SS0.out; have s1 := (HX.out.cell (p := ⟨w.heap.size, 1, none⟩) ls).trans SS1.out; clear hb9)
        | (go_at_call 72; (with_reducible refine (HC.out _ HX.out).mono ?_); rintro e w4 ⟨rfl, hb9⟩; have HX := Lib.hid (below_next HX.out hb9); have p0 := (HX.out.cell (p := ⟨w.heap.size + 1, 0, none⟩) lp).trans PP0.out; have p1 := (HX.out.cell (p := ⟨w.heap.size + 1, 1, none⟩) lp).trans PP1.out; have p2 := (HX.out.cell (p := ⟨w.heap.size + 1, 2, none⟩) lp).trans PP2.out; have s0 := (HX.out.cell (p := ⟨w.heap.size, 0, none⟩) ls).trans SS0.out; have s1 := (HX.out.cell (p := ⟨w.heap.size, 1, none⟩) ls).trans SS1.out; clear hb9))
      go_ret
      exact ⟨rfl, below_next HB0.out HX.out⟩
    | true =>
      cases z with
      | true =>
        go_enter Tryz.func47, Tryz.ntmps47
        go_wp2_with (first
          | (go_at_call 72; (with_reducible refine (HA.out _ HX.out).mono ?_); rintro e w3 ⟨rfl, hb9⟩; have HX := Lib.hid (below_next HX.out hb9); have p0 := (HX.out.cell (p := ⟨w.heap.size + 1, 0, none⟩) lp).trans PP0.out; have p1 := (HX.out.cell (p := ⟨w.heap.size + 1, 1, none⟩) lp).trans PP1.out; have p2 := (HX.out.cell (p := ⟨w.heap.size + 1, 2, none⟩) lp).trans PP2.out; have s0 := (HX.out.cell (p := ⟨w.heap.size, 0, none⟩) ls).trans SS0.out; have s1 := (HX.out.cell (p := ⟨w.heap.size, 1, none⟩) ls).trans SS1.out; clear hb9)
          | (go_at_call 72; (with_reducible refine (HC.out _ HX.out).mono ?_); rintro e w4 ⟨rfl, hb9⟩; have HX := Lib.hid (below_next HX.out hb9); have p0 := (HX.out.cell (p := ⟨w.heap.size + 1, 0, none⟩) lp).trans PP0.out; have p1 := (HX.out.cell (p := ⟨w.heap.size + 1, 1, none⟩) lp).trans PP1.out; have p2 := (HX.out.cell (p := ⟨w.heap.size + 1, 2, none⟩) lp).trans PP2.out; have s0 := (HX.out.cell (p := ⟨w.heap.size, 0, none⟩) ls).trans SS0.out; have s1 := (HX.out.cell (p := ⟨w.heap.size, 1, none⟩) ls).trans SS1.out; clear hb9))
        go_ret
        exact ⟨rfl, below_next HB0.out HX.out⟩
      | false =>
        go_enter Tryz.func47, Tryz.ntmps47
        go_wp2_with (first
          | (go_at_call 72; (with_reducible refine (HA.out _ HX.out).mono ?_); rintro e w3 ⟨rfl, hb9⟩; have HX := Lib.hid (below_next HX.out hb9); have p0 := (HX.out.cell (p := ⟨w.heap.size + 1, 0, none⟩) lp).trans PP0.out; have p1 := (HX.out.cell (p := ⟨w.heap.size + 1, 1, none⟩) lp).trans PP1.out; have p2 := (HX.out.cell (p := ⟨w.heap.size + 1, 2, none⟩) lp).trans PP2.out; have s0 := (HX.out.cell (p := ⟨w.heap.size, 0, none⟩) ls).trans SS0.out; have s1 := (HX.out.cell (p := ⟨w.heap.size, 1, none⟩) ls).trans SS1.out; clear hb9)
          | (go_at_call 72; (with_reducible refine (HC.out _ HX.out).mono ?_); rintro e w4 ⟨rfl, hb9⟩; have HX := Lib.hid (below_next HX.out hb9); have p0 := (HX.out.cell (p := ⟨w.heap.size + 1, 0, none⟩) lp).trans PP0.out; have p1 := (HX.out.cell (p := ⟨w.heap.size + 1, 1, none⟩) lp).trans PP1.out; have p2 := (HX.out.cell (p := ⟨w.heap.size + 1, 2, none⟩) lp).trans PP2.out; have s0 := (HX.out.cell (p := ⟨w.heap.size, 0, none⟩) ls).trans SS0.out; have s1 := (HX.out.cell (p := ⟨w.heap.size, 1, none⟩) ls).trans SS1.out; clear hb9))
        go_ret
        exact ⟨rfl, below_next HB0.out HX.out⟩
set_option maxRecDepth 100000 in
set_option maxHeartbeats 4000000 in
theorem permits_core (a0 ag : Option Addr) (c m cg N : Nat) (L : List Sub) (q : Int) (t : List UInt8) (n : Nm) (w : World) (h : SLies w a0 L) (hm : m = L.length) (hmm : m ≤ 1000000) (hg : RLies w ag n) (hN : N = n.length) (hNc : N ≤ cg) (hs : SmG (q, t, n)) (hl : SmS L) (hz : ∀ s ∈ L, s.1.length ≤ 1000000 ∧ s.2.length ≤ 1000000) (hmk : Mk w) :
    Calls Tryz.prog 26 #[.agg #[.slice a0 m c], .agg #[.int .i64 q, .string (strOf t), .slice ag N cg]] w fun e w' => e = .returned (.bool (perG L (q, t, n))) ∧ Below w.heap.size w w' := by
  obtain ⟨W0, hW0⟩ : ∃ W0, W0 = (w.alloc (.cells #[.slice a0 m c] 55)).alloc (.cells #[.int .i64 q, .string (strOf t), .slice ag N cg] 29) := ⟨_, rfl⟩
  have hwr := hW0.symm
  have hb0 : Below w.heap.size w W0 := by rw [hW0]; exact belowTwo w _ _
  obtain ⟨x0, _, lx⟩ := one_facts (w := W0) (g := w.heap.size) (by rw [hW0, heap_first]; exact heap_alloc_new w _)
  obtain ⟨b0, b1, b2, lb⟩ := three_facts (w := W0) (g := w.heap.size + 1) (by rw [hW0]; exact heap_second w _ _ _)
  have HB0 := Lib.hid hb0
  have H1 := Lib.hid (h.below hb0)
  have HG := Lib.hid (hg.below hb0)
  have HMK := Lib.hid (hmk.below hb0)
  have HN := Lib.hid hm
  have HNN := Lib.hid hN
  have HNC := Lib.hid hNc
  have HS := Lib.hid hs
  have HL := Lib.hid hl
  have HZ := Lib.hid hz
  clear h hg hm hN hNc hs hl hz hmk hb0 hW0
  go_enter Tryz.func26, Tryz.ntmps26
  go_wp2_with fail
  clear hwr
  have P0 := Lib.hid b0
  have P1 := Lib.hid b1
  have P2 := Lib.hid b2
  clear b0 b1 b2 x0 lx
  go_loopw [10] (fun i wr => ∃ k : Nat, k ≤ m ∧ i = .int .i64 k ∧ perG L (q, t, n) = perG (L.drop k) (q, t, n) ∧ Below W0.heap.size W0 wr) (fun i _ => m - (intOf i).toNat)
  case atStart => exact ⟨0, Nat.zero_le _, rfl, rfl, Below.refl _ _⟩
  case round =>
    obtain ⟨wz, hwz⟩ : ∃ wz, wz = wr := ⟨_, rfl⟩
    subst hwz
    obtain ⟨k, hk, rfl, hi, hb⟩ := hrel
    have HB := Lib.hid hb
    have HI := Lib.hid hi
    clear hb hi
    by_cases hlt : k < m
    · have hd : decide ((k : Int) < (m : Int)) = true := by simp; omega
      obtain ⟨b, o, rfl, hbl, a1, c1, a2, c2, e0, e1, ⟨hc1, hL1⟩, hc2, hL2⟩ := H1.out.at k (by rw [← HN.out]; exact hlt)
      have f0 := (HB.out.cell (p := ⟨b, o + k * 2, none⟩) hbl).trans e0
      have f1 := (HB.out.cell (p := ⟨b, o + k * 2 + 1, none⟩) hbl).trans e1
      have hst := perG_step (q, t, n) L k (by rw [← HN.out]; exact hlt)
      have hsm := HL.out.at (i := k) (by rw [← HN.out]; exact hlt)
      have hzk := HZ.out (L.getD k noSub) (by rw [List.getD_eq_getElem?_getD, List.getElem?_eq_getElem (by rw [← HN.out]; exact hlt)]; exact List.getElem_mem _)
      clear e0 e1 hbl
      generalize L.getD k noSub = G at f0 f1 hst hsm hzk hL1 hL2 hc1 hc2
      obtain ⟨A, B⟩ := G
      simp only at f0 f1 hL1 hL2 hc1 hc2 hsm hst hzk
      obtain ⟨NA, hNA⟩ : ∃ NA, NA = A.length := ⟨_, rfl⟩
      obtain ⟨NB, hNB⟩ : ∃ NB, NB = B.length := ⟨_, rfl⟩
      rw [← hNA] at f0
      rw [← hNB] at f1
      obtain ⟨W2, hW2⟩ : ∃ W2, W2 = wz.alloc (.cells #[.slice a1 NA c1, .slice a2 NB c2] 24) := ⟨_, rfl⟩
      have hb2 : Below wz.heap.size wz W2 := by rw [hW2]; exact belowNew wz _
      obtain ⟨s0, s1, ls⟩ := two_facts (w := W2) (g := wz.heap.size) (by rw [hW2]; exact heap_alloc_new wz _)
      have hbw := below_next HB.out hb2
      have HB2 := Lib.hid hbw
      have p0 := cell_regrown ((hbw.cell (p := ⟨w.heap.size + 1, 0, none⟩) lb).trans P0.out)
      have p1 := cell_regrown ((hbw.cell (p := ⟨w.heap.size + 1, 1, none⟩) lb).trans P1.out)
      have p2 := cell_regrown ((hbw.cell (p := ⟨w.heap.size + 1, 2, none⟩) lb).trans P2.out)
      have r0 := cell_regrown s0
      have r1 := cell_regrown s1
      have HD := Lib.hid (fun W (hb : Below W2.heap.size W2 W) => haskind_core a1 c1 NA A q W (((hL1.below HB.out).below hb2).below hb) hNA (by omega))
      obtain ⟨y, hy⟩ : ∃ y, y = limG A q := ⟨_, rfl⟩
      rw [← hy] at HD hst
      have HA := Lib.hid (fun W (hb : Below W2.heap.size W2 W) => ppermits_core a1 a2 ag c1 c2 NA NB cg N A B y q t n W (((hL1.below HB.out).below hb2).below hb) (((hL2.below HB.out).below hb2).below hb) hNA hNB ⟨by omega, by omega⟩ ((HG.out.below hbw).below hb) HNN.out HNC.out HS.out hsm ((HMK.out.below hbw).below hb))
      have hvv : (!(inG (q, t, n) B || y && !inG (q, t, n) A)) = (!inG (q, t, n) B && (!y || inG (q, t, n) A)) := by cases inG (q, t, n) B <;> cases y <;> cases inG (q, t, n) A <;> rfl
      rw [hvv] at hst
      generalize (!inG (q, t, n) B && (!y || inG (q, t, n) A)) = V at HA hst
      have HST := Lib.hid (HI.out.trans hst)
      have HLT := Lib.hid hlt
      have z1 : ∀ d os, _ := fun d os => Calls.regrown_of (HD.out (Sort.grow (redrawn W2 d) os) (below_regrown W2 d os))
      have z2 : ∀ d os, _ := fun d os => Calls.regrown_of (HA.out (Sort.grow (redrawn W2 d) os) (below_regrown W2 d os))
      have HWE := hW2.symm
      clear hst hvv hsm hL1 hc1 hL2 hc2 hNA hNB hW2 hb2 hzk hbw hy s0 s1 ls
      go_wp2_with fail
      refine wp_region_quiet_below (by kernel_rfl) (by kernel_rfl) ?_
      repeat (go_big_quiet_step (with_reducible first | exact z1 _ _ | exact z2 _ _))
      refine wpQuiet_nil ?_
      intro _ hw'
      obtain ⟨⟨dq, osq⟩, hw''⟩ := hw'
      subst hw''
      have HBR := Lib.hid (below_next HB2.out (below_regrown W2 dq osq))
      clear z1 z2 p0 p1 p2 r0 r1
      cases V with
      | true =>
        go_wp2_with fail
        go_roundw
        case rel => exact ⟨k + 1, HLT.out, by go_num, by rw [HST.out]; rfl, HBR.out⟩
        case measure => simp [intOf]; omega
      | false =>
        go_wp2_with fail
        go_ret
        exact ⟨by rw [HST.out]; rfl, below_next HB0.out HBR.out⟩
    · have hd : decide ((k : Int) < (m : Int)) = false := by simp; omega
      obtain rfl : k = m := by omega
      go_wp2_with fail
      go_ret
      exact ⟨by rw [HI.out, List.drop_of_length_le (by rw [← HN.out]; exact Nat.le_refl _)]; rfl, below_next HB0.out HB.out⟩
end Go.Proofs.YtbpdenfiifcfcaaGreatDoor
