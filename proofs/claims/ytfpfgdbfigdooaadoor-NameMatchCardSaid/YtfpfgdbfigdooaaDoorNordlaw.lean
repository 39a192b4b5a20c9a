/-
  The walk of the law NameOrder: for every list of numbers it returns true, and leaves all that was there as it was.
-/
import Derived.Test.YtfpfgdbfigdooaaDoorNspel
import Derived.Test.YtfpfgdbfigdooaaDoorNawake
import Derived.Test.YtfpfgdbfigdooaaDoorMbh
import Derived.Deep.DeepCutAuto
import Derived.Deep.RegionHeld3
import Derived.Lib.QuietBelow
import Derived.BigQuiet
namespace Go.Proofs.YtfpfgdbfigdooaaDoor
open Go.RowKit

/-- A name of a call's own, in block q. -/
def Held (w : World) (q lo : Nat) (n : Nm) : Prop := ∃ s, w.heap[q]? = some (.cells #[s] 24 (0, 0)) ∧ OwnN w lo s n
theorem Held.but {w w' : World} {p q lo : Nat} {n : Nm} (h : Held w q lo n) (hb : But p w w') (hq : p ≠ q) (hl : p < lo) : Held w' q lo n := by
  obtain ⟨s, h1, h2⟩ := h
  exact ⟨s, (hb.block q (Array.getElem?_eq_some_iff.1 h1).1 (by simp; omega)).trans h1, h2.but hb hl⟩
theorem next_up (p : Nat) (a : Option Addr) (cap : Nat) (zs : List Int) (k N : Nat) (w : World) (h : DeckAt w p a cap zs k) (hk : k < 1000) (hN : N ≤ 1000) :
    Calls Tryd.prog 15 #[.pointer (some ⟨p, 0, none⟩), .int .i64 ((N : Int) + 1)] w fun e w' => ∃ r k' : Nat, r < N + 1 ∧ e = .returned (.int .i64 (r : Int)) ∧ DeckAt w' p a cap zs k' ∧ k' ≤ k + 1 ∧ But p w w' :=
  next_any p a cap zs k (N + 1) w h hk (by omega) (by omega)
theorem deck_up {w : World} {p : Nat} {a : Option Addr} {cap : Nat} {zs : List Int} {k : Nat} (h : DeckAt w p a cap zs k) : DeckAt w.drew p a cap zs k := h.below (Below.refl _ w).drew
theorem spN_of_made {n : Nm} (h : MadeN n) : SpN 20 n := by
  refine ⟨h.1, fun r hr => ⟨(h.2 r hr).1.1, fun x hx => ?_⟩⟩
  have hm := (h.2 r hr).1.2.1 x hx
  have hall : ∀ y ∈ madeL, y.1.size ≤ 100 ∧ y.2.2.size ≤ 20 := by decide
  exact hall x hm
theorem small_of_sp {L : Nat} {n : Nm} (h : SpN L n) (hL : L ≤ 1000) : SmallN n := by
  refine ⟨Nat.le_trans h.1 (by omega), fun i hi => ?_⟩
  have hr := h.2 _ (getD_memS n i hi [])
  refine ⟨Nat.le_trans hr.1 (by omega), fun j hj => ?_⟩
  have hx := hr.2 _ (getD_memS _ j hj noAt)
  exact ⟨Nat.le_trans hx.1 (by omega), Nat.le_trans hx.2 (by omega)⟩

/-- A name that can be read: its slice lies in block q. -/
def HoldAt (V : World) (q : Nat) (a : Option Addr) (N c : Nat) (n : Nm) : Prop := V.cell? ⟨q, 0, none⟩ = some (.slice a N c) ∧ N = n.length ∧ N ≤ c ∧ RLies V a n ∧ SmallN n
theorem Held.open {w : World} {q lo L : Nat} {n : Nm} (h : Held w q lo n) (hs : SpN L n) (hL : L ≤ 1000) : ∃ a N c, HoldAt w q a N c n := by
  obtain ⟨s, h1, h2⟩ := h
  obtain ⟨a, c, rfl, hc, hl⟩ := h2.lies
  exact ⟨a, n.length, c, (one_facts h1).1, rfl, hc, hl, small_of_sp hs hL⟩
theorem HoldAt.below {w w' : World} {q N c : Nat} {a : Option Addr} {n : Nm} (h : HoldAt w q a N c n) (hb : Below w.heap.size w w') : HoldAt w' q a N c n :=
  ⟨(hb.cell (p := ⟨q, 0, none⟩) (block_lt h.1)).trans h.1, h.2.1, h.2.2.1, h.2.2.2.1.below hb, h.2.2.2.2⟩
theorem hold_match {V : World} {q1 N1 c1 q2 N2 c2 : Nat} {a1 a2 : Option Addr} {n1 n2 : Nm} (h1 : HoldAt V q1 a1 N1 c1 n1) (h2 : HoldAt V q2 a2 N2 c2 n2) (v : Bool) (hv : decide (MatchN n1 n2) = v) (d : Nat) (os : Array Obj) :
    Calls Tryd.prog 16 #[.agg #[.slice a1 N1 c1], .agg #[.slice a2 N2 c2]] (Sort.grow (redrawn V d) os) fun e w'' => e = .returned (.bool v) ∧ ∃ p : Regrown, w'' = Sort.grow (redrawn V p.d) p.os := by
  refine Calls.regrown_of ?_
  rw [← hv]
  exact match_core a1 a2 c1 c2 N1 N2 n1 n2 _ (h1.2.2.2.1.below (below_regrown V d os)) (h2.2.2.2.1.below (below_regrown V d os)) h1.2.1 h2.2.1 h1.2.2.2.2 h2.2.2.2.2
theorem hold_within {V : World} {q1 N1 c1 q2 N2 c2 : Nat} {a1 a2 : Option Addr} {n1 n2 : Nm} (h1 : HoldAt V q1 a1 N1 c1 n1) (h2 : HoldAt V q2 a2 N2 c2 n2) (v : Bool) (hv : decide (WithinN n1 n2) = v) (d : Nat) (os : Array Obj) :
    Calls Tryd.prog 18 #[.agg #[.slice a1 N1 c1], .agg #[.slice a2 N2 c2]] (Sort.grow (redrawn V d) os) fun e w'' => e = .returned (.bool v) ∧ ∃ p : Regrown, w'' = Sort.grow (redrawn V p.d) p.os := by
  refine Calls.regrown_of ?_
  rw [← hv]
  exact within_core a1 a2 c1 c2 N1 N2 n1 n2 _ (h1.2.2.2.1.below (below_regrown V d os)) (h2.2.2.2.1.below (below_regrown V d os)) h1.2.1 h2.2.1 h1.2.2.1 h1.2.2.2.2 h2.2.2.2.2
theorem awake_held {V : World} (hT : Tab V) (hS : ShT V) (d : Nat) (os : Array Obj) :
    Calls Tryd.prog 10 #[] (Sort.grow (redrawn V d) os) fun e w'' => e = .returned (.bool true) ∧ ∃ p : Regrown, w'' = Sort.grow (redrawn V p.d) p.os :=
  Calls.regrown_of (awake_any _ (hT.below (below_regrown V d os)) (hS.below (below_regrown V d os)))

set_option maxRecDepth 100000 in
set_option maxHeartbeats 8000000 in
theorem ordlaw (a : Option Addr) (cap : Nat) (zs : List Int) (w : World) (hl : ILies w a zs) (hz : zs.length ≤ 9223372036854775807) (hT : Tab w) (hS : ShT w) :
    Calls Tryd.prog 5 #[.slice a zs.length cap] w fun e w' => e = .returned (.bool true) ∧ Below w.heap.size w w' := by
  have HL := Lib.hid (new_any a cap zs w hl hz)
  have HT := Lib.hid hT
  have HS := Lib.hid hS
  obtain ⟨p, hp⟩ : ∃ p, p = w.heap.size := ⟨_, rfl⟩
  have HP := Lib.hid hp
  clear hl hT hS hp
  go_enter Tryd.func5, Tryd.ntmps5
  go_wp2_with fail
  refine HL.out.mono ?_
  rintro e w1 ⟨rfl, hd, hb⟩
  rw [← HP.out] at hd hb ⊢
  have HB1 := Lib.hid hb
  have HD1 := Lib.hid hd
  clear hd hb
  go_wp2_with fail
  refine (name_any p a cap zs 0 w1 HD1.out (by omega)).mono ?_
  rintro e w2 ⟨v, n, k2, hmade, rfl, ⟨s, rfl, hown⟩, hd, hk2, hb⟩
  have hp1 := HD1.out.lt
  obtain ⟨aA, cA, rfl, hcA, _⟩ := hown.lies
  obtain ⟨A, hA⟩ : ∃ A, A = w2.heap.size := ⟨_, rfl⟩
  have hpA : p < A := by rw [hA]; exact hd.lt
  obtain ⟨W3, hW3⟩ : ∃ W3, W3 = w2.alloc (.cells #[.slice aA n.length cA] 24) := ⟨_, rfl⟩
  have HH := Lib.hid (show Held W3 A w1.heap.size n from ⟨_, by rw [hW3, hA]; exact heap_alloc_new w2 _, by rw [hW3]; exact hown.below (belowNew w2 _)⟩)
  have HD := Lib.hid (show DeckAt W3 p a cap zs k2 by rw [hW3]; exact hd.below (belowNew w2 _))
  have HBW := Lib.hid (show Below p w W3 by rw [hW3]; exact (HB1.out.trans ((hb.below (Nat.le_of_lt hp1)))).trans ((belowNew w2 _).mono (by omega)))
  have HSn := Lib.hid (spN_of_made hmade)
  have HW3 := Lib.hid hW3.symm
  have HA := Lib.hid hA
  clear hd hb hown hmade hA hW3
  go_wp2_with fail
  rw [HW3.out, ← HA.out]
  have hp1' : p < w1.heap.size := hp1
  generalize w1.heap.size = lo at HH hp1'
  go_cut [5] (fun s5 wx => ∃ (b lo2 : Nat) (m : Nm) (r k3 : Nat), s5 = .pointer (some ⟨b, 0, none⟩) ∧ r ≤ n.length ∧ Held wx b lo2 m ∧ p < b ∧ p < lo2 ∧ MatchN (n.take r) m ∧ SpN 21 m ∧ DeckAt wx p a cap zs k3 ∧ k3 ≤ 20 ∧ But p W3 wx)
  case first =>
    obtain ⟨s0, h0, vs, hv1, hv2, hv3⟩ := HH.out
    have hown0 : OwnN W3 lo s0 n := ⟨vs, hv1, hv2, hv3⟩
    obtain ⟨aB, cB, rfl, hcB, _⟩ := hown0.lies
    have HHE := Lib.hid h0
    have HV1 := Lib.hid hv1
    have HV2 := Lib.hid hv2
    have HV3 := Lib.hid hv3
    have c0 : W3.cell? ⟨A, 0, none⟩ = some (.slice aB n.length cB) := (one_facts h0).1
    have hltA : A < W3.heap.size := (one_facts h0).2.2
    have hn3 : n.length ≤ 3 := HSn.out.1
    clear h0 hv1 hv2 hv3 hown0 hcA
    obtain ⟨N, hN⟩ : ∃ N, N = n.length := ⟨_, rfl⟩
    rw [← hN] at c0 hcB hn3
    have HNE := Lib.hid hN
    clear hN
    have hne3 : ¬ A = W3.heap.size := by omega
    have hne3' : ¬ W3.heap.size = A := by omega
    have hwr : IntKind.i64.wrap ((N : Int) + 1) = (N : Int) + 1 := by rw [wrap_i64]; omega
    go_region_held3 (fun w' => w'.cell? ⟨A, 0, none⟩ = some (.slice aB N cB)) (first | assumption | go_keep)
      (first
        | (go_at_call 15; (with_reducible refine (next_up p a cap zs k2 N _ (by first | exact HD.out | exact deck_up HD.out | exact HD.out.below (belowNew _ _) | exact deck_up (HD.out.below (belowNew _ _)) | exact (deck_up HD.out).below (belowNew _ _)) (by omega) (by omega)).mono ?_); rintro e w4 ⟨r, k4, hr, rfl, hd4, hk4, hb4⟩; have hbx : But p W3 w4 := (by first | exact ((But.refl p W3).drew).next hb4 | exact ((But.of (belowNew W3 _)).drew).next hb4 | exact (((But.refl p W3).drew).alloc _).next hb4); have c4 : w4.cell? ⟨A, 0, none⟩ = some (.slice aB N cB) := (cell_same (hbx.block A hltA (by simp; omega)) 0).trans c0; have HBX := Lib.hid hbx; have hlt4 : A < w4.heap.size := block_lt c4; have hne4 : ¬ A = w4.heap.size := (by omega); have hne4' : ¬ w4.heap.size = A := (by omega); have hsl := slice_head aB N cB r (by omega); (try (have h9 : w4.heap[W3.heap.size]? = some (.cells #[.slice none 0 0] 24 (0, 0)) := (hb4.block W3.heap.size (by simp) (by simp; omega)).trans (heap_alloc_new W3 _); have H9 := Lib.hid h9; clear h9)); have HD4 := Lib.hid hd4; have HR4 := Lib.hid hr; have HB4 := Lib.hid hb4; clear hd4 hb4 hbx)
        | (go_at_call 14; (with_reducible refine (spel_any p a cap zs k4 aB r cB cB lo 20 n vs _ (by first | exact HD4.out | exact deck_up HD4.out | exact HD4.out.below (belowNew _ _) | exact deck_up (HD4.out.below (belowNew _ _))) (by omega) HV1.out (by first | exact own_but HV2.out HBX.out hp1' | exact own_but HV2.out HBX.out.drew hp1' | exact own_but HV2.out (HBX.out.alloc _) hp1' | exact own_but HV2.out (HBX.out.alloc _).drew hp1') (by first | exact fun i hi => (HV3.out i hi).but HBX.out hp1' | exact fun i hi => (HV3.out i hi).but HBX.out.drew hp1' | exact fun i hi => (HV3.out i hi).but (HBX.out.alloc _) hp1') hp1' (by rw [← HNE.out]; omega) HSn.out (by omega)).mono ?_); rintro e w6 ⟨v6, m, k6, hm6, hs6, rfl, ⟨s6, rfl, ho6⟩, hd6, hk6, hb6⟩; obtain ⟨a6, c6, rfl, _, _⟩ := ho6.lies; have hbz : But p W3 w6 := (by first | exact HBX.out.next hb6 | exact HBX.out.drew.next hb6 | exact (HBX.out.alloc _).next hb6 | exact (HBX.out.alloc _).drew.next hb6); have c8 : w6.cell? ⟨A, 0, none⟩ = some (.slice aB N cB) := (cell_same (hbz.block A hltA (by simp; omega)) 0).trans c0; have hlt8 : A < w6.heap.size := block_lt c8; (try (have h7 : w6.heap[w4.heap.size]? = some (.cells #[.slice none 0 0] 24 (0, 0)) := (hb6.block w4.heap.size (by simp) (by simp; omega)).trans (heap_alloc_new w4 _); obtain ⟨z0, z1, z2⟩ := one_facts h7; have H7 := Lib.hid h7; clear h7)); (try (have h7 : w6.heap[W3.heap.size]? = some (.cells #[.slice none 0 0] 24 (0, 0)) := (hb6.block W3.heap.size (Array.getElem?_eq_some_iff.1 H9.out).1 (by simp; omega)).trans H9.out; obtain ⟨z0, z1, z2⟩ := one_facts h7; have H7 := Lib.hid h7; clear h7)); have HBZ := Lib.hid hbz; have HB6 := Lib.hid hb6; have HD6 := Lib.hid hd6; have HO6 := Lib.hid ho6; have HM6 := Lib.hid hm6; have HS6 := Lib.hid hs6; clear hbz hb6 hd6 ho6 hm6 hs6))
    all_goals go_wp2_with fail
    all_goals go_meet
    · exact ⟨_, _, m, r, k6, rfl, by have := HR4.out; rw [← HNE.out]; omega, ⟨_, heap_alloc_new w6 _, HO6.out.below (belowNew w6 _)⟩, HD6.out.lt, by have := HD4.out.lt; first | omega | (simp; omega), HM6.out, HS6.out, HD6.out.below (belowNew w6 _), by omega, HBZ.out.alloc _⟩
    · have hs := But.set w4.heap.size 0 w6 (.slice a6 m.length c6)
      exact ⟨_, _, m, r, k6, rfl, by have := HR4.out; rw [← HNE.out]; omega, ⟨_, one_set H7.out, HO6.out.but (p := w4.heap.size) hs (by simp)⟩, HD4.out.lt, by have := HD4.out.lt; first | omega | (simp; omega), HM6.out, HS6.out, HD6.out.grown hs (fun j e => by obtain rfl := Option.some.inj e; exact HD4.out.lt), by omega, HBZ.out.fresh hs HBX.out.size⟩
    · have hs := But.set W3.heap.size 0 w6 (.slice a6 m.length c6)
      have hlt9 := (Array.getElem?_eq_some_iff.1 H9.out).1
      exact ⟨_, _, m, r, k6, rfl, by have := HR4.out; rw [← HNE.out]; omega, ⟨_, one_set H7.out, HO6.out.but (p := W3.heap.size) hs (by first | exact hlt9 | (simp; omega))⟩, by omega, by have := HD4.out.lt; first | omega | (simp; omega), HM6.out, HS6.out, HD6.out.grown hs (fun j e => by obtain rfl := Option.some.inj e; omega), by omega, HBZ.out.fresh hs (Nat.le_refl _)⟩
  case rest =>
    obtain ⟨b5, lo5, m5, r5, k5, rfl, hr5, hh5, hpb5, hpl5, hm5, hs5, hd5, hk5, hb5⟩ := hcut
    have HH5 := Lib.hid hh5
    have HM5 := Lib.hid hm5
    have HS5 := Lib.hid hs5
    have HD5 := Lib.hid hd5
    have HB5 := Lib.hid hb5
    have HHA := Lib.hid (HH.out.but hb5 (by omega) hp1')
    clear hh5 hm5 hs5 hd5 hb5
    go_wp2_with fail
    go_cut [6] (fun s6 wx => ∃ (b lo2 : Nat) (m : Nm) (r k3 : Nat), s6 = .pointer (some ⟨b, 0, none⟩) ∧ r ≤ m5.length ∧ Held wx b lo2 m ∧ p < b ∧ p < lo2 ∧ MatchN (m5.take r) m ∧ SpN 22 m ∧ DeckAt wx p a cap zs k3 ∧ k3 ≤ 40 ∧ But p wc wx)
    case first =>
      obtain ⟨s0, h0, vs, hv1, hv2, hv3⟩ := HH5.out
      have hown0 : OwnN wc lo5 s0 m5 := ⟨vs, hv1, hv2, hv3⟩
      obtain ⟨aB, cB, rfl, hcB, _⟩ := hown0.lies
      have HHE := Lib.hid h0
      have HV1 := Lib.hid hv1
      have HV2 := Lib.hid hv2
      have HV3 := Lib.hid hv3
      have c0 : wc.cell? ⟨b5, 0, none⟩ = some (.slice aB m5.length cB) := (one_facts h0).1
      have hltA : b5 < wc.heap.size := (one_facts h0).2.2
      have hn3 : m5.length ≤ 3 := HS5.out.1
      clear h0 hv1 hv2 hv3 hown0
      obtain ⟨N, hN⟩ : ∃ N, N = m5.length := ⟨_, rfl⟩
      rw [← hN] at c0 hcB hn3
      have HNE := Lib.hid hN
      clear hN
      have hne3 : ¬ b5 = wc.heap.size := by omega
      have hne3' : ¬ wc.heap.size = b5 := by omega
      have hwr : IntKind.i64.wrap ((N : Int) + 1) = (N : Int) + 1 := by rw [wrap_i64]; omega
      go_region_held3 (fun w' => w'.cell? ⟨b5, 0, none⟩ = some (.slice aB N cB)) (first | assumption | go_keep)
        (first
          | (go_at_call 15; (with_reducible refine (next_up p a cap zs k5 N _ (by first | exact HD5.out | exact deck_up HD5.out | exact HD5.out.below (belowNew _ _) | exact deck_up (HD5.out.below (belowNew _ _)) | exact (deck_up HD5.out).below (belowNew _ _)) (by omega) (by omega)).mono ?_); rintro e w4 ⟨r, k4, hr, rfl, hd4, hk4, hb4⟩; have hbx : But p wc w4 := (by first | exact ((But.refl p wc).drew).next hb4 | exact ((But.of (belowNew wc _)).drew).next hb4 | exact (((But.refl p wc).drew).alloc _).next hb4); have c4 : w4.cell? ⟨b5, 0, none⟩ = some (.slice aB N cB) := (cell_same (hbx.block b5 hltA (by simp; omega)) 0).trans c0; have HBX := Lib.hid hbx; have hlt4 : b5 < w4.heap.size := block_lt c4; have hne4 : ¬ b5 = w4.heap.size := (by omega); have hne4' : ¬ w4.heap.size = b5 := (by omega); have hsl := slice_head aB N cB r (by omega); (try (have h9 : w4.heap[wc.heap.size]? = some (.cells #[.slice none 0 0] 24 (0, 0)) := (hb4.block wc.heap.size (by simp) (by simp; omega)).trans (heap_alloc_new wc _); have H9 := Lib.hid h9; clear h9)); have HD4 := Lib.hid hd4; have HR4 := Lib.hid hr; have HB4 := Lib.hid hb4; clear hd4 hb4 hbx)
          | (go_at_call 14; (with_reducible refine (spel_any p a cap zs k4 aB r cB cB lo5 21 m5 vs _ (by first | exact HD4.out | exact deck_up HD4.out | exact HD4.out.below (belowNew _ _) | exact deck_up (HD4.out.below (belowNew _ _))) (by omega) HV1.out (by first | exact own_but HV2.out HBX.out hpl5 | exact own_but HV2.out HBX.out.drew hpl5 | exact own_but HV2.out (HBX.out.alloc _) hpl5 | exact own_but HV2.out (HBX.out.alloc _).drew hpl5) (by first | exact fun i hi => (HV3.out i hi).but HBX.out hpl5 | exact fun i hi => (HV3.out i hi).but HBX.out.drew hpl5 | exact fun i hi => (HV3.out i hi).but (HBX.out.alloc _) hpl5) hpl5 (by rw [← HNE.out]; omega) HS5.out (by omega)).mono ?_); rintro e w6 ⟨v6, m, k6, hm6, hs6, rfl, ⟨s6, rfl, ho6⟩, hd6, hk6, hb6⟩; obtain ⟨a6, c6, rfl, _, _⟩ := ho6.lies; have hbz : But p wc w6 := (by first | exact HBX.out.next hb6 | exact HBX.out.drew.next hb6 | exact (HBX.out.alloc _).next hb6 | exact (HBX.out.alloc _).drew.next hb6); have c8 : w6.cell? ⟨b5, 0, none⟩ = some (.slice aB N cB) := (cell_same (hbz.block b5 hltA (by simp; omega)) 0).trans c0; have hlt8 : b5 < w6.heap.size := block_lt c8; (try (have h7 : w6.heap[w4.heap.size]? = some (.cells #[.slice none 0 0] 24 (0, 0)) := (hb6.block w4.heap.size (by simp) (by simp; omega)).trans (heap_alloc_new w4 _); obtain ⟨z0, z1, z2⟩ := one_facts h7; have H7 := Lib.hid h7; clear h7)); (try (have h7 : w6.heap[wc.heap.size]? = some (.cells #[.slice none 0 0] 24 (0, 0)) := (hb6.block wc.heap.size (Array.getElem?_eq_some_iff.1 H9.out).1 (by simp; omega)).trans H9.out; obtain ⟨z0, z1, z2⟩ := one_facts h7; have H7 := Lib.hid h7; clear h7)); have HBZ := Lib.hid hbz; have HB6 := Lib.hid hb6; have HD6 := Lib.hid hd6; have HO6 := Lib.hid ho6; have HM6 := Lib.hid hm6; have HS6 := Lib.hid hs6; clear hbz hb6 hd6 ho6 hm6 hs6))
      all_goals go_wp2_with fail
      all_goals go_meet
      · exact ⟨_, _, m, r, k6, rfl, by have := HR4.out; rw [← HNE.out]; omega, ⟨_, heap_alloc_new w6 _, HO6.out.below (belowNew w6 _)⟩, HD6.out.lt, by have := HD4.out.lt; first | omega | (simp; omega), HM6.out, HS6.out, HD6.out.below (belowNew w6 _), by omega, HBZ.out.alloc _⟩
      · have hs := But.set w4.heap.size 0 w6 (.slice a6 m.length c6)
        exact ⟨_, _, m, r, k6, rfl, by have := HR4.out; rw [← HNE.out]; omega, ⟨_, one_set H7.out, HO6.out.but (p := w4.heap.size) hs (by simp)⟩, HD4.out.lt, by have := HD4.out.lt; first | omega | (simp; omega), HM6.out, HS6.out, HD6.out.grown hs (fun j e => by obtain rfl := Option.some.inj e; exact HD4.out.lt), by omega, HBZ.out.fresh hs HBX.out.size⟩
      · have hs := But.set wc.heap.size 0 w6 (.slice a6 m.length c6)
        have hlt9 := (Array.getElem?_eq_some_iff.1 H9.out).1
        exact ⟨_, _, m, r, k6, rfl, by have := HR4.out; rw [← HNE.out]; omega, ⟨_, one_set H7.out, HO6.out.but (p := wc.heap.size) hs (by first | exact hlt9 | (simp; omega))⟩, by omega, by have := HD4.out.lt; first | omega | (simp; omega), HM6.out, HS6.out, HD6.out.grown hs (fun j e => by obtain rfl := Option.some.inj e; omega), by omega, HBZ.out.fresh hs (Nat.le_refl _)⟩
    case rest =>
      obtain ⟨b6, lo6, m6, r6, k6, rfl, hr6, hh6, hpb6, hpl6, hm6, hs6, hd6, hk6, hb6⟩ := hcut
      have HH6 := Lib.hid hh6
      have HM6 := Lib.hid hm6
      have HS6 := Lib.hid hs6
      have HB6 := Lib.hid hb6
      have HD6 := Lib.hid hd6
      have HHA6 := Lib.hid (HHA.out.but hb6 (by omega) hp1')
      have HH56 := Lib.hid (HH5.out.but hb6 (by omega) hpl5)
      clear hh6 hm6 hs6 hb6 hd6
      go_wp2_with fail
      refine (name_any p a cap zs k6 _ HD6.out (by omega)).mono ?_
      rintro e w7 ⟨v7, n7, k7, hmade7, rfl, ⟨s7, rfl, hown7⟩, hd7, hk7, hb7⟩
      obtain ⟨a7, c7, rfl, hc7, _⟩ := hown7.lies
      have HHA7 := Lib.hid (HHA6.out.but hb7 (by omega) hp1')
      have HH57 := Lib.hid (HH56.out.but hb7 (by omega) hpl5)
      have HH67 := Lib.hid (HH6.out.but hb7 (by omega) hpl6)
      have HO7 := Lib.hid hown7
      have HSN7 := Lib.hid (spN_of_made hmade7)
      have HB7 := Lib.hid hb7
      have HD7 := Lib.hid hd7
      clear hown7 hmade7 hb7 hd7
      go_wp2_with fail
      obtain ⟨b7, hb7⟩ : ∃ b7, b7 = w7.heap.size := ⟨_, rfl⟩
      obtain ⟨V, hV⟩ : ∃ V, V = w7.alloc (.cells #[.slice a7 n7.length c7] 24) := ⟨_, rfl⟩
      have hbn : Below w7.heap.size w7 V := by rw [hV]; exact belowNew w7 _
      obtain ⟨e1, f1, g1, H1⟩ := (HHA7.out.open HSn.out (by omega))
      obtain ⟨e2, f2, g2, H2⟩ := (HH57.out.open HS5.out (by omega))
      obtain ⟨e3, f3, g3, H3⟩ := (HH67.out.open HS6.out (by omega))
      have H4 : HoldAt V b7 a7 n7.length c7 n7 := by
        obtain ⟨a8, c8, hh, hc8, hl8⟩ := HO7.out.lies
        obtain ⟨rfl, rfl⟩ : a7 = a8 ∧ c7 = c8 := by simpa using hh
        refine ⟨?_, rfl, hc8, hl8.below hbn, small_of_sp HSN7.out (by omega)⟩
        rw [hV, hb7]
        exact (one_facts (heap_alloc_new w7 _)).1
      replace H1 := H1.below hbn
      replace H2 := H2.below hbn
      replace H3 := H3.below hbn
      have HBV := Lib.hid (show Below p w V from (HBW.out.trans (((HB5.out.next HB6.out).next HB7.out).below (Nat.le_of_lt (by have := (show p < W3.heap.size from HD.out.lt); exact this)))).trans (hbn.mono (Nat.le_of_lt HD7.out.lt)))
      rw [← hV, ← hb7]
      have HWA := Lib.hid (show WithinN n m5 from (take_within n r5).trans HM5.out.within)
      have HWB := Lib.hid (show WithinN m5 m6 from (take_within m5 r6).trans HM6.out.within)
      have hsy : decide (MatchN n7 n) = decide (MatchN n n7) := by rw [decide_eq_decide]; exact ⟨fun h => h.symm, fun h => h.symm⟩
      have HTV := Lib.hid (show Below w.heap.size w V by rw [← HP.out]; exact HBV.out)
      have HH1 := Lib.hid H1
      have HH2 := Lib.hid H2
      have HH3 := Lib.hid H3
      have HH4 := Lib.hid H4
      clear H1 H2 H3 H4 hV hb7 hbn
      cases hx : decide (MatchN n n7) with
      | true =>
        rw [hx] at hsy
        have c1 := cell_regrown HH1.out.1
        have c2 := cell_regrown HH2.out.1
        have c3 := cell_regrown HH3.out.1
        have c4 := cell_regrown HH4.out.1
        have d1 := hold_match HH1.out HH4.out true hx
        have d2 := hold_match HH4.out HH1.out true hsy
        have d3 := hold_within HH1.out HH4.out true (decide_eq_true (of_decide_eq_true hx).within)
        have d4 := hold_within HH4.out HH1.out true (decide_eq_true (of_decide_eq_true hx).symm.within)
        clear hx hsy
        refine wp_region_quiet_below (by kernel_rfl) (by kernel_rfl) ?_
        repeat (go_big_quiet_step (with_reducible first | exact d1 _ _ | exact d2 _ _ | exact d3 _ _ | exact d4 _ _))
        refine wpQuiet_nil ?_
        intro _ hw'
        obtain ⟨⟨dq, osq⟩, hw''⟩ := hw'
        subst hw''
        clear c1 c2 c3 c4 d1 d2 d3 d4
        have hbr := below_regrown V dq osq
        have HK1 := Lib.hid (HH1.out.below hbr)
        have HK2 := Lib.hid (HH2.out.below hbr)
        have HK3 := Lib.hid (HH3.out.below hbr)
        have HTW := Lib.hid (below_next HTV.out hbr)
        generalize Sort.grow (redrawn V dq) osq = V2 at hbr HK1 HK2 HK3 HTW ⊢
        clear hbr
        go_wp2_with fail
        have ht := awake_held (HT.out.below HTW.out) (HS.out.below HTW.out)
        have c1 := cell_regrown HK1.out.1
        have c2 := cell_regrown HK2.out.1
        have c3 := cell_regrown HK3.out.1
        have d1 := hold_match HK1.out HK1.out true (decide_eq_true (MatchN.refl n))
        have d2 := hold_within HK1.out HK2.out true (decide_eq_true HWA.out)
        have d3 := hold_within HK2.out HK3.out true (decide_eq_true HWB.out)
        have d4 := hold_within HK1.out HK3.out true (decide_eq_true (HWA.out.trans HWB.out))
        cases hy : decide (MatchN n m5) with
        | true =>
          have d5 := hold_match HK1.out HK2.out true hy
          have d6 := hold_within HK2.out HK1.out true (decide_eq_true (of_decide_eq_true hy).symm.within)
          clear hy
          refine wp_region_quiet_below (by kernel_rfl) (by kernel_rfl) ?_
          repeat (go_big_quiet_step (with_reducible first | exact ht _ _ | exact d1 _ _ | exact d2 _ _ | exact d3 _ _ | exact d4 _ _ | exact d5 _ _ | exact d6 _ _))
          refine wpQuiet_nil ?_
          intro _ hw'
          obtain ⟨⟨dq, osq⟩, hw''⟩ := hw'
          subst hw''
          have HZ := Lib.hid (below_next HTW.out (below_regrown V2 dq osq))
          clear c1 c2 c3 d1 d2 d3 d4 d5 d6 ht
          go_wp2_with fail
          go_ret
          exact ⟨rfl, HZ.out⟩
        | false =>
          have d5 := hold_match HK1.out HK2.out false hy
          have d6 := hold_within HK2.out HK1.out false (decide_eq_false (fun h => of_decide_eq_false hy (HWA.out.both h)))
          clear hy
          refine wp_region_quiet_below (by kernel_rfl) (by kernel_rfl) ?_
          repeat (go_big_quiet_step (with_reducible first | exact ht _ _ | exact d1 _ _ | exact d2 _ _ | exact d3 _ _ | exact d4 _ _ | exact d5 _ _ | exact d6 _ _))
          refine wpQuiet_nil ?_
          intro _ hw'
          obtain ⟨⟨dq, osq⟩, hw''⟩ := hw'
          subst hw''
          have HZ := Lib.hid (below_next HTW.out (below_regrown V2 dq osq))
          clear c1 c2 c3 d1 d2 d3 d4 d5 d6 ht
          go_wp2_with fail
          go_ret
          exact ⟨rfl, HZ.out⟩
      | false =>
        rw [hx] at hsy
        have c1 := cell_regrown HH1.out.1
        have c2 := cell_regrown HH2.out.1
        have c3 := cell_regrown HH3.out.1
        have c4 := cell_regrown HH4.out.1
        have d1 := hold_match HH1.out HH4.out false hx
        have d2 := hold_match HH4.out HH1.out false hsy
        clear hx hsy
        refine wp_region_quiet_below (by kernel_rfl) (by kernel_rfl) ?_
        repeat (go_big_quiet_step (with_reducible first | exact d1 _ _ | exact d2 _ _))
        refine wpQuiet_nil ?_
        intro _ hw'
        obtain ⟨⟨dq, osq⟩, hw''⟩ := hw'
        subst hw''
        clear c1 c2 c3 c4 d1 d2
        have hbr := below_regrown V dq osq
        have HK1 := Lib.hid (HH1.out.below hbr)
        have HK2 := Lib.hid (HH2.out.below hbr)
        have HK3 := Lib.hid (HH3.out.below hbr)
        have HTW := Lib.hid (below_next HTV.out hbr)
        generalize Sort.grow (redrawn V dq) osq = V2 at hbr HK1 HK2 HK3 HTW ⊢
        clear hbr
        go_wp2_with fail
        have ht := awake_held (HT.out.below HTW.out) (HS.out.below HTW.out)
        have c1 := cell_regrown HK1.out.1
        have c2 := cell_regrown HK2.out.1
        have c3 := cell_regrown HK3.out.1
        have d1 := hold_match HK1.out HK1.out true (decide_eq_true (MatchN.refl n))
        have d2 := hold_within HK1.out HK2.out true (decide_eq_true HWA.out)
        have d3 := hold_within HK2.out HK3.out true (decide_eq_true HWB.out)
        have d4 := hold_within HK1.out HK3.out true (decide_eq_true (HWA.out.trans HWB.out))
        cases hy : decide (MatchN n m5) with
        | true =>
          have d5 := hold_match HK1.out HK2.out true hy
          have d6 := hold_within HK2.out HK1.out true (decide_eq_true (of_decide_eq_true hy).symm.within)
          clear hy
          refine wp_region_quiet_below (by kernel_rfl) (by kernel_rfl) ?_
          repeat (go_big_quiet_step (with_reducible first | exact ht _ _ | exact d1 _ _ | exact d2 _ _ | exact d3 _ _ | exact d4 _ _ | exact d5 _ _ | exact d6 _ _))
          refine wpQuiet_nil ?_
          intro _ hw'
          obtain ⟨⟨dq, osq⟩, hw''⟩ := hw'
          subst hw''
          have HZ := Lib.hid (below_next HTW.out (below_regrown V2 dq osq))
          clear c1 c2 c3 d1 d2 d3 d4 d5 d6 ht
          go_wp2_with fail
          go_ret
          exact ⟨rfl, HZ.out⟩
        | false =>
          have d5 := hold_match HK1.out HK2.out false hy
          have d6 := hold_within HK2.out HK1.out false (decide_eq_false (fun h => of_decide_eq_false hy (HWA.out.both h)))
          clear hy
          refine wp_region_quiet_below (by kernel_rfl) (by kernel_rfl) ?_
          repeat (go_big_quiet_step (with_reducible first | exact ht _ _ | exact d1 _ _ | exact d2 _ _ | exact d3 _ _ | exact d4 _ _ | exact d5 _ _ | exact d6 _ _))
          refine wpQuiet_nil ?_
          intro _ hw'
          obtain ⟨⟨dq, osq⟩, hw''⟩ := hw'
          subst hw''
          have HZ := Lib.hid (below_next HTW.out (below_regrown V2 dq osq))
          clear c1 c2 c3 d1 d2 d3 d4 d5 d6 ht
          go_wp2_with fail
          go_ret
          exact ⟨rfl, HZ.out⟩
end Go.Proofs.YtfpfgdbfigdooaaDoor
