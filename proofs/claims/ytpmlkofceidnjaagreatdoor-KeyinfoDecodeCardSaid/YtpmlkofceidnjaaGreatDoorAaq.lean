/-
  The contracts of the reference's Open, Need, End and attribute.
  The contract of the reference's CheckAlgorithm.
-/
import Derived.Test.YtpmlkofceidnjaaGreatDoorAaj
import Derived.Test.YtpmlkofceidnjaaGreatDoorAap
namespace Go.Proofs.YtpmlkofceidnjaaGreatDoor
open Go.RowKit

theorem fiRes {fn : Func} {p u : Tmp} (h : fn.results = #[.cell p 65, .tmp u]) (tmps : Array Value) (w : World) (g : Nat) (x y : Value)
    (hp : tmps.getD p undef = .pointer (some ⟨g, 0, none⟩)) (hg : w.heap[g]? = some (.cells #[x, y] 65 (0, 0))) :
    (results fn tmps).run Tryz.prog w = .ok (.tuple #[.agg #[x, y], tmps.getD u undef]) w :=
  results_cell_row2 h tmps w g 65 #[x, y] (0, 0) _ hp hg Tryz.underlying65 rfl (by kernel_rfl)
theorem fi_facts {w : World} {g : Nat} {x y : Value} {t : TypeId} (h : w.heap[g]? = some (.cells #[x, y] t (0, 0))) :
    w.cell? ⟨g, 0, none⟩ = some x ∧ w.cell? ⟨g, 1, none⟩ = some y ∧ w.frozen? ⟨g, 0, none⟩ = false ∧ w.frozen? ⟨g, 1, none⟩ = false ∧ g < w.heap.size := by
  refine ⟨?_, ?_, Lib.frozen_of_heap h 0, Lib.frozen_of_heap h 1, (Array.getElem?_eq_some_iff.1 h).1⟩
  · rw [Lib.cell_of_heap h]; rfl
  · rw [Lib.cell_of_heap h]; rfl
theorem fi_set {w : World} {g : Nat} {x y a b : Value} {t : TypeId} (h : w.heap[g]? = some (.cells #[x, y] t (0, 0))) :
    ((w.setCell ⟨g, 0, none⟩ a).setCell ⟨g, 1, none⟩ b).heap[g]? = some (.cells #[a, b] t (0, 0)) := by
  simp [World.setCell, Array.getElem?_modify, h]
theorem fi_set1 {w : World} {g : Nat} {x y b : Value} {t : TypeId} (h : w.heap[g]? = some (.cells #[x, y] t (0, 0))) : (w.setCell ⟨g, 1, none⟩ b).heap[g]? = some (.cells #[x, b] t (0, 0)) := by
  simp [World.setCell, Array.getElem?_modify, h]
/-- What Open answers. -/
def opnE (x : El) (T : Nat) : Nat := if x.1 ≠ T then 5 else (lst x.2.1).2
def opnL (x : El) (T : Nat) : List El := if x.1 ≠ T then [] else (lst x.2.1).1
set_option maxRecDepth 100000 in
set_option maxHeartbeats 2000000 in
theorem ropen_any (x : El) (T : Nat) (w : World) (hx : x.2.1.size ≤ 1099511627776) :
    Calls Tryz.prog 39 #[elV x.1 x.2.1 x.2.2, .int .i64 (T : Int)] w fun e w' => (∃ v, e = .returned (.tuple #[.agg #[v, .int .i64 0], .int .i64 ((opnE x T : Nat) : Int)]) ∧ OwnE w' w.heap.size v (opnL x T)) ∧ Below w.heap.size w w' := by
  obtain ⟨t, ct, rw0⟩ := x
  unfold elV opnE opnL
  simp only at hx ⊢
  obtain ⟨W0, hW0⟩ : ∃ W0, W0 = (w.alloc (.cells #[.int .i64 ((t : Nat) : Int), .string ct, .string rw0] 42)).alloc (.cells #[.slice none 0 0, .int .i64 0] 65) := ⟨_, rfl⟩
  have hwe := hW0.symm
  have hb0 : Below w.heap.size w W0 := by rw [hW0]; exact belowTwo w _ _
  have q0 : W0.heap[w.heap.size]? = some (.cells #[.int .i64 ((t : Nat) : Int), .string ct, .string rw0] 42 (0, 0)) := by
    rw [hW0]; exact ((belowNew _ _).block _ (by simp)).trans (heap_alloc_new w _)
  have q1 : W0.heap[w.heap.size + 1]? = some (.cells #[.slice none 0 0, .int .i64 0] 65 (0, 0)) := by
    have := heap_alloc_new (w.alloc (.cells #[.int .i64 ((t : Nat) : Int), .string ct, .string rw0] 42)) (.cells #[.slice none 0 0, .int .i64 0] 65)
    rw [← hW0] at this
    simpa using this
  obtain ⟨e0, e1, e2, _, _, _, el⟩ := at_facts q0
  obtain ⟨r0, r1, g0, g1, rl⟩ := fi_facts q1
  have HB0 := Lib.hid hb0
  have HQ1 := Lib.hid q1
  have hz0 : W0.heap.size = w.heap.size + 2 := by rw [hW0]; simp
  clear hW0 hb0 q0 q1
  by_cases ht : t = T
  case neg =>
    have hd : ((t : Int) != (T : Int)) = true := by simp; omega
    rw [if_pos ht, if_pos ht]
    clear ht
    go_enter Tryz.func39, Tryz.ntmps39
    go_wp2_with fail
    exact bodyPost_ret (fiRes rfl _ _ _ _ _ rfl (fi_set HQ1.out)) rfl ⟨⟨_, rfl, World.ownsRow_nil _ _ _ _⟩, (HB0.out.setCell (p := ⟨w.heap.size + 1, 0, none⟩) (Nat.le_succ _) _).setCell (p := ⟨w.heap.size + 1, 1, none⟩) (Nat.le_succ _) _⟩
  have hd : ((t : Int) != (T : Int)) = false := by rw [ht]; simp
  rw [if_neg (by simpa using ht), if_neg (by simpa using ht)]
  have HLS := Lib.hid (rlist_any ct W0 hx)
  generalize lst ct = LE at HLS ⊢
  obtain ⟨l, er⟩ := LE
  simp only at HLS ⊢
  clear ht
  go_enter Tryz.func39, Tryz.ntmps39
  go_wp2_with (go_at_call 35; (with_reducible refine HLS.out.mono ?_); rintro e w1 ⟨v1, rfl, ho1, hb1⟩; obtain ⟨a, c, rfl, _, _, _⟩ := ElAt.of ho1; have hqr := (hb1.block (w.heap.size + 1) rl).trans HQ1.out; have HQR := Lib.hid hqr; have HO := Lib.hid ho1; have HB1 := Lib.hid (below_next HB0.out hb1); obtain ⟨s0, s1, f0, f1, sl⟩ := fi_facts hqr; clear hb1 hqr ho1)
  refine bodyPost_ret (fiRes rfl _ _ _ _ _ rfl (fi_set HQR.out)) rfl ⟨⟨_, rfl, ?_⟩, (HB1.out.setCell (p := ⟨w.heap.size + 1, 0, none⟩) (Nat.le_succ _) _).setCell (p := ⟨w.heap.size + 1, 1, none⟩) (Nat.le_succ _) _⟩
  have h1 := own_but HO.out (But.set (w.heap.size + 1) 0 w1 (.slice a l.length c)) (by omega)
  have h2 := own_but h1 (But.set (w.heap.size + 1) 1 _ (.int .i64 0)) (by omega)
  exact own_base h2 (by omega)
set_option maxRecDepth 100000 in
set_option maxHeartbeats 2000000 in
theorem rneed_trunc (gf n c k : Nat) (a : Option Addr) (T : Int) (w : World) (h : w.heap[gf]? = some (.cells #[.slice a n c, .int .i64 (k : Int)] 65 (0, 0))) (hk : n ≤ k) :
    Calls Tryz.prog 40 #[.pointer (some ⟨gf, 0, none⟩), .int .i64 T] w fun e w' => e = .returned (.tuple #[noEl, .int .i64 3]) ∧ Below w.heap.size w w' := by
  obtain ⟨c0, c1, f0, f1, l0⟩ := fi_facts h
  obtain ⟨W0, hW0⟩ : ∃ W0, W0 = w.alloc (.cells #[.int .i64 0, .string ⟨#[]⟩, .string ⟨#[]⟩] 42) := ⟨_, rfl⟩
  have hwe := hW0.symm
  have hb : Below w.heap.size w W0 := by rw [hW0]; exact belowNew w _
  have q0 : W0.heap[w.heap.size]? = some (.cells #[.int .i64 0, .string ⟨#[]⟩, .string ⟨#[]⟩] 42 (0, 0)) := by rw [hW0]; exact heap_alloc_new w _
  obtain ⟨r0, r1, r2, g0, g1, g2, rl⟩ := at_facts q0
  have d0 := (hb.cell (p := ⟨gf, 0, none⟩) l0).trans c0
  have d1 := (hb.cell (p := ⟨gf, 1, none⟩) l0).trans c1
  have hd : decide ((n : Int) ≤ (k : Int)) = true := by simp; omega
  have hd2 : decide (n ≤ k) = true := by simp; omega
  have HB := Lib.hid hb
  have HQ := Lib.hid q0
  clear h hW0 hb q0 c0 c1 f0 f1 hk
  go_enter Tryz.func40, Tryz.ntmps40
  go_wp2_with fail
  go_region
  go_wp2_with fail
  have hq : W0.drew.heap[w.heap.size]? = _ := HQ.out
  exact bodyPost_ret (elRes0 rfl _ _ _ _ _ _ rfl (at_set hq)) rfl ⟨rfl, at_below HB.out.drew (Nat.le_refl _)⟩
set_option maxRecDepth 100000 in
set_option maxHeartbeats 2000000 in
theorem rneed_tag (gf b o n c k T : Nat) (x : El) (w : World) (h : w.heap[gf]? = some (.cells #[.slice (some ⟨b, o, none⟩) n c, .int .i64 (k : Int)] 65 (0, 0))) (hk : k < n)
    (x0 : w.cell? ⟨b, o + k * 3, none⟩ = some (.int .i64 ((x.1 : Nat) : Int))) (x1 : w.cell? ⟨b, o + k * 3 + 1, none⟩ = some (.string x.2.1)) (x2 : w.cell? ⟨b, o + k * 3 + 2, none⟩ = some (.string x.2.2)) (hT : x.1 ≠ T) :
    Calls Tryz.prog 40 #[.pointer (some ⟨gf, 0, none⟩), .int .i64 (T : Int)] w fun e w' => e = .returned (.tuple #[noEl, .int .i64 5]) ∧ Below w.heap.size w w' := by
  obtain ⟨c0, c1, f0, f1, l0⟩ := fi_facts h
  obtain ⟨W0, hW0⟩ : ∃ W0, W0 = w.alloc (.cells #[.int .i64 0, .string ⟨#[]⟩, .string ⟨#[]⟩] 42) := ⟨_, rfl⟩
  have hwe := hW0.symm
  have hb : Below w.heap.size w W0 := by rw [hW0]; exact belowNew w _
  have q0 : W0.heap[w.heap.size]? = some (.cells #[.int .i64 0, .string ⟨#[]⟩, .string ⟨#[]⟩] 42 (0, 0)) := by rw [hW0]; exact heap_alloc_new w _
  obtain ⟨r0, r1, r2, g0, g1, g2, rl⟩ := at_facts q0
  have d0 := (hb.cell (p := ⟨gf, 0, none⟩) l0).trans c0
  have d1 := (hb.cell (p := ⟨gf, 1, none⟩) l0).trans c1
  have y0 := (hb.cell (p := ⟨b, o + k * 3, none⟩) (block_lt x0)).trans x0
  have y1 := (hb.cell (p := ⟨b, o + k * 3 + 1, none⟩) (block_lt x0)).trans x1
  have y2 := (hb.cell (p := ⟨b, o + k * 3 + 2, none⟩) (block_lt x0)).trans x2
  have bz := belowNew W0 (.cells #[.int .i64 0, .string ⟨#[]⟩, .string ⟨#[]⟩] 42)
  have m0 := (bz.cell (p := ⟨gf, 0, none⟩) (block_lt d0)).trans d0
  have m1 := (bz.cell (p := ⟨gf, 1, none⟩) (block_lt d0)).trans d1
  have n0 := (bz.cell (p := ⟨b, o + k * 3, none⟩) (block_lt y0)).trans y0
  have n1 := (bz.cell (p := ⟨b, o + k * 3 + 1, none⟩) (block_lt y0)).trans y1
  have n2 := (bz.cell (p := ⟨b, o + k * 3 + 2, none⟩) (block_lt y0)).trans y2
  clear bz
  obtain ⟨xt, xc, xr⟩ := x
  simp only at y0 y1 y2 n0 n1 n2 hT
  have hd : decide ((n : Int) ≤ (k : Int)) = false := by simp; omega
  have hd2 : decide (n ≤ k) = false := by simp; omega
  have hki : (k : Int) < (n : Int) := by omega
  have hT0 : decide ((0 : Int) ≤ (T : Int)) = true := by simp
  have hTx : ((xt : Int) != (T : Int)) = true := by simp; omega
  have HB := Lib.hid hb
  have HQ := Lib.hid q0
  clear h hW0 hb q0 c0 c1 f0 f1 x0 x1 x2 hT
  go_enter Tryz.func40, Tryz.ntmps40
  go_wp2_with fail
  go_region
  go_wp2_with fail
  go_region
  go_wp2_with fail
  have hS := at_set (a := .int .i64 0) (b := .string ⟨#[]⟩) (c := .string ⟨#[]⟩) HQ.out
  have hq := ((belowNew _ (.cells #[.int .i64 ((xt : Nat) : Int), .string xc, .string xr] 42)).block w.heap.size (Array.getElem?_eq_some_iff.1 hS).1).trans hS
  exact bodyPost_ret (elRes0 rfl _ _ _ _ _ _ rfl hq) rfl ⟨rfl, (below_next (at_below HB.out (Nat.le_refl _)) (belowNew _ _)).drew.drew⟩
set_option maxRecDepth 100000 in
set_option maxHeartbeats 2000000 in
theorem rneed_ok (gf b o n c k : Nat) (T : Int) (x : El) (w : World) (h : w.heap[gf]? = some (.cells #[.slice (some ⟨b, o, none⟩) n c, .int .i64 (k : Int)] 65 (0, 0))) (hk : k < n)
    (x0 : w.cell? ⟨b, o + k * 3, none⟩ = some (.int .i64 ((x.1 : Nat) : Int))) (x1 : w.cell? ⟨b, o + k * 3 + 1, none⟩ = some (.string x.2.1)) (x2 : w.cell? ⟨b, o + k * 3 + 2, none⟩ = some (.string x.2.2)) (hT : T = -1 ∨ (0 ≤ T ∧ (x.1 : Int) = T)) (hkz : k ≤ 1000000) :
    Calls Tryz.prog 40 #[.pointer (some ⟨gf, 0, none⟩), .int .i64 T] w fun e w' => e = .returned (.tuple #[elV x.1 x.2.1 x.2.2, .int .i64 0]) ∧ w'.heap[gf]? = some (.cells #[.slice (some ⟨b, o, none⟩) n c, .int .i64 ((k : Int) + 1)] 65 (0, 0)) ∧ But gf w w' := by
  obtain ⟨c0, c1, f0, f1, l0⟩ := fi_facts h
  obtain ⟨W0, hW0⟩ : ∃ W0, W0 = w.alloc (.cells #[.int .i64 0, .string ⟨#[]⟩, .string ⟨#[]⟩] 42) := ⟨_, rfl⟩
  have hwe := hW0.symm
  have hb : Below w.heap.size w W0 := by rw [hW0]; exact belowNew w _
  have q0 : W0.heap[w.heap.size]? = some (.cells #[.int .i64 0, .string ⟨#[]⟩, .string ⟨#[]⟩] 42 (0, 0)) := by rw [hW0]; exact heap_alloc_new w _
  obtain ⟨r0, r1, r2, g0, g1, g2, rl⟩ := at_facts q0
  have d0 := (hb.cell (p := ⟨gf, 0, none⟩) l0).trans c0
  have d1 := (hb.cell (p := ⟨gf, 1, none⟩) l0).trans c1
  have y0 := (hb.cell (p := ⟨b, o + k * 3, none⟩) (block_lt x0)).trans x0
  have y1 := (hb.cell (p := ⟨b, o + k * 3 + 1, none⟩) (block_lt x0)).trans x1
  have y2 := (hb.cell (p := ⟨b, o + k * 3 + 2, none⟩) (block_lt x0)).trans x2
  have bz := belowNew W0 (.cells #[.int .i64 0, .string ⟨#[]⟩, .string ⟨#[]⟩] 42)
  have m0 := (bz.cell (p := ⟨gf, 0, none⟩) (block_lt d0)).trans d0
  have m1 := (bz.cell (p := ⟨gf, 1, none⟩) (block_lt d0)).trans d1
  have n0 := (bz.cell (p := ⟨b, o + k * 3, none⟩) (block_lt y0)).trans y0
  have n1 := (bz.cell (p := ⟨b, o + k * 3 + 1, none⟩) (block_lt y0)).trans y1
  have n2 := (bz.cell (p := ⟨b, o + k * 3 + 2, none⟩) (block_lt y0)).trans y2
  clear bz
  obtain ⟨xt, xc, xr⟩ := x
  simp only at y0 y1 y2 n0 n1 n2 hT
  have hd : decide ((n : Int) ≤ (k : Int)) = false := by simp; omega
  have hd2 : decide (n ≤ k) = false := by simp; omega
  have hki : (k : Int) < (n : Int) := by omega
  have hk1 : IntKind.i64.wrap ((k : Int) + 1) = (k : Int) + 1 := by rw [wrap_i64]; omega
  have hg1 : ¬ gf = w.heap.size := by omega
  have hg2 : ¬ w.heap.size = gf := by omega
  have hlt0 : gf < W0.heap.size := block_lt d0
  have hg3 : ¬ gf = W0.heap.size := by omega
  have hg4 : ¬ W0.heap.size = gf := by omega
  have hg5 : ¬ w.heap.size = W0.heap.size := by omega
  have hg6 : ¬ W0.heap.size = w.heap.size := by omega
  have HH := Lib.hid ((hb.block gf l0).trans h)
  have HB := Lib.hid hb
  have HQ := Lib.hid q0
  have HFZ := Lib.hid (fi_facts ((hb.block gf l0).trans h))
  obtain ⟨_, _, p0, p1, _⟩ := HFZ.out
  have bz := belowNew W0 (.cells #[.int .i64 ((xt : Nat) : Int), .string xc, .string xr] 42)
  have HBZ := Lib.hid bz
  obtain ⟨v0, v1, v2, _, _, _, vl⟩ := at_facts (heap_alloc_new W0 (.cells #[.int .i64 ((xt : Nat) : Int), .string xc, .string xr] 42))
  have hqz := (bz.block w.heap.size rl).trans q0
  have hhz := (bz.block gf hlt0).trans ((hb.block gf l0).trans h)
  obtain ⟨s0, s1, s2, sf0, sf1, sf2, sl⟩ := at_facts hqz
  obtain ⟨t0, t1, tf0, tf1, tl⟩ := fi_facts hhz
  have HQZ := Lib.hid hqz
  have HHZ := Lib.hid hhz
  clear h hW0 hb q0 c0 c1 f0 f1 x0 x1 x2 bz hqz hhz
  have HT := Lib.hid hT
  clear hT
  have hor : (T = -1 ∧ decide ((0 : Int) ≤ T) = false) ∨ (decide ((0 : Int) ≤ T) = true ∧ ((xt : Int) != T) = false) := by
    rcases HT.out with h | ⟨h1, h2⟩
    · exact .inl ⟨h, by rw [h]; rfl⟩
    · exact .inr ⟨by simpa using h1, by rw [h2]; simp⟩
  go_enter Tryz.func40, Tryz.ntmps40
  go_wp2_with fail
  go_region
  go_wp2_with fail
  go_region
  rcases hor with ⟨hT1, hT0⟩ | ⟨hT0, hTx⟩
  all_goals go_wp2_with fail
  all_goals
    have hA := ((But.set gf 1 W0 (.int .i64 ((k : Int) + 1))).block w.heap.size rl (by simp; omega)).trans HQ.out
    have hS := at_set (a := .int .i64 ((xt : Nat) : Int)) (b := .string xc) (c := .string xr) hA
    have hG := el_other (g := w.heap.size) (a := .int .i64 ((xt : Nat) : Int)) (b := .string xc) (c := .string xr) (fi_set1 (b := .int .i64 ((k : Int) + 1)) HH.out) hg2
    have hU := ((((But.of HB.out).next (But.set gf 1 W0 (.int .i64 ((k : Int) + 1)))).fresh (But.set w.heap.size 0 _ (.int .i64 ((xt : Nat) : Int))) (Nat.le_refl _)).fresh (But.set w.heap.size 1 _ (.string xc)) (Nat.le_refl _)).fresh (But.set w.heap.size 2 _ (.string xr)) (Nat.le_refl _)
    exact bodyPost_ret (elRes0 rfl _ _ _ _ _ _ rfl (((belowNew _ _).block _ (Array.getElem?_eq_some_iff.1 hS).1).trans hS)) rfl ⟨rfl, ((belowNew _ _).block _ (Array.getElem?_eq_some_iff.1 hG).1).trans hG, (hU.alloc _).drew.drew⟩
set_option maxRecDepth 100000 in
set_option maxHeartbeats 2000000 in
theorem rend_any (gf n c k : Nat) (a : Option Addr) (w : World) (h : w.heap[gf]? = some (.cells #[.slice a n c, .int .i64 (k : Int)] 65 (0, 0))) :
    Calls Tryz.prog 42 #[.pointer (some ⟨gf, 0, none⟩)] w fun e w' => e = .returned (.int .i64 (if k < n then 4 else 0)) ∧ Below w.heap.size w w' := by
  obtain ⟨c0, c1, f0, f1, l0⟩ := fi_facts h
  clear h f0 f1
  by_cases hk : k < n
  · have hd : decide ((k : Int) < (n : Int)) = true := by simp; omega
    have hd2 : decide (k < n) = true := by simp; omega
    rw [if_pos hk]
    clear hk
    go_enter Tryz.func42, Tryz.ntmps42
    go_wp2_with fail
    go_region
    go_wp2_with fail
    go_ret
    exact ⟨rfl, (Below.refl _ _).drew⟩
  · have hd : decide ((k : Int) < (n : Int)) = false := by simp; omega
    have hd2 : decide (k < n) = false := by simp; omega
    rw [if_neg hk]
    clear hk
    go_enter Tryz.func42, Tryz.ntmps42
    go_wp2_with fail
    go_region
    go_wp2_with fail
    go_ret
    exact ⟨rfl, (Below.refl _ _).drew⟩
end Go.Proofs.YtpmlkofceidnjaaGreatDoor
namespace Go.Proofs.YtpmlkofceidnjaaGreatDoor
open Go.RowKit

set_option maxRecDepth 100000 in
set_option maxHeartbeats 2000000 in
theorem ropen_no (t : Int) (ht : t ≠ 48) (ct rw0 : ByteArray) (w : World) :
    Calls Tryz.prog 39 #[.agg #[.int .i64 t, .string ct, .string rw0], .int .i64 48] w fun e w' => e = .returned (.tuple #[.agg #[.slice none 0 0, .int .i64 0], .int .i64 5]) ∧ Below w.heap.size w w' := by
  obtain ⟨W0, hW0⟩ : ∃ W0, W0 = (w.alloc (.cells #[.int .i64 t, .string ct, .string rw0] 42)).alloc (.cells #[.slice none 0 0, .int .i64 0] 65) := ⟨_, rfl⟩
  have hwe := hW0.symm
  have hb0 : Below w.heap.size w W0 := by rw [hW0]; exact belowTwo w _ _
  have q0 : W0.heap[w.heap.size]? = some (.cells #[.int .i64 t, .string ct, .string rw0] 42 (0, 0)) := by
    rw [hW0]; exact ((belowNew _ _).block _ (by simp)).trans (heap_alloc_new w _)
  have q1 : W0.heap[w.heap.size + 1]? = some (.cells #[.slice none 0 0, .int .i64 0] 65 (0, 0)) := by
    have := heap_alloc_new (w.alloc (.cells #[.int .i64 t, .string ct, .string rw0] 42)) (.cells #[.slice none 0 0, .int .i64 0] 65)
    rw [← hW0] at this
    simpa using this
  obtain ⟨e0, e1, e2, _, _, _, el⟩ := at_facts q0
  obtain ⟨r0, r1, g0, g1, rl⟩ := fi_facts q1
  have HB0 := Lib.hid hb0
  have HQ1 := Lib.hid q1
  have hd : (t != 48) = true := by simp; omega
  clear hW0 hb0 q0 q1 ht
  go_enter Tryz.func39, Tryz.ntmps39
  go_wp2_with fail
  exact bodyPost_ret (fiRes rfl _ _ _ _ _ rfl (fi_set HQ1.out)) rfl ⟨rfl, (HB0.out.setCell (p := ⟨w.heap.size + 1, 0, none⟩) (Nat.le_succ _) _).setCell (p := ⟨w.heap.size + 1, 1, none⟩) (Nat.le_succ _) _⟩
/-- What Open answers for the tag 48. -/
theorem ropen_seq (c r : ByteArray) (w : World) (hx : c.size ≤ 1099511627776) :
    Calls Tryz.prog 39 #[.agg #[.int .i64 48, .string c, .string r], .int .i64 48] w fun e w' => (∃ v, e = .returned (.tuple #[.agg #[v, .int .i64 0], .int .i64 (((lst c).2 : Nat) : Int)]) ∧ OwnE w' w.heap.size v (lst c).1) ∧ Below w.heap.size w w' := by
  have h := ropen_any (48, c, r) 48 w hx
  unfold opnE opnL at h
  rw [if_neg (by simp), if_neg (by simp)] at h
  exact h
set_option maxRecDepth 100000 in
set_option maxHeartbeats 1000000 in
theorem rchka_no (t : Int) (ht : t ≠ 48) (c r : ByteArray) (w : World) :
    Calls Tryz.prog 22 #[.agg #[.int .i64 t, .string c, .string r]] w fun e w' => e = .returned (.int .i64 5) ∧ Below w.heap.size w w' := by
  have HOP := Lib.hid (fun W => ropen_no t ht c r W)
  obtain ⟨W0, hW0⟩ : ∃ W0, W0 = w.alloc (.cells #[.int .i64 t, .string c, .string r] 42) := ⟨_, rfl⟩
  have HB0 : Hid (Below w.heap.size w W0) := Lib.hid (by rw [hW0]; exact belowNew w _)
  have HW0 := Lib.hid hW0.symm
  clear hW0 ht
  go_enter Tryz.func22, Tryz.ntmps22
  go_wp2_with (go_at_call 39; rw [HW0.out]; (with_reducible refine (HOP.out _).mono ?_); rintro e w1 ⟨rfl, hb1⟩; have HB1 := Lib.hid (below_next HB0.out hb1); clear hb1)
  go_ret
  exact ⟨rfl, below_next HB1.out (belowNew _ _)⟩
theorem algL_tag {x : El} {r : List El} (h : x.1 ≠ 6) : algL (x :: r) = 5 := by rw [algL_cons, if_pos h]
theorem algL_oid {x : El} {r : List El} (h : x.1 = 6) (k : oidD x.2.1 = none) : algL (x :: r) = 11 := by rw [algL_cons, if_neg (by omega), k]
theorem algL_end {x : El} {r : List El} {id : ByteArray} (h : x.1 = 6) (k : oidD x.2.1 = some id) : algL (x :: r) = if id ≠ oidA ∨ r ≠ [] then 16 else 0 := by rw [algL_cons, if_neg (by omega), k]
set_option maxRecDepth 100000 in
set_option maxHeartbeats 4000000 in
theorem rchka_in (c r : ByteArray) (w : World) (hx : c.size ≤ 1099511627) :
    Calls Tryz.prog 22 #[.agg #[.int .i64 48, .string c, .string r]] w fun e w' => e = .returned (.int .i64 ((if (lst c).2 ≠ 0 then (lst c).2 else algL (lst c).1 : Nat) : Int)) ∧ Below w.heap.size w w' := by
  have HOP := Lib.hid (fun W => ropen_seq c r W (Nat.le_trans hx (by omega)))
  have HMEM := Lib.hid (fun z (hz : z ∈ (lst c).1) => Nat.le_trans (lst_mem _ c (Nat.le_refl _) z hz) hx)
  have hlen := Nat.le_trans (lst_length c _ (Nat.le_refl _)) hx
  obtain ⟨E, hE⟩ : ∃ E, E = if (lst c).2 ≠ 0 then (lst c).2 else algL (lst c).1 := ⟨_, rfl⟩
  rw [← hE]
  have HRES := Lib.hid hE
  clear hE
  generalize lst c = LE at HOP HRES HMEM hlen
  obtain ⟨l, er⟩ := LE
  simp only at HOP HRES HMEM hlen
  obtain ⟨W0, hW0⟩ : ∃ W0, W0 = w.alloc (.cells #[.int .i64 48, .string c, .string r] 42) := ⟨_, rfl⟩
  have HB0 : Hid (Below w.heap.size w W0) := Lib.hid (by rw [hW0]; exact belowNew w _)
  have HW0 := Lib.hid hW0.symm
  clear hW0 hx
  go_enter Tryz.func22, Tryz.ntmps22
  go_wp2_with fail
  rw [HW0.out]
  refine (HOP.out W0).mono ?_
  rintro e w1 ⟨⟨v1, rfl, ho1⟩, hb1⟩
  obtain ⟨a, cp, rfl, hlc, hel, hbk⟩ := ElAt.of ho1
  obtain ⟨n, hn⟩ : ∃ n, n = l.length := ⟨_, rfl⟩
  rw [← hn] at hlc hlen ⊢
  have HN := Lib.hid hn
  obtain ⟨gl, hgl⟩ : ∃ gl, gl = w1.heap.size := ⟨_, rfl⟩
  obtain ⟨V1, hV1⟩ : ∃ V1, V1 = w1.alloc (.cells #[.slice a n cp, .int .i64 0] 65) := ⟨_, rfl⟩
  have hbV : Below gl w1 V1 := by rw [hV1, hgl]; exact belowNew w1 _
  have HQG : Hid (V1.heap[gl]? = some (.cells #[.slice a n cp, .int .i64 ((0 : Nat) : Int)] 65 (0, 0))) := Lib.hid (by rw [hV1, hgl]; exact heap_alloc_new w1 _)
  have HBV := Lib.hid (show Below w.heap.size w V1 from below_next (below_next HB0.out hb1) (by rw [← hgl]; exact hbV))
  have HELV := Lib.hid (hel.below (by rw [← hgl]; exact hbV))
  have HBK := Lib.hid hbk
  have HGL := Lib.hid hgl
  have HWG := Lib.hid (show w.heap.size ≤ gl by rw [hgl]; have := HB0.out.size; have := hb1.size; omega)
  have HWE1 := Lib.hid hV1.symm
  clear ho1 hb1 hel hbk hn hV1 hgl hbV
  go_upto_region 2 with fail
  rw [HWE1.out, ← HGL.out]
  by_cases hz : er = 0
  case neg =>
    obtain rfl : E = er := by have := HRES.out; rw [if_pos hz] at this; exact this
    have hz1 := errno_ne hz
    clear hz
    go_wp2_with fail
    go_ret
    exact ⟨rfl, HBV.out⟩
  subst hz
  have HRE := Lib.hid (show E = algL l by have := HRES.out; rwa [if_neg (by simp)] at this)
  clear HRES
  go_wp2_with fail
  have hglt : gl < V1.heap.size := (Array.getElem?_eq_some_iff.1 HQG.out).1
  cases l with
  | nil =>
    obtain rfl : E = 3 := HRE.out
    obtain rfl : n = 0 := HN.out
    refine (rneed_trunc gl 0 cp 0 a 6 V1 HQG.out (Nat.le_refl _)).mono ?_
    rintro e w2 ⟨rfl, hb2⟩
    have HBF := Lib.hid (below_next (below_next HBV.out hb2) (belowNew w2 (.cells #[.int .i64 0, .string ⟨#[]⟩, .string ⟨#[]⟩] 42)))
    clear hb2
    unfold noEl
    go_wp2_with fail
    go_ret
    exact ⟨rfl, HBF.out⟩
  | cons x q =>
    obtain ⟨b, o, rfl, hcl⟩ := HELV.out.resolve_left (by simp)
    have hb2 := HBK.out _ rfl (by simp)
    rw [← HGL.out] at hb2
    have hbg : b ≠ gl := by have := hb2.2; simp at this; omega
    have hn1 : 1 ≤ n := by have := HN.out; simp at this; omega
    obtain ⟨x0, x1, x2⟩ := hcl 0 (by simp)
    rw [show (x :: q).getD 0 ((0 : Nat), (⟨#[]⟩ : ByteArray), (⟨#[]⟩ : ByteArray)) = x from rfl] at x0 x1 x2
    have HXM := Lib.hid (HMEM.out x (by simp))
    clear hcl hb2
    by_cases hx6 : x.1 = 6
    case neg =>
      obtain rfl : E = 5 := by have := HRE.out; rwa [algL_tag hx6] at this
      refine (rneed_tag gl b o n cp 0 6 x V1 HQG.out (by omega) x0 x1 x2 hx6).mono ?_
      rintro e w2 ⟨rfl, hb2⟩
      clear x0 x1 x2 hx6
      have HBF := Lib.hid (below_next (below_next HBV.out hb2) (belowNew w2 (.cells #[.int .i64 0, .string ⟨#[]⟩, .string ⟨#[]⟩] 42)))
      clear hb2
      unfold noEl
      go_wp2_with fail
      go_ret
      exact ⟨rfl, HBF.out⟩
    have HX6 := Lib.hid hx6
    refine (rneed_ok gl b o n cp 0 6 x V1 HQG.out (by omega) x0 x1 x2 (.inr ⟨by omega, by rw [hx6]; rfl⟩) (by omega)).mono ?_
    rintro e w2 ⟨rfl, hg2, hb2⟩
    have hg2 : w2.heap[gl]? = some (.cells #[.slice (some ⟨b, o, none⟩) n cp, .int .i64 ((1 : Nat) : Int)] 65 (0, 0)) := hg2
    obtain ⟨xt, xc, xr⟩ := x
    unfold elV
    simp only at HXM HX6 ⊢
    obtain ⟨W3, hW3⟩ : ∃ W3, W3 = w2.alloc (.cells #[.int .i64 ((xt : Nat) : Int), .string xc, .string xr] 42) := ⟨_, rfl⟩
    have hb3 : Below w2.heap.size w2 W3 := by rw [hW3]; exact belowNew w2 _
    have hq3 : W3.heap[w2.heap.size]? = some (.cells #[.int .i64 ((xt : Nat) : Int), .string xc, .string xr] 42 (0, 0)) := by rw [hW3]; exact heap_alloc_new w2 _
    obtain ⟨y0, y1, y2, _, _, _, yl⟩ := at_facts hq3
    have hW3' := hW3.symm
    have HB3 := Lib.hid (show But gl V1 W3 from hb2.next (But.of hb3))
    have HG3 := Lib.hid ((hb3.block gl (Array.getElem?_eq_some_iff.1 hg2).1).trans hg2)
    have HBW3 := Lib.hid (show Below w.heap.size w W3 from HBV.out.trans ((HB3.out.below (by omega)).mono HWG.out))
    clear hW3 hb3 hq3 hb2 hg2 x0 x1 x2 hx6
    go_wp2_with fail
    refine (rdecode_any xc W3 HXM.out).mono ?_
    rintro e w4 ⟨hdc, hb4⟩
    have HG4 := Lib.hid ((hb4.block gl (Array.getElem?_eq_some_iff.1 HG3.out).1).trans HG3.out)
    have HBW4 := Lib.hid (below_next HBW3.out hb4)
    clear hb4 y0 y1 y2 yl hW3'
    rcases oidD_decd hdc with ⟨id, hid, rfl⟩ | ⟨hid, rfl⟩
    case inr =>
      obtain rfl : E = 11 := by have := HRE.out; rwa [algL_oid HX6.out hid] at this
      clear hdc hid
      go_wp2_with fail
      go_ret
      exact ⟨rfl, HBW4.out⟩
    have HRF := Lib.hid (show E = if id ≠ oidA ∨ q ≠ [] then 16 else 0 by have := HRE.out; rwa [algL_end HX6.out hid] at this)
    clear hdc hid
    have HEN := Lib.hid (rend_any gl n cp 1 _ w4 HG4.out)
    by_cases hida : id = oidA
    case neg =>
      obtain rfl : E = 16 := by have := HRF.out; rwa [if_pos (.inl hida)] at this
      have hbe : (id.toList == oidA.toList) = false := (beq_strk id oidA).trans (by simp [hida])
      rw [Lib.toList_data oidA, show oidA.data.toList = [49, 46, 51, 46, 54, 46, 49, 46, 52, 46, 49, 46, 53, 56, 56, 56, 56, 46, 49, 46, 49] from rfl] at hbe
      clear hida
      go_wp2_with fail
      go_ret
      exact ⟨rfl, HBW4.out⟩
    have hbe : (id.toList == oidA.toList) = true := (beq_strk id oidA).trans (by simp [hida])
    rw [Lib.toList_data oidA, show oidA.data.toList = [49, 46, 51, 46, 54, 46, 49, 46, 52, 46, 49, 46, 53, 56, 56, 56, 56, 46, 49, 46, 49] from rfl] at hbe
    cases q with
    | nil =>
      obtain rfl : E = 0 := by have := HRF.out; rwa [if_neg (by simp [hida])] at this
      obtain rfl : n = 1 := HN.out
      rw [if_neg (by omega)] at HEN
      clear hida
      go_wp2_with (go_at_call 42; (with_reducible refine HEN.out.mono ?_); rintro e w5 ⟨rfl, hb5⟩; have HB5 := Lib.hid (below_next HBW4.out hb5); clear hb5)
      go_ret
      exact ⟨rfl, HB5.out⟩
    | cons y q2 =>
      obtain rfl : E = 16 := by have := HRF.out; rwa [if_pos (.inr (by simp))] at this
      have hn2 : 1 < n := by have := HN.out; simp at this; omega
      rw [if_pos hn2] at HEN
      clear hida
      go_wp2_with (go_at_call 42; (with_reducible refine HEN.out.mono ?_); rintro e w5 ⟨rfl, hb5⟩; have HB5 := Lib.hid (below_next HBW4.out hb5); clear hb5)
      go_ret
      exact ⟨rfl, HB5.out⟩
theorem rchka_any (t : Int) (c r : ByteArray) (w : World) (hx : c.size ≤ 1099511627) :
    Calls Tryz.prog 22 #[.agg #[.int .i64 t, .string c, .string r]] w fun e w' => e = .returned (.int .i64 ((chkAlg t c : Nat) : Int)) ∧ Below w.heap.size w w' := by
  unfold chkAlg
  by_cases h : t = 48
  · subst h
    rw [if_neg (by simp)]
    exact rchka_in c r w hx
  · rw [if_pos h]
    exact rchka_no t h c r w
end Go.Proofs.YtpmlkofceidnjaaGreatDoor
