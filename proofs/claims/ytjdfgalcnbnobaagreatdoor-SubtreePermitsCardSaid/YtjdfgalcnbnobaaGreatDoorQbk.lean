/-
  The contracts of the law's short and sameState.
  A row of constraints whose general names lie where they lay; and the cells of constraints that lie somewhere, as a list.
-/
import Derived.Test.YtjdfgalcnbnobaaGreatDoorQbi
import Derived.Test.YtjdfgalcnbnobaaGreatDoorQas
import Derived.Test.YtjdfgalcnbnobaaGreatDoorQbj
import Derived.Lib.QuietBelow
import Derived.BigQuiet
import Derived.Test.YtjdfgalcnbnobaaGreatDoorQay
namespace Go.Proofs.YtjdfgalcnbnobaaGreatDoor
open Go.RowKit

def ShL (l : List Gn) : Prop := l.length ≤ 20 ∧ ∀ i, i < l.length → ShG (l.getD i noG)
theorem ShL.sm {l : List Gn} (h : ShL l) : SmL l := fun g hg => by
  obtain ⟨i, hi, rfl⟩ := List.getElem_of_mem hg
  have := h.2 i hi
  rw [List.getD_eq_getElem?_getD, List.getElem?_eq_getElem hi] at this
  exact ⟨Nat.le_trans this.1 (by omega), ShN.small this.2⟩
def ShortedS (A B : List Gn) (e : Ending) : Prop := (e = .returned (.bool true) ∧ ShL A ∧ ShL B) ∨ e = .returned (.bool false)
set_option maxRecDepth 100000 in
set_option maxHeartbeats 4000000 in
theorem shorts_core (a1 a2 : Option Addr) (c1 c2 NA NB : Nat) (A B : List Gn) (w : World) (h1 : GLies w a1 A) (h2 : GLies w a2 B) (hA : NA = A.length) (hB : NB = B.length) (hbA : BigL A) (hbB : BigL B) :
    Calls Tryz.prog 7 #[.agg #[.slice a1 NA c1, .slice a2 NB c2]] w fun e w' => ShortedS A B e ∧ Below w.heap.size w w' := by
  obtain ⟨W0, hW0⟩ : ∃ W0, W0 = w.alloc (.cells #[.slice a1 NA c1, .slice a2 NB c2] 27) := ⟨_, rfl⟩
  have hwr := hW0.symm
  have hb0 : Below w.heap.size w W0 := by rw [hW0]; exact belowNew w _
  obtain ⟨s0, s1, ls⟩ := two_facts (w := W0) (g := w.heap.size) (by rw [hW0]; exact heap_alloc_new w _)
  have HB0 := Lib.hid hb0
  have HX := Lib.hid (Below.refl W0.heap.size W0)
  have HA := Lib.hid (fun W (hb : Below W0.heap.size W0 W) => shorts_any a1 c1 NA A W ((h1.below hb0).below hb) hA (by rw [hA]; exact hbA.1) hbA.2)
  have HC := Lib.hid (fun W (hb : Below W0.heap.size W0 W) => shorts_any a2 c2 NB B W ((h2.below hb0).below hb) hB (by rw [hB]; exact hbB.1) hbB.2)
  have SS0 := Lib.hid s0
  have SS1 := Lib.hid s1
  clear h1 h2 hA hB hbA hbB hb0 hW0
  go_enter Tryz.func7, Tryz.ntmps7
  go_wp2_with (first
    | (go_at_call 8; (with_reducible refine (HA.out _ HX.out).mono ?_); rintro e w1 ⟨hS, hb9⟩; have HX := Lib.hid (below_next HX.out hb9); have s0 := (HX.out.cell (p := ⟨w.heap.size, 0, none⟩) ls).trans SS0.out; have s1 := (HX.out.cell (p := ⟨w.heap.size, 1, none⟩) ls).trans SS1.out; clear hb9; rcases hS with ⟨rfl, hA⟩ | rfl)
    | (go_at_call 8; (with_reducible refine (HC.out _ HX.out).mono ?_); rintro e w2 ⟨hS, hb9⟩; have HX := Lib.hid (below_next HX.out hb9); clear hb9; rcases hS with ⟨rfl, hB⟩ | rfl))
  all_goals go_ret
  all_goals first
    | exact ⟨.inl ⟨rfl, hA, hB⟩, below_next HB0.out HX.out⟩
    | exact ⟨.inr rfl, below_next HB0.out HX.out⟩
set_option maxRecDepth 100000 in
set_option maxHeartbeats 4000000 in
theorem samestate_core (a0 b0 : Option Addr) (c d m : Nat) (L : List Sub) (w : World) (h1 : SLies w a0 L) (h2 : SLies w b0 L) (hn : m = L.length) (hs : OkS L) :
    Calls Tryz.prog 13 #[.agg #[.slice a0 m c], .agg #[.slice b0 m d]] w fun e w' => e = .returned (.bool true) ∧ Below w.heap.size w w' := by
  obtain ⟨W0, hW0⟩ : ∃ W0, W0 = (w.alloc (.cells #[.slice a0 m c] 24)).alloc (.cells #[.slice b0 m d] 24) := ⟨_, rfl⟩
  have hwr := hW0.symm
  have hb0 : Below w.heap.size w W0 := by rw [hW0]; exact belowTwo w _ _
  obtain ⟨x0, _, lx⟩ := one_facts (w := W0) (g := w.heap.size) (by rw [hW0, heap_first]; exact heap_alloc_new w _)
  obtain ⟨y0, _, ly⟩ := one_facts (w := W0) (g := w.heap.size + 1) (by rw [hW0]; exact heap_second w _ _ _)
  have hm : m ≤ 1000000 := by rw [hn]; exact hs.2.1
  have HB0 := Lib.hid hb0
  have H1 := Lib.hid (h1.below hb0)
  have H2 := Lib.hid (h2.below hb0)
  have HN := Lib.hid hn
  have HS := Lib.hid hs
  have X0 := Lib.hid x0
  have Y0 := Lib.hid y0
  clear h1 h2 hn hs hb0 hW0
  go_enter Tryz.func13, Tryz.ntmps13
  go_wp2_with fail
  clear hwr x0 y0
  go_loopw [16] (fun i wr => ∃ k : Nat, k ≤ m ∧ i = .int .i64 k ∧ Below W0.heap.size W0 wr) (fun i _ => m - (intOf i).toNat)
  case atStart => exact ⟨0, Nat.zero_le _, rfl, Below.refl _ _⟩
  case round =>
    obtain ⟨wz, hwz⟩ : ∃ wz, wz = wr := ⟨_, rfl⟩
    subst hwz
    obtain ⟨k, hk, rfl, hb⟩ := hrel
    have HB := Lib.hid hb
    clear hb
    by_cases hlt : k < m
    · have hd : decide ((k : Int) < (m : Int)) = true := by simp; omega
      have hki : (k : Int) < (m : Int) := by omega
      obtain ⟨b, o, rfl, hb, a1, c1, a2, c2, e0, e1, ⟨_, hL1⟩, _, hL2⟩ := (H1.out.below HB.out).at k (by rw [← HN.out]; exact hlt)
      obtain ⟨b', o', rfl, hb', a1', c1', a2', c2', e0', e1', ⟨_, hL1'⟩, _, hL2'⟩ := (H2.out.below HB.out).at k (by rw [← HN.out]; exact hlt)
      have hsm := HS.out.1.at (i := k) (by rw [← HN.out]; exact hlt)
      have hsz := HS.out.sz (i := k) (by rw [← HN.out]; exact hlt)
      generalize L.getD k noSub = G at e0 e1 hL1 hL2 e0' e1' hL1' hL2' hsm hsz
      obtain ⟨A, B⟩ := G
      simp only at e0 e1 hL1 hL2 e0' e1' hL1' hL2' hsm hsz
      obtain ⟨NA, hNA⟩ : ∃ NA, NA = A.length := ⟨_, rfl⟩
      obtain ⟨NB, hNB⟩ : ∃ NB, NB = B.length := ⟨_, rfl⟩
      rw [← hNA] at e0 e0' hsz
      rw [← hNB] at e1 e1' hsz
      have HX := Lib.hid (fun W (hb : Below wz.heap.size wz W) => exactG_core a1 a1' c1 c1' NA A W (hL1.below hb) (hL1'.below hb) hNA hsz.1 (fun i hi => (hsm.1.at hi).2))
      have HY := Lib.hid (fun W (hb : Below wz.heap.size wz W) => exactG_core a2 a2' c2 c2' NB B W (hL2.below hb) (hL2'.below hb) hNB hsz.2 (fun i hi => (hsm.2.at hi).2))
      have z1 : ∀ d os, _ := fun d os => Calls.regrown_of (HX.out (Sort.grow (redrawn wz d) os) (below_regrown wz d os))
      have z2 : ∀ d os, _ := fun d os => Calls.regrown_of (HY.out (Sort.grow (redrawn wz d) os) (below_regrown wz d os))
      have g0 := cell_regrown e0
      have g1 := cell_regrown e1
      have g0' := cell_regrown e0'
      have g1' := cell_regrown e1'
      have g2 := cell_regrown ((HB.out.cell (p := ⟨w.heap.size, 0, none⟩) lx).trans X0.out)
      have g3 := cell_regrown ((HB.out.cell (p := ⟨w.heap.size + 1, 0, none⟩) ly).trans Y0.out)
      clear hb hb' hL1 hL1' hL2 hL2' hsm hsz hNA hNB e0 e1 e0' e1'
      go_wp2_with fail
      refine wp_region_quiet_below (by kernel_rfl) (by kernel_rfl) ?_
      repeat (go_big_quiet_step (with_reducible first | exact z1 _ _ | exact z2 _ _))
      refine wpQuiet_nil ?_
      intro _ hw'
      obtain ⟨⟨dq, osq⟩, hw''⟩ := hw'
      subst hw''
      have HBR := Lib.hid (HB.out.trans ((below_regrown wz dq osq).mono HB.out.size))
      clear z1 z2 g0 g1 g2 g3 g0' g1'
      go_wp2_with fail
      go_roundw
      case rel => exact ⟨k + 1, by omega, by go_num, HBR.out⟩
      case measure => simp [intOf]; omega
    · have hd : decide ((k : Int) < (m : Int)) = false := by simp; omega
      obtain rfl : k = m := by omega
      go_wp2_with fail
      go_ret
      exact ⟨rfl, below_next HB0.out HB.out⟩
end Go.Proofs.YtjdfgalcnbnobaaGreatDoor
namespace Go.Proofs.YtjdfgalcnbnobaaGreatDoor
open Go.RowKit

theorem list_of {α : Type} (d : α) (P : Nat → α → Prop) : ∀ n : Nat, (∀ i, i < n → ∃ s, P i s) → ∃ ss : List α, ss.length = n ∧ ∀ i, i < n → P i (ss.getD i d)
  | 0, _ => ⟨[], rfl, fun i hi => absurd hi (Nat.not_lt_zero _)⟩
  | n + 1, h => by
    obtain ⟨ss, h1, h2⟩ := list_of d P n (fun i hi => h i (by omega))
    obtain ⟨s, hs⟩ := h n (by omega)
    refine ⟨ss ++ [s], by simp [h1], fun i hi => ?_⟩
    by_cases hlt : i < n
    · rw [getD_snoc_lt _ _ _ _ (by omega)]; exact h2 i hlt
    · obtain rfl : i = n := by omega
      rw [← h1, getD_snoc_eq, h1]; exact hs
/-- The two cells of a constraint. -/
def SubV (w : World) (s : Value × Value) (x : Sub) : Prop := ∃ a1 c1 a2 c2, s = (.slice a1 x.1.length c1, .slice a2 x.2.length c2) ∧ (x.1.length ≤ c1 ∧ GLies w a1 x.1) ∧ x.2.length ≤ c2 ∧ GLies w a2 x.2
theorem SubV.below {w w' : World} {s : Value × Value} {x : Sub} (h : SubV w s x) (hb : Below w.heap.size w w') : SubV w' s x := by
  obtain ⟨a1, c1, a2, c2, h0, ⟨h1, h2⟩, h3, h4⟩ := h
  exact ⟨a1, c1, a2, c2, h0, ⟨h1, h2.below hb⟩, h3, h4.below hb⟩
theorem slies_list {w : World} {ad : Addr} {l : List Sub} (h : SLies w (some ad) l) : ∃ ss : List (Value × Value), ss.length = l.length ∧ (∀ j u, (ssCells ss)[j]? = some u → w.cell? (ad.add j) = some u) ∧ ∀ i, i < l.length → SubV w (ss.getD i noSV) (l.getD i noSub) := by
  rcases h with h | ⟨b, o, h1, h2⟩
  · subst h
    exact ⟨[], rfl, fun j u h => by simp [ssCells] at h, fun i hi => absurd hi (Nat.not_lt_zero _)⟩
  · obtain rfl := Option.some.inj h1
    obtain ⟨ss, h3, h4⟩ := list_of noSV (fun i s => (w.cell? ⟨b, o + i * 2, none⟩ = some s.1 ∧ w.cell? ⟨b, o + i * 2 + 1, none⟩ = some s.2) ∧ SubV w s (l.getD i noSub)) l.length (fun i hi => by
      obtain ⟨a1, c1, a2, c2, e1, e2, h5, h6⟩ := h2 i hi
      exact ⟨(_, _), ⟨e1, e2⟩, a1, c1, a2, c2, rfl, h5, h6⟩)
    refine ⟨ss, h3, fun j u hu => ?_, fun i hi => (h4 i hi).2⟩
    have hj : j < ss.length * 2 := by rw [← ssCells_length]; exact (List.getElem?_eq_some_iff.1 hu).1
    have hi : j / 2 < l.length := by omega
    obtain ⟨⟨e1, e2⟩, _⟩ := h4 (j / 2) hi
    have he : j = j / 2 * 2 + j % 2 := by omega
    rw [he, ss_at ss (j / 2) (by omega) (j % 2) (by omega)] at hu
    rw [Go.WideShapes.add_plain]
    rcases (by omega : j % 2 = 0 ∨ j % 2 = 1) with h | h
    · rw [h] at hu he
      rw [he]
      simp [sCells] at hu
      rw [← hu]; exact e1
    · rw [h] at hu he
      rw [he]
      simp [sCells] at hu
      rw [← hu]; exact e2
theorem ss_one {w : World} {ss : List (Value × Value)} {l : List Sub} (hl : ss.length = l.length) (h : ∀ i, i < l.length → SubV w (ss.getD i noSV) (l.getD i noSub)) : ∀ u ∈ ssCells ss, u.oneCell' = true := fun u hu => by
  obtain ⟨s, hs, hu⟩ := List.mem_flatMap.1 hu
  obtain ⟨i, hi, rfl⟩ := List.getElem_of_mem hs
  obtain ⟨a1, c1, a2, c2, e, _⟩ := h i (by omega)
  rw [List.getD_eq_getElem?_getD, List.getElem?_eq_getElem hi] at e
  simp only [Option.getD_some] at e
  rw [e] at hu
  exact sCells_one _ _ _ _ _ _ u hu
theorem slies_row {w : World} {B n : Nat} {v : Value} {l : List Sub} {ss : List (Value × Value)} (h1 : ss.length = l.length) (hn : n = l.length) (h2 : w.ownsRow B 27 2 v n (ssCells ss)) (h3 : ∀ i, i < l.length → SubV w (ss.getD i noSV) (l.getD i noSub)) : ∃ a c, v = .slice a n c ∧ n ≤ c ∧ SLies w a l := by
  have hr := h2
  rcases h2.2 with ⟨hv, h0⟩ | ⟨g, cap, cur, hv, _, _, hcap, _⟩
  · exact ⟨none, 0, by rw [hv, h0], by omega, .inl (List.eq_nil_of_length_eq_zero (by omega))⟩
  · refine ⟨_, cap, hv, hcap, .inr ⟨g, 0, rfl, fun i hi => ?_⟩⟩
    rw [hv] at hr
    obtain ⟨a1, c1, a2, c2, e, k1, k2⟩ := h3 i hi
    have hc : ∀ j, j < 2 → w.cell? ⟨g, i * 2 + j, none⟩ = (sCells (ss.getD i noSV))[j]? := fun j hj => by
      rw [World.ownsRow.cellAt hr (i * 2 + j) (by omega)]
      exact ss_at ss i (by omega) j hj
    rw [Nat.zero_add]
    rw [e] at hc
    exact ⟨a1, c1, a2, c2, hc 0 (by omega), hc 1 (by omega), k1, k2⟩
theorem subv_snoc {w : World} {ss : List (Value × Value)} {l : List Sub} {s : Value × Value} {x : Sub} (h1 : ss.length = l.length) (h3 : ∀ i, i < l.length → SubV w (ss.getD i noSV) (l.getD i noSub)) (h : SubV w s x) : ∀ i, i < (l ++ [x]).length → SubV w ((ss ++ [s]).getD i noSV) ((l ++ [x]).getD i noSub) := fun i hi => by
  by_cases hlt : i < l.length
  · rw [getD_snoc_lt _ _ _ _ (by omega), getD_snoc_lt _ _ _ _ hlt]; exact h3 i hlt
  · rw [List.length_append, List.length_singleton] at hi
    obtain rfl : i = l.length := by omega
    rw [getD_snoc_eq, ← h1, getD_snoc_eq]; exact h
theorem sb_none {w : World} {B n c : Nat} {L : List Sub} (h : OwnSb w B (.slice none n c) L) : c = 0 := by
  obtain ⟨ss, _, h2, _⟩ := h
  rcases h2.2 with ⟨hv, _⟩ | ⟨g, cap, cur, hv, _⟩
  · obtain ⟨_, _, rfl⟩ := slice_inj hv; rfl
  · obtain ⟨e, _⟩ := slice_inj hv; cases e
theorem slies_opt {w : World} {a : Option Addr} {l : List Sub} (h : SLies w a l) : ∃ ss : List (Value × Value), ss.length = l.length ∧ (∀ ad, a = some ad → ∀ j u, (ssCells ss)[j]? = some u → w.cell? (ad.add j) = some u) ∧ (∀ i, i < l.length → SubV w (ss.getD i noSV) (l.getD i noSub)) ∧ (a = none → l = []) := by
  cases a with
  | some ad =>
    obtain ⟨ss, h1, h2, h3⟩ := slies_list h
    exact ⟨ss, h1, fun x e => by cases e; exact h2, h3, fun e => by cases e⟩
  | none =>
    have h0 : l = [] := by
      rcases h with h | ⟨b, o, h1, _⟩
      · exact h
      · cases h1
    subst h0
    exact ⟨[], rfl, fun x e => (by cases e), fun i hi => absurd hi (Nat.not_lt_zero _), fun _ => rfl⟩
theorem zkeep {cur w2 : World} {B n q : Nat} {v : Value} {xs : List Value} {cs : Array Value} {T : TypeId} {f : Nat × Nat} (hg : cur.grownBy w2 v.ownBlock) (ho : cur.ownsRow B 27 2 v n xs) (hc : cur.heap[q]? = some (.cells cs T f)) (hT : T ≠ 27) : w2.heap[q]? = some (.cells cs T f) := by
  refine (hg.block q (Array.getElem?_eq_some_iff.1 hc).1 (fun e => ?_)).trans hc
  rcases ho.2 with ⟨rfl, _⟩ | ⟨g, cap, cur', rfl, _, hgg, _⟩
  · cases e
  · simp only [Value.ownBlock, Option.some.injEq] at e
    subst e
    rw [hc] at hgg
    simp only [Option.some.injEq, Obj.cells.injEq] at hgg
    exact hT hgg.2.1
theorem row_news_s {w : World} {g : Nat} {cs : Array Value} {T : TypeId} {f : Nat × Nat} (h : w.heap[g]? = some (.cells cs T f)) : ∀ j u, cs.toList[j]? = some u → w.cell? ((⟨g, 0, none⟩ : Addr).add j) = some u := fun j u hu => by
  rw [Go.WideShapes.add_plain, Lib.cell_of_heap h]
  simpa using hu
/-- The state that the law wants, in block q of wx. -/
def Want (wb wx : World) (q : Nat) (a : Option Addr) (c n : Nat) (L : List Sub) : Prop :=
  wx.heap[q]? = some (.cells #[.slice a n c] 24 (0, 0)) ∧ SLies wx a L ∧ Below wb.heap.size wb wx
theorem want_new {wb w2 : World} {a : Option Addr} {c n : Nat} {L : List Sub} (hs : SLies w2 a L) (hb : Below wb.heap.size wb w2) : Want wb (w2.alloc (.cells #[.slice a n c] 24)) w2.heap.size a c n L :=
  ⟨heap_alloc_new w2 _, hs.below (belowNew w2 _), below_next hb (belowNew w2 _)⟩
theorem want_set {wb w2 : World} {q : Nat} {a : Option Addr} {c n : Nat} {L : List Sub} {ss : List (Value × Value)} {x : Value} (h1 : ss.length = L.length) (hn : n = L.length) (ho : w2.ownsRow wb.heap.size 27 2 (.slice a n c) n (ssCells ss)) (hz : w2.heap[q]? = some (.cells #[x] 24 (0, 0))) (hq : wb.heap.size ≤ q) (hb : Below wb.heap.size wb w2)
    (hs : ∀ V, Below wb.heap.size wb V → ∀ i, i < L.length → SubV V (ss.getD i noSV) (L.getD i noSub)) : Want wb (w2.setCell ⟨q, 0, none⟩ (.slice a n c)) q a c n L := by
  have hg := But.set q 0 w2 (.slice a n c)
  have hbx : Below wb.heap.size wb (w2.setCell ⟨q, 0, none⟩ (.slice a n c)) := hb.grown hg hb.size (fun k e => by obtain rfl := Option.some.inj e; exact hq)
  obtain ⟨a', c', e, _, hl⟩ := slies_row h1 hn (own_apart ho hz (by decide) hg) (hs _ hbx)
  obtain ⟨rfl, _, _⟩ := slice_inj e
  exact ⟨one_set hz, hl, hbx⟩
end Go.Proofs.YtjdfgalcnbnobaaGreatDoor
