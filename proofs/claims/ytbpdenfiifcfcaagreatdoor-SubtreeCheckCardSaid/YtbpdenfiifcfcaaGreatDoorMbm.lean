/-
  Rows of general names in memory of one's own, the names of which are as Q says; and the append of one row behind another, each of which may be nil.
  The contract of the reference's CheckSubtrees.
-/
import Derived.Test.YtbpdenfiifcfcaaGreatDoorMbj
import Derived.Test.YtbpdenfiifcfcaaGreatDoorMbl
import Derived.Test.YtbpdenfiifcfcaaGreatDoorMbg
import Derived.Test.YtbpdenfiifcfcaaGreatDoorMbi
import Derived.Test.YtbpdenfiifcfcaaGreatDoorMav
import Derived.Deep.RegionLaw
namespace Go.Proofs.YtbpdenfiifcfcaaGreatDoor
open Go.RowKit

/-- The slice value v, of memory from block B on, holds the general names l, the names of which are as Q says. -/
def RowQ (Q : Option Addr → Nm → Prop) (w : World) (B : Nat) (v : Value) (l : List Gn) : Prop := ∃ ss : List Value, ss.length = l.length ∧ w.ownsRow B 29 3 v l.length (gsCells l ss) ∧ ∀ i, i < l.length → ∃ a c, ss.getD i noS = .slice a (l.getD i noG).2.2.length c ∧ (l.getD i noG).2.2.length ≤ c ∧ Q a (l.getD i noG).2.2
theorem RowQ.nil (Q : Option Addr → Nm → Prop) (w : World) (B : Nat) : RowQ Q w B (.slice none 0 0) [] := ⟨[], rfl, World.ownsRow_nil _ _ _ _, fun _ hi => absurd hi (Nat.not_lt_zero _)⟩
theorem RowQ.below {Q : Option Addr → Nm → Prop} {w w' : World} {B : Nat} {v : Value} {l : List Gn} (h : RowQ Q w B v l) (hb : Below w.heap.size w w') : RowQ Q w' B v l := by
  obtain ⟨ss, h1, h2, h3⟩ := h
  exact ⟨ss, h1, own_below h2 hb, h3⟩
theorem RowQ.base {Q : Option Addr → Nm → Prop} {w : World} {B B' : Nat} {v : Value} {l : List Gn} (h : RowQ Q w B v l) (hB : B' ≤ B) : RowQ Q w B' v l := by
  obtain ⟨ss, h1, h2, h3⟩ := h
  exact ⟨ss, h1, own_base h2 hB, h3⟩
theorem RowQ.lies {Q : Option Addr → Nm → Prop} {w : World} {B : Nat} {v : Value} {l : List Gn} (h : RowQ Q w B v l) : ∃ a c, v = .slice a l.length c ∧ l.length ≤ c ∧ GLiesQ Q w a l := by
  obtain ⟨ss, h1, h2, h3⟩ := h
  have hh := h2
  rcases h2.2 with ⟨hv, h0⟩ | ⟨g, cap, cur, hv, _, _, hcap, _⟩
  · exact ⟨none, 0, by rw [hv, h0], by omega, .inl (List.eq_nil_of_length_eq_zero h0)⟩
  · refine ⟨_, cap, hv, hcap, .inr ⟨g, 0, rfl, fun i hi => ?_⟩⟩
    rw [hv] at hh
    obtain ⟨a', c', e, q3, q⟩ := h3 i hi
    have hc : ∀ j, j < 3 → w.cell? ⟨g, i * 3 + j, none⟩ = (gCells (l.getD i noG) (ss.getD i noS))[j]? := fun j hj => by
      rw [World.ownsRow.cellAt hh (i * 3 + j) (by omega)]
      exact gs_at l ss i j h1 hi hj
    rw [Nat.zero_add]
    refine ⟨hc 0 (by omega), hc 1 (by omega), a', c', ?_, q3, q⟩
    rw [hc 2 (by omega), ← e]
    rfl
theorem list_of {α : Type} (d : α) (P : Nat → α → Prop) : ∀ n : Nat, (∀ i, i < n → ∃ s, P i s) → ∃ ss : List α, ss.length = n ∧ ∀ i, i < n → P i (ss.getD i d)
  | 0, _ => ⟨[], rfl, fun i hi => absurd hi (Nat.not_lt_zero _)⟩
  | n + 1, h => by
    obtain ⟨ss, h1, h2⟩ := list_of d P n (fun i hi => h i (by omega))
    obtain ⟨s, hs⟩ := h n (by omega)
    refine ⟨ss ++ [s], by simp [h1], fun i hi => ?_⟩
    by_cases hlt : i < n
    · rw [getD_snoc_lt _ _ _ _ (by omega)]; exact h2 i hlt
    · obtain rfl : i = n := by omega
      rw [← h1, getD_snoc_eq, h1]; exact hs
theorem gliesq_list {Q : Option Addr → Nm → Prop} {w : World} {ad : Addr} {l : List Gn} (h : GLiesQ Q w (some ad) l) : ∃ ss : List Value, ss.length = l.length ∧ (∀ j u, (gsCells l ss)[j]? = some u → w.cell? (ad.add j) = some u) ∧ ∀ i, i < l.length → ∃ a c, ss.getD i noS = .slice a (l.getD i noG).2.2.length c ∧ (l.getD i noG).2.2.length ≤ c ∧ Q a (l.getD i noG).2.2 := by
  rcases h with h | ⟨b, o, h1, h2⟩
  · subst h
    exact ⟨[], rfl, fun j u h => by simp [gsCells] at h, fun i hi => absurd hi (Nat.not_lt_zero _)⟩
  · obtain rfl := Option.some.inj h1
    obtain ⟨ss, h3, h4⟩ := list_of noS (fun i s => ((w.cell? ⟨b, o + i * 3, none⟩ = some (.int .i64 (l.getD i noG).1) ∧ w.cell? ⟨b, o + i * 3 + 1, none⟩ = some (.string (strOf (l.getD i noG).2.1))) ∧ w.cell? ⟨b, o + i * 3 + 2, none⟩ = some s) ∧ ∃ a c, s = .slice a (l.getD i noG).2.2.length c ∧ (l.getD i noG).2.2.length ≤ c ∧ Q a (l.getD i noG).2.2) l.length (fun i hi => by
      obtain ⟨e0, e1, a, c, e2, h5, h6⟩ := h2 i hi
      exact ⟨_, ⟨⟨e0, e1⟩, e2⟩, a, c, rfl, h5, h6⟩)
    refine ⟨ss, h3, fun j u hu => ?_, fun i hi => (h4 i hi).2⟩
    have hj : j < l.length * 3 := by rw [← gsCells_length l ss h3]; exact (List.getElem?_eq_some_iff.1 hu).1
    have hi : j / 3 < l.length := by omega
    obtain ⟨⟨⟨e0, e1⟩, e2⟩, _⟩ := h4 (j / 3) hi
    have he : j = j / 3 * 3 + j % 3 := by omega
    rw [he, gs_at l ss (j / 3) (j % 3) h3 hi (by omega)] at hu
    rw [Go.WideShapes.add_plain]
    rcases (by omega : j % 3 = 0 ∨ j % 3 = 1 ∨ j % 3 = 2) with h | h | h
    · rw [h] at hu he
      rw [he]
      simp only [gCells, List.getElem?_cons_zero, Option.some.injEq] at hu
      rw [← hu]; exact e0
    · rw [h] at hu he
      rw [he]
      simp only [gCells, List.getElem?_cons_succ, List.getElem?_cons_zero, Option.some.injEq] at hu
      rw [← hu]; exact e1
    · rw [h] at hu he
      rw [he]
      simp only [gCells, List.getElem?_cons_succ, List.getElem?_cons_zero, Option.some.injEq] at hu
      rw [← hu]; exact e2
theorem gs_one : ∀ (l : List Gn) (ss : List Value), ss.length = l.length → (∀ i, i < l.length → ∃ a n c, ss.getD i noS = .slice a n c) → ∀ u ∈ gsCells l ss, u.oneCell' = true
  | [], [], _, _ => fun u hu => by simp [gsCells] at hu
  | g :: l, s :: ss, hl, h => fun u hu => by
    have hl' : ss.length = l.length := by simpa using hl
    rcases List.mem_append.1 (show u ∈ gCells g s ++ gsCells l ss from hu) with hu | hu
    · obtain ⟨a, n, c, e⟩ := h 0 (by simp)
      have e' : s = .slice a n c := e
      rw [e'] at hu
      exact gCells_one g a n c u hu
    · exact gs_one l ss hl' (fun i hi => h (i + 1) (by simpa using hi)) u hu
theorem gs_append : ∀ (l : List Gn) (ss : List Value) (m : List Gn) (tt : List Value), ss.length = l.length → gsCells (l ++ m) (ss ++ tt) = gsCells l ss ++ gsCells m tt
  | [], [], m, tt, _ => by simp [gsCells]
  | g :: l, s :: ss, m, tt, h => by
    have hl' : ss.length = l.length := by simpa using h
    show gCells g s ++ gsCells (l ++ m) (ss ++ tt) = (gCells g s ++ gsCells l ss) ++ gsCells m tt
    rw [gs_append l ss m tt hl', List.append_assoc]
/-- One row behind the other. -/
theorem RowQ.append {Q : Option Addr → Nm → Prop} {w' : World} {B : Nat} {v' : Value} {l m : List Gn} {ss tt : List Value} (h1 : ss.length = l.length) (h3 : ∀ i, i < l.length → ∃ a c, ss.getD i noS = .slice a (l.getD i noG).2.2.length c ∧ (l.getD i noG).2.2.length ≤ c ∧ Q a (l.getD i noG).2.2)
    (g1 : tt.length = m.length) (g3 : ∀ i, i < m.length → ∃ a c, tt.getD i noS = .slice a (m.getD i noG).2.2.length c ∧ (m.getD i noG).2.2.length ≤ c ∧ Q a (m.getD i noG).2.2)
    (h4 : w'.ownsRow B 29 3 v' (l.length + m.length) (gsCells l ss ++ gsCells m tt)) : RowQ Q w' B v' (l ++ m) := by
  refine ⟨ss ++ tt, by simp [h1, g1], by rw [List.length_append, gs_append l ss m tt h1]; exact h4, fun i hi => ?_⟩
  by_cases hlt : i < l.length
  · have e1 : (ss ++ tt).getD i noS = ss.getD i noS := by
      rw [List.getD_eq_getElem?_getD, List.getD_eq_getElem?_getD, List.getElem?_append_left (by omega)]
    have e2 : (l ++ m).getD i noG = l.getD i noG := by
      rw [List.getD_eq_getElem?_getD, List.getD_eq_getElem?_getD, List.getElem?_append_left hlt]
    rw [e1, e2]; exact h3 i hlt
  · rw [List.length_append] at hi
    have e1 : (ss ++ tt).getD i noS = tt.getD (i - l.length) noS := by
      rw [List.getD_eq_getElem?_getD, List.getD_eq_getElem?_getD, List.getElem?_append_right (by omega), h1]
    have e2 : (l ++ m).getD i noG = m.getD (i - l.length) noG := by
      rw [List.getD_eq_getElem?_getD, List.getD_eq_getElem?_getD, List.getElem?_append_right (by omega)]
    rw [e1, e2]; exact g3 (i - l.length) (by omega)
theorem step_append_none_s {P : Program} {ops : Array Oper} {o : Oper} {a : Act} {w : World} {K : Act → World → Prop} {Q : Exit → Act → World → Prop} {E : Prop} (hgd : o.guard = none) (s x : Operand) (t : TypeId)
    (ho : o.op = .call { callee := .builtin .append, args := #[s, x], argTypes := #[t, t] })
    (base : Nat) (e : TypeId) (i : TypeInfo) (size : Nat) (ht : P.underlying t = some (.slice e)) (hi : P.info? e = some i)
    (v : Value) (n : Nat) (xs : List Value) (hs : a.eval s = v) (hown : w.ownsRow base e size v n xs) (hx : a.eval x = .slice none 0 0)
    (h : K (a.put o.dst v) w) : if Region.wanted o (yielded ops a.tmps) = true then Oper.wp P o a w K Q else E := by
  have hw : Region.wanted o (yielded ops a.tmps) = true := by simp [Region.wanted, hgd]
  rw [if_pos hw]
  have hrun := run_append_owned_none (P := P) (w := w) base t o.type e i size ht hi v n xs hown
  unfold Oper.wp
  simp [execOp, ho, resolve, invoke, builtin, hs, hx, hrun, Result.andThen]
  exact h
theorem step_append_x {P : Program} {ops : Array Oper} {o : Oper} {a : Act} {w : World} {K : Act → World → Prop} {Q : Exit → Act → World → Prop} {E : Prop} (hgd : o.guard = none) (s x : Operand) (t : TypeId)
    (ho : o.op = .call { callee := .builtin .append, args := #[s, x], argTypes := #[t, t] })
    (base : Nat) (e : TypeId) (i : TypeInfo) (z : Value) (size bytes : Nat) (ht : P.underlying t = some (.slice e)) (hi : P.info? e = some i) (hz : i.zero = some z)
    (hsize : i.size = size) (hby : i.bytes = bytes) (hzs : z.cells.size = size) (hsz : 0 < size)
    (hs : a.eval s = .slice none 0 0) (ax : Option Addr) (m c : Nat) (news : List Value) (hx : a.eval x = .slice ax m c) (hax : ax = none → m = 0 ∧ c = 0) (hl : news.length = m * size) (hnews : ∀ ad, ax = some ad → ∀ j u, news[j]? = some u → w.cell? (ad.add j) = some u) (h1 : ∀ u ∈ news, u.oneCell' = true)
    (h63 : m ≤ maxLen) (hbytes : m * bytes ≤ 140737488355328) (hbase : base ≤ w.heap.size)
    (h : ∀ v' w', w'.ownsRow base e size v' m news → w.grownBy w' none → K (a.put o.dst v') w') :
    if Region.wanted o (yielded ops a.tmps) = true then Oper.wp P o a w K Q else E := by
  cases ax with
  | none =>
    obtain ⟨rfl, rfl⟩ := hax rfl
    have h0 : news = [] := List.eq_nil_of_length_eq_zero (by omega)
    subst h0
    exact step_append_none_s hgd s x t ho base e i size ht hi (.slice none 0 0) 0 [] hs (World.ownsRow_nil _ _ _ _) hx (h _ _ (World.ownsRow_nil _ _ _ _) (World.grownBy.refl _ _))
  | some ad =>
    refine step_append_s hgd s x t ho base e i z size bytes ht hi hz hsize hby hzs hsz (.slice none 0 0) 0 [] hs (World.ownsRow_nil _ _ _ _) ad m c news hx hl (hnews ad rfl) h1 (by rw [Nat.zero_add]; exact h63) (by rw [Nat.zero_add]; exact hbytes) hbase (fun v' w' h2 h3 => h v' w' (by rw [Nat.zero_add, List.nil_append] at h2; exact h2) h3)
theorem step_append_y {P : Program} {ops : Array Oper} {o : Oper} {a : Act} {w : World} {K : Act → World → Prop} {Q : Exit → Act → World → Prop} {E : Prop} (hgd : o.guard = none) (s x : Operand) (t : TypeId)
    (ho : o.op = .call { callee := .builtin .append, args := #[s, x], argTypes := #[t, t] })
    (base : Nat) (e : TypeId) (i : TypeInfo) (z : Value) (size bytes : Nat) (ht : P.underlying t = some (.slice e)) (hi : P.info? e = some i) (hz : i.zero = some z)
    (hsize : i.size = size) (hby : i.bytes = bytes) (hzs : z.cells.size = size) (hsz : 0 < size)
    (v : Value) (n : Nat) (xs : List Value) (hs : a.eval s = v) (hown : w.ownsRow base e size v n xs)
    (ax : Option Addr) (m c : Nat) (news : List Value) (hx : a.eval x = .slice ax m c) (hax : ax = none → m = 0 ∧ c = 0) (hl : news.length = m * size) (hnews : ∀ ad, ax = some ad → ∀ j u, news[j]? = some u → w.cell? (ad.add j) = some u) (h1 : ∀ u ∈ news, u.oneCell' = true)
    (h63 : n + m ≤ maxLen) (hbytes : (n + m) * bytes ≤ 140737488355328) (hbase : base ≤ w.heap.size)
    (h : ∀ v' w', w'.ownsRow base e size v' (n + m) (xs ++ news) → w.grownBy w' v.ownBlock → K (a.put o.dst v') w') :
    if Region.wanted o (yielded ops a.tmps) = true then Oper.wp P o a w K Q else E := by
  cases ax with
  | none =>
    obtain ⟨rfl, rfl⟩ := hax rfl
    have h0 : news = [] := List.eq_nil_of_length_eq_zero (by omega)
    subst h0
    exact step_append_none_s hgd s x t ho base e i size ht hi v n xs hs hown hx (h _ _ (by rw [Nat.add_zero, List.append_nil]; exact hown) (World.grownBy.refl _ _))
  | some ad => exact step_append_s hgd s x t ho base e i z size bytes ht hi hz hsize hby hzs hsz v n xs hs hown ad m c news hx hl (hnews ad rfl) h1 h63 hbytes hbase h
/-- The cells of a row of general names that may be nil. -/
theorem gliesq_opt {Q : Option Addr → Nm → Prop} {w : World} {a : Option Addr} {l : List Gn} (h : GLiesQ Q w a l) : ∃ ss : List Value, ss.length = l.length ∧ (∀ ad, a = some ad → ∀ j u, (gsCells l ss)[j]? = some u → w.cell? (ad.add j) = some u) ∧ (∀ i, i < l.length → ∃ a c, ss.getD i noS = .slice a (l.getD i noG).2.2.length c ∧ (l.getD i noG).2.2.length ≤ c ∧ Q a (l.getD i noG).2.2) ∧ (a = none → l = []) := by
  cases a with
  | some ad =>
    obtain ⟨ss, h1, h2, h3⟩ := gliesq_list h
    exact ⟨ss, h1, fun x e => by cases e; exact h2, h3, fun e => by cases e⟩
  | none =>
    have h0 : l = [] := by
      rcases h with h | ⟨b, o, h1, _⟩
      · exact h
      · cases h1
    subst h0
    exact ⟨[], rfl, fun x e => (by cases e), fun i hi => absurd hi (Nat.not_lt_zero _), fun _ => rfl⟩
theorem own_formz {w : World} {B k n : Nat} {e : TypeId} {v : Value} {xs : List Value} (h : w.ownsRow B e k v n xs) : ∃ a c, v = .slice a n c ∧ (a = none → c = 0) := by
  rcases h.2 with ⟨hv, h0⟩ | ⟨g, cap, cur, hv, _⟩
  · exact ⟨none, 0, by rw [hv, h0], fun _ => rfl⟩
  · exact ⟨_, cap, hv, fun e => by cases e⟩
end Go.Proofs.YtbpdenfiifcfcaaGreatDoor
namespace Go.Proofs.YtbpdenfiifcfcaaGreatDoor
open Go.RowKit

set_option maxRecDepth 100000 in
set_option maxHeartbeats 4000000 in
theorem rchks_core (a1 a2 : Option Addr) (c1 c2 m1 m2 : Nat) (s : Sub) (w : World) (h1 : GLies w a1 s.1) (h2 : GLies w a2 s.2) (hm1 : m1 = s.1.length) (hm2 : m2 = s.2.length) (hz1 : a1 = none → m1 = 0 ∧ c1 = 0) (hz2 : a2 = none → m2 = 0 ∧ c2 = 0) (hs1 : SmL s.1) (hs2 : SmL s.2) :
    Calls Tryz.prog 17 #[.agg #[.slice a1 m1 c1, .slice a2 m2 c2]] w fun e w' => e = .returned (.int .i64 ((chkS s : Nat) : Int)) ∧ Below w.heap.size w w' := by
  obtain ⟨i0, hi, hi0, hi1, hi2⟩ := info_parts gInfo
  obtain ⟨W0, hW0⟩ : ∃ W0, W0 = w.alloc (.cells #[.slice a1 m1 c1, .slice a2 m2 c2] 24) := ⟨_, rfl⟩
  have hwr := hW0.symm
  have hb0 : Below w.heap.size w W0 := by rw [hW0]; exact belowNew w _
  obtain ⟨b0, b1, lb⟩ := two_facts (w := W0) (g := w.heap.size) (by rw [hW0]; exact heap_alloc_new w _)
  have HB0 := Lib.hid hb0
  have HE := show chkS s = if m1 = 0 ∧ m2 = 0 then 7 else if 16 < m1 ∨ 16 < m2 then 2 else errT (s.1 ++ s.2) by unfold chkS; rw [← hm1, ← hm2]
  obtain ⟨E, hE⟩ : ∃ E, E = chkS s := ⟨_, rfl⟩
  rw [← hE] at HE ⊢
  have HG2 := Lib.hid (fun W (hb : Below w.heap.size w W) => gliesq_opt (Q := fun a n => RLies w a n) (GLiesQ.below (w := w) h2 hb))
  have HG1 := Lib.hid (gliesq_opt (Q := fun a n => RLies w a n) (GLiesQ.below (w := w) h1 hb0))
  have HN := Lib.hid (And.intro hm1 hm2)
  have HZ := Lib.hid (And.intro hz1 hz2)
  have HS := Lib.hid (show SmL (s.1 ++ s.2) from fun x hx => by rcases List.mem_append.1 hx with h | h; exact hs1 x h; exact hs2 x h)
  clear hW0 hb0 h1 h2 hm1 hm2 hs1 hs2 hE hz1 hz2
  by_cases hz : m1 = 0 ∧ m2 = 0
  · obtain ⟨rfl, rfl⟩ := hz
    rw [if_pos ⟨rfl, rfl⟩] at HE
    subst HE
    clear HG1 HG2 HN HZ HS
    go_enter Tryz.func17, Tryz.ntmps17
    go_wp2_with fail
    go_ret
    exact ⟨rfl, HB0.out⟩
  rw [if_neg hz] at HE
  have HZ0 := Lib.hid hz
  have q1 : ((m1 : Int) == 0) = true ∨ ((m1 : Int) == 0) = false := by cases ((m1 : Int) == 0) <;> simp
  have HQ2 := Lib.hid (show ((m1 : Int) == 0) = true → ((m2 : Int) == 0) = false from fun h => by simp at h ⊢; omega)
  clear hz
  by_cases hy : 16 < m1 ∨ 16 < m2
  · rw [if_pos hy] at HE
    subst HE
    clear HG1 HG2 HN HZ HS
    rcases Nat.lt_or_ge 16 m1 with hy1 | hy1
    · have q3 : decide ((16 : Int) < (m1 : Int)) = true := by simp; omega
      have q1 : ((m1 : Int) == 0) = false := by simp; omega
      go_enter Tryz.func17, Tryz.ntmps17
      go_wp2_with fail
      go_ret
      exact ⟨rfl, HB0.out⟩
    · have q3 : decide ((16 : Int) < (m1 : Int)) = false := by simp; omega
      have q4 : decide ((16 : Int) < (m2 : Int)) = true := by simp; omega
      have q2 : ((m2 : Int) == 0) = false := by simp; omega
      clear hy hy1
      rcases q1 with q1 | q1
      · go_enter Tryz.func17, Tryz.ntmps17
        go_wp2_with fail
        go_ret
        exact ⟨rfl, HB0.out⟩
      · go_enter Tryz.func17, Tryz.ntmps17
        go_wp2_with fail
        go_ret
        exact ⟨rfl, HB0.out⟩
  rw [if_neg hy] at HE
  have q3 : decide ((16 : Int) < (m1 : Int)) = false := by simp; omega
  have q4 : decide ((16 : Int) < (m2 : Int)) = false := by simp; omega
  have HM := Lib.hid (show m1 ≤ 16 ∧ m2 ≤ 16 by omega)
  clear hy
  have HX := Lib.hid HE
  clear HE
  obtain ⟨ss, t1, t2, t3, t4⟩ := HG1.out
  have S1 := Lib.hid t1; have S2 := Lib.hid t2; have S3 := Lib.hid t3
  have S4 := Lib.hid (gs_one s.1 ss t1 (fun i hi => by obtain ⟨a, c, h, _⟩ := t3 i hi; exact ⟨a, _, c, h⟩))
  clear t1 t2 t3 t4 HG1
  rcases q1 with q1 | q1
  · have q2 := HQ2.out q1
    go_enter Tryz.func17, Tryz.ntmps17
    go_wp2_with fail
    go_region_law (first
      | (refine step_append_x rfl (.const (.slice none 0 0)) (.tmp 27) 22 rfl w.heap.size 29 i0 (.agg #[.int .i64 0, .string ⟨#[]⟩, .slice none 0 0]) 3 48 Tryz.underlying22 hi hi0 hi1 hi2 rfl (by decide) (by simp [Act.eval]) a1 m1 c1 (gsCells s.1 ss) (by simp [Act.eval]) HZ.out.1 (by rw [gsCells_length _ _ S1.out, HN.out.1]) S2.out S4.out (by have := HM.out; unfold maxLen; omega) (by have := HM.out; omega) HB0.out.size ?_; intro v3 w3 ho3 hg3; have hb3 : Below w.heap.size w w3 := grown_none (by first | exact HB0.out | exact HB0.out.drew) hg3 HB0.out.size; have hbw : Below W0.heap.size W0 w3 := grown_none (by first | exact Below.refl _ _ | exact (Below.refl _ _).drew) hg3 (Nat.le_refl _); have d1 := (hbw.cell (p := ⟨w.heap.size, 1, none⟩) lb).trans b1; clear hbw; have HB3 := Lib.hid hb3; have HO3 := Lib.hid ho3; obtain ⟨tt, u1, u2, u3, u4⟩ := HG2.out w3 hb3; have T1 := Lib.hid u1; have T2 := Lib.hid u2; have T3 := Lib.hid u3; have T4 := Lib.hid (gs_one s.2 tt u1 (fun i hi => by obtain ⟨a, c, h, _⟩ := u3 i hi; exact ⟨a, _, c, h⟩)); clear hb3 ho3 hg3 u1 u2 u3 u4)
      | (refine step_append_y rfl (.tmp 28) (.tmp 30) 22 rfl w.heap.size 29 i0 (.agg #[.int .i64 0, .string ⟨#[]⟩, .slice none 0 0]) 3 48 Tryz.underlying22 hi hi0 hi1 hi2 rfl (by decide) v3 m1 (gsCells s.1 ss) (by simp [Act.eval]) HO3.out a2 m2 c2 (gsCells s.2 tt) (by simp [Act.eval]) HZ.out.2 (by rw [gsCells_length _ _ T1.out, HN.out.2]) T2.out T4.out (by have := HM.out; unfold maxLen; omega) (by have := HM.out; omega) HB3.out.size ?_; intro v4 w4 ho4 hg4; have HO4 := Lib.hid ho4; have HB4 := Lib.hid (HB3.out.grown hg4 HB3.out.size (fun j e => (World.ownsRow.lt HO3.out j e).1)); have HR4 := Lib.hid (RowQ.append (Q := fun a n => RLies w a n) S1.out S3.out T1.out T3.out (by rw [← HN.out.1, ← HN.out.2]; exact ho4)); obtain ⟨a4, c4, rfl, _⟩ := own_formz ho4; clear ho4 hg4))
    all_goals go_simp
    all_goals go_wp2_with fail
    all_goals rw [show ((m1 : Int) + (m2 : Int)) = ((m1 + m2 : Nat) : Int) from by omega]
    all_goals
      have HL4 := Lib.hid (show GLiesQ (fun a n => RLies w a n) w4 a4 (s.1 ++ s.2) by obtain ⟨x, y, e, _, h⟩ := HR4.out.lies; have e' := e; simp only [Value.slice.injEq] at e'; obtain ⟨rfl, _, rfl⟩ := e'; exact h)
      have HLEN := Lib.hid (show m1 + m2 = (s.1 ++ s.2).length by rw [List.length_append, ← HN.out.1, ← HN.out.2])
      have hmb : m1 + m2 ≤ 32 := by have := HM.out; omega
      clear HR4 HO4
      generalize m1 + m2 = m at HLEN hmb ⊢
      obtain ⟨l, hl⟩ : ∃ l, l = s.1 ++ s.2 := ⟨_, rfl⟩
      rw [← hl] at HL4 HLEN HS HX
      clear hl S1 S2 S3 S4 T1 T2 T3 T4 HG2 HO3 d1 HB3 HN HZ HM HZ0 HQ2
      go_loopw [33] (fun i wr => ∃ k : Nat, k ≤ m ∧ i = .int .i64 k ∧ E = errT (l.drop k) ∧ Below w.heap.size w wr ∧ Below w4.heap.size w4 wr) (fun i _ => m - (intOf i).toNat)
      case atStart => exact ⟨0, Nat.zero_le _, rfl, HX.out, HB4.out, Below.refl _ _⟩
      case round =>
        obtain ⟨wz, hwz⟩ : ∃ wz, wz = wr := ⟨_, rfl⟩
        subst hwz
        obtain ⟨k, hk, rfl, hA, hb, hbb⟩ := hrel
        have HB := Lib.hid hb
        have HBB := Lib.hid hbb
        have HA := Lib.hid hA
        clear hb hA hbb
        by_cases hlt : k < m
        · have hd : decide ((k : Int) < (m : Int)) = true := by simp; omega
          have hkl : k < l.length := by rw [← HLEN.out]; exact hlt
          obtain ⟨b, o, rfl, hbl, e0, e1, a7, c7, e2, hc1, hL1⟩ := HL4.out.at k hkl
          have f0 : wz.cell? ⟨b, o + k * 3, none⟩ = _ := (HBB.out.cell (p := ⟨b, o + k * 3, none⟩) hbl).trans e0
          have f1 : wz.cell? ⟨b, o + k * 3 + 1, none⟩ = _ := (HBB.out.cell (p := ⟨b, o + k * 3 + 1, none⟩) hbl).trans e1
          have f2 : wz.cell? ⟨b, o + k * 3 + 2, none⟩ = _ := (HBB.out.cell (p := ⟨b, o + k * 3 + 2, none⟩) hbl).trans e2
          have hsm := HS.out.at hkl
          have HSTEP := HA.out.trans (errT_step l k hkl)
          obtain ⟨G, hG⟩ : ∃ G, G = l.getD k noG := ⟨_, rfl⟩
          rw [← hG] at f0 f1 f2 hsm hL1 hc1 HSTEP
          obtain ⟨q, t, n⟩ := G
          simp only at f0 f1 f2 hL1 hc1 hsm
          obtain ⟨N, hNn⟩ : ∃ N, N = n.length := ⟨_, rfl⟩
          rw [← hNn] at f2
          obtain ⟨W2, hW2⟩ : ∃ W2, W2 = wz.alloc (.cells #[.int .i64 q, .string (strOf t), .slice a7 N c7] 29) := ⟨_, rfl⟩
          have hb2 : Below wz.heap.size wz W2 := by rw [hW2]; exact belowNew wz _
          obtain ⟨g0, g1, g2, _⟩ := three_facts (w := W2) (g := wz.heap.size) (by rw [hW2]; exact heap_alloc_new wz _)
          have HB2 := Lib.hid (below_next HB.out hb2)
          have HBB2 := Lib.hid (below_next HBB.out hb2)
          have HCH := Lib.hid (rchkG_core a7 c7 N q t n true W2 ((hL1.below HB.out).below hb2) hNn hsm.1 hsm.2)
          have HWE := hW2.symm
          have HST := Lib.hid (show E = if chkG true q t n ≠ 0 then chkG true q t n else errT (l.drop (k + 1)) from HSTEP)
          obtain ⟨X, hX⟩ : ∃ X, X = chkG true q t n := ⟨_, rfl⟩
          rw [← hX] at HCH HST
          clear e0 e1 e2 hbl hL1 hc1 hG hNn hW2 hb2 hsm HSTEP hX hkl
          rcases Nat.eq_zero_or_pos X with hz | hz
          · have HE1 := Lib.hid (HST.out.trans (if_neg (not_not_intro hz)))
            subst hz
            go_wp2_with (go_at_call 33; (with_reducible refine HCH.out.mono ?_); rintro e w5 ⟨rfl, hb5⟩; have HB5 := Lib.hid (below_next HB2.out hb5); have HBB5 := Lib.hid (below_next HBB2.out hb5); clear hb5)
            go_roundw
            case rel => exact ⟨k + 1, by omega, by go_num, HE1.out, HB5.out, HBB5.out⟩
            case measure => simp [intOf]; omega
          · have hz1 := errno_ne (Nat.ne_of_gt hz)
            have HE1 := Lib.hid (HST.out.trans (if_pos (Nat.ne_of_gt hz)))
            go_wp2_with (go_at_call 33; (with_reducible refine HCH.out.mono ?_); rintro e w5 ⟨rfl, hb5⟩; have HB5 := Lib.hid (below_next HB2.out hb5); clear hb5)
            go_ret
            exact ⟨by rw [HE1.out]; rfl, HB5.out⟩
        · have hd : decide ((k : Int) < (m : Int)) = false := by simp; omega
          obtain rfl : k = m := by omega
          have HE1 := Lib.hid (show E = 0 from by rw [HA.out, HLEN.out, errT_end])
          go_wp2_with fail
          go_ret
          exact ⟨by rw [HE1.out]; rfl, HB.out⟩
  · go_enter Tryz.func17, Tryz.ntmps17
    go_wp2_with fail
    go_region_law (first
      | (refine step_append_x rfl (.const (.slice none 0 0)) (.tmp 27) 22 rfl w.heap.size 29 i0 (.agg #[.int .i64 0, .string ⟨#[]⟩, .slice none 0 0]) 3 48 Tryz.underlying22 hi hi0 hi1 hi2 rfl (by decide) (by simp [Act.eval]) a1 m1 c1 (gsCells s.1 ss) (by simp [Act.eval]) HZ.out.1 (by rw [gsCells_length _ _ S1.out, HN.out.1]) S2.out S4.out (by have := HM.out; unfold maxLen; omega) (by have := HM.out; omega) HB0.out.size ?_; intro v3 w3 ho3 hg3; have hb3 : Below w.heap.size w w3 := grown_none (by first | exact HB0.out | exact HB0.out.drew) hg3 HB0.out.size; have hbw : Below W0.heap.size W0 w3 := grown_none (by first | exact Below.refl _ _ | exact (Below.refl _ _).drew) hg3 (Nat.le_refl _); have d1 := (hbw.cell (p := ⟨w.heap.size, 1, none⟩) lb).trans b1; clear hbw; have HB3 := Lib.hid hb3; have HO3 := Lib.hid ho3; obtain ⟨tt, u1, u2, u3, u4⟩ := HG2.out w3 hb3; have T1 := Lib.hid u1; have T2 := Lib.hid u2; have T3 := Lib.hid u3; have T4 := Lib.hid (gs_one s.2 tt u1 (fun i hi => by obtain ⟨a, c, h, _⟩ := u3 i hi; exact ⟨a, _, c, h⟩)); clear hb3 ho3 hg3 u1 u2 u3 u4)
      | (refine step_append_y rfl (.tmp 28) (.tmp 30) 22 rfl w.heap.size 29 i0 (.agg #[.int .i64 0, .string ⟨#[]⟩, .slice none 0 0]) 3 48 Tryz.underlying22 hi hi0 hi1 hi2 rfl (by decide) v3 m1 (gsCells s.1 ss) (by simp [Act.eval]) HO3.out a2 m2 c2 (gsCells s.2 tt) (by simp [Act.eval]) HZ.out.2 (by rw [gsCells_length _ _ T1.out, HN.out.2]) T2.out T4.out (by have := HM.out; unfold maxLen; omega) (by have := HM.out; omega) HB3.out.size ?_; intro v4 w4 ho4 hg4; have HO4 := Lib.hid ho4; have HB4 := Lib.hid (HB3.out.grown hg4 HB3.out.size (fun j e => (World.ownsRow.lt HO3.out j e).1)); have HR4 := Lib.hid (RowQ.append (Q := fun a n => RLies w a n) S1.out S3.out T1.out T3.out (by rw [← HN.out.1, ← HN.out.2]; exact ho4)); obtain ⟨a4, c4, rfl, _⟩ := own_formz ho4; clear ho4 hg4))
    all_goals go_simp
    all_goals go_wp2_with fail
    all_goals rw [show ((m1 : Int) + (m2 : Int)) = ((m1 + m2 : Nat) : Int) from by omega]
    all_goals
      have HL4 := Lib.hid (show GLiesQ (fun a n => RLies w a n) w4 a4 (s.1 ++ s.2) by obtain ⟨x, y, e, _, h⟩ := HR4.out.lies; have e' := e; simp only [Value.slice.injEq] at e'; obtain ⟨rfl, _, rfl⟩ := e'; exact h)
      have HLEN := Lib.hid (show m1 + m2 = (s.1 ++ s.2).length by rw [List.length_append, ← HN.out.1, ← HN.out.2])
      have hmb : m1 + m2 ≤ 32 := by have := HM.out; omega
      clear HR4 HO4
      generalize m1 + m2 = m at HLEN hmb ⊢
      obtain ⟨l, hl⟩ : ∃ l, l = s.1 ++ s.2 := ⟨_, rfl⟩
      rw [← hl] at HL4 HLEN HS HX
      clear hl S1 S2 S3 S4 T1 T2 T3 T4 HG2 HO3 d1 HB3 HN HZ HM HZ0 HQ2
      go_loopw [33] (fun i wr => ∃ k : Nat, k ≤ m ∧ i = .int .i64 k ∧ E = errT (l.drop k) ∧ Below w.heap.size w wr ∧ Below w4.heap.size w4 wr) (fun i _ => m - (intOf i).toNat)
      case atStart => exact ⟨0, Nat.zero_le _, rfl, HX.out, HB4.out, Below.refl _ _⟩
      case round =>
        obtain ⟨wz, hwz⟩ : ∃ wz, wz = wr := ⟨_, rfl⟩
        subst hwz
        obtain ⟨k, hk, rfl, hA, hb, hbb⟩ := hrel
        have HB := Lib.hid hb
        have HBB := Lib.hid hbb
        have HA := Lib.hid hA
        clear hb hA hbb
        by_cases hlt : k < m
        · have hd : decide ((k : Int) < (m : Int)) = true := by simp; omega
          have hkl : k < l.length := by rw [← HLEN.out]; exact hlt
          obtain ⟨b, o, rfl, hbl, e0, e1, a7, c7, e2, hc1, hL1⟩ := HL4.out.at k hkl
          have f0 : wz.cell? ⟨b, o + k * 3, none⟩ = _ := (HBB.out.cell (p := ⟨b, o + k * 3, none⟩) hbl).trans e0
          have f1 : wz.cell? ⟨b, o + k * 3 + 1, none⟩ = _ := (HBB.out.cell (p := ⟨b, o + k * 3 + 1, none⟩) hbl).trans e1
          have f2 : wz.cell? ⟨b, o + k * 3 + 2, none⟩ = _ := (HBB.out.cell (p := ⟨b, o + k * 3 + 2, none⟩) hbl).trans e2
          have hsm := HS.out.at hkl
          have HSTEP := HA.out.trans (errT_step l k hkl)
          obtain ⟨G, hG⟩ : ∃ G, G = l.getD k noG := ⟨_, rfl⟩
          rw [← hG] at f0 f1 f2 hsm hL1 hc1 HSTEP
          obtain ⟨q, t, n⟩ := G
          simp only at f0 f1 f2 hL1 hc1 hsm
          obtain ⟨N, hNn⟩ : ∃ N, N = n.length := ⟨_, rfl⟩
          rw [← hNn] at f2
          obtain ⟨W2, hW2⟩ : ∃ W2, W2 = wz.alloc (.cells #[.int .i64 q, .string (strOf t), .slice a7 N c7] 29) := ⟨_, rfl⟩
          have hb2 : Below wz.heap.size wz W2 := by rw [hW2]; exact belowNew wz _
          obtain ⟨g0, g1, g2, _⟩ := three_facts (w := W2) (g := wz.heap.size) (by rw [hW2]; exact heap_alloc_new wz _)
          have HB2 := Lib.hid (below_next HB.out hb2)
          have HBB2 := Lib.hid (below_next HBB.out hb2)
          have HCH := Lib.hid (rchkG_core a7 c7 N q t n true W2 ((hL1.below HB.out).below hb2) hNn hsm.1 hsm.2)
          have HWE := hW2.symm
          have HST := Lib.hid (show E = if chkG true q t n ≠ 0 then chkG true q t n else errT (l.drop (k + 1)) from HSTEP)
          obtain ⟨X, hX⟩ : ∃ X, X = chkG true q t n := ⟨_, rfl⟩
          rw [← hX] at HCH HST
          clear e0 e1 e2 hbl hL1 hc1 hG hNn hW2 hb2 hsm HSTEP hX hkl
          rcases Nat.eq_zero_or_pos X with hz | hz
          · have HE1 := Lib.hid (HST.out.trans (if_neg (not_not_intro hz)))
            subst hz
            go_wp2_with (go_at_call 33; (with_reducible refine HCH.out.mono ?_); rintro e w5 ⟨rfl, hb5⟩; have HB5 := Lib.hid (below_next HB2.out hb5); have HBB5 := Lib.hid (below_next HBB2.out hb5); clear hb5)
            go_roundw
            case rel => exact ⟨k + 1, by omega, by go_num, HE1.out, HB5.out, HBB5.out⟩
            case measure => simp [intOf]; omega
          · have hz1 := errno_ne (Nat.ne_of_gt hz)
            have HE1 := Lib.hid (HST.out.trans (if_pos (Nat.ne_of_gt hz)))
            go_wp2_with (go_at_call 33; (with_reducible refine HCH.out.mono ?_); rintro e w5 ⟨rfl, hb5⟩; have HB5 := Lib.hid (below_next HB2.out hb5); clear hb5)
            go_ret
            exact ⟨by rw [HE1.out]; rfl, HB5.out⟩
        · have hd : decide ((k : Int) < (m : Int)) = false := by simp; omega
          obtain rfl : k = m := by omega
          have HE1 := Lib.hid (show E = 0 from by rw [HA.out, HLEN.out, errT_end])
          go_wp2_with fail
          go_ret
          exact ⟨by rw [HE1.out]; rfl, HB.out⟩
end Go.Proofs.YtbpdenfiifcfcaaGreatDoor
