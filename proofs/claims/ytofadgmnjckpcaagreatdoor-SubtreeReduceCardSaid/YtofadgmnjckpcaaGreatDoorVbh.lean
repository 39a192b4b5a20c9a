/-
  The lists of permittedOf, and what withinEach keeps of them (no memory).
  The builtin clear on a row whose elements have several cells; stores into a row, as cells.
  The contract of slices.DeleteFunc over a row of general names of its own memory.
  Rows of lists of general names, each in memory of a call's own. Nothing is claimed of the program here.
-/
import Derived.Test.YtofadgmnjckpcaaGreatDoorVbg
import Derived.Lib.SliceRun
import Derived.Laws.IdiomCopy
import Derived.Test.YtofadgmnjckpcaaGreatDoorVba
namespace Go.Proofs.YtofadgmnjckpcaaGreatDoor
open Go.RowKit

/-- The bases of a kind; what permittedOf gives: those of each constraint that has any. -/
def pK (k : Int) (x : Gn) : Bool := !decide (x.1 = k)
noncomputable def ofK (k : Int) (l : List Gn) : List Gn := keepG (pK k) l
theorem ofK_eq (k : Int) (l : List Gn) : ofK k l = l.filter (fun x => decide (x.1 = k)) := by
  unfold ofK keepG pK
  congr 1
  funext x
  rw [Bool.not_not]
theorem ofK_empty (k : Int) (l : List Gn) : (ofK k l).isEmpty = !limG l k := by
  rw [ofK_eq]
  unfold limG
  induction l with
  | nil => rfl
  | cons x r ih =>
    rw [List.filter_cons, List.any_cons]
    cases h : decide (x.1 = k)
    · rw [if_neg (by decide), Bool.false_or]; exact ih
    · rw [if_pos rfl]; rfl
theorem inG_ofK (k : Int) (l : List Gn) (x : Gn) (hx : x.1 = k) : inG x (ofK k l) = inG x l := by
  rw [ofK_eq]
  unfold inG
  induction l with
  | nil => rfl
  | cons y r ih =>
    rw [List.filter_cons, List.any_cons]
    cases h : decide (y.1 = k)
    · rw [if_neg (by decide), ih]
      cases hw : wG x y
      · rfl
      · exact absurd ((wG_kind hw).symm.trans hx) (of_decide_eq_false h)
    · rw [if_pos rfl, List.any_cons, ih]
noncomputable def plist (st : List Sub) (k : Int) : List (List Gn) := (st.map (fun s => ofK k s.1)).filter (fun l => !l.isEmpty)
theorem plist_step (st : List Sub) (k : Int) (i : Nat) (h : i < st.length) : plist (st.take (i + 1)) k = plist (st.take i) k ++ (if (ofK k (st.getD i noSub).1).isEmpty = true then [] else [ofK k (st.getD i noSub).1]) := by
  unfold plist
  rw [take_one st i h noSub, List.map_append, List.filter_append]
  congr 1
  show [ofK k (st.getD i noSub).1].filter (fun l => !l.isEmpty) = _
  generalize ofK k (st.getD i noSub).1 = z
  cases z <;> rfl
theorem plist_any (st : List Sub) (k : Int) : decide (0 < (plist st k).length) = st.any (fun s => limG s.1 k) := by
  unfold plist
  induction st with
  | nil => rfl
  | cons s r ih =>
    rw [List.map_cons, List.filter_cons, List.any_cons, ofK_empty, Bool.not_not]
    cases h : limG s.1 k
    · rw [if_neg (by decide), Bool.false_or]; exact ih
    · rw [if_pos rfl, Bool.true_or]; simp
theorem plist_flat (st : List Sub) (k : Int) : (plist st k).flatten = st.flatMap (fun s => ofK k s.1) := by
  unfold plist
  induction st with
  | nil => rfl
  | cons s r ih =>
    rw [List.map_cons, List.filter_cons, List.flatMap_cons]
    cases h : (ofK k s.1).isEmpty
    · rw [if_pos (by rfl), List.flatten_cons, ih]
    · rw [if_neg (by decide), ih, List.isEmpty_iff.1 h, List.nil_append]
noncomputable def outG (L : List (List Gn)) (x : Gn) : Bool := L.any fun l => !inG x l
theorem every_out (st : List Sub) (k : Int) (x : Gn) (hx : x.1 = k) : (!outG (plist st k) x) = everyG st k x := by
  unfold outG everyG plist
  rw [decide_eq_true hx, Bool.true_and]
  induction st with
  | nil => rfl
  | cons s r ih =>
    rw [List.map_cons, List.filter_cons, List.all_cons, ofK_empty, Bool.not_not, ← ih]
    cases h : limG s.1 k
    · rw [if_neg (by decide)]; rfl
    · rw [if_pos rfl, List.any_cons, inG_ofK k s.1 x hx, Bool.true_and, Bool.not_or]
/-- What withinEach keeps of the lists of a kind. -/
theorem keep_plist (st : List Sub) (k : Int) : keepG (outG (plist st k)) (plist st k).flatten = kindG st k := by
  rw [plist_flat, kindG_flat]
  have key : ∀ s : List Gn, keepG (outG (plist st k)) (ofK k s) = s.filter (everyG st k) := fun s => by
    rw [ofK_eq]
    unfold keepG
    rw [List.filter_filter]
    apply List.filter_congr
    intro x _
    by_cases hx : x.1 = k
    · rw [decide_eq_true hx, Bool.and_true, every_out st k x hx]
    · rw [decide_eq_false hx, Bool.and_false]
      unfold everyG
      rw [decide_eq_false hx, Bool.false_and]
  have gen : ∀ zs : List Sub, keepG (outG (plist st k)) (zs.flatMap (fun s => ofK k s.1)) = zs.flatMap (fun s => s.1.filter (everyG st k)) := fun zs => by
    induction zs with
    | nil => rfl
    | cons s r ih =>
      rw [List.flatMap_cons, List.flatMap_cons, ← key s.1, ← ih]
      unfold keepG
      rw [List.filter_append]
  exact gen st
theorem len_flat (st : List Sub) (f : Sub → List Gn) (N : Nat) (h : ∀ s ∈ st, (f s).length ≤ N) : (st.flatMap f).length ≤ st.length * N := by
  induction st with
  | nil => simp
  | cons s r ih =>
    rw [List.flatMap_cons, List.length_append, List.length_cons, Nat.add_mul, Nat.one_mul]
    have h1 := h s (by simp)
    have h2 := ih (fun x hx => h x (List.mem_cons_of_mem _ hx))
    omega
theorem len_kind (st : List Sub) (k : Int) : (kindG st k).length ≤ (st.flatMap (·.1)).length := List.length_filter_le _ _
theorem kind_mem {st : List Sub} {k : Int} {x : Gn} (h : x ∈ kindG st k) : ∃ s ∈ st, x ∈ s.1 := by
  obtain ⟨s, hs, h2⟩ := List.mem_flatMap.1 (List.mem_filter.1 h).1
  exact ⟨s, hs, h2⟩
theorem plist_mem {st : List Sub} {k : Int} {l : List Gn} (h : l ∈ plist st k) : ∃ s ∈ st, l = ofK k s.1 := by
  obtain ⟨s, hs, h2⟩ := List.mem_map.1 (List.mem_filter.1 h).1
  exact ⟨s, hs, h2.symm⟩
theorem plist_ne {st : List Sub} {k : Int} {l : List Gn} (h : l ∈ plist st k) : l.length ≠ 0 := by
  have := (List.mem_filter.1 h).2
  cases l with
  | nil => cases this
  | cons x r => simp
theorem ofK_sub {k : Int} {l : List Gn} {x : Gn} (h : x ∈ ofK k l) : x ∈ l := (List.mem_filter.1 h).1
theorem ofK_len (k : Int) (l : List Gn) : (ofK k l).length ≤ l.length := List.length_filter_le _ _
theorem plist_len (st : List Sub) (k : Int) : (plist st k).length ≤ st.length := by
  unfold plist
  exact Nat.le_trans (List.length_filter_le _ _) (by rw [List.length_map]; exact Nat.le_refl _)
end Go.Proofs.YtofadgmnjckpcaaGreatDoor
namespace Go.Proofs.YtofadgmnjckpcaaGreatDoor
open Go.RowKit

/-- A store into a block: one cell of it is another one. -/
theorem set_cells {w : World} {g j : Nat} {cur : Array Value} {t : TypeId} {fz : Nat × Nat} {a : Value} (h : w.heap[g]? = some (.cells cur t fz)) : ∃ cur', (w.setCell ⟨g, j, none⟩ a).heap[g]? = some (.cells cur' t fz) ∧ cur'.toList = cur.toList.set j a := by
  refine ⟨cur.setIfInBounds j a, ?_, by simp⟩
  simp [World.setCell, Array.getElem?_modify, h]
theorem set_three {w : World} {g n : Nat} {cur : Array Value} {t : TypeId} {fz : Nat × Nat} {a b c : Value} (h : w.heap[g]? = some (.cells cur t fz)) : ∃ cur', (((w.setCell ⟨g, n, none⟩ a).setCell ⟨g, n + 1, none⟩ b).setCell ⟨g, n + 2, none⟩ c).heap[g]? = some (.cells cur' t fz) ∧ cur'.toList = set3 cur.toList n a b c := by
  obtain ⟨c1, h1, e1⟩ := set_cells (j := n) (a := a) h
  obtain ⟨c2, h2, e2⟩ := set_cells (j := n + 1) (a := b) h1
  obtain ⟨c3, h3, e3⟩ := set_cells (j := n + 2) (a := c) h2
  exact ⟨c3, h3, by rw [e3, e2, e1]; rfl⟩
/-- Stores behind place o leave what lies before it. -/
theorem cells_from {g : Nat} {t : TypeId} {fz : Nat × Nat} : ∀ (vs : List Value) (o : Nat) (w : World) (cur : Array Value), w.heap[g]? = some (.cells cur t fz) → ∃ cur', (w.setCells g o vs).heap[g]? = some (.cells cur' t fz) ∧ cur'.size = cur.size ∧ ∀ n, n ≤ o → cur'.toList.take n = cur.toList.take n
  | [], _, _, cur, h => ⟨cur, h, rfl, fun _ _ => rfl⟩
  | v :: r, o, w, cur, h => by
    obtain ⟨c1, h1, e1⟩ := set_cells (j := o) (a := v) h
    obtain ⟨c2, h2, e2, e3⟩ := cells_from r (o + 1) _ c1 h1
    have hs : c1.size = cur.size := by rw [← Array.length_toList, e1, List.length_set, Array.length_toList]
    refine ⟨c2, h2, e2.trans hs, fun n hn => ?_⟩
    rw [e3 n (by omega), e1, List.take_set_of_le (by omega)]
theorem but_cells (g : Nat) : ∀ (vs : List Value) (o : Nat) (w : World), But g w (w.setCells g o vs)
  | [], _, w => But.refl g w
  | v :: r, o, w => (But.set g o w v).next (but_cells g r (o + 1) _)
theorem run_clear_cells {P : Program} (w : World) (t e ty : TypeId) (z : Value) (ht : P.underlying t = some (.slice e)) (hv : ∀ w, (zeroValue e).run P w = .ok z w) (h1 : ∀ v ∈ z.cells, v.oneCell' = true) (h0 : 0 < z.cells.size) (b o n c : Nat) (hn : 0 < n)
    (hc : ∀ j, j < n * z.cells.size → (w.cell? ⟨b, o + j, none⟩).isSome = true) (hf : ∀ j, j < n * z.cells.size → w.frozen? ⟨b, o + j, none⟩ = false) :
    (Builtin.clear_ #[t] ty #[.slice (some ⟨b, o, none⟩) n c]).run P w = .ok (.tuple #[]) (w.setCells b o (Builtin.zeroCells z.cells n).toList) := by
  have hl : (Builtin.zeroCells z.cells n).toList.length = n * z.cells.size := by simp [Builtin.zeroCells]
  have ho : ∀ v ∈ (Builtin.zeroCells z.cells n).toList, v.oneCell' = true := fun v hv' => by
    simp only [Builtin.zeroCells, Array.toList_map, List.mem_map] at hv'
    obtain ⟨i, _, rfl⟩ := hv'
    have hm : i % z.cells.size < z.cells.size := Nat.mod_lt _ h0
    rw [getElem!_pos z.cells _ hm]
    exact h1 _ (Array.getElem_mem hm)
  have hst := run_storeCells_cells (P := P) b o (Builtin.zeroCells z.cells n).toList 0 w (by rw [hl]; simpa using hc) (by rw [hl]; simpa using hf) ho
  simp only [Nat.add_zero] at hst
  obtain ⟨m, rfl⟩ : ∃ m, n = m + 1 := ⟨n - 1, by omega⟩
  simp [Builtin.clear_, run_underlying ht, hv, hst]
end Go.Proofs.YtofadgmnjckpcaaGreatDoor
namespace Go.Proofs.YtofadgmnjckpcaaGreatDoor
open Go.RowKit

theorem gs_take : ∀ (l : List Gn) (ss : List Value) (k : Nat), ss.length = l.length → gsCells (l.take k) (ss.take k) = (gsCells l ss).take (k * 3)
  | [], [], k, _ => by simp [gsCells]
  | g :: l, s :: ss, 0, _ => by simp [gsCells]
  | g :: l, s :: ss, k + 1, h => by
    have := gs_take l ss k (by simpa using h)
    have e : (k + 1) * 3 = k * 3 + 1 + 1 + 1 := by omega
    rw [e]
    simp [gsCells, gCells, this]
theorem keep_all (p : Gn → Bool) (l : List Gn) (h : ∀ j, j < l.length → p (l.getD j noG) = false) : keepG p l = l := by
  unfold keepG
  rw [List.filter_eq_self]
  intro x hx
  obtain ⟨i, hi, rfl⟩ := List.getElem_of_mem hx
  have := h i hi
  rw [List.getD_eq_getElem?_getD, List.getElem?_eq_getElem hi] at this
  simpa using this
theorem DelI.start {Q : Option Addr → Nm → Prop} {p : Gn → Bool} {l : List Gn} {ss C : List Value} {k : Nat} (hss : ss.length = l.length) (hC : C.take (l.length * 3) = gsCells l ss) (hk : k < l.length) (hall : ∀ j, j < k → p (l.getD j noG) = false) (hp : p (l.getD k noG) = true) (hs : NamesQ Q l ss) : DelI Q p l ss C (k + 1) k := by
  have hkl : (l.take k).length = k := by rw [List.length_take]; omega
  have hg : ∀ i, i < k → (l.take k).getD i noG = l.getD i noG := fun i hi => by
    rw [List.getD_eq_getElem?_getD, List.getD_eq_getElem?_getD, List.getElem?_take_of_lt hi]
  have e : keepG p (l.take k) = l.take k := keep_all p _ (fun j hj => by rw [hkl] at hj; rw [hg j hj]; exact hall j hj)
  have h0 : DelI Q p l ss C k k := by
    refine ⟨ss.take k, by rw [e, hkl, List.length_take]; omega, by rw [e, hkl], ?_, ?_, fun x hx hxl => ?_⟩
    · rw [e, gs_take l ss k hss, ← hC, List.take_take, Nat.min_eq_left (by omega)]
    · rw [e]
      intro i hi
      rw [hkl] at hi
      have e2 : (ss.take k).getD i noS = ss.getD i noS := by
        rw [List.getD_eq_getElem?_getD, List.getD_eq_getElem?_getD, List.getElem?_take_of_lt hi]
      rw [hg i hi, e2]
      exact hs i (by omega)
    · rw [← hC, List.getElem?_take_of_lt hxl]
  exact h0.drop hk hp
theorem DelI.lt {Q : Option Addr → Nm → Prop} {p : Gn → Bool} {l : List Gn} {ss C : List Value} {j i : Nat} (h : DelI Q p l ss C j i) : i ≤ j := by
  obtain ⟨K, _, h2, _⟩ := h
  rw [h2]
  exact Nat.le_trans (List.length_filter_le _ _) (by rw [List.length_take]; omega)
end Go.Proofs.YtofadgmnjckpcaaGreatDoor
namespace Go.Proofs.YtofadgmnjckpcaaGreatDoor
open Go.RowKit

theorem RowQ.mono {Q Q' : Option Addr → Nm → Prop} {w : World} {B : Nat} {v : Value} {l : List Gn} (h : RowQ Q w B v l) (hQ : ∀ a n, Q a n → Q' a n) : RowQ Q' w B v l := by
  obtain ⟨ss, h1, h2, h3⟩ := h
  refine ⟨ss, h1, h2, fun i hi => ?_⟩
  obtain ⟨a, c, e, hc, hq⟩ := h3 i hi
  exact ⟨a, c, e, hc, hQ _ _ hq⟩
theorem RowQ.keptR {Q : Option Addr → Nm → Prop} {w w' : World} {B B' k m : Nat} {T : TypeId} {v u : Value} {l : List Gn} {xs : List Value} (h : RowQ Q w B u l) (ho : w.ownsRow B' T k v m xs) (h0 : 32 ≠ T) (hg : w.grownBy w' v.ownBlock) : RowQ Q w' B u l := by
  obtain ⟨ss, q1, q2, q3⟩ := h
  exact ⟨ss, q1, World.ownsRow.kept q2 hg (rows_apart q2 ho h0), q3⟩
/-- The slice value v, of memory from block B on, holds the lists L, each in memory from block B on. -/
def RowL (Q : Option Addr → Nm → Prop) (w : World) (B : Nat) (v : Value) (L : List (List Gn)) : Prop :=
  ∃ vs : List Value, vs.length = L.length ∧ w.ownsRow B 25 1 v L.length vs ∧ ∀ i, i < L.length → RowQ Q w B (vs.getD i noS) (L.getD i [])
theorem RowL.nil (Q : Option Addr → Nm → Prop) (w : World) (B : Nat) : RowL Q w B (.slice none 0 0) [] := ⟨[], rfl, World.ownsRow_nil _ _ _ _, fun _ hi => absurd hi (Nat.not_lt_zero _)⟩
theorem RowL.below {Q : Option Addr → Nm → Prop} {w w' : World} {B : Nat} {v : Value} {L : List (List Gn)} (h : RowL Q w B v L) (hb : Below w.heap.size w w') : RowL Q w' B v L := by
  obtain ⟨vs, h1, h2, h3⟩ := h
  exact ⟨vs, h1, own_below h2 hb, fun i hi => (h3 i hi).below hb⟩
theorem RowL.base {Q : Option Addr → Nm → Prop} {w : World} {B B' : Nat} {v : Value} {L : List (List Gn)} (h : RowL Q w B v L) (hB : B' ≤ B) : RowL Q w B' v L := by
  obtain ⟨vs, h1, h2, h3⟩ := h
  exact ⟨vs, h1, own_base h2 hB, fun i hi => (h3 i hi).base hB⟩
theorem RowL.mono {Q Q' : Option Addr → Nm → Prop} {w : World} {B : Nat} {v : Value} {L : List (List Gn)} (h : RowL Q w B v L) (hQ : ∀ a n, Q a n → Q' a n) : RowL Q' w B v L := by
  obtain ⟨vs, h1, h2, h3⟩ := h
  exact ⟨vs, h1, h2, fun i hi => (h3 i hi).mono hQ⟩
theorem RowL.snoc {Q : Option Addr → Nm → Prop} {w w' : World} {B : Nat} {v v' s : Value} {L : List (List Gn)} {g : List Gn} {vs : List Value} (h1 : vs.length = L.length) (h2 : w.ownsRow B 25 1 v L.length vs) (h3 : ∀ i, i < L.length → RowQ Q w B (vs.getD i noS) (L.getD i []))
    (hr : RowQ Q w B s g) (hg : w.grownBy w' v.ownBlock) (h4 : w'.ownsRow B 25 1 v' (L.length + 1) (vs ++ [s])) : RowL Q w' B v' (L ++ [g]) := by
  refine ⟨vs ++ [s], by simp [h1], by rw [List.length_append]; exact h4, fun i hi => ?_⟩
  by_cases hlt : i < L.length
  · rw [getD_snoc_lt _ _ _ _ (by omega), getD_snoc_lt _ _ _ _ hlt]
    exact (h3 i hlt).keptR h2 (by decide) hg
  · rw [List.length_append, List.length_singleton] at hi
    obtain rfl : i = L.length := by omega
    rw [getD_snoc_eq, ← h1, getD_snoc_eq]
    exact hr.keptR h2 (by decide) hg
/-- Lists of general names lie in a row, the names of which are as Q says. -/
def LLiesQ (Q : Option Addr → Nm → Prop) (w : World) (a : Option Addr) (L : List (List Gn)) : Prop :=
  L = [] ∨ ∃ b o, a = some ⟨b, o, none⟩ ∧ ∀ i, i < L.length → ∃ a1 c1, w.cell? ⟨b, o + i, none⟩ = some (.slice a1 (L.getD i []).length c1) ∧ (L.getD i []).length ≤ c1 ∧ GLiesQ Q w a1 (L.getD i [])
theorem LLiesQ.at {Q : Option Addr → Nm → Prop} {w : World} {a : Option Addr} {L : List (List Gn)} (h : LLiesQ Q w a L) (k : Nat) (hk : k < L.length) : ∃ b o, a = some ⟨b, o, none⟩ ∧ b < w.heap.size ∧ ∃ a1 c1, w.cell? ⟨b, o + k, none⟩ = some (.slice a1 (L.getD k []).length c1) ∧ (L.getD k []).length ≤ c1 ∧ GLiesQ Q w a1 (L.getD k []) := by
  rcases h with h | ⟨b, o, h1, h2⟩
  · rw [h] at hk; exact absurd hk (Nat.not_lt_zero _)
  · obtain ⟨a1, c1, e, h3⟩ := h2 k hk
    exact ⟨b, o, h1, block_lt e, a1, c1, e, h3⟩
theorem GLiesQ.mono {Q Q' : Option Addr → Nm → Prop} {w : World} {a : Option Addr} {l : List Gn} (h : GLiesQ Q w a l) (hQ : ∀ a n, Q a n → Q' a n) : GLiesQ Q' w a l := by
  rcases h with h | ⟨b, o, h1, h2⟩
  · exact .inl h
  · refine .inr ⟨b, o, h1, fun i hi => ?_⟩
    obtain ⟨c0, c1, a', c', c2, c3, c4⟩ := h2 i hi
    exact ⟨c0, c1, a', c', c2, c3, hQ _ _ c4⟩
theorem LLiesQ.below {Q : Option Addr → Nm → Prop} {w w' : World} {a : Option Addr} {L : List (List Gn)} (h : LLiesQ Q w a L) (hb : Below w.heap.size w w') : LLiesQ Q w' a L := by
  rcases h with h | ⟨b, o, h1, h2⟩
  · exact .inl h
  · refine .inr ⟨b, o, h1, fun i hi => ?_⟩
    obtain ⟨a1, c1, e, h3, h4⟩ := h2 i hi
    exact ⟨a1, c1, (hb.cell (block_lt e)).trans e, h3, h4.below hb⟩
theorem LLiesQ.toL {Q : Option Addr → Nm → Prop} {w : World} {a : Option Addr} {L : List (List Gn)} (h : LLiesQ Q w a L) (hQ : ∀ a n, Q a n → RLies w a n) : LLies w a L := by
  rcases h with h | ⟨b, o, h1, h2⟩
  · exact .inl h
  · refine .inr ⟨b, o, h1, fun i hi => ?_⟩
    obtain ⟨a1, c1, e, h3, h4⟩ := h2 i hi
    exact ⟨a1, c1, e, h3, h4.mono hQ⟩
/-- At the address lie the constraints l, the names of which are as Q says. -/
def SLiesQ (Q : Option Addr → Nm → Prop) (w : World) (a : Option Addr) (l : List Sub) : Prop :=
  l = [] ∨ ∃ b o, a = some ⟨b, o, none⟩ ∧ ∀ i, i < l.length → ∃ a1 c1 a2 c2, w.cell? ⟨b, o + i * 2, none⟩ = some (.slice a1 (l.getD i noSub).1.length c1) ∧ w.cell? ⟨b, o + i * 2 + 1, none⟩ = some (.slice a2 (l.getD i noSub).2.length c2) ∧
    ((l.getD i noSub).1.length ≤ c1 ∧ GLiesQ Q w a1 (l.getD i noSub).1) ∧ (a2 = none → c2 = 0) ∧ GLiesQ Q w a2 (l.getD i noSub).2
theorem SLiesQ.below {Q : Option Addr → Nm → Prop} {w w' : World} {a : Option Addr} {l : List Sub} (h : SLiesQ Q w a l) (hb : Below w.heap.size w w') : SLiesQ Q w' a l := by
  rcases h with h | ⟨b, o, h1, h2⟩
  · exact .inl h
  · refine .inr ⟨b, o, h1, fun i hi => ?_⟩
    obtain ⟨a1, c1, a2, c2, e1, e2, ⟨h3, h4⟩, h5, h6⟩ := h2 i hi
    exact ⟨a1, c1, a2, c2, (hb.cell (block_lt e1)).trans e1, (hb.cell (block_lt e2)).trans e2, ⟨h3, h4.below hb⟩, h5, h6.below hb⟩
theorem SLiesQ.at {Q : Option Addr → Nm → Prop} {w : World} {a : Option Addr} {l : List Sub} (h : SLiesQ Q w a l) (k : Nat) (hk : k < l.length) : ∃ b o, a = some ⟨b, o, none⟩ ∧ b < w.heap.size ∧ ∃ a1 c1 a2 c2, w.cell? ⟨b, o + k * 2, none⟩ = some (.slice a1 (l.getD k noSub).1.length c1) ∧ w.cell? ⟨b, o + k * 2 + 1, none⟩ = some (.slice a2 (l.getD k noSub).2.length c2) ∧
    ((l.getD k noSub).1.length ≤ c1 ∧ GLiesQ Q w a1 (l.getD k noSub).1) ∧ (a2 = none → c2 = 0) ∧ GLiesQ Q w a2 (l.getD k noSub).2 := by
  rcases h with h | ⟨b, o, h1, h2⟩
  · rw [h] at hk; exact absurd hk (Nat.not_lt_zero _)
  · obtain ⟨a1, c1, a2, c2, e1, e2, h3, h4⟩ := h2 k hk
    exact ⟨b, o, h1, block_lt e1, a1, c1, a2, c2, e1, e2, h3, h4⟩
theorem OwnG.liesQ {Q : Option Addr → Nm → Prop} {w : World} {B : Nat} (hQ : ∀ a k c n, OwnN w B (.slice a k c) n → Q a n) {v : Value} {l : List Gn} (h : OwnG w B v l) : ∃ a c, v = .slice a l.length c ∧ l.length ≤ c ∧ (a = none → c = 0) ∧ GLiesQ Q w a l := by
  obtain ⟨ss, h1, h2, h3⟩ := h
  have hq : RowQ Q w B v l := ⟨ss, h1, h2, fun i hi => by
    obtain ⟨a, c, e, hc, _⟩ := (h3 i hi).lies
    refine ⟨a, c, e, hc, ?_⟩
    have := h3 i hi
    rw [e] at this
    exact hQ _ _ _ _ this⟩
  obtain ⟨a, c, e, hc, hl⟩ := hq.lies
  refine ⟨a, c, e, hc, ?_, hl⟩
  rcases h2.2 with ⟨hv, _⟩ | ⟨g, cap, cur, hv, _⟩
  · rw [hv] at e; obtain ⟨_, _, rfl⟩ := slice_inj e; exact fun _ => rfl
  · rw [hv] at e; obtain ⟨rfl, _, _⟩ := slice_inj e; exact fun e => by cases e
theorem OwnSb.liesQ {Q : Option Addr → Nm → Prop} {w : World} {B : Nat} (hQ : ∀ a k c n, OwnN w B (.slice a k c) n → Q a n) {v : Value} {l : List Sub} (h : OwnSb w B v l) : ∃ a c, v = .slice a l.length c ∧ l.length ≤ c ∧ SLiesQ Q w a l := by
  obtain ⟨ss, h1, h2, h3⟩ := h
  have hr := h2
  rcases h2.2 with ⟨hv, h0⟩ | ⟨g, cap, cur, hv, _, _, hcap, _⟩
  · exact ⟨none, 0, by rw [hv, h0], by omega, .inl (List.eq_nil_of_length_eq_zero h0)⟩
  · refine ⟨_, cap, hv, hcap, .inr ⟨g, 0, rfl, fun i hi => ?_⟩⟩
    rw [hv] at hr
    obtain ⟨a1, c1, e1, q1, _, k1⟩ := (h3 i hi).1.liesQ hQ
    obtain ⟨a2, c2, e2, _, q2, k2⟩ := (h3 i hi).2.liesQ hQ
    have hc : ∀ j, j < 2 → w.cell? ⟨g, i * 2 + j, none⟩ = (sCells (ss.getD i noSV))[j]? := fun j hj => by
      rw [World.ownsRow.cellAt hr (i * 2 + j) (by omega)]
      exact ss_at ss i (by omega) j hj
    rw [Nat.zero_add]
    refine ⟨a1, c1, a2, c2, ?_, ?_, ⟨q1, k1⟩, q2, k2⟩
    · rw [← e1]; exact hc 0 (by omega)
    · rw [← e2]; exact hc 1 (by omega)
theorem RowL.lies {Q : Option Addr → Nm → Prop} {w : World} {B : Nat} {v : Value} {L : List (List Gn)} (h : RowL Q w B v L) : ∃ a c, v = .slice a L.length c ∧ L.length ≤ c ∧ LLiesQ Q w a L := by
  obtain ⟨vs, h1, h2, h3⟩ := h
  have hh := h2
  rcases h2.2 with ⟨hv, h0⟩ | ⟨g, cap, cur, hv, _, _, hcap, _⟩
  · exact ⟨none, 0, by rw [hv, h0], by omega, .inl (List.eq_nil_of_length_eq_zero h0)⟩
  · refine ⟨_, cap, hv, hcap, .inr ⟨g, 0, rfl, fun i hi => ?_⟩⟩
    rw [hv] at hh
    obtain ⟨a, c, e, hc, hl⟩ := (h3 i hi).lies
    have hcell := World.ownsRow.cellAt hh i (by omega)
    refine ⟨a, c, ?_, hc, hl⟩
    rw [Nat.zero_add, hcell, ← e, List.getD_eq_getElem?_getD, List.getElem?_eq_getElem (by omega)]
    rfl
theorem RowL.lies' {Q : Option Addr → Nm → Prop} {w : World} {B : Nat} {v : Value} {L : List (List Gn)} (h : RowL Q w B v L) : ∃ a c, v = .slice a L.length c ∧ L.length ≤ c ∧ (a = none → c = 0) := by
  obtain ⟨vs, _, h2, _⟩ := h
  rcases h2.2 with ⟨hv, h0⟩ | ⟨g, cap, cur, hv, _, _, hcap, _⟩
  · exact ⟨none, 0, by rw [hv, h0], by omega, fun _ => rfl⟩
  · exact ⟨_, cap, hv, hcap, fun e => by cases e⟩
/-- The lists one after the other, the first k of them. -/
theorem flatL_step (L : List (List Gn)) (k : Nat) (h : k < L.length) : (L.take (k + 1)).flatten = (L.take k).flatten ++ L.getD k [] := by
  rw [take_one L k h [], List.flatten_append, List.flatten_cons, List.flatten_nil, List.append_nil]
theorem flat_le (L : List (List Gn)) (k : Nat) : (L.take k).flatten.length ≤ L.flatten.length := by
  have h : (L.take k ++ L.drop k).flatten.length = L.flatten.length := by rw [List.take_append_drop]
  rw [List.flatten_append, List.length_append] at h
  omega
end Go.Proofs.YtofadgmnjckpcaaGreatDoor
