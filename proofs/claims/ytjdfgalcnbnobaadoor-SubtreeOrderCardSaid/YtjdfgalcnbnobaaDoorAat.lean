/-
  Constraints in memory of a call's own: what stays readable while other memory is written. Nothing is claimed of the program here.
  The contracts of the reference's In, limits and Permits.
-/
import Derived.Test.YtjdfgalcnbnobaaDoorAas
import Derived.Test.YtjdfgalcnbnobaaDoorAao
namespace Go.Proofs.YtjdfgalcnbnobaaDoor
open Go.RowKit

/-! ### What is kept -/
/-- The blocks from B on whose type is one of Ts are the same in W. -/
def SameT (Ts : TypeId → Prop) (B : Nat) (w W : World) : Prop := ∀ q cs T f, B ≤ q → w.heap[q]? = some (.cells cs T f) → Ts T → W.heap[q]? = some (.cells cs T f)
def KeptT (Ts : TypeId → Prop) (B : Nat) (w : World) (P : World → Prop) : Prop := ∀ W, SameT Ts B w W → P W
theorem SameT.refl (Ts : TypeId → Prop) (B : Nat) (w : World) : SameT Ts B w w := fun _ _ _ _ _ h _ => h
theorem KeptT.mono {Ts Ts' : TypeId → Prop} {B B' : Nat} {w : World} {P : World → Prop} (h : KeptT Ts B w P) (hT : ∀ T, Ts T → Ts' T) (hB : B' ≤ B) : KeptT Ts' B' w P :=
  fun W hs => h W (fun q cs T f hq hc hT' => hs q cs T f (Nat.le_trans hB hq) hc (hT T hT'))
/-- One block changes: one of another type, or one below B. -/
theorem KeptT.grown {Ts : TypeId → Prop} {B : Nat} {w w' : World} {row : Option Nat} {P : World → Prop} (h : KeptT Ts B w P) (hg : w.grownBy w' row) (hr : ∀ q, row = some q → q < B ∨ ∀ cs T f, w.heap[q]? = some (.cells cs T f) → ¬ Ts T) : KeptT Ts B w' P :=
  fun W hs => h W (fun q cs T f hq hc hT => hs q cs T f hq ((hg.block q (Array.getElem?_eq_some_iff.1 hc).1 (fun e => by
    rcases hr q e.symm with hp | hp
    · omega
    · exact hp cs T f hc hT)).trans hc) hT)
theorem KeptT.below {Ts : TypeId → Prop} {B : Nat} {w w' : World} {P : World → Prop} (h : KeptT Ts B w P) (hb : Below w.heap.size w w') : KeptT Ts B w' P :=
  fun W hs => h W (fun q cs T f hq hc hT => hs q cs T f hq ((hb.block q (Array.getElem?_eq_some_iff.1 hc).1).trans hc) hT)
/-- A row of another type grows. -/
theorem KeptT.row {Ts : TypeId → Prop} {B B' k n : Nat} {e : TypeId} {w w' : World} {v : Value} {xs : List Value} {P : World → Prop} (h : KeptT Ts B w P) (ho : w.ownsRow B' e k v n xs) (hg : w.grownBy w' v.ownBlock) (he : ¬ Ts e) : KeptT Ts B w' P := by
  refine h.grown hg (fun q eq => .inr (fun cs T f hc hT => ?_))
  rcases ho.2 with ⟨hv, _⟩ | ⟨g, cap, cur, hv, _, hb, _⟩
  · rw [hv] at eq; simp [Value.ownBlock] at eq
  · rw [hv] at eq
    simp [Value.ownBlock] at eq
    subst eq
    rw [hb] at hc
    simp at hc
    exact he (hc.2.1 ▸ hT)
/-- A block of a known type is written. -/
theorem KeptT.block {Ts : TypeId → Prop} {B g : Nat} {w w' : World} {T : TypeId} {cs : Array Value} {f : Nat × Nat} {P : World → Prop} (h : KeptT Ts B w P) (hc : w.heap[g]? = some (.cells cs T f)) (hT : ¬ Ts T) (hg : But g w w') : KeptT Ts B w' P := by
  refine h.grown hg (fun q eq => .inr (fun cs' T' f' hc' hT' => ?_))
  obtain rfl := Option.some.inj eq
  rw [hc] at hc'
  simp at hc'
  exact hT (hc'.2.1 ▸ hT')
theorem slice_inj {a b : Option Addr} {n m c d : Nat} (h : Value.slice a n c = .slice b m d) : a = b ∧ n = m ∧ c = d := by cases h; exact ⟨rfl, rfl, rfl⟩
theorem OwnG.but {w w' : World} {p B : Nat} {v : Value} {l : List Gn} (h : OwnG w B v l) (hb : But p w w') (hB : p < B) : OwnG w' B v l := by
  obtain ⟨ss, h1, h2, h3⟩ := h
  exact ⟨ss, h1, own_but h2 hb hB, fun i hi => (h3 i hi).but hb hB⟩
theorem OwnN.keptR {w w' : World} {B B' k m : Nat} {T : TypeId} {v u : Value} {n : Nm} {xs : List Value} (h : OwnN w B u n) (ho : w.ownsRow B' T k v m xs) (h1 : 54 ≠ T) (h2 : 56 ≠ T) (hg : w.grownBy w' v.ownBlock) : OwnN w' B u n := by
  obtain ⟨vs, q1, q2, q3⟩ := h
  exact ⟨vs, q1, World.ownsRow.kept q2 hg (rows_apart q2 ho h1), fun i hi => World.ownsRow.kept (q3 i hi) hg (rows_apart (q3 i hi) ho h2)⟩
theorem OwnG.keptR {w w' : World} {B B' k m : Nat} {T : TypeId} {v u : Value} {l : List Gn} {xs : List Value} (h : OwnG w B u l) (ho : w.ownsRow B' T k v m xs) (h0 : 38 ≠ T) (h1 : 54 ≠ T) (h2 : 56 ≠ T) (hg : w.grownBy w' v.ownBlock) : OwnG w' B u l := by
  obtain ⟨ss, q1, q2, q3⟩ := h
  exact ⟨ss, q1, World.ownsRow.kept q2 hg (rows_apart q2 ho h0), fun i hi => (q3 i hi).keptR ho h1 h2 hg⟩
/-! ### Rows of constraints -/
def sCells (s : Value × Value) : List Value := [s.1, s.2]
def noSV : Value × Value := (noS, noS)
def ssCells (l : List (Value × Value)) : List Value := l.flatMap sCells
theorem ssCells_snoc (l : List (Value × Value)) (e : Value × Value) : ssCells (l ++ [e]) = ssCells l ++ sCells e := by simp [ssCells]
theorem ss_at (l : List (Value × Value)) (i : Nat) (hi : i < l.length) (j : Nat) (hj : j < 2) : (ssCells l)[i * 2 + j]? = (sCells (l.getD i noSV))[j]? := by
  induction l generalizing i with
  | nil => exact absurd hi (Nat.not_lt_zero _)
  | cons e r ih =>
    have e0 : ssCells (e :: r) = sCells e ++ ssCells r := rfl
    have el : (sCells e).length = 2 := rfl
    rw [e0]
    cases i with
    | zero => rw [List.getElem?_append_left (by omega)]; simp
    | succ i =>
      rw [List.getElem?_append_right (by omega), el, show (i + 1) * 2 + j - 2 = i * 2 + j by omega, ih i (by simpa using hi)]
      rfl
theorem sCells_one (a b : Option Addr) (n c m d : Nat) : ∀ u ∈ sCells (.slice a n c, .slice b m d), u.oneCell' = true := by
  intro u hu
  simp only [sCells, List.mem_cons, List.not_mem_nil, or_false] at hu
  rcases hu with rfl | rfl <;> rfl
theorem subInfo : (Tryd.prog.info? 32).map (fun i => (i.zero, i.size, i.bytes)) = some (some (.agg #[.slice none 0 0, .slice none 0 0]), 2, 48) := by kernel_rfl
/-- The slice value v, of memory from block B on, holds the constraints L, each in memory of its own. -/
def OwnSb (w : World) (B : Nat) (v : Value) (L : List Sub) : Prop := ∃ ss : List (Value × Value), ss.length = L.length ∧ w.ownsRow B 32 2 v L.length (ssCells ss) ∧ ∀ i, i < L.length → OwnG w B (ss.getD i noSV).1 (L.getD i noSub).1 ∧ OwnG w B (ss.getD i noSV).2 (L.getD i noSub).2
theorem OwnSb.nil (w : World) (B : Nat) : OwnSb w B (.slice none 0 0) [] := ⟨[], rfl, World.ownsRow_nil _ _ _ _, fun _ hi => absurd hi (Nat.not_lt_zero _)⟩
theorem OwnSb.below {w w' : World} {B : Nat} {v : Value} {l : List Sub} (h : OwnSb w B v l) (hb : Below w.heap.size w w') : OwnSb w' B v l := by
  obtain ⟨vs, h1, h2, h3⟩ := h
  exact ⟨vs, h1, own_below h2 hb, fun i hi => ⟨(h3 i hi).1.below hb, (h3 i hi).2.below hb⟩⟩
theorem OwnSb.but {w w' : World} {B p : Nat} {v : Value} {l : List Sub} (h : OwnSb w B v l) (hb : But p w w') (hp : p < B) : OwnSb w' B v l := by
  obtain ⟨vs, h1, h2, h3⟩ := h
  exact ⟨vs, h1, own_but h2 hb hp, fun i hi => ⟨(h3 i hi).1.but hb hp, (h3 i hi).2.but hb hp⟩⟩
theorem OwnSb.base {w : World} {B B' : Nat} {v : Value} {l : List Sub} (h : OwnSb w B v l) (hB : B' ≤ B) : OwnSb w B' v l := by
  obtain ⟨vs, h1, h2, h3⟩ := h
  exact ⟨vs, h1, own_base h2 hB, fun i hi => ⟨(h3 i hi).1.base hB, (h3 i hi).2.base hB⟩⟩
theorem OwnSb.apart {w w' : World} {B g : Nat} {T : TypeId} {v : Value} {l : List Sub} {cs : Array Value} {f : Nat × Nat} (h : OwnSb w B v l) (hc : w.heap[g]? = some (.cells cs T f)) (hs : T ≠ 32) (h0 : T ≠ 38) (h1 : T ≠ 56) (h2 : T ≠ 54) (hg : But g w w') : OwnSb w' B v l := by
  obtain ⟨ss, q1, q2, q3⟩ := h
  exact ⟨ss, q1, own_apart q2 hc hs hg, fun i hi => ⟨(q3 i hi).1.apart hc h0 h1 h2 hg, (q3 i hi).2.apart hc h0 h1 h2 hg⟩⟩
/-- One constraint more. -/
theorem OwnSb.snoc {w w' : World} {B : Nat} {v v' : Value} {s : Value × Value} {l : List Sub} {g : Sub} {ss : List (Value × Value)} (h1 : ss.length = l.length) (h2 : w.ownsRow B 32 2 v l.length (ssCells ss)) (h3 : ∀ i, i < l.length → OwnG w B (ss.getD i noSV).1 (l.getD i noSub).1 ∧ OwnG w B (ss.getD i noSV).2 (l.getD i noSub).2)
    (hr : OwnG w B s.1 g.1 ∧ OwnG w B s.2 g.2) (hg : w.grownBy w' v.ownBlock) (h4 : w'.ownsRow B 32 2 v' (l.length + 1) (ssCells ss ++ sCells s)) : OwnSb w' B v' (l ++ [g]) := by
  refine ⟨ss ++ [s], by simp [h1], by rw [List.length_append, ssCells_snoc]; exact h4, fun i hi => ?_⟩
  by_cases hlt : i < l.length
  · rw [getD_snoc_lt _ _ _ _ (by omega), getD_snoc_lt _ _ _ _ hlt]
    exact ⟨(h3 i hlt).1.keptR h2 (by decide) (by decide) (by decide) hg, (h3 i hlt).2.keptR h2 (by decide) (by decide) (by decide) hg⟩
  · rw [List.length_append, List.length_singleton] at hi
    obtain rfl : i = l.length := by omega
    rw [getD_snoc_eq, ← h1, getD_snoc_eq]
    exact ⟨hr.1.keptR h2 (by decide) (by decide) (by decide) hg, hr.2.keptR h2 (by decide) (by decide) (by decide) hg⟩
theorem OwnSb.lies {w : World} {B : Nat} {v : Value} {l : List Sub} (h : OwnSb w B v l) : ∃ a c, v = .slice a l.length c ∧ l.length ≤ c ∧ SLies w a l := by
  obtain ⟨ss, h1, h2, h3⟩ := h
  have hr := h2
  rcases h2.2 with ⟨hv, h0⟩ | ⟨g, cap, cur, hv, _, _, hcap, _⟩
  · exact ⟨none, 0, by rw [hv, h0], by omega, .inl (List.eq_nil_of_length_eq_zero h0)⟩
  · refine ⟨_, cap, hv, hcap, .inr ⟨g, 0, rfl, fun i hi => ?_⟩⟩
    rw [hv] at hr
    obtain ⟨a1, c1, e1, q1, k1⟩ := (h3 i hi).1.lies
    obtain ⟨a2, c2, e2, q2, k2⟩ := (h3 i hi).2.lies
    have hc : ∀ j, j < 2 → w.cell? ⟨g, i * 2 + j, none⟩ = (sCells (ss.getD i noSV))[j]? := fun j hj => by
      rw [World.ownsRow.cellAt hr (i * 2 + j) (by omega)]
      exact ss_at ss i (by omega) j hj
    rw [Nat.zero_add]
    refine ⟨a1, c1, a2, c2, ?_, ?_, ⟨q1, k1⟩, q2, k2⟩
    · rw [← e1]; exact hc 0 (by omega)
    · rw [← e2]; exact hc 1 (by omega)
end Go.Proofs.YtjdfgalcnbnobaaDoor
namespace Go.Proofs.YtjdfgalcnbnobaaDoor
open Go.RowKit

theorem two_facts {w : World} {g : Nat} {x y : Value} {t : TypeId} (h : w.heap[g]? = some (.cells #[x, y] t (0, 0))) :
    w.cell? ⟨g, 0, none⟩ = some x ∧ w.cell? ⟨g, 1, none⟩ = some y ∧ g < w.heap.size := by
  refine ⟨?_, ?_, (Array.getElem?_eq_some_iff.1 h).1⟩ <;> (rw [Lib.cell_of_heap h]; rfl)
theorem heap_first (w : World) (o p : Obj) : ((w.alloc o).alloc p).heap[w.heap.size]? = (w.alloc o).heap[w.heap.size]? := (belowNew (w.alloc o) p).block _ (by simp)
theorem heap_second (w : World) (o : Obj) (cs : Array Value) (T : TypeId) : ((w.alloc o).alloc (.cells cs T)).heap[w.heap.size + 1]? = some (.cells cs T (0, 0)) := by
  have := heap_alloc_new (w.alloc o) (.cells cs T)
  simpa using this
end Go.Proofs.YtjdfgalcnbnobaaDoor
