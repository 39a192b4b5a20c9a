/-
  Slices of general names of a call's own: one that grows, and one that is made and filled.
  Constraints in memory of a call's own: what stays readable while other memory is written. Nothing is claimed of the program here.
-/
import Derived.Test.YtofadgmnjckpcaaGreatDoorVao
import Derived.Test.YtofadgmnjckpcaaGreatDoorVar
import Derived.Test.YtofadgmnjckpcaaGreatDoorVan
namespace Go.Proofs.YtofadgmnjckpcaaGreatDoor
open Go.RowKit

def noS : Value := .slice none 0 0
def gCells (g : Gn) (s : Value) : List Value := [.int .i64 g.1, .string (strOf g.2.1), s]
def gsCells : List Gn → List Value → List Value
  | g :: l, s :: ss => gCells g s ++ gsCells l ss
  | _, _ => []
theorem gsCells_length : ∀ (l : List Gn) (ss : List Value), ss.length = l.length → (gsCells l ss).length = l.length * 3
  | [], [], _ => rfl
  | g :: l, s :: ss, h => by
    have := gsCells_length l ss (by simpa using h)
    simp only [gsCells, gCells, List.length_append, List.length_cons, List.length_nil, this]
    omega
theorem gsCells_snoc : ∀ (l : List Gn) (ss : List Value) (g : Gn) (s : Value), ss.length = l.length → gsCells (l ++ [g]) (ss ++ [s]) = gsCells l ss ++ gCells g s
  | [], [], g, s, _ => by simp [gsCells, gCells]
  | x :: l, y :: ss, g, s, h => by
    have := gsCells_snoc l ss g s (by simpa using h)
    simp only [List.cons_append, gsCells, this, List.append_assoc]
theorem gs_at : ∀ (l : List Gn) (ss : List Value) (i j : Nat), ss.length = l.length → i < l.length → j < 3 → (gsCells l ss)[i * 3 + j]? = (gCells (l.getD i noG) (ss.getD i noS))[j]?
  | [], _, i, _, _, h, _ => absurd h (Nat.not_lt_zero _)
  | g :: l, s :: ss, 0, j, _, _, hj => by
    show (gCells g s ++ gsCells l ss)[0 * 3 + j]? = (gCells g s)[j]?
    rw [List.getElem?_append_left (by simp [gCells]; omega)]
    simp
  | g :: l, s :: ss, i + 1, j, h, hi, hj => by
    have := gs_at l ss i j (by simpa using h) (by simpa using hi) hj
    show (gCells g s ++ gsCells l ss)[(i + 1) * 3 + j]? = _
    rw [List.getElem?_append_right (by simp [gCells]; omega), show (i + 1) * 3 + j - (gCells g s).length = i * 3 + j by simp [gCells]; omega, this]
    rfl
theorem gCells_one (g : Gn) (a : Option Addr) (n c : Nat) : ∀ u ∈ gCells g (.slice a n c), u.oneCell' = true := by
  intro u hu
  simp only [gCells, List.mem_cons, List.not_mem_nil, or_false] at hu
  rcases hu with rfl | rfl | rfl <;> rfl
theorem gInfo : (Tryz.prog.info? 32).map (fun i => (i.zero, i.size, i.bytes)) = some (some (.agg #[.int .i64 0, .string ⟨#[]⟩, .slice none 0 0]), 3, 48) := by kernel_rfl
/-- The slice value v, of memory from block B on, holds the general names l, each name in memory of its own. -/
def OwnG (w : World) (B : Nat) (v : Value) (l : List Gn) : Prop := ∃ ss : List Value, ss.length = l.length ∧ w.ownsRow B 32 3 v l.length (gsCells l ss) ∧ ∀ i, i < l.length → OwnN w B (ss.getD i noS) (l.getD i noG).2.2
theorem OwnG.nil (w : World) (B : Nat) : OwnG w B (.slice none 0 0) [] := ⟨[], rfl, World.ownsRow_nil _ _ _ _, fun _ hi => absurd hi (Nat.not_lt_zero _)⟩
theorem OwnG.below {w w' : World} {B : Nat} {v : Value} {l : List Gn} (h : OwnG w B v l) (hb : Below w.heap.size w w') : OwnG w' B v l := by
  obtain ⟨ss, h1, h2, h3⟩ := h
  exact ⟨ss, h1, own_below h2 hb, fun i hi => (h3 i hi).below hb⟩
theorem OwnG.lies {w : World} {B : Nat} {v : Value} {l : List Gn} (h : OwnG w B v l) : ∃ a c, v = .slice a l.length c ∧ l.length ≤ c ∧ GLies w a l := by
  obtain ⟨ss, h1, h2, h3⟩ := h
  have hh := h2
  rcases h2.2 with ⟨hv, h0⟩ | ⟨g, cap, cur, hv, _, _, hcap, _⟩
  · exact ⟨none, 0, by rw [hv, h0], by omega, .inl (List.eq_nil_of_length_eq_zero h0)⟩
  · refine ⟨_, cap, hv, hcap, .inr ⟨g, 0, rfl, fun i hi => ?_⟩⟩
    rw [hv] at hh
    obtain ⟨a', c', e, q3, q⟩ := (h3 i hi).lies
    have hc : ∀ j, j < 3 → w.cell? ⟨g, i * 3 + j, none⟩ = (gCells (l.getD i noG) (ss.getD i noS))[j]? := fun j hj => by
      rw [World.ownsRow.cellAt hh (i * 3 + j) (by omega)]
      exact gs_at l ss i j h1 hi hj
    rw [Nat.zero_add]
    refine ⟨hc 0 (by omega), hc 1 (by omega), a', c', ?_, q3, q⟩
    rw [hc 2 (by omega), ← e]
    rfl
theorem OwnN.keptG {w w' : World} {B B' k m : Nat} {v u : Value} {n : Nm} {xs : List Value} (h : OwnN w B u n) (ho : w.ownsRow B' 32 k v m xs) (hg : w.grownBy w' v.ownBlock) : OwnN w' B u n := by
  obtain ⟨vs, h1, h2, h3⟩ := h
  exact ⟨vs, h1, World.ownsRow.kept h2 hg (rows_apart h2 ho (by decide)), fun i hi => World.ownsRow.kept (h3 i hi) hg (rows_apart (h3 i hi) ho (by decide))⟩
/-- One general name more. -/
theorem OwnG.snoc {w w' : World} {B : Nat} {v v' s : Value} {l : List Gn} {g : Gn} {ss : List Value} (h1 : ss.length = l.length) (h2 : w.ownsRow B 32 3 v l.length (gsCells l ss)) (h3 : ∀ i, i < l.length → OwnN w B (ss.getD i noS) (l.getD i noG).2.2)
    (hr : OwnN w B s g.2.2) (hg : w.grownBy w' v.ownBlock) (h4 : w'.ownsRow B 32 3 v' (l.length + 1) (gsCells l ss ++ gCells g s)) : OwnG w' B v' (l ++ [g]) := by
  refine ⟨ss ++ [s], by simp [h1], by rw [List.length_append, gsCells_snoc l ss g s h1]; exact h4, fun i hi => ?_⟩
  by_cases hlt : i < l.length
  · rw [getD_snoc_lt _ _ _ _ (by omega), getD_snoc_lt _ _ _ _ hlt]
    exact (h3 i hlt).keptG h2 hg
  · rw [List.length_append, List.length_singleton] at hi
    obtain rfl : i = l.length := by omega
    rw [getD_snoc_eq, ← h1, getD_snoc_eq]
    exact hr.keptG h2 hg
theorem OwnG.base {w : World} {B B' : Nat} {v : Value} {l : List Gn} (h : OwnG w B v l) (hB : B' ≤ B) : OwnG w B' v l := by
  obtain ⟨ss, h1, h2, h3⟩ := h
  exact ⟨ss, h1, own_base h2 hB, fun i hi => (h3 i hi).base hB⟩
theorem OwnG.apart {w w' : World} {B g : Nat} {T : TypeId} {v : Value} {l : List Gn} {cs : Array Value} {f : Nat × Nat} (h : OwnG w B v l) (hc : w.heap[g]? = some (.cells cs T f)) (h0 : T ≠ 32) (h1 : T ≠ 69) (h2 : T ≠ 67) (hg : But g w w') : OwnG w' B v l := by
  obtain ⟨ss, q1, q2, q3⟩ := h
  exact ⟨ss, q1, own_apart q2 hc h0 hg, fun i hi => (q3 i hi).apart hc h1 h2 hg⟩
/-! ### A row that is made and filled -/
def GRow (w : World) (B G n : Nat) (l : List Gn) : Prop := ∃ cs : Array Value, w.heap[G]? = some (.cells cs 32 (0, 0)) ∧ cs.size = n * 3 ∧ ∃ ss : List Value, ss.length = l.length ∧
  (∀ i j, i < l.length → j < 3 → cs[i * 3 + j]? = (gCells (l.getD i noG) (ss.getD i noS))[j]?) ∧ ∀ i, i < l.length → OwnN w B (ss.getD i noS) (l.getD i noG).2.2
theorem GRow.below {w w' : World} {B G n : Nat} {l : List Gn} (h : GRow w B G n l) (hb : Below w.heap.size w w') : GRow w' B G n l := by
  obtain ⟨cs, h1, h2, ss, h3, h4, h5⟩ := h
  exact ⟨cs, (hb.block G (Array.getElem?_eq_some_iff.1 h1).1).trans h1, h2, ss, h3, h4, fun i hi => (h5 i hi).below hb⟩
theorem GRow.lies {w : World} {B G n : Nat} {l : List Gn} (h : GRow w B G n l) : GLies w (some ⟨G, 0, none⟩) l := by
  obtain ⟨cs, h1, h2, ss, h3, h4, h5⟩ := h
  refine .inr ⟨G, 0, rfl, fun i hi => ?_⟩
  obtain ⟨a', c', e, q3, q⟩ := (h5 i hi).lies
  have hc : ∀ j, j < 3 → w.cell? ⟨G, i * 3 + j, none⟩ = (gCells (l.getD i noG) (ss.getD i noS))[j]? := fun j hj => by
    rw [Lib.cell_of_heap h1]; exact h4 i j hi hj
  rw [Nat.zero_add]
  refine ⟨hc 0 (by omega), hc 1 (by omega), a', c', ?_, q3, q⟩
  rw [hc 2 (by omega), ← e]
  rfl
theorem gset_three {w : World} {G k : Nat} {cs : Array Value} {T : TypeId} {x y z : Value} (h : w.heap[G]? = some (.cells cs T (0, 0))) :
    (((w.setCell ⟨G, k, none⟩ x).setCell ⟨G, k + 1, none⟩ y).setCell ⟨G, k + 2, none⟩ z).heap[G]? = some (.cells (((cs.setIfInBounds k x).setIfInBounds (k + 1) y).setIfInBounds (k + 2) z) T (0, 0)) := by
  simp [World.setCell, Array.getElem?_modify, h]
theorem GRow.put {w : World} {B G n k : Nat} {l : List Gn} {g : Gn} {s : Value} (h : GRow w B G n l) (hk : k = l.length) (hn : k < n) (ho : OwnN w B s g.2.2) :
    GRow (((w.setCell ⟨G, k * 3, none⟩ (.int .i64 g.1)).setCell ⟨G, k * 3 + 1, none⟩ (.string (strOf g.2.1))).setCell ⟨G, k * 3 + 2, none⟩ s) B G n (l ++ [g]) := by
  obtain ⟨cs, h1, h2, ss, h3, h4, h5⟩ := h
  have hs := ((But.set G (k * 3) w (.int .i64 g.1)).next (But.set G (k * 3 + 1) _ (.string (strOf g.2.1)))).next (But.set G (k * 3 + 2) _ s)
  refine ⟨_, gset_three h1, by simp [h2], ss ++ [s], by simp [h3], fun i j hi hj => ?_, fun i hi => ?_⟩
  · by_cases hlt : i < l.length
    · rw [getD_snoc_lt _ _ _ _ hlt, getD_snoc_lt _ _ _ _ (by omega), ← h4 i j hlt hj]
      rw [Array.getElem?_setIfInBounds_ne (by omega), Array.getElem?_setIfInBounds_ne (by omega), Array.getElem?_setIfInBounds_ne (by omega)]
    · rw [List.length_append, List.length_singleton] at hi
      obtain rfl : i = l.length := by omega
      rw [getD_snoc_eq, ← h3, getD_snoc_eq, h3, ← hk]
      have hsz : k * 3 + 2 < cs.size := by omega
      rcases (by omega : j = 0 ∨ j = 1 ∨ j = 2) with rfl | rfl | rfl
      · rw [Array.getElem?_setIfInBounds_ne (by omega), Array.getElem?_setIfInBounds_ne (by omega), Nat.add_zero, Array.getElem?_setIfInBounds_self_of_lt (by omega)]; rfl
      · rw [Array.getElem?_setIfInBounds_ne (by omega), Array.getElem?_setIfInBounds_self_of_lt (by simp; omega)]; rfl
      · rw [Array.getElem?_setIfInBounds_self_of_lt (by simp; omega)]; rfl
  · by_cases hlt : i < l.length
    · rw [getD_snoc_lt _ _ _ _ hlt, getD_snoc_lt _ _ _ _ (by omega)]
      obtain ⟨vs, q1, q2, q3⟩ := h5 i hlt
      exact ⟨vs, q1, own_apart q2 h1 (by decide) hs, fun i hi => own_apart (q3 i hi) h1 (by decide) hs⟩
    · rw [List.length_append, List.length_singleton] at hi
      obtain rfl : i = l.length := by omega
      rw [getD_snoc_eq, ← h3, getD_snoc_eq]
      exact ho.apart h1 (by decide) (by decide) hs
theorem GRow.cell {w : World} {B G n : Nat} {l : List Gn} (h : GRow w B G n l) (j : Nat) (hj : j < n * 3) : (∃ x, w.cell? ⟨G, j, none⟩ = some x) ∧ w.frozen? ⟨G, j, none⟩ = false := by
  obtain ⟨cs, h1, h2, _⟩ := h
  exact ⟨⟨cs[j], by rw [Lib.cell_of_heap h1]; exact Array.getElem?_eq_getElem (by omega)⟩, Lib.frozen_of_heap h1 j⟩
end Go.Proofs.YtofadgmnjckpcaaGreatDoor
namespace Go.Proofs.YtofadgmnjckpcaaGreatDoor
open Go.RowKit

/-! ### What is kept -/
/-- The blocks from B on whose type is one of Ts are the same in W. -/
def SameT (Ts : TypeId → Prop) (B : Nat) (w W : World) : Prop := ∀ q cs T f, B ≤ q → w.heap[q]? = some (.cells cs T f) → Ts T → W.heap[q]? = some (.cells cs T f)
def KeptT (Ts : TypeId → Prop) (B : Nat) (w : World) (P : World → Prop) : Prop := ∀ W, SameT Ts B w W → P W
theorem SameT.refl (Ts : TypeId → Prop) (B : Nat) (w : World) : SameT Ts B w w := fun _ _ _ _ _ h _ => h
theorem KeptT.now {Ts : TypeId → Prop} {B : Nat} {w : World} {P : World → Prop} (h : KeptT Ts B w P) : P w := h w (SameT.refl _ _ _)
theorem KeptT.mono {Ts Ts' : TypeId → Prop} {B B' : Nat} {w : World} {P : World → Prop} (h : KeptT Ts B w P) (hT : ∀ T, Ts T → Ts' T) (hB : B' ≤ B) : KeptT Ts' B' w P :=
  fun W hs => h W (fun q cs T f hq hc hT' => hs q cs T f (Nat.le_trans hB hq) hc (hT T hT'))
/-- One block changes: one of another type, or one below B. -/
theorem KeptT.grown {Ts : TypeId → Prop} {B : Nat} {w w' : World} {row : Option Nat} {P : World → Prop} (h : KeptT Ts B w P) (hg : w.grownBy w' row) (hr : ∀ q, row = some q → q < B ∨ ∀ cs T f, w.heap[q]? = some (.cells cs T f) → ¬ Ts T) : KeptT Ts B w' P :=
  fun W hs => h W (fun q cs T f hq hc hT => hs q cs T f hq ((hg.block q (Array.getElem?_eq_some_iff.1 hc).1 (fun e => by
    rcases hr q e.symm with hp | hp
    · omega
    · exact hp cs T f hc hT)).trans hc) hT)
theorem KeptT.below {Ts : TypeId → Prop} {B : Nat} {w w' : World} {P : World → Prop} (h : KeptT Ts B w P) (hb : Below w.heap.size w w') : KeptT Ts B w' P :=
  fun W hs => h W (fun q cs T f hq hc hT => hs q cs T f hq ((hb.block q (Array.getElem?_eq_some_iff.1 hc).1).trans hc) hT)
theorem KeptT.low {Ts : TypeId → Prop} {B p : Nat} {w w' : World} {P : World → Prop} (h : KeptT Ts B w P) (hb : But p w w') (hp : p < B) : KeptT Ts B w' P :=
  h.grown hb (fun q e => .inl (by obtain rfl := Option.some.inj e; exact hp))
/-- A row of another type grows. -/
theorem KeptT.row {Ts : TypeId → Prop} {B B' k n : Nat} {e : TypeId} {w w' : World} {v : Value} {xs : List Value} {P : World → Prop} (h : KeptT Ts B w P) (ho : w.ownsRow B' e k v n xs) (hg : w.grownBy w' v.ownBlock) (he : ¬ Ts e) : KeptT Ts B w' P := by
  refine h.grown hg (fun q eq => .inr (fun cs T f hc hT => ?_))
  rcases ho.2 with ⟨hv, _⟩ | ⟨g, cap, cur, hv, _, hb, _⟩
  · rw [hv] at eq; simp [Value.ownBlock] at eq
  · rw [hv] at eq
    simp [Value.ownBlock] at eq
    subst eq
    rw [hb] at hc
    simp at hc
    exact he (hc.2.1 ▸ hT)
/-- A block of a known type is written. -/
theorem KeptT.block {Ts : TypeId → Prop} {B g : Nat} {w w' : World} {T : TypeId} {cs : Array Value} {f : Nat × Nat} {P : World → Prop} (h : KeptT Ts B w P) (hc : w.heap[g]? = some (.cells cs T f)) (hT : ¬ Ts T) (hg : But g w w') : KeptT Ts B w' P := by
  refine h.grown hg (fun q eq => .inr (fun cs' T' f' hc' hT' => ?_))
  obtain rfl := Option.some.inj eq
  rw [hc] at hc'
  simp at hc'
  exact hT (hc'.2.1 ▸ hT')
theorem row_same {Ts : TypeId → Prop} {B k n : Nat} {e : TypeId} {w W : World} {v : Value} {xs : List Value} (h : w.ownsRow B e k v n xs) (hs : SameT Ts B w W) (he : Ts e) : W.ownsRow B e k v n xs := by
  refine ⟨h.1, ?_⟩
  rcases h.2 with hn | ⟨g, cap, cur, hv, hB, hg, rest⟩
  · exact .inl hn
  · exact .inr ⟨g, cap, cur, hv, hB, hs g cur e _ hB hg he, rest⟩
def TN (T : TypeId) : Prop := T = 67 ∨ T = 69
theorem slice_inj {a b : Option Addr} {n m c d : Nat} (h : Value.slice a n c = .slice b m d) : a = b ∧ n = m ∧ c = d := by cases h; exact ⟨rfl, rfl, rfl⟩
/-- The slice value v holds the name, whatever else is written. -/
theorem OwnN.keptN {w : World} {B : Nat} {a : Option Addr} {k c : Nat} {n : Nm} (h : OwnN w B (.slice a k c) n) : KeptT TN B w (fun W => RLies W a n) := by
  intro W hs
  obtain ⟨vs, h1, h2, h3⟩ := h
  obtain ⟨a', c', hv', _, hl⟩ := OwnN.lies (w := W) (B := B) (v := .slice a k c) (n := n) ⟨vs, h1, row_same h2 hs (.inl rfl), fun i hi => row_same (h3 i hi) hs (.inr rfl)⟩
  rw [(slice_inj hv').1]; exact hl
theorem OwnG.but {w w' : World} {p B : Nat} {v : Value} {l : List Gn} (h : OwnG w B v l) (hb : But p w w') (hB : p < B) : OwnG w' B v l := by
  obtain ⟨ss, h1, h2, h3⟩ := h
  exact ⟨ss, h1, own_but h2 hb hB, fun i hi => (h3 i hi).but hb hB⟩
theorem OwnN.keptR {w w' : World} {B B' k m : Nat} {T : TypeId} {v u : Value} {n : Nm} {xs : List Value} (h : OwnN w B u n) (ho : w.ownsRow B' T k v m xs) (h1 : 67 ≠ T) (h2 : 69 ≠ T) (hg : w.grownBy w' v.ownBlock) : OwnN w' B u n := by
  obtain ⟨vs, q1, q2, q3⟩ := h
  exact ⟨vs, q1, World.ownsRow.kept q2 hg (rows_apart q2 ho h1), fun i hi => World.ownsRow.kept (q3 i hi) hg (rows_apart (q3 i hi) ho h2)⟩
theorem OwnG.keptR {w w' : World} {B B' k m : Nat} {T : TypeId} {v u : Value} {l : List Gn} {xs : List Value} (h : OwnG w B u l) (ho : w.ownsRow B' T k v m xs) (h0 : 32 ≠ T) (h1 : 67 ≠ T) (h2 : 69 ≠ T) (hg : w.grownBy w' v.ownBlock) : OwnG w' B u l := by
  obtain ⟨ss, q1, q2, q3⟩ := h
  exact ⟨ss, q1, World.ownsRow.kept q2 hg (rows_apart q2 ho h0), fun i hi => (q3 i hi).keptR ho h1 h2 hg⟩
/-! ### Rows of constraints -/
def sCells (s : Value × Value) : List Value := [s.1, s.2]
def noSV : Value × Value := (noS, noS)
def ssCells (l : List (Value × Value)) : List Value := l.flatMap sCells
theorem ssCells_snoc (l : List (Value × Value)) (e : Value × Value) : ssCells (l ++ [e]) = ssCells l ++ sCells e := by simp [ssCells]
theorem ss_at (l : List (Value × Value)) (i : Nat) (hi : i < l.length) (j : Nat) (hj : j < 2) : (ssCells l)[i * 2 + j]? = (sCells (l.getD i noSV))[j]? := by
  induction l generalizing i with
  | nil => exact absurd hi (Nat.not_lt_zero _)
  | cons e r ih =>
    have e0 : ssCells (e :: r) = sCells e ++ ssCells r := rfl
    have el : (sCells e).length = 2 := rfl
    rw [e0]
    cases i with
    | zero => rw [List.getElem?_append_left (by omega)]; simp
    | succ i =>
      rw [List.getElem?_append_right (by omega), el, show (i + 1) * 2 + j - 2 = i * 2 + j by omega, ih i (by simpa using hi)]
      rfl
theorem sCells_one (a b : Option Addr) (n c m d : Nat) : ∀ u ∈ sCells (.slice a n c, .slice b m d), u.oneCell' = true := by
  intro u hu
  simp only [sCells, List.mem_cons, List.not_mem_nil, or_false] at hu
  rcases hu with rfl | rfl <;> rfl
theorem subInfo : (Tryz.prog.info? 27).map (fun i => (i.zero, i.size, i.bytes)) = some (some (.agg #[.slice none 0 0, .slice none 0 0]), 2, 48) := by kernel_rfl
/-- The slice value v, of memory from block B on, holds the constraints L, each in memory of its own. -/
def OwnSb (w : World) (B : Nat) (v : Value) (L : List Sub) : Prop := ∃ ss : List (Value × Value), ss.length = L.length ∧ w.ownsRow B 27 2 v L.length (ssCells ss) ∧ ∀ i, i < L.length → OwnG w B (ss.getD i noSV).1 (L.getD i noSub).1 ∧ OwnG w B (ss.getD i noSV).2 (L.getD i noSub).2
theorem OwnSb.nil (w : World) (B : Nat) : OwnSb w B (.slice none 0 0) [] := ⟨[], rfl, World.ownsRow_nil _ _ _ _, fun _ hi => absurd hi (Nat.not_lt_zero _)⟩
theorem OwnSb.below {w w' : World} {B : Nat} {v : Value} {l : List Sub} (h : OwnSb w B v l) (hb : Below w.heap.size w w') : OwnSb w' B v l := by
  obtain ⟨vs, h1, h2, h3⟩ := h
  exact ⟨vs, h1, own_below h2 hb, fun i hi => ⟨(h3 i hi).1.below hb, (h3 i hi).2.below hb⟩⟩
theorem OwnSb.but {w w' : World} {B p : Nat} {v : Value} {l : List Sub} (h : OwnSb w B v l) (hb : But p w w') (hp : p < B) : OwnSb w' B v l := by
  obtain ⟨vs, h1, h2, h3⟩ := h
  exact ⟨vs, h1, own_but h2 hb hp, fun i hi => ⟨(h3 i hi).1.but hb hp, (h3 i hi).2.but hb hp⟩⟩
theorem OwnSb.base {w : World} {B B' : Nat} {v : Value} {l : List Sub} (h : OwnSb w B v l) (hB : B' ≤ B) : OwnSb w B' v l := by
  obtain ⟨vs, h1, h2, h3⟩ := h
  exact ⟨vs, h1, own_base h2 hB, fun i hi => ⟨(h3 i hi).1.base hB, (h3 i hi).2.base hB⟩⟩
theorem OwnSb.apart {w w' : World} {B g : Nat} {T : TypeId} {v : Value} {l : List Sub} {cs : Array Value} {f : Nat × Nat} (h : OwnSb w B v l) (hc : w.heap[g]? = some (.cells cs T f)) (hs : T ≠ 27) (h0 : T ≠ 32) (h1 : T ≠ 69) (h2 : T ≠ 67) (hg : But g w w') : OwnSb w' B v l := by
  obtain ⟨ss, q1, q2, q3⟩ := h
  exact ⟨ss, q1, own_apart q2 hc hs hg, fun i hi => ⟨(q3 i hi).1.apart hc h0 h1 h2 hg, (q3 i hi).2.apart hc h0 h1 h2 hg⟩⟩
/-- One constraint more. -/
theorem OwnSb.snoc {w w' : World} {B : Nat} {v v' : Value} {s : Value × Value} {l : List Sub} {g : Sub} {ss : List (Value × Value)} (h1 : ss.length = l.length) (h2 : w.ownsRow B 27 2 v l.length (ssCells ss)) (h3 : ∀ i, i < l.length → OwnG w B (ss.getD i noSV).1 (l.getD i noSub).1 ∧ OwnG w B (ss.getD i noSV).2 (l.getD i noSub).2)
    (hr : OwnG w B s.1 g.1 ∧ OwnG w B s.2 g.2) (hg : w.grownBy w' v.ownBlock) (h4 : w'.ownsRow B 27 2 v' (l.length + 1) (ssCells ss ++ sCells s)) : OwnSb w' B v' (l ++ [g]) := by
  refine ⟨ss ++ [s], by simp [h1], by rw [List.length_append, ssCells_snoc]; exact h4, fun i hi => ?_⟩
  by_cases hlt : i < l.length
  · rw [getD_snoc_lt _ _ _ _ (by omega), getD_snoc_lt _ _ _ _ hlt]
    exact ⟨(h3 i hlt).1.keptR h2 (by decide) (by decide) (by decide) hg, (h3 i hlt).2.keptR h2 (by decide) (by decide) (by decide) hg⟩
  · rw [List.length_append, List.length_singleton] at hi
    obtain rfl : i = l.length := by omega
    rw [getD_snoc_eq, ← h1, getD_snoc_eq]
    exact ⟨hr.1.keptR h2 (by decide) (by decide) (by decide) hg, hr.2.keptR h2 (by decide) (by decide) (by decide) hg⟩
theorem OwnSb.lies {w : World} {B : Nat} {v : Value} {l : List Sub} (h : OwnSb w B v l) : ∃ a c, v = .slice a l.length c ∧ l.length ≤ c ∧ SLies w a l := by
  obtain ⟨ss, h1, h2, h3⟩ := h
  have hr := h2
  rcases h2.2 with ⟨hv, h0⟩ | ⟨g, cap, cur, hv, _, _, hcap, _⟩
  · exact ⟨none, 0, by rw [hv, h0], by omega, .inl (List.eq_nil_of_length_eq_zero h0)⟩
  · refine ⟨_, cap, hv, hcap, .inr ⟨g, 0, rfl, fun i hi => ?_⟩⟩
    rw [hv] at hr
    obtain ⟨a1, c1, e1, q1, k1⟩ := (h3 i hi).1.lies
    obtain ⟨a2, c2, e2, q2, k2⟩ := (h3 i hi).2.lies
    have hc : ∀ j, j < 2 → w.cell? ⟨g, i * 2 + j, none⟩ = (sCells (ss.getD i noSV))[j]? := fun j hj => by
      rw [World.ownsRow.cellAt hr (i * 2 + j) (by omega)]
      exact ss_at ss i (by omega) j hj
    rw [Nat.zero_add]
    refine ⟨a1, c1, a2, c2, ?_, ?_, ⟨q1, k1⟩, q2, k2⟩
    · rw [← e1]; exact hc 0 (by omega)
    · rw [← e2]; exact hc 1 (by omega)
end Go.Proofs.YtofadgmnjckpcaaGreatDoor
