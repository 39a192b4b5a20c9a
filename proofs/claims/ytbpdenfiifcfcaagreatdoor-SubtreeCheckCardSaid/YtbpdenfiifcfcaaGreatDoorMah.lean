/-
  Plain laws on names as lists: what an attribute is, which error a name has, when two names match. Nothing is claimed of the program here.
  Attributes and relative names in memory: that they can be read at an address, and that a slice of a call's own holds them. Nothing is claimed of the program here.
  The contracts of oid.Valid and of the reference's ValidOID.
  The contracts of checkAttribute and what it calls (the closure, slices.ContainsFunc): the first error of an attribute that stands behind others.
-/
import Derived.Test.YtbpdenfiifcfcaaGreatDoorMaa
import Derived.Test.YtbpdenfiifcfcaaGreatDoorMaf
import Derived.Test.YtbpdenfiifcfcaaGreatDoorMag
import Derived.Deep.CutRange
namespace Go.Proofs.YtbpdenfiifcfcaaGreatDoor
open Go.RowKit

/-- An attribute: its type, its kind, its value. A name: its relative names. -/
abbrev At := ByteArray × Int × ByteArray
abbrev Nm := List (List At)
def atV (a : At) : Value := .agg #[.string a.1, .int .i64 a.2.1, .string a.2.2]
def atCells (a : At) : List Value := [.string a.1, .int .i64 a.2.1, .string a.2.2]
def noAt : At := (⟨#[]⟩, 0, ⟨#[]⟩)

/-! ### The first error of a name -/
noncomputable def oidB (s : ByteArray) : Bool := @decide (∃ a, Oid s.data.toList a) (Classical.propDecidable _)
theorem oidB_yes {s : ByteArray} {a : List Nat} (h : Oid s.data.toList a) : oidB s = true := by unfold oidB; exact @decide_eq_true _ (Classical.propDecidable _) ⟨a, h⟩
theorem oidB_no {s : ByteArray} (h : ∀ a, ¬ Oid s.data.toList a) : oidB s = false := by unfold oidB; exact @decide_eq_false _ (Classical.propDecidable _) (fun ⟨a, k⟩ => h a k)
theorem oidB_true {s : ByteArray} (h : oidB s = true) : ∃ a, Oid s.data.toList a := by unfold oidB at h; exact @of_decide_eq_true _ (Classical.propDecidable _) h
noncomputable def chkA (b : List At) (a : At) : Nat :=
  if oidB a.1 = false then 11 else if a.2.2.size = 0 then 13 else if validB a.2.1 a.2.2.data.toList = false then 13 else if 64 < a.2.2.size then 2 else if b.any (fun x => decide (x.1 = a.1)) = true then 10 else 0
noncomputable def chkL : List At → List At → Nat
  | _, [] => 0
  | b, a :: r => if chkA b a = 0 then chkL (b ++ [a]) r else chkA b a
noncomputable def chkR (r : List At) : Nat := if r.length = 0 then 14 else if 4 < r.length then 2 else chkL [] r
noncomputable def chkRs : Nm → Nat
  | [] => 0
  | r :: n => if chkR r = 0 then chkRs n else chkR r
noncomputable def chkN (n : Nm) : Nat := if 8 < n.length then 2 else chkRs n
theorem dropD {α : Type} (l : List α) (k : Nat) (h : k < l.length) (d : α) : l.drop k = l.getD k d :: l.drop (k + 1) := by
  rw [List.drop_eq_getElem_cons h, List.getD_eq_getElem?_getD, List.getElem?_eq_getElem h]; rfl
theorem takeD {α : Type} (l : List α) (k : Nat) (h : k < l.length) (d : α) : l.take (k + 1) = l.take k ++ [l.getD k d] := by
  rw [List.take_add_one, List.getD_eq_getElem?_getD, List.getElem?_eq_getElem h]; rfl
theorem chkL_step (r : List At) (k : Nat) (h : k < r.length) : chkL (r.take k) (r.drop k) = if chkA (r.take k) (r.getD k noAt) = 0 then chkL (r.take (k + 1)) (r.drop (k + 1)) else chkA (r.take k) (r.getD k noAt) := by
  rw [dropD r k h noAt, takeD r k h noAt]; rfl
theorem chkL_end (r : List At) (b : List At) (k : Nat) (h : r.length ≤ k) : chkL b (r.drop k) = 0 := by
  rw [List.drop_eq_nil_of_le h]; rfl
theorem chkRs_step (n : Nm) (k : Nat) (h : k < n.length) : chkRs (n.drop k) = if chkR (n.getD k []) = 0 then chkRs (n.drop (k + 1)) else chkR (n.getD k []) := by
  rw [dropD n k h []]; rfl
theorem chkRs_end (n : Nm) (k : Nat) (h : n.length ≤ k) : chkRs (n.drop k) = 0 := by
  rw [List.drop_eq_nil_of_le h]; rfl
/-! ### When names match -/
def fa (a : At) : ByteArray × ByteArray := (a.1, foldS a.2.2)
def MatchR (r s : List At) : Prop := r.length = s.length ∧ (∀ x ∈ r, ∃ y ∈ s, fa y = fa x) ∧ (∀ y ∈ s, ∃ x ∈ r, fa x = fa y)
instance (r s : List At) : Decidable (MatchR r s) := by unfold MatchR; infer_instance
theorem MatchR.refl (r : List At) : MatchR r r := ⟨rfl, fun x h => ⟨x, h, rfl⟩, fun x h => ⟨x, h, rfl⟩⟩
theorem MatchR.symm {r s : List At} (h : MatchR r s) : MatchR s r := ⟨h.1.symm, h.2.2, h.2.1⟩
theorem MatchR.trans {r s t : List At} (h : MatchR r s) (k : MatchR s t) : MatchR r t := by
  refine ⟨h.1.trans k.1, fun x hx => ?_, fun x hx => ?_⟩
  · obtain ⟨y, hy, e1⟩ := h.2.1 x hx
    obtain ⟨z, hz, e2⟩ := k.2.1 y hy
    exact ⟨z, hz, e2.trans e1⟩
  · obtain ⟨y, hy, e1⟩ := k.2.2 x hx
    obtain ⟨z, hz, e2⟩ := h.2.2 y hy
    exact ⟨z, hz, e2.trans e1⟩
/-- The relative names of b match the first ones of n. -/
def WithinN (n b : Nm) : Prop := b.length ≤ n.length ∧ ∀ i, i < b.length → MatchR (n.getD i []) (b.getD i [])
def MatchN (n m : Nm) : Prop := n.length = m.length ∧ ∀ i, i < n.length → MatchR (n.getD i []) (m.getD i [])
instance (n b : Nm) : Decidable (WithinN n b) := by unfold WithinN; infer_instance
instance (n b : Nm) : Decidable (MatchN n b) := by unfold MatchN; infer_instance
theorem MatchN.refl (n : Nm) : MatchN n n := ⟨rfl, fun _ _ => MatchR.refl _⟩
theorem MatchN.symm {n m : Nm} (h : MatchN n m) : MatchN m n := ⟨h.1.symm, fun i hi => (h.2 i (by rw [h.1]; exact hi)).symm⟩
theorem MatchN.within {n m : Nm} (h : MatchN n m) : WithinN n m := ⟨Nat.le_of_eq h.1.symm, fun i hi => h.2 i (by rw [h.1]; exact hi)⟩
theorem WithinN.trans {a b c : Nm} (h : WithinN a b) (k : WithinN b c) : WithinN a c := ⟨Nat.le_trans k.1 h.1, fun i hi => (h.2 i (Nat.lt_of_lt_of_le hi k.1)).trans (k.2 i hi)⟩
theorem getD_take {α : Type} (l : List α) (k i : Nat) (h : i < k) (d : α) : (l.take k).getD i d = l.getD i d := by
  rw [List.getD_eq_getElem?_getD, List.getD_eq_getElem?_getD, List.getElem?_take_of_lt h]
theorem within_take (n b : Nm) (h : b.length ≤ n.length) : WithinN n b ↔ MatchN (n.take b.length) b := by
  have e : (n.take b.length).length = b.length := by rw [List.length_take]; omega
  constructor
  · intro k
    exact ⟨e, fun i hi => by rw [e] at hi; rw [getD_take _ _ _ hi]; exact k.2 i hi⟩
  · intro k
    exact ⟨h, fun i hi => by have := k.2 i (by rw [e]; exact hi); rw [getD_take _ _ _ hi] at this; exact this⟩
end Go.Proofs.YtbpdenfiifcfcaaGreatDoor
namespace Go.Proofs.YtbpdenfiifcfcaaGreatDoor
open Go.RowKit

theorem block_lt {w : World} {b o : Nat} {v : Value} (h : w.cell? ⟨b, o, none⟩ = some v) : b < w.heap.size := World.block_lt_of_cell? _ _ h
/-- At the address lie the attributes l. -/
def ALies (w : World) (a : Option Addr) (l : List At) : Prop :=
  l = [] ∨ ∃ b o, a = some ⟨b, o, none⟩ ∧ ∀ i, i < l.length → w.cell? ⟨b, o + i * 3, none⟩ = some (.string (l.getD i noAt).1) ∧ w.cell? ⟨b, o + i * 3 + 1, none⟩ = some (.int .i64 (l.getD i noAt).2.1) ∧ w.cell? ⟨b, o + i * 3 + 2, none⟩ = some (.string (l.getD i noAt).2.2)
theorem ALies.nil (w : World) (a : Option Addr) : ALies w a [] := .inl rfl
theorem ALies.below {w w' : World} {a : Option Addr} {l : List At} (h : ALies w a l) (hb : Below w.heap.size w w') : ALies w' a l := by
  rcases h with h | ⟨b, o, h1, h2⟩
  · exact .inl h
  · refine .inr ⟨b, o, h1, fun i hi => ?_⟩
    obtain ⟨c0, c1, c2⟩ := h2 i hi
    exact ⟨(hb.cell (block_lt c0)).trans c0, (hb.cell (block_lt c1)).trans c1, (hb.cell (block_lt c2)).trans c2⟩
theorem ALies.take {w : World} {a : Option Addr} {l : List At} (h : ALies w a l) (k : Nat) : ALies w a (l.take k) := by
  rcases h with h | ⟨b, o, h1, h2⟩
  · exact .inl (by rw [h]; simp)
  · refine .inr ⟨b, o, h1, fun i hi => ?_⟩
    rw [List.length_take] at hi
    rw [getD_take _ _ _ (by omega)]
    exact h2 i (by omega)
theorem ALies.at {w : World} {a : Option Addr} {l : List At} (h : ALies w a l) (k : Nat) (hk : k < l.length) : ∃ b o, a = some ⟨b, o, none⟩ ∧ b < w.heap.size ∧
    w.cell? ⟨b, o + k * 3, none⟩ = some (.string (l.getD k noAt).1) ∧ w.cell? ⟨b, o + k * 3 + 1, none⟩ = some (.int .i64 (l.getD k noAt).2.1) ∧ w.cell? ⟨b, o + k * 3 + 2, none⟩ = some (.string (l.getD k noAt).2.2) := by
  rcases h with h | ⟨b, o, h1, h2⟩
  · rw [h] at hk; exact absurd hk (Nat.not_lt_zero _)
  · obtain ⟨c0, c1, c2⟩ := h2 k hk
    exact ⟨b, o, h1, block_lt c0, c0, c1, c2⟩
/-- At the address lie the relative names n. -/
def RLies (w : World) (a : Option Addr) (n : Nm) : Prop :=
  n = [] ∨ ∃ b o, a = some ⟨b, o, none⟩ ∧ ∀ i, i < n.length → ∃ a' c', w.cell? ⟨b, o + i, none⟩ = some (.slice a' (n.getD i []).length c') ∧ (n.getD i []).length ≤ c' ∧ ALies w a' (n.getD i [])
theorem RLies.nil (w : World) (a : Option Addr) : RLies w a [] := .inl rfl
theorem RLies.below {w w' : World} {a : Option Addr} {n : Nm} (h : RLies w a n) (hb : Below w.heap.size w w') : RLies w' a n := by
  rcases h with h | ⟨b, o, h1, h2⟩
  · exact .inl h
  · refine .inr ⟨b, o, h1, fun i hi => ?_⟩
    obtain ⟨a', c', q1, q3, q2⟩ := h2 i hi
    exact ⟨a', c', (hb.cell (block_lt q1)).trans q1, q3, q2.below hb⟩
theorem RLies.take {w : World} {a : Option Addr} {n : Nm} (h : RLies w a n) (k : Nat) : RLies w a (n.take k) := by
  rcases h with h | ⟨b, o, h1, h2⟩
  · exact .inl (by rw [h]; simp)
  · refine .inr ⟨b, o, h1, fun i hi => ?_⟩
    rw [List.length_take] at hi
    rw [getD_take _ _ _ (by omega)]
    exact h2 i (by omega)
theorem RLies.at {w : World} {a : Option Addr} {n : Nm} (h : RLies w a n) (k : Nat) (hk : k < n.length) : ∃ b o, a = some ⟨b, o, none⟩ ∧ b < w.heap.size ∧
    ∃ a' c', w.cell? ⟨b, o + k, none⟩ = some (.slice a' (n.getD k []).length c') ∧ (n.getD k []).length ≤ c' ∧ ALies w a' (n.getD k []) := by
  rcases h with h | ⟨b, o, h1, h2⟩
  · rw [h] at hk; exact absurd hk (Nat.not_lt_zero _)
  · obtain ⟨a', c', q1, q3, q2⟩ := h2 k hk
    exact ⟨b, o, h1, block_lt q1, a', c', q1, q3, q2⟩
/-- The struct value v is the name n. -/
def NameV (w : World) (v : Value) (n : Nm) : Prop := ∃ a c, v = .agg #[.slice a n.length c] ∧ n.length ≤ c ∧ RLies w a n
theorem NameV.below {w w' : World} {v : Value} {n : Nm} (h : NameV w v n) (hb : Below w.heap.size w w') : NameV w' v n := by
  obtain ⟨a, c, h1, h3, h2⟩ := h
  exact ⟨a, c, h1, h3, h2.below hb⟩

/-! ### Slices of a call's own -/
def atsCells (l : List At) : List Value := l.flatMap atCells
theorem atsCells_length (l : List At) : (atsCells l).length = l.length * 3 := by
  induction l with
  | nil => rfl
  | cons e r ih => simp only [atsCells, List.flatMap_cons, List.length_append] at ih ⊢; rw [ih]; simp [atCells]; omega
theorem atsCells_snoc (l : List At) (e : At) : atsCells (l ++ [e]) = atsCells l ++ atCells e := by simp [atsCells]
theorem ats_at (l : List At) (i : Nat) (hi : i < l.length) (j : Nat) (hj : j < 3) : (atsCells l)[i * 3 + j]? = (atCells (l.getD i noAt))[j]? := by
  induction l generalizing i with
  | nil => exact absurd hi (Nat.not_lt_zero _)
  | cons e r ih =>
    have e0 : atsCells (e :: r) = atCells e ++ atsCells r := rfl
    have el : (atCells e).length = 3 := rfl
    rw [e0]
    cases i with
    | zero => rw [List.getElem?_append_left (by omega)]; simp
    | succ i =>
      rw [List.getElem?_append_right (by omega), el, show (i + 1) * 3 + j - 3 = i * 3 + j by omega, ih i (by simpa using hi)]
      rfl
theorem atCells_one (e : At) : ∀ u ∈ atCells e, u.oneCell' = true := by
  intro u hu
  simp only [atCells, List.mem_cons, List.not_mem_nil, or_false] at hu
  rcases hu with rfl | rfl | rfl <;> rfl
theorem atsCells_one (l : List At) : ∀ u ∈ atsCells l, u.oneCell' = true := by
  intro u hu
  obtain ⟨e, _, h⟩ := List.mem_flatMap.1 hu
  exact atCells_one e u h
theorem atInfo : (Tryz.prog.info? 86).map (fun i => (i.zero, i.size, i.bytes)) = some (some (.agg #[.string ⟨#[]⟩, .int .i64 0, .string ⟨#[]⟩]), 3, 40) := by kernel_rfl
/-- The slice value v, of memory from block B on, holds the attributes l. -/
def OwnA (w : World) (B : Nat) (v : Value) (l : List At) : Prop := w.ownsRow B 86 3 v l.length (atsCells l)
theorem OwnA.nil (w : World) (B : Nat) : OwnA w B (.slice none 0 0) [] := World.ownsRow_nil _ _ _ _
theorem OwnA.below {w w' : World} {B : Nat} {v : Value} {l : List At} (h : OwnA w B v l) (hb : Below w.heap.size w w') : OwnA w' B v l := own_below h hb
theorem OwnA.lies {w : World} {B : Nat} {v : Value} {l : List At} (h : OwnA w B v l) : ∃ a c, v = .slice a l.length c ∧ l.length ≤ c ∧ ALies w a l := by
  have hh := h
  rcases h.2 with ⟨hv, h0⟩ | ⟨g, cap, cur, hv, _, _, hcap, _⟩
  · exact ⟨none, 0, by rw [hv, h0], by omega, .inl (List.eq_nil_of_length_eq_zero h0)⟩
  · refine ⟨_, cap, hv, hcap, .inr ⟨g, 0, rfl, fun i hi => ?_⟩⟩
    unfold OwnA at hh
    rw [hv] at hh
    have q : ∀ j, j < 3 → w.cell? ⟨g, i * 3 + j, none⟩ = (atCells (l.getD i noAt))[j]? := fun j hj => by
      rw [World.ownsRow.cellAt hh (i * 3 + j) (by omega)]
      exact ats_at l i hi j hj
    rw [Nat.zero_add]
    exact ⟨q 0 (by omega), q 1 (by omega), q 2 (by omega)⟩
/-- The slice value v, of memory from block B on, holds the relative names n, each in memory of its own. -/
def OwnN (w : World) (B : Nat) (v : Value) (n : Nm) : Prop := ∃ vs : List Value, vs.length = n.length ∧ w.ownsRow B 84 1 v n.length vs ∧ ∀ i, i < n.length → OwnA w B (vs.getD i (.slice none 0 0)) (n.getD i [])
theorem OwnN.nil (w : World) (B : Nat) : OwnN w B (.slice none 0 0) [] := ⟨[], rfl, World.ownsRow_nil _ _ _ _, fun _ hi => absurd hi (Nat.not_lt_zero _)⟩
theorem OwnN.below {w w' : World} {B : Nat} {v : Value} {n : Nm} (h : OwnN w B v n) (hb : Below w.heap.size w w') : OwnN w' B v n := by
  obtain ⟨vs, h1, h2, h3⟩ := h
  exact ⟨vs, h1, own_below h2 hb, fun i hi => (h3 i hi).below hb⟩
theorem OwnN.lies {w : World} {B : Nat} {v : Value} {n : Nm} (h : OwnN w B v n) : ∃ a c, v = .slice a n.length c ∧ n.length ≤ c ∧ RLies w a n := by
  obtain ⟨vs, h1, h2, h3⟩ := h
  have hh := h2
  rcases h2.2 with ⟨hv, h0⟩ | ⟨g, cap, cur, hv, _, _, hcap, _⟩
  · exact ⟨none, 0, by rw [hv, h0], by omega, .inl (List.eq_nil_of_length_eq_zero h0)⟩
  · refine ⟨_, cap, hv, hcap, .inr ⟨g, 0, rfl, fun i hi => ?_⟩⟩
    rw [hv] at hh
    obtain ⟨a', c', e, q3, q⟩ := (h3 i hi).lies
    refine ⟨a', c', ?_, q3, q⟩
    rw [Nat.zero_add, World.ownsRow.cellAt hh i (by omega), ← e, List.getD_eq_getElem?_getD, List.getElem?_eq_getElem (by omega)]
    rfl
/-- Rows of different types share no block. -/
theorem rows_apart {w : World} {B B' : Nat} {e e' : TypeId} {k k' n n' : Nat} {v v' : Value} {xs xs' : List Value} (h : w.ownsRow B e k v n xs) (h' : w.ownsRow B' e' k' v' n' xs') (hne : e ≠ e') : v.ownBlock = none ∨ v.ownBlock ≠ v'.ownBlock := by
  rcases h.2 with ⟨hv, _⟩ | ⟨g, cap, cur, hv, _, hg, _⟩
  · exact .inl (by rw [hv]; rfl)
  · rcases h'.2 with ⟨hv', _⟩ | ⟨g', cap', cur', hv', _, hg', _⟩
    · exact .inr (by rw [hv, hv']; simp [Value.ownBlock])
    · refine .inr (fun e1 => ?_)
      rw [hv, hv'] at e1
      simp [Value.ownBlock] at e1
      subst e1
      rw [hg] at hg'
      simp at hg'
      exact hne hg'.2
/-- A row of attributes is kept while a slice of relative names grows. -/
theorem OwnA.kept {w w' : World} {B B' k n : Nat} {v u : Value} {l : List At} {xs : List Value} (h : OwnA w B u l) (ho : w.ownsRow B' 84 k v n xs) (hg : w.grownBy w' v.ownBlock) : OwnA w' B u l :=
  World.ownsRow.kept h hg (rows_apart h ho (by decide))
theorem getD_snoc_lt {α : Type} (l : List α) (x d : α) (i : Nat) (h : i < l.length) : (l ++ [x]).getD i d = l.getD i d := by
  rw [List.getD_eq_getElem?_getD, List.getD_eq_getElem?_getD, List.getElem?_append_left h]
theorem getD_snoc_eq {α : Type} (l : List α) (x d : α) : (l ++ [x]).getD l.length d = x := by
  rw [List.getD_eq_getElem?_getD, List.getElem?_append_right (Nat.le_refl _)]; simp
/-- One relative name more. -/
theorem OwnN.snoc {w w' : World} {B : Nat} {v v' u : Value} {n : Nm} {r : List At} {vs : List Value} (h1 : vs.length = n.length) (h2 : w.ownsRow B 84 1 v n.length vs) (h3 : ∀ i, i < n.length → OwnA w B (vs.getD i (.slice none 0 0)) (n.getD i []))
    (hr : OwnA w B u r) (hg : w.grownBy w' v.ownBlock) (h4 : w'.ownsRow B 84 1 v' (n.length + 1) (vs ++ [u])) : OwnN w' B v' (n ++ [r]) := by
  refine ⟨vs ++ [u], by simp [h1], by rw [List.length_append]; exact h4, fun i hi => ?_⟩
  by_cases hlt : i < n.length
  · rw [getD_snoc_lt _ _ _ _ (by omega), getD_snoc_lt _ _ _ _ hlt]
    exact (h3 i hlt).kept h2 hg
  · rw [List.length_append, List.length_singleton] at hi
    obtain rfl : i = n.length := by omega
    rw [getD_snoc_eq, ← h1, getD_snoc_eq]
    exact hr.kept h2 hg
theorem OwnA.base {w : World} {B B' : Nat} {v : Value} {l : List At} (h : OwnA w B v l) (hB : B' ≤ B) : OwnA w B' v l := own_base h hB
theorem OwnN.base {w : World} {B B' : Nat} {v : Value} {n : Nm} (h : OwnN w B v n) (hB : B' ≤ B) : OwnN w B' v n := by
  obtain ⟨vs, h1, h2, h3⟩ := h
  exact ⟨vs, h1, own_base h2 hB, fun i hi => (h3 i hi).base hB⟩
/-- A struct that holds a name of a call's own. -/
def OwnV (w : World) (B : Nat) (v : Value) (n : Nm) : Prop := ∃ s, v = .agg #[s] ∧ OwnN w B s n
theorem OwnV.name {w : World} {B : Nat} {v : Value} {n : Nm} (h : OwnV w B v n) : NameV w v n := by
  obtain ⟨s, rfl, h⟩ := h
  obtain ⟨a, c, rfl, h3, h2⟩ := h.lies
  exact ⟨a, c, rfl, h3, h2⟩
end Go.Proofs.YtbpdenfiifcfcaaGreatDoor
namespace Go.Proofs.YtbpdenfiifcfcaaGreatDoor
open Go.RowKit

/-- What a call that found the numbers a answers. -/
def Found (a : List Nat) (B : Nat) (w' : World) (e : Ending) : Prop := ∃ g cap, e = .returned (.tuple #[.slice (some ⟨g, 0, none⟩) a.length cap, .bool true]) ∧ ILie w' g a ∧ B ≤ g ∧ a.length ≤ cap
theorem found_of {l : List UInt8} {a : List Nat} (h : Oid l a) {B : Nat} {w' : World} {e : Ending} (k : Arcsd l B w' e) : Found a B w' e := by
  rcases k with ⟨b, g, cap, h1, h2, h3, h4, h5⟩ | ⟨h1, _⟩
  · obtain rfl := oid_one h h1
    exact ⟨g, cap, h2, h3, h4, h5⟩
  · exact absurd h (h1 a)
theorem lost_of {l : List UInt8} (h : ∀ a, ¬ Oid l a) {B : Nat} {w' : World} {e : Ending} (k : Arcsd l B w' e) : e = .returned (.tuple #[.slice none 0 0, .bool false]) := by
  rcases k with ⟨b, g, cap, h1, _⟩ | ⟨_, h2⟩
  · exact absurd h1 (h b)
  · exact h2
theorem arcs_yes {s : ByteArray} {a : List Nat} (h : Oid s.data.toList a) (w : World) (hs : s.size ≤ 1099511627) :
    Calls Tryz.prog 180 #[.string s] w fun e w' => Found a w.heap.size w' e ∧ Below w.heap.size w w' :=
  (arcsOf_any s w hs).mono fun _ _ ⟨h1, h2⟩ => ⟨found_of h h1, h2⟩
theorem arcs_no {s : ByteArray} (h : ∀ a, ¬ Oid s.data.toList a) (w : World) (hs : s.size ≤ 1099511627) :
    Calls Tryz.prog 180 #[.string s] w fun e w' => e = .returned (.tuple #[.slice none 0 0, .bool false]) ∧ Below w.heap.size w w' :=
  (arcsOf_any s w hs).mono fun _ _ ⟨h1, h2⟩ => ⟨lost_of h h1, h2⟩
theorem rarcs_yes {s : ByteArray} {a : List Nat} (h : Oid s.data.toList a) (w : World) (hs : s.size ≤ 1099511627) :
    Calls Tryz.prog 134 #[.string s] w fun e w' => Found a w.heap.size w' e ∧ Below w.heap.size w w' :=
  (rarcs_any s w hs).mono fun _ _ ⟨h1, h2⟩ => ⟨found_of h h1, h2⟩
theorem rarcs_no {s : ByteArray} (h : ∀ a, ¬ Oid s.data.toList a) (w : World) (hs : s.size ≤ 1099511627) :
    Calls Tryz.prog 134 #[.string s] w fun e w' => e = .returned (.tuple #[.slice none 0 0, .bool false]) ∧ Below w.heap.size w w' :=
  (rarcs_any s w hs).mono fun _ _ ⟨h1, h2⟩ => ⟨lost_of h h1, h2⟩

theorem valid_yes {s : ByteArray} {a : List Nat} (h : Oid s.data.toList a) (w : World) (hs : s.size ≤ 1099511627) :
    Calls Tryz.prog 157 #[.string s] w fun e w' => e = .returned (.bool true) ∧ Below w.heap.size w w' := by
  go_enter Tryz.func157, Tryz.ntmps157
  go_wp2_with (go_at_call 180; (with_reducible refine (arcs_yes h _ hs).mono ?_); rintro e w1 ⟨⟨g, cap, rfl, hl, hg, hcp⟩, hb1⟩; have HB1 := Lib.hid hb1; clear hb1 hl hg hcp)
  go_ret
  exact ⟨rfl, HB1.out⟩
theorem valid_no {s : ByteArray} (h : ∀ a, ¬ Oid s.data.toList a) (w : World) (hs : s.size ≤ 1099511627) :
    Calls Tryz.prog 157 #[.string s] w fun e w' => e = .returned (.bool false) ∧ Below w.heap.size w w' := by
  have HH := Lib.hid h
  clear h
  go_enter Tryz.func157, Tryz.ntmps157
  go_wp2_with (go_at_call 180; (with_reducible refine (arcs_no HH.out _ hs).mono ?_); rintro e w1 ⟨rfl, hb1⟩; have HB1 := Lib.hid hb1; clear hb1)
  go_ret
  exact ⟨rfl, HB1.out⟩
theorem rvalid_yes {s : ByteArray} {a : List Nat} (h : Oid s.data.toList a) (w : World) (hs : s.size ≤ 1099511627) :
    Calls Tryz.prog 112 #[.string s] w fun e w' => e = .returned (.bool true) ∧ Below w.heap.size w w' := by
  go_enter Tryz.func112, Tryz.ntmps112
  go_wp2_with (go_at_call 134; (with_reducible refine (rarcs_yes h _ hs).mono ?_); rintro e w1 ⟨⟨g, cap, rfl, hl, hg, hcp⟩, hb1⟩; have HB1 := Lib.hid hb1; clear hb1 hl hg hcp)
  go_ret
  exact ⟨rfl, HB1.out⟩
theorem rvalid_no {s : ByteArray} (h : ∀ a, ¬ Oid s.data.toList a) (w : World) (hs : s.size ≤ 1099511627) :
    Calls Tryz.prog 112 #[.string s] w fun e w' => e = .returned (.bool false) ∧ Below w.heap.size w w' := by
  have HH := Lib.hid h
  clear h
  go_enter Tryz.func112, Tryz.ntmps112
  go_wp2_with (go_at_call 134; (with_reducible refine (rarcs_no HH.out _ hs).mono ?_); rintro e w1 ⟨rfl, hb1⟩; have HB1 := Lib.hid hb1; clear hb1)
  go_ret
  exact ⟨rfl, HB1.out⟩
/-- Whether a text is an object identifier. -/
theorem oid_or (l : List UInt8) : (∃ a, Oid l a) ∨ ∀ a, ¬ Oid l a := (Classical.em _).imp id fun h a k => h ⟨a, k⟩
end Go.Proofs.YtbpdenfiifcfcaaGreatDoor
namespace Go.Proofs.YtbpdenfiifcfcaaGreatDoor
open Go.RowKit

def SmallA (a : At) : Prop := a.1.size ≤ 1000000 ∧ a.2.2.size ≤ 1000000
def SmallR (r : List At) : Prop := r.length ≤ 1000000 ∧ ∀ i, i < r.length → SmallA (r.getD i noAt)
def SmallN (n : Nm) : Prop := n.length ≤ 1000000 ∧ ∀ i, i < n.length → SmallR (n.getD i [])
theorem beq_str (x y : ByteArray) : (x.toList == y.toList) = decide (x = y) := by
  rw [Bool.eq_iff_iff, beq_iff_eq, decide_eq_true_iff]
  exact toList_inj

set_option maxRecDepth 100000 in
set_option maxHeartbeats 1000000 in
theorem same_type (t v x : ByteArray) (k : Int) (g : Nat) (w : World) (h : w.cell? ⟨g, 0, none⟩ = some (.string x)) :
    Calls Tryz.prog 156 #[.agg #[.string t, .int .i64 k, .string v], .pointer (some ⟨g, 0, none⟩)] w fun e w' => e = .returned (.bool (decide (t = x))) ∧ Below w.heap.size w w' := by
  have HE := Lib.hid (beq_str t x)
  have hg : g < w.heap.size := block_lt h
  go_enter Tryz.func156, Tryz.ntmps156
  go_wp2_with fail
  go_ret
  exact ⟨by rw [← HE.out]; rfl, belowNew w _⟩

set_option maxRecDepth 100000 in
set_option maxHeartbeats 1000000 in
theorem idxf_any (a0 : Option Addr) (c n : Nat) (l : List At) (g : Nat) (x : ByteArray) (w : World) (h : ALies w a0 l) (hn : n = l.length) (hL : n ≤ 1099511627776) (hc : w.cell? ⟨g, 0, none⟩ = some (.string x)) :
    Calls Tryz.prog 186 #[.slice a0 n c, .func (.func 156) #[] #[.pointer (some ⟨g, 0, none⟩)]] w
      fun e w' => (∃ z : Int, e = .returned (.int .i64 z) ∧ decide (0 ≤ z) = (l.any fun b => decide (b.1 = x))) ∧ Below w.heap.size w w' := by
  have H1 := Lib.hid h
  have HN := Lib.hid hn
  have HC := Lib.hid hc
  clear h hn hc
  go_enter Tryz.func186, Tryz.ntmps186
  go_wp2_with fail
  go_loopw [8] (fun i wr => ∃ k : Nat, k ≤ n ∧ i = .int .i64 k ∧ ((l.take k).any fun b => decide (b.1 = x)) = false ∧ Below w.heap.size w wr) (fun i _ => n - (intOf i).toNat)
  case atStart => exact ⟨0, Nat.zero_le _, rfl, by simp, Below.refl _ _⟩
  case round =>
    obtain ⟨k, hk, rfl, hA, hb⟩ := hrel
    have HB := Lib.hid hb
    have HA := Lib.hid hA
    clear hb hA
    by_cases hlt : k < n
    · have hd : decide ((k : Int) < (n : Int)) = true := by simp; omega
      obtain ⟨b, o, rfl, hb, c0, c1, c2⟩ := H1.out.at k (by rw [← HN.out]; exact hlt)
      have a0 : wr.cell? ⟨b, o + k * 3, none⟩ = _ := (HB.out.cell (p := ⟨b, o + k * 3, none⟩) hb).trans c0
      have a1 : wr.cell? ⟨b, o + k * 3 + 1, none⟩ = _ := (HB.out.cell (p := ⟨b, o + k * 3 + 1, none⟩) hb).trans c1
      have a2 : wr.cell? ⟨b, o + k * 3 + 2, none⟩ = _ := (HB.out.cell (p := ⟨b, o + k * 3 + 2, none⟩) hb).trans c2
      have HT := Lib.hid (takeD l k (by rw [← HN.out]; exact hlt) noAt)
      generalize l.getD k noAt = y at a0 a1 a2 HT
      obtain ⟨t, kd, v⟩ := y
      clear c0 c1 c2 hb
      have HCR := Lib.hid ((HB.out.cell (p := ⟨g, 0, none⟩) (block_lt HC.out)).trans HC.out)
      by_cases hx : t = x
      · have HF := Lib.hid (show (l.any fun b => decide (b.1 = x)) = true from by
          have e := List.take_append_drop (k + 1) l
          rw [← e, List.any_append, HT.out, List.any_append]
          simp [hx])
        have hdx := decide_eq_true hx
        have hdk : decide ((0 : Int) ≤ (k : Int)) = true := by simp
        clear hx
        go_wp2_with (go_at_call 156; (with_reducible refine (same_type t v x kd g _ HCR.out).mono ?_); rw [hdx]; rintro e w1 ⟨rfl, hb1⟩; have HB1 := Lib.hid (below_next HB.out hb1); clear hb1)
        go_ret
        exact ⟨⟨_, rfl, by rw [HF.out]; simp⟩, HB1.out⟩
      · have HF := Lib.hid (show ((l.take (k + 1)).any fun b => decide (b.1 = x)) = false from by
          rw [HT.out, List.any_append, HA.out]
          simp [hx])
        have hdx := decide_eq_false hx
        clear hx
        go_wp2_with (go_at_call 156; (with_reducible refine (same_type t v x kd g _ HCR.out).mono ?_); rw [hdx]; rintro e w1 ⟨rfl, hb1⟩; have HB1 := Lib.hid (below_next HB.out hb1); clear hb1)
        go_roundw
        case rel => exact ⟨k + 1, by omega, by go_num, HF.out, HB1.out⟩
        case measure => simp [intOf]; omega
    · have hd : decide ((k : Int) < (n : Int)) = false := by simp; omega
      have HF := Lib.hid (show (l.any fun b => decide (b.1 = x)) = false from by
        have e := HA.out
        rw [List.take_of_length_le (by rw [← HN.out]; omega)] at e
        exact e)
      go_wp2_with fail
      go_ret
      exact ⟨⟨_, rfl, by rw [HF.out]; decide⟩, HB.out⟩

set_option maxRecDepth 100000 in
set_option maxHeartbeats 1000000 in
theorem contf_any (a0 : Option Addr) (c n : Nat) (l : List At) (g : Nat) (x : ByteArray) (w : World) (h : ALies w a0 l) (hn : n = l.length) (hL : n ≤ 1099511627776) (hc : w.cell? ⟨g, 0, none⟩ = some (.string x)) :
    Calls Tryz.prog 159 #[.slice a0 n c, .func (.func 156) #[] #[.pointer (some ⟨g, 0, none⟩)]] w
      fun e w' => e = .returned (.bool (l.any fun b => decide (b.1 = x))) ∧ Below w.heap.size w w' := by
  have H := Lib.hid (idxf_any a0 c n l g x w h hn hL hc)
  clear h hn hc
  go_enter Tryz.func159, Tryz.ntmps159
  go_wp2_with (go_at_call 186; (with_reducible refine H.out.mono ?_); rintro e w1 ⟨⟨z, rfl, hz⟩, hb⟩; have HZ := Lib.hid hz; have HB := Lib.hid hb; clear hz hb)
  go_ret
  exact ⟨by rw [← HZ.out]; rfl, HB.out⟩

theorem valid_b (s : ByteArray) (w : World) (hs : s.size ≤ 1099511627) :
    Calls Tryz.prog 157 #[.string s] w fun e w' => e = .returned (.bool (oidB s)) ∧ Below w.heap.size w w' := by
  rcases oid_or s.data.toList with ⟨a, h⟩ | h
  · rw [oidB_yes h]; exact valid_yes h w hs
  · rw [oidB_no h]; exact valid_no h w hs
theorem rvalid_b (s : ByteArray) (w : World) (hs : s.size ≤ 1099511627) :
    Calls Tryz.prog 112 #[.string s] w fun e w' => e = .returned (.bool (oidB s)) ∧ Below w.heap.size w w' := by
  rcases oid_or s.data.toList with ⟨a, h⟩ | h
  · rw [oidB_yes h]; exact rvalid_yes h w hs
  · rw [oidB_no h]; exact rvalid_no h w hs
theorem box_cell (w : World) (x y z : Value) (t : TypeId) : (w.alloc (.cells #[x, y, z] t)).cell? ⟨w.heap.size, 0, none⟩ = some x := by
  rw [cell_of_row _ _ 0 _ _ _ (heap_alloc_new w _)]; rfl
/-- The ways through a check of an attribute. -/
theorem chk_ways (B : List At) (t v : ByteArray) (k : Int) : (oidB t = false ∧ chkA B (t, k, v) = 11) ∨ (oidB t = true ∧ v = ⟨#[]⟩ ∧ chkA B (t, k, v) = 13) ∨
    (oidB t = true ∧ v.size ≠ 0 ∧ validB k v.data.toList = false ∧ chkA B (t, k, v) = 13) ∨ (oidB t = true ∧ v.size ≠ 0 ∧ validB k v.data.toList = true ∧ 64 < v.size ∧ chkA B (t, k, v) = 2) ∨
    (oidB t = true ∧ v.size ≠ 0 ∧ validB k v.data.toList = true ∧ v.size ≤ 64 ∧ (B.any fun b => decide (b.1 = t)) = true ∧ chkA B (t, k, v) = 10) ∨
    (oidB t = true ∧ v.size ≠ 0 ∧ validB k v.data.toList = true ∧ v.size ≤ 64 ∧ (B.any fun b => decide (b.1 = t)) = false ∧ chkA B (t, k, v) = 0) := by
  unfold chkA
  by_cases h1 : oidB t = false
  · exact .inl ⟨h1, if_pos h1⟩
  have h1 : oidB t = true := by simpa using h1
  by_cases h2 : v.size = 0
  · exact .inr (.inl ⟨h1, empty_of_size h2, by simp [h1, h2]⟩)
  by_cases h3 : validB k v.data.toList = false
  · exact .inr (.inr (.inl ⟨h1, h2, h3, by simp [h1, h2, h3]⟩))
  have h3 : validB k v.data.toList = true := by simpa using h3
  by_cases h4 : 64 < v.size
  · exact .inr (.inr (.inr (.inl ⟨h1, h2, h3, h4, by simp [h1, h2, h3, h4]⟩)))
  by_cases h5 : (B.any fun b => decide (b.1 = t)) = true
  · exact .inr (.inr (.inr (.inr (.inl ⟨h1, h2, h3, by omega, h5, by simp only [h1, h2, h3, h4, h5]; simp⟩))))
  have h5 : (B.any fun b => decide (b.1 = t)) = false := by
    cases hh : (B.any fun b => decide (b.1 = t)) with
    | true => exact absurd hh h5
    | false => rfl
  exact .inr (.inr (.inr (.inr (.inr ⟨h1, h2, h3, by omega, h5, by simp only [h1, h2, h3, h4, h5]; simp⟩))))

set_option maxRecDepth 100000 in
set_option maxHeartbeats 4000000 in
theorem chkA_any (t v : ByteArray) (k : Int) (bd : Option Addr) (c n : Nat) (B : List At) (w : World) (hs1 : t.size ≤ 1000000) (hs2 : v.size ≤ 1000000) (hB : ALies w bd B) (hn : n = B.length) (hL : n ≤ 1000000) (hT : Tab w) :
    Calls Tryz.prog 133 #[.agg #[.string t, .int .i64 k, .string v], .slice bd n c] w fun e w' => e = .returned (.int .i64 ((chkA B (t, k, v) : Nat) : Int)) ∧ Below w.heap.size w w' := by
  have HS1 := Lib.hid hs1
  have HS2 := Lib.hid hs2
  have HL := Lib.hid hL
  have HN := Lib.hid hn
  obtain ⟨w0, hw0⟩ : ∃ w0, w0 = w.alloc (.cells #[.string t, .int .i64 k, .string v] 86) := ⟨_, rfl⟩
  have HW := Lib.hid (show Below w.heap.size w w0 by rw [hw0]; exact belowNew w _)
  have HT := Lib.hid (hT.below HW.out)
  have HA := Lib.hid (hB.below HW.out)
  have HCC := Lib.hid (show w0.cell? ⟨w.heap.size, 0, none⟩ = some (.string t) by rw [hw0]; exact box_cell w _ _ _ _)
  have hwr : w.alloc (.cells #[.string t, .int .i64 k, .string v] 86) = w0 := hw0.symm
  have hc0 := HCC.out
  have hc1 : w0.cell? ⟨w.heap.size, 1, none⟩ = some (.int .i64 k) := by rw [hw0, cell_of_row _ _ 1 _ _ _ (heap_alloc_new w _)]; rfl
  have hc2 : w0.cell? ⟨w.heap.size, 2, none⟩ = some (.string v) := by rw [hw0, cell_of_row _ _ 2 _ _ _ (heap_alloc_new w _)]; rfl
  have hlt : w.heap.size < w0.heap.size := block_lt hc0
  have HO := Lib.hid (fun W => valid_b t W (by have := HS1.out; omega))
  have HV := Lib.hid (fun W (hT : Tab W) => tval_any k v W (by have := HS2.out; omega) hT)
  have HK := Lib.hid (fun W (hA : ALies W bd B) (hcc : W.cell? ⟨w.heap.size, 0, none⟩ = some (.string t)) => contf_any bd c n B w.heap.size t W hA HN.out (by have := HL.out; omega) hcc)
  clear hT hB hn hL hs1 hs2 hw0
  rcases chk_ways B t v k with ⟨h1, e⟩ | ⟨h1, h2, e⟩ | ⟨h1, h2, h3, e⟩ | ⟨h1, h2, h3, h4, e⟩ | ⟨h1, h2, h3, h4, h5, e⟩ | ⟨h1, h2, h3, h4, h5, e⟩
  · rw [e]
    rw [h1] at HO
    clear e h1
    go_enter Tryz.func133, Tryz.ntmps133
    go_wp2_with (go_at_call 157; (with_reducible refine (HO.out _).mono ?_); rintro e w1 ⟨rfl, hb⟩; have HX := Lib.hid hb; have HC0 := Lib.hid ((hb.cell (p := ⟨w.heap.size, 0, none⟩) hlt).trans hc0); have g0 := (hb.cell (p := ⟨w.heap.size, 0, none⟩) hlt).trans hc0; have g1 := (hb.cell (p := ⟨w.heap.size, 1, none⟩) hlt).trans hc1; have g2 := (hb.cell (p := ⟨w.heap.size, 2, none⟩) hlt).trans hc2; have hlt1 := Nat.lt_of_lt_of_le hlt hb.size; clear hb)
    go_ret
    exact ⟨rfl, below_next HW.out HX.out⟩
  · rw [e]
    rw [h1] at HO
    subst h2
    clear e h1
    go_enter Tryz.func133, Tryz.ntmps133
    go_wp2_with (go_at_call 157; (with_reducible refine (HO.out _).mono ?_); rintro e w1 ⟨rfl, hb⟩; have HX := Lib.hid hb; have HC0 := Lib.hid ((hb.cell (p := ⟨w.heap.size, 0, none⟩) hlt).trans hc0); have g0 := (hb.cell (p := ⟨w.heap.size, 0, none⟩) hlt).trans hc0; have g1 := (hb.cell (p := ⟨w.heap.size, 1, none⟩) hlt).trans hc1; have g2 := (hb.cell (p := ⟨w.heap.size, 2, none⟩) hlt).trans hc2; have hlt1 := Nat.lt_of_lt_of_le hlt hb.size; clear hb)
    go_ret
    exact ⟨rfl, below_next HW.out HX.out⟩
  · rw [e]
    rw [h1] at HO
    rw [h3] at HV
    have hne := nonempty_list h2
    clear e h1 h2 h3
    go_enter Tryz.func133, Tryz.ntmps133
    go_wp2_with (first | (go_at_call 157; (with_reducible refine (HO.out _).mono ?_); rintro e w1 ⟨rfl, hb⟩; have HX := Lib.hid hb; have HC0 := Lib.hid ((hb.cell (p := ⟨w.heap.size, 0, none⟩) hlt).trans hc0); have g0 := (hb.cell (p := ⟨w.heap.size, 0, none⟩) hlt).trans hc0; have g1 := (hb.cell (p := ⟨w.heap.size, 1, none⟩) hlt).trans hc1; have g2 := (hb.cell (p := ⟨w.heap.size, 2, none⟩) hlt).trans hc2; have hlt1 := Nat.lt_of_lt_of_le hlt hb.size; clear hb) | (go_at_call 158; (with_reducible refine (HV.out _ (HT.out.below HX.out)).mono ?_); rintro e w2 ⟨rfl, hb⟩; have q0 := (hb.cell (p := ⟨w.heap.size, 0, none⟩) hlt1).trans g0; have q1 := (hb.cell (p := ⟨w.heap.size, 1, none⟩) hlt1).trans g1; have q2 := (hb.cell (p := ⟨w.heap.size, 2, none⟩) hlt1).trans g2; have HX := Lib.hid (below_next HX.out hb); clear hb))
    go_ret
    exact ⟨rfl, below_next HW.out HX.out⟩
  · rw [e]
    rw [h1] at HO
    rw [h3] at HV
    have hne := nonempty_list h2
    have hd : decide ((64 : Int) < (v.size : Int)) = true := by simp; omega
    clear e h1 h2 h3 h4
    go_enter Tryz.func133, Tryz.ntmps133
    go_wp2_with (first | (go_at_call 157; (with_reducible refine (HO.out _).mono ?_); rintro e w1 ⟨rfl, hb⟩; have HX := Lib.hid hb; have HC0 := Lib.hid ((hb.cell (p := ⟨w.heap.size, 0, none⟩) hlt).trans hc0); have g0 := (hb.cell (p := ⟨w.heap.size, 0, none⟩) hlt).trans hc0; have g1 := (hb.cell (p := ⟨w.heap.size, 1, none⟩) hlt).trans hc1; have g2 := (hb.cell (p := ⟨w.heap.size, 2, none⟩) hlt).trans hc2; have hlt1 := Nat.lt_of_lt_of_le hlt hb.size; clear hb) | (go_at_call 158; (with_reducible refine (HV.out _ (HT.out.below HX.out)).mono ?_); rintro e w2 ⟨rfl, hb⟩; have q0 := (hb.cell (p := ⟨w.heap.size, 0, none⟩) hlt1).trans g0; have q1 := (hb.cell (p := ⟨w.heap.size, 1, none⟩) hlt1).trans g1; have q2 := (hb.cell (p := ⟨w.heap.size, 2, none⟩) hlt1).trans g2; have HX := Lib.hid (below_next HX.out hb); clear hb))
    go_ret
    exact ⟨rfl, below_next HW.out HX.out⟩
  · rw [e]
    rw [h1] at HO
    rw [h3] at HV
    rw [h5] at HK
    have hne := nonempty_list h2
    have hd : decide ((64 : Int) < (v.size : Int)) = false := by simp; omega
    clear e h1 h2 h3 h4 h5
    go_enter Tryz.func133, Tryz.ntmps133
    go_wp2_with (first | (go_at_call 157; (with_reducible refine (HO.out _).mono ?_); rintro e w1 ⟨rfl, hb⟩; have HX := Lib.hid hb; have HC0 := Lib.hid ((hb.cell (p := ⟨w.heap.size, 0, none⟩) hlt).trans hc0); have g0 := (hb.cell (p := ⟨w.heap.size, 0, none⟩) hlt).trans hc0; have g1 := (hb.cell (p := ⟨w.heap.size, 1, none⟩) hlt).trans hc1; have g2 := (hb.cell (p := ⟨w.heap.size, 2, none⟩) hlt).trans hc2; have hlt1 := Nat.lt_of_lt_of_le hlt hb.size; clear hb) | (go_at_call 158; (with_reducible refine (HV.out _ (HT.out.below HX.out)).mono ?_); rintro e w2 ⟨rfl, hb⟩; have q0 := (hb.cell (p := ⟨w.heap.size, 0, none⟩) hlt1).trans g0; have q1 := (hb.cell (p := ⟨w.heap.size, 1, none⟩) hlt1).trans g1; have q2 := (hb.cell (p := ⟨w.heap.size, 2, none⟩) hlt1).trans g2; have HX := Lib.hid (below_next HX.out hb); clear hb) | (go_at_call 159; (with_reducible refine (HK.out _ (HA.out.below HX.out) q0).mono ?_); rintro e w3 ⟨rfl, hb⟩; have HX := Lib.hid (below_next HX.out hb); clear hb))
    go_ret
    exact ⟨rfl, below_next HW.out HX.out⟩
  · rw [e]
    rw [h1] at HO
    rw [h3] at HV
    rw [h5] at HK
    have hne := nonempty_list h2
    have hd : decide ((64 : Int) < (v.size : Int)) = false := by simp; omega
    clear e h1 h2 h3 h4 h5
    go_enter Tryz.func133, Tryz.ntmps133
    go_wp2_with (first | (go_at_call 157; (with_reducible refine (HO.out _).mono ?_); rintro e w1 ⟨rfl, hb⟩; have HX := Lib.hid hb; have HC0 := Lib.hid ((hb.cell (p := ⟨w.heap.size, 0, none⟩) hlt).trans hc0); have g0 := (hb.cell (p := ⟨w.heap.size, 0, none⟩) hlt).trans hc0; have g1 := (hb.cell (p := ⟨w.heap.size, 1, none⟩) hlt).trans hc1; have g2 := (hb.cell (p := ⟨w.heap.size, 2, none⟩) hlt).trans hc2; have hlt1 := Nat.lt_of_lt_of_le hlt hb.size; clear hb) | (go_at_call 158; (with_reducible refine (HV.out _ (HT.out.below HX.out)).mono ?_); rintro e w2 ⟨rfl, hb⟩; have q0 := (hb.cell (p := ⟨w.heap.size, 0, none⟩) hlt1).trans g0; have q1 := (hb.cell (p := ⟨w.heap.size, 1, none⟩) hlt1).trans g1; have q2 := (hb.cell (p := ⟨w.heap.size, 2, none⟩) hlt1).trans g2; have HX := Lib.hid (below_next HX.out hb); clear hb) | (go_at_call 159; (with_reducible refine (HK.out _ (HA.out.below HX.out) q0).mono ?_); rintro e w3 ⟨rfl, hb⟩; have HX := Lib.hid (below_next HX.out hb); clear hb))
    go_ret
    exact ⟨rfl, below_next HW.out HX.out⟩
end Go.Proofs.YtbpdenfiifcfcaaGreatDoor
