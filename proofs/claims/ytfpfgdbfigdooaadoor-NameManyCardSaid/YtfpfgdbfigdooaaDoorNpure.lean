/-
  Plain laws on names as lists: what an attribute is, which error a name has, when two names match. Nothing is claimed of the program here.
-/
import Derived.Test.YtfpfgdbfigdooaaDoorNspl
import Derived.Test.YtfpfgdbfigdooaaDoorXval
import Derived.Test.YtfpfgdbfigdooaaDoorOrarcs
namespace Go.Proofs.YtfpfgdbfigdooaaDoor
open Go.RowKit

/-- An attribute: its type, its kind, its value. A name: its relative names. -/
abbrev At := ByteArray × Int × ByteArray
abbrev Nm := List (List At)
def atV (a : At) : Value := .agg #[.string a.1, .int .i64 a.2.1, .string a.2.2]
def atCells (a : At) : List Value := [.string a.1, .int .i64 a.2.1, .string a.2.2]
def noAt : At := (⟨#[]⟩, 0, ⟨#[]⟩)

/-! ### The first error of a name -/
noncomputable def oidB (s : ByteArray) : Bool := @decide (∃ a, Oid s.data.toList a) (Classical.propDecidable _)
theorem oidB_yes {s : ByteArray} {a : List Nat} (h : Oid s.data.toList a) : oidB s = true := by unfold oidB; exact @decide_eq_true _ (Classical.propDecidable _) ⟨a, h⟩
theorem oidB_no {s : ByteArray} (h : ∀ a, ¬ Oid s.data.toList a) : oidB s = false := by unfold oidB; exact @decide_eq_false _ (Classical.propDecidable _) (fun ⟨a, k⟩ => h a k)
theorem oidB_true {s : ByteArray} (h : oidB s = true) : ∃ a, Oid s.data.toList a := by unfold oidB at h; exact @of_decide_eq_true _ (Classical.propDecidable _) h
noncomputable def chkA (b : List At) (a : At) : Nat :=
  if oidB a.1 = false then 11 else if a.2.2.size = 0 then 13 else if validB a.2.1 a.2.2.data.toList = false then 13 else if 64 < a.2.2.size then 2 else if b.any (fun x => decide (x.1 = a.1)) = true then 10 else 0
noncomputable def chkL : List At → List At → Nat
  | _, [] => 0
  | b, a :: r => if chkA b a = 0 then chkL (b ++ [a]) r else chkA b a
noncomputable def chkR (r : List At) : Nat := if r.length = 0 then 14 else if 4 < r.length then 2 else chkL [] r
noncomputable def chkRs : Nm → Nat
  | [] => 0
  | r :: n => if chkR r = 0 then chkRs n else chkR r
noncomputable def chkN (n : Nm) : Nat := if 8 < n.length then 2 else chkRs n
theorem dropD {α : Type} (l : List α) (k : Nat) (h : k < l.length) (d : α) : l.drop k = l.getD k d :: l.drop (k + 1) := by
  rw [List.drop_eq_getElem_cons h, List.getD_eq_getElem?_getD, List.getElem?_eq_getElem h]; rfl
theorem takeD {α : Type} (l : List α) (k : Nat) (h : k < l.length) (d : α) : l.take (k + 1) = l.take k ++ [l.getD k d] := by
  rw [List.take_add_one, List.getD_eq_getElem?_getD, List.getElem?_eq_getElem h]; rfl
theorem chkL_step (r : List At) (k : Nat) (h : k < r.length) : chkL (r.take k) (r.drop k) = if chkA (r.take k) (r.getD k noAt) = 0 then chkL (r.take (k + 1)) (r.drop (k + 1)) else chkA (r.take k) (r.getD k noAt) := by
  rw [dropD r k h noAt, takeD r k h noAt]; rfl
theorem chkL_end (r : List At) (b : List At) (k : Nat) (h : r.length ≤ k) : chkL b (r.drop k) = 0 := by
  rw [List.drop_eq_nil_of_le h]; rfl
theorem chkRs_step (n : Nm) (k : Nat) (h : k < n.length) : chkRs (n.drop k) = if chkR (n.getD k []) = 0 then chkRs (n.drop (k + 1)) else chkR (n.getD k []) := by
  rw [dropD n k h []]; rfl
theorem chkRs_end (n : Nm) (k : Nat) (h : n.length ≤ k) : chkRs (n.drop k) = 0 := by
  rw [List.drop_eq_nil_of_le h]; rfl
theorem chkA_le (b : List At) (a : At) : chkA b a ≤ 14 := by
  unfold chkA
  repeat' split
  all_goals omega

/-! ### When names match -/
def fa (a : At) : ByteArray × ByteArray := (a.1, foldS a.2.2)
def MatchR (r s : List At) : Prop := r.length = s.length ∧ (∀ x ∈ r, ∃ y ∈ s, fa y = fa x) ∧ (∀ y ∈ s, ∃ x ∈ r, fa x = fa y)
instance (r s : List At) : Decidable (MatchR r s) := by unfold MatchR; infer_instance
theorem MatchR.refl (r : List At) : MatchR r r := ⟨rfl, fun x h => ⟨x, h, rfl⟩, fun x h => ⟨x, h, rfl⟩⟩
theorem MatchR.symm {r s : List At} (h : MatchR r s) : MatchR s r := ⟨h.1.symm, h.2.2, h.2.1⟩
theorem MatchR.trans {r s t : List At} (h : MatchR r s) (k : MatchR s t) : MatchR r t := by
  refine ⟨h.1.trans k.1, fun x hx => ?_, fun x hx => ?_⟩
  · obtain ⟨y, hy, e1⟩ := h.2.1 x hx
    obtain ⟨z, hz, e2⟩ := k.2.1 y hy
    exact ⟨z, hz, e2.trans e1⟩
  · obtain ⟨y, hy, e1⟩ := k.2.2 x hx
    obtain ⟨z, hz, e2⟩ := h.2.2 y hy
    exact ⟨z, hz, e2.trans e1⟩
/-- The relative names of b match the first ones of n. -/
def WithinN (n b : Nm) : Prop := b.length ≤ n.length ∧ ∀ i, i < b.length → MatchR (n.getD i []) (b.getD i [])
def MatchN (n m : Nm) : Prop := n.length = m.length ∧ ∀ i, i < n.length → MatchR (n.getD i []) (m.getD i [])
instance (n b : Nm) : Decidable (WithinN n b) := by unfold WithinN; infer_instance
instance (n b : Nm) : Decidable (MatchN n b) := by unfold MatchN; infer_instance
theorem MatchN.refl (n : Nm) : MatchN n n := ⟨rfl, fun _ _ => MatchR.refl _⟩
theorem MatchN.symm {n m : Nm} (h : MatchN n m) : MatchN m n := ⟨h.1.symm, fun i hi => (h.2 i (by rw [h.1]; exact hi)).symm⟩
theorem MatchN.within {n m : Nm} (h : MatchN n m) : WithinN n m := ⟨Nat.le_of_eq h.1.symm, fun i hi => h.2 i (by rw [h.1]; exact hi)⟩
theorem WithinN.both {n m : Nm} (h : WithinN n m) (k : WithinN m n) : MatchN n m := ⟨Nat.le_antisymm k.1 h.1, fun i hi => h.2 i (Nat.lt_of_lt_of_le hi k.1)⟩
theorem WithinN.trans {a b c : Nm} (h : WithinN a b) (k : WithinN b c) : WithinN a c := ⟨Nat.le_trans k.1 h.1, fun i hi => (h.2 i (Nat.lt_of_lt_of_le hi k.1)).trans (k.2 i hi)⟩
theorem match_iff (n m : Nm) : MatchN n m ↔ WithinN n m ∧ WithinN m n := ⟨fun h => ⟨h.within, h.symm.within⟩, fun h => h.1.both h.2⟩
theorem match_within (n m : Nm) : MatchN n m ↔ n.length = m.length ∧ WithinN n m := ⟨fun h => ⟨h.1, h.within⟩, fun h => ⟨h.1, fun i hi => h.2.2 i (by rw [← h.1]; exact hi)⟩⟩
theorem getD_take {α : Type} (l : List α) (k i : Nat) (h : i < k) (d : α) : (l.take k).getD i d = l.getD i d := by
  rw [List.getD_eq_getElem?_getD, List.getD_eq_getElem?_getD, List.getElem?_take_of_lt h]
theorem within_take (n b : Nm) (h : b.length ≤ n.length) : WithinN n b ↔ MatchN (n.take b.length) b := by
  have e : (n.take b.length).length = b.length := by rw [List.length_take]; omega
  constructor
  · intro k
    exact ⟨e, fun i hi => by rw [e] at hi; rw [getD_take _ _ _ hi]; exact k.2 i hi⟩
  · intro k
    exact ⟨h, fun i hi => by have := k.2 i (by rw [e]; exact hi); rw [getD_take _ _ _ hi] at this; exact this⟩
theorem take_within (n : Nm) (k : Nat) : WithinN n (n.take k) := by
  refine ⟨by rw [List.length_take]; omega, fun i hi => ?_⟩
  rw [List.length_take] at hi
  rw [getD_take _ _ _ (by omega)]
  exact MatchR.refl _
end Go.Proofs.YtfpfgdbfigdooaaDoor
