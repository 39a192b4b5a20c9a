/-
  Plain laws on the pieces of a text between bytes of one kind: a text has one list of pieces; what the library's cutting at all instances gives is that list. Nothing is claimed of the program here.
-/
import Derived.Lib.SplitLaws
import Derived.Lib.IndexBytes
import Derived.Lib.Join
import Derived.Lib.JoinLaws
namespace Go.Proofs.YtfpfgdbfigdooaaDoor
open Go.RowKit

/-- The pieces ps, none of which holds c, stand in l with one c between each two. -/
def Spl (c : UInt8) (l : List UInt8) (ps : List (List UInt8)) : Prop := ps ≠ [] ∧ Lib.join ps [c] = l ∧ ∀ p ∈ ps, c ∉ p

theorem join_two (c : UInt8) (p q : List UInt8) (r : List (List UInt8)) : Lib.join (p :: q :: r) [c] = p ++ c :: Lib.join (q :: r) [c] := by
  rw [Lib.join_cons, Lib.join_cons]; simp [Lib.joinTail]
theorem cutc {c : UInt8} : ∀ {p q r s : List UInt8}, c ∉ p → c ∉ q → p ++ c :: r = q ++ c :: s → p = q ∧ r = s
  | [], [], _, _, _, _, h => ⟨rfl, by simpa using h⟩
  | [], y :: q, _, _, _, h2, h => by simp at h; exact absurd h.1 (fun e => h2 (by simp [e]))
  | x :: p, [], _, _, h1, _, h => by simp at h; exact absurd h.1 (fun e => h1 (by simp [e]))
  | x :: p, y :: q, r, s, h1, h2, h => by
    simp at h
    obtain ⟨rfl, h⟩ := h
    obtain ⟨rfl, rfl⟩ := cutc (p := p) (q := q) (fun m => h1 (by simp [m])) (fun m => h2 (by simp [m])) h
    exact ⟨rfl, rfl⟩
theorem spl_inj {c : UInt8} : ∀ {ps qs : List (List UInt8)} {l : List UInt8}, Spl c l ps → Spl c l qs → ps = qs
  | [], _, _, h, _ => absurd rfl h.1
  | _, [], _, _, h => absurd rfl h.1
  | [p], [q], l, h1, h2 => by
    have e1 := h1.2.1; have e2 := h2.2.1
    rw [Lib.join_one] at e1 e2
    rw [e1, e2]
  | [p], q :: q' :: r, l, h1, h2 => by
    have e1 := h1.2.1; have e2 := h2.2.1
    rw [Lib.join_one] at e1
    rw [join_two] at e2
    exact absurd (by rw [e1, ← e2]; simp) (h1.2.2 p (by simp))
  | p :: p' :: r, [q], l, h1, h2 => by
    have e1 := h1.2.1; have e2 := h2.2.1
    rw [Lib.join_one] at e2
    rw [join_two] at e1
    exact absurd (by rw [e2, ← e1]; simp) (h2.2.2 q (by simp))
  | p :: p' :: r, q :: q' :: s, l, h1, h2 => by
    have e1 := h1.2.1; have e2 := h2.2.1
    rw [join_two] at e1 e2
    obtain ⟨rfl, e3⟩ := cutc (h1.2.2 p (by simp)) (h2.2.2 q (by simp)) (e1.trans e2.symm)
    have := spl_inj (c := c) (ps := p' :: r) (qs := q' :: s) (l := Lib.join (p' :: r) [c]) ⟨by simp, rfl, fun x hx => h1.2.2 x (by simp [List.mem_cons.1 hx])⟩ ⟨by simp, e3.symm, fun x hx => h2.2.2 x (by simp [List.mem_cons.1 hx])⟩
    rw [this]
theorem spl_one {c : UInt8} {l : List UInt8} (h : c ∉ l) : Spl c l [l] := ⟨by simp, Lib.join_one _ _, by simpa using h⟩
theorem spl_cons {c : UInt8} {p l : List UInt8} {ps : List (List UInt8)} (hp : c ∉ p) (h : Spl c l ps) : Spl c (p ++ c :: l) (p :: ps) := by
  obtain ⟨h1, h2, h3⟩ := h
  cases ps with
  | nil => exact absurd rfl h1
  | cons q r =>
    refine ⟨by simp, by rw [join_two, h2], fun x hx => ?_⟩
    rcases List.mem_cons.1 hx with rfl | hx
    · exact hp
    · exact h3 x hx
theorem spl_snoc {c : UInt8} {p : List UInt8} (hp : c ∉ p) : ∀ {l : List UInt8} {ps : List (List UInt8)}, Spl c l ps → Spl c (l ++ c :: p) (ps ++ [p])
  | _, [], h => absurd rfl h.1
  | l, [q], h => by
    have e := h.2.1
    rw [Lib.join_one] at e
    subst e
    exact spl_cons (h.2.2 q (by simp)) (spl_one hp)
  | l, q :: q' :: r, h => by
    have e := h.2.1
    rw [join_two] at e
    subst e
    have := spl_snoc hp (l := Lib.join (q' :: r) [c]) (ps := q' :: r) ⟨by simp, rfl, fun x hx => h.2.2 x (by simp [List.mem_cons.1 hx])⟩
    have h2 := spl_cons (h.2.2 q (by simp)) this
    simpa using h2
theorem mem_at {α : Type} {l : List α} {x : α} (h : x ∈ l) : ∃ j : Nat, l[j]? = some x := by
  obtain ⟨k, hk, e⟩ := List.mem_iff_getElem.1 h
  exact ⟨k, List.getElem?_eq_some_iff.2 ⟨hk, e⟩⟩
theorem first_cut {c : UInt8} {l : List UInt8} {i : Nat} (h : Lib.indexByte l c = i) : l = l.take i ++ c :: l.drop (i + 1) ∧ c ∉ l.take i := by
  obtain ⟨h1, h2⟩ := Lib.indexByte_some h
  obtain ⟨hi, e⟩ := List.getElem?_eq_some_iff.1 h1
  refine ⟨?_, fun hm => ?_⟩
  · conv => lhs; rw [← List.take_append_drop i l]
    rw [List.drop_eq_getElem_cons hi, e]
  · obtain ⟨j, e⟩ := mem_at hm
    by_cases hj : j < i
    · rw [List.getElem?_take_of_lt hj] at e; exact h2 j hj e
    · rw [List.getElem?_eq_none (by simp; omega)] at e; cases e
theorem index_cases (l : List UInt8) (c : UInt8) : (Lib.indexByte l c = -1 ∧ c ∉ l) ∨ ∃ i : Nat, Lib.indexByte l c = i ∧ i < l.length := by
  have hge := Lib.indexByte_ge l c
  by_cases h : Lib.indexByte l c = -1
  · refine .inl ⟨h, fun hm => ?_⟩
    obtain ⟨j, e⟩ := mem_at hm
    exact Lib.indexByte_none h j e
  · obtain ⟨i, hi⟩ : ∃ i : Nat, Lib.indexByte l c = i := ⟨(Lib.indexByte l c).toNat, by omega⟩
    exact .inr ⟨i, hi, (List.getElem?_eq_some_iff.1 (Lib.indexByte_some hi).1).1⟩
theorem split_all (c : UInt8) : ∀ (k : Nat) (l : List UInt8), l.count c = k → Spl c l (Lib.splitK [c] 0 k l)
  | 0, l, h => by
    rw [Lib.splitK]
    exact spl_one (List.count_eq_zero.1 h)
  | k + 1, l, h => by
    unfold Lib.splitK
    rcases index_cases l c with ⟨h1, h2⟩ | ⟨i, h1, h2⟩
    · rw [List.count_eq_zero.2 h2] at h; omega
    · have e0 : Lib.index l [c] = i := by rw [Lib.index_one]; exact h1
      rw [if_neg (fun e => by have := beq_iff_eq.1 e; omega), e0]
      obtain ⟨e1, e2⟩ := first_cut h1
      have hc : (l.drop (i + 1)).count c = k := by
        rw [e1, List.count_append, List.count_cons_self, List.count_eq_zero.2 e2] at h
        omega
      have := spl_cons e2 (split_all c k (l.drop (i + 1)) hc)
      rw [← e1] at this
      simpa using this
theorem split_pieces (c : UInt8) (s : ByteArray) : Spl c s.data.toList ((Lib.splitB ⟨#[c]⟩ 0 (Lib.countB s ⟨#[c]⟩) s).map (·.data.toList)) := by
  rw [Lib.splitB_data]
  show Spl c s.data.toList (Lib.splitK [c] 0 (Lib.count s.data.toList [c]) s.data.toList)
  rw [Lib.count_one]
  exact split_all c _ _ rfl
end Go.Proofs.YtfpfgdbfigdooaaDoor
