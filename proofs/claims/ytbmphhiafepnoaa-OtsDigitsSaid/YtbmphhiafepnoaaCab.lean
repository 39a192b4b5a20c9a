/-
  One-time signatures without a program: the digits of a digest, the steps of a chain, and that of the digits of two digests neither row is at most the other. Nothing is claimed of the program here.
  Nothing is left of this text.
  Nothing is left of this text.
  Small laws for the texts on object identifiers: a string's bytes at numbers that have been reckoned, slices of numbers and of bytes that a call has made itself. Nothing is claimed of the program here.
-/
import Derived.Test.YtbmphhiafepnoaaCaa
import Derived.Test.YtbmphhiafepnoaaChecked
namespace Go.Proofs.Ytbmphhiafepnoaa
open Go.RowKit

/-- The halves of the bytes. -/
def halves : List UInt8 → List Nat
  | [] => []
  | b :: r => b.toNat / 16 :: b.toNat % 16 :: halves r
/-- The sum of what the digits lack. -/
def lack : List Nat → Nat
  | [] => 0
  | d :: r => (15 - d) + lack r
def sumD (n : Nat) : List Nat := [n / 256, n / 16 % 16, n % 16]
def digs (l : List UInt8) : List Nat := halves l ++ sumD (lack (halves l))
theorem halves_len : ∀ l : List UInt8, (halves l).length = 2 * l.length
  | [] => rfl
  | b :: r => by
    show (halves r).length + 1 + 1 = 2 * (r.length + 1)
    rw [halves_len r]
    omega
theorem halves_le : ∀ (l : List UInt8), ∀ d ∈ halves l, d ≤ 15
  | [], d, h => by cases h
  | b :: r, d, h => by
    have hb := b.toNat_lt
    rcases List.mem_cons.1 h with rfl | h
    · omega
    · rcases List.mem_cons.1 h with rfl | h
      · omega
      · exact halves_le r d h
theorem halves_inj : ∀ {l m : List UInt8}, halves l = halves m → l = m
  | [], [], _ => rfl
  | [], b :: r, h => by cases h
  | b :: r, [], h => by cases h
  | a :: l, b :: m, h => by
    have h1 : a.toNat / 16 = b.toNat / 16 ∧ a.toNat % 16 = b.toNat % 16 ∧ halves l = halves m := by
      have := h
      simpa [halves] using this
    have e : a.toNat = b.toNat := by omega
    rw [UInt8.toNat_inj.1 e, halves_inj h1.2.2]
/-- Digits that are at least others lack less, unless they are the same. -/
theorem lack_lt : ∀ {l m : List Nat}, l.length = m.length → (∀ i, i < l.length → m.getD i 0 ≤ l.getD i 0) → (∀ d ∈ l, d ≤ 15) → l = m ∨ lack l < lack m
  | [], [], _, _, _ => .inl rfl
  | [], b :: r, h, _, _ => by cases h
  | b :: r, [], h, _, _ => by cases h
  | a :: l, b :: m, h, hle, h15 => by
    have h0 : b ≤ a := hle 0 (by simp)
    have ha := h15 a (by simp)
    have hr := lack_lt (l := l) (m := m) (by simpa using h) (fun i hi => by simpa using hle (i + 1) (by simpa using hi)) (fun d hd => h15 d (List.mem_cons_of_mem _ hd))
    have e1 : lack (a :: l) = (15 - a) + lack l := rfl
    have e2 : lack (b :: m) = (15 - b) + lack m := rfl
    rcases hr with rfl | hr
    · by_cases hab : a = b
      · exact .inl (by rw [hab])
      · exact .inr (by omega)
    · exact .inr (by omega)
theorem lack_le : ∀ (l : List Nat), lack l ≤ 15 * l.length
  | [] => Nat.le_refl _
  | d :: r => by
    have := lack_le r
    show (15 - d) + lack r ≤ 15 * (r.length + 1)
    omega
theorem sumD_lt {n m : Nat} (h : n < m) : ∃ i, i < 3 ∧ (sumD n).getD i 0 < (sumD m).getD i 0 := by
  by_cases h0 : n / 256 < m / 256
  · exact ⟨0, by decide, h0⟩
  · by_cases h1 : n / 16 % 16 < m / 16 % 16
    · exact ⟨1, by decide, h1⟩
    · exact ⟨2, by decide, show n % 16 < m % 16 by omega⟩
theorem digs_len (l : List UInt8) : (digs l).length = 2 * l.length + 3 := by
  unfold digs
  rw [List.length_append, halves_len]
  rfl
/-- Of two digests each has a digit that is less than the other's. -/
theorem digs_apart {a b : List UInt8} (hl : a.length = b.length) (hne : a ≠ b) : ∃ i, i < (digs a).length ∧ (digs a).getD i 0 < (digs b).getD i 0 := by
  have hla := halves_len a
  have hlb := halves_len b
  by_cases hall : ∀ i, i < (halves a).length → (halves b).getD i 0 ≤ (halves a).getD i 0
  · rcases lack_lt (by omega) hall (halves_le a) with h | h
    · exact absurd (halves_inj h) hne
    · obtain ⟨i, hi, hlt⟩ := sumD_lt h
      refine ⟨(halves a).length + i, by rw [digs_len]; omega, ?_⟩
      have e1 : (digs a).getD ((halves a).length + i) 0 = (sumD (lack (halves a))).getD i 0 := by
        unfold digs
        rw [List.getD_eq_getElem?_getD, List.getElem?_append_right (by omega), List.getD_eq_getElem?_getD]
        congr 2
        omega
      have e2 : (digs b).getD ((halves a).length + i) 0 = (sumD (lack (halves b))).getD i 0 := by
        unfold digs
        rw [List.getD_eq_getElem?_getD, List.getElem?_append_right (by omega), List.getD_eq_getElem?_getD]
        congr 2
        omega
      rw [e1, e2]
      exact hlt
  · obtain ⟨i, hi⟩ := Classical.not_forall.1 hall
    obtain ⟨hi, hn⟩ := Classical.not_imp.1 hi
    refine ⟨i, by rw [digs_len]; omega, ?_⟩
    have e1 : (digs a).getD i 0 = (halves a).getD i 0 := by
      unfold digs
      rw [List.getD_eq_getElem?_getD, List.getElem?_append_left (by omega), List.getD_eq_getElem?_getD]
    have e2 : (digs b).getD i 0 = (halves b).getD i 0 := by
      unfold digs
      rw [List.getD_eq_getElem?_getD, List.getElem?_append_left (by omega), List.getD_eq_getElem?_getD]
    rw [e1, e2]
    omega
/-! ### Chains -/
end Go.Proofs.Ytbmphhiafepnoaa


namespace Go.Proofs.Ytbmphhiafepnoaa
open Go.RowKit

/-! ### Rows that a call has made itself -/
def OwnI (w : World) (B : Nat) (v : Value) (a : List Nat) : Prop := w.ownsRow B 3 1 v a.length (a.map icell)
/-- The numbers a lie from the beginning of block g on. -/
def ILie (w : World) (g : Nat) (a : List Nat) : Prop := g < w.heap.size ∧ ∀ j, j < a.length → w.cell? ⟨g, j, none⟩ = some (.int .i64 ((a.getD j 0 : Nat) : Int))
theorem ILie.cell {w : World} {g : Nat} {a : List Nat} (h : ILie w g a) (j : Nat) (hj : j < a.length) : w.cell? ⟨g, j, none⟩ = some (.int .i64 ((a.getD j 0 : Nat) : Int)) := h.2 j hj
theorem ILie.below {w w' : World} {g : Nat} {a : List Nat} (h : ILie w g a) (hb : Below w.heap.size w w') : ILie w' g a :=
  ⟨Nat.lt_of_lt_of_le h.1 hb.size, fun j hj => by
    have e := h.2 j hj
    rw [← e]
    exact hb.cell h.1⟩
theorem ILie.alloc {w : World} {g : Nat} {a : List Nat} (h : ILie w g a) (o : Obj) : ILie (w.alloc o) g a := h.below (belowNew w o)
theorem OwnI.open {w : World} {B : Nat} {v : Value} {a : List Nat} (h : OwnI w B v a) (ha : a ≠ []) : ∃ g cap, v = .slice (some ⟨g, 0, none⟩) a.length cap ∧ B ≤ g ∧ ILie w g a ∧ a.length ≤ cap := by
  rcases h.2 with ⟨rfl, h0⟩ | ⟨g, cap, cur, rfl, hB, hg, hn, _, hcs, htk⟩
  · exact absurd (List.eq_nil_of_length_eq_zero h0) ha
  · refine ⟨g, cap, rfl, hB, ⟨(Array.getElem?_eq_some_iff.1 hg).1, fun j hj => ?_⟩, hn⟩
    rw [cell_of_row w g j _ _ _ hg]
    have : (cur.toList.take (a.length * 1))[j]? = some (icell (a.getD j 0)) := by rw [htk]; simp [hj]
    rw [List.getElem?_take_of_lt (by omega)] at this
    simpa [icell] using this
theorem intInfo : (Try.prog.info? 3).map (fun i => (i.zero, i.size, i.bytes)) = some (some (.int .i64 0), 1, 8) := by kernel_rfl
end Go.Proofs.Ytbmphhiafepnoaa
