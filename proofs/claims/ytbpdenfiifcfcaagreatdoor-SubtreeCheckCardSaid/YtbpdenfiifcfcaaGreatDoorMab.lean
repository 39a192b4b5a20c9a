/-
  Object identifiers as lists of numbers: their texts, their contents, and that each of both determines the numbers. Nothing is claimed of the program here.
  Small laws for the texts on object identifiers: a string's bytes at numbers that have been reckoned, slices of numbers and of bytes that a call has made itself. Nothing is claimed of the program here.
  The contracts of strings.Split and strings.Cut at a point of one byte, off the shelf.
  The plain functions: letters and digits, the folded form of a string, its escaped form, hexadecimal digits. Nothing is claimed of the program here.
-/
import Derived.Lib.ItoaNum
import Derived.Lib.Split
import Derived.Lib.IndexLaws
import Derived.Lib.IndexBytes
import Derived.Lib.Join
import Derived.Test.YtbpdenfiifcfcaaGreatDoorMaa
import Derived.Lib.SplitLaws
import Derived.Lib.CutLaws
namespace Go.Proofs.YtbpdenfiifcfcaaGreatDoor

/-- The numbers' codes, one behind the other. -/
def cat (f : Nat → List UInt8) : List Nat → List UInt8
  | [] => []
  | v :: r => f v ++ cat f r
theorem cat_append (f : Nat → List UInt8) (a b : List Nat) : cat f (a ++ b) = cat f a ++ cat f b := by
  induction a with
  | nil => rfl
  | cons x a ih => simp [cat, ih]
/-- No code is the beginning of another one. -/
def Code (f : Nat → List UInt8) : Prop := ∀ x y r s, f x ++ r = f y ++ s → x = y ∧ r = s
theorem code_cut {f : Nat → List UInt8} (h : Code f) (ne : ∀ x, f x ≠ []) : ∀ (A N : List Nat) (r : List UInt8), cat f N = cat f A ++ r → ∃ M, N = A ++ M ∧ r = cat f M
  | [], N, r, e => ⟨N, rfl, by simpa [cat] using e.symm⟩
  | x :: A, [], r, e => by
    exfalso
    have e2 := e.symm
    simp only [cat, List.append_eq_nil_iff] at e2
    exact ne x e2.1.1
  | x :: A, y :: N, r, e => by
    simp only [cat, List.append_assoc] at e
    obtain ⟨rfl, h2⟩ := h _ _ _ _ e
    obtain ⟨M, rfl, h3⟩ := code_cut h ne A N r h2
    exact ⟨M, rfl, h3⟩
theorem code_inj {f : Nat → List UInt8} (h : Code f) (ne : ∀ x, f x ≠ []) {A N : List Nat} (e : cat f N = cat f A) : N = A := by
  obtain ⟨M, rfl, hM⟩ := code_cut h ne A N [] (by simpa using e)
  cases M with
  | nil => simp
  | cons m M =>
    exfalso
    have e2 := hM.symm
    simp only [cat, List.append_eq_nil_iff] at e2
    exact ne m e2.1

/-! ### Decimal numbers -/
def isDig (c : UInt8) : Prop := 48 ≤ c.toNat ∧ c.toNat ≤ 57
def dval (l : List UInt8) : Nat := l.foldl (fun v c => 10 * v + (c.toNat - 48)) 0
theorem head_left {l r : List UInt8} (h : l ≠ []) : (l ++ r).head? = l.head? := by
  cases l with
  | nil => exact absurd rfl h
  | cons _ _ => rfl
theorem dval_snoc (l : List UInt8) (c : UInt8) : dval (l ++ [c]) = 10 * dval l + (c.toNat - 48) := by simp [dval]
theorem dval_le (l r : List UInt8) : dval l ≤ dval (l ++ r) := by
  induction r generalizing l with
  | nil => simp
  | cons c r ih =>
    have := ih (l ++ [c])
    rw [dval_snoc, List.append_assoc, List.singleton_append] at this
    omega
theorem dval_lt (l : List UInt8) (h : ∀ c ∈ l, isDig c) : dval l < 10 ^ l.length := by
  induction hn : l.length generalizing l with
  | zero => obtain rfl := List.eq_nil_of_length_eq_zero hn; simp [dval]
  | succ n ih =>
    obtain ⟨r, c, rfl⟩ : ∃ r c, l = r ++ [c] := ⟨l.dropLast, l.getLast (by intro e; simp [e] at hn), (List.dropLast_concat_getLast _).symm⟩
    have h1 := ih r (fun x hx => h x (by simp [hx])) (by simpa using hn)
    have h2 := h c (by simp)
    unfold isDig at h2
    rw [dval_snoc, Nat.pow_succ]
    omega
theorem dec_props (v : Nat) : (∀ c ∈ Lib.decDigits v, isDig c) ∧ dval (Lib.decDigits v) = v ∧ Lib.decDigits v ≠ [] ∧ ((Lib.decDigits v).head? = some 48 → v = 0) := by
  induction v using Nat.strongRecOn with
  | _ v ih =>
    rw [Lib.decDigits]
    split
    · rename_i h
      refine ⟨?_, ?_, by simp, ?_⟩
      · intro c hc
        obtain rfl : c = UInt8.ofNat (48 + v) := by simpa using hc
        unfold isDig; simp; omega
      · simp [dval]; omega
      · intro e
        have e2 : UInt8.ofNat (48 + v) = 48 := by simpa using e
        have := congrArg UInt8.toNat e2
        simp at this; omega
    · rename_i h
      obtain ⟨h1, h2, h3, h4⟩ := ih (v / 10) (by omega)
      refine ⟨?_, ?_, by simp, ?_⟩
      · intro c hc
        rcases List.mem_append.1 hc with hc | hc
        · exact h1 c hc
        · obtain rfl : c = UInt8.ofNat (48 + v % 10) := by simpa using hc
          unfold isDig; simp; omega
      · rw [dval_snoc, h2]; simp; omega
      · intro e
        rw [head_left h3] at e
        have := h4 e
        omega
theorem dec_dig {v : Nat} {c : UInt8} (h : c ∈ Lib.decDigits v) : isDig c := (dec_props v).1 c h
theorem dec_val (v : Nat) : dval (Lib.decDigits v) = v := (dec_props v).2.1
theorem dec_ne (v : Nat) : Lib.decDigits v ≠ [] := (dec_props v).2.2.1
theorem dec_head {v : Nat} (h : (Lib.decDigits v).head? = some 48) : v = 0 := (dec_props v).2.2.2 h
theorem dec_zero : Lib.decDigits 0 = [48] := by rw [Lib.decDigits]; rfl
theorem dec_dot (v : Nat) : (46 : UInt8) ∉ Lib.decDigits v := fun h => by have := dec_dig h; revert this; unfold isDig; decide
theorem dec_len (k v : Nat) (h : v < 10 ^ k) (hk : 1 ≤ k) : (Lib.decDigits v).length ≤ k := by
  induction k generalizing v with
  | zero => omega
  | succ k ih =>
    rw [Lib.decDigits]
    split
    · simp
    · rename_i hv
      have hk1 : 1 ≤ k := by
        rcases Nat.eq_zero_or_pos k with rfl | h0
        · simp at h; omega
        · exact h0
      have := ih (v / 10) (by rw [Nat.pow_succ] at h; omega) hk1
      simp; omega
/-- Digits without a leading zero are the number's. -/
theorem dec_of (l : List UInt8) (h0 : l ≠ []) (h1 : ∀ c ∈ l, isDig c) (h2 : l.head? = some 48 → l.length = 1) : l = Lib.decDigits (dval l) := by
  induction hn : l.length generalizing l with
  | zero => exact absurd (List.eq_nil_of_length_eq_zero hn) h0
  | succ n ih =>
    obtain ⟨r, c, rfl⟩ : ∃ r c, l = r ++ [c] := ⟨l.dropLast, l.getLast h0, (List.dropLast_concat_getLast _).symm⟩
    have hc := h1 c (by simp)
    unfold isDig at hc
    by_cases hr : r = []
    · subst hr
      have e : dval ([] ++ [c]) = c.toNat - 48 := by simp [dval]
      rw [e, Lib.decDigits_one (by omega)]
      have : (48 + (c.toNat - 48)) = c.toNat := by omega
      rw [this]; simp
    · have hh : (r ++ [c]).head? = r.head? := head_left hr
      have hl : 1 ≤ r.length := by
        cases r with
        | nil => exact absurd rfl hr
        | cons _ _ => simp
      have hne : r.head? ≠ some 48 := fun e => by
        have := h2 (by rw [hh]; exact e)
        simp at this; exact hr this
      have hr2 := ih r hr (fun x hx => h1 x (by simp [hx])) (fun e => absurd e hne) (by simpa using hn)
      have hpos : dval r ≠ 0 := fun e => by
        rw [e, dec_zero] at hr2
        exact hne (by rw [hr2]; rfl)
      rw [dval_snoc]
      conv => rhs; rw [Lib.decDigits]
      rw [dif_neg (by omega)]
      have e1 : (10 * dval r + (c.toNat - 48)) / 10 = dval r := by omega
      have e2 : 48 + (10 * dval r + (c.toNat - 48)) % 10 = c.toNat := by omega
      rw [e1, e2, ← hr2]; simp
theorem dec_inj {x y : Nat} (h : Lib.decDigits x = Lib.decDigits y) : x = y := by rw [← dec_val x, h, dec_val]

/-- Texts before a point. -/
theorem dot_cut : ∀ (u v r s : List UInt8), (46 : UInt8) ∉ u → (46 : UInt8) ∉ v → u ++ 46 :: r = v ++ 46 :: s → u = v ∧ r = s
  | [], [], r, s, _, _, e => by simpa using e
  | [], y :: v, r, s, _, hv, e => by simp at e hv; exact absurd e.1 hv.1
  | x :: u, [], r, s, hu, _, e => by simp at e hu; exact absurd e.1.symm hu.1
  | x :: u, y :: v, r, s, hu, hv, e => by
    simp at e hu hv
    obtain ⟨h1, h2⟩ := dot_cut u v r s hu.2 hv.2 e.2
    exact ⟨by rw [e.1, h1], h2⟩
def fdot (v : Nat) : List UInt8 := Lib.decDigits v ++ [46]
theorem fdot_ne (v : Nat) : fdot v ≠ [] := by simp [fdot]
theorem fdot_code : Code fdot := by
  intro x y r s e
  simp only [fdot, List.append_assoc, List.singleton_append] at e
  obtain ⟨h1, h2⟩ := dot_cut _ _ _ _ (dec_dot x) (dec_dot y) e
  exact ⟨dec_inj h1, h2⟩
def txt : List Nat → List UInt8
  | [] => []
  | [v] => Lib.decDigits v
  | v :: w :: r => Lib.decDigits v ++ 46 :: txt (w :: r)
theorem txt_dot : ∀ (a : List Nat), a ≠ [] → txt a ++ [46] = cat fdot a
  | [], h => absurd rfl h
  | [v], _ => by simp [txt, cat, fdot]
  | v :: w :: r, _ => by
    have := txt_dot (w :: r) (by simp)
    rw [txt, cat, ← this]
    simp [fdot]
/-- The numbers of an object identifier. -/
def Good (a : List Nat) : Prop := 2 ≤ a.length ∧ a.length ≤ 12 ∧ (∀ v ∈ a, v ≤ 2147483647) ∧ a.getD 0 0 ≤ 2 ∧ (a.getD 0 0 < 2 → a.getD 1 0 ≤ 39)
/-- The text l is the object identifier with the numbers a. -/
def Oid (l : List UInt8) (a : List Nat) : Prop := Good a ∧ l ++ [46] = cat fdot a
theorem Good.ne {a : List Nat} (h : Good a) : a ≠ [] := fun e => by rw [e] at h; exact absurd h.1 (by decide)
theorem oid_one {l : List UInt8} {a b : List Nat} (h : Oid l a) (k : Oid l b) : a = b := code_inj fdot_code fdot_ne (h.2.symm.trans k.2)
theorem oid_txt {l : List UInt8} {a : List Nat} (h : Oid l a) : l = txt a := by
  have := h.2
  rw [← txt_dot a h.1.ne] at this
  exact List.append_cancel_right this
/-! ### The pieces between the points -/
def dotted (Q : List (List UInt8)) : List UInt8 := Q.flatMap (· ++ [46])
theorem at_split (l : List UInt8) (i : Nat) (c : UInt8) (h : l[i]? = some c) : l = l.take i ++ c :: l.drop (i + 1) := by
  obtain ⟨hi, rfl⟩ := List.getElem?_eq_some_iff.1 h
  rw [← List.drop_eq_getElem_cons hi, List.take_append_drop]
theorem not_mem_of {l : List UInt8} {c : UInt8} (h : ∀ k : Nat, l[k]? ≠ some c) : c ∉ l := fun hm => by
  obtain ⟨k, hk, e⟩ := List.mem_iff_getElem.1 hm
  exact h k (List.getElem?_eq_some_iff.2 ⟨hk, e⟩)
theorem split_spec : ∀ (k : Nat) (l : List UInt8), dotted (Lib.splitK [46] 0 k l) = l ++ [46] ∧
    ∃ Q0 q, Lib.splitK [46] 0 k l = Q0 ++ [q] ∧ (∀ p ∈ Q0, (46 : UInt8) ∉ p) ∧ ((46 : UInt8) ∈ q → Q0.length = k)
  | 0, l => ⟨by simp [Lib.splitK, dotted], [], l, rfl, by simp, fun _ => rfl⟩
  | k + 1, l => by
    unfold Lib.splitK
    split
    · rename_i h
      have h2 : Lib.indexByte l 46 = -1 := by rw [← Lib.index_one]; exact beq_iff_eq.1 h
      refine ⟨by simp [dotted], [], l, rfl, by simp, fun hm => absurd hm (not_mem_of (Lib.indexByte_none h2))⟩
    · rename_i h
      have h2 : Lib.index l [46] ≠ -1 := fun e => h (beq_iff_eq.2 e)
      have h3 := Lib.index_ge l [46]
      obtain ⟨i, hi⟩ : ∃ i : Nat, Lib.index l [46] = i := ⟨(Lib.index l [46]).toNat, by omega⟩
      rw [hi]
      rw [Lib.index_one] at hi
      obtain ⟨h4, h5⟩ := Lib.indexByte_some hi
      obtain ⟨d1, Q0, q, d2, d3, d4⟩ := split_spec k (l.drop (i + 1))
      have e1 : ((i : Int)).toNat + 0 = i := by omega
      have e2 : ((i : Int)).toNat + ([46] : List UInt8).length = i + 1 := by simp
      rw [e1, e2]
      refine ⟨?_, l.take i :: Q0, q, ?_, ?_, ?_⟩
      · rw [dotted, List.flatMap_cons]
        rw [dotted] at d1
        rw [d1]
        conv => rhs; rw [at_split l i 46 h4]
        simp
      · rw [d2]; rfl
      · intro p hp
        rcases List.mem_cons.1 hp with rfl | hp
        · refine not_mem_of (fun j e => ?_)
          by_cases hj : j < i
          · rw [List.getElem?_take_of_lt hj] at e; exact h5 j hj e
          · rw [List.getElem?_eq_none (by simp; omega)] at e; cases e
        · exact d3 p hp
      · intro hm; simp [d4 hm]
theorem pieces_dec : ∀ (Q : List (List UInt8)) (a : List Nat), (∀ p ∈ Q, (46 : UInt8) ∉ p) → dotted Q = cat fdot a → Q = a.map Lib.decDigits
  | [], [], _, _ => rfl
  | [], v :: a, _, e => by
    have e2 := e.symm
    simp [dotted, cat, fdot] at e2
  | p :: Q, [], _, e => by simp [dotted, cat] at e
  | p :: Q, v :: a, h, e => by
    simp only [dotted, List.flatMap_cons, cat, fdot, List.append_assoc, List.singleton_append] at e
    obtain ⟨h1, h2⟩ := dot_cut _ _ _ _ (h p (by simp)) (dec_dot v) e
    rw [List.map_cons, ← h1, ← pieces_dec Q a (fun x hx => h x (by simp [hx])) h2]
theorem dec_pieces (a : List Nat) : dotted (a.map Lib.decDigits) = cat fdot a := by
  induction a with
  | nil => rfl
  | cons v a ih =>
    rw [List.map_cons, dotted, List.flatMap_cons, cat, ← ih]; rfl
/-- The first pieces of the text of an object identifier are numbers. -/
theorem pieces_cut : ∀ (Q : List (List UInt8)) (r : List UInt8) (a : List Nat), (∀ p ∈ Q, (46 : UInt8) ∉ p) → dotted Q ++ r = cat fdot a → ∃ A M, a = A ++ M ∧ Q = A.map Lib.decDigits ∧ r = cat fdot M
  | [], r, a, _, e => ⟨[], a, rfl, rfl, by simpa [dotted] using e⟩
  | p :: Q, r, [], _, e => by simp [dotted, cat] at e
  | p :: Q, r, v :: a, h, e => by
    simp only [dotted, List.flatMap_cons, cat, fdot, List.append_assoc, List.singleton_append] at e
    obtain ⟨h1, h2⟩ := dot_cut _ _ _ _ (h p (by simp)) (dec_dot v) e
    obtain ⟨A, M, rfl, h3, h4⟩ := pieces_cut Q r a (fun x hx => h x (by simp [hx])) h2
    exact ⟨v :: A, M, rfl, by rw [List.map_cons, ← h1, ← h3], h4⟩
theorem split_len : ∀ (k : Nat) (l : List UInt8), (Lib.splitK [46] 0 k l).length ≤ k + 1
  | 0, l => by simp [Lib.splitK]
  | k + 1, l => by
    unfold Lib.splitK
    split
    · simp
    · have := split_len k (l.drop ((Lib.index l [46]).toNat + ([46] : List UInt8).length))
      rw [List.length_cons]
      exact Nat.succ_le_succ this
theorem dotted_len (Q : List (List UInt8)) : Q.length ≤ (dotted Q).length := by
  induction Q with
  | nil => simp [dotted]
  | cons p Q ih =>
    rw [dotted] at ih ⊢
    rw [List.flatMap_cons, List.length_append, List.length_cons, List.length_append, List.length_singleton]; omega
/-- What the pieces of SplitN, at most 13, say. -/
theorem split13 {l : List UInt8} {k : Nat} (hk : k = min 12 l.length) {Q : List (List UInt8)} (hQ : Q = Lib.splitK [46] 0 k l) :
    (∀ a, Oid l a → Q = a.map Lib.decDigits) ∧ (∀ a : List Nat, Q = a.map Lib.decDigits → l ++ [46] = cat fdot a) ∧ 1 ≤ Q.length ∧ Q.length ≤ 13 := by
  obtain ⟨h1, Q0, q, h2, h3, h4⟩ := split_spec k l
  have hle := split_len k l
  rw [← hQ] at h1 h2 hle
  have hl : Q.length = Q0.length + 1 := by rw [h2]; simp
  have key : (46 : UInt8) ∈ q → Q0.length = 12 := by
    intro hm
    have e0 : 0 < q.length := List.length_pos_of_mem hm
    have e1 := dotted_len Q0
    have e2 : (dotted Q).length = (dotted Q0).length + (q.length + 1) := by rw [h2, dotted, List.flatMap_append]; simp [dotted]
    rw [h1, List.length_append, List.length_singleton] at e2
    have := h4 hm
    omega
  refine ⟨?_, ?_, by omega, by omega⟩
  · intro a ha
    by_cases hm : (46 : UInt8) ∈ q
    · exfalso
      have e := ha.2
      rw [← h1, h2, dotted, List.flatMap_append] at e
      obtain ⟨A, M, rfl, e1, e2⟩ := pieces_cut Q0 _ a h3 e
      have hA : A.length = 12 := by rw [← key hm, e1, List.length_map]
      cases M with
      | nil => simp [cat] at e2
      | cons m M => have := ha.1.2.1; simp at this; omega
    · refine pieces_dec Q a ?_ (h1.trans ha.2)
      intro p hp
      rw [h2] at hp
      rcases List.mem_append.1 hp with hp | hp
      · exact h3 p hp
      · obtain rfl : p = q := by simpa using hp
        exact hm
  · intro a ha
    rw [← h1, ha, dec_pieces]

/-! ### A text that is scanned byte by byte -/
/-- The part that ends here is the next number. -/
theorem scan_end {l : List UInt8} {A a : List Nat} {d r : List UInt8} (hl : l ++ [46] = cat fdot A ++ (d ++ 46 :: r)) (hd : (46 : UInt8) ∉ d) (h : Oid l a) :
    ∃ m M, a = A ++ m :: M ∧ d = Lib.decDigits m ∧ m ≤ 2147483647 ∧ A.length < 12 := by
  have e := h.2
  rw [hl] at e
  obtain ⟨M, rfl, e2⟩ := code_cut fdot_code fdot_ne A a _ e.symm
  cases M with
  | nil => simp [cat] at e2
  | cons m M =>
    simp only [cat, fdot, List.append_assoc, List.singleton_append] at e2
    obtain ⟨e3, _⟩ := dot_cut _ _ _ _ hd (dec_dot m) e2
    have h12 := h.1.2.1
    simp at h12
    exact ⟨m, M, rfl, e3, h.1.2.2.1 m (by simp), by omega⟩
theorem dig_cut : ∀ (d v r s : List UInt8) (c : UInt8), (∀ x ∈ d, isDig x) → (∀ x ∈ v, isDig x) → ¬ isDig c → c ≠ 46 → d ++ c :: r = v ++ 46 :: s → False
  | [], [], _, _, _, _, _, _, h, e => by simp at e; exact h e.1
  | [], y :: v, _, _, _, _, hv, h, _, e => by simp at e; rw [e.1] at h; exact h (hv y (by simp))
  | x :: d, [], _, _, _, hd, _, _, _, e => by simp at e; have := hd x (by simp); rw [e.1] at this; revert this; unfold isDig; decide
  | x :: d, y :: v, r, s, c, hd, hv, h, h46, e => by
    simp at e
    exact dig_cut d v r s c (fun z hz => hd z (by simp [hz])) (fun z hz => hv z (by simp [hz])) h h46 e.2
/-- A byte that is neither a digit nor a point. -/
theorem scan_bad {l : List UInt8} {A a : List Nat} {d r : List UInt8} {c : UInt8} (hl : l ++ [46] = cat fdot A ++ (d ++ c :: r)) (hd : ∀ x ∈ d, isDig x) (hc : ¬ isDig c) (h46 : c ≠ 46) : ¬ Oid l a := by
  intro h
  have e := h.2
  rw [hl] at e
  obtain ⟨M, rfl, e2⟩ := code_cut fdot_code fdot_ne A a _ e.symm
  cases M with
  | nil => simp [cat] at e2
  | cons m M =>
    simp only [cat, fdot, List.append_assoc, List.singleton_append] at e2
    exact dig_cut _ _ _ _ _ hd (fun x hx => dec_dig hx) hc h46 e2

/-! ### Numbers in base 128 -/
def hd7 (n : Nat) : List UInt8 := if _h : n = 0 then [] else hd7 (n / 128) ++ [UInt8.ofNat (128 + n % 128)]
termination_by n
decreasing_by omega
def e128 (n : Nat) : List UInt8 := hd7 (n / 128) ++ [UInt8.ofNat (n % 128)]
def val7 (l : List UInt8) : Nat := l.foldl (fun v c => 128 * v + c.toNat % 128) 0
theorem val7_snoc (l : List UInt8) (c : UInt8) : val7 (l ++ [c]) = 128 * val7 l + c.toNat % 128 := by simp [val7]
theorem hd7_zero : hd7 0 = [] := by rw [hd7]; simp
theorem hd7_pos {n : Nat} (h : n ≠ 0) : hd7 n = hd7 (n / 128) ++ [UInt8.ofNat (128 + n % 128)] := by rw [hd7, dif_neg h]
theorem hd7_props (n : Nat) : (∀ c ∈ hd7 n, 128 ≤ c.toNat) ∧ val7 (hd7 n) = n ∧ (hd7 n).head? ≠ some 128 := by
  induction n using Nat.strongRecOn with
  | _ n ih =>
    by_cases h : n = 0
    · subst h; rw [hd7_zero]; simp [val7]
    · obtain ⟨h1, h2, h3⟩ := ih (n / 128) (by omega)
      rw [hd7_pos h]
      refine ⟨?_, ?_, ?_⟩
      · intro c hc
        rcases List.mem_append.1 hc with hc | hc
        · exact h1 c hc
        · obtain rfl : c = UInt8.ofNat (128 + n % 128) := by simpa using hc
          simp; omega
      · rw [val7_snoc, h2]; simp; omega
      · by_cases h0 : n / 128 = 0
        · rw [h0, hd7_zero]
          intro e
          have e2 : UInt8.ofNat (128 + n % 128) = 128 := by simpa using e
          have := congrArg UInt8.toNat e2
          simp at this; omega
        · have hne : hd7 (n / 128) ≠ [] := fun e => by
            have := h2; rw [e] at this; exact h0 this.symm
          rw [head_left hne]; exact h3
theorem val_hd7 (n : Nat) : val7 (hd7 n) = n := (hd7_props n).2.1
theorem val_e128 (n : Nat) : val7 (e128 n) = n := by rw [e128, val7_snoc, val_hd7]; simp; omega
theorem e128_ne (n : Nat) : e128 n ≠ [] := by simp [e128]
theorem end_cut : ∀ (u v : List UInt8) (b c : UInt8) (r s : List UInt8), (∀ x ∈ u, 128 ≤ x.toNat) → (∀ x ∈ v, 128 ≤ x.toNat) → b.toNat < 128 → c.toNat < 128 → u ++ b :: r = v ++ c :: s → u = v ∧ b = c ∧ r = s
  | [], [], b, c, r, s, _, _, _, _, e => by simpa using e
  | [], y :: v, b, c, r, s, _, hv, hb, _, e => by
    simp at e
    have := hv y (by simp); rw [← e.1] at this; omega
  | x :: u, [], b, c, r, s, hu, _, _, hc, e => by
    simp at e
    have := hu x (by simp); rw [e.1] at this; omega
  | x :: u, y :: v, b, c, r, s, hu, hv, hb, hc, e => by
    simp at e
    obtain ⟨h1, h2, h3⟩ := end_cut u v b c r s (fun z hz => hu z (by simp [hz])) (fun z hz => hv z (by simp [hz])) hb hc e.2
    exact ⟨by rw [e.1, h1], h2, h3⟩
theorem e128_code : Code e128 := by
  intro x y r s e
  simp only [e128, List.append_assoc, List.singleton_append] at e
  obtain ⟨h1, h2, h3⟩ := end_cut _ _ _ _ _ _ (hd7_props _).1 (hd7_props _).1 (by simp; omega) (by simp; omega) e
  refine ⟨?_, h3⟩
  rw [← val_e128 x, ← val_e128 y, e128, e128, h1, h2]
theorem e128_len (n : Nat) (h : n < 34359738368) : (e128 n).length ≤ 5 := by
  have key : ∀ (k m : Nat), m < 128 ^ k → (hd7 m).length ≤ k := by
    intro k
    induction k with
    | zero => intro m hm; simp at hm; subst hm; rw [hd7_zero]; simp
    | succ k ih =>
      intro m hm
      by_cases h0 : m = 0
      · subst h0; rw [hd7_zero]; simp
      · rw [hd7_pos h0, List.length_append, List.length_singleton]
        have := ih (m / 128) (by rw [Nat.pow_succ] at hm; omega)
        omega
  have := key 4 (n / 128) (by omega)
  rw [e128, List.length_append, List.length_singleton]; omega

/-! ### The contents of an object identifier -/
def numsOf : List Nat → List Nat
  | a :: b :: r => (40 * a + b) :: r
  | l => l
def arcsN : List Nat → List Nat
  | m :: M => min (m / 40) 2 :: (m - 40 * min (m / 40) 2) :: M
  | [] => []
def enc (a : List Nat) : List UInt8 := cat e128 (numsOf a)
/-- The numbers of which the contents of an object identifier consist. -/
def GoodN (N : List Nat) : Prop := 1 ≤ N.length ∧ N.length ≤ 11 ∧ N.getD 0 0 ≤ 2147483727 ∧ ∀ v ∈ N.tail, v ≤ 2147483647
theorem good_nums {a : List Nat} (h : Good a) : GoodN (numsOf a) ∧ arcsN (numsOf a) = a := by
  obtain ⟨h1, h2, h3, h4, h5⟩ := h
  match a, h1, h2, h3, h4, h5 with
  | x :: y :: r, h1, h2, h3, h4, h5 =>
    have hy := h3 y (by simp)
    simp at h2 h4 h5
    refine ⟨⟨by simp [numsOf], by simp [numsOf]; omega, by simp [numsOf]; omega, ?_⟩, ?_⟩
    · intro v hv; exact h3 v (by simp [numsOf] at hv; simp [hv])
    · have e : min ((40 * x + y) / 40) 2 = x := by omega
      rw [numsOf, arcsN, e]
      have e2 : 40 * x + y - 40 * x = y := by omega
      rw [e2]
/-- The contents c are those of the object identifier with the numbers a. -/
def Dec (c : List UInt8) (a : List Nat) : Prop := Good a ∧ c = enc a
theorem dec_one {c : List UInt8} {a b : List Nat} (h : Dec c a) (k : Dec c b) : a = b := by
  have e : numsOf a = numsOf b := code_inj e128_code e128_ne (h.2.symm.trans k.2)
  rw [← (good_nums h.1).2, e, (good_nums k.1).2]
/-! ### The order, and what lies under what -/
/-- The arcs of b are the first ones of a. -/
def under (a b : List Nat) : Bool := decide (b.length ≤ a.length) && decide (a.take b.length = b)
end Go.Proofs.YtbpdenfiifcfcaaGreatDoor
namespace Go.Proofs.YtbpdenfiifcfcaaGreatDoor
open Go.RowKit

/-! ### Rows that a call has made itself -/
def OwnI (w : World) (B : Nat) (v : Value) (a : List Nat) : Prop := w.ownsRow B 3 1 v a.length (a.map icell)
/-- The numbers a lie from the beginning of block g on. -/
def ILie (w : World) (g : Nat) (a : List Nat) : Prop := g < w.heap.size ∧ ∀ j, j < a.length → w.cell? ⟨g, j, none⟩ = some (.int .i64 ((a.getD j 0 : Nat) : Int))
theorem ILie.cell {w : World} {g : Nat} {a : List Nat} (h : ILie w g a) (j : Nat) (hj : j < a.length) : w.cell? ⟨g, j, none⟩ = some (.int .i64 ((a.getD j 0 : Nat) : Int)) := h.2 j hj
theorem ILie.below {w w' : World} {g : Nat} {a : List Nat} (h : ILie w g a) (hb : Below w.heap.size w w') : ILie w' g a :=
  ⟨Nat.lt_of_lt_of_le h.1 hb.size, fun j hj => by
    have e := h.2 j hj
    rw [← e]
    exact hb.cell h.1⟩
theorem ILie.alloc {w : World} {g : Nat} {a : List Nat} (h : ILie w g a) (o : Obj) : ILie (w.alloc o) g a := h.below (belowNew w o)
theorem ILie.drawn {w : World} {g : Nat} {a : List Nat} (h : ILie w g a) (n : Nat) : ILie (w.drewN n) g a := h
theorem OwnI.open {w : World} {B : Nat} {v : Value} {a : List Nat} (h : OwnI w B v a) (ha : a ≠ []) : ∃ g cap, v = .slice (some ⟨g, 0, none⟩) a.length cap ∧ B ≤ g ∧ ILie w g a ∧ a.length ≤ cap := by
  rcases h.2 with ⟨rfl, h0⟩ | ⟨g, cap, cur, rfl, hB, hg, hn, _, hcs, htk⟩
  · exact absurd (List.eq_nil_of_length_eq_zero h0) ha
  · refine ⟨g, cap, rfl, hB, ⟨(Array.getElem?_eq_some_iff.1 hg).1, fun j hj => ?_⟩, hn⟩
    rw [cell_of_row w g j _ _ _ hg]
    have : (cur.toList.take (a.length * 1))[j]? = some (icell (a.getD j 0)) := by rw [htk]; simp [hj]
    rw [List.getElem?_take_of_lt (by omega)] at this
    simpa [icell] using this
theorem own_round {w wr w2 : World} {v v' : Value} {D : List Nat} {y : Nat} {X : Obj} (hown : OwnI wr w.heap.size v D) (hb : Below w.heap.size w wr)
    (hown2 : w2.ownsRow w.heap.size 3 1 v' (D.length + 1) (D.map icell ++ [icell y])) (hgr2 : (wr.alloc X).grownBy w2 v.ownBlock) : OwnI w2 w.heap.size v' (D ++ [y]) ∧ Below w.heap.size w w2 := by
  refine ⟨?_, ?_⟩
  · unfold OwnI
    rw [List.length_append, List.map_append]; exact hown2
  · exact (Below.alloc hb hb.size X).grown hgr2 (by simp; have := hb.size; omega) (fun k e => (World.ownsRow.lt hown k e).1)
theorem intInfo : (Tryz.prog.info? 3).map (fun i => (i.zero, i.size, i.bytes)) = some (some (.int .i64 0), 1, 8) := by kernel_rfl
theorem strInfo : (Tryz.prog.info? 9).map (fun i => (i.zero, i.size, i.bytes)) = some (some (.string ByteArray.empty), 1, 16) := by kernel_rfl
theorem int_made {w : World} {B : Nat} {v : Value} (m : Nat) (h : w.ownsRow B 3 1 v m (madeCells (Value.int .i64 0).cells (m * 1)).toList) : OwnI w B v (List.replicate m 0) := by
  unfold OwnI
  rw [List.length_replicate]
  have e : (madeCells (Value.int .i64 0).cells (m * 1)).toList = (List.replicate m 0).map icell := by
    simp only [madeCells, Value.cells, Nat.mul_one]
    apply List.ext_getElem
    · simp
    · intro i h1 h2
      simp [Nat.mod_one, icell]
  rw [← e]; exact h
theorem int_cell {w : World} {B g n cap : Nat} {l : List Nat} (h : OwnI w B (.slice (some ⟨g, 0, none⟩) n cap) l) (hl : l.length = n) (j : Nat) (hj : j < n) : w.cell? ⟨g, j, none⟩ = some (.int .i64 ((l.getD j 0 : Nat) : Int)) := by
  subst hl
  have := World.ownsRow.cellAt h j (by omega)
  rw [this]
  simp [hj, icell]
theorem int_free {w : World} {B g n cap : Nat} {l : List Nat} (h : OwnI w B (.slice (some ⟨g, 0, none⟩) n cap) l) (hl : l.length = n) (j : Nat) : w.frozen? ⟨g, j, none⟩ = false := by
  subst hl
  exact World.ownsRow.frozenAt h j
theorem int_set {w : World} {B g n cap : Nat} {l : List Nat} (h : OwnI w B (.slice (some ⟨g, 0, none⟩) n cap) l) (hl : l.length = n) (j : Nat) (b : Nat) :
    OwnI (w.setCell ⟨g, j, none⟩ (.int .i64 ((b : Nat) : Int))) B (.slice (some ⟨g, 0, none⟩) n cap) (l.set j b) := by
  subst hl
  unfold OwnI at h ⊢
  have := (World.ownsRow.stored h j (icell b)).1
  rw [List.length_set, List.map_set]
  exact this
theorem filled_set (A : List Nat) (n b : Nat) (h : A.length < n) : (A ++ List.replicate (n - A.length) 0).set A.length b = (A ++ [b]) ++ List.replicate (n - (A ++ [b]).length) 0 := by
  have e : n - A.length = (n - (A ++ [b]).length) + 1 := by simp; omega
  rw [e, List.replicate_succ, List.set_append_right _ _ (Nat.le_refl _)]
  simp
theorem filled_len (A : List Nat) (n : Nat) (h : A.length ≤ n) : (A ++ List.replicate (n - A.length) 0).length = n := by simp; omega
theorem OwnI.form {w : World} {B : Nat} {v : Value} {a : List Nat} (h : OwnI w B v a) : ∃ p cap, v = .slice p a.length cap := by
  rcases h.2 with ⟨rfl, h0⟩ | ⟨g, cap, cur, rfl, _⟩
  · exact ⟨none, 0, by rw [h0]⟩
  · exact ⟨_, cap, rfl⟩
/-- The cells of a new array of strings. -/
theorem row_pcs (W : World) (xs : List ByteArray) (N : Nat) (k : Nat) (hk : k < xs.length) : (W.alloc (.cells (Lib.cellsOf xs N) 9)).cell? ⟨W.heap.size, k, none⟩ = some (.string (xs.getD k ⟨#[]⟩)) := by
  rw [cell_of_row _ _ k _ _ _ (heap_alloc_new W _)]
  unfold Lib.cellsOf
  rw [List.getElem?_toArray, List.getElem?_append_left (by simpa using hk)]
  simp [hk]
end Go.Proofs.YtbpdenfiifcfcaaGreatDoor
namespace Go.Proofs.YtbpdenfiifcfcaaGreatDoor
open Go.RowKit

/-- The pieces of a text between the bytes c. -/
def pcsS (c : UInt8) (s : ByteArray) : List ByteArray := Lib.splitB ⟨#[c]⟩ 0 (Lib.countB s ⟨#[c]⟩) s
theorem pcsS_spl (c : UInt8) (s : ByteArray) : Spl c s.data.toList ((pcsS c s).map (·.data.toList)) := split_pieces c s
theorem index_byte (x : ByteArray) (c : UInt8) (w : World) :
    Calls Tryz.prog 188 #[.string x, .string ⟨#[c]⟩] w fun e w' => e = .returned (.int .i64 (Lib.indexByte x.data.toList c)) ∧ w' = w :=
  Any.stringslite_Index_one lays219 x c w
end Go.Proofs.YtbpdenfiifcfcaaGreatDoor
namespace Go.Proofs.YtbpdenfiifcfcaaGreatDoor
open Go.RowKit

/-! ### Letters and digits -/
def alnum (n : Nat) : Bool := decide (65 ≤ n ∧ n ≤ 90) || (decide (97 ≤ n ∧ n ≤ 122) || decide (48 ≤ n ∧ n ≤ 57))
theorem alnum_big {n : Nat} (h : 123 ≤ n) : alnum n = false := by
  simp [alnum]; omega

/-! ### Folding -/
def small (c : UInt8) : UInt8 := if 65 ≤ c.toNat ∧ c.toNat ≤ 90 then UInt8.ofNat (c.toNat + 32) else c
theorem small_low {c : UInt8} (h : ¬ (65 ≤ c.toNat ∧ c.toNat ≤ 90)) : small c = c := by unfold small; rw [if_neg h]
theorem small_big {c : UInt8} (h : 65 ≤ c.toNat ∧ c.toNat ≤ 90) : (small c).toNat = c.toNat + 32 := by
  unfold small
  rw [if_pos h]
  simp; omega
theorem small_space {c : UInt8} : small c = 32 ↔ c = 32 := by
  by_cases h : 65 ≤ c.toNat ∧ c.toNat ≤ 90
  · constructor
    · intro e
      have := small_big h
      rw [e] at this
      have e32 : (32 : UInt8).toNat = 32 := rfl
      omega
    · intro e
      rw [e] at h
      have e32 : (32 : UInt8).toNat = 32 := rfl
      omega
  · rw [small_low h]

def foldStep (st : List UInt8 × Bool) (c : UInt8) : List UInt8 × Bool := if c = 32 then (st.1, !st.1.isEmpty) else (st.1 ++ (if st.2 then [32] else []) ++ [small c], false)
def foldRun (l : List UInt8) : List UInt8 × Bool := l.foldl foldStep ([], false)
def foldL (l : List UInt8) : List UInt8 := (foldRun l).1
theorem foldRun_snoc (l : List UInt8) (c : UInt8) : foldRun (l ++ [c]) = foldStep (foldRun l) c := by simp [foldRun]
/-- What a state of folding always is. -/
structure FInv (st : List UInt8 × Bool) : Prop where
  gap : st.2 = true → st.1 ≠ []
  last : st.1.getLast? ≠ some 32
theorem FInv.step {st : List UInt8 × Bool} (h : FInv st) (c : UInt8) : FInv (foldStep st c) := by
  unfold foldStep
  by_cases hc : c = 32
  · rw [if_pos hc]
    refine ⟨fun e => ?_, h.last⟩
    intro e2
    rw [show st.1 = [] from e2] at e
    cases e
  · rw [if_neg hc]
    refine ⟨fun e => (by cases e), ?_⟩
    rw [List.getLast?_append]
    simp
    exact fun e => hc (small_space.1 e)
theorem snoc_ind {P : List UInt8 → Prop} (h0 : P []) (h1 : ∀ l c, P l → P (l ++ [c])) (l : List UInt8) : P l := by
  have : ∀ r : List UInt8, P r.reverse := by
    intro r
    induction r with
    | nil => exact h0
    | cons c r ih => rw [List.reverse_cons]; exact h1 _ _ ih
  have := this l.reverse
  rwa [List.reverse_reverse] at this
/-- The reference's bytes at that state. -/
def refOut (st : List UInt8 × Bool) : List UInt8 := st.1 ++ (if st.2 then [32] else [])
theorem fold_len (l : List UInt8) : (refOut (foldRun l)).length ≤ l.length := by
  induction l using snoc_ind with
  | h0 => simp [foldRun, refOut]
  | h1 l c ih =>
    rw [foldRun_snoc]
    unfold refOut foldStep at *
    rw [List.length_append] at ih
    by_cases hc : c = 32
    · rw [if_pos hc]
      simp only [List.length_append, List.length_singleton]
      split <;> simp <;> omega
    · rw [if_neg hc]
      simp only [List.length_append, List.length_singleton]
      simp
      omega
theorem foldL_len (l : List UInt8) : (foldL l).length ≤ l.length := by
  have := fold_len l
  unfold refOut at this
  rw [List.length_append] at this
  unfold foldL
  omega
/-! ### Hexadecimal digits -/
def hexDigit (n : Nat) : UInt8 := if n < 10 then UInt8.ofNat (48 + n) else UInt8.ofNat (87 + n)
def hexL (l : List UInt8) : List UInt8 := l.flatMap fun b => [hexDigit (b.toNat / 16), hexDigit (b.toNat % 16)]
def digV (c : Nat) : Option Nat := if 48 ≤ c ∧ c ≤ 57 then some (c - 48) else if 97 ≤ c ∧ c ≤ 102 then some (c - 87) else none
theorem digV_hex : ∀ v, v < 16 → digV (hexDigit v).toNat = some v := by decide
theorem hexDigit_inj {v w : Nat} (hv : v < 16) (hw : w < 16) (h : hexDigit v = hexDigit w) : v = w := by
  have h1 := digV_hex v hv
  rw [h, digV_hex w hw] at h1
  exact (Option.some.inj h1).symm
theorem hexL_cons (a : UInt8) (l : List UInt8) : hexL (a :: l) = hexDigit (a.toNat / 16) :: hexDigit (a.toNat % 16) :: hexL l := by simp [hexL]
theorem byte_of {a b : UInt8} (h1 : hexDigit (a.toNat / 16) = hexDigit (b.toNat / 16)) (h2 : hexDigit (a.toNat % 16) = hexDigit (b.toNat % 16)) : a = b := by
  have hx := a.toNat_lt
  have hy := b.toNat_lt
  have e1 := hexDigit_inj (by omega) (by omega) h1
  have e2 := hexDigit_inj (by omega) (by omega) h2
  exact UInt8.toNat_inj.1 (by omega)
theorem hexL_inj : ∀ {a b : List UInt8}, hexL a = hexL b → a = b
  | [], [], _ => rfl
  | [], y :: b, h => by rw [hexL_cons] at h; cases h
  | x :: a, [], h => by rw [hexL_cons] at h; cases h
  | x :: a, y :: b, h => by
    rw [hexL_cons, hexL_cons] at h
    rw [hexL_inj (List.cons.inj (List.cons.inj h).2).2, byte_of (List.cons.inj h).1 (List.cons.inj (List.cons.inj h).2).1]
/-! ### Escaping -/
def plainL : List UInt8 := [32, 39, 40, 41, 45, 46, 47, 58, 63, 64, 95]
def plainB (c : UInt8) : Bool := alnum c.toNat || plainL.contains c
theorem plain_92 : plainB 92 = false := by decide
def escB (c : UInt8) : List UInt8 := if plainB c = true then [c] else [92, hexDigit (c.toNat / 16), hexDigit (c.toNat % 16)]
def escL (l : List UInt8) : List UInt8 := l.flatMap escB
theorem escB_plain {c : UInt8} (h : plainB c = true) : escB c = [c] := by unfold escB; rw [if_pos h]
theorem escB_other {c : UInt8} (h : plainB c = false) : escB c = [92, hexDigit (c.toNat / 16), hexDigit (c.toNat % 16)] := by unfold escB; rw [if_neg (by rw [h]; decide)]
theorem escL_nil : escL [] = [] := rfl
theorem escL_cons (c : UInt8) (l : List UInt8) : escL (c :: l) = escB c ++ escL l := by simp [escL]
theorem escB_len1 (c : UInt8) : 1 ≤ (escB c).length := by unfold escB; split <;> simp
theorem escB_cut {x y : UInt8} {r t : List UInt8} (h : escB x ++ r = escB y ++ t) : x = y ∧ r = t := by
  cases hx : plainB x <;> cases hy : plainB y
  · rw [escB_other hx, escB_other hy] at h
    simp only [List.cons_append, List.nil_append, List.cons.injEq, true_and] at h
    exact ⟨byte_of h.1 h.2.1, h.2.2⟩
  · rw [escB_other hx, escB_plain hy] at h
    simp only [List.cons_append, List.nil_append, List.cons.injEq] at h
    rw [← h.1, plain_92] at hy; cases hy
  · rw [escB_plain hx, escB_other hy] at h
    simp only [List.cons_append, List.nil_append, List.cons.injEq] at h
    rw [h.1, plain_92] at hx; cases hx
  · rw [escB_plain hx, escB_plain hy] at h
    simp only [List.cons_append, List.nil_append, List.cons.injEq] at h
    exact h
theorem escL_cut : ∀ (D l r : List UInt8), escL l = escL D ++ r → ∃ l2, l = D ++ l2 ∧ escL l2 = r
  | [], l, r, h => ⟨l, rfl, h⟩
  | d :: D, [], r, h => by
    exfalso
    rw [escL_nil, escL_cons] at h
    have := congrArg List.length h
    have h1 := escB_len1 d
    simp at this
    omega
  | d :: D, x :: l, r, h => by
    rw [escL_cons, escL_cons, List.append_assoc] at h
    obtain ⟨rfl, h2⟩ := escB_cut h
    obtain ⟨l2, rfl, h3⟩ := escL_cut D l r h2
    exact ⟨l2, rfl, h3⟩
theorem escL_inj {a b : List UInt8} (h : escL a = escL b) : a = b := by
  obtain ⟨l2, rfl, h2⟩ := escL_cut b a [] (by rw [h, List.append_nil])
  cases l2 with
  | nil => simp
  | cons x l =>
    rw [escL_cons] at h2
    have := congrArg List.length h2
    have h1 := escB_len1 x
    rw [List.length_append, List.length_nil] at this
    omega
/-- What Unescape answers for the string s: the string whose escaped form is s, if there is one. -/
def Une (s : List UInt8) (u : ByteArray) (ok : Bool) : Prop := (ok = true ∧ escL u.data.toList = s) ∨ (ok = false ∧ u = ⟨#[]⟩ ∧ ∀ l, escL l ≠ s)
theorem Une.eq {s : List UInt8} {u v : ByteArray} {a b : Bool} (h : Une s u a) (k : Une s v b) : v = u ∧ b = a := by
  rcases h with ⟨rfl, h⟩ | ⟨rfl, rfl, h⟩ <;> rcases k with ⟨rfl, k⟩ | ⟨rfl, rfl, k⟩
  · refine ⟨?_, rfl⟩
    have := escL_inj (k.trans h.symm)
    apply ByteArray.ext
    exact Array.toList_inj.1 this
  · exact absurd h (k _)
  · exact absurd k (h _)
  · exact ⟨rfl, rfl⟩
theorem drop_cons {s : List UInt8} {i : Nat} {c : UInt8} (h : s[i]? = some c) : s.drop i = c :: s.drop (i + 1) := by
  obtain ⟨hi, rfl⟩ := List.getElem?_eq_some_iff.1 h
  exact List.drop_eq_getElem_cons hi
/-- Where the reference stands: what is escaped as s begins with out, and goes on behind i. -/
def Way (s : List UInt8) (i : Nat) (out : List UInt8) : Prop := ∀ l, escL l = s → ∃ l2, l = out ++ l2 ∧ escL l2 = s.drop i
theorem Way.one {s out : List UInt8} {i : Nat} {c : UInt8} (h : Way s i out) (hc : s[i]? = some c) (h92 : c ≠ 92) : Way s (i + 1) (out ++ [c]) := by
  intro l e
  obtain ⟨l2, rfl, h2⟩ := h l e
  rw [drop_cons hc] at h2
  cases l2 with
  | nil => rw [escL_nil] at h2; cases h2
  | cons x t =>
    rw [escL_cons] at h2
    cases hx : plainB x with
    | true =>
      rw [escB_plain hx] at h2
      simp only [List.cons_append, List.nil_append, List.cons.injEq] at h2
      exact ⟨t, by rw [h2.1]; simp, h2.2⟩
    | false =>
      rw [escB_other hx] at h2
      simp only [List.cons_append, List.nil_append, List.cons.injEq] at h2
      exact absurd h2.1.symm h92
theorem Way.two {s out : List UInt8} {i : Nat} (h : Way s i out) (hc : s[i]? = some 92) {l : List UInt8} (e : escL l = s) :
    ∃ x t, l = out ++ x :: t ∧ i + 3 ≤ s.length ∧ hexL [x] = (s.drop (i + 1)).take 2 ∧ escL t = s.drop (i + 3) := by
  obtain ⟨l2, rfl, h2⟩ := h l e
  rw [drop_cons hc] at h2
  cases l2 with
  | nil => rw [escL_nil] at h2; cases h2
  | cons x t =>
    rw [escL_cons] at h2
    cases hx : plainB x with
    | true =>
      rw [escB_plain hx] at h2
      simp only [List.cons_append, List.nil_append, List.cons.injEq] at h2
      rw [h2.1, plain_92] at hx; cases hx
    | false =>
      rw [escB_other hx] at h2
      simp only [List.cons_append, List.nil_append, List.cons.injEq, true_and] at h2
      have hl := congrArg List.length h2
      simp only [List.length_cons, List.length_drop] at hl
      refine ⟨x, t, rfl, by omega, by rw [← h2]; rfl, ?_⟩
      have e3 : s.drop (i + 3) = (s.drop (i + 1)).drop 2 := by rw [List.drop_drop]
      rw [e3, ← h2]; rfl
theorem Way.next {s out : List UInt8} {i : Nat} {u : ByteArray} (h : Way s i out) (hc : s[i]? = some 92) (hu : hexL u.data.toList = (s.drop (i + 1)).take 2) : Way s (i + 3) (out ++ u.data.toList) := by
  intro l e
  obtain ⟨x, t, rfl, _, h2, h3⟩ := h.two hc e
  have : u.data.toList = [x] := hexL_inj (hu.trans h2.symm)
  exact ⟨t, by rw [this]; simp, h3⟩
theorem Way.no {s out : List UInt8} {i : Nat} (h : Way s i out) (hc : s[i]? = some 92) (hu : ∀ l, hexL l ≠ (s.drop (i + 1)).take 2) : ∀ l, escL l ≠ s := by
  intro l e
  obtain ⟨x, t, _, _, h2, _⟩ := h.two hc e
  exact hu _ h2
theorem Way.short {s out : List UInt8} {i : Nat} (h : Way s i out) (hc : s[i]? = some 92) (hs : s.length < i + 3) : ∀ l, escL l ≠ s := by
  intro l e
  obtain ⟨_, _, _, h1, _⟩ := h.two hc e
  omega
theorem Way.last {s out : List UInt8} {i : Nat} (h : Way s i out) (hi : s.length ≤ i) (hne : escL out ≠ s) : ∀ l, escL l ≠ s := by
  intro l e
  obtain ⟨l2, rfl, h2⟩ := h l e
  rw [List.drop_eq_nil_of_le hi] at h2
  obtain rfl : l2 = [] := escL_inj (h2.trans escL_nil.symm)
  rw [List.append_nil] at e
  exact hne e
end Go.Proofs.YtbpdenfiifcfcaaGreatDoor
