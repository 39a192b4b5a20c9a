/-
  Object identifiers as lists of numbers: their texts, their contents, and that each of both determines the numbers. Nothing is claimed of the program here.
-/
import Derived.Lib.ItoaNum
import Derived.Lib.Split
import Derived.Lib.IndexLaws
import Derived.Lib.IndexBytes
import Derived.Lib.Join
namespace Go.Proofs.YtpmlkofceidnjaaDoor

/-- The numbers' codes, one behind the other. -/
def cat (f : Nat → List UInt8) : List Nat → List UInt8
  | [] => []
  | v :: r => f v ++ cat f r
theorem cat_append (f : Nat → List UInt8) (a b : List Nat) : cat f (a ++ b) = cat f a ++ cat f b := by
  induction a with
  | nil => rfl
  | cons x a ih => simp [cat, ih]
/-- No code is the beginning of another one. -/
def Code (f : Nat → List UInt8) : Prop := ∀ x y r s, f x ++ r = f y ++ s → x = y ∧ r = s
theorem code_cut {f : Nat → List UInt8} (h : Code f) (ne : ∀ x, f x ≠ []) : ∀ (A N : List Nat) (r : List UInt8), cat f N = cat f A ++ r → ∃ M, N = A ++ M ∧ r = cat f M
  | [], N, r, e => ⟨N, rfl, by simpa [cat] using e.symm⟩
  | x :: A, [], r, e => by
    exfalso
    have e2 := e.symm
    simp only [cat, List.append_eq_nil_iff] at e2
    exact ne x e2.1.1
  | x :: A, y :: N, r, e => by
    simp only [cat, List.append_assoc] at e
    obtain ⟨rfl, h2⟩ := h _ _ _ _ e
    obtain ⟨M, rfl, h3⟩ := code_cut h ne A N r h2
    exact ⟨M, rfl, h3⟩
theorem code_inj {f : Nat → List UInt8} (h : Code f) (ne : ∀ x, f x ≠ []) {A N : List Nat} (e : cat f N = cat f A) : N = A := by
  obtain ⟨M, rfl, hM⟩ := code_cut h ne A N [] (by simpa using e)
  cases M with
  | nil => simp
  | cons m M =>
    exfalso
    have e2 := hM.symm
    simp only [cat, List.append_eq_nil_iff] at e2
    exact ne m e2.1

/-! ### Decimal numbers -/
def isDig (c : UInt8) : Prop := 48 ≤ c.toNat ∧ c.toNat ≤ 57
def dval (l : List UInt8) : Nat := l.foldl (fun v c => 10 * v + (c.toNat - 48)) 0
theorem head_left {l r : List UInt8} (h : l ≠ []) : (l ++ r).head? = l.head? := by
  cases l with
  | nil => exact absurd rfl h
  | cons _ _ => rfl
theorem dval_snoc (l : List UInt8) (c : UInt8) : dval (l ++ [c]) = 10 * dval l + (c.toNat - 48) := by simp [dval]
theorem dval_le (l r : List UInt8) : dval l ≤ dval (l ++ r) := by
  induction r generalizing l with
  | nil => simp
  | cons c r ih =>
    have := ih (l ++ [c])
    rw [dval_snoc, List.append_assoc, List.singleton_append] at this
    omega
theorem dec_props (v : Nat) : (∀ c ∈ Lib.decDigits v, isDig c) ∧ dval (Lib.decDigits v) = v ∧ Lib.decDigits v ≠ [] ∧ ((Lib.decDigits v).head? = some 48 → v = 0) := by
  induction v using Nat.strongRecOn with
  | _ v ih =>
    rw [Lib.decDigits]
    split
    · rename_i h
      refine ⟨?_, ?_, by simp, ?_⟩
      · intro c hc
        obtain rfl : c = UInt8.ofNat (48 + v) := by simpa using hc
        unfold isDig; simp; omega
      · simp [dval]; omega
      · intro e
        have e2 : UInt8.ofNat (48 + v) = 48 := by simpa using e
        have := congrArg UInt8.toNat e2
        simp at this; omega
    · rename_i h
      obtain ⟨h1, h2, h3, h4⟩ := ih (v / 10) (by omega)
      refine ⟨?_, ?_, by simp, ?_⟩
      · intro c hc
        rcases List.mem_append.1 hc with hc | hc
        · exact h1 c hc
        · obtain rfl : c = UInt8.ofNat (48 + v % 10) := by simpa using hc
          unfold isDig; simp; omega
      · rw [dval_snoc, h2]; simp; omega
      · intro e
        rw [head_left h3] at e
        have := h4 e
        omega
theorem dec_dig {v : Nat} {c : UInt8} (h : c ∈ Lib.decDigits v) : isDig c := (dec_props v).1 c h
theorem dec_val (v : Nat) : dval (Lib.decDigits v) = v := (dec_props v).2.1
theorem dec_ne (v : Nat) : Lib.decDigits v ≠ [] := (dec_props v).2.2.1
theorem dec_head {v : Nat} (h : (Lib.decDigits v).head? = some 48) : v = 0 := (dec_props v).2.2.2 h
theorem dec_zero : Lib.decDigits 0 = [48] := by rw [Lib.decDigits]; rfl
theorem dec_dot (v : Nat) : (46 : UInt8) ∉ Lib.decDigits v := fun h => by have := dec_dig h; revert this; unfold isDig; decide
theorem dec_len (k v : Nat) (h : v < 10 ^ k) (hk : 1 ≤ k) : (Lib.decDigits v).length ≤ k := by
  induction k generalizing v with
  | zero => omega
  | succ k ih =>
    rw [Lib.decDigits]
    split
    · simp
    · rename_i hv
      have hk1 : 1 ≤ k := by
        rcases Nat.eq_zero_or_pos k with rfl | h0
        · simp at h; omega
        · exact h0
      have := ih (v / 10) (by rw [Nat.pow_succ] at h; omega) hk1
      simp; omega
/-- Digits without a leading zero are the number's. -/
theorem dec_of (l : List UInt8) (h0 : l ≠ []) (h1 : ∀ c ∈ l, isDig c) (h2 : l.head? = some 48 → l.length = 1) : l = Lib.decDigits (dval l) := by
  induction hn : l.length generalizing l with
  | zero => exact absurd (List.eq_nil_of_length_eq_zero hn) h0
  | succ n ih =>
    obtain ⟨r, c, rfl⟩ : ∃ r c, l = r ++ [c] := ⟨l.dropLast, l.getLast h0, (List.dropLast_concat_getLast _).symm⟩
    have hc := h1 c (by simp)
    unfold isDig at hc
    by_cases hr : r = []
    · subst hr
      have e : dval ([] ++ [c]) = c.toNat - 48 := by simp [dval]
      rw [e, Lib.decDigits_one (by omega)]
      have : (48 + (c.toNat - 48)) = c.toNat := by omega
      rw [this]; simp
    · have hh : (r ++ [c]).head? = r.head? := head_left hr
      have hl : 1 ≤ r.length := by
        cases r with
        | nil => exact absurd rfl hr
        | cons _ _ => simp
      have hne : r.head? ≠ some 48 := fun e => by
        have := h2 (by rw [hh]; exact e)
        simp at this; exact hr this
      have hr2 := ih r hr (fun x hx => h1 x (by simp [hx])) (fun e => absurd e hne) (by simpa using hn)
      have hpos : dval r ≠ 0 := fun e => by
        rw [e, dec_zero] at hr2
        exact hne (by rw [hr2]; rfl)
      rw [dval_snoc]
      conv => rhs; rw [Lib.decDigits]
      rw [dif_neg (by omega)]
      have e1 : (10 * dval r + (c.toNat - 48)) / 10 = dval r := by omega
      have e2 : 48 + (10 * dval r + (c.toNat - 48)) % 10 = c.toNat := by omega
      rw [e1, e2, ← hr2]; simp
theorem dec_inj {x y : Nat} (h : Lib.decDigits x = Lib.decDigits y) : x = y := by rw [← dec_val x, h, dec_val]

/-- Texts before a point. -/
theorem dot_cut : ∀ (u v r s : List UInt8), (46 : UInt8) ∉ u → (46 : UInt8) ∉ v → u ++ 46 :: r = v ++ 46 :: s → u = v ∧ r = s
  | [], [], r, s, _, _, e => by simpa using e
  | [], y :: v, r, s, _, hv, e => by simp at e hv; exact absurd e.1 hv.1
  | x :: u, [], r, s, hu, _, e => by simp at e hu; exact absurd e.1.symm hu.1
  | x :: u, y :: v, r, s, hu, hv, e => by
    simp at e hu hv
    obtain ⟨h1, h2⟩ := dot_cut u v r s hu.2 hv.2 e.2
    exact ⟨by rw [e.1, h1], h2⟩
def fdot (v : Nat) : List UInt8 := Lib.decDigits v ++ [46]
theorem fdot_ne (v : Nat) : fdot v ≠ [] := by simp [fdot]
theorem fdot_code : Code fdot := by
  intro x y r s e
  simp only [fdot, List.append_assoc, List.singleton_append] at e
  obtain ⟨h1, h2⟩ := dot_cut _ _ _ _ (dec_dot x) (dec_dot y) e
  exact ⟨dec_inj h1, h2⟩
def txt : List Nat → List UInt8
  | [] => []
  | [v] => Lib.decDigits v
  | v :: w :: r => Lib.decDigits v ++ 46 :: txt (w :: r)
theorem txt_dot : ∀ (a : List Nat), a ≠ [] → txt a ++ [46] = cat fdot a
  | [], h => absurd rfl h
  | [v], _ => by simp [txt, cat, fdot]
  | v :: w :: r, _ => by
    have := txt_dot (w :: r) (by simp)
    rw [txt, cat, ← this]
    simp [fdot]
theorem join_txt : ∀ a : List Nat, Lib.join (a.map Lib.decDigits) [46] = txt a
  | [] => rfl
  | [v] => by simp [Lib.join_one, txt]
  | v :: w :: r => by
    have h := join_txt (w :: r)
    simp only [Lib.join, List.map_cons] at h ⊢
    rw [List.intercalate_cons_cons]
    rw [h]
    simp [txt]

/-- The numbers of an object identifier. -/
def Good (a : List Nat) : Prop := 2 ≤ a.length ∧ a.length ≤ 12 ∧ (∀ v ∈ a, v ≤ 2147483647) ∧ a.getD 0 0 ≤ 2 ∧ (a.getD 0 0 < 2 → a.getD 1 0 ≤ 39)
/-- The text l is the object identifier with the numbers a. -/
def Oid (l : List UInt8) (a : List Nat) : Prop := Good a ∧ l ++ [46] = cat fdot a
theorem Good.ne {a : List Nat} (h : Good a) : a ≠ [] := fun e => by rw [e] at h; exact absurd h.1 (by decide)
theorem oid_one {l : List UInt8} {a b : List Nat} (h : Oid l a) (k : Oid l b) : a = b := code_inj fdot_code fdot_ne (h.2.symm.trans k.2)
theorem oid_txt {l : List UInt8} {a : List Nat} (h : Oid l a) : l = txt a := by
  have := h.2
  rw [← txt_dot a h.1.ne] at this
  exact List.append_cancel_right this
theorem oid_of {a : List Nat} (h : Good a) : Oid (txt a) a := ⟨h, txt_dot a h.ne⟩
/-! ### The pieces between the points -/
def dotted (Q : List (List UInt8)) : List UInt8 := Q.flatMap (· ++ [46])
theorem at_split (l : List UInt8) (i : Nat) (c : UInt8) (h : l[i]? = some c) : l = l.take i ++ c :: l.drop (i + 1) := by
  obtain ⟨hi, rfl⟩ := List.getElem?_eq_some_iff.1 h
  rw [← List.drop_eq_getElem_cons hi, List.take_append_drop]
theorem not_mem_of {l : List UInt8} {c : UInt8} (h : ∀ k : Nat, l[k]? ≠ some c) : c ∉ l := fun hm => by
  obtain ⟨k, hk, e⟩ := List.mem_iff_getElem.1 hm
  exact h k (List.getElem?_eq_some_iff.2 ⟨hk, e⟩)
theorem split_spec : ∀ (k : Nat) (l : List UInt8), dotted (Lib.splitK [46] 0 k l) = l ++ [46] ∧
    ∃ Q0 q, Lib.splitK [46] 0 k l = Q0 ++ [q] ∧ (∀ p ∈ Q0, (46 : UInt8) ∉ p) ∧ ((46 : UInt8) ∈ q → Q0.length = k)
  | 0, l => ⟨by simp [Lib.splitK, dotted], [], l, rfl, by simp, fun _ => rfl⟩
  | k + 1, l => by
    unfold Lib.splitK
    split
    · rename_i h
      have h2 : Lib.indexByte l 46 = -1 := by rw [← Lib.index_one]; exact beq_iff_eq.1 h
      refine ⟨by simp [dotted], [], l, rfl, by simp, fun hm => absurd hm (not_mem_of (Lib.indexByte_none h2))⟩
    · rename_i h
      have h2 : Lib.index l [46] ≠ -1 := fun e => h (beq_iff_eq.2 e)
      have h3 := Lib.index_ge l [46]
      obtain ⟨i, hi⟩ : ∃ i : Nat, Lib.index l [46] = i := ⟨(Lib.index l [46]).toNat, by omega⟩
      rw [hi]
      rw [Lib.index_one] at hi
      obtain ⟨h4, h5⟩ := Lib.indexByte_some hi
      obtain ⟨d1, Q0, q, d2, d3, d4⟩ := split_spec k (l.drop (i + 1))
      have e1 : ((i : Int)).toNat + 0 = i := by omega
      have e2 : ((i : Int)).toNat + ([46] : List UInt8).length = i + 1 := by simp
      rw [e1, e2]
      refine ⟨?_, l.take i :: Q0, q, ?_, ?_, ?_⟩
      · rw [dotted, List.flatMap_cons]
        rw [dotted] at d1
        rw [d1]
        conv => rhs; rw [at_split l i 46 h4]
        simp
      · rw [d2]; rfl
      · intro p hp
        rcases List.mem_cons.1 hp with rfl | hp
        · refine not_mem_of (fun j e => ?_)
          by_cases hj : j < i
          · rw [List.getElem?_take_of_lt hj] at e; exact h5 j hj e
          · rw [List.getElem?_eq_none (by simp; omega)] at e; cases e
        · exact d3 p hp
      · intro hm; simp [d4 hm]
theorem pieces_dec : ∀ (Q : List (List UInt8)) (a : List Nat), (∀ p ∈ Q, (46 : UInt8) ∉ p) → dotted Q = cat fdot a → Q = a.map Lib.decDigits
  | [], [], _, _ => rfl
  | [], v :: a, _, e => by
    have e2 := e.symm
    simp [dotted, cat, fdot] at e2
  | p :: Q, [], _, e => by simp [dotted, cat] at e
  | p :: Q, v :: a, h, e => by
    simp only [dotted, List.flatMap_cons, cat, fdot, List.append_assoc, List.singleton_append] at e
    obtain ⟨h1, h2⟩ := dot_cut _ _ _ _ (h p (by simp)) (dec_dot v) e
    rw [List.map_cons, ← h1, ← pieces_dec Q a (fun x hx => h x (by simp [hx])) h2]
theorem dec_pieces (a : List Nat) : dotted (a.map Lib.decDigits) = cat fdot a := by
  induction a with
  | nil => rfl
  | cons v a ih =>
    rw [List.map_cons, dotted, List.flatMap_cons, cat, ← ih]; rfl
/-- The first pieces of the text of an object identifier are numbers. -/
theorem pieces_cut : ∀ (Q : List (List UInt8)) (r : List UInt8) (a : List Nat), (∀ p ∈ Q, (46 : UInt8) ∉ p) → dotted Q ++ r = cat fdot a → ∃ A M, a = A ++ M ∧ Q = A.map Lib.decDigits ∧ r = cat fdot M
  | [], r, a, _, e => ⟨[], a, rfl, rfl, by simpa [dotted] using e⟩
  | p :: Q, r, [], _, e => by simp [dotted, cat] at e
  | p :: Q, r, v :: a, h, e => by
    simp only [dotted, List.flatMap_cons, cat, fdot, List.append_assoc, List.singleton_append] at e
    obtain ⟨h1, h2⟩ := dot_cut _ _ _ _ (h p (by simp)) (dec_dot v) e
    obtain ⟨A, M, rfl, h3, h4⟩ := pieces_cut Q r a (fun x hx => h x (by simp [hx])) h2
    exact ⟨v :: A, M, rfl, by rw [List.map_cons, ← h1, ← h3], h4⟩
theorem split_len : ∀ (k : Nat) (l : List UInt8), (Lib.splitK [46] 0 k l).length ≤ k + 1
  | 0, l => by simp [Lib.splitK]
  | k + 1, l => by
    unfold Lib.splitK
    split
    · simp
    · have := split_len k (l.drop ((Lib.index l [46]).toNat + ([46] : List UInt8).length))
      rw [List.length_cons]
      exact Nat.succ_le_succ this
theorem dotted_len (Q : List (List UInt8)) : Q.length ≤ (dotted Q).length := by
  induction Q with
  | nil => simp [dotted]
  | cons p Q ih =>
    rw [dotted] at ih ⊢
    rw [List.flatMap_cons, List.length_append, List.length_cons, List.length_append, List.length_singleton]; omega
/-- What the pieces of SplitN, at most 13, say. -/
theorem split13 {l : List UInt8} {k : Nat} (hk : k = min 12 l.length) {Q : List (List UInt8)} (hQ : Q = Lib.splitK [46] 0 k l) :
    (∀ a, Oid l a → Q = a.map Lib.decDigits) ∧ (∀ a : List Nat, Q = a.map Lib.decDigits → l ++ [46] = cat fdot a) ∧ 1 ≤ Q.length ∧ Q.length ≤ 13 := by
  obtain ⟨h1, Q0, q, h2, h3, h4⟩ := split_spec k l
  have hle := split_len k l
  rw [← hQ] at h1 h2 hle
  have hl : Q.length = Q0.length + 1 := by rw [h2]; simp
  have key : (46 : UInt8) ∈ q → Q0.length = 12 := by
    intro hm
    have e0 : 0 < q.length := List.length_pos_of_mem hm
    have e1 := dotted_len Q0
    have e2 : (dotted Q).length = (dotted Q0).length + (q.length + 1) := by rw [h2, dotted, List.flatMap_append]; simp [dotted]
    rw [h1, List.length_append, List.length_singleton] at e2
    have := h4 hm
    omega
  refine ⟨?_, ?_, by omega, by omega⟩
  · intro a ha
    by_cases hm : (46 : UInt8) ∈ q
    · exfalso
      have e := ha.2
      rw [← h1, h2, dotted, List.flatMap_append] at e
      obtain ⟨A, M, rfl, e1, e2⟩ := pieces_cut Q0 _ a h3 e
      have hA : A.length = 12 := by rw [← key hm, e1, List.length_map]
      cases M with
      | nil => simp [cat] at e2
      | cons m M => have := ha.1.2.1; simp at this; omega
    · refine pieces_dec Q a ?_ (h1.trans ha.2)
      intro p hp
      rw [h2] at hp
      rcases List.mem_append.1 hp with hp | hp
      · exact h3 p hp
      · obtain rfl : p = q := by simpa using hp
        exact hm
  · intro a ha
    rw [← h1, ha, dec_pieces]

/-! ### A text that is scanned byte by byte -/
/-! ### Numbers in base 128 -/
def hd7 (n : Nat) : List UInt8 := if _h : n = 0 then [] else hd7 (n / 128) ++ [UInt8.ofNat (128 + n % 128)]
termination_by n
decreasing_by omega
def e128 (n : Nat) : List UInt8 := hd7 (n / 128) ++ [UInt8.ofNat (n % 128)]
def val7 (l : List UInt8) : Nat := l.foldl (fun v c => 128 * v + c.toNat % 128) 0
theorem val7_snoc (l : List UInt8) (c : UInt8) : val7 (l ++ [c]) = 128 * val7 l + c.toNat % 128 := by simp [val7]
theorem val7_le (l r : List UInt8) : val7 l ≤ val7 (l ++ r) := by
  induction r generalizing l with
  | nil => simp
  | cons c r ih =>
    have := ih (l ++ [c])
    rw [val7_snoc, List.append_assoc, List.singleton_append] at this
    omega
theorem hd7_zero : hd7 0 = [] := by rw [hd7]; simp
theorem hd7_pos {n : Nat} (h : n ≠ 0) : hd7 n = hd7 (n / 128) ++ [UInt8.ofNat (128 + n % 128)] := by rw [hd7, dif_neg h]
theorem hd7_props (n : Nat) : (∀ c ∈ hd7 n, 128 ≤ c.toNat) ∧ val7 (hd7 n) = n ∧ (hd7 n).head? ≠ some 128 := by
  induction n using Nat.strongRecOn with
  | _ n ih =>
    by_cases h : n = 0
    · subst h; rw [hd7_zero]; simp [val7]
    · obtain ⟨h1, h2, h3⟩ := ih (n / 128) (by omega)
      rw [hd7_pos h]
      refine ⟨?_, ?_, ?_⟩
      · intro c hc
        rcases List.mem_append.1 hc with hc | hc
        · exact h1 c hc
        · obtain rfl : c = UInt8.ofNat (128 + n % 128) := by simpa using hc
          simp; omega
      · rw [val7_snoc, h2]; simp; omega
      · by_cases h0 : n / 128 = 0
        · rw [h0, hd7_zero]
          intro e
          have e2 : UInt8.ofNat (128 + n % 128) = 128 := by simpa using e
          have := congrArg UInt8.toNat e2
          simp at this; omega
        · have hne : hd7 (n / 128) ≠ [] := fun e => by
            have := h2; rw [e] at this; exact h0 this.symm
          rw [head_left hne]; exact h3
theorem val_hd7 (n : Nat) : val7 (hd7 n) = n := (hd7_props n).2.1
theorem val_e128 (n : Nat) : val7 (e128 n) = n := by rw [e128, val7_snoc, val_hd7]; simp; omega
theorem e128_ne (n : Nat) : e128 n ≠ [] := by simp [e128]
theorem e128_head (n : Nat) : (e128 n).head? ≠ some 128 := by
  by_cases h : hd7 (n / 128) = []
  · rw [e128, h]
    intro e
    have e2 : UInt8.ofNat (n % 128) = 128 := by simpa using e
    have := congrArg UInt8.toNat e2
    simp at this; omega
  · rw [e128, head_left h]; exact (hd7_props _).2.2
theorem end_cut : ∀ (u v : List UInt8) (b c : UInt8) (r s : List UInt8), (∀ x ∈ u, 128 ≤ x.toNat) → (∀ x ∈ v, 128 ≤ x.toNat) → b.toNat < 128 → c.toNat < 128 → u ++ b :: r = v ++ c :: s → u = v ∧ b = c ∧ r = s
  | [], [], b, c, r, s, _, _, _, _, e => by simpa using e
  | [], y :: v, b, c, r, s, _, hv, hb, _, e => by
    simp at e
    have := hv y (by simp); rw [← e.1] at this; omega
  | x :: u, [], b, c, r, s, hu, _, _, hc, e => by
    simp at e
    have := hu x (by simp); rw [e.1] at this; omega
  | x :: u, y :: v, b, c, r, s, hu, hv, hb, hc, e => by
    simp at e
    obtain ⟨h1, h2, h3⟩ := end_cut u v b c r s (fun z hz => hu z (by simp [hz])) (fun z hz => hv z (by simp [hz])) hb hc e.2
    exact ⟨by rw [e.1, h1], h2, h3⟩
theorem e128_code : Code e128 := by
  intro x y r s e
  simp only [e128, List.append_assoc, List.singleton_append] at e
  obtain ⟨h1, h2, h3⟩ := end_cut _ _ _ _ _ _ (hd7_props _).1 (hd7_props _).1 (by simp; omega) (by simp; omega) e
  refine ⟨?_, h3⟩
  rw [← val_e128 x, ← val_e128 y, e128, e128, h1, h2]
/-- Bytes from 128 on, of which the first one is not 128. -/
theorem hd7_of (u : List UInt8) (h : ∀ c ∈ u, 128 ≤ c.toNat) (h0 : u.head? ≠ some 128) : u = hd7 (val7 u) := by
  induction hn : u.length generalizing u with
  | zero => obtain rfl := List.eq_nil_of_length_eq_zero hn; simp [val7, hd7_zero]
  | succ n ih =>
    obtain ⟨r, c, rfl⟩ : ∃ r c, u = r ++ [c] := ⟨u.dropLast, u.getLast (by intro e; simp [e] at hn), (List.dropLast_concat_getLast _).symm⟩
    have hc := h c (by simp)
    have hc2 := c.toNat_lt
    have hr : r = hd7 (val7 r) := ih r (fun x hx => h x (by simp [hx])) (by
      cases r with
      | nil => simp
      | cons x r => simpa using h0) (by simpa using hn)
    have hpos : val7 (r ++ [c]) ≠ 0 := by
      rw [val7_snoc]
      by_cases e : r = []
      · subst e
        have : c ≠ 128 := by simpa using h0
        have : c.toNat ≠ 128 := fun e => this (UInt8.toNat_inj.1 e)
        omega
      · have : val7 r ≠ 0 := fun e2 => by rw [e2, hd7_zero] at hr; exact e hr
        omega
    rw [hd7_pos hpos, val7_snoc]
    have e1 : (128 * val7 r + c.toNat % 128) / 128 = val7 r := by omega
    have e2 : 128 + (128 * val7 r + c.toNat % 128) % 128 = c.toNat := by omega
    rw [e1, e2, ← hr]; simp
theorem e128_of (u : List UInt8) (b : UInt8) (h : ∀ c ∈ u, 128 ≤ c.toNat) (h0 : (u ++ [b]).head? ≠ some 128) (hb : b.toNat < 128) : u ++ [b] = e128 (val7 (u ++ [b])) := by
  have hu : u = hd7 (val7 u) := hd7_of u h (by
    cases u with
    | nil => simp
    | cons x r => simpa using h0)
  rw [e128, val7_snoc]
  have e1 : (128 * val7 u + b.toNat % 128) / 128 = val7 u := by omega
  have e2 : (128 * val7 u + b.toNat % 128) % 128 = b.toNat := by omega
  rw [e1, e2, ← hu]; simp
theorem e128_len (n : Nat) (h : n < 34359738368) : (e128 n).length ≤ 5 := by
  have key : ∀ (k m : Nat), m < 128 ^ k → (hd7 m).length ≤ k := by
    intro k
    induction k with
    | zero => intro m hm; simp at hm; subst hm; rw [hd7_zero]; simp
    | succ k ih =>
      intro m hm
      by_cases h0 : m = 0
      · subst h0; rw [hd7_zero]; simp
      · rw [hd7_pos h0, List.length_append, List.length_singleton]
        have := ih (m / 128) (by rw [Nat.pow_succ] at hm; omega)
        omega
  have := key 4 (n / 128) (by omega)
  rw [e128, List.length_append, List.length_singleton]; omega

/-! ### The contents of an object identifier -/
def numsOf : List Nat → List Nat
  | a :: b :: r => (40 * a + b) :: r
  | l => l
def arcsN : List Nat → List Nat
  | m :: M => min (m / 40) 2 :: (m - 40 * min (m / 40) 2) :: M
  | [] => []
def enc (a : List Nat) : List UInt8 := cat e128 (numsOf a)
/-- The numbers of which the contents of an object identifier consist. -/
def GoodN (N : List Nat) : Prop := 1 ≤ N.length ∧ N.length ≤ 11 ∧ N.getD 0 0 ≤ 2147483727 ∧ ∀ v ∈ N.tail, v ≤ 2147483647
theorem good_nums {a : List Nat} (h : Good a) : GoodN (numsOf a) ∧ arcsN (numsOf a) = a := by
  obtain ⟨h1, h2, h3, h4, h5⟩ := h
  match a, h1, h2, h3, h4, h5 with
  | x :: y :: r, h1, h2, h3, h4, h5 =>
    have hy := h3 y (by simp)
    simp at h2 h4 h5
    refine ⟨⟨by simp [numsOf], by simp [numsOf]; omega, by simp [numsOf]; omega, ?_⟩, ?_⟩
    · intro v hv; exact h3 v (by simp [numsOf] at hv; simp [hv])
    · have e : min ((40 * x + y) / 40) 2 = x := by omega
      rw [numsOf, arcsN, e]
      have e2 : 40 * x + y - 40 * x = y := by omega
      rw [e2]
theorem goodN_arcs {N : List Nat} (h : GoodN N) : Good (arcsN N) ∧ numsOf (arcsN N) = N := by
  obtain ⟨h1, h2, h3, h4⟩ := h
  match N, h1, h2, h3, h4 with
  | m :: M, h1, h2, h3, h4 =>
    simp at h2 h3 h4
    refine ⟨⟨by simp [arcsN], by simp [arcsN]; omega, ?_, by simp [arcsN]; omega, ?_⟩, ?_⟩
    · intro v hv
      simp [arcsN] at hv
      rcases hv with rfl | rfl | hv
      · omega
      · omega
      · exact h4 v hv
    · simp [arcsN]; omega
    · rw [arcsN, numsOf]
      have e : 40 * min (m / 40) 2 + (m - 40 * min (m / 40) 2) = m := by omega
      rw [e]
/-- The contents c are those of the object identifier with the numbers a. -/
def Dec (c : List UInt8) (a : List Nat) : Prop := Good a ∧ c = enc a
theorem dec_one {c : List UInt8} {a b : List Nat} (h : Dec c a) (k : Dec c b) : a = b := by
  have e : numsOf a = numsOf b := code_inj e128_code e128_ne (h.2.symm.trans k.2)
  rw [← (good_nums h.1).2, e, (good_nums k.1).2]
theorem dec_iff {c : List UInt8} {N : List Nat} (h : GoodN N) (e : c = cat e128 N) : Dec c (arcsN N) := ⟨(goodN_arcs h).1, by rw [enc, (goodN_arcs h).2]; exact e⟩
/-- Contents that begin with the numbers A: what is left begins with the next number. -/
theorem dec_next {c r : List UInt8} {A a : List Nat} (hc : c = cat e128 A ++ r) (h : Dec c a) : ∃ M, numsOf a = A ++ M ∧ r = cat e128 M ∧ GoodN (A ++ M) := by
  have e := h.2
  rw [hc, enc] at e
  obtain ⟨M, e1, e2⟩ := code_cut e128_code e128_ne A _ _ e.symm
  exact ⟨M, e1, e2, by rw [← e1]; exact (good_nums h.1).1⟩

/-! ### The order, and what lies under what -/
end Go.Proofs.YtpmlkofceidnjaaDoor
