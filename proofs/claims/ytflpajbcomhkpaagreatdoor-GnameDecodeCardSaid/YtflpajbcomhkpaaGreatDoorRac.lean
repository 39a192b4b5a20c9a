/-
  Small laws for the texts on object identifiers: a string's bytes at numbers that have been reckoned, slices of numbers and of bytes that a call has made itself. Nothing is claimed of the program here.
  The contracts of strings.Split and strings.Cut at a point of one byte, off the shelf.
  The plain functions: letters and digits, the folded form of a string, its escaped form, hexadecimal digits. Nothing is claimed of the program here.
  The contracts of the functions that say of one character or byte whether it is in a set, and of the functions that make a letter small: isAlphanumeric, isUTF8, isIA5 and small of the program, Alnum of the reference.
  The contracts of text.Fold and text.Match: the folded form of a string, and whether two strings have the same; nothing that was there before the call has changed.
  Rows of bytes that can be read and written: what a conversion of a string lays, and stores into it. Nothing is claimed of the program here.
-/
import Derived.Test.YtflpajbcomhkpaaGreatDoorRaa
import Derived.Test.YtflpajbcomhkpaaGreatDoorRab
import Derived.Lib.SplitLaws
import Derived.Lib.CutLaws
import Derived.Laws.IdiomStrings
namespace Go.Proofs.YtflpajbcomhkpaaGreatDoor
open Go.RowKit

/-! ### Rows that a call has made itself -/
def OwnI (w : World) (B : Nat) (v : Value) (a : List Nat) : Prop := w.ownsRow B 3 1 v a.length (a.map icell)
/-- The numbers a lie from the beginning of block g on. -/
def ILie (w : World) (g : Nat) (a : List Nat) : Prop := g < w.heap.size ∧ ∀ j, j < a.length → w.cell? ⟨g, j, none⟩ = some (.int .i64 ((a.getD j 0 : Nat) : Int))
theorem ILie.cell {w : World} {g : Nat} {a : List Nat} (h : ILie w g a) (j : Nat) (hj : j < a.length) : w.cell? ⟨g, j, none⟩ = some (.int .i64 ((a.getD j 0 : Nat) : Int)) := h.2 j hj
theorem ILie.below {w w' : World} {g : Nat} {a : List Nat} (h : ILie w g a) (hb : Below w.heap.size w w') : ILie w' g a :=
  ⟨Nat.lt_of_lt_of_le h.1 hb.size, fun j hj => by
    have e := h.2 j hj
    rw [← e]
    exact hb.cell h.1⟩
theorem ILie.alloc {w : World} {g : Nat} {a : List Nat} (h : ILie w g a) (o : Obj) : ILie (w.alloc o) g a := h.below (belowNew w o)
theorem ILie.drawn {w : World} {g : Nat} {a : List Nat} (h : ILie w g a) (n : Nat) : ILie (w.drewN n) g a := h
theorem OwnI.open {w : World} {B : Nat} {v : Value} {a : List Nat} (h : OwnI w B v a) (ha : a ≠ []) : ∃ g cap, v = .slice (some ⟨g, 0, none⟩) a.length cap ∧ B ≤ g ∧ ILie w g a ∧ a.length ≤ cap := by
  rcases h.2 with ⟨rfl, h0⟩ | ⟨g, cap, cur, rfl, hB, hg, hn, _, hcs, htk⟩
  · exact absurd (List.eq_nil_of_length_eq_zero h0) ha
  · refine ⟨g, cap, rfl, hB, ⟨(Array.getElem?_eq_some_iff.1 hg).1, fun j hj => ?_⟩, hn⟩
    rw [cell_of_row w g j _ _ _ hg]
    have : (cur.toList.take (a.length * 1))[j]? = some (icell (a.getD j 0)) := by rw [htk]; simp [hj]
    rw [List.getElem?_take_of_lt (by omega)] at this
    simpa [icell] using this
theorem own_round {w wr w2 : World} {v v' : Value} {D : List Nat} {y : Nat} {X : Obj} (hown : OwnI wr w.heap.size v D) (hb : Below w.heap.size w wr)
    (hown2 : w2.ownsRow w.heap.size 3 1 v' (D.length + 1) (D.map icell ++ [icell y])) (hgr2 : (wr.alloc X).grownBy w2 v.ownBlock) : OwnI w2 w.heap.size v' (D ++ [y]) ∧ Below w.heap.size w w2 := by
  refine ⟨?_, ?_⟩
  · unfold OwnI
    rw [List.length_append, List.map_append]; exact hown2
  · exact (Below.alloc hb hb.size X).grown hgr2 (by simp; have := hb.size; omega) (fun k e => (World.ownsRow.lt hown k e).1)
theorem intInfo : (Tryz.prog.info? 3).map (fun i => (i.zero, i.size, i.bytes)) = some (some (.int .i64 0), 1, 8) := by kernel_rfl
theorem strInfo : (Tryz.prog.info? 9).map (fun i => (i.zero, i.size, i.bytes)) = some (some (.string ByteArray.empty), 1, 16) := by kernel_rfl
theorem int_made {w : World} {B : Nat} {v : Value} (m : Nat) (h : w.ownsRow B 3 1 v m (madeCells (Value.int .i64 0).cells (m * 1)).toList) : OwnI w B v (List.replicate m 0) := by
  unfold OwnI
  rw [List.length_replicate]
  have e : (madeCells (Value.int .i64 0).cells (m * 1)).toList = (List.replicate m 0).map icell := by
    simp only [madeCells, Value.cells, Nat.mul_one]
    apply List.ext_getElem
    · simp
    · intro i h1 h2
      simp [Nat.mod_one, icell]
  rw [← e]; exact h
theorem int_cell {w : World} {B g n cap : Nat} {l : List Nat} (h : OwnI w B (.slice (some ⟨g, 0, none⟩) n cap) l) (hl : l.length = n) (j : Nat) (hj : j < n) : w.cell? ⟨g, j, none⟩ = some (.int .i64 ((l.getD j 0 : Nat) : Int)) := by
  subst hl
  have := World.ownsRow.cellAt h j (by omega)
  rw [this]
  simp [hj, icell]
theorem int_free {w : World} {B g n cap : Nat} {l : List Nat} (h : OwnI w B (.slice (some ⟨g, 0, none⟩) n cap) l) (hl : l.length = n) (j : Nat) : w.frozen? ⟨g, j, none⟩ = false := by
  subst hl
  exact World.ownsRow.frozenAt h j
theorem int_set {w : World} {B g n cap : Nat} {l : List Nat} (h : OwnI w B (.slice (some ⟨g, 0, none⟩) n cap) l) (hl : l.length = n) (j : Nat) (b : Nat) :
    OwnI (w.setCell ⟨g, j, none⟩ (.int .i64 ((b : Nat) : Int))) B (.slice (some ⟨g, 0, none⟩) n cap) (l.set j b) := by
  subst hl
  unfold OwnI at h ⊢
  have := (World.ownsRow.stored h j (icell b)).1
  rw [List.length_set, List.map_set]
  exact this
theorem filled_set (A : List Nat) (n b : Nat) (h : A.length < n) : (A ++ List.replicate (n - A.length) 0).set A.length b = (A ++ [b]) ++ List.replicate (n - (A ++ [b]).length) 0 := by
  have e : n - A.length = (n - (A ++ [b]).length) + 1 := by simp; omega
  rw [e, List.replicate_succ, List.set_append_right _ _ (Nat.le_refl _)]
  simp
theorem filled_len (A : List Nat) (n : Nat) (h : A.length ≤ n) : (A ++ List.replicate (n - A.length) 0).length = n := by simp; omega
theorem OwnI.form {w : World} {B : Nat} {v : Value} {a : List Nat} (h : OwnI w B v a) : ∃ p cap, v = .slice p a.length cap := by
  rcases h.2 with ⟨rfl, h0⟩ | ⟨g, cap, cur, rfl, _⟩
  · exact ⟨none, 0, by rw [h0]⟩
  · exact ⟨_, cap, rfl⟩
/-- The cells of a new array of strings. -/
theorem row_pcs (W : World) (xs : List ByteArray) (N : Nat) (k : Nat) (hk : k < xs.length) : (W.alloc (.cells (Lib.cellsOf xs N) 9)).cell? ⟨W.heap.size, k, none⟩ = some (.string (xs.getD k ⟨#[]⟩)) := by
  rw [cell_of_row _ _ k _ _ _ (heap_alloc_new W _)]
  unfold Lib.cellsOf
  rw [List.getElem?_toArray, List.getElem?_append_left (by simpa using hk)]
  simp [hk]
end Go.Proofs.YtflpajbcomhkpaaGreatDoor
namespace Go.Proofs.YtflpajbcomhkpaaGreatDoor
open Go.RowKit

/-- The pieces of a text between the bytes c. -/
def pcsS (c : UInt8) (s : ByteArray) : List ByteArray := Lib.splitB ⟨#[c]⟩ 0 (Lib.countB s ⟨#[c]⟩) s
theorem pcsS_spl (c : UInt8) (s : ByteArray) : Spl c s.data.toList ((pcsS c s).map (·.data.toList)) := split_pieces c s
theorem index_byte (x : ByteArray) (c : UInt8) (w : World) :
    Calls Tryz.prog 187 #[.string x, .string ⟨#[c]⟩] w fun e w' => e = .returned (.int .i64 (Lib.indexByte x.data.toList c)) ∧ w' = w :=
  Any.stringslite_Index_one lays219 x c w
end Go.Proofs.YtflpajbcomhkpaaGreatDoor
namespace Go.Proofs.YtflpajbcomhkpaaGreatDoor
open Go.RowKit

/-! ### Letters and digits -/
def alnum (n : Nat) : Bool := decide (65 ≤ n ∧ n ≤ 90) || (decide (97 ≤ n ∧ n ≤ 122) || decide (48 ≤ n ∧ n ≤ 57))
theorem alnum_big {n : Nat} (h : 123 ≤ n) : alnum n = false := by
  simp [alnum]; omega

/-! ### Folding -/
def small (c : UInt8) : UInt8 := if 65 ≤ c.toNat ∧ c.toNat ≤ 90 then UInt8.ofNat (c.toNat + 32) else c
theorem small_low {c : UInt8} (h : ¬ (65 ≤ c.toNat ∧ c.toNat ≤ 90)) : small c = c := by unfold small; rw [if_neg h]
theorem small_big {c : UInt8} (h : 65 ≤ c.toNat ∧ c.toNat ≤ 90) : (small c).toNat = c.toNat + 32 := by
  unfold small
  rw [if_pos h]
  simp; omega
theorem small_space {c : UInt8} : small c = 32 ↔ c = 32 := by
  by_cases h : 65 ≤ c.toNat ∧ c.toNat ≤ 90
  · constructor
    · intro e
      have := small_big h
      rw [e] at this
      have e32 : (32 : UInt8).toNat = 32 := rfl
      omega
    · intro e
      rw [e] at h
      have e32 : (32 : UInt8).toNat = 32 := rfl
      omega
  · rw [small_low h]

def foldStep (st : List UInt8 × Bool) (c : UInt8) : List UInt8 × Bool := if c = 32 then (st.1, !st.1.isEmpty) else (st.1 ++ (if st.2 then [32] else []) ++ [small c], false)
def foldRun (l : List UInt8) : List UInt8 × Bool := l.foldl foldStep ([], false)
def foldL (l : List UInt8) : List UInt8 := (foldRun l).1
theorem foldRun_snoc (l : List UInt8) (c : UInt8) : foldRun (l ++ [c]) = foldStep (foldRun l) c := by simp [foldRun]
/-- What a state of folding always is. -/
structure FInv (st : List UInt8 × Bool) : Prop where
  gap : st.2 = true → st.1 ≠ []
  last : st.1.getLast? ≠ some 32
theorem FInv.step {st : List UInt8 × Bool} (h : FInv st) (c : UInt8) : FInv (foldStep st c) := by
  unfold foldStep
  by_cases hc : c = 32
  · rw [if_pos hc]
    refine ⟨fun e => ?_, h.last⟩
    intro e2
    rw [show st.1 = [] from e2] at e
    cases e
  · rw [if_neg hc]
    refine ⟨fun e => (by cases e), ?_⟩
    rw [List.getLast?_append]
    simp
    exact fun e => hc (small_space.1 e)
theorem snoc_ind {P : List UInt8 → Prop} (h0 : P []) (h1 : ∀ l c, P l → P (l ++ [c])) (l : List UInt8) : P l := by
  have : ∀ r : List UInt8, P r.reverse := by
    intro r
    induction r with
    | nil => exact h0
    | cons c r ih => rw [List.reverse_cons]; exact h1 _ _ ih
  have := this l.reverse
  rwa [List.reverse_reverse] at this
/-- The reference's bytes at that state. -/
def refOut (st : List UInt8 × Bool) : List UInt8 := st.1 ++ (if st.2 then [32] else [])
theorem fold_len (l : List UInt8) : (refOut (foldRun l)).length ≤ l.length := by
  induction l using snoc_ind with
  | h0 => simp [foldRun, refOut]
  | h1 l c ih =>
    rw [foldRun_snoc]
    unfold refOut foldStep at *
    rw [List.length_append] at ih
    by_cases hc : c = 32
    · rw [if_pos hc]
      simp only [List.length_append, List.length_singleton]
      split <;> simp <;> omega
    · rw [if_neg hc]
      simp only [List.length_append, List.length_singleton]
      simp
      omega
theorem foldL_len (l : List UInt8) : (foldL l).length ≤ l.length := by
  have := fold_len l
  unfold refOut at this
  rw [List.length_append] at this
  unfold foldL
  omega
/-! ### Hexadecimal digits -/
def hexDigit (n : Nat) : UInt8 := if n < 10 then UInt8.ofNat (48 + n) else UInt8.ofNat (87 + n)
def hexL (l : List UInt8) : List UInt8 := l.flatMap fun b => [hexDigit (b.toNat / 16), hexDigit (b.toNat % 16)]
def digV (c : Nat) : Option Nat := if 48 ≤ c ∧ c ≤ 57 then some (c - 48) else if 97 ≤ c ∧ c ≤ 102 then some (c - 87) else none
theorem digV_hex : ∀ v, v < 16 → digV (hexDigit v).toNat = some v := by decide
theorem hexDigit_inj {v w : Nat} (hv : v < 16) (hw : w < 16) (h : hexDigit v = hexDigit w) : v = w := by
  have h1 := digV_hex v hv
  rw [h, digV_hex w hw] at h1
  exact (Option.some.inj h1).symm
theorem hexL_cons (a : UInt8) (l : List UInt8) : hexL (a :: l) = hexDigit (a.toNat / 16) :: hexDigit (a.toNat % 16) :: hexL l := by simp [hexL]
theorem byte_of {a b : UInt8} (h1 : hexDigit (a.toNat / 16) = hexDigit (b.toNat / 16)) (h2 : hexDigit (a.toNat % 16) = hexDigit (b.toNat % 16)) : a = b := by
  have hx := a.toNat_lt
  have hy := b.toNat_lt
  have e1 := hexDigit_inj (by omega) (by omega) h1
  have e2 := hexDigit_inj (by omega) (by omega) h2
  exact UInt8.toNat_inj.1 (by omega)
theorem hexL_inj : ∀ {a b : List UInt8}, hexL a = hexL b → a = b
  | [], [], _ => rfl
  | [], y :: b, h => by rw [hexL_cons] at h; cases h
  | x :: a, [], h => by rw [hexL_cons] at h; cases h
  | x :: a, y :: b, h => by
    rw [hexL_cons, hexL_cons] at h
    rw [hexL_inj (List.cons.inj (List.cons.inj h).2).2, byte_of (List.cons.inj h).1 (List.cons.inj (List.cons.inj h).2).1]
/-! ### Escaping -/
def plainL : List UInt8 := [32, 39, 40, 41, 45, 46, 47, 58, 63, 64, 95]
def plainB (c : UInt8) : Bool := alnum c.toNat || plainL.contains c
theorem plain_92 : plainB 92 = false := by decide
def escB (c : UInt8) : List UInt8 := if plainB c = true then [c] else [92, hexDigit (c.toNat / 16), hexDigit (c.toNat % 16)]
def escL (l : List UInt8) : List UInt8 := l.flatMap escB
theorem escB_plain {c : UInt8} (h : plainB c = true) : escB c = [c] := by unfold escB; rw [if_pos h]
theorem escB_other {c : UInt8} (h : plainB c = false) : escB c = [92, hexDigit (c.toNat / 16), hexDigit (c.toNat % 16)] := by unfold escB; rw [if_neg (by rw [h]; decide)]
theorem escL_nil : escL [] = [] := rfl
theorem escL_cons (c : UInt8) (l : List UInt8) : escL (c :: l) = escB c ++ escL l := by simp [escL]
theorem escB_len1 (c : UInt8) : 1 ≤ (escB c).length := by unfold escB; split <;> simp
theorem escB_cut {x y : UInt8} {r t : List UInt8} (h : escB x ++ r = escB y ++ t) : x = y ∧ r = t := by
  cases hx : plainB x <;> cases hy : plainB y
  · rw [escB_other hx, escB_other hy] at h
    simp only [List.cons_append, List.nil_append, List.cons.injEq, true_and] at h
    exact ⟨byte_of h.1 h.2.1, h.2.2⟩
  · rw [escB_other hx, escB_plain hy] at h
    simp only [List.cons_append, List.nil_append, List.cons.injEq] at h
    rw [← h.1, plain_92] at hy; cases hy
  · rw [escB_plain hx, escB_other hy] at h
    simp only [List.cons_append, List.nil_append, List.cons.injEq] at h
    rw [h.1, plain_92] at hx; cases hx
  · rw [escB_plain hx, escB_plain hy] at h
    simp only [List.cons_append, List.nil_append, List.cons.injEq] at h
    exact h
theorem escL_cut : ∀ (D l r : List UInt8), escL l = escL D ++ r → ∃ l2, l = D ++ l2 ∧ escL l2 = r
  | [], l, r, h => ⟨l, rfl, h⟩
  | d :: D, [], r, h => by
    exfalso
    rw [escL_nil, escL_cons] at h
    have := congrArg List.length h
    have h1 := escB_len1 d
    simp at this
    omega
  | d :: D, x :: l, r, h => by
    rw [escL_cons, escL_cons, List.append_assoc] at h
    obtain ⟨rfl, h2⟩ := escB_cut h
    obtain ⟨l2, rfl, h3⟩ := escL_cut D l r h2
    exact ⟨l2, rfl, h3⟩
theorem escL_inj {a b : List UInt8} (h : escL a = escL b) : a = b := by
  obtain ⟨l2, rfl, h2⟩ := escL_cut b a [] (by rw [h, List.append_nil])
  cases l2 with
  | nil => simp
  | cons x l =>
    rw [escL_cons] at h2
    have := congrArg List.length h2
    have h1 := escB_len1 x
    rw [List.length_append, List.length_nil] at this
    omega
theorem drop_cons {s : List UInt8} {i : Nat} {c : UInt8} (h : s[i]? = some c) : s.drop i = c :: s.drop (i + 1) := by
  obtain ⟨hi, rfl⟩ := List.getElem?_eq_some_iff.1 h
  exact List.drop_eq_getElem_cons hi
/-- Where the reference stands: what is escaped as s begins with out, and goes on behind i. -/
def Way (s : List UInt8) (i : Nat) (out : List UInt8) : Prop := ∀ l, escL l = s → ∃ l2, l = out ++ l2 ∧ escL l2 = s.drop i
theorem Way.one {s out : List UInt8} {i : Nat} {c : UInt8} (h : Way s i out) (hc : s[i]? = some c) (h92 : c ≠ 92) : Way s (i + 1) (out ++ [c]) := by
  intro l e
  obtain ⟨l2, rfl, h2⟩ := h l e
  rw [drop_cons hc] at h2
  cases l2 with
  | nil => rw [escL_nil] at h2; cases h2
  | cons x t =>
    rw [escL_cons] at h2
    cases hx : plainB x with
    | true =>
      rw [escB_plain hx] at h2
      simp only [List.cons_append, List.nil_append, List.cons.injEq] at h2
      exact ⟨t, by rw [h2.1]; simp, h2.2⟩
    | false =>
      rw [escB_other hx] at h2
      simp only [List.cons_append, List.nil_append, List.cons.injEq] at h2
      exact absurd h2.1.symm h92
theorem Way.two {s out : List UInt8} {i : Nat} (h : Way s i out) (hc : s[i]? = some 92) {l : List UInt8} (e : escL l = s) :
    ∃ x t, l = out ++ x :: t ∧ i + 3 ≤ s.length ∧ hexL [x] = (s.drop (i + 1)).take 2 ∧ escL t = s.drop (i + 3) := by
  obtain ⟨l2, rfl, h2⟩ := h l e
  rw [drop_cons hc] at h2
  cases l2 with
  | nil => rw [escL_nil] at h2; cases h2
  | cons x t =>
    rw [escL_cons] at h2
    cases hx : plainB x with
    | true =>
      rw [escB_plain hx] at h2
      simp only [List.cons_append, List.nil_append, List.cons.injEq] at h2
      rw [h2.1, plain_92] at hx; cases hx
    | false =>
      rw [escB_other hx] at h2
      simp only [List.cons_append, List.nil_append, List.cons.injEq, true_and] at h2
      have hl := congrArg List.length h2
      simp only [List.length_cons, List.length_drop] at hl
      refine ⟨x, t, rfl, by omega, by rw [← h2]; rfl, ?_⟩
      have e3 : s.drop (i + 3) = (s.drop (i + 1)).drop 2 := by rw [List.drop_drop]
      rw [e3, ← h2]; rfl
theorem Way.next {s out : List UInt8} {i : Nat} {u : ByteArray} (h : Way s i out) (hc : s[i]? = some 92) (hu : hexL u.data.toList = (s.drop (i + 1)).take 2) : Way s (i + 3) (out ++ u.data.toList) := by
  intro l e
  obtain ⟨x, t, rfl, _, h2, h3⟩ := h.two hc e
  have : u.data.toList = [x] := hexL_inj (hu.trans h2.symm)
  exact ⟨t, by rw [this]; simp, h3⟩
theorem Way.no {s out : List UInt8} {i : Nat} (h : Way s i out) (hc : s[i]? = some 92) (hu : ∀ l, hexL l ≠ (s.drop (i + 1)).take 2) : ∀ l, escL l ≠ s := by
  intro l e
  obtain ⟨x, t, _, _, h2, _⟩ := h.two hc e
  exact hu _ h2
theorem Way.last {s out : List UInt8} {i : Nat} (h : Way s i out) (hi : s.length ≤ i) (hne : escL out ≠ s) : ∀ l, escL l ≠ s := by
  intro l e
  obtain ⟨l2, rfl, h2⟩ := h l e
  rw [List.drop_eq_nil_of_le hi] at h2
  obtain rfl : l2 = [] := escL_inj (h2.trans escL_nil.symm)
  rw [List.append_nil] at e
  exact hne e
end Go.Proofs.YtflpajbcomhkpaaGreatDoor
namespace Go.Proofs.YtflpajbcomhkpaaGreatDoor
open Go.RowKit

set_option maxHeartbeats 1000000 in
theorem isal_any (n : Nat) (w : World) :
    Calls Tryz.prog 173 #[.int .i32 (n : Int)] w fun e w' => e = .returned (.bool (alnum n)) ∧ w' = w := by
  rcases (by omega : (n < 48) ∨ (48 ≤ n ∧ n ≤ 57) ∨ (58 ≤ n ∧ n ≤ 64) ∨ (65 ≤ n ∧ n ≤ 90) ∨ (91 ≤ n ∧ n ≤ 96) ∨ (97 ≤ n ∧ n ≤ 122) ∨ (123 ≤ n)) with h | h | h | h | h | h | h
  · have hr : alnum n = false := by simp [alnum]; omega
    have d0 : decide ((65 : Int) ≤ (n : Int)) = false := by simp; omega
    have d1 : decide ((n : Int) ≤ 90) = true := by simp; omega
    have d2 : decide ((97 : Int) ≤ (n : Int)) = false := by simp; omega
    have d3 : decide ((n : Int) ≤ 122) = true := by simp; omega
    have d4 : decide ((48 : Int) ≤ (n : Int)) = false := by simp; omega
    have d5 : decide ((n : Int) ≤ 57) = true := by simp; omega
    have HR := Lib.hid hr
    clear hr h
    go_enter Tryz.func173, Tryz.ntmps173
    go_wp2_with fail
    go_ret
    exact ⟨by rw [HR.out]; rfl, rfl⟩
  · have hr : alnum n = true := by simp [alnum]; omega
    have d0 : decide ((65 : Int) ≤ (n : Int)) = false := by simp; omega
    have d1 : decide ((n : Int) ≤ 90) = true := by simp; omega
    have d2 : decide ((97 : Int) ≤ (n : Int)) = false := by simp; omega
    have d3 : decide ((n : Int) ≤ 122) = true := by simp; omega
    have d4 : decide ((48 : Int) ≤ (n : Int)) = true := by simp; omega
    have d5 : decide ((n : Int) ≤ 57) = true := by simp; omega
    have HR := Lib.hid hr
    clear hr h
    go_enter Tryz.func173, Tryz.ntmps173
    go_wp2_with fail
    go_ret
    exact ⟨by rw [HR.out]; rfl, rfl⟩
  · have hr : alnum n = false := by simp [alnum]; omega
    have d0 : decide ((65 : Int) ≤ (n : Int)) = false := by simp; omega
    have d1 : decide ((n : Int) ≤ 90) = true := by simp; omega
    have d2 : decide ((97 : Int) ≤ (n : Int)) = false := by simp; omega
    have d3 : decide ((n : Int) ≤ 122) = true := by simp; omega
    have d4 : decide ((48 : Int) ≤ (n : Int)) = true := by simp; omega
    have d5 : decide ((n : Int) ≤ 57) = false := by simp; omega
    have HR := Lib.hid hr
    clear hr h
    go_enter Tryz.func173, Tryz.ntmps173
    go_wp2_with fail
    go_ret
    exact ⟨by rw [HR.out]; rfl, rfl⟩
  · have hr : alnum n = true := by simp [alnum]; omega
    have d0 : decide ((65 : Int) ≤ (n : Int)) = true := by simp; omega
    have d1 : decide ((n : Int) ≤ 90) = true := by simp; omega
    have d2 : decide ((97 : Int) ≤ (n : Int)) = false := by simp; omega
    have d3 : decide ((n : Int) ≤ 122) = true := by simp; omega
    have d4 : decide ((48 : Int) ≤ (n : Int)) = true := by simp; omega
    have d5 : decide ((n : Int) ≤ 57) = false := by simp; omega
    have HR := Lib.hid hr
    clear hr h
    go_enter Tryz.func173, Tryz.ntmps173
    go_wp2_with fail
    go_ret
    exact ⟨by rw [HR.out]; rfl, rfl⟩
  · have hr : alnum n = false := by simp [alnum]; omega
    have d0 : decide ((65 : Int) ≤ (n : Int)) = true := by simp; omega
    have d1 : decide ((n : Int) ≤ 90) = false := by simp; omega
    have d2 : decide ((97 : Int) ≤ (n : Int)) = false := by simp; omega
    have d3 : decide ((n : Int) ≤ 122) = true := by simp; omega
    have d4 : decide ((48 : Int) ≤ (n : Int)) = true := by simp; omega
    have d5 : decide ((n : Int) ≤ 57) = false := by simp; omega
    have HR := Lib.hid hr
    clear hr h
    go_enter Tryz.func173, Tryz.ntmps173
    go_wp2_with fail
    go_ret
    exact ⟨by rw [HR.out]; rfl, rfl⟩
  · have hr : alnum n = true := by simp [alnum]; omega
    have d0 : decide ((65 : Int) ≤ (n : Int)) = true := by simp; omega
    have d1 : decide ((n : Int) ≤ 90) = false := by simp; omega
    have d2 : decide ((97 : Int) ≤ (n : Int)) = true := by simp; omega
    have d3 : decide ((n : Int) ≤ 122) = true := by simp; omega
    have d4 : decide ((48 : Int) ≤ (n : Int)) = true := by simp; omega
    have d5 : decide ((n : Int) ≤ 57) = false := by simp; omega
    have HR := Lib.hid hr
    clear hr h
    go_enter Tryz.func173, Tryz.ntmps173
    go_wp2_with fail
    go_ret
    exact ⟨by rw [HR.out]; rfl, rfl⟩
  · have hr : alnum n = false := by simp [alnum]; omega
    have d0 : decide ((65 : Int) ≤ (n : Int)) = true := by simp; omega
    have d1 : decide ((n : Int) ≤ 90) = false := by simp; omega
    have d2 : decide ((97 : Int) ≤ (n : Int)) = true := by simp; omega
    have d3 : decide ((n : Int) ≤ 122) = false := by simp; omega
    have d4 : decide ((48 : Int) ≤ (n : Int)) = true := by simp; omega
    have d5 : decide ((n : Int) ≤ 57) = false := by simp; omega
    have HR := Lib.hid hr
    clear hr h
    go_enter Tryz.func173, Tryz.ntmps173
    go_wp2_with fail
    go_ret
    exact ⟨by rw [HR.out]; rfl, rfl⟩
set_option maxHeartbeats 1000000 in
theorem ralnum_any (n : Nat) (w : World) :
    Calls Tryz.prog 134 #[.int .u8 (n : Int)] w fun e w' => e = .returned (.bool (alnum n)) ∧ w' = w := by
  rcases (by omega : (n < 48) ∨ (48 ≤ n ∧ n ≤ 57) ∨ (58 ≤ n ∧ n ≤ 64) ∨ (65 ≤ n ∧ n ≤ 90) ∨ (91 ≤ n ∧ n ≤ 96) ∨ (97 ≤ n ∧ n ≤ 122) ∨ (123 ≤ n)) with h | h | h | h | h | h | h
  · have hr : alnum n = false := by simp [alnum]; omega
    have d0 : decide ((65 : Int) ≤ (n : Int)) = false := by simp; omega
    have d1 : decide ((n : Int) ≤ 90) = true := by simp; omega
    have d2 : decide ((97 : Int) ≤ (n : Int)) = false := by simp; omega
    have d3 : decide ((n : Int) ≤ 122) = true := by simp; omega
    have d4 : decide ((48 : Int) ≤ (n : Int)) = false := by simp; omega
    have d5 : decide ((n : Int) ≤ 57) = true := by simp; omega
    have HR := Lib.hid hr
    clear hr h
    go_enter Tryz.func134, Tryz.ntmps134
    go_wp2_with fail
    go_ret
    exact ⟨by rw [HR.out]; rfl, rfl⟩
  · have hr : alnum n = true := by simp [alnum]; omega
    have d0 : decide ((65 : Int) ≤ (n : Int)) = false := by simp; omega
    have d1 : decide ((n : Int) ≤ 90) = true := by simp; omega
    have d2 : decide ((97 : Int) ≤ (n : Int)) = false := by simp; omega
    have d3 : decide ((n : Int) ≤ 122) = true := by simp; omega
    have d4 : decide ((48 : Int) ≤ (n : Int)) = true := by simp; omega
    have d5 : decide ((n : Int) ≤ 57) = true := by simp; omega
    have HR := Lib.hid hr
    clear hr h
    go_enter Tryz.func134, Tryz.ntmps134
    go_wp2_with fail
    go_ret
    exact ⟨by rw [HR.out]; rfl, rfl⟩
  · have hr : alnum n = false := by simp [alnum]; omega
    have d0 : decide ((65 : Int) ≤ (n : Int)) = false := by simp; omega
    have d1 : decide ((n : Int) ≤ 90) = true := by simp; omega
    have d2 : decide ((97 : Int) ≤ (n : Int)) = false := by simp; omega
    have d3 : decide ((n : Int) ≤ 122) = true := by simp; omega
    have d4 : decide ((48 : Int) ≤ (n : Int)) = true := by simp; omega
    have d5 : decide ((n : Int) ≤ 57) = false := by simp; omega
    have HR := Lib.hid hr
    clear hr h
    go_enter Tryz.func134, Tryz.ntmps134
    go_wp2_with fail
    go_ret
    exact ⟨by rw [HR.out]; rfl, rfl⟩
  · have hr : alnum n = true := by simp [alnum]; omega
    have d0 : decide ((65 : Int) ≤ (n : Int)) = true := by simp; omega
    have d1 : decide ((n : Int) ≤ 90) = true := by simp; omega
    have d2 : decide ((97 : Int) ≤ (n : Int)) = false := by simp; omega
    have d3 : decide ((n : Int) ≤ 122) = true := by simp; omega
    have d4 : decide ((48 : Int) ≤ (n : Int)) = true := by simp; omega
    have d5 : decide ((n : Int) ≤ 57) = false := by simp; omega
    have HR := Lib.hid hr
    clear hr h
    go_enter Tryz.func134, Tryz.ntmps134
    go_wp2_with fail
    go_ret
    exact ⟨by rw [HR.out]; rfl, rfl⟩
  · have hr : alnum n = false := by simp [alnum]; omega
    have d0 : decide ((65 : Int) ≤ (n : Int)) = true := by simp; omega
    have d1 : decide ((n : Int) ≤ 90) = false := by simp; omega
    have d2 : decide ((97 : Int) ≤ (n : Int)) = false := by simp; omega
    have d3 : decide ((n : Int) ≤ 122) = true := by simp; omega
    have d4 : decide ((48 : Int) ≤ (n : Int)) = true := by simp; omega
    have d5 : decide ((n : Int) ≤ 57) = false := by simp; omega
    have HR := Lib.hid hr
    clear hr h
    go_enter Tryz.func134, Tryz.ntmps134
    go_wp2_with fail
    go_ret
    exact ⟨by rw [HR.out]; rfl, rfl⟩
  · have hr : alnum n = true := by simp [alnum]; omega
    have d0 : decide ((65 : Int) ≤ (n : Int)) = true := by simp; omega
    have d1 : decide ((n : Int) ≤ 90) = false := by simp; omega
    have d2 : decide ((97 : Int) ≤ (n : Int)) = true := by simp; omega
    have d3 : decide ((n : Int) ≤ 122) = true := by simp; omega
    have d4 : decide ((48 : Int) ≤ (n : Int)) = true := by simp; omega
    have d5 : decide ((n : Int) ≤ 57) = false := by simp; omega
    have HR := Lib.hid hr
    clear hr h
    go_enter Tryz.func134, Tryz.ntmps134
    go_wp2_with fail
    go_ret
    exact ⟨by rw [HR.out]; rfl, rfl⟩
  · have hr : alnum n = false := by simp [alnum]; omega
    have d0 : decide ((65 : Int) ≤ (n : Int)) = true := by simp; omega
    have d1 : decide ((n : Int) ≤ 90) = false := by simp; omega
    have d2 : decide ((97 : Int) ≤ (n : Int)) = true := by simp; omega
    have d3 : decide ((n : Int) ≤ 122) = false := by simp; omega
    have d4 : decide ((48 : Int) ≤ (n : Int)) = true := by simp; omega
    have d5 : decide ((n : Int) ≤ 57) = false := by simp; omega
    have HR := Lib.hid hr
    clear hr h
    go_enter Tryz.func134, Tryz.ntmps134
    go_wp2_with fail
    go_ret
    exact ⟨by rw [HR.out]; rfl, rfl⟩

def isU (n : Nat) : Bool := decide (31 < n) && !(n == 127)
def isI (n : Nat) : Bool := decide (31 < n) && decide (n < 127)
set_option maxHeartbeats 1000000 in
theorem isu_any (n : Nat) (w : World) :
    Calls Tryz.prog 233 #[.int .i32 (n : Int)] w fun e w' => e = .returned (.bool (isU n)) ∧ w' = w := by
  obtain ⟨b1, h1⟩ : ∃ b, decide ((31 : Int) < (n : Int)) = b := ⟨_, rfl⟩
  obtain ⟨b2, h2⟩ : ∃ b, ((n : Int) == 127) = b := ⟨_, rfl⟩
  have h3 : ((n : Int) != 127) = !b2 := by rw [← h2]; rfl
  have HR := Lib.hid (show isU n = (b1 && !b2) by
    rw [← h1, ← h2, Bool.eq_iff_iff]
    simp [isU]; omega)
  clear h2
  cases b1 <;> cases b2
  all_goals
    go_enter Tryz.func233, Tryz.ntmps233
    go_wp2_with fail
    go_ret
    exact ⟨by rw [HR.out]; rfl, rfl⟩
set_option maxHeartbeats 1000000 in
theorem isi_any (n : Nat) (w : World) :
    Calls Tryz.prog 235 #[.int .i32 (n : Int)] w fun e w' => e = .returned (.bool (isI n)) ∧ w' = w := by
  obtain ⟨b1, h1⟩ : ∃ b, decide ((31 : Int) < (n : Int)) = b := ⟨_, rfl⟩
  obtain ⟨b2, h2⟩ : ∃ b, decide ((n : Int) < (127 : Int)) = b := ⟨_, rfl⟩
  have HR := Lib.hid (show isI n = (b1 && b2) by
    rw [← h1, ← h2, Bool.eq_iff_iff]
    simp [isI]; omega)
  cases b1 <;> cases b2
  all_goals
    go_enter Tryz.func235, Tryz.ntmps235
    go_wp2_with fail
    go_ret
    exact ⟨by rw [HR.out]; rfl, rfl⟩
set_option maxHeartbeats 1000000 in
theorem small_any (c : UInt8) (w : World) :
    Calls Tryz.prog 267 #[.int .u8 ((c.toNat : Nat) : Int)] w fun e w' => e = .returned (.int .u8 (((small c).toNat : Nat) : Int)) ∧ w' = w := by
  by_cases h : 65 ≤ c.toNat ∧ c.toNat ≤ 90
  · have HS := Lib.hid (small_big h)
    obtain ⟨n, hn⟩ : ∃ n, n = c.toNat := ⟨_, rfl⟩
    rw [← hn] at h HS ⊢
    have d1 : decide ((65 : Int) ≤ (n : Int)) = true := by simp; omega
    have d2 : decide ((n : Int) ≤ 90) = true := by simp; omega
    obtain ⟨m, hm⟩ : ∃ m, m = (small c).toNat := ⟨_, rfl⟩
    rw [← hm] at HS ⊢
    have HM := Lib.hid (show (m : Int) = (n : Int) - 65 + 97 by have := HS.out; omega)
    clear hm hn
    go_enter Tryz.func267, Tryz.ntmps267
    go_wp2_with fail
    go_ret
    exact ⟨by rw [HM.out]; rfl, rfl⟩
  · have HS := Lib.hid (small_low h)
    obtain ⟨n, hn⟩ : ∃ n, n = c.toNat := ⟨_, rfl⟩
    have HN := Lib.hid (show small c = c → (small c).toNat = n from fun e => by rw [e, hn])
    rw [← hn] at h ⊢
    clear hn
    by_cases h1 : 65 ≤ n
    · have d1 : decide ((65 : Int) ≤ (n : Int)) = true := by simp; omega
      have d2 : decide ((n : Int) ≤ 90) = false := by simp; omega
      clear h
      go_enter Tryz.func267, Tryz.ntmps267
      go_wp2_with fail
      go_ret
      exact ⟨by rw [HN.out HS.out]; rfl, rfl⟩
    · have d1 : decide ((65 : Int) ≤ (n : Int)) = false := by simp; omega
      clear h
      go_enter Tryz.func267, Tryz.ntmps267
      go_wp2_with fail
      go_ret
      exact ⟨by rw [HN.out HS.out]; rfl, rfl⟩
end Go.Proofs.YtflpajbcomhkpaaGreatDoor
namespace Go.Proofs.YtflpajbcomhkpaaGreatDoor
open Go.RowKit

theorem own_form {E : TypeId} {w : World} {B : Nat} {v : Value} {l : List UInt8} (h : OwnB E w B v l) : ∃ a cp, v = .slice a l.length cp := by
  rcases h.2 with ⟨rfl, h0⟩ | ⟨g, cap, cur, rfl, _⟩
  · rw [h0]; exact ⟨_, _, rfl⟩
  · exact ⟨_, _, rfl⟩
theorem take_len (s : ByteArray) {k : Nat} (h : k ≤ s.size) : (s.data.toList.take k).length = k := by
  rw [List.length_take]
  have : s.data.toList.length = s.size := rfl
  omega
theorem take_all (s : ByteArray) {k : Nat} (h : s.size ≤ k) : s.data.toList.take k = s.data.toList := List.take_of_length_le (show s.data.toList.length ≤ k from h)

set_option maxRecDepth 100000 in
set_option maxHeartbeats 2000000 in
theorem fold_any (s : ByteArray) (w : World) (hn : s.size ≤ 1099511627776) :
    Calls Tryz.prog 224 #[.string s] w fun e w' => e = .returned (.string (strOf (foldL s.data.toList))) ∧ Below w.heap.size w w' := by
  obtain ⟨i0, hi, hz0, hz1, hz2⟩ := info_parts byteInfo
  go_enter Tryz.func224, Tryz.ntmps224
  go_wp2_with (at_make; refine wpList_make_own _ rfl _ _ 55 rfl w.heap.size 5 i0 (.int .u8 0) 1 Tryz.underlying55 hi hz0 hz1 .i64 .i64 (s.size : Int) s.size rfl rfl (by omega) (by rw [hz2]; omega) (by unfold maxLen; omega) (Nat.le_refl _) ?_; intro w1 hown1 hgr1; have HO1 := Lib.hid hown1; have HG1 := Lib.hid hgr1; clear hown1 hgr1)
  go_loopw [3, 4, 11] (fun v g i wr => ∃ (k : Nat) (D : List UInt8) (gp : Bool), k ≤ s.size ∧ i = .int .i64 k ∧ g = .bool gp ∧ foldRun (s.data.toList.take k) = (D, gp) ∧ OwnB 5 wr w.heap.size v D ∧ Below w.heap.size w wr) (fun _ _ i _ => s.size - (intOf i).toNat)
  case atStart => exact ⟨0, [], false, Nat.zero_le _, rfl, rfl, rfl, HO1.out, (Below.refl _ _).grown HG1.out (Nat.le_refl _) (fun _ e => by cases e)⟩
  case round =>
    obtain ⟨k, D, gp, hk, rfl, rfl, hD, hown, hb⟩ := hrel
    obtain ⟨a, cp, rfl⟩ := own_form hown
    have HO := Lib.hid hown
    have HB := Lib.hid hb
    have HD := Lib.hid hD
    have hDl : D.length ≤ k := by
      have h1 := foldL_len (s.data.toList.take k)
      rw [take_len s hk] at h1
      unfold foldL at h1
      rwa [hD] at h1
    clear hown hb hD
    by_cases hlt : k < s.size
    · have hd : decide ((k : Int) < (s.size : Int)) = true := by simp; omega
      obtain ⟨c, hc, hcn⟩ := u8at_list s k hlt
      have hix := fun w => run_index_u8 (P := Tryz.prog) Tryz.underlying9 s k hlt (k : Int) rfl w
      rw [hcn] at hix
      have HS := Lib.hid (show foldRun (s.data.toList.take (k + 1)) = foldStep (D, gp) c by rw [take_snoc hc, foldRun_snoc, HD.out])
      clear hc hcn
      by_cases h32 : c = 32
      · have hq : (((c.toNat : Nat) : Int) == 32) = true := by rw [h32]; rfl
        have HN := Lib.hid (show foldRun (s.data.toList.take (k + 1)) = (D, decide (0 < D.length)) by
          rw [HS.out]
          unfold foldStep
          rw [if_pos h32]
          cases D <;> simp)
        clear h32
        go_wp2_with fail
        go_roundw
        case rel => exact ⟨k + 1, D, decide (0 < D.length), by omega, by go_num, by first | rfl | simp, HN.out, HO.out, HB.out⟩
        case measure => simp [intOf]; omega
      · have h32n : ¬ c.toNat = 32 := fun h => h32 (UInt8.toNat_inj.1 h)
        have hq : (((c.toNat : Nat) : Int) == 32) = false := by simp; omega
        obtain ⟨y, hy⟩ : ∃ y, y = small c := ⟨_, rfl⟩
        have HSM := Lib.hid (fun w => small_any c w)
        rw [← hy] at HSM
        cases gp with
        | true =>
          have HN := Lib.hid (show foldRun (s.data.toList.take (k + 1)) = (D ++ [32] ++ [y], false) by
            rw [HS.out]
            unfold foldStep
            rw [if_neg h32, hy]
            rfl)
          clear h32 hy h32n
          go_wp2_with (first
            | (at_builtin; (refine wpList_append_own _ rfl (.tmp 22) (.tmp 23) 55 rfl w.heap.size 5 i0 (.int .u8 0) 1 1 Tryz.underlying55 hi hz0 hz1 hz2 rfl (by decide) _ _ _ rfl (HO.out.alloc _) ⟨wr.heap.size, 0, none⟩ 1 1 [bcell 32] rfl rfl (news_row wr #[bcell 32] 5) (bcells_one [32]) (by unfold maxLen; omega) (by omega) (by simp; have := HB.out.size; omega) ?_); intro v' w2 hown2 hgr2 _; obtain ⟨P1, P2⟩ := out_round HO.out HB.out hown2 hgr2; have HP1 := Lib.hid P1; have HP2 := Lib.hid P2; clear hown2 hgr2 P1 P2)
            | (go_at_call 267; (with_reducible refine (HSM.out _).mono ?_); rintro e w3 ⟨rfl, rfl⟩)
            | (at_builtin; (refine wpList_append_own _ rfl (.tmp 25) (.tmp 30) 55 rfl w.heap.size 5 i0 (.int .u8 0) 1 1 Tryz.underlying55 hi hz0 hz1 hz2 rfl (by decide) _ _ _ rfl (HP1.out.alloc _) ⟨w3.heap.size, 0, none⟩ 1 1 [bcell y] rfl rfl (news_row w3 #[bcell y] 5) (bcells_one [y]) (by simp; unfold maxLen; omega) (by simp; omega) (by simp; have := HP2.out.size; omega) ?_); intro v'' w4 hown2 hgr2 _; obtain ⟨P1, P2⟩ := out_round HP1.out HP2.out hown2 hgr2; have HQ1 := Lib.hid P1; have HQ2 := Lib.hid P2; clear hown2 hgr2 P1 P2))
          go_roundw
          case rel => exact ⟨k + 1, D ++ [32] ++ [y], false, by omega, by go_num, rfl, HN.out, HQ1.out, HQ2.out⟩
          case measure => simp [intOf]; omega
        | false =>
          have HN := Lib.hid (show foldRun (s.data.toList.take (k + 1)) = (D ++ [y], false) by
            rw [HS.out]
            unfold foldStep
            rw [if_neg h32, hy]
            simp)
          clear h32 hy h32n
          go_wp2_with (first
            | (go_at_call 267; (with_reducible refine (HSM.out _).mono ?_); rintro e w3 ⟨rfl, rfl⟩)
            | (at_builtin; (refine wpList_append_own _ rfl (.tmp 25) (.tmp 30) 55 rfl w.heap.size 5 i0 (.int .u8 0) 1 1 Tryz.underlying55 hi hz0 hz1 hz2 rfl (by decide) _ _ _ rfl (HO.out.alloc _) ⟨w3.heap.size, 0, none⟩ 1 1 [bcell y] rfl rfl (news_row w3 #[bcell y] 5) (bcells_one [y]) (by unfold maxLen; omega) (by omega) (by simp; have := HB.out.size; omega) ?_); intro v' w2 hown2 hgr2 _; obtain ⟨P1, P2⟩ := out_round HO.out HB.out hown2 hgr2; have HP1 := Lib.hid P1; have HP2 := Lib.hid P2; clear hown2 hgr2 P1 P2))
          go_roundw
          case rel => exact ⟨k + 1, D ++ [y], false, by omega, by go_num, rfl, HN.out, HP1.out, HP2.out⟩
          case measure => simp [intOf]; omega
    · have ek : k = s.size := by omega
      subst ek
      have hd : decide ((s.size : Int) < (s.size : Int)) = false := by simp
      have hconv := own_str HO.out
      go_wp2_with fail
      go_ret
      refine ⟨?_, HB.out⟩
      have e1 := HD.out
      rw [take_all s (Nat.le_refl _)] at e1
      unfold foldL
      rw [e1]
      rfl

/-- The folded form as a text. -/
def foldS (s : ByteArray) : ByteArray := strOf (foldL s.data.toList)
theorem foldS_size (s : ByteArray) : (foldS s).size ≤ s.size := foldL_len s.data.toList
theorem foldS_any (s : ByteArray) (w : World) (hn : s.size ≤ 1099511627776) :
    Calls Tryz.prog 224 #[.string s] w fun e w' => e = .returned (.string (foldS s)) ∧ Below w.heap.size w w' := fold_any s w hn

theorem toList_inj {a b : ByteArray} : a.toList = b.toList ↔ a = b :=
  ⟨fun h => list_inj (by rw [← toList_eq_list, ← toList_eq_list, h]), fun h => by rw [h]⟩
end Go.Proofs.YtflpajbcomhkpaaGreatDoor
namespace Go.Proofs.YtflpajbcomhkpaaGreatDoor
open Go.RowKit

/-- The bytes l lie from the beginning of block g on, and may be written. -/
def BL (w : World) (g : Nat) (l : List UInt8) : Prop := g < w.heap.size ∧ ∀ j, j < l.length → w.cell? ⟨g, j, none⟩ = some (.int .u8 (((l.getD j 0).toNat : Nat) : Int)) ∧ w.frozen? ⟨g, j, none⟩ = false
theorem addr_ne {g h i j : Nat} (e : g ≠ h) : (⟨g, i, none⟩ : Addr) ≠ ⟨h, j, none⟩ := fun k => e (by injection k)
theorem addr_ne2 {g i j : Nat} (e : i ≠ j) : (⟨g, i, none⟩ : Addr) ≠ ⟨g, j, none⟩ := fun k => e (by injection k)
theorem getD_set_same {α : Type} {l : List α} {j : Nat} (h : j < l.length) (v d : α) : (l.set j v).getD j d = v := by
  rw [List.getD_eq_getElem?_getD]; simp [h]
theorem getD_set_other {α : Type} {l : List α} {i j : Nat} (h : i ≠ j) (v d : α) : (l.set i v).getD j d = l.getD j d := by
  rw [List.getD_eq_getElem?_getD, List.getD_eq_getElem?_getD, List.getElem?_set_ne h]
theorem BL.put {w : World} {g : Nat} {l : List UInt8} (h : BL w g l) {j : Nat} (hj : j < l.length) (b : UInt8) : BL (w.setCell ⟨g, j, none⟩ (.int .u8 ((b.toNat : Nat) : Int))) g (l.set j b) := by
  refine ⟨by simpa using h.1, fun i hi => ?_⟩
  rw [List.length_set] at hi
  rw [World.frozen?_setCell]
  refine ⟨?_, (h.2 i hi).2⟩
  by_cases e : j = i
  · subst e
    rw [World.cell?_setCell_same _ _ _ (h.2 j hj).1, getD_set_same hj]
  · rw [World.cell?_setCell_other _ _ _ _ (addr_ne2 e), getD_set_other e]
    exact (h.2 i hi).1
theorem BL.other {w : World} {g : Nat} {l : List UInt8} (h : BL w g l) {k : Nat} (hk : k ≠ g) (j : Nat) (v : Value) : BL (w.setCell ⟨k, j, none⟩ v) g l := by
  refine ⟨by simpa using h.1, fun i hi => ?_⟩
  rw [World.frozen?_setCell, World.cell?_setCell_other _ _ _ _ (addr_ne hk)]
  exact h.2 i hi
theorem BL.drew {w : World} {g : Nat} {l : List UInt8} (h : BL w g l) : BL w.drew g l := h
theorem BL.new (w : World) (s : ByteArray) (cap : Nat) (t : TypeId) : BL (w.alloc (.cells (bytesRow s cap) t ((bytesRow s cap).size, (bytesRow s cap).size + 1))) w.heap.size s.data.toList := by
  refine ⟨by simp, fun j hj => ?_⟩
  have hj2 : j < s.data.size := hj
  refine ⟨?_, ?_⟩
  · rw [cell_of_row _ _ j _ _ _ (heap_alloc_new w _)]
    unfold bytesRow
    rw [Array.getElem?_append_left (by simpa using hj2)]
    rw [List.getD_eq_getElem?_getD]
    simp
    exact ⟨s.data[j], Array.getElem?_eq_getElem hj2, by rw [Array.getElem?_eq_getElem hj2]; rfl⟩
  · rw [World.frozen?_alloc_mark]
    have : (bytesRow s cap).size ≥ s.data.size := by unfold bytesRow; simp
    have h2 : ¬ (bytesRow s cap).size ≤ j := by omega
    rw [decide_eq_false h2]; rfl

theorem BL.text {w : World} {g : Nat} {l : List UInt8} (h : BL w g l) (n cap : Nat) (hn : n = l.length) : (convert 55 9 (.slice (some ⟨g, 0, none⟩) n cap)).run Tryz.prog w = .ok (.string (strOf l)) w := by
  subst hn
  refine run_convert_bytes_back w _ _ _ ⟨g, 0, none⟩ cap l Tryz.underlying55 Tryz.underlying5 Tryz.underlying9 (fun j hj => ?_)
  have hadd : (⟨g, 0, none⟩ : Addr).add j = ⟨g, j, none⟩ := by unfold Addr.add; split <;> simp_all
  rw [hadd, (h.2 j hj).1, List.getD_eq_getElem?_getD, List.getElem?_eq_getElem hj]
  rfl

theorem conv_made (L : List UInt8) (wb : World) : ∃ cap W, (convert 9 55 (.string (strOf L))).run Tryz.prog wb = .ok (.slice (some ⟨wb.heap.size, 0, none⟩) L.length cap) W ∧ BL W wb.heap.size L ∧ Below wb.heap.size wb W := by
  refine ⟨_, _, run_bytes_of_string wb 9 55 5 (strOf L) Tryz.underlying9 Tryz.underlying55 Tryz.underlying5, ?_, ?_⟩
  · exact BL.new wb.drew (strOf L) _ _
  · exact (Below.refl _ wb).drew.alloc (Nat.le_refl _) _
theorem BL.putv {w : World} {g : Nat} {l : List UInt8} (h : BL w g l) {j : Nat} (hj : j < l.length) (b : UInt8) (z : Int) (hz : z = ((b.toNat : Nat) : Int)) : BL (w.setCell ⟨g, j, none⟩ (.int .u8 z)) g (l.set j b) := by
  subst hz
  exact h.put hj b
theorem BL.below {w w' : World} {g : Nat} {l : List UInt8} (h : BL w g l) (hb : Below w.heap.size w w') : BL w' g l :=
  ⟨Nat.lt_of_lt_of_le h.1 hb.size, fun j hj => ⟨(hb.cell (p := ⟨g, j, none⟩) h.1).trans (h.2 j hj).1, (hb.frozen (p := ⟨g, j, none⟩) h.1).trans (h.2 j hj).2⟩⟩
end Go.Proofs.YtflpajbcomhkpaaGreatDoor
