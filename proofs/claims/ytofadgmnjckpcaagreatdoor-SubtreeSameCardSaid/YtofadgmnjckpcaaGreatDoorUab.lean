/-
  The contracts of strings.SplitN at a point, strings.HasPrefix, strings.Join, strconv.Itoa, cmp.Compare and bits.Len: the library's theorems, laid at the program's own numbers. Nothing is claimed of the program beyond its bodies.
  Object identifiers as lists of numbers: their texts, their contents, and that each of both determines the numbers. Nothing is claimed of the program here.
  Small laws for the texts on object identifiers: a string's bytes at numbers that have been reckoned, slices of numbers and of bytes that a call has made itself. Nothing is claimed of the program here.
  The contracts of strings.Split and strings.Cut at a point of one byte, off the shelf.
  The plain functions: letters and digits, the folded form of a string, its escaped form, hexadecimal digits. Nothing is claimed of the program here.
-/
import Derived.Shelf.Strings.Builder1
import Derived.Shelf.Strings.Builder2
import Derived.Shelf.Strings.OnBuilder
import Derived.Shelf.Small.Strs
import Derived.Shelf.Small.Wraps
import Derived.Shelf.Small.Bits
import Derived.Shelf.Strings.Split
import Derived.Shelf.Strings.Prefix
import Derived.Shelf.Strconv.Itoa4
import Derived.Lib.AppendIntMem
import Derived.Test.YtofadgmnjckpcaaGreatDoorChecked
import Derived.Lib.ItoaNum
import Derived.Lib.Split
import Derived.Lib.IndexLaws
import Derived.Lib.IndexBytes
import Derived.Lib.Join
import Derived.Test.YtofadgmnjckpcaaGreatDoorUaa
import Derived.Lib.SplitLaws
import Derived.Lib.CutLaws
namespace Go.Proofs.YtofadgmnjckpcaaGreatDoor
open Go.Shelf Go.RowKit

def lays219_ren : Go.Shelf.Ren := ⟨fun | 217 => 145 | 219 => 132 | 224 => 147 | 225 => 146 | 266 => 153 | 267 => 148 | 314 => 154 | n => n, fun | 3 => 3 | 4 => 4 | 5 => 5 | 9 => 9 | 46 => 133 | 51 => 143 | 146 => 144 | n => n, fun | 1 => 2 | n => n⟩
theorem lays219 : Go.Proofs.Lays.n219 Tryz.prog lays219_ren := {
  mixed := by kernel_rfl
  f217 := Tryz.func145.trans (congrArg some (by kernel_rfl))
  f219 := Tryz.func132.trans (congrArg some (by kernel_rfl))
  f224 := Tryz.func147.trans (congrArg some (by kernel_rfl))
  f225 := Tryz.func146.trans (congrArg some (by kernel_rfl))
  f266 := Tryz.func153.trans (congrArg some (by kernel_rfl))
  f267 := Tryz.func148.trans (congrArg some (by kernel_rfl))
  f314 := Tryz.func154.trans (congrArg some (by kernel_rfl))
  t3 := Tryz.underlying3
  a3 := Tryz.isAgg3
  z3 := Tryz.sizeOf3
  v3 := Tryz.zeroValue3
  t4 := Tryz.underlying4
  a4 := Tryz.isAgg4
  z4 := Tryz.sizeOf4
  v4 := Tryz.zeroValue4
  t5 := Tryz.underlying5
  a5 := Tryz.isAgg5
  z5 := Tryz.sizeOf5
  v5 := Tryz.zeroValue5
  t9 := Tryz.underlying9
  a9 := Tryz.isAgg9
  z9 := Tryz.sizeOf9
  v9 := Tryz.zeroValue9
  t46 := Tryz.underlying133
  a46 := Tryz.isAgg133
  z46 := Tryz.sizeOf133
  v46 := Tryz.zeroValue133
  t51 := Tryz.underlying143
  a51 := Tryz.isAgg143
  z51 := Tryz.sizeOf143
  v51 := Tryz.zeroValue143
  t146 := Tryz.underlying144
  a146 := Tryz.isAgg144
  z146 := Tryz.sizeOf144
  v146 := Tryz.zeroValue144
  g1 := by kernel_rfl }
/-- The table of powers of ten holds what the program's text lays, and no new block changes that. -/
def Pow10 (w : World) : Prop := Lib.TabBelow Tryz.prog w.heap.size w "internal/strconv.uint64pow10" .u64 Lib.pow10Tab
theorem Pow10.below {w w' : World} (h : Pow10 w) (hb : Below w.heap.size w w') : Pow10 w' := fun x hx => h x (hb.trans (hx.mono hb.size))
end Go.Proofs.YtofadgmnjckpcaaGreatDoor
namespace Go.Proofs.YtofadgmnjckpcaaGreatDoor

/-- The numbers' codes, one behind the other. -/
def cat (f : Nat → List UInt8) : List Nat → List UInt8
  | [] => []
  | v :: r => f v ++ cat f r
/-- No code is the beginning of another one. -/
def Code (f : Nat → List UInt8) : Prop := ∀ x y r s, f x ++ r = f y ++ s → x = y ∧ r = s
/-! ### Decimal numbers -/
/-! ### The pieces between the points -/
/-! ### A text that is scanned byte by byte -/
/-! ### Numbers in base 128 -/
def hd7 (n : Nat) : List UInt8 := if _h : n = 0 then [] else hd7 (n / 128) ++ [UInt8.ofNat (128 + n % 128)]
termination_by n
decreasing_by omega
def e128 (n : Nat) : List UInt8 := hd7 (n / 128) ++ [UInt8.ofNat (n % 128)]
/-! ### The contents of an object identifier -/
def numsOf : List Nat → List Nat
  | a :: b :: r => (40 * a + b) :: r
  | l => l
def enc (a : List Nat) : List UInt8 := cat e128 (numsOf a)
/-! ### The order, and what lies under what -/
/-- The arcs of b are the first ones of a. -/
def under (a b : List Nat) : Bool := decide (b.length ≤ a.length) && decide (a.take b.length = b)
end Go.Proofs.YtofadgmnjckpcaaGreatDoor
namespace Go.Proofs.YtofadgmnjckpcaaGreatDoor
open Go.RowKit

/-! ### Rows that a call has made itself -/
def OwnI (w : World) (B : Nat) (v : Value) (a : List Nat) : Prop := w.ownsRow B 3 1 v a.length (a.map icell)
/-- The numbers a lie from the beginning of block g on. -/
def ILie (w : World) (g : Nat) (a : List Nat) : Prop := g < w.heap.size ∧ ∀ j, j < a.length → w.cell? ⟨g, j, none⟩ = some (.int .i64 ((a.getD j 0 : Nat) : Int))
theorem ILie.cell {w : World} {g : Nat} {a : List Nat} (h : ILie w g a) (j : Nat) (hj : j < a.length) : w.cell? ⟨g, j, none⟩ = some (.int .i64 ((a.getD j 0 : Nat) : Int)) := h.2 j hj
theorem ILie.below {w w' : World} {g : Nat} {a : List Nat} (h : ILie w g a) (hb : Below w.heap.size w w') : ILie w' g a :=
  ⟨Nat.lt_of_lt_of_le h.1 hb.size, fun j hj => by
    have e := h.2 j hj
    rw [← e]
    exact hb.cell h.1⟩
theorem ILie.alloc {w : World} {g : Nat} {a : List Nat} (h : ILie w g a) (o : Obj) : ILie (w.alloc o) g a := h.below (belowNew w o)
theorem intInfo : (Tryz.prog.info? 3).map (fun i => (i.zero, i.size, i.bytes)) = some (some (.int .i64 0), 1, 8) := by kernel_rfl
theorem OwnI.form {w : World} {B : Nat} {v : Value} {a : List Nat} (h : OwnI w B v a) : ∃ p cap, v = .slice p a.length cap := by
  rcases h.2 with ⟨rfl, h0⟩ | ⟨g, cap, cur, rfl, _⟩
  · exact ⟨none, 0, by rw [h0]⟩
  · exact ⟨_, cap, rfl⟩
end Go.Proofs.YtofadgmnjckpcaaGreatDoor
namespace Go.Proofs.YtofadgmnjckpcaaGreatDoor
open Go.RowKit

/-- The pieces of a text between the bytes c. -/
def pcsS (c : UInt8) (s : ByteArray) : List ByteArray := Lib.splitB ⟨#[c]⟩ 0 (Lib.countB s ⟨#[c]⟩) s
theorem pcsS_spl (c : UInt8) (s : ByteArray) : Spl c s.data.toList ((pcsS c s).map (·.data.toList)) := split_pieces c s
theorem index_byte (x : ByteArray) (c : UInt8) (w : World) :
    Calls Tryz.prog 132 #[.string x, .string ⟨#[c]⟩] w fun e w' => e = .returned (.int .i64 (Lib.indexByte x.data.toList c)) ∧ w' = w :=
  Any.stringslite_Index_one lays219 x c w
end Go.Proofs.YtofadgmnjckpcaaGreatDoor
namespace Go.Proofs.YtofadgmnjckpcaaGreatDoor
open Go.RowKit

/-! ### Letters and digits -/
def alnum (n : Nat) : Bool := decide (65 ≤ n ∧ n ≤ 90) || (decide (97 ≤ n ∧ n ≤ 122) || decide (48 ≤ n ∧ n ≤ 57))
/-! ### Folding -/
def small (c : UInt8) : UInt8 := if 65 ≤ c.toNat ∧ c.toNat ≤ 90 then UInt8.ofNat (c.toNat + 32) else c
theorem small_low {c : UInt8} (h : ¬ (65 ≤ c.toNat ∧ c.toNat ≤ 90)) : small c = c := by unfold small; rw [if_neg h]
theorem small_big {c : UInt8} (h : 65 ≤ c.toNat ∧ c.toNat ≤ 90) : (small c).toNat = c.toNat + 32 := by
  unfold small
  rw [if_pos h]
  simp; omega
theorem small_space {c : UInt8} : small c = 32 ↔ c = 32 := by
  by_cases h : 65 ≤ c.toNat ∧ c.toNat ≤ 90
  · constructor
    · intro e
      have := small_big h
      rw [e] at this
      have e32 : (32 : UInt8).toNat = 32 := rfl
      omega
    · intro e
      rw [e] at h
      have e32 : (32 : UInt8).toNat = 32 := rfl
      omega
  · rw [small_low h]

def foldStep (st : List UInt8 × Bool) (c : UInt8) : List UInt8 × Bool := if c = 32 then (st.1, !st.1.isEmpty) else (st.1 ++ (if st.2 then [32] else []) ++ [small c], false)
def foldRun (l : List UInt8) : List UInt8 × Bool := l.foldl foldStep ([], false)
def foldL (l : List UInt8) : List UInt8 := (foldRun l).1
theorem foldRun_snoc (l : List UInt8) (c : UInt8) : foldRun (l ++ [c]) = foldStep (foldRun l) c := by simp [foldRun]
/-- What a state of folding always is. -/
structure FInv (st : List UInt8 × Bool) : Prop where
  gap : st.2 = true → st.1 ≠ []
  last : st.1.getLast? ≠ some 32
theorem FInv.step {st : List UInt8 × Bool} (h : FInv st) (c : UInt8) : FInv (foldStep st c) := by
  unfold foldStep
  by_cases hc : c = 32
  · rw [if_pos hc]
    refine ⟨fun e => ?_, h.last⟩
    intro e2
    rw [show st.1 = [] from e2] at e
    cases e
  · rw [if_neg hc]
    refine ⟨fun e => (by cases e), ?_⟩
    rw [List.getLast?_append]
    simp
    exact fun e => hc (small_space.1 e)
theorem snoc_ind {P : List UInt8 → Prop} (h0 : P []) (h1 : ∀ l c, P l → P (l ++ [c])) (l : List UInt8) : P l := by
  have : ∀ r : List UInt8, P r.reverse := by
    intro r
    induction r with
    | nil => exact h0
    | cons c r ih => rw [List.reverse_cons]; exact h1 _ _ ih
  have := this l.reverse
  rwa [List.reverse_reverse] at this
/-- The reference's bytes at that state. -/
def refOut (st : List UInt8 × Bool) : List UInt8 := st.1 ++ (if st.2 then [32] else [])
theorem fold_len (l : List UInt8) : (refOut (foldRun l)).length ≤ l.length := by
  induction l using snoc_ind with
  | h0 => simp [foldRun, refOut]
  | h1 l c ih =>
    rw [foldRun_snoc]
    unfold refOut foldStep at *
    rw [List.length_append] at ih
    by_cases hc : c = 32
    · rw [if_pos hc]
      simp only [List.length_append, List.length_singleton]
      split <;> simp <;> omega
    · rw [if_neg hc]
      simp only [List.length_append, List.length_singleton]
      simp
      omega
theorem foldL_len (l : List UInt8) : (foldL l).length ≤ l.length := by
  have := fold_len l
  unfold refOut at this
  rw [List.length_append] at this
  unfold foldL
  omega
/-! ### Hexadecimal digits -/
def hexDigit (n : Nat) : UInt8 := if n < 10 then UInt8.ofNat (48 + n) else UInt8.ofNat (87 + n)
def hexL (l : List UInt8) : List UInt8 := l.flatMap fun b => [hexDigit (b.toNat / 16), hexDigit (b.toNat % 16)]
def digV (c : Nat) : Option Nat := if 48 ≤ c ∧ c ≤ 57 then some (c - 48) else if 97 ≤ c ∧ c ≤ 102 then some (c - 87) else none
theorem digV_hex : ∀ v, v < 16 → digV (hexDigit v).toNat = some v := by decide
theorem hexDigit_inj {v w : Nat} (hv : v < 16) (hw : w < 16) (h : hexDigit v = hexDigit w) : v = w := by
  have h1 := digV_hex v hv
  rw [h, digV_hex w hw] at h1
  exact (Option.some.inj h1).symm
theorem hexL_cons (a : UInt8) (l : List UInt8) : hexL (a :: l) = hexDigit (a.toNat / 16) :: hexDigit (a.toNat % 16) :: hexL l := by simp [hexL]
theorem byte_of {a b : UInt8} (h1 : hexDigit (a.toNat / 16) = hexDigit (b.toNat / 16)) (h2 : hexDigit (a.toNat % 16) = hexDigit (b.toNat % 16)) : a = b := by
  have hx := a.toNat_lt
  have hy := b.toNat_lt
  have e1 := hexDigit_inj (by omega) (by omega) h1
  have e2 := hexDigit_inj (by omega) (by omega) h2
  exact UInt8.toNat_inj.1 (by omega)
theorem hexL_inj : ∀ {a b : List UInt8}, hexL a = hexL b → a = b
  | [], [], _ => rfl
  | [], y :: b, h => by rw [hexL_cons] at h; cases h
  | x :: a, [], h => by rw [hexL_cons] at h; cases h
  | x :: a, y :: b, h => by
    rw [hexL_cons, hexL_cons] at h
    rw [hexL_inj (List.cons.inj (List.cons.inj h).2).2, byte_of (List.cons.inj h).1 (List.cons.inj (List.cons.inj h).2).1]
/-! ### Escaping -/
def plainL : List UInt8 := [32, 39, 40, 41, 45, 46, 47, 58, 63, 64, 95]
def plainB (c : UInt8) : Bool := alnum c.toNat || plainL.contains c
theorem plain_92 : plainB 92 = false := by decide
def escB (c : UInt8) : List UInt8 := if plainB c = true then [c] else [92, hexDigit (c.toNat / 16), hexDigit (c.toNat % 16)]
def escL (l : List UInt8) : List UInt8 := l.flatMap escB
theorem escB_plain {c : UInt8} (h : plainB c = true) : escB c = [c] := by unfold escB; rw [if_pos h]
theorem escB_other {c : UInt8} (h : plainB c = false) : escB c = [92, hexDigit (c.toNat / 16), hexDigit (c.toNat % 16)] := by unfold escB; rw [if_neg (by rw [h]; decide)]
theorem escL_nil : escL [] = [] := rfl
theorem escL_cons (c : UInt8) (l : List UInt8) : escL (c :: l) = escB c ++ escL l := by simp [escL]
theorem escB_len1 (c : UInt8) : 1 ≤ (escB c).length := by unfold escB; split <;> simp
theorem escB_cut {x y : UInt8} {r t : List UInt8} (h : escB x ++ r = escB y ++ t) : x = y ∧ r = t := by
  cases hx : plainB x <;> cases hy : plainB y
  · rw [escB_other hx, escB_other hy] at h
    simp only [List.cons_append, List.nil_append, List.cons.injEq, true_and] at h
    exact ⟨byte_of h.1 h.2.1, h.2.2⟩
  · rw [escB_other hx, escB_plain hy] at h
    simp only [List.cons_append, List.nil_append, List.cons.injEq] at h
    rw [← h.1, plain_92] at hy; cases hy
  · rw [escB_plain hx, escB_other hy] at h
    simp only [List.cons_append, List.nil_append, List.cons.injEq] at h
    rw [h.1, plain_92] at hx; cases hx
  · rw [escB_plain hx, escB_plain hy] at h
    simp only [List.cons_append, List.nil_append, List.cons.injEq] at h
    exact h
theorem escL_cut : ∀ (D l r : List UInt8), escL l = escL D ++ r → ∃ l2, l = D ++ l2 ∧ escL l2 = r
  | [], l, r, h => ⟨l, rfl, h⟩
  | d :: D, [], r, h => by
    exfalso
    rw [escL_nil, escL_cons] at h
    have := congrArg List.length h
    have h1 := escB_len1 d
    simp at this
    omega
  | d :: D, x :: l, r, h => by
    rw [escL_cons, escL_cons, List.append_assoc] at h
    obtain ⟨rfl, h2⟩ := escB_cut h
    obtain ⟨l2, rfl, h3⟩ := escL_cut D l r h2
    exact ⟨l2, rfl, h3⟩
theorem escL_inj {a b : List UInt8} (h : escL a = escL b) : a = b := by
  obtain ⟨l2, rfl, h2⟩ := escL_cut b a [] (by rw [h, List.append_nil])
  cases l2 with
  | nil => simp
  | cons x l =>
    rw [escL_cons] at h2
    have := congrArg List.length h2
    have h1 := escB_len1 x
    rw [List.length_append, List.length_nil] at this
    omega
/-- What Unescape answers for the string s: the string whose escaped form is s, if there is one. -/
def Une (s : List UInt8) (u : ByteArray) (ok : Bool) : Prop := (ok = true ∧ escL u.data.toList = s) ∨ (ok = false ∧ u = ⟨#[]⟩ ∧ ∀ l, escL l ≠ s)
theorem Une.eq {s : List UInt8} {u v : ByteArray} {a b : Bool} (h : Une s u a) (k : Une s v b) : v = u ∧ b = a := by
  rcases h with ⟨rfl, h⟩ | ⟨rfl, rfl, h⟩ <;> rcases k with ⟨rfl, k⟩ | ⟨rfl, rfl, k⟩
  · refine ⟨?_, rfl⟩
    have := escL_inj (k.trans h.symm)
    apply ByteArray.ext
    exact Array.toList_inj.1 this
  · exact absurd h (k _)
  · exact absurd k (h _)
  · exact ⟨rfl, rfl⟩
theorem drop_cons {s : List UInt8} {i : Nat} {c : UInt8} (h : s[i]? = some c) : s.drop i = c :: s.drop (i + 1) := by
  obtain ⟨hi, rfl⟩ := List.getElem?_eq_some_iff.1 h
  exact List.drop_eq_getElem_cons hi
/-- Where the reference stands: what is escaped as s begins with out, and goes on behind i. -/
def Way (s : List UInt8) (i : Nat) (out : List UInt8) : Prop := ∀ l, escL l = s → ∃ l2, l = out ++ l2 ∧ escL l2 = s.drop i
theorem Way.start (s : List UInt8) : Way s 0 [] := fun l h => ⟨l, rfl, h⟩
theorem Way.one {s out : List UInt8} {i : Nat} {c : UInt8} (h : Way s i out) (hc : s[i]? = some c) (h92 : c ≠ 92) : Way s (i + 1) (out ++ [c]) := by
  intro l e
  obtain ⟨l2, rfl, h2⟩ := h l e
  rw [drop_cons hc] at h2
  cases l2 with
  | nil => rw [escL_nil] at h2; cases h2
  | cons x t =>
    rw [escL_cons] at h2
    cases hx : plainB x with
    | true =>
      rw [escB_plain hx] at h2
      simp only [List.cons_append, List.nil_append, List.cons.injEq] at h2
      exact ⟨t, by rw [h2.1]; simp, h2.2⟩
    | false =>
      rw [escB_other hx] at h2
      simp only [List.cons_append, List.nil_append, List.cons.injEq] at h2
      exact absurd h2.1.symm h92
theorem Way.two {s out : List UInt8} {i : Nat} (h : Way s i out) (hc : s[i]? = some 92) {l : List UInt8} (e : escL l = s) :
    ∃ x t, l = out ++ x :: t ∧ i + 3 ≤ s.length ∧ hexL [x] = (s.drop (i + 1)).take 2 ∧ escL t = s.drop (i + 3) := by
  obtain ⟨l2, rfl, h2⟩ := h l e
  rw [drop_cons hc] at h2
  cases l2 with
  | nil => rw [escL_nil] at h2; cases h2
  | cons x t =>
    rw [escL_cons] at h2
    cases hx : plainB x with
    | true =>
      rw [escB_plain hx] at h2
      simp only [List.cons_append, List.nil_append, List.cons.injEq] at h2
      rw [h2.1, plain_92] at hx; cases hx
    | false =>
      rw [escB_other hx] at h2
      simp only [List.cons_append, List.nil_append, List.cons.injEq, true_and] at h2
      have hl := congrArg List.length h2
      simp only [List.length_cons, List.length_drop] at hl
      refine ⟨x, t, rfl, by omega, by rw [← h2]; rfl, ?_⟩
      have e3 : s.drop (i + 3) = (s.drop (i + 1)).drop 2 := by rw [List.drop_drop]
      rw [e3, ← h2]; rfl
theorem Way.next {s out : List UInt8} {i : Nat} {u : ByteArray} (h : Way s i out) (hc : s[i]? = some 92) (hu : hexL u.data.toList = (s.drop (i + 1)).take 2) : Way s (i + 3) (out ++ u.data.toList) := by
  intro l e
  obtain ⟨x, t, rfl, _, h2, h3⟩ := h.two hc e
  have : u.data.toList = [x] := hexL_inj (hu.trans h2.symm)
  exact ⟨t, by rw [this]; simp, h3⟩
theorem Way.no {s out : List UInt8} {i : Nat} (h : Way s i out) (hc : s[i]? = some 92) (hu : ∀ l, hexL l ≠ (s.drop (i + 1)).take 2) : ∀ l, escL l ≠ s := by
  intro l e
  obtain ⟨x, t, _, _, h2, _⟩ := h.two hc e
  exact hu _ h2
theorem Way.last {s out : List UInt8} {i : Nat} (h : Way s i out) (hi : s.length ≤ i) (hne : escL out ≠ s) : ∀ l, escL l ≠ s := by
  intro l e
  obtain ⟨l2, rfl, h2⟩ := h l e
  rw [List.drop_eq_nil_of_le hi] at h2
  obtain rfl : l2 = [] := escL_inj (h2.trans escL_nil.symm)
  rw [List.append_nil] at e
  exact hne e
end Go.Proofs.YtofadgmnjckpcaaGreatDoor
