/-
  What the functions of prim answer, as numbers and bytes: the bytes of a string, their number, the bits. Nothing is claimed of the program here.
-/
import Derived.Test.YtkamoenjbllhjaaTbase
import Derived.Test.YtkamoenjbllhjaaPbits
namespace Go.Proofs.Ytkamoenjbllhjaa
open Go.RowKit

/-- The byte at a place (0 behind the end). -/
def u8at (b : ByteArray) (i : Nat) : Nat := (b.data.toList.getD i 0).toNat
theorem u8at_lt (b : ByteArray) (i : Nat) : u8at b i < 256 := (b.data.toList.getD i 0).toNat_lt
theorem u8at_get (b : ByteArray) (i : Nat) (h : i < b.size) : u8at b i = (b[i]).toNat := by
  have : i < b.data.toList.length := h
  unfold u8at
  rw [List.getD_eq_getElem?_getD, List.getElem?_eq_getElem this]
  rfl
theorem run_index_u8 {P : Program} {t : TypeId} (ht : P.underlying t = some .string) (b : ByteArray) (j : Nat) (h : j < b.size) (i : Int) (hi : i = (j : Int)) (w : World) :
    (Instr.index t (.string b) (.int .i64 i)).run P w = .ok (.int .u8 ((u8at b j : Nat) : Int)) w := by
  rw [u8at_get b j h]
  exact run_index_at ht b j b[j] h rfl i hi w
theorem empty_of_size {c : ByteArray} (h : c.size = 0) : c = ⟨#[]⟩ := by
  apply ByteArray.ext
  exact Array.eq_empty_of_size_eq_zero h
theorem nonempty_list {c : ByteArray} (h : c.size ≠ 0) : c.toList.isEmpty = false := by
  rw [ByteArray.toList_eq]
  cases e : c.data.toList with
  | nil => exact absurd (show c.data.toList.length = 0 by rw [e]; rfl) h
  | cons => rfl
theorem belowNew (w : World) (o : Obj) : Below w.heap.size w (w.alloc o) := (Below.refl _ w).alloc (Nat.le_refl _) o
theorem below_next {B : World} {a b : World} (h : Below B.heap.size B a) (k : Below a.heap.size a b) : Below B.heap.size B b := h.trans (k.mono h.size)
/-- Two strings of one length with the same bytes. -/
theorem str_ext {a b : ByteArray} (hs : a.size = b.size) (h : ∀ i, i < a.size → u8at a i = u8at b i) : a = b := by
  apply ByteArray.ext
  apply Array.ext
  · exact hs
  · intro i h1 h2
    have := h i h1
    rw [u8at_get a i h1, u8at_get b i h2] at this
    exact UInt8.toNat_inj.1 this
/-- The string of these bytes. -/
def strOf (l : List UInt8) : ByteArray := ⟨l.toArray⟩
theorem strOf_size (l : List UInt8) : (strOf l).size = l.length := rfl
theorem u8at_strOf (l : List UInt8) (i : Nat) : u8at (strOf l) i = (l.getD i 0).toNat := rfl

/-- What Boolean and PutBoolean answer. -/
def bolVal (c : ByteArray) : Value :=
  if c = ⟨#[0]⟩ then .tuple #[.bool false, .int .i64 0] else if c = ⟨#[255]⟩ then .tuple #[.bool true, .int .i64 0] else .tuple #[.bool false, .int .i64 7]
def putBol (v : Bool) : ByteArray := if v then ⟨#[255]⟩ else ⟨#[0]⟩

/-- Could the first byte be left out? -/
def spare (c : ByteArray) : Bool := decide (2 ≤ c.size) && (decide (u8at c 0 = 0) && decide (u8at c 1 < 128) || decide (u8at c 0 = 255) && decide (128 ≤ u8at c 1))
/-- The number that the first k bytes are, the most significant one first; and the same in two's complement. -/
def be (c : ByteArray) : Nat → Nat
  | 0 => 0
  | k + 1 => 256 * be c k + u8at c k
def sgn (c : ByteArray) : Int := if 128 ≤ u8at c 0 then -1 else 0
def tc (c : ByteArray) : Nat → Int
  | 0 => sgn c
  | k + 1 => 256 * tc c k + (u8at c k : Nat)
def intErr (c : ByteArray) : Nat := if c.size = 0 ∨ spare c = true then 7 else if 8 < c.size then 1 else 0
def intVal (c : ByteArray) : Value := .tuple #[.int .i64 (if intErr c = 0 then tc c c.size else 0), .int .i64 ((intErr c : Nat) : Int)]
theorem be_lt (c : ByteArray) (k : Nat) : be c k < 256 ^ k := by
  induction k with
  | zero => simp [be]
  | succ k ih => have := u8at_lt c k; simp only [be, Nat.pow_succ]; omega
theorem tc_one (c : ByteArray) : -128 ≤ tc c 1 ∧ tc c 1 < 128 := by
  have := u8at_lt c 0
  simp only [tc, sgn]
  split <;> omega
theorem tc_bound (c : ByteArray) (k : Nat) : -(128 * (256 ^ k : Nat) : Int) ≤ tc c (k + 1) ∧ tc c (k + 1) < 128 * (256 ^ k : Nat) := by
  induction k with
  | zero => have := tc_one c; simpa using this
  | succ k ih =>
    have h0 := u8at_lt c (k + 1)
    obtain ⟨h1, h2⟩ := ih
    rw [tc, Nat.pow_succ]
    generalize (256 ^ k : Nat) = p at *
    omega
/-- Up to seven bytes leave room for one more. -/
theorem tc_room (c : ByteArray) (k : Nat) (h : k ≤ 7) : -36028797018963968 ≤ tc c k ∧ tc c k < 36028797018963968 := by
  cases k with
  | zero => simp only [tc, sgn]; split <;> omega
  | succ k =>
    have := tc_bound c k
    rcases (by omega : k = 0 ∨ k = 1 ∨ k = 2 ∨ k = 3 ∨ k = 4 ∨ k = 5 ∨ k = 6) with rfl | rfl | rfl | rfl | rfl | rfl | rfl <;> simp at this ⊢ <;> omega

/-- The byte with index j of the n bytes of a number in two's complement. -/
def octZ (v : Int) (n j : Nat) : Nat := (v / (256 ^ (n - 1 - j) : Nat) % 256).toNat
def putZ (v : Int) (n : Nat) : List UInt8 := (List.range n).map fun j => UInt8.ofNat (octZ v n j)
def lenZ (v : Int) : Nat := Lib.bitLen (if v < 0 then -v - 1 else v).toNat / 8 + 1
def putInt (v : Int) : ByteArray := strOf (putZ v (lenZ v))

/-- Are there so many unused bits at the end, and are they 0? -/
def unusedOk (b : ByteArray) (u : Nat) : Bool := decide (u = 0) || (decide (b.size ≠ 0) && decide (u8at b (b.size - 1) % 2 ^ u = 0))
def bitsErr (c : ByteArray) : Nat := if c.size = 0 ∨ 7 < u8at c 0 ∨ unusedOk (c.extract 1 c.size) (u8at c 0) = false then 7 else 0
def bitsStr (c : ByteArray) : ByteArray := if bitsErr c = 0 then c.extract 1 c.size else ⟨#[]⟩
def bitsNum (c : ByteArray) : Nat := if bitsErr c = 0 then u8at c 0 else 0
def bitsVal (c : ByteArray) : Value := .tuple #[.string (bitsStr c), .int .i64 ((bitsNum c : Nat) : Int), .int .i64 ((bitsErr c : Nat) : Int)]
def putBitsErr (b : ByteArray) (u : Int) : Nat := if u < 0 ∨ 7 < u then 1 else if unusedOk b u.toNat = false then 7 else 0
def putBitsStr (b : ByteArray) (u : Int) : ByteArray := if putBitsErr b u = 0 then strOf (UInt8.ofNat u.toNat :: b.data.toList) else ⟨#[]⟩
def putBitsVal (b : ByteArray) (u : Int) : Value := .tuple #[.string (putBitsStr b u), .int .i64 ((putBitsErr b u : Nat) : Int)]

/-- Bit k of a list of bits, and the mask of the first k ones. -/
def bitAt (b : ByteArray) (k : Nat) : Bool := (u8at b (k / 8)).testBit (7 - k % 8)
def maskAt (b : ByteArray) : Nat → Nat
  | 0 => 0
  | k + 1 => if bitAt b k then maskAt b k ||| 2 ^ k else maskAt b k
def flagsNum (c : ByteArray) : Nat := 8 * (bitsStr c).size - bitsNum c
def flagsErr (c : ByteArray) : Nat :=
  if bitsErr c ≠ 0 then bitsErr c else if 0 < flagsNum c ∧ bitAt (bitsStr c) (flagsNum c - 1) = false then 7 else if 16 < flagsNum c then 1 else 0
def flagsMask (c : ByteArray) : Nat := if flagsErr c = 0 then maskAt (bitsStr c) (flagsNum c) else 0
def flagsVal (c : ByteArray) : Value := .tuple #[.int .i64 ((flagsMask c : Nat) : Int), .int .i64 ((flagsErr c : Nat) : Int)]

/-- The byte with index j of a list of named bits, of which the first k ones have been written. -/
def octF (m : Nat) (j : Nat) : Nat → Nat
  | 0 => 0
  | k + 1 => if k / 8 = j ∧ m.testBit k = true then octF m j k ||| 128 >>> (k % 8) else octF m j k
def putF (m n k : Nat) : List UInt8 := (List.range n).map fun j => UInt8.ofNat (octF m j k)
def putFlagsErr (m : Int) : Nat := if m < 0 ∨ 65535 < m then 1 else 0
def putFlagsStr (m : Int) : ByteArray :=
  if putFlagsErr m = 0 then strOf (UInt8.ofNat (8 * ((Lib.bitLen m.toNat + 7) / 8) - Lib.bitLen m.toNat) :: putF m.toNat ((Lib.bitLen m.toNat + 7) / 8) (Lib.bitLen m.toNat)) else ⟨#[]⟩
def putFlagsVal (m : Int) : Value := .tuple #[.string (putFlagsStr m), .int .i64 ((putFlagsErr m : Nat) : Int)]
end Go.Proofs.Ytkamoenjbllhjaa
