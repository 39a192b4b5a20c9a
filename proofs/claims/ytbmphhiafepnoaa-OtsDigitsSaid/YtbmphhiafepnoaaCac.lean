/-
  Plain mathematics, no program: SHA-256 as functions on 32-bit words and lists of bytes, and the words as the integers that the model's slots hold.
  Nothing is claimed of the program here.
-/
import Derived.WalkKit
namespace Go.Proofs.Ytbmphhiafepnoaa

/-- A word as the integer that a slot of type uint32 holds. -/
def u32 (x : BitVec 32) : Int := (x.toNat : Int)

theorem u32_lo (x : BitVec 32) : 0 ≤ u32 x := by unfold u32; omega
theorem u32_hi (x : BitVec 32) : u32 x ≤ 4294967295 := by unfold u32; have := x.isLt; omega
theorem wrap_u32_emod (n : Int) : IntKind.u32.wrap n = n % 4294967296 := by simp [IntKind.wrap, IntKind.bits, IntKind.signed]
@[go_sem] theorem u32_and_bv (x y : BitVec 32) : bits .and .u32 (u32 x) (u32 y) = u32 (x &&& y) := by
  unfold u32; rw [u32_and_nat _ _ x.isLt y.isLt, BitVec.toNat_and]
@[go_sem] theorem u32_or_bv (x y : BitVec 32) : bits .or .u32 (u32 x) (u32 y) = u32 (x ||| y) := by
  unfold u32; rw [u32_or_nat _ _ x.isLt y.isLt, BitVec.toNat_or]
@[go_sem] theorem u32_xor_bv (x y : BitVec 32) : bits .xor .u32 (u32 x) (u32 y) = u32 (x ^^^ y) := by
  unfold u32; rw [u32_xor_nat _ _ x.isLt y.isLt, BitVec.toNat_xor]
@[go_sem] theorem u32_add_bv (x y : BitVec 32) : IntKind.u32.wrap (u32 x + u32 y) = u32 (x + y) := by
  unfold u32; rw [wrap_u32_emod, BitVec.toNat_add]; omega
@[go_sem] theorem u32_not_bv (x : BitVec 32) : bits .xor .u32 4294967295 (u32 x) = u32 (~~~x) := by
  have h : (4294967295 : Int) = u32 (BitVec.allOnes 32) := by decide
  rw [h, u32_xor_bv, BitVec.allOnes_xor]
@[go_sem] theorem u32_signed : IntKind.u32.signed = false := rfl
@[go_sem] theorem u32_max : IntKind.u32.max = 4294967295 := by decide
theorem u32_shr_bv (x : BitVec 32) (n : Nat) : u32 x / 2 ^ n = u32 (x >>> n) := by
  unfold u32; rw [BitVec.toNat_ushiftRight, Nat.shiftRight_eq_div_pow]; simp
theorem u32_shl_bv (x : BitVec 32) (n : Nat) : IntKind.u32.wrap (u32 x * 2 ^ n) = u32 (x <<< n) := by
  unfold u32; rw [wrap_u32_emod, BitVec.toNat_shiftLeft, Nat.shiftLeft_eq]
  simp

@[go_sem] theorem u32_shl8 (x : BitVec 32) : IntKind.u32.wrap (u32 x * (256 : Int)) = u32 (x <<< 8) := u32_shl_bv x 8
@[go_sem] theorem u32_shr3 (x : BitVec 32) : u32 x / (8 : Int) = u32 (x >>> 3) := u32_shr_bv x 3
@[go_sem] theorem u32_shr10 (x : BitVec 32) : u32 x / (1024 : Int) = u32 (x >>> 10) := u32_shr_bv x 10

/-- A rotation to the right. -/
def rotr (x : BitVec 32) (n : Nat) : BitVec 32 := x <<< (32 - n) ||| x >>> n
/-- A byte as a word. -/
def bw (b : UInt8) : BitVec 32 := BitVec.ofNat 32 b.toNat
theorem bw_u32 (b : UInt8) : ((b.toNat : Nat) : Int) = u32 (bw b) := by
  unfold u32 bw; rw [BitVec.toNat_ofNat]; have := b.toNat_lt; omega
@[go_sem] theorem wrap_byte (b : UInt8) : IntKind.u32.wrap ((b.toNat : Nat) : Int) = u32 (bw b) := by
  rw [wrap_u32_emod, ← bw_u32]; have := b.toNat_lt; omega
@[go_sem] theorem wrap_word (x : BitVec 32) : IntKind.u32.wrap (u32 x) = u32 x := by
  rw [wrap_u32_emod]; have := u32_lo x; have := u32_hi x; omega

/-- The element at a place; nought behind the end. -/
def at8 (l : List UInt8) (j : Nat) : UInt8 := l.getD j 0
def at32 (L : List (BitVec 32)) (j : Nat) : BitVec 32 := L.getD j 0#32

/-- The word that bytes make, the most significant one first. -/
def wordOf (l : List UInt8) : BitVec 32 := l.foldl (fun a c => a <<< 8 ||| bw c) 0#32
/-- The state between two blocks, and the eight words within a block. -/
structure St where
  a : BitVec 32
  b : BitVec 32
  c : BitVec 32
  d : BitVec 32
  e : BitVec 32
  f : BitVec 32
  g : BitVec 32
  h : BitVec 32

def small0 (x : BitVec 32) : BitVec 32 := rotr x 7 ^^^ rotr x 18 ^^^ x >>> 3
def small1 (x : BitVec 32) : BitVec 32 := rotr x 17 ^^^ rotr x 19 ^^^ x >>> 10
def big0 (x : BitVec 32) : BitVec 32 := rotr x 2 ^^^ rotr x 13 ^^^ rotr x 22
def big1 (x : BitVec 32) : BitVec 32 := rotr x 6 ^^^ rotr x 11 ^^^ rotr x 25
def choose (e f g : BitVec 32) : BitVec 32 := e &&& f ^^^ ~~~e &&& g
def major (a b c : BitVec 32) : BitVec 32 := a &&& b ^^^ a &&& c ^^^ b &&& c

/-- The words that the rounds add: those of the block, then k further ones. -/
def newWord (L : List (BitVec 32)) (i : Nat) : BitVec 32 :=
  at32 L (i - 16) + small0 (at32 L (i - 15)) + at32 L (i - 7) + small1 (at32 L (i - 2))
def words16 (l : List UInt8) : List (BitVec 32) := (List.range 16).map fun j => wordOf ((l.drop (4 * j)).take 4)
def sched (l : List UInt8) : Nat → List (BitVec 32)
  | 0 => words16 l
  | k + 1 => sched l k ++ [newWord (sched l k) (16 + k)]
theorem at32_sched_step (l : List UInt8) (k j : Nat) : at32 (sched l (k + 1)) j = if j = 16 + k then newWord (sched l k) (16 + k) else at32 (sched l k) j := by
  have hl : ∀ k, (sched l k).length = 16 + k := fun k => by
    induction k with
    | zero => simp [sched, words16]
    | succ k ih => simp [sched, ih]; omega
  have h := hl k
  unfold at32
  rw [sched]
  by_cases e : j = 16 + k
  · subst e; rw [if_pos rfl]; simp [h]
  · rw [if_neg e]
    by_cases hlt : j < 16 + k
    · simp [List.getElem?_append, h, hlt]
    · rw [List.getD_eq_getElem?_getD, List.getD_eq_getElem?_getD, List.getElem?_append_right (by omega), List.getElem?_eq_none (by simp; omega), List.getElem?_eq_none (by omega)]
def kWords : List (BitVec 32) := [
  0x428a2f98, 0x71374491, 0xb5c0fbcf, 0xe9b5dba5, 0x3956c25b, 0x59f111f1, 0x923f82a4, 0xab1c5ed5,
  0xd807aa98, 0x12835b01, 0x243185be, 0x550c7dc3, 0x72be5d74, 0x80deb1fe, 0x9bdc06a7, 0xc19bf174,
  0xe49b69c1, 0xefbe4786, 0x0fc19dc6, 0x240ca1cc, 0x2de92c6f, 0x4a7484aa, 0x5cb0a9dc, 0x76f988da,
  0x983e5152, 0xa831c66d, 0xb00327c8, 0xbf597fc7, 0xc6e00bf3, 0xd5a79147, 0x06ca6351, 0x14292967,
  0x27b70a85, 0x2e1b2138, 0x4d2c6dfc, 0x53380d13, 0x650a7354, 0x766a0abb, 0x81c2c92e, 0x92722c85,
  0xa2bfe8a1, 0xa81a664b, 0xc24b8b70, 0xc76c51a3, 0xd192e819, 0xd6990624, 0xf40e3585, 0x106aa070,
  0x19a4c116, 0x1e376c08, 0x2748774c, 0x34b0bcb5, 0x391c0cb3, 0x4ed8aa4a, 0x5b9cca4f, 0x682e6ff3,
  0x748f82ee, 0x78a5636f, 0x84c87814, 0x8cc70208, 0x90befffa, 0xa4506ceb, 0xbef9a3f7, 0xc67178f2]
def iv : St := ⟨0x6a09e667, 0xbb67ae85, 0x3c6ef372, 0xa54ff53a, 0x510e527f, 0x9b05688c, 0x1f83d9ab, 0x5be0cd19⟩

/-- One round; n rounds; a block. -/
def step (k w : BitVec 32) (s : St) : St :=
  ⟨s.h + big1 s.e + choose s.e s.f s.g + k + w + (big0 s.a + major s.a s.b s.c), s.a, s.b, s.c, s.d + (s.h + big1 s.e + choose s.e s.f s.g + k + w), s.e, s.f, s.g⟩
def rounds (W : List (BitVec 32)) (s : St) : Nat → St
  | 0 => s
  | i + 1 => step (at32 kWords i) (at32 W i) (rounds W s i)
def addSt (s t : St) : St := ⟨s.a + t.a, s.b + t.b, s.c + t.c, s.d + t.d, s.e + t.e, s.f + t.f, s.g + t.g, s.h + t.h⟩
def compress (s : St) (l : List UInt8) : St := addSt s (rounds (sched l 48) s 64)

/-- The state behind n blocks of l. -/
def chain (l : List UInt8) : Nat → St
  | 0 => iv
  | n + 1 => compress (chain l n) ((l.drop (64 * n)).take 64)

/-- A word's bytes; a state's. -/
def wordBytes (x : BitVec 32) : List UInt8 := [UInt8.ofNat (x >>> 24).toNat, UInt8.ofNat (x >>> 16).toNat, UInt8.ofNat (x >>> 8).toNat, UInt8.ofNat x.toNat]
def stWords (s : St) : List (BitVec 32) := [s.a, s.b, s.c, s.d, s.e, s.f, s.g, s.h]
def stBytes (s : St) : List UInt8 := (stWords s).flatMap wordBytes

/-- The eight bytes of the number of bits. -/
def lenBytes (n : Nat) : List UInt8 := (List.range 8).map fun i => UInt8.ofNat (8 * n / 256 ^ (7 - i))
/-- What is put behind n bytes. -/
def padding (n : Nat) : List UInt8 := 0x80 :: (List.replicate ((119 - n % 64) % 64) 0 ++ lenBytes n)
theorem padding_length (n : Nat) : (padding n).length = 9 + (119 - n % 64) % 64 := by simp [padding, lenBytes]; omega
def padded (l : List UInt8) : List UInt8 := l ++ padding l.length
theorem padded_length (l : List UInt8) : (padded l).length % 64 = 0 := by
  simp only [padded, List.length_append, padding_length]; omega
/-- SHA-256. -/
def sha (l : List UInt8) : List UInt8 := stBytes (chain (padded l) ((padded l).length / 64))

/-! The bytes of the number of bits, put one by one from the last place of the block; the bytes of a state, by their places. -/
theorem byte_wrap (n : Nat) : IntKind.u8.wrap (n : Int) = (((UInt8.ofNat n).toNat : Nat) : Int) := by
  rw [UInt8.toNat_ofNat']; simp [IntKind.wrap, IntKind.bits, IntKind.signed]
theorem byte_wrap_u32 (x : BitVec 32) : IntKind.u8.wrap (u32 x) = (((UInt8.ofNat x.toNat).toNat : Nat) : Int) := byte_wrap x.toNat
def digestAt (s : St) (i : Nat) : UInt8 := UInt8.ofNat (at32 (stWords s) (i / 4) >>> (8 * (3 - i % 4))).toNat
theorem stBytes_eq (s : St) : stBytes s = (List.range 32).map (digestAt s) := by
  simp only [stBytes, stWords, wordBytes, List.range_eq_range', List.flatMap_cons, List.flatMap_nil, List.cons_append, List.nil_append, List.append_nil]
  simp only [List.range', List.map_cons, List.map_nil, digestAt, at32, stWords]
  simp
theorem stBytes_length (s : St) : (stBytes s).length = 32 := by rw [stBytes_eq]; simp

end Go.Proofs.Ytbmphhiafepnoaa
