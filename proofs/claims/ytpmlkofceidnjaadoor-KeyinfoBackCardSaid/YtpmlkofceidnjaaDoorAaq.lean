/-
  Plain mathematics, no program: SHA-256 as functions on 32-bit words and lists of bytes, and the words as the integers that the model's slots hold.
  Nothing is claimed of the program here.
  Nothing is left of this text.
  Small laws on arrays that lie in a block of the call's own, whatever the program: the cells as a function of their place. Nothing is claimed of the program here.
  The contract of hash.schedule: for every block of 64 bytes it returns the 64 words that the rounds add; nothing that was there before the call has changed.
  Small laws on worlds: what a table holds, and that it still holds behind a call that leaves old memory alone. Nothing is claimed of the program here.
  Shifts of words by literals, as the walk spells them. Nothing is claimed of the program here.
-/
import Derived.WalkKit
import Derived.Test.YtpmlkofceidnjaaDoorRows
import Derived.WalkSpells
import Derived.WalkLawsBesides
import Derived.Deep.MidRow
import Derived.Deep.Draws
import Derived.Lib.Hide
import Derived.Deep.QuietTactic
import Derived.BigQuiet
import Derived.RegionTactic
import Derived.ChangeAlike
import Derived.LoopTactic
import Derived.StillTailTactics
namespace Go.Proofs.YtpmlkofceidnjaaDoor

/-- A word as the integer that a slot of type uint32 holds. -/
def u32 (x : BitVec 32) : Int := (x.toNat : Int)

theorem u32_lo (x : BitVec 32) : 0 ≤ u32 x := by unfold u32; omega
theorem u32_hi (x : BitVec 32) : u32 x ≤ 4294967295 := by unfold u32; have := x.isLt; omega
theorem wrap_u32_emod (n : Int) : IntKind.u32.wrap n = n % 4294967296 := by simp [IntKind.wrap, IntKind.bits, IntKind.signed]
@[go_sem] theorem u32_and_bv (x y : BitVec 32) : bits .and .u32 (u32 x) (u32 y) = u32 (x &&& y) := by
  unfold u32; rw [u32_and_nat _ _ x.isLt y.isLt, BitVec.toNat_and]
@[go_sem] theorem u32_or_bv (x y : BitVec 32) : bits .or .u32 (u32 x) (u32 y) = u32 (x ||| y) := by
  unfold u32; rw [u32_or_nat _ _ x.isLt y.isLt, BitVec.toNat_or]
@[go_sem] theorem u32_xor_bv (x y : BitVec 32) : bits .xor .u32 (u32 x) (u32 y) = u32 (x ^^^ y) := by
  unfold u32; rw [u32_xor_nat _ _ x.isLt y.isLt, BitVec.toNat_xor]
@[go_sem] theorem u32_add_bv (x y : BitVec 32) : IntKind.u32.wrap (u32 x + u32 y) = u32 (x + y) := by
  unfold u32; rw [wrap_u32_emod, BitVec.toNat_add]; omega
@[go_sem] theorem u32_not_bv (x : BitVec 32) : bits .xor .u32 4294967295 (u32 x) = u32 (~~~x) := by
  have h : (4294967295 : Int) = u32 (BitVec.allOnes 32) := by decide
  rw [h, u32_xor_bv, BitVec.allOnes_xor]
@[go_sem] theorem u32_signed : IntKind.u32.signed = false := rfl
@[go_sem] theorem u32_max : IntKind.u32.max = 4294967295 := by decide
theorem u32_shr_bv (x : BitVec 32) (n : Nat) : u32 x / 2 ^ n = u32 (x >>> n) := by
  unfold u32; rw [BitVec.toNat_ushiftRight, Nat.shiftRight_eq_div_pow]; simp
theorem u32_shl_bv (x : BitVec 32) (n : Nat) : IntKind.u32.wrap (u32 x * 2 ^ n) = u32 (x <<< n) := by
  unfold u32; rw [wrap_u32_emod, BitVec.toNat_shiftLeft, Nat.shiftLeft_eq]
  simp

@[go_sem] theorem u32_shl8 (x : BitVec 32) : IntKind.u32.wrap (u32 x * (256 : Int)) = u32 (x <<< 8) := u32_shl_bv x 8
@[go_sem] theorem u32_shr3 (x : BitVec 32) : u32 x / (8 : Int) = u32 (x >>> 3) := u32_shr_bv x 3
@[go_sem] theorem u32_shr10 (x : BitVec 32) : u32 x / (1024 : Int) = u32 (x >>> 10) := u32_shr_bv x 10

/-- A rotation to the right. -/
def rotr (x : BitVec 32) (n : Nat) : BitVec 32 := x <<< (32 - n) ||| x >>> n
/-- A byte as a word. -/
def bw (b : UInt8) : BitVec 32 := BitVec.ofNat 32 b.toNat
theorem bw_u32 (b : UInt8) : ((b.toNat : Nat) : Int) = u32 (bw b) := by
  unfold u32 bw; rw [BitVec.toNat_ofNat]; have := b.toNat_lt; omega
@[go_sem] theorem wrap_byte (b : UInt8) : IntKind.u32.wrap ((b.toNat : Nat) : Int) = u32 (bw b) := by
  rw [wrap_u32_emod, ← bw_u32]; have := b.toNat_lt; omega
@[go_sem] theorem wrap_word (x : BitVec 32) : IntKind.u32.wrap (u32 x) = u32 x := by
  rw [wrap_u32_emod]; have := u32_lo x; have := u32_hi x; omega

/-- The element at a place; nought behind the end. -/
def at8 (l : List UInt8) (j : Nat) : UInt8 := l.getD j 0
def at32 (L : List (BitVec 32)) (j : Nat) : BitVec 32 := L.getD j 0#32

/-- The word that bytes make, the most significant one first. -/
def wordOf (l : List UInt8) : BitVec 32 := l.foldl (fun a c => a <<< 8 ||| bw c) 0#32
/-- The state between two blocks, and the eight words within a block. -/
structure St where
  a : BitVec 32
  b : BitVec 32
  c : BitVec 32
  d : BitVec 32
  e : BitVec 32
  f : BitVec 32
  g : BitVec 32
  h : BitVec 32

def small0 (x : BitVec 32) : BitVec 32 := rotr x 7 ^^^ rotr x 18 ^^^ x >>> 3
def small1 (x : BitVec 32) : BitVec 32 := rotr x 17 ^^^ rotr x 19 ^^^ x >>> 10
def big0 (x : BitVec 32) : BitVec 32 := rotr x 2 ^^^ rotr x 13 ^^^ rotr x 22
def big1 (x : BitVec 32) : BitVec 32 := rotr x 6 ^^^ rotr x 11 ^^^ rotr x 25
def choose (e f g : BitVec 32) : BitVec 32 := e &&& f ^^^ ~~~e &&& g
def major (a b c : BitVec 32) : BitVec 32 := a &&& b ^^^ a &&& c ^^^ b &&& c

/-- The words that the rounds add: those of the block, then k further ones. -/
def newWord (L : List (BitVec 32)) (i : Nat) : BitVec 32 :=
  at32 L (i - 16) + small0 (at32 L (i - 15)) + at32 L (i - 7) + small1 (at32 L (i - 2))
def words16 (l : List UInt8) : List (BitVec 32) := (List.range 16).map fun j => wordOf ((l.drop (4 * j)).take 4)
def sched (l : List UInt8) : Nat → List (BitVec 32)
  | 0 => words16 l
  | k + 1 => sched l k ++ [newWord (sched l k) (16 + k)]
theorem at32_sched_step (l : List UInt8) (k j : Nat) : at32 (sched l (k + 1)) j = if j = 16 + k then newWord (sched l k) (16 + k) else at32 (sched l k) j := by
  have hl : ∀ k, (sched l k).length = 16 + k := fun k => by
    induction k with
    | zero => simp [sched, words16]
    | succ k ih => simp [sched, ih]; omega
  have h := hl k
  unfold at32
  rw [sched]
  by_cases e : j = 16 + k
  · subst e; rw [if_pos rfl]; simp [h]
  · rw [if_neg e]
    by_cases hlt : j < 16 + k
    · simp [List.getElem?_append, h, hlt]
    · rw [List.getD_eq_getElem?_getD, List.getD_eq_getElem?_getD, List.getElem?_append_right (by omega), List.getElem?_eq_none (by simp; omega), List.getElem?_eq_none (by omega)]
def kWords : List (BitVec 32) := [
  0x428a2f98, 0x71374491, 0xb5c0fbcf, 0xe9b5dba5, 0x3956c25b, 0x59f111f1, 0x923f82a4, 0xab1c5ed5,
  0xd807aa98, 0x12835b01, 0x243185be, 0x550c7dc3, 0x72be5d74, 0x80deb1fe, 0x9bdc06a7, 0xc19bf174,
  0xe49b69c1, 0xefbe4786, 0x0fc19dc6, 0x240ca1cc, 0x2de92c6f, 0x4a7484aa, 0x5cb0a9dc, 0x76f988da,
  0x983e5152, 0xa831c66d, 0xb00327c8, 0xbf597fc7, 0xc6e00bf3, 0xd5a79147, 0x06ca6351, 0x14292967,
  0x27b70a85, 0x2e1b2138, 0x4d2c6dfc, 0x53380d13, 0x650a7354, 0x766a0abb, 0x81c2c92e, 0x92722c85,
  0xa2bfe8a1, 0xa81a664b, 0xc24b8b70, 0xc76c51a3, 0xd192e819, 0xd6990624, 0xf40e3585, 0x106aa070,
  0x19a4c116, 0x1e376c08, 0x2748774c, 0x34b0bcb5, 0x391c0cb3, 0x4ed8aa4a, 0x5b9cca4f, 0x682e6ff3,
  0x748f82ee, 0x78a5636f, 0x84c87814, 0x8cc70208, 0x90befffa, 0xa4506ceb, 0xbef9a3f7, 0xc67178f2]
def iv : St := ⟨0x6a09e667, 0xbb67ae85, 0x3c6ef372, 0xa54ff53a, 0x510e527f, 0x9b05688c, 0x1f83d9ab, 0x5be0cd19⟩

/-- One round; n rounds; a block. -/
def step (k w : BitVec 32) (s : St) : St :=
  ⟨s.h + big1 s.e + choose s.e s.f s.g + k + w + (big0 s.a + major s.a s.b s.c), s.a, s.b, s.c, s.d + (s.h + big1 s.e + choose s.e s.f s.g + k + w), s.e, s.f, s.g⟩
def rounds (W : List (BitVec 32)) (s : St) : Nat → St
  | 0 => s
  | i + 1 => step (at32 kWords i) (at32 W i) (rounds W s i)
def addSt (s t : St) : St := ⟨s.a + t.a, s.b + t.b, s.c + t.c, s.d + t.d, s.e + t.e, s.f + t.f, s.g + t.g, s.h + t.h⟩
def compress (s : St) (l : List UInt8) : St := addSt s (rounds (sched l 48) s 64)

/-- The state behind n blocks of l. -/
def chain (l : List UInt8) : Nat → St
  | 0 => iv
  | n + 1 => compress (chain l n) ((l.drop (64 * n)).take 64)

/-- A word's bytes; a state's. -/
def wordBytes (x : BitVec 32) : List UInt8 := [UInt8.ofNat (x >>> 24).toNat, UInt8.ofNat (x >>> 16).toNat, UInt8.ofNat (x >>> 8).toNat, UInt8.ofNat x.toNat]
def stWords (s : St) : List (BitVec 32) := [s.a, s.b, s.c, s.d, s.e, s.f, s.g, s.h]
def stBytes (s : St) : List UInt8 := (stWords s).flatMap wordBytes

/-- The eight bytes of the number of bits. -/
def lenBytes (n : Nat) : List UInt8 := (List.range 8).map fun i => UInt8.ofNat (8 * n / 256 ^ (7 - i))
/-- What is put behind n bytes. -/
def padding (n : Nat) : List UInt8 := 0x80 :: (List.replicate ((119 - n % 64) % 64) 0 ++ lenBytes n)
theorem padding_length (n : Nat) : (padding n).length = 9 + (119 - n % 64) % 64 := by simp [padding, lenBytes]; omega
def padded (l : List UInt8) : List UInt8 := l ++ padding l.length
theorem padded_length (l : List UInt8) : (padded l).length % 64 = 0 := by
  simp only [padded, List.length_append, padding_length]; omega
/-- SHA-256. -/
def sha (l : List UInt8) : List UInt8 := stBytes (chain (padded l) ((padded l).length / 64))

/-! The bytes of the number of bits, put one by one from the last place of the block; the bytes of a state, by their places. -/
theorem byte_wrap (n : Nat) : IntKind.u8.wrap (n : Int) = (((UInt8.ofNat n).toNat : Nat) : Int) := by
  rw [UInt8.toNat_ofNat']; simp [IntKind.wrap, IntKind.bits, IntKind.signed]
theorem byte_wrap_u32 (x : BitVec 32) : IntKind.u8.wrap (u32 x) = (((UInt8.ofNat x.toNat).toNat : Nat) : Int) := byte_wrap x.toNat
def digestAt (s : St) (i : Nat) : UInt8 := UInt8.ofNat (at32 (stWords s) (i / 4) >>> (8 * (3 - i % 4))).toNat
theorem stBytes_eq (s : St) : stBytes s = (List.range 32).map (digestAt s) := by
  simp only [stBytes, stWords, wordBytes, List.range_eq_range', List.flatMap_cons, List.flatMap_nil, List.cons_append, List.nil_append, List.append_nil]
  simp only [List.range', List.map_cons, List.map_nil, digestAt, at32, stWords]
  simp
theorem stBytes_length (s : St) : (stBytes s).length = 32 := by rw [stBytes_eq]; simp

end Go.Proofs.YtpmlkofceidnjaaDoor

namespace Go.Proofs.YtpmlkofceidnjaaDoor
open Go.RowKit

/-- n cells, by their places. -/
def row (n : Nat) (g : Nat → Value) : Array Value := ((List.range n).map g).toArray
theorem row_size (n : Nat) (g : Nat → Value) : (row n g).size = n := by simp [row]
theorem row_get (n : Nat) (g : Nat → Value) (j : Nat) (h : j < n) : (row n g)[j]? = some (g j) := by simp [row, h]
theorem row_congr {n : Nat} {g g' : Nat → Value} (h : ∀ j, j < n → g j = g' j) : row n g = row n g' := by
  unfold row; congr 1; apply List.map_congr_left; intro j hj; exact h j (by simpa using hj)
theorem row_set (n : Nat) (g : Nat → Value) (j : Nat) (v : Value) (_h : j < n) : (row n g).setIfInBounds j v = row n (fun i => if i = j then v else g i) := by
  apply Array.ext_getElem?
  intro i
  rw [Array.getElem?_setIfInBounds]
  by_cases hi : i < n
  · by_cases e : j = i
    · subst e; rw [if_pos rfl, row_get _ _ _ hi, row_size]; simp [hi]
    · rw [if_neg e, row_get _ _ _ hi, row_get _ _ _ hi]; simp [show ¬ i = j from fun x => e x.symm]
  · have h1 : ∀ q : Nat → Value, (row n q)[i]? = none := fun q => by rw [Array.getElem?_eq_none]; rw [row_size]; omega
    rw [h1, h1]; split
    · rw [row_size]; simp; omega
    · rfl
def wordRow (L : List (BitVec 32)) : Array Value := row 64 fun j => .int .u32 (u32 (at32 L j))
theorem wordRow_get (L : List (BitVec 32)) (j : Nat) (h : j < 64) : (wordRow L)[j]? = some (.int .u32 (u32 (at32 L j))) := row_get _ _ _ h
theorem wordRow_put (L : List (BitVec 32)) (j : Nat) (x : BitVec 32) (h : j < 64) (L' : List (BitVec 32)) (hL : ∀ i, i < 64 → at32 L' i = if i = j then x else at32 L i) :
    (wordRow L).setIfInBounds j (.int .u32 (u32 x)) = wordRow L' := by
  unfold wordRow; rw [row_set _ _ _ _ h]; apply row_congr; intro i hi; rw [hL i hi]; split <;> rfl

/-- A new variable of an array's type: its zero value lies in a new block. -/
theorem wpList_alloc_row {P : Program} {ops : Array Oper} {rest : List Oper} {o : Oper} {a : Act} {w : World} {Q : Exit → Act → World → Prop} (hgd : o.guard = none) (ty : TypeId) (ho : o.op = .alloc ty)
    (cs : Array Value) (hz : ∀ w, (zeroValue ty).run P w = .ok (.agg cs) w)
    (h : wpList P ops Q rest (a.put o.dst (.pointer (some ⟨w.heap.size, 0, none⟩))) (w.alloc (.cells cs ty))) : wpList P ops Q (o :: rest) a w := by
  refine wpList_plain hgd fun K hK => ?_
  unfold Oper.wp execOp
  simp only [ho, Instr.alloc, Sem.run_bind, hz, Result.andThen_ok, newVar, newRow, run_newObj_alloc, Sem.run_pure, Value.cells]
  exact hK _ _ h

/-- A store into the block that was made last, behind draws. -/
theorem setCell_last (W : World) (C : Array Value) (t : TypeId) (n b j : Nat) (v : Value) (hb : b = W.heap.size) :
    ((W.alloc (.cells C t)).drewN n).setCell ⟨b, j, none⟩ v = (W.alloc (.cells (C.setIfInBounds j v) t)).drewN n := by
  rw [← World.setCell_alloc_at C t b j v hb]; rfl

end Go.Proofs.YtpmlkofceidnjaaDoor
namespace Go.Proofs.YtpmlkofceidnjaaDoor
open Go.RowKit
theorem zeroWords : ∀ w, (zeroValue 92).run Tryd.prog w = .ok (.agg (wordRow [])) w := by intro w; kernel_rfl
theorem sizeByte : ∀ w, (sizeOf 5).run Tryd.prog w = .ok 1 w := by intro w; kernel_rfl
end Go.Proofs.YtpmlkofceidnjaaDoor
namespace Go.Proofs.YtpmlkofceidnjaaDoor
open Go.RowKit

/-- Block b holds the words of L as its first 64 cells. -/
def Holds (w : World) (b : Nat) (L : List (BitVec 32)) : Prop := ∀ i, i < 64 → w.cell? ⟨b, i, none⟩ = some (.int .u32 (u32 (at32 L i)))
theorem Holds.at {w : World} {b : Nat} {L : List (BitVec 32)} (h : Holds w b L) (i : Nat) (hi : i < 64) : w.cell? ⟨b, i, none⟩ = some (.int .u32 (u32 (at32 L i))) := h i hi
theorem Holds.lt {w : World} {b : Nat} {L : List (BitVec 32)} (h : Holds w b L) : b < w.heap.size := block_lt_of_cell (h 0 (by omega))
theorem Holds.below {w w' : World} {b B : Nat} {L : List (BitVec 32)} (h : Holds w b L) (hb : Below B w w') (hB : b < B) : Holds w' b L := fun i hi => (hb.cell (p := ⟨b, i, none⟩) hB).trans (h i hi)
theorem Holds.old {w w' : World} {b : Nat} {L : List (BitVec 32)} (h : Holds w b L) (hb : Below w.heap.size w w') : Holds w' b L := h.below hb h.lt
theorem Holds.of_row {w : World} {b : Nat} {L : List (BitVec 32)} {t : TypeId} {fr : Nat × Nat} (h : w.heap[b]? = some (.cells (wordRow L) t fr)) : Holds w b L := fun i hi => by
  rw [cell_of_row w b i _ t fr h, wordRow_get L i hi]

/-- The state in eight cells. -/
abbrev stRow (s : St) : Array Value := #[.int .u32 (u32 s.a), .int .u32 (u32 s.b), .int .u32 (u32 s.c), .int .u32 (u32 s.d), .int .u32 (u32 s.e), .int .u32 (u32 s.f), .int .u32 (u32 s.g), .int .u32 (u32 s.h)]

end Go.Proofs.YtpmlkofceidnjaaDoor
namespace Go.Proofs.YtpmlkofceidnjaaDoor
@[go_sem] theorem u32_shl_7 (x : BitVec 32) : IntKind.u32.wrap (u32 x * (128 : Int)) = u32 (x <<< 7) := u32_shl_bv x 7
@[go_sem] theorem u32_shl_10 (x : BitVec 32) : IntKind.u32.wrap (u32 x * (1024 : Int)) = u32 (x <<< 10) := u32_shl_bv x 10
@[go_sem] theorem u32_shl_13 (x : BitVec 32) : IntKind.u32.wrap (u32 x * (8192 : Int)) = u32 (x <<< 13) := u32_shl_bv x 13
@[go_sem] theorem u32_shl_14 (x : BitVec 32) : IntKind.u32.wrap (u32 x * (16384 : Int)) = u32 (x <<< 14) := u32_shl_bv x 14
@[go_sem] theorem u32_shl_15 (x : BitVec 32) : IntKind.u32.wrap (u32 x * (32768 : Int)) = u32 (x <<< 15) := u32_shl_bv x 15
@[go_sem] theorem u32_shl_16 (x : BitVec 32) : IntKind.u32.wrap (u32 x * (65536 : Int)) = u32 (x <<< 16) := u32_shl_bv x 16
@[go_sem] theorem u32_shl_19 (x : BitVec 32) : IntKind.u32.wrap (u32 x * (524288 : Int)) = u32 (x <<< 19) := u32_shl_bv x 19
@[go_sem] theorem u32_shl_21 (x : BitVec 32) : IntKind.u32.wrap (u32 x * (2097152 : Int)) = u32 (x <<< 21) := u32_shl_bv x 21
@[go_sem] theorem u32_shl_24 (x : BitVec 32) : IntKind.u32.wrap (u32 x * (16777216 : Int)) = u32 (x <<< 24) := u32_shl_bv x 24
@[go_sem] theorem u32_shl_25 (x : BitVec 32) : IntKind.u32.wrap (u32 x * (33554432 : Int)) = u32 (x <<< 25) := u32_shl_bv x 25
@[go_sem] theorem u32_shl_26 (x : BitVec 32) : IntKind.u32.wrap (u32 x * (67108864 : Int)) = u32 (x <<< 26) := u32_shl_bv x 26
@[go_sem] theorem u32_shl_30 (x : BitVec 32) : IntKind.u32.wrap (u32 x * (1073741824 : Int)) = u32 (x <<< 30) := u32_shl_bv x 30
@[go_sem] theorem u32_shr_2 (x : BitVec 32) : u32 x / (4 : Int) = u32 (x >>> 2) := u32_shr_bv x 2
@[go_sem] theorem u32_shr_6 (x : BitVec 32) : u32 x / (64 : Int) = u32 (x >>> 6) := u32_shr_bv x 6
@[go_sem] theorem u32_shr_7 (x : BitVec 32) : u32 x / (128 : Int) = u32 (x >>> 7) := u32_shr_bv x 7
@[go_sem] theorem u32_shr_8 (x : BitVec 32) : u32 x / (256 : Int) = u32 (x >>> 8) := u32_shr_bv x 8
@[go_sem] theorem u32_shr_11 (x : BitVec 32) : u32 x / (2048 : Int) = u32 (x >>> 11) := u32_shr_bv x 11
@[go_sem] theorem u32_shr_13 (x : BitVec 32) : u32 x / (8192 : Int) = u32 (x >>> 13) := u32_shr_bv x 13
@[go_sem] theorem u32_shr_16 (x : BitVec 32) : u32 x / (65536 : Int) = u32 (x >>> 16) := u32_shr_bv x 16
@[go_sem] theorem u32_shr_17 (x : BitVec 32) : u32 x / (131072 : Int) = u32 (x >>> 17) := u32_shr_bv x 17
@[go_sem] theorem u32_shr_18 (x : BitVec 32) : u32 x / (262144 : Int) = u32 (x >>> 18) := u32_shr_bv x 18
@[go_sem] theorem u32_shr_19 (x : BitVec 32) : u32 x / (524288 : Int) = u32 (x >>> 19) := u32_shr_bv x 19
@[go_sem] theorem u32_shr_22 (x : BitVec 32) : u32 x / (4194304 : Int) = u32 (x >>> 22) := u32_shr_bv x 22
@[go_sem] theorem u32_shr_24 (x : BitVec 32) : u32 x / (16777216 : Int) = u32 (x >>> 24) := u32_shr_bv x 24
@[go_sem] theorem u32_shr_25 (x : BitVec 32) : u32 x / (33554432 : Int) = u32 (x >>> 25) := u32_shr_bv x 25
@[go_sem] theorem rot_eq_2 (x : BitVec 32) : x >>> 2 ||| x <<< 30 = rotr x 2 := BitVec.or_comm _ _
@[go_sem] theorem rot_eq_6 (x : BitVec 32) : x >>> 6 ||| x <<< 26 = rotr x 6 := BitVec.or_comm _ _
@[go_sem] theorem rot_eq_7 (x : BitVec 32) : x >>> 7 ||| x <<< 25 = rotr x 7 := BitVec.or_comm _ _
@[go_sem] theorem rot_eq_11 (x : BitVec 32) : x >>> 11 ||| x <<< 21 = rotr x 11 := BitVec.or_comm _ _
@[go_sem] theorem rot_eq_13 (x : BitVec 32) : x >>> 13 ||| x <<< 19 = rotr x 13 := BitVec.or_comm _ _
@[go_sem] theorem rot_eq_17 (x : BitVec 32) : x >>> 17 ||| x <<< 15 = rotr x 17 := BitVec.or_comm _ _
@[go_sem] theorem rot_eq_18 (x : BitVec 32) : x >>> 18 ||| x <<< 14 = rotr x 18 := BitVec.or_comm _ _
@[go_sem] theorem rot_eq_19 (x : BitVec 32) : x >>> 19 ||| x <<< 13 = rotr x 19 := BitVec.or_comm _ _
@[go_sem] theorem rot_eq_22 (x : BitVec 32) : x >>> 22 ||| x <<< 10 = rotr x 22 := BitVec.or_comm _ _
@[go_sem] theorem rot_eq_25 (x : BitVec 32) : x >>> 25 ||| x <<< 7 = rotr x 25 := BitVec.or_comm _ _

theorem shl_shl (x : BitVec 32) (a b : Nat) : (x <<< a) <<< b = x <<< (a + b) := by rw [BitVec.shiftLeft_add]
/-- Four bytes, the most significant one first. -/
theorem wordOf_four (a b c d : UInt8) : wordOf [a, b, c, d] = bw a <<< 24 ||| bw b <<< 16 ||| bw c <<< 8 ||| bw d := by
  simp only [wordOf, List.foldl_cons, List.foldl_nil, BitVec.shiftLeft_or_distrib, shl_shl, BitVec.zero_shiftLeft, BitVec.zero_or]
end Go.Proofs.YtpmlkofceidnjaaDoor
