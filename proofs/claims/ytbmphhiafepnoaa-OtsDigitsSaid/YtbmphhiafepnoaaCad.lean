/-
  Nothing is left of this text.
  Small laws on arrays that lie in a block of the call's own, whatever the program: the cells as a function of their place. Nothing is claimed of the program here.
  The contract of hash.schedule: for every block of 64 bytes it returns the 64 words that the rounds add; nothing that was there before the call has changed.
  Small laws on worlds: what a table holds, and that it still holds behind a call that leaves old memory alone. Nothing is claimed of the program here.
  Shifts of words by literals, as the walk spells them. Nothing is claimed of the program here.
-/
import Derived.Test.YtbmphhiafepnoaaRows
import Derived.Test.YtbmphhiafepnoaaCac
import Derived.WalkKit
import Derived.WalkSpells
import Derived.WalkLawsBesides
import Derived.Deep.MidRow
import Derived.Deep.Draws
import Derived.Lib.Hide
import Derived.Deep.QuietTactic
import Derived.BigQuiet
import Derived.RegionTactic
import Derived.ChangeAlike
import Derived.LoopTactic
import Derived.StillTailTactics

namespace Go.Proofs.Ytbmphhiafepnoaa
open Go.RowKit

/-- n cells, by their places. -/
def row (n : Nat) (g : Nat → Value) : Array Value := ((List.range n).map g).toArray
theorem row_size (n : Nat) (g : Nat → Value) : (row n g).size = n := by simp [row]
theorem row_get (n : Nat) (g : Nat → Value) (j : Nat) (h : j < n) : (row n g)[j]? = some (g j) := by simp [row, h]
theorem row_congr {n : Nat} {g g' : Nat → Value} (h : ∀ j, j < n → g j = g' j) : row n g = row n g' := by
  unfold row; congr 1; apply List.map_congr_left; intro j hj; exact h j (by simpa using hj)
theorem row_set (n : Nat) (g : Nat → Value) (j : Nat) (v : Value) (_h : j < n) : (row n g).setIfInBounds j v = row n (fun i => if i = j then v else g i) := by
  apply Array.ext_getElem?
  intro i
  rw [Array.getElem?_setIfInBounds]
  by_cases hi : i < n
  · by_cases e : j = i
    · subst e; rw [if_pos rfl, row_get _ _ _ hi, row_size]; simp [hi]
    · rw [if_neg e, row_get _ _ _ hi, row_get _ _ _ hi]; simp [show ¬ i = j from fun x => e x.symm]
  · have h1 : ∀ q : Nat → Value, (row n q)[i]? = none := fun q => by rw [Array.getElem?_eq_none]; rw [row_size]; omega
    rw [h1, h1]; split
    · rw [row_size]; simp; omega
    · rfl
def wordRow (L : List (BitVec 32)) : Array Value := row 64 fun j => .int .u32 (u32 (at32 L j))
theorem wordRow_get (L : List (BitVec 32)) (j : Nat) (h : j < 64) : (wordRow L)[j]? = some (.int .u32 (u32 (at32 L j))) := row_get _ _ _ h
theorem wordRow_put (L : List (BitVec 32)) (j : Nat) (x : BitVec 32) (h : j < 64) (L' : List (BitVec 32)) (hL : ∀ i, i < 64 → at32 L' i = if i = j then x else at32 L i) :
    (wordRow L).setIfInBounds j (.int .u32 (u32 x)) = wordRow L' := by
  unfold wordRow; rw [row_set _ _ _ _ h]; apply row_congr; intro i hi; rw [hL i hi]; split <;> rfl

/-- A new variable of an array's type: its zero value lies in a new block. -/
theorem wpList_alloc_row {P : Program} {ops : Array Oper} {rest : List Oper} {o : Oper} {a : Act} {w : World} {Q : Exit → Act → World → Prop} (hgd : o.guard = none) (ty : TypeId) (ho : o.op = .alloc ty)
    (cs : Array Value) (hz : ∀ w, (zeroValue ty).run P w = .ok (.agg cs) w)
    (h : wpList P ops Q rest (a.put o.dst (.pointer (some ⟨w.heap.size, 0, none⟩))) (w.alloc (.cells cs ty))) : wpList P ops Q (o :: rest) a w := by
  refine wpList_plain hgd fun K hK => ?_
  unfold Oper.wp execOp
  simp only [ho, Instr.alloc, Sem.run_bind, hz, Result.andThen_ok, newVar, newRow, run_newObj_alloc, Sem.run_pure, Value.cells]
  exact hK _ _ h

/-- A store into the block that was made last, behind draws. -/
theorem setCell_last (W : World) (C : Array Value) (t : TypeId) (n b j : Nat) (v : Value) (hb : b = W.heap.size) :
    ((W.alloc (.cells C t)).drewN n).setCell ⟨b, j, none⟩ v = (W.alloc (.cells (C.setIfInBounds j v) t)).drewN n := by
  rw [← World.setCell_alloc_at C t b j v hb]; rfl

end Go.Proofs.Ytbmphhiafepnoaa
namespace Go.Proofs.Ytbmphhiafepnoaa
open Go.RowKit
theorem zeroWords : ∀ w, (zeroValue 39).run Try.prog w = .ok (.agg (wordRow [])) w := by intro w; kernel_rfl
end Go.Proofs.Ytbmphhiafepnoaa
namespace Go.Proofs.Ytbmphhiafepnoaa
open Go.RowKit

/-- Block b holds the words of L as its first 64 cells. -/
def Holds (w : World) (b : Nat) (L : List (BitVec 32)) : Prop := ∀ i, i < 64 → w.cell? ⟨b, i, none⟩ = some (.int .u32 (u32 (at32 L i)))
theorem Holds.at {w : World} {b : Nat} {L : List (BitVec 32)} (h : Holds w b L) (i : Nat) (hi : i < 64) : w.cell? ⟨b, i, none⟩ = some (.int .u32 (u32 (at32 L i))) := h i hi
theorem Holds.lt {w : World} {b : Nat} {L : List (BitVec 32)} (h : Holds w b L) : b < w.heap.size := block_lt_of_cell (h 0 (by omega))
theorem Holds.below {w w' : World} {b B : Nat} {L : List (BitVec 32)} (h : Holds w b L) (hb : Below B w w') (hB : b < B) : Holds w' b L := fun i hi => (hb.cell (p := ⟨b, i, none⟩) hB).trans (h i hi)
theorem Holds.old {w w' : World} {b : Nat} {L : List (BitVec 32)} (h : Holds w b L) (hb : Below w.heap.size w w') : Holds w' b L := h.below hb h.lt
theorem Holds.of_row {w : World} {b : Nat} {L : List (BitVec 32)} {t : TypeId} {fr : Nat × Nat} (h : w.heap[b]? = some (.cells (wordRow L) t fr)) : Holds w b L := fun i hi => by
  rw [cell_of_row w b i _ t fr h, wordRow_get L i hi]

/-- The state in eight cells. -/
abbrev stRow (s : St) : Array Value := #[.int .u32 (u32 s.a), .int .u32 (u32 s.b), .int .u32 (u32 s.c), .int .u32 (u32 s.d), .int .u32 (u32 s.e), .int .u32 (u32 s.f), .int .u32 (u32 s.g), .int .u32 (u32 s.h)]

end Go.Proofs.Ytbmphhiafepnoaa
namespace Go.Proofs.Ytbmphhiafepnoaa
@[go_sem] theorem u32_shl_7 (x : BitVec 32) : IntKind.u32.wrap (u32 x * (128 : Int)) = u32 (x <<< 7) := u32_shl_bv x 7
@[go_sem] theorem u32_shl_10 (x : BitVec 32) : IntKind.u32.wrap (u32 x * (1024 : Int)) = u32 (x <<< 10) := u32_shl_bv x 10
@[go_sem] theorem u32_shl_13 (x : BitVec 32) : IntKind.u32.wrap (u32 x * (8192 : Int)) = u32 (x <<< 13) := u32_shl_bv x 13
@[go_sem] theorem u32_shl_14 (x : BitVec 32) : IntKind.u32.wrap (u32 x * (16384 : Int)) = u32 (x <<< 14) := u32_shl_bv x 14
@[go_sem] theorem u32_shl_15 (x : BitVec 32) : IntKind.u32.wrap (u32 x * (32768 : Int)) = u32 (x <<< 15) := u32_shl_bv x 15
@[go_sem] theorem u32_shl_16 (x : BitVec 32) : IntKind.u32.wrap (u32 x * (65536 : Int)) = u32 (x <<< 16) := u32_shl_bv x 16
@[go_sem] theorem u32_shl_19 (x : BitVec 32) : IntKind.u32.wrap (u32 x * (524288 : Int)) = u32 (x <<< 19) := u32_shl_bv x 19
@[go_sem] theorem u32_shl_21 (x : BitVec 32) : IntKind.u32.wrap (u32 x * (2097152 : Int)) = u32 (x <<< 21) := u32_shl_bv x 21
@[go_sem] theorem u32_shl_24 (x : BitVec 32) : IntKind.u32.wrap (u32 x * (16777216 : Int)) = u32 (x <<< 24) := u32_shl_bv x 24
@[go_sem] theorem u32_shl_25 (x : BitVec 32) : IntKind.u32.wrap (u32 x * (33554432 : Int)) = u32 (x <<< 25) := u32_shl_bv x 25
@[go_sem] theorem u32_shl_26 (x : BitVec 32) : IntKind.u32.wrap (u32 x * (67108864 : Int)) = u32 (x <<< 26) := u32_shl_bv x 26
@[go_sem] theorem u32_shl_30 (x : BitVec 32) : IntKind.u32.wrap (u32 x * (1073741824 : Int)) = u32 (x <<< 30) := u32_shl_bv x 30
@[go_sem] theorem u32_shr_2 (x : BitVec 32) : u32 x / (4 : Int) = u32 (x >>> 2) := u32_shr_bv x 2
@[go_sem] theorem u32_shr_6 (x : BitVec 32) : u32 x / (64 : Int) = u32 (x >>> 6) := u32_shr_bv x 6
@[go_sem] theorem u32_shr_7 (x : BitVec 32) : u32 x / (128 : Int) = u32 (x >>> 7) := u32_shr_bv x 7
@[go_sem] theorem u32_shr_8 (x : BitVec 32) : u32 x / (256 : Int) = u32 (x >>> 8) := u32_shr_bv x 8
@[go_sem] theorem u32_shr_11 (x : BitVec 32) : u32 x / (2048 : Int) = u32 (x >>> 11) := u32_shr_bv x 11
@[go_sem] theorem u32_shr_13 (x : BitVec 32) : u32 x / (8192 : Int) = u32 (x >>> 13) := u32_shr_bv x 13
@[go_sem] theorem u32_shr_16 (x : BitVec 32) : u32 x / (65536 : Int) = u32 (x >>> 16) := u32_shr_bv x 16
@[go_sem] theorem u32_shr_17 (x : BitVec 32) : u32 x / (131072 : Int) = u32 (x >>> 17) := u32_shr_bv x 17
@[go_sem] theorem u32_shr_18 (x : BitVec 32) : u32 x / (262144 : Int) = u32 (x >>> 18) := u32_shr_bv x 18
@[go_sem] theorem u32_shr_19 (x : BitVec 32) : u32 x / (524288 : Int) = u32 (x >>> 19) := u32_shr_bv x 19
@[go_sem] theorem u32_shr_22 (x : BitVec 32) : u32 x / (4194304 : Int) = u32 (x >>> 22) := u32_shr_bv x 22
@[go_sem] theorem u32_shr_24 (x : BitVec 32) : u32 x / (16777216 : Int) = u32 (x >>> 24) := u32_shr_bv x 24
@[go_sem] theorem u32_shr_25 (x : BitVec 32) : u32 x / (33554432 : Int) = u32 (x >>> 25) := u32_shr_bv x 25
@[go_sem] theorem rot_eq_2 (x : BitVec 32) : x >>> 2 ||| x <<< 30 = rotr x 2 := BitVec.or_comm _ _
@[go_sem] theorem rot_eq_6 (x : BitVec 32) : x >>> 6 ||| x <<< 26 = rotr x 6 := BitVec.or_comm _ _
@[go_sem] theorem rot_eq_7 (x : BitVec 32) : x >>> 7 ||| x <<< 25 = rotr x 7 := BitVec.or_comm _ _
@[go_sem] theorem rot_eq_11 (x : BitVec 32) : x >>> 11 ||| x <<< 21 = rotr x 11 := BitVec.or_comm _ _
@[go_sem] theorem rot_eq_13 (x : BitVec 32) : x >>> 13 ||| x <<< 19 = rotr x 13 := BitVec.or_comm _ _
@[go_sem] theorem rot_eq_17 (x : BitVec 32) : x >>> 17 ||| x <<< 15 = rotr x 17 := BitVec.or_comm _ _
@[go_sem] theorem rot_eq_18 (x : BitVec 32) : x >>> 18 ||| x <<< 14 = rotr x 18 := BitVec.or_comm _ _
@[go_sem] theorem rot_eq_19 (x : BitVec 32) : x >>> 19 ||| x <<< 13 = rotr x 19 := BitVec.or_comm _ _
@[go_sem] theorem rot_eq_22 (x : BitVec 32) : x >>> 22 ||| x <<< 10 = rotr x 22 := BitVec.or_comm _ _
@[go_sem] theorem rot_eq_25 (x : BitVec 32) : x >>> 25 ||| x <<< 7 = rotr x 25 := BitVec.or_comm _ _

theorem shl_shl (x : BitVec 32) (a b : Nat) : (x <<< a) <<< b = x <<< (a + b) := by rw [BitVec.shiftLeft_add]
/-- Four bytes, the most significant one first. -/
theorem wordOf_four (a b c d : UInt8) : wordOf [a, b, c, d] = bw a <<< 24 ||| bw b <<< 16 ||| bw c <<< 8 ||| bw d := by
  simp only [wordOf, List.foldl_cons, List.foldl_nil, BitVec.shiftLeft_or_distrib, shl_shl, BitVec.zero_shiftLeft, BitVec.zero_or]
end Go.Proofs.Ytbmphhiafepnoaa
