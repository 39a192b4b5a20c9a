/-
  Small laws on arrays that lie in a block of the call's own, whatever the program: the cells as a function of their place. Nothing is claimed of the program here.
-/
import Derived.Test.YtoickijglahipaaDoorSha
import Derived.WalkKit
import Derived.Deep.MidRow
import Derived.Deep.Draws
import Derived.Lib.Hide
namespace Go.Proofs.YtoickijglahipaaDoor
open Go.RowKit

/-- n cells, by their places. -/
def row (n : Nat) (g : Nat → Value) : Array Value := ((List.range n).map g).toArray
theorem row_size (n : Nat) (g : Nat → Value) : (row n g).size = n := by simp [row]
theorem row_get (n : Nat) (g : Nat → Value) (j : Nat) (h : j < n) : (row n g)[j]? = some (g j) := by simp [row, h]
theorem row_congr {n : Nat} {g g' : Nat → Value} (h : ∀ j, j < n → g j = g' j) : row n g = row n g' := by
  unfold row; congr 1; apply List.map_congr_left; intro j hj; exact h j (by simpa using hj)
theorem row_set (n : Nat) (g : Nat → Value) (j : Nat) (v : Value) (_h : j < n) : (row n g).setIfInBounds j v = row n (fun i => if i = j then v else g i) := by
  apply Array.ext_getElem?
  intro i
  rw [Array.getElem?_setIfInBounds]
  by_cases hi : i < n
  · by_cases e : j = i
    · subst e; rw [if_pos rfl, row_get _ _ _ hi, row_size]; simp [hi]
    · rw [if_neg e, row_get _ _ _ hi, row_get _ _ _ hi]; simp [show ¬ i = j from fun x => e x.symm]
  · have h1 : ∀ q : Nat → Value, (row n q)[i]? = none := fun q => by rw [Array.getElem?_eq_none]; rw [row_size]; omega
    rw [h1, h1]; split
    · rw [row_size]; simp; omega
    · rfl
theorem row_one (n : Nat) (g : Nat → Value) (h : ∀ j, j < n → (g j).oneCell' = true) : (row n g).all (·.oneCell') = true := by
  rw [Array.all_eq_true_iff_forall_mem]; intro x hx; simp [row] at hx; obtain ⟨j, hj, rfl⟩ := hx; exact h j hj

/-- Index into an array value of one-cell elements. -/
theorem run_index_row {P : Program} {t elem : TypeId} {len : Nat} (hu : P.underlying t = some (.array len elem)) (ha : ∀ w, (isAgg elem).run P w = .ok false w) (hs : ∀ w, (sizeOf elem).run P w = .ok 1 w)
    (cs : Array Value) (k : Nat) (v : Value) (hk : k < len) (hv : cs[k]? = some v) (w : World) : (Instr.index t (.agg cs) (.int .i64 (k : Int))).run P w = .ok v w := by
  have h0 : (0 : Int) ≤ k ∧ (k : Int) < len := by omega
  simp [Instr.index, asIntOf, run_underlying hu, hk, hs, part, ha, hv]

/-- Bytes and words as the cells of an array of 64. -/
def byteRow (l : List UInt8) : Array Value := row 64 fun j => .int .u8 ((at8 l j).toNat : Nat)
def wordRow (L : List (BitVec 32)) : Array Value := row 64 fun j => .int .u32 (u32 (at32 L j))
theorem byteRow_get (l : List UInt8) (j : Nat) (h : j < 64) : (byteRow l)[j]? = some (.int .u8 ((at8 l j).toNat : Nat)) := row_get _ _ _ h
theorem wordRow_get (L : List (BitVec 32)) (j : Nat) (h : j < 64) : (wordRow L)[j]? = some (.int .u32 (u32 (at32 L j))) := row_get _ _ _ h
theorem byteRow_size (l : List UInt8) : (byteRow l).size = 64 := row_size _ _
theorem wordRow_size (L : List (BitVec 32)) : (wordRow L).size = 64 := row_size _ _
theorem byteRow_one (l : List UInt8) : (byteRow l).all (·.oneCell') = true := row_one _ _ fun _ _ => rfl
theorem wordRow_one (L : List (BitVec 32)) : (wordRow L).all (·.oneCell') = true := row_one _ _ fun _ _ => rfl
theorem wordRow_put (L : List (BitVec 32)) (j : Nat) (x : BitVec 32) (h : j < 64) (L' : List (BitVec 32)) (hL : ∀ i, i < 64 → at32 L' i = if i = j then x else at32 L i) :
    (wordRow L).setIfInBounds j (.int .u32 (u32 x)) = wordRow L' := by
  unfold wordRow; rw [row_set _ _ _ _ h]; apply row_congr; intro i hi; rw [hL i hi]; split <;> rfl

theorem byteRow_put (l : List UInt8) (j : Nat) (x : UInt8) (h : j < 64) (l' : List UInt8) (hL : ∀ i, i < 64 → at8 l' i = if i = j then x else at8 l i) :
    (byteRow l).setIfInBounds j (.int .u8 ((x.toNat : Nat) : Int)) = byteRow l' := by
  unfold byteRow; rw [row_set _ _ _ _ h]; apply row_congr; intro i hi; rw [hL i hi]; split <;> rfl

/-- A new variable of an array's type: its zero value lies in a new block. -/
theorem wpList_alloc_row {P : Program} {ops : Array Oper} {rest : List Oper} {o : Oper} {a : Act} {w : World} {Q : Exit → Act → World → Prop} (hgd : o.guard = none) (ty : TypeId) (ho : o.op = .alloc ty)
    (cs : Array Value) (hz : ∀ w, (zeroValue ty).run P w = .ok (.agg cs) w)
    (h : wpList P ops Q rest (a.put o.dst (.pointer (some ⟨w.heap.size, 0, none⟩))) (w.alloc (.cells cs ty))) : wpList P ops Q (o :: rest) a w := by
  refine wpList_plain hgd fun K hK => ?_
  unfold Oper.wp execOp
  simp only [ho, Instr.alloc, Sem.run_bind, hz, Result.andThen_ok, newVar, newRow, run_newObj_alloc, Sem.run_pure, Value.cells]
  exact hK _ _ h

theorem heap3_a (w : World) (A B C : Obj) : (((w.alloc A).alloc B).alloc C).heap[w.heap.size]? = some A := by
  rw [heap_alloc_old _ C (by simp; omega), heap_alloc_old _ B (by simp), heap_alloc_new]
theorem heap3_c (w : World) (A B C : Obj) : (((w.alloc A).alloc B).alloc C).heap[w.heap.size + 1 + 1]? = some C := by
  have h := heap_alloc_new ((w.alloc A).alloc B) C
  simpa using h
theorem heap3_b (w : World) (A B C : Obj) : (((w.alloc A).alloc B).alloc C).heap[w.heap.size + 1]? = some B := by
  rw [heap_alloc_old _ C (by simp)]; exact heap_alloc2_new _ _ _

theorem wordRow_congr {L L' : List (BitVec 32)} (h : ∀ j, j < 64 → at32 L j = at32 L' j) : wordRow L = wordRow L' := by
  unfold wordRow; exact row_congr fun j hj => by rw [h j hj]
theorem below_setRow {B : Nat} {a w : World} (h : Below B a w) (g : Nat) (cs : Array Value) (hg : B ≤ g) : Below B a (w.setRow g cs) :=
  h.trans ⟨rfl, rfl, rfl, by simp, fun k hk => setRow_other w g k cs (by omega)⟩
/-- A store into the block that was made last, behind draws. -/
theorem setCell_last (W : World) (C : Array Value) (t : TypeId) (n b j : Nat) (v : Value) (hb : b = W.heap.size) :
    ((W.alloc (.cells C t)).drewN n).setCell ⟨b, j, none⟩ v = (W.alloc (.cells (C.setIfInBounds j v) t)).drewN n := by
  rw [← World.setCell_alloc_at C t b j v hb]; rfl

end Go.Proofs.YtoickijglahipaaDoor
