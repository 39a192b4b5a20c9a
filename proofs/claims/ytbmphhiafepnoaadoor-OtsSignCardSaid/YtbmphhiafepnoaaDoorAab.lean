/-
  The contracts of math/bits.RotateLeft32 and of hash.mix: what each call returns, for every word; the world stays as it was.
  Small laws on arrays that lie in a block of the call's own, whatever the program: the cells as a function of their place. Nothing is claimed of the program here.
  The contract of hash.schedule: for every block of 64 bytes it returns the 64 words that the rounds add; nothing that was there before the call has changed.
  Small laws on worlds: what a table holds, and that it still holds behind a call that leaves old memory alone. Nothing is claimed of the program here.
  Shifts of words by literals, as the walk spells them. Nothing is claimed of the program here.
-/
import Derived.Test.YtbmphhiafepnoaaDoorRows
import Derived.Test.YtbmphhiafepnoaaDoorAaa
import Derived.WalkKit
import Derived.WalkSpells
import Derived.WalkLawsBesides
import Derived.Deep.MidRow
import Derived.Deep.Draws
import Derived.Lib.Hide
import Derived.Deep.QuietTactic
import Derived.BigQuiet
import Derived.RegionTactic
import Derived.ChangeAlike
import Derived.LoopTactic
import Derived.StillTailTactics
namespace Go.Proofs.YtbmphhiafepnoaaDoor
open Go.RowKit

set_option maxHeartbeats 400000 in
theorem rot_core (x : BitVec 32) (k : Int) (n : Nat) (hb : bits .and .u64 (IntKind.u64.wrap k) 31 = (n : Int)) (_h0 : 0 < n) (_h1 : n < 32) (w : World) :
    Calls Tryd.prog 55 #[.int .u32 (u32 x), .int .i64 k] w fun e w' => e = .returned (.int .u32 (u32 (x <<< n ||| x >>> (32 - n)))) ∧ w = w' := by
  have e1 := u32_shl_bv x n
  have e2 := u32_shr_bv x (32 - n)
  go_enter Tryd.func55, Tryd.ntmps55
  go_wp2
  go_ret
  exact ⟨rfl, rfl⟩

theorem low5 (i : Nat) (h0 : 0 < i) (h1 : i < 32) : bits .and .u64 (IntKind.u64.wrap (-(i : Int))) 31 = ((32 - i : Nat) : Int) := by
  have e : IntKind.u64.wrap (-(i : Int)) = ((18446744073709551616 - i : Nat) : Int) := by
    simp only [IntKind.wrap, IntKind.bits, IntKind.signed]; simp; omega
  rw [e, show (31 : Int) = ((31 : Nat) : Int) from rfl, u64_and_nat _ _ (by omega) (by omega), nat_mask5]
  congr 1; omega

theorem rot_any (x : BitVec 32) (i : Nat) (h0 : 0 < i) (h1 : i < 32) (w : World) :
    Calls Tryd.prog 55 #[.int .u32 (u32 x), .int .i64 (-(i : Int))] w fun e w' => e = .returned (.int .u32 (u32 (rotr x i))) ∧ w = w' :=
  (rot_core x _ (32 - i) (low5 i h0 h1) (by omega) (by omega) w).mono fun _ _ h => by
    have e : 32 - (32 - i) = i := by omega
    rw [e] at h
    exact h

theorem rot_lit (x : BitVec 32) (k : Int) (i : Nat) (hk : k = -(i : Int)) (h0 : 0 < i) (h1 : i < 32) (w : World) :
    Calls Tryd.prog 55 #[.int .u32 (u32 x), .int .i64 k] w fun e w' => e = .returned (.int .u32 (u32 (rotr x i))) ∧ w = w' := by
  rw [hk]; exact rot_any x i h0 h1 w

theorem rot7 (x : BitVec 32) (w : World) : Calls Tryd.prog 55 #[.int .u32 (u32 x), .int .i64 (-7)] w fun e w' => e = .returned (.int .u32 (u32 (rotr x 7))) ∧ w = w' :=
  rot_lit x (-7) 7 rfl (by omega) (by omega) w
theorem rot18 (x : BitVec 32) (w : World) : Calls Tryd.prog 55 #[.int .u32 (u32 x), .int .i64 (-18)] w fun e w' => e = .returned (.int .u32 (u32 (rotr x 18))) ∧ w = w' :=
  rot_lit x (-18) 18 rfl (by omega) (by omega) w
theorem rot17 (x : BitVec 32) (w : World) : Calls Tryd.prog 55 #[.int .u32 (u32 x), .int .i64 (-17)] w fun e w' => e = .returned (.int .u32 (u32 (rotr x 17))) ∧ w = w' :=
  rot_lit x (-17) 17 rfl (by omega) (by omega) w
theorem rot19 (x : BitVec 32) (w : World) : Calls Tryd.prog 55 #[.int .u32 (u32 x), .int .i64 (-19)] w fun e w' => e = .returned (.int .u32 (u32 (rotr x 19))) ∧ w = w' :=
  rot_lit x (-19) 19 rfl (by omega) (by omega) w

set_option maxHeartbeats 400000 in
theorem mix_any (x : BitVec 32) (i j k : Nat) (i0 : 0 < i) (i1 : i < 32) (j0 : 0 < j) (j1 : j < 32) (k0 : 0 < k) (k1 : k < 32) (w : World) :
    Calls Tryd.prog 53 #[.int .u32 (u32 x), .int .i64 i, .int .i64 j, .int .i64 k] w fun e w' => e = .returned (.int .u32 (u32 (rotr x i ^^^ rotr x j ^^^ rotr x k))) ∧ w = w' := by
  go_enter Tryd.func53, Tryd.ntmps53
  go_wp2_with (go_at_call 55; refine (rot_any _ _ (by omega) (by omega) _).mono ?_; rintro e w' ⟨rfl, rfl⟩)
  go_ret
  exact ⟨rfl, rfl⟩

theorem mix_e (x : BitVec 32) (w : World) :
    Calls Tryd.prog 53 #[.int .u32 (u32 x), .int .i64 6, .int .i64 11, .int .i64 25] w fun e w' => e = .returned (.int .u32 (u32 (rotr x 6 ^^^ rotr x 11 ^^^ rotr x 25))) ∧ w = w' :=
  mix_any x 6 11 25 (by omega) (by omega) (by omega) (by omega) (by omega) (by omega) w

theorem mix_a (x : BitVec 32) (w : World) :
    Calls Tryd.prog 53 #[.int .u32 (u32 x), .int .i64 2, .int .i64 13, .int .i64 22] w fun e w' => e = .returned (.int .u32 (u32 (rotr x 2 ^^^ rotr x 13 ^^^ rotr x 22))) ∧ w = w' :=
  mix_any x 2 13 22 (by omega) (by omega) (by omega) (by omega) (by omega) (by omega) w

end Go.Proofs.YtbmphhiafepnoaaDoor
namespace Go.Proofs.YtbmphhiafepnoaaDoor
open Go.RowKit

/-- n cells, by their places. -/
def row (n : Nat) (g : Nat → Value) : Array Value := ((List.range n).map g).toArray
theorem row_size (n : Nat) (g : Nat → Value) : (row n g).size = n := by simp [row]
theorem row_get (n : Nat) (g : Nat → Value) (j : Nat) (h : j < n) : (row n g)[j]? = some (g j) := by simp [row, h]
theorem row_congr {n : Nat} {g g' : Nat → Value} (h : ∀ j, j < n → g j = g' j) : row n g = row n g' := by
  unfold row; congr 1; apply List.map_congr_left; intro j hj; exact h j (by simpa using hj)
theorem row_set (n : Nat) (g : Nat → Value) (j : Nat) (v : Value) (_h : j < n) : (row n g).setIfInBounds j v = row n (fun i => if i = j then v else g i) := by
  apply Array.ext_getElem?
  intro i
  rw [Array.getElem?_setIfInBounds]
  by_cases hi : i < n
  · by_cases e : j = i
    · subst e; rw [if_pos rfl, row_get _ _ _ hi, row_size]; simp [hi]
    · rw [if_neg e, row_get _ _ _ hi, row_get _ _ _ hi]; simp [show ¬ i = j from fun x => e x.symm]
  · have h1 : ∀ q : Nat → Value, (row n q)[i]? = none := fun q => by rw [Array.getElem?_eq_none]; rw [row_size]; omega
    rw [h1, h1]; split
    · rw [row_size]; simp; omega
    · rfl
theorem row_one_z (n : Nat) (g : Nat → Value) (h : ∀ j, j < n → (g j).oneCell' = true) : (row n g).all (·.oneCell') = true := by
  rw [Array.all_eq_true_iff_forall_mem]; intro x hx; simp [row] at hx; obtain ⟨j, hj, rfl⟩ := hx; exact h j hj

/-- Index into an array value of one-cell elements. -/
theorem run_index_row {P : Program} {t elem : TypeId} {len : Nat} (hu : P.underlying t = some (.array len elem)) (ha : ∀ w, (isAgg elem).run P w = .ok false w) (hs : ∀ w, (sizeOf elem).run P w = .ok 1 w)
    (cs : Array Value) (k : Nat) (v : Value) (hk : k < len) (hv : cs[k]? = some v) (w : World) : (Instr.index t (.agg cs) (.int .i64 (k : Int))).run P w = .ok v w := by
  have h0 : (0 : Int) ≤ k ∧ (k : Int) < len := by omega
  simp [Instr.index, asIntOf, run_underlying hu, hk, hs, part, ha, hv]

/-- Bytes and words as the cells of an array of 64. -/
def byteRow (l : List UInt8) : Array Value := row 64 fun j => .int .u8 ((at8 l j).toNat : Nat)
def wordRow (L : List (BitVec 32)) : Array Value := row 64 fun j => .int .u32 (u32 (at32 L j))
theorem byteRow_get (l : List UInt8) (j : Nat) (h : j < 64) : (byteRow l)[j]? = some (.int .u8 ((at8 l j).toNat : Nat)) := row_get _ _ _ h
theorem wordRow_get (L : List (BitVec 32)) (j : Nat) (h : j < 64) : (wordRow L)[j]? = some (.int .u32 (u32 (at32 L j))) := row_get _ _ _ h
theorem byteRow_size (l : List UInt8) : (byteRow l).size = 64 := row_size _ _
theorem wordRow_size (L : List (BitVec 32)) : (wordRow L).size = 64 := row_size _ _
theorem byteRow_one (l : List UInt8) : (byteRow l).all (·.oneCell') = true := row_one_z _ _ fun _ _ => rfl
theorem wordRow_one (L : List (BitVec 32)) : (wordRow L).all (·.oneCell') = true := row_one_z _ _ fun _ _ => rfl
theorem wordRow_put (L : List (BitVec 32)) (j : Nat) (x : BitVec 32) (h : j < 64) (L' : List (BitVec 32)) (hL : ∀ i, i < 64 → at32 L' i = if i = j then x else at32 L i) :
    (wordRow L).setIfInBounds j (.int .u32 (u32 x)) = wordRow L' := by
  unfold wordRow; rw [row_set _ _ _ _ h]; apply row_congr; intro i hi; rw [hL i hi]; split <;> rfl

theorem byteRow_put (l : List UInt8) (j : Nat) (x : UInt8) (h : j < 64) (l' : List UInt8) (hL : ∀ i, i < 64 → at8 l' i = if i = j then x else at8 l i) :
    (byteRow l).setIfInBounds j (.int .u8 ((x.toNat : Nat) : Int)) = byteRow l' := by
  unfold byteRow; rw [row_set _ _ _ _ h]; apply row_congr; intro i hi; rw [hL i hi]; split <;> rfl

/-- A new variable of an array's type: its zero value lies in a new block. -/
theorem wpList_alloc_row {P : Program} {ops : Array Oper} {rest : List Oper} {o : Oper} {a : Act} {w : World} {Q : Exit → Act → World → Prop} (hgd : o.guard = none) (ty : TypeId) (ho : o.op = .alloc ty)
    (cs : Array Value) (hz : ∀ w, (zeroValue ty).run P w = .ok (.agg cs) w)
    (h : wpList P ops Q rest (a.put o.dst (.pointer (some ⟨w.heap.size, 0, none⟩))) (w.alloc (.cells cs ty))) : wpList P ops Q (o :: rest) a w := by
  refine wpList_plain hgd fun K hK => ?_
  unfold Oper.wp execOp
  simp only [ho, Instr.alloc, Sem.run_bind, hz, Result.andThen_ok, newVar, newRow, run_newObj_alloc, Sem.run_pure, Value.cells]
  exact hK _ _ h

theorem heap3_a (w : World) (A B C : Obj) : (((w.alloc A).alloc B).alloc C).heap[w.heap.size]? = some A := by
  rw [heap_alloc_old _ C (by simp; omega), heap_alloc_old _ B (by simp), heap_alloc_new]
theorem heap3_c (w : World) (A B C : Obj) : (((w.alloc A).alloc B).alloc C).heap[w.heap.size + 1 + 1]? = some C := by
  have h := heap_alloc_new ((w.alloc A).alloc B) C
  simpa using h
theorem heap3_b (w : World) (A B C : Obj) : (((w.alloc A).alloc B).alloc C).heap[w.heap.size + 1]? = some B := by
  rw [heap_alloc_old _ C (by simp)]; exact heap_alloc2_new _ _ _

theorem wordRow_congr {L L' : List (BitVec 32)} (h : ∀ j, j < 64 → at32 L j = at32 L' j) : wordRow L = wordRow L' := by
  unfold wordRow; exact row_congr fun j hj => by rw [h j hj]
theorem below_setRow {B : Nat} {a w : World} (h : Below B a w) (g : Nat) (cs : Array Value) (hg : B ≤ g) : Below B a (w.setRow g cs) :=
  h.trans ⟨rfl, rfl, rfl, by simp, fun k hk => setRow_other w g k cs (by omega)⟩
/-- A store into the block that was made last, behind draws. -/
theorem setCell_last (W : World) (C : Array Value) (t : TypeId) (n b j : Nat) (v : Value) (hb : b = W.heap.size) :
    ((W.alloc (.cells C t)).drewN n).setCell ⟨b, j, none⟩ v = (W.alloc (.cells (C.setIfInBounds j v) t)).drewN n := by
  rw [← World.setCell_alloc_at C t b j v hb]; rfl

end Go.Proofs.YtbmphhiafepnoaaDoor
namespace Go.Proofs.YtbmphhiafepnoaaDoor
open Go.RowKit
theorem zeroWords : ∀ w, (zeroValue 63).run Tryd.prog w = .ok (.agg (wordRow [])) w := by intro w; kernel_rfl
theorem aggByte : ∀ w, (isAgg 5).run Tryd.prog w = .ok false w := by intro w; kernel_rfl
theorem sizeByte : ∀ w, (sizeOf 5).run Tryd.prog w = .ok 1 w := by intro w; kernel_rfl
set_option maxRecDepth 100000 in
set_option maxHeartbeats 400000 in
theorem sched_any (l : List UInt8) (hl : l.length = 64) (w : World) :
    Calls Tryd.prog 52 #[.agg (byteRow l)] w fun e w' => e = .returned (.agg (wordRow (sched l 48))) ∧ Below w.heap.size w w' := by
  have HL := Lib.hid hl
  clear hl
  go_enter Tryd.func52, Tryd.ntmps52
  go_wp2_with (first | (refine wpList_alloc_row rfl 63 rfl (wordRow []) zeroWords ?_) | (refine wpList_load_row rfl 65 _ rfl _ rfl 65 (byteRow l) (0,0) _ (heap3_a _ _ _ _) Tryd.underlying65 rfl (by kernel_rfl) ?_))
  go_loopw [12] (fun i wr => ∃ k : Nat, k ≤ 64 ∧ i = .int .i64 k ∧ wr = ((w.alloc (.cells (byteRow l) 65)).alloc (.cells (wordRow []) 63)).alloc (.cells (wordRow (partW l k)) 63)) (fun i _ => 64 - (intOf i).toNat)
  case atStart => exact ⟨0, by omega, rfl, by rw [wordRow_congr (L := []) (L' := partW l 0)]; intro j _; rw [partW_zero]; rfl⟩
  case round =>
    obtain ⟨k, hk, rfl, rfl⟩ := hrel
    by_cases hlt : k < 64
    · have hix := fun wx => run_index_row (P := Tryd.prog) Tryd.underlying65 aggByte sizeByte (byteRow l) k _ hlt (byteRow_get l k hlt) wx
      have hg := wordRow_get (partW l k) (k / 4) (by omega)
      go_wp2_with fail
      go_roundw
      case rel =>
        exact ⟨k + 1, by omega, by go_num, by rw [wordRow_put _ _ _ (by omega) (partW l (k + 1)) (fun i _ => partW_step l HL.out k hlt i)]⟩
      case measure => simp [intOf]; omega
    · have e64 : k = 64 := by omega
      subst e64
      rw [partW_full l HL.out]
      clear hlt
      rw [show ((64 : Nat) : Int) = 64 from rfl]
      go_wp2_with fail
      go_loopw [6] (fun i wr => ∃ k n : Nat, k ≤ 48 ∧ i = .int .i64 (16 + k : Nat) ∧ wr = (((w.alloc (.cells (byteRow l) 65)).alloc (.cells (wordRow []) 63)).alloc (.cells (wordRow (sched l k)) 63)).drewN n) (fun i _ => 64 - (intOf i).toNat)
      case atStart => exact ⟨0, 0, by omega, rfl, rfl⟩
      case round =>
        obtain ⟨k, n, hk, rfl, rfl⟩ := hrel
        by_cases hlt : k < 48
        · have hd : decide ((16 : Int) + (k : Int) < 64) = true := by simp; omega
          have g16 := wordRow_get (sched l k) k (by omega)
          have gst := wordRow_get (sched l k) (16 + k) (by omega)
          have g15 := wordRow_get (sched l k) (16 + k - 15) (by omega)
          have g7 := wordRow_get (sched l k) (16 + k - 7) (by omega)
          have g2 := wordRow_get (sched l k) (16 + k - 2) (by omega)
          go_wp2_with fail
          go_quiet (fail)
          go_wp2_with (first | (go_at_call 55; (with_reducible refine (rot7 _ _).mono ?_); rintro e w' ⟨rfl, rfl⟩) | (go_at_call 55; (with_reducible refine (rot18 _ _).mono ?_); rintro e w' ⟨rfl, rfl⟩) | (go_at_call 55; (with_reducible refine (rot17 _ _).mono ?_); rintro e w' ⟨rfl, rfl⟩) | (go_at_call 55; (with_reducible refine (rot19 _ _).mono ?_); rintro e w' ⟨rfl, rfl⟩))
          go_region
          all_goals go_wp2_with fail
          go_roundw
          case rel =>
            refine ⟨k + 1, n + nq + 1, by omega, by go_num, ?_⟩
            rw [setCell_last _ _ _ _ _ _ _ (by simp)]
            rw [wordRow_put _ _ _ (by omega) (sched l (k + 1)) (fun i _ => ?_)]
            rw [at32_sched_step]
            simp only [newWord, small0, small1, Nat.add_sub_cancel_left]
          case measure => simp [intOf]; omega
        · have e48 : k = 48 := by omega
          subst e48
          clear hlt hk
          go_wp2_with (first | (refine wpList_load_row rfl 63 _ rfl _ rfl 63 (wordRow (sched l 48)) (0,0) _ (by rw [World.heap_drewN]; exact heap3_c _ _ _ _) Tryd.underlying63 rfl (by kernel_rfl) ?_) | (refine wpList_store_row rfl 63 _ _ rfl _ (wordRow (sched l 48)) rfl rfl 63 (wordRow []) (by rw [World.heap_drewN]; exact heap3_b _ _ _ _) (by kernel_rfl) (by rw [wordRow_size, wordRow_size]) (wordRow_one _) ?_))
          refine bodyPost_ret (v := .agg (wordRow (sched l 48))) (results_cell_row rfl _ _ _ 63 _ (0,0) _ rfl (setRow_heap _ _ _ _ 63 _ (by rw [World.heap_drewN]; exact heap3_b _ _ _ _)) Tryd.underlying63 rfl (by kernel_rfl)) rfl ⟨rfl, ?_⟩
          exact below_setRow (below_drewN ((((Below.refl _ _).alloc (Nat.le_refl _) _).alloc (by simp) _).alloc (by simp; omega) _) _) _ _ (by omega)
end Go.Proofs.YtbmphhiafepnoaaDoor
namespace Go.Proofs.YtbmphhiafepnoaaDoor
open Go.RowKit

/-- Block b holds the words of L as its first 64 cells. -/
def Holds (w : World) (b : Nat) (L : List (BitVec 32)) : Prop := ∀ i, i < 64 → w.cell? ⟨b, i, none⟩ = some (.int .u32 (u32 (at32 L i)))
theorem Holds.at {w : World} {b : Nat} {L : List (BitVec 32)} (h : Holds w b L) (i : Nat) (hi : i < 64) : w.cell? ⟨b, i, none⟩ = some (.int .u32 (u32 (at32 L i))) := h i hi
theorem Holds.lt {w : World} {b : Nat} {L : List (BitVec 32)} (h : Holds w b L) : b < w.heap.size := block_lt_of_cell (h 0 (by omega))
theorem Holds.below {w w' : World} {b B : Nat} {L : List (BitVec 32)} (h : Holds w b L) (hb : Below B w w') (hB : b < B) : Holds w' b L := fun i hi => (hb.cell (p := ⟨b, i, none⟩) hB).trans (h i hi)
theorem Holds.old {w w' : World} {b : Nat} {L : List (BitVec 32)} (h : Holds w b L) (hb : Below w.heap.size w w') : Holds w' b L := h.below hb h.lt
theorem Holds.of_row {w : World} {b : Nat} {L : List (BitVec 32)} {t : TypeId} {fr : Nat × Nat} (h : w.heap[b]? = some (.cells (wordRow L) t fr)) : Holds w b L := fun i hi => by
  rw [cell_of_row w b i _ t fr h, wordRow_get L i hi]

/-- A call that only draws, for a caller that has drawn. -/
theorem quiet_drawn {P : Program} {f : FuncId} {args : Array Value} {w : World} {n : Nat} {v : Value}
    (h : ∀ W : World, Calls P f args W fun e w' => e = .returned v ∧ W = w') : Calls P f args (w.drewN n) fun e w'' => e = .returned v ∧ ∃ m, w'' = w.drewN m :=
  (h _).mono fun _ _ hh => ⟨hh.1, n, hh.2.symm⟩
theorem quiet_drawn2 {P : Program} {f : FuncId} {args : Array Value} {w : World} {a n : Nat} {v : Value}
    (h : ∀ W : World, Calls P f args W fun e w' => e = .returned v ∧ W = w') : Calls P f args (w.drewN (a + n)) fun e w'' => e = .returned v ∧ ∃ m, w'' = w.drewN (a + m) :=
  (h _).mono fun _ _ hh => ⟨hh.1, n, hh.2.symm⟩

/-- The state in eight cells. -/
abbrev stRow (s : St) : Array Value := #[.int .u32 (u32 s.a), .int .u32 (u32 s.b), .int .u32 (u32 s.c), .int .u32 (u32 s.d), .int .u32 (u32 s.e), .int .u32 (u32 s.f), .int .u32 (u32 s.g), .int .u32 (u32 s.h)]

theorem stRow_one (s : St) : (stRow s).all (·.oneCell') = true := by simp [Value.oneCell']
theorem stRow_size (s : St) : (stRow s).size = 8 := rfl

end Go.Proofs.YtbmphhiafepnoaaDoor
namespace Go.Proofs.YtbmphhiafepnoaaDoor
@[go_sem] theorem u32_shl_7 (x : BitVec 32) : IntKind.u32.wrap (u32 x * (128 : Int)) = u32 (x <<< 7) := u32_shl_bv x 7
@[go_sem] theorem u32_shl_10 (x : BitVec 32) : IntKind.u32.wrap (u32 x * (1024 : Int)) = u32 (x <<< 10) := u32_shl_bv x 10
@[go_sem] theorem u32_shl_13 (x : BitVec 32) : IntKind.u32.wrap (u32 x * (8192 : Int)) = u32 (x <<< 13) := u32_shl_bv x 13
@[go_sem] theorem u32_shl_14 (x : BitVec 32) : IntKind.u32.wrap (u32 x * (16384 : Int)) = u32 (x <<< 14) := u32_shl_bv x 14
@[go_sem] theorem u32_shl_15 (x : BitVec 32) : IntKind.u32.wrap (u32 x * (32768 : Int)) = u32 (x <<< 15) := u32_shl_bv x 15
@[go_sem] theorem u32_shl_16 (x : BitVec 32) : IntKind.u32.wrap (u32 x * (65536 : Int)) = u32 (x <<< 16) := u32_shl_bv x 16
@[go_sem] theorem u32_shl_19 (x : BitVec 32) : IntKind.u32.wrap (u32 x * (524288 : Int)) = u32 (x <<< 19) := u32_shl_bv x 19
@[go_sem] theorem u32_shl_21 (x : BitVec 32) : IntKind.u32.wrap (u32 x * (2097152 : Int)) = u32 (x <<< 21) := u32_shl_bv x 21
@[go_sem] theorem u32_shl_24 (x : BitVec 32) : IntKind.u32.wrap (u32 x * (16777216 : Int)) = u32 (x <<< 24) := u32_shl_bv x 24
@[go_sem] theorem u32_shl_25 (x : BitVec 32) : IntKind.u32.wrap (u32 x * (33554432 : Int)) = u32 (x <<< 25) := u32_shl_bv x 25
@[go_sem] theorem u32_shl_26 (x : BitVec 32) : IntKind.u32.wrap (u32 x * (67108864 : Int)) = u32 (x <<< 26) := u32_shl_bv x 26
@[go_sem] theorem u32_shl_30 (x : BitVec 32) : IntKind.u32.wrap (u32 x * (1073741824 : Int)) = u32 (x <<< 30) := u32_shl_bv x 30
@[go_sem] theorem u32_shr_2 (x : BitVec 32) : u32 x / (4 : Int) = u32 (x >>> 2) := u32_shr_bv x 2
@[go_sem] theorem u32_shr_6 (x : BitVec 32) : u32 x / (64 : Int) = u32 (x >>> 6) := u32_shr_bv x 6
@[go_sem] theorem u32_shr_7 (x : BitVec 32) : u32 x / (128 : Int) = u32 (x >>> 7) := u32_shr_bv x 7
@[go_sem] theorem u32_shr_8 (x : BitVec 32) : u32 x / (256 : Int) = u32 (x >>> 8) := u32_shr_bv x 8
@[go_sem] theorem u32_shr_11 (x : BitVec 32) : u32 x / (2048 : Int) = u32 (x >>> 11) := u32_shr_bv x 11
@[go_sem] theorem u32_shr_13 (x : BitVec 32) : u32 x / (8192 : Int) = u32 (x >>> 13) := u32_shr_bv x 13
@[go_sem] theorem u32_shr_16 (x : BitVec 32) : u32 x / (65536 : Int) = u32 (x >>> 16) := u32_shr_bv x 16
@[go_sem] theorem u32_shr_17 (x : BitVec 32) : u32 x / (131072 : Int) = u32 (x >>> 17) := u32_shr_bv x 17
@[go_sem] theorem u32_shr_18 (x : BitVec 32) : u32 x / (262144 : Int) = u32 (x >>> 18) := u32_shr_bv x 18
@[go_sem] theorem u32_shr_19 (x : BitVec 32) : u32 x / (524288 : Int) = u32 (x >>> 19) := u32_shr_bv x 19
@[go_sem] theorem u32_shr_22 (x : BitVec 32) : u32 x / (4194304 : Int) = u32 (x >>> 22) := u32_shr_bv x 22
@[go_sem] theorem u32_shr_24 (x : BitVec 32) : u32 x / (16777216 : Int) = u32 (x >>> 24) := u32_shr_bv x 24
@[go_sem] theorem u32_shr_25 (x : BitVec 32) : u32 x / (33554432 : Int) = u32 (x >>> 25) := u32_shr_bv x 25
@[go_sem] theorem rot_eq_2 (x : BitVec 32) : x >>> 2 ||| x <<< 30 = rotr x 2 := BitVec.or_comm _ _
@[go_sem] theorem rot_eq_6 (x : BitVec 32) : x >>> 6 ||| x <<< 26 = rotr x 6 := BitVec.or_comm _ _
@[go_sem] theorem rot_eq_7 (x : BitVec 32) : x >>> 7 ||| x <<< 25 = rotr x 7 := BitVec.or_comm _ _
@[go_sem] theorem rot_eq_11 (x : BitVec 32) : x >>> 11 ||| x <<< 21 = rotr x 11 := BitVec.or_comm _ _
@[go_sem] theorem rot_eq_13 (x : BitVec 32) : x >>> 13 ||| x <<< 19 = rotr x 13 := BitVec.or_comm _ _
@[go_sem] theorem rot_eq_17 (x : BitVec 32) : x >>> 17 ||| x <<< 15 = rotr x 17 := BitVec.or_comm _ _
@[go_sem] theorem rot_eq_18 (x : BitVec 32) : x >>> 18 ||| x <<< 14 = rotr x 18 := BitVec.or_comm _ _
@[go_sem] theorem rot_eq_19 (x : BitVec 32) : x >>> 19 ||| x <<< 13 = rotr x 19 := BitVec.or_comm _ _
@[go_sem] theorem rot_eq_22 (x : BitVec 32) : x >>> 22 ||| x <<< 10 = rotr x 22 := BitVec.or_comm _ _
@[go_sem] theorem rot_eq_25 (x : BitVec 32) : x >>> 25 ||| x <<< 7 = rotr x 25 := BitVec.or_comm _ _

theorem shl_shl (x : BitVec 32) (a b : Nat) : (x <<< a) <<< b = x <<< (a + b) := by rw [BitVec.shiftLeft_add]
/-- Four bytes, the most significant one first. -/
theorem wordOf_four (a b c d : UInt8) : wordOf [a, b, c, d] = bw a <<< 24 ||| bw b <<< 16 ||| bw c <<< 8 ||| bw d := by
  simp only [wordOf, List.foldl_cons, List.foldl_nil, BitVec.shiftLeft_or_distrib, shl_shl, BitVec.zero_shiftLeft, BitVec.zero_or]
end Go.Proofs.YtbmphhiafepnoaaDoor
