/-
  The contracts of math/bits.RotateLeft32 and of hash.mix: what each call returns, for every word; the world stays as it was.
  Small laws on arrays that lie in a block of the call's own, whatever the program: the cells as a function of their place. Nothing is claimed of the program here.
  The contract of hash.schedule: for every block of 64 bytes it returns the 64 words that the rounds add; nothing that was there before the call has changed.
  Small laws on worlds: what a table holds, and that it still holds behind a call that leaves old memory alone. Nothing is claimed of the program here.
  Shifts of words by literals, as the walk spells them. Nothing is claimed of the program here.
  The contract of the reference's round: the state behind a block of 64 bytes, in a new slice of eight words; nothing that was there before the call has changed.
  The contract of hash.compress: for every state and every block of 64 bytes, where the table of constants holds SHA-256's, it returns the state behind the block; nothing that was there before the call has changed.
  Laws for storing, copying from a string and clearing within a block that is known whole, whatever the program. Nothing is claimed of the program here.
-/
import Derived.Test.YtpmlkofceidnjaaGreatDoorRows
import Derived.Test.YtpmlkofceidnjaaGreatDoorAak
import Derived.WalkKit
import Derived.WalkSpells
import Derived.WalkLawsBesides
import Derived.Deep.MidRow
import Derived.Deep.Draws
import Derived.Lib.Hide
import Derived.Deep.QuietTactic
import Derived.BigQuiet
import Derived.RegionTactic
import Derived.ChangeAlike
import Derived.LoopTactic
import Derived.StillTailTactics
import Derived.Test.YtpmlkofceidnjaaGreatDoorAaa
import Derived.Deep.RegionHeld3
import Derived.Laws.CopyRow
import Derived.Deep.OwnRows
namespace Go.Proofs.YtpmlkofceidnjaaGreatDoor
open Go.RowKit

set_option maxHeartbeats 400000 in
theorem rot_core (x : BitVec 32) (k : Int) (n : Nat) (hb : bits .and .u64 (IntKind.u64.wrap k) 31 = (n : Int)) (_h0 : 0 < n) (_h1 : n < 32) (w : World) :
    Calls Tryz.prog 108 #[.int .u32 (u32 x), .int .i64 k] w fun e w' => e = .returned (.int .u32 (u32 (x <<< n ||| x >>> (32 - n)))) ∧ w = w' := by
  have e1 := u32_shl_bv x n
  have e2 := u32_shr_bv x (32 - n)
  go_enter Tryz.func108, Tryz.ntmps108
  go_wp2
  go_ret
  exact ⟨rfl, rfl⟩

theorem low5 (i : Nat) (h0 : 0 < i) (h1 : i < 32) : bits .and .u64 (IntKind.u64.wrap (-(i : Int))) 31 = ((32 - i : Nat) : Int) := by
  have e : IntKind.u64.wrap (-(i : Int)) = ((18446744073709551616 - i : Nat) : Int) := by
    simp only [IntKind.wrap, IntKind.bits, IntKind.signed]; simp; omega
  rw [e, show (31 : Int) = ((31 : Nat) : Int) from rfl, u64_and_nat _ _ (by omega) (by omega), nat_mask5]
  congr 1; omega

theorem rot_any (x : BitVec 32) (i : Nat) (h0 : 0 < i) (h1 : i < 32) (w : World) :
    Calls Tryz.prog 108 #[.int .u32 (u32 x), .int .i64 (-(i : Int))] w fun e w' => e = .returned (.int .u32 (u32 (rotr x i))) ∧ w = w' :=
  (rot_core x _ (32 - i) (low5 i h0 h1) (by omega) (by omega) w).mono fun _ _ h => by
    have e : 32 - (32 - i) = i := by omega
    rw [e] at h
    exact h

theorem rot_lit (x : BitVec 32) (k : Int) (i : Nat) (hk : k = -(i : Int)) (h0 : 0 < i) (h1 : i < 32) (w : World) :
    Calls Tryz.prog 108 #[.int .u32 (u32 x), .int .i64 k] w fun e w' => e = .returned (.int .u32 (u32 (rotr x i))) ∧ w = w' := by
  rw [hk]; exact rot_any x i h0 h1 w

theorem rot7 (x : BitVec 32) (w : World) : Calls Tryz.prog 108 #[.int .u32 (u32 x), .int .i64 (-7)] w fun e w' => e = .returned (.int .u32 (u32 (rotr x 7))) ∧ w = w' :=
  rot_lit x (-7) 7 rfl (by omega) (by omega) w
theorem rot18 (x : BitVec 32) (w : World) : Calls Tryz.prog 108 #[.int .u32 (u32 x), .int .i64 (-18)] w fun e w' => e = .returned (.int .u32 (u32 (rotr x 18))) ∧ w = w' :=
  rot_lit x (-18) 18 rfl (by omega) (by omega) w
theorem rot17 (x : BitVec 32) (w : World) : Calls Tryz.prog 108 #[.int .u32 (u32 x), .int .i64 (-17)] w fun e w' => e = .returned (.int .u32 (u32 (rotr x 17))) ∧ w = w' :=
  rot_lit x (-17) 17 rfl (by omega) (by omega) w
theorem rot19 (x : BitVec 32) (w : World) : Calls Tryz.prog 108 #[.int .u32 (u32 x), .int .i64 (-19)] w fun e w' => e = .returned (.int .u32 (u32 (rotr x 19))) ∧ w = w' :=
  rot_lit x (-19) 19 rfl (by omega) (by omega) w

set_option maxHeartbeats 400000 in
theorem mix_any (x : BitVec 32) (i j k : Nat) (i0 : 0 < i) (i1 : i < 32) (j0 : 0 < j) (j1 : j < 32) (k0 : 0 < k) (k1 : k < 32) (w : World) :
    Calls Tryz.prog 99 #[.int .u32 (u32 x), .int .i64 i, .int .i64 j, .int .i64 k] w fun e w' => e = .returned (.int .u32 (u32 (rotr x i ^^^ rotr x j ^^^ rotr x k))) ∧ w = w' := by
  go_enter Tryz.func99, Tryz.ntmps99
  go_wp2_with (go_at_call 108; refine (rot_any _ _ (by omega) (by omega) _).mono ?_; rintro e w' ⟨rfl, rfl⟩)
  go_ret
  exact ⟨rfl, rfl⟩

theorem mix_e (x : BitVec 32) (w : World) :
    Calls Tryz.prog 99 #[.int .u32 (u32 x), .int .i64 6, .int .i64 11, .int .i64 25] w fun e w' => e = .returned (.int .u32 (u32 (rotr x 6 ^^^ rotr x 11 ^^^ rotr x 25))) ∧ w = w' :=
  mix_any x 6 11 25 (by omega) (by omega) (by omega) (by omega) (by omega) (by omega) w

theorem mix_a (x : BitVec 32) (w : World) :
    Calls Tryz.prog 99 #[.int .u32 (u32 x), .int .i64 2, .int .i64 13, .int .i64 22] w fun e w' => e = .returned (.int .u32 (u32 (rotr x 2 ^^^ rotr x 13 ^^^ rotr x 22))) ∧ w = w' :=
  mix_any x 2 13 22 (by omega) (by omega) (by omega) (by omega) (by omega) (by omega) w

end Go.Proofs.YtpmlkofceidnjaaGreatDoor
namespace Go.Proofs.YtpmlkofceidnjaaGreatDoor
open Go.RowKit

/-- n cells, by their places. -/
def row (n : Nat) (g : Nat → Value) : Array Value := ((List.range n).map g).toArray
theorem row_size (n : Nat) (g : Nat → Value) : (row n g).size = n := by simp [row]
theorem row_get (n : Nat) (g : Nat → Value) (j : Nat) (h : j < n) : (row n g)[j]? = some (g j) := by simp [row, h]
theorem row_congr {n : Nat} {g g' : Nat → Value} (h : ∀ j, j < n → g j = g' j) : row n g = row n g' := by
  unfold row; congr 1; apply List.map_congr_left; intro j hj; exact h j (by simpa using hj)
theorem row_set (n : Nat) (g : Nat → Value) (j : Nat) (v : Value) (_h : j < n) : (row n g).setIfInBounds j v = row n (fun i => if i = j then v else g i) := by
  apply Array.ext_getElem?
  intro i
  rw [Array.getElem?_setIfInBounds]
  by_cases hi : i < n
  · by_cases e : j = i
    · subst e; rw [if_pos rfl, row_get _ _ _ hi, row_size]; simp [hi]
    · rw [if_neg e, row_get _ _ _ hi, row_get _ _ _ hi]; simp [show ¬ i = j from fun x => e x.symm]
  · have h1 : ∀ q : Nat → Value, (row n q)[i]? = none := fun q => by rw [Array.getElem?_eq_none]; rw [row_size]; omega
    rw [h1, h1]; split
    · rw [row_size]; simp; omega
    · rfl
theorem row_one_z (n : Nat) (g : Nat → Value) (h : ∀ j, j < n → (g j).oneCell' = true) : (row n g).all (·.oneCell') = true := by
  rw [Array.all_eq_true_iff_forall_mem]; intro x hx; simp [row] at hx; obtain ⟨j, hj, rfl⟩ := hx; exact h j hj

/-- Index into an array value of one-cell elements. -/
theorem run_index_row {P : Program} {t elem : TypeId} {len : Nat} (hu : P.underlying t = some (.array len elem)) (ha : ∀ w, (isAgg elem).run P w = .ok false w) (hs : ∀ w, (sizeOf elem).run P w = .ok 1 w)
    (cs : Array Value) (k : Nat) (v : Value) (hk : k < len) (hv : cs[k]? = some v) (w : World) : (Instr.index t (.agg cs) (.int .i64 (k : Int))).run P w = .ok v w := by
  have h0 : (0 : Int) ≤ k ∧ (k : Int) < len := by omega
  simp [Instr.index, asIntOf, run_underlying hu, hk, hs, part, ha, hv]

/-- Bytes and words as the cells of an array of 64. -/
def byteRow (l : List UInt8) : Array Value := row 64 fun j => .int .u8 ((at8 l j).toNat : Nat)
def wordRow (L : List (BitVec 32)) : Array Value := row 64 fun j => .int .u32 (u32 (at32 L j))
theorem byteRow_get (l : List UInt8) (j : Nat) (h : j < 64) : (byteRow l)[j]? = some (.int .u8 ((at8 l j).toNat : Nat)) := row_get _ _ _ h
theorem wordRow_get (L : List (BitVec 32)) (j : Nat) (h : j < 64) : (wordRow L)[j]? = some (.int .u32 (u32 (at32 L j))) := row_get _ _ _ h
theorem byteRow_size (l : List UInt8) : (byteRow l).size = 64 := row_size _ _
theorem wordRow_size (L : List (BitVec 32)) : (wordRow L).size = 64 := row_size _ _
theorem byteRow_one (l : List UInt8) : (byteRow l).all (·.oneCell') = true := row_one_z _ _ fun _ _ => rfl
theorem wordRow_one (L : List (BitVec 32)) : (wordRow L).all (·.oneCell') = true := row_one_z _ _ fun _ _ => rfl
theorem wordRow_put (L : List (BitVec 32)) (j : Nat) (x : BitVec 32) (h : j < 64) (L' : List (BitVec 32)) (hL : ∀ i, i < 64 → at32 L' i = if i = j then x else at32 L i) :
    (wordRow L).setIfInBounds j (.int .u32 (u32 x)) = wordRow L' := by
  unfold wordRow; rw [row_set _ _ _ _ h]; apply row_congr; intro i hi; rw [hL i hi]; split <;> rfl

theorem byteRow_put (l : List UInt8) (j : Nat) (x : UInt8) (h : j < 64) (l' : List UInt8) (hL : ∀ i, i < 64 → at8 l' i = if i = j then x else at8 l i) :
    (byteRow l).setIfInBounds j (.int .u8 ((x.toNat : Nat) : Int)) = byteRow l' := by
  unfold byteRow; rw [row_set _ _ _ _ h]; apply row_congr; intro i hi; rw [hL i hi]; split <;> rfl

/-- A new variable of an array's type: its zero value lies in a new block. -/
theorem wpList_alloc_row {P : Program} {ops : Array Oper} {rest : List Oper} {o : Oper} {a : Act} {w : World} {Q : Exit → Act → World → Prop} (hgd : o.guard = none) (ty : TypeId) (ho : o.op = .alloc ty)
    (cs : Array Value) (hz : ∀ w, (zeroValue ty).run P w = .ok (.agg cs) w)
    (h : wpList P ops Q rest (a.put o.dst (.pointer (some ⟨w.heap.size, 0, none⟩))) (w.alloc (.cells cs ty))) : wpList P ops Q (o :: rest) a w := by
  refine wpList_plain hgd fun K hK => ?_
  unfold Oper.wp execOp
  simp only [ho, Instr.alloc, Sem.run_bind, hz, Result.andThen_ok, newVar, newRow, run_newObj_alloc, Sem.run_pure, Value.cells]
  exact hK _ _ h

theorem heap3_a (w : World) (A B C : Obj) : (((w.alloc A).alloc B).alloc C).heap[w.heap.size]? = some A := by
  rw [heap_alloc_old _ C (by simp; omega), heap_alloc_old _ B (by simp), heap_alloc_new]
theorem heap3_c (w : World) (A B C : Obj) : (((w.alloc A).alloc B).alloc C).heap[w.heap.size + 1 + 1]? = some C := by
  have h := heap_alloc_new ((w.alloc A).alloc B) C
  simpa using h
theorem heap3_b (w : World) (A B C : Obj) : (((w.alloc A).alloc B).alloc C).heap[w.heap.size + 1]? = some B := by
  rw [heap_alloc_old _ C (by simp)]; exact heap_alloc2_new _ _ _

theorem wordRow_congr {L L' : List (BitVec 32)} (h : ∀ j, j < 64 → at32 L j = at32 L' j) : wordRow L = wordRow L' := by
  unfold wordRow; exact row_congr fun j hj => by rw [h j hj]
theorem below_setRow {B : Nat} {a w : World} (h : Below B a w) (g : Nat) (cs : Array Value) (hg : B ≤ g) : Below B a (w.setRow g cs) :=
  h.trans ⟨rfl, rfl, rfl, by simp, fun k hk => setRow_other w g k cs (by omega)⟩
/-- A store into the block that was made last, behind draws. -/
theorem setCell_last (W : World) (C : Array Value) (t : TypeId) (n b j : Nat) (v : Value) (hb : b = W.heap.size) :
    ((W.alloc (.cells C t)).drewN n).setCell ⟨b, j, none⟩ v = (W.alloc (.cells (C.setIfInBounds j v) t)).drewN n := by
  rw [← World.setCell_alloc_at C t b j v hb]; rfl

end Go.Proofs.YtpmlkofceidnjaaGreatDoor
namespace Go.Proofs.YtpmlkofceidnjaaGreatDoor
open Go.RowKit
theorem zeroWords : ∀ w, (zeroValue 113).run Tryz.prog w = .ok (.agg (wordRow [])) w := by intro w; kernel_rfl
theorem aggByte : ∀ w, (isAgg 5).run Tryz.prog w = .ok false w := by intro w; kernel_rfl
theorem sizeByte : ∀ w, (sizeOf 5).run Tryz.prog w = .ok 1 w := by intro w; kernel_rfl
set_option maxRecDepth 100000 in
set_option maxHeartbeats 400000 in
theorem sched_any (l : List UInt8) (hl : l.length = 64) (w : World) :
    Calls Tryz.prog 98 #[.agg (byteRow l)] w fun e w' => e = .returned (.agg (wordRow (sched l 48))) ∧ Below w.heap.size w w' := by
  have HL := Lib.hid hl
  clear hl
  go_enter Tryz.func98, Tryz.ntmps98
  go_wp2_with (first | (refine wpList_alloc_row rfl 113 rfl (wordRow []) zeroWords ?_) | (refine wpList_load_row rfl 104 _ rfl _ rfl 104 (byteRow l) (0,0) _ (heap3_a _ _ _ _) Tryz.underlying104 rfl (by kernel_rfl) ?_))
  go_loopw [12] (fun i wr => ∃ k : Nat, k ≤ 64 ∧ i = .int .i64 k ∧ wr = ((w.alloc (.cells (byteRow l) 104)).alloc (.cells (wordRow []) 113)).alloc (.cells (wordRow (partW l k)) 113)) (fun i _ => 64 - (intOf i).toNat)
  case atStart => exact ⟨0, by omega, rfl, by rw [wordRow_congr (L := []) (L' := partW l 0)]; intro j _; rw [partW_zero]; rfl⟩
  case round =>
    obtain ⟨k, hk, rfl, rfl⟩ := hrel
    by_cases hlt : k < 64
    · have hix := fun wx => run_index_row (P := Tryz.prog) Tryz.underlying104 aggByte sizeByte (byteRow l) k _ hlt (byteRow_get l k hlt) wx
      have hg := wordRow_get (partW l k) (k / 4) (by omega)
      go_wp2_with fail
      go_roundw
      case rel =>
        exact ⟨k + 1, by omega, by go_num, by rw [wordRow_put _ _ _ (by omega) (partW l (k + 1)) (fun i _ => partW_step l HL.out k hlt i)]⟩
      case measure => simp [intOf]; omega
    · have e64 : k = 64 := by omega
      subst e64
      rw [partW_full l HL.out]
      clear hlt
      rw [show ((64 : Nat) : Int) = 64 from rfl]
      go_wp2_with fail
      go_loopw [6] (fun i wr => ∃ k n : Nat, k ≤ 48 ∧ i = .int .i64 (16 + k : Nat) ∧ wr = (((w.alloc (.cells (byteRow l) 104)).alloc (.cells (wordRow []) 113)).alloc (.cells (wordRow (sched l k)) 113)).drewN n) (fun i _ => 64 - (intOf i).toNat)
      case atStart => exact ⟨0, 0, by omega, rfl, rfl⟩
      case round =>
        obtain ⟨k, n, hk, rfl, rfl⟩ := hrel
        by_cases hlt : k < 48
        · have hd : decide ((16 : Int) + (k : Int) < 64) = true := by simp; omega
          have g16 := wordRow_get (sched l k) k (by omega)
          have gst := wordRow_get (sched l k) (16 + k) (by omega)
          have g15 := wordRow_get (sched l k) (16 + k - 15) (by omega)
          have g7 := wordRow_get (sched l k) (16 + k - 7) (by omega)
          have g2 := wordRow_get (sched l k) (16 + k - 2) (by omega)
          go_wp2_with fail
          go_quiet (fail)
          go_wp2_with (first | (go_at_call 108; (with_reducible refine (rot7 _ _).mono ?_); rintro e w' ⟨rfl, rfl⟩) | (go_at_call 108; (with_reducible refine (rot18 _ _).mono ?_); rintro e w' ⟨rfl, rfl⟩) | (go_at_call 108; (with_reducible refine (rot17 _ _).mono ?_); rintro e w' ⟨rfl, rfl⟩) | (go_at_call 108; (with_reducible refine (rot19 _ _).mono ?_); rintro e w' ⟨rfl, rfl⟩))
          go_region
          all_goals go_wp2_with fail
          go_roundw
          case rel =>
            refine ⟨k + 1, n + nq + 1, by omega, by go_num, ?_⟩
            rw [setCell_last _ _ _ _ _ _ _ (by simp)]
            rw [wordRow_put _ _ _ (by omega) (sched l (k + 1)) (fun i _ => ?_)]
            rw [at32_sched_step]
            simp only [newWord, small0, small1, Nat.add_sub_cancel_left]
          case measure => simp [intOf]; omega
        · have e48 : k = 48 := by omega
          subst e48
          clear hlt hk
          go_wp2_with (first | (refine wpList_load_row rfl 113 _ rfl _ rfl 113 (wordRow (sched l 48)) (0,0) _ (by rw [World.heap_drewN]; exact heap3_c _ _ _ _) Tryz.underlying113 rfl (by kernel_rfl) ?_) | (refine wpList_store_row rfl 113 _ _ rfl _ (wordRow (sched l 48)) rfl rfl 113 (wordRow []) (by rw [World.heap_drewN]; exact heap3_b _ _ _ _) (by kernel_rfl) (by rw [wordRow_size, wordRow_size]) (wordRow_one _) ?_))
          refine bodyPost_ret (v := .agg (wordRow (sched l 48))) (results_cell_row rfl _ _ _ 113 _ (0,0) _ rfl (setRow_heap _ _ _ _ 113 _ (by rw [World.heap_drewN]; exact heap3_b _ _ _ _)) Tryz.underlying113 rfl (by kernel_rfl)) rfl ⟨rfl, ?_⟩
          exact below_setRow (below_drewN ((((Below.refl _ _).alloc (Nat.le_refl _) _).alloc (by simp) _).alloc (by simp; omega) _) _) _ _ (by omega)
end Go.Proofs.YtpmlkofceidnjaaGreatDoor
namespace Go.Proofs.YtpmlkofceidnjaaGreatDoor
open Go.RowKit

/-- Block b holds the words of L as its first 64 cells. -/
def Holds (w : World) (b : Nat) (L : List (BitVec 32)) : Prop := ∀ i, i < 64 → w.cell? ⟨b, i, none⟩ = some (.int .u32 (u32 (at32 L i)))
theorem Holds.at {w : World} {b : Nat} {L : List (BitVec 32)} (h : Holds w b L) (i : Nat) (hi : i < 64) : w.cell? ⟨b, i, none⟩ = some (.int .u32 (u32 (at32 L i))) := h i hi
theorem Holds.lt {w : World} {b : Nat} {L : List (BitVec 32)} (h : Holds w b L) : b < w.heap.size := block_lt_of_cell (h 0 (by omega))
theorem Holds.below {w w' : World} {b B : Nat} {L : List (BitVec 32)} (h : Holds w b L) (hb : Below B w w') (hB : b < B) : Holds w' b L := fun i hi => (hb.cell (p := ⟨b, i, none⟩) hB).trans (h i hi)
theorem Holds.old {w w' : World} {b : Nat} {L : List (BitVec 32)} (h : Holds w b L) (hb : Below w.heap.size w w') : Holds w' b L := h.below hb h.lt
theorem Holds.of_row {w : World} {b : Nat} {L : List (BitVec 32)} {t : TypeId} {fr : Nat × Nat} (h : w.heap[b]? = some (.cells (wordRow L) t fr)) : Holds w b L := fun i hi => by
  rw [cell_of_row w b i _ t fr h, wordRow_get L i hi]

/-- A call that only draws, for a caller that has drawn. -/
theorem quiet_drawn {P : Program} {f : FuncId} {args : Array Value} {w : World} {n : Nat} {v : Value}
    (h : ∀ W : World, Calls P f args W fun e w' => e = .returned v ∧ W = w') : Calls P f args (w.drewN n) fun e w'' => e = .returned v ∧ ∃ m, w'' = w.drewN m :=
  (h _).mono fun _ _ hh => ⟨hh.1, n, hh.2.symm⟩
theorem quiet_drawn2 {P : Program} {f : FuncId} {args : Array Value} {w : World} {a n : Nat} {v : Value}
    (h : ∀ W : World, Calls P f args W fun e w' => e = .returned v ∧ W = w') : Calls P f args (w.drewN (a + n)) fun e w'' => e = .returned v ∧ ∃ m, w'' = w.drewN (a + m) :=
  (h _).mono fun _ _ hh => ⟨hh.1, n, hh.2.symm⟩

/-- The state in eight cells. -/
abbrev stRow (s : St) : Array Value := #[.int .u32 (u32 s.a), .int .u32 (u32 s.b), .int .u32 (u32 s.c), .int .u32 (u32 s.d), .int .u32 (u32 s.e), .int .u32 (u32 s.f), .int .u32 (u32 s.g), .int .u32 (u32 s.h)]

theorem stRow_one (s : St) : (stRow s).all (·.oneCell') = true := by simp [Value.oneCell']
theorem stRow_size (s : St) : (stRow s).size = 8 := rfl

end Go.Proofs.YtpmlkofceidnjaaGreatDoor
namespace Go.Proofs.YtpmlkofceidnjaaGreatDoor
@[go_sem] theorem u32_shl_7 (x : BitVec 32) : IntKind.u32.wrap (u32 x * (128 : Int)) = u32 (x <<< 7) := u32_shl_bv x 7
@[go_sem] theorem u32_shl_10 (x : BitVec 32) : IntKind.u32.wrap (u32 x * (1024 : Int)) = u32 (x <<< 10) := u32_shl_bv x 10
@[go_sem] theorem u32_shl_13 (x : BitVec 32) : IntKind.u32.wrap (u32 x * (8192 : Int)) = u32 (x <<< 13) := u32_shl_bv x 13
@[go_sem] theorem u32_shl_14 (x : BitVec 32) : IntKind.u32.wrap (u32 x * (16384 : Int)) = u32 (x <<< 14) := u32_shl_bv x 14
@[go_sem] theorem u32_shl_15 (x : BitVec 32) : IntKind.u32.wrap (u32 x * (32768 : Int)) = u32 (x <<< 15) := u32_shl_bv x 15
@[go_sem] theorem u32_shl_16 (x : BitVec 32) : IntKind.u32.wrap (u32 x * (65536 : Int)) = u32 (x <<< 16) := u32_shl_bv x 16
@[go_sem] theorem u32_shl_19 (x : BitVec 32) : IntKind.u32.wrap (u32 x * (524288 : Int)) = u32 (x <<< 19) := u32_shl_bv x 19
@[go_sem] theorem u32_shl_21 (x : BitVec 32) : IntKind.u32.wrap (u32 x * (2097152 : Int)) = u32 (x <<< 21) := u32_shl_bv x 21
@[go_sem] theorem u32_shl_24 (x : BitVec 32) : IntKind.u32.wrap (u32 x * (16777216 : Int)) = u32 (x <<< 24) := u32_shl_bv x 24
@[go_sem] theorem u32_shl_25 (x : BitVec 32) : IntKind.u32.wrap (u32 x * (33554432 : Int)) = u32 (x <<< 25) := u32_shl_bv x 25
@[go_sem] theorem u32_shl_26 (x : BitVec 32) : IntKind.u32.wrap (u32 x * (67108864 : Int)) = u32 (x <<< 26) := u32_shl_bv x 26
@[go_sem] theorem u32_shl_30 (x : BitVec 32) : IntKind.u32.wrap (u32 x * (1073741824 : Int)) = u32 (x <<< 30) := u32_shl_bv x 30
@[go_sem] theorem u32_shr_2 (x : BitVec 32) : u32 x / (4 : Int) = u32 (x >>> 2) := u32_shr_bv x 2
@[go_sem] theorem u32_shr_6 (x : BitVec 32) : u32 x / (64 : Int) = u32 (x >>> 6) := u32_shr_bv x 6
@[go_sem] theorem u32_shr_7 (x : BitVec 32) : u32 x / (128 : Int) = u32 (x >>> 7) := u32_shr_bv x 7
@[go_sem] theorem u32_shr_8 (x : BitVec 32) : u32 x / (256 : Int) = u32 (x >>> 8) := u32_shr_bv x 8
@[go_sem] theorem u32_shr_11 (x : BitVec 32) : u32 x / (2048 : Int) = u32 (x >>> 11) := u32_shr_bv x 11
@[go_sem] theorem u32_shr_13 (x : BitVec 32) : u32 x / (8192 : Int) = u32 (x >>> 13) := u32_shr_bv x 13
@[go_sem] theorem u32_shr_16 (x : BitVec 32) : u32 x / (65536 : Int) = u32 (x >>> 16) := u32_shr_bv x 16
@[go_sem] theorem u32_shr_17 (x : BitVec 32) : u32 x / (131072 : Int) = u32 (x >>> 17) := u32_shr_bv x 17
@[go_sem] theorem u32_shr_18 (x : BitVec 32) : u32 x / (262144 : Int) = u32 (x >>> 18) := u32_shr_bv x 18
@[go_sem] theorem u32_shr_19 (x : BitVec 32) : u32 x / (524288 : Int) = u32 (x >>> 19) := u32_shr_bv x 19
@[go_sem] theorem u32_shr_22 (x : BitVec 32) : u32 x / (4194304 : Int) = u32 (x >>> 22) := u32_shr_bv x 22
@[go_sem] theorem u32_shr_24 (x : BitVec 32) : u32 x / (16777216 : Int) = u32 (x >>> 24) := u32_shr_bv x 24
@[go_sem] theorem u32_shr_25 (x : BitVec 32) : u32 x / (33554432 : Int) = u32 (x >>> 25) := u32_shr_bv x 25
@[go_sem] theorem rot_eq_2 (x : BitVec 32) : x >>> 2 ||| x <<< 30 = rotr x 2 := BitVec.or_comm _ _
@[go_sem] theorem rot_eq_6 (x : BitVec 32) : x >>> 6 ||| x <<< 26 = rotr x 6 := BitVec.or_comm _ _
@[go_sem] theorem rot_eq_7 (x : BitVec 32) : x >>> 7 ||| x <<< 25 = rotr x 7 := BitVec.or_comm _ _
@[go_sem] theorem rot_eq_11 (x : BitVec 32) : x >>> 11 ||| x <<< 21 = rotr x 11 := BitVec.or_comm _ _
@[go_sem] theorem rot_eq_13 (x : BitVec 32) : x >>> 13 ||| x <<< 19 = rotr x 13 := BitVec.or_comm _ _
@[go_sem] theorem rot_eq_17 (x : BitVec 32) : x >>> 17 ||| x <<< 15 = rotr x 17 := BitVec.or_comm _ _
@[go_sem] theorem rot_eq_18 (x : BitVec 32) : x >>> 18 ||| x <<< 14 = rotr x 18 := BitVec.or_comm _ _
@[go_sem] theorem rot_eq_19 (x : BitVec 32) : x >>> 19 ||| x <<< 13 = rotr x 19 := BitVec.or_comm _ _
@[go_sem] theorem rot_eq_22 (x : BitVec 32) : x >>> 22 ||| x <<< 10 = rotr x 22 := BitVec.or_comm _ _
@[go_sem] theorem rot_eq_25 (x : BitVec 32) : x >>> 25 ||| x <<< 7 = rotr x 25 := BitVec.or_comm _ _

theorem shl_shl (x : BitVec 32) (a b : Nat) : (x <<< a) <<< b = x <<< (a + b) := by rw [BitVec.shiftLeft_add]
/-- Four bytes, the most significant one first. -/
theorem wordOf_four (a b c d : UInt8) : wordOf [a, b, c, d] = bw a <<< 24 ||| bw b <<< 16 ||| bw c <<< 8 ||| bw d := by
  simp only [wordOf, List.foldl_cons, List.foldl_nil, BitVec.shiftLeft_or_distrib, shl_shl, BitVec.zero_shiftLeft, BitVec.zero_or]
end Go.Proofs.YtpmlkofceidnjaaGreatDoor
namespace Go.Proofs.YtpmlkofceidnjaaGreatDoor
open Go.RowKit

theorem kRow : (#[.int .u32 1116352408, .int .u32 1899447441, .int .u32 3049323471, .int .u32 3921009573, .int .u32 961987163, .int .u32 1508970993, .int .u32 2453635748, .int .u32 2870763221, .int .u32 3624381080, .int .u32 310598401, .int .u32 607225278, .int .u32 1426881987, .int .u32 1925078388, .int .u32 2162078206, .int .u32 2614888103, .int .u32 3248222580, .int .u32 3835390401, .int .u32 4022224774, .int .u32 264347078, .int .u32 604807628, .int .u32 770255983, .int .u32 1249150122, .int .u32 1555081692, .int .u32 1996064986, .int .u32 2554220882, .int .u32 2821834349, .int .u32 2952996808, .int .u32 3210313671, .int .u32 3336571891, .int .u32 3584528711, .int .u32 113926993, .int .u32 338241895, .int .u32 666307205, .int .u32 773529912, .int .u32 1294757372, .int .u32 1396182291, .int .u32 1695183700, .int .u32 1986661051, .int .u32 2177026350, .int .u32 2456956037, .int .u32 2730485921, .int .u32 2820302411, .int .u32 3259730800, .int .u32 3345764771, .int .u32 3516065817, .int .u32 3600352804, .int .u32 4094571909, .int .u32 275423344, .int .u32 430227734, .int .u32 506948616, .int .u32 659060556, .int .u32 883997877, .int .u32 958139571, .int .u32 1322822218, .int .u32 1537002063, .int .u32 1747873779, .int .u32 1955562222, .int .u32 2024104815, .int .u32 2227730452, .int .u32 2361852424, .int .u32 2428436474, .int .u32 2756734187, .int .u32 3204031479, .int .u32 3329325298] : Array Value) = wordRow kWords := by kernel_rfl

theorem at32_take_step (L : List (BitVec 32)) (k j : Nat) (hk : k < L.length) : at32 (L.take (k + 1)) j = if j = k then at32 L k else at32 (L.take k) j := by
  unfold at32
  rw [List.getD_eq_getElem?_getD, List.getD_eq_getElem?_getD, List.getD_eq_getElem?_getD]
  by_cases e : j = k
  · subst e; rw [if_pos rfl, List.getElem?_take_of_lt (by omega)]
  · rw [if_neg e]
    by_cases h : j < k
    · rw [List.getElem?_take_of_lt (by omega), List.getElem?_take_of_lt h]
    · rw [List.getElem?_eq_none (by rw [List.length_take]; omega), List.getElem?_eq_none (by rw [List.length_take]; omega)]
theorem words16_at (l : List UInt8) (hl : l.length = 64) (k : Nat) (hk : k < 16) : at32 (words16 l) k = bw (at8 l (4 * k)) <<< 24 ||| bw (at8 l (4 * k + 1)) <<< 16 ||| bw (at8 l (4 * k + 2)) <<< 8 ||| bw (at8 l (4 * k + 3)) := by
  have e : (l.drop (4 * k)).take 4 = [at8 l (4 * k), at8 l (4 * k + 1), at8 l (4 * k + 2), at8 l (4 * k + 3)] := by
    apply List.ext_getElem?
    intro i
    rcases i with _ | _ | _ | _ | i
    · simp [at8, show 4 * k < l.length by omega]
    · simp [at8, show 4 * k + 1 < l.length by omega]
    · simp [at8, show 4 * k + 2 < l.length by omega]
    · simp [at8, show 4 * k + 3 < l.length by omega]
    · rw [List.getElem?_eq_none (by simp; omega), List.getElem?_eq_none (by simp)]
  rw [← wordOf_four, ← e]
  simp [at32, words16, hk]
theorem byte_at8 (b : ByteArray) (j : Nat) (h : j < b.size) : at8 b.data.toList j = b[j] := by
  have : j < b.data.toList.length := h
  show b.data.toList.getD j 0 = b[j]
  rw [List.getD_eq_getElem?_getD, List.getElem?_eq_getElem this]
  rfl

set_option maxRecDepth 100000 in
set_option maxHeartbeats 2000000 in
theorem round_any (hb : Nat) (s : St) (b : ByteArray) (hbs : b.size = 64) (w : World) (hg : w.heap[hb]? = some (.cells (stRow s) 88 (0, 0))) :
    Calls Tryz.prog 67 #[.slice (some ⟨hb, 0, none⟩) 8 8, .string b] w fun e w' => ∃ g, e = .returned (.slice (some ⟨g, 0, none⟩) 8 8) ∧ w'.heap[g]? = some (.cells (stRow (compress s b.data.toList)) 88 (0, 0)) ∧ Below w.heap.size w w' := by
  go_enter Tryz.func67, Tryz.ntmps67
  go_wp2_with (refine wpList_alloc_row rfl 113 rfl (wordRow []) zeroWords ?_)
  rw [kRow]
  go_loopw [7] (fun i wr => ∃ k n : Nat, k ≤ 16 ∧ i = .int .i64 k ∧ wr = ((w.alloc (.cells (wordRow kWords) 88)).alloc (.cells (wordRow ((words16 b.data.toList).take k)) 113)).drewN n) (fun i _ => 16 - (intOf i).toNat)
  case atStart => exact ⟨0, 0, by omega, rfl, rfl⟩
  case round =>
    obtain ⟨k, n, hk, rfl, rfl⟩ := hrel
    by_cases hlt : k < 16
    · --DEVCUT
      have hd : decide ((k : Int) < 16) = true := by simp; omega
      obtain ⟨x0, hx0⟩ : ∃ x, b[4 * k]'(by omega) = x := ⟨_, rfl⟩
      obtain ⟨x1, hx1⟩ : ∃ x, b[4 * k + 1]'(by omega) = x := ⟨_, rfl⟩
      obtain ⟨x2, hx2⟩ : ∃ x, b[4 * k + 2]'(by omega) = x := ⟨_, rfl⟩
      obtain ⟨x3, hx3⟩ : ∃ x, b[4 * k + 3]'(by omega) = x := ⟨_, rfl⟩
      have i0 := fun wx => run_index_at (P := Tryz.prog) Tryz.underlying9 b (4 * k) x0 (by omega) hx0 ((4 : Int) * (k : Int)) (by omega) wx
      have i1 := fun wx => run_index_at (P := Tryz.prog) Tryz.underlying9 b (4 * k + 1) x1 (by omega) hx1 ((4 : Int) * (k : Int) + 1) (by omega) wx
      have i2 := fun wx => run_index_at (P := Tryz.prog) Tryz.underlying9 b (4 * k + 2) x2 (by omega) hx2 ((4 : Int) * (k : Int) + 2) (by omega) wx
      have i3 := fun wx => run_index_at (P := Tryz.prog) Tryz.underlying9 b (4 * k + 3) x3 (by omega) hx3 ((4 : Int) * (k : Int) + 3) (by omega) wx
      have gst := wordRow_get ((words16 b.data.toList).take k) k (by omega)
      have HX0 := Lib.hid hx0
      have HX1 := Lib.hid hx1
      have HX2 := Lib.hid hx2
      have HX3 := Lib.hid hx3
      clear hx0 hx1 hx2 hx3
      go_wp2_with fail
      go_region
      all_goals go_wp2_with fail
      go_roundw
      case rel =>
        refine ⟨k + 1, n + 1, by omega, by go_num, ?_⟩
        rw [setCell_last _ _ _ _ _ _ _ (by simp)]
        have hll : b.data.toList.length = 64 := hbs
        have e : bw x0 <<< 24 ||| bw x1 <<< 16 ||| bw x2 <<< 8 ||| bw x3 = at32 (words16 b.data.toList) k := by
          rw [words16_at _ hll k hlt, byte_at8 b _ (by omega), byte_at8 b _ (by omega), byte_at8 b _ (by omega), byte_at8 b _ (by omega), HX0.out, HX1.out, HX2.out, HX3.out]
        rw [e, wordRow_put _ _ _ (by omega) ((words16 b.data.toList).take (k + 1)) (fun i _ => at32_take_step _ k i (by simp [words16]; exact hlt))]
      case measure => simp [intOf]; omega
      --DEVEND
    · have e16 : k = 16 := by omega
      subst e16
      have hd : decide (((16 : Nat) : Int) < 16) = false := by decide
      rw [show (words16 b.data.toList).take 16 = sched b.data.toList 0 from List.take_of_length_le (by simp [words16])]
      clear hlt hk
      go_wp2_with fail
      go_loopw [8] (fun i wr => ∃ k n : Nat, k ≤ 48 ∧ i = .int .i64 (16 + k : Nat) ∧ wr = ((w.alloc (.cells (wordRow kWords) 88)).alloc (.cells (wordRow (sched b.data.toList k)) 113)).drewN n) (fun i _ => 64 - (intOf i).toNat)
      case atStart => exact ⟨0, _, by omega, rfl, rfl⟩
      case round =>
        obtain ⟨k, n, hk, rfl, rfl⟩ := hrel
        by_cases hlt : k < 48
        · --DEVCUT
          have hd : decide ((16 : Int) + (k : Int) < 64) = true := by simp; omega
          have g16 := wordRow_get (sched b.data.toList k) k (by omega)
          have gst := wordRow_get (sched b.data.toList k) (16 + k) (by omega)
          have g15 := wordRow_get (sched b.data.toList k) (16 + k - 15) (by omega)
          have g7 := wordRow_get (sched b.data.toList k) (16 + k - 7) (by omega)
          have g2 := wordRow_get (sched b.data.toList k) (16 + k - 2) (by omega)
          go_wp2_with fail
          go_quiet (fail)
          go_wp2_with fail
          go_region
          all_goals go_wp2_with fail
          go_roundw
          case rel =>
            refine ⟨k + 1, n + nq + 1, by omega, by go_num, ?_⟩
            rw [setCell_last _ _ _ _ _ _ _ (by simp)]
            rw [wordRow_put _ _ _ (by omega) (sched b.data.toList (k + 1)) (fun i _ => ?_)]
            rw [at32_sched_step]
            simp only [newWord, small0, small1, Nat.add_sub_cancel_left]
          case measure => simp [intOf]; omega
          --DEVEND
        · have e48 : k = 48 := by omega
          subst e48
          have hd : decide ((16 : Int) + ((48 : Nat) : Int) < 64) = false := by decide
          clear hlt hk
          obtain ⟨wa, hwa⟩ : ∃ wa, wa = (w.alloc (.cells (wordRow kWords) 88)).alloc (.cells (wordRow (sched b.data.toList 48)) 113) := ⟨_, rfl⟩
          have hKa : Holds wa w.heap.size kWords := by rw [hwa]; exact Holds.of_row (heap_alloc2_old _ _ _)
          have hWa : Holds wa (w.heap.size + 1) (sched b.data.toList 48) := by rw [hwa]; exact Holds.of_row (heap_alloc2_new _ _ _)
          have hba : Below w.heap.size w wa := by rw [hwa]; exact ((Below.refl _ _).alloc (Nat.le_refl _) _).alloc (by simp) _
          have hga : wa.heap[hb]? = some (.cells (stRow s) 88 (0, 0)) := (hba.block hb (Array.getElem?_eq_some_iff.1 hg).1).trans hg
          have c0 := cell_of_row wa _ 0 _ _ _ hga
          have c1 := cell_of_row wa _ 1 _ _ _ hga
          have c2 := cell_of_row wa _ 2 _ _ _ hga
          have c3 := cell_of_row wa _ 3 _ _ _ hga
          have c4 := cell_of_row wa _ 4 _ _ _ hga
          have c5 := cell_of_row wa _ 5 _ _ _ hga
          have c6 := cell_of_row wa _ 6 _ _ _ hga
          have c7 := cell_of_row wa _ 7 _ _ _ hga
          simp at c0 c1 c2 c3 c4 c5 c6 c7
          rw [← hwa]
          have HKa := Lib.hid hKa
          have HWa := Lib.hid hWa
          have HBa := Lib.hid hba
          clear hwa hKa hWa hba hga
          go_wp2_with fail
          go_quiet (fail)
          go_wp2_with fail
          go_loopw [13, 14, 15, 16, 17, 18, 19, 20, 21] (fun a b' c d e f g h i wr => ∃ k n : Nat, ∃ r : St, k ≤ 64 ∧ i = .int .i64 k ∧ r = rounds (sched b.data.toList 48) s k ∧ a = .int .u32 (Go.Proofs.YtpmlkofceidnjaaGreatDoor.u32 r.a) ∧ b' = .int .u32 (Go.Proofs.YtpmlkofceidnjaaGreatDoor.u32 r.b) ∧ c = .int .u32 (Go.Proofs.YtpmlkofceidnjaaGreatDoor.u32 r.c) ∧ d = .int .u32 (Go.Proofs.YtpmlkofceidnjaaGreatDoor.u32 r.d) ∧ e = .int .u32 (Go.Proofs.YtpmlkofceidnjaaGreatDoor.u32 r.e) ∧ f = .int .u32 (Go.Proofs.YtpmlkofceidnjaaGreatDoor.u32 r.f) ∧ g = .int .u32 (Go.Proofs.YtpmlkofceidnjaaGreatDoor.u32 r.g) ∧ h = .int .u32 (Go.Proofs.YtpmlkofceidnjaaGreatDoor.u32 r.h) ∧ wr = wa.drewN n) (fun _ _ _ _ _ _ _ _ i _ => 64 - (intOf i).toNat)
          case atStart => exact ⟨0, _, s, by omega, rfl, rfl, rfl, rfl, rfl, rfl, rfl, rfl, rfl, rfl, by first | exact World.drewN_drewN _ _ _ | rfl⟩
          case round =>
            obtain ⟨k, n, r, hk, rfl, hr, rfl, rfl, rfl, rfl, rfl, rfl, rfl, rfl, rfl⟩ := hrel
            have HR := Lib.hid hr
            clear hr
            by_cases hlt : k < 64
            · --DEVCUT
              have hd : decide ((k : Int) < 64) = true := by simp; omega
              have gK := HKa.out k hlt
              have gW := HWa.out k hlt
              clear c0 c1 c2 c3 c4 c5 c6 c7
              go_wp2_with fail
              go_quiet (fail)
              go_wp2_with fail
              go_roundw
              case rel =>
                refine ⟨k + 1, _, step (at32 kWords k) (at32 (sched b.data.toList 48) k) r, by omega, by go_num, by rw [HR.out]; rfl, ?_, rfl, rfl, rfl, ?_, rfl, rfl, rfl, rfl⟩
                · simp only [step, big0, big1, choose, major]
                · simp only [step, big0, big1, choose, major]
              case measure => simp [intOf]; omega
              --DEVEND
            · have e64 : k = 64 := by omega
              subst e64
              have hd : decide (((64 : Nat) : Int) < 64) = false := by decide
              clear hlt hk
              go_wp2_with fail
              go_region_held3 (fun w' => w'.cell? ⟨hb, 0, none⟩ = some (.int .u32 (Go.Proofs.YtpmlkofceidnjaaGreatDoor.u32 s.a)) ∧ w'.cell? ⟨hb, 1, none⟩ = some (.int .u32 (Go.Proofs.YtpmlkofceidnjaaGreatDoor.u32 s.b)) ∧ w'.cell? ⟨hb, 2, none⟩ = some (.int .u32 (Go.Proofs.YtpmlkofceidnjaaGreatDoor.u32 s.c)) ∧ w'.cell? ⟨hb, 3, none⟩ = some (.int .u32 (Go.Proofs.YtpmlkofceidnjaaGreatDoor.u32 s.d)) ∧ w'.cell? ⟨hb, 4, none⟩ = some (.int .u32 (Go.Proofs.YtpmlkofceidnjaaGreatDoor.u32 s.e)) ∧ w'.cell? ⟨hb, 5, none⟩ = some (.int .u32 (Go.Proofs.YtpmlkofceidnjaaGreatDoor.u32 s.f)) ∧ w'.cell? ⟨hb, 6, none⟩ = some (.int .u32 (Go.Proofs.YtpmlkofceidnjaaGreatDoor.u32 s.g)) ∧ w'.cell? ⟨hb, 7, none⟩ = some (.int .u32 (Go.Proofs.YtpmlkofceidnjaaGreatDoor.u32 s.h))) (go_keep) (fail)
              go_wp2_with fail
              have hr := HR.out
              subst hr
              go_ret
              refine ⟨wa.heap.size, rfl, ?_, ?_⟩
              · first | exact heap_alloc_new _ _ | (simp only [World.heap_drewN, World.heap_drew]; exact heap_alloc_new _ _)
              · first | exact below_drewN (HBa.out.alloc HBa.out.size _) _ | exact (below_drewN HBa.out _).alloc HBa.out.size _ | exact Below.drew (HBa.out.alloc HBa.out.size _)
end Go.Proofs.YtpmlkofceidnjaaGreatDoor
namespace Go.Proofs.YtpmlkofceidnjaaGreatDoor
open Go.RowKit

def zero8 : Array Value := #[.int .u32 0, .int .u32 0, .int .u32 0, .int .u32 0, .int .u32 0, .int .u32 0, .int .u32 0, .int .u32 0]
theorem zeroSt : ∀ w, (zeroValue 103).run Tryz.prog w = .ok (.agg zero8) w := by intro w; kernel_rfl

set_option maxRecDepth 100000 in
set_option maxHeartbeats 1000000 in
theorem compress_any (s : St) (l : List UInt8) (hl : l.length = 64) (w : World) (hK : Holds w 0 kWords) :
    Calls Tryz.prog 88 #[.agg (stRow s), .agg (byteRow l)] w fun e w' => e = .returned (.agg (stRow (compress s l))) ∧ Below w.heap.size w w' := by
  have HL := Lib.hid hl
  clear hl
  go_enter Tryz.func88, Tryz.ntmps88
  go_wp2_with (first | (go_at_call 98; (with_reducible refine (sched_any l HL.out _).mono ?_); rintro e w1 ⟨rfl, hb1⟩) | (refine wpList_alloc_row rfl 113 rfl (wordRow []) zeroWords ?_) | (refine wpList_alloc_row rfl 103 rfl zero8 zeroSt ?_) | (refine wpList_load_row rfl 104 _ rfl _ rfl 104 (byteRow l) (0,0) _ (heap3_b _ _ _ _) Tryz.underlying104 rfl (by kernel_rfl) ?_) | (refine wpList_store_row rfl 113 _ _ rfl _ (wordRow (sched l 48)) rfl rfl 113 (wordRow []) (heap_alloc_new _ _) (by kernel_rfl) (by rw [wordRow_size, wordRow_size]) (wordRow_one _) ?_))
  have hsz : w.heap.size + 3 ≤ w1.heap.size := by have := hb1.size; simp at this; omega
  obtain ⟨wa, hwa⟩ : ∃ wa, wa = (w1.alloc (.cells (wordRow []) 113)).setRow w1.heap.size (wordRow (sched l 48)) := ⟨_, rfl⟩
  have hbk : ∀ i, i < w.heap.size + 3 → wa.heap[i]? = (((w.alloc (.cells (stRow s) 103)).alloc (.cells (byteRow l) 104)).alloc (.cells zero8 103)).heap[i]? := fun i hi => by
    rw [hwa, setRow_other _ _ _ _ (by omega), heap_alloc_old _ _ (by omega), hb1.block i (by simp; omega)]
  have hs := (hbk w.heap.size (by omega)).trans (heap3_a _ _ _ _)
  have hz := (hbk (w.heap.size + 1 + 1) (by omega)).trans (heap3_c _ _ _ _)
  have hW : Holds wa w1.heap.size (sched l 48) := Holds.of_row (by rw [hwa]; exact setRow_heap _ _ _ _ 113 _ (heap_alloc_new _ _))
  have hb : Below w.heap.size w wa := by
    rw [hwa]
    refine below_setRow (Below.alloc ?_ (by omega) _) _ _ (by omega)
    exact ((((Below.refl _ _).alloc (Nat.le_refl _) _).alloc (by simp) _).alloc (by simp; omega) _).trans (hb1.mono (by simp; omega))
  have hKa := hK.old hb
  rw [← hwa]
  clear hwa hbk hb1 hK
  have HW := Lib.hid hW
  have HK := Lib.hid hKa
  clear hW hKa
  have c0 := cell_of_row wa _ 0 _ _ _ hs
  have c1 := cell_of_row wa _ 1 _ _ _ hs
  have c2 := cell_of_row wa _ 2 _ _ _ hs
  have c3 := cell_of_row wa _ 3 _ _ _ hs
  have c4 := cell_of_row wa _ 4 _ _ _ hs
  have c5 := cell_of_row wa _ 5 _ _ _ hs
  have c6 := cell_of_row wa _ 6 _ _ _ hs
  have c7 := cell_of_row wa _ 7 _ _ _ hs
  simp at c0 c1 c2 c3 c4 c5 c6 c7
  have HZ := Lib.hid hz
  clear hs hz
  go_quiet (fail)
  go_wp2_with fail
  go_quiet (fail)
  go_wp2_with fail
  go_loopw [6, 7, 8, 9, 10, 11, 12, 13, 37] (fun a b c d e f g h i wr => ∃ k n : Nat, ∃ r : St, k ≤ 64 ∧ i = .int .i64 k ∧ r = rounds (sched l 48) s k ∧ a = .int .u32 (u32 r.a) ∧ b = .int .u32 (u32 r.b) ∧ c = .int .u32 (u32 r.c) ∧ d = .int .u32 (u32 r.d) ∧ e = .int .u32 (u32 r.e) ∧ f = .int .u32 (u32 r.f) ∧ g = .int .u32 (u32 r.g) ∧ h = .int .u32 (u32 r.h) ∧ wr = wa.drewN n) (fun _ _ _ _ _ _ _ _ i _ => 64 - (intOf i).toNat)
  case atStart => exact ⟨0, _, s, by omega, rfl, rfl, rfl, rfl, rfl, rfl, rfl, rfl, rfl, rfl, World.drewN_drewN _ _ _⟩
  case round =>
    obtain ⟨k, n, r, hk, rfl, hr, rfl, rfl, rfl, rfl, rfl, rfl, rfl, rfl, rfl⟩ := hrel
    have HR := Lib.hid hr
    clear hr
    by_cases hlt : k < 64
    · have hd : decide ((k : Int) < 64) = true := by simp; omega
      have gK := HK.out k hlt
      have gW := HW.out k hlt
      go_wp2_with fail
      go_quiet ((go_at_call 99; (first | exact quiet_drawn (mix_e _) | exact quiet_drawn2 (mix_e _))))
      go_wp2_with (go_at_call 99; (with_reducible refine (mix_a _ _).mono ?_); rintro e w' ⟨rfl, rfl⟩)
      go_roundw
      case rel =>
        refine ⟨k + 1, _, step (at32 kWords k) (at32 (sched l 48) k) r, by omega, by go_num, by rw [HR.out]; rfl, ?_, rfl, rfl, rfl, ?_, rfl, rfl, rfl, rfl⟩
        · simp only [step, big0, big1, choose, major]
        · simp only [step, big0, big1, choose, major]
      case measure => simp [intOf]; omega
    · have e64 : k = 64 := by omega
      subst e64
      rw [show ((64 : Nat) : Int) = 64 from rfl]
      clear hlt hk
      go_wp2_with (refine wpList_store_row rfl 103 _ _ rfl _ (stRow (addSt s r)) rfl rfl 103 zero8 (by rw [World.heap_drewN]; exact HZ.out) (by kernel_rfl) (by rw [stRow_size]; rfl) (stRow_one _) ?_)
      have hr : ((wa.drewN n).setRow (w.heap.size + 1 + 1) (stRow (addSt s r))).heap[w.heap.size + 1 + 1]? = some (.cells (stRow (addSt s r)) 103 (0, 0)) := setRow_heap _ _ _ _ _ _ (by rw [World.heap_drewN]; exact HZ.out)
      refine bodyPost_ret (v := .agg (stRow (addSt s r))) (results_cell_row rfl _ _ _ 103 _ (0,0) _ rfl hr Tryz.underlying103 rfl (by kernel_rfl)) rfl ⟨?_, ?_⟩
      · rw [HR.out]; rfl
      · exact below_setRow (below_drewN hb _) _ _ (by omega)
end Go.Proofs.YtpmlkofceidnjaaGreatDoor
namespace Go.Proofs.YtpmlkofceidnjaaGreatDoor
open Go.RowKit

/-- The cells vs written over cs from place o on. -/
def splice (cs : List Value) (o : Nat) (vs : List Value) : Array Value := (cs.take o ++ vs ++ cs.drop (o + vs.length)).toArray

/-- copy(dst, s) from a string: as many bytes go over as there is room for. -/
theorem wpList_copy_str {P : Program} {ops : Array Oper} {rest : List Oper} {o : Oper} {a : Act} {w : World} {Q : Exit → Act → World → Prop} (hgd : o.guard = none) (d s : Operand) (dT sT elem : TypeId)
    (ho : o.op = .call { callee := .builtin .copy, args := #[d, s], argTypes := #[dT, sT] }) (hu : P.underlying dT = some (.slice elem)) (hz : ∀ w, (sizeOf elem).run P w = .ok 1 w)
    (g off dLen dCap : Nat) (hd : a.eval d = .slice (some ⟨g, off, none⟩) dLen dCap) (b : ByteArray) (hs : a.eval s = .string b) (n : Nat) (hn : n = min b.size dLen)
    (t : TypeId) (cur : Array Value) (hg : w.heap[g]? = some (.cells cur t (0, 0))) (hfit : off + n ≤ cur.size)
    (h : wpList P ops Q rest (a.put o.dst (.int .i64 (n : Int))) (w.setRow g (splice cur.toList off ((b.data.toList.take n).map bcell)))) : wpList P ops Q (o :: rest) a w := by
  refine wpList_plain hgd fun K hK => ?_
  have hlen : ((b.data.toList.take n).map bcell).length = n := by
    have : b.data.toList.length = b.size := rfl
    simp; omega
  have hst := run_storeCells_at (P := P) g off t ((b.data.toList.take n).map bcell) 0 cur w hg (by rw [hlen]; simpa using hfit) (bcells_one _)
  simp only [Nat.add_zero] at hst
  have hcells : ((b.extract 0 n).data.map fun b : UInt8 => Value.int .u8 b.toNat).toList = (b.data.toList.take n).map bcell := by
    simp; rfl
  have hrun : (Builtin.copy_ #[dT, sT] o.type #[.slice (some ⟨g, off, none⟩) dLen dCap, .string b]).run P w = .ok (.int .i64 (n : Int)) (w.setRow g (splice cur.toList off ((b.data.toList.take n).map bcell))) := by
    have e : Nat.min b.size dLen = n := hn.symm
    simp only [Builtin.copy_, Builtin.lenOf, Builtin.firstCells]
    simp only [List.getElem?_toArray, List.getElem?_cons_zero, List.getElem?_cons_succ]
    simp only [run_underlying hu, hz, Sem.run_bind, Sem.run_pure, Result.andThen_ok, e, hcells, hst]
    rfl
  unfold Oper.wp
  simp only [execOp, ho, resolve, invoke, builtin, Sem.run_bind, Sem.run_pure, Result.andThen_ok, List.map_toArray, List.map_cons, List.map_nil, hd, hs, hrun]
  exact hK _ _ h

/-- clear of a stretch of bytes, empty or not. -/
theorem wpList_clear_bytes {P : Program} {ops : Array Oper} {rest : List Oper} {o : Oper} {a : Act} {w : World} {Q : Exit → Act → World → Prop} (hgd : o.guard = none) (d : Operand) (dT elem : TypeId)
    (ho : o.op = .call { callee := .builtin .clear, args := #[d], argTypes := #[dT] }) (hu : P.underlying dT = some (.slice elem)) (hz : ∀ w, (zeroValue elem).run P w = .ok (.int .u8 0) w)
    (g off n cap : Nat) (hd : a.eval d = .slice (some ⟨g, off, none⟩) n cap)
    (t : TypeId) (cur : Array Value) (hg : w.heap[g]? = some (.cells cur t (0, 0))) (hfit : off + n ≤ cur.size)
    (h : wpList P ops Q rest (a.put o.dst (.tuple #[])) (w.setRow g (splice cur.toList off ((List.replicate n (0 : UInt8)).map bcell)))) : wpList P ops Q (o :: rest) a w := by
  refine wpList_plain hgd fun K hK => ?_
  have hst := run_storeCells_at (P := P) g off t ((List.replicate n (0 : UInt8)).map bcell) 0 cur w hg (by simpa using hfit) (bcells_one _)
  simp only [Nat.add_zero] at hst
  have hzc : (Builtin.zeroCells (Value.int .u8 0).cells n).toList = (List.replicate n (0 : UInt8)).map bcell := by
    simp only [Builtin.zeroCells, Value.cells]
    apply List.ext_getElem
    · simp
    · intro i h1 h2
      simp [Nat.mod_one, bcell]
  have hrun : (Builtin.clear_ #[dT] o.type #[.slice (some ⟨g, off, none⟩) n cap]).run P w = .ok (.tuple #[]) (w.setRow g (splice cur.toList off ((List.replicate n (0 : UInt8)).map bcell))) := by
    cases n with
    | zero =>
      have e : splice cur.toList off ((List.replicate 0 (0 : UInt8)).map bcell) = cur := by simp [splice]
      rw [e, setRow_self w g cur t (0, 0) hg]
      simp [Builtin.clear_, run_underlying hu]
    | succ m =>
      simp only [List.map_replicate] at hst hzc ⊢
      simp [Builtin.clear_, run_underlying hu, hz, hzc, hst, splice, Result.andThen]
  unfold Oper.wp
  simp only [execOp, ho, resolve, invoke, builtin, Sem.run_bind, Sem.run_pure, Result.andThen_ok, List.map_toArray, List.map_cons, List.map_nil, hd, hrun]
  exact hK _ _ h

/-- A slice of an array behind a pointer, from a place on. -/
theorem run_sliceAt_low {P : Program} {t elem : TypeId} {n : Nat} (hu : P.underlying t = some (.array n elem)) (hs : ∀ w, (sizeOf elem).run P w = .ok 1 w) (b o l : Nat) (hl : l < n) (w : World) :
    (Instr.sliceAt t (.pointer (some ⟨b, o, none⟩)) (some (.int .i64 (l : Int))) none none).run P w = .ok (.slice (some ⟨b, o + l, none⟩) (n - l) (n - l)) w := by
  have h1 : l ≤ n := by omega
  have h2 : ¬ n = l := by omega
  have hadd : (⟨b, o, none⟩ : Addr).add l = ⟨b, o + l, none⟩ := by unfold Addr.add; split <;> simp_all
  simp [Instr.sliceAt, Instr.sureAddr, run_underlying hu, Instr.sliceBounds, Instr.sliceBound, asIntOf, h1, hs, h2, hadd]
theorem run_sliceAt_end {P : Program} {t elem : TypeId} {n : Nat} (hu : P.underlying t = some (.array n elem)) (hs : ∀ w, (sizeOf elem).run P w = .ok 1 w) (b o : Nat) (w : World) :
    (Instr.sliceAt t (.pointer (some ⟨b, o, none⟩)) (some (.int .i64 (n : Int))) none none).run P w = .ok (.slice (some ⟨b, o, none⟩) 0 0) w := by
  simp [Instr.sliceAt, Instr.sureAddr, run_underlying hu, Instr.sliceBounds, Instr.sliceBound, asIntOf, hs]
theorem run_sliceAt_whole {P : Program} {t elem : TypeId} {n : Nat} (hu : P.underlying t = some (.array (n + 1) elem)) (hs : ∀ w, (sizeOf elem).run P w = .ok 1 w) (b o : Nat) (w : World) :
    (Instr.sliceAt t (.pointer (some ⟨b, o, none⟩)) none none none).run P w = .ok (.slice (some ⟨b, o, none⟩) (n + 1) (n + 1)) w := by
  have hadd : (⟨b, o, none⟩ : Addr).add 0 = ⟨b, o, none⟩ := by unfold Addr.add; split <;> simp_all
  simp [Instr.sliceAt, Instr.sureAddr, run_underlying hu, Instr.sliceBounds, hs, hadd]

theorem stRow_ones (s : St) : ∀ v ∈ (stRow s).toList, v.oneCell' = true := by
  intro v hv
  simp at hv
  rcases hv with rfl | rfl | rfl | rfl | rfl | rfl | rfl | rfl <;> rfl

end Go.Proofs.YtpmlkofceidnjaaGreatDoor
