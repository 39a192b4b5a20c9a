/-
  A hash.Stream in memory: its 73 cells, and what it stands for. Nothing is claimed of the program here.
  The contracts of hash.firstState and of the stream's chain: the state with which the next block is compressed; nothing that was there before the call has changed.
-/
import Derived.Test.YtbmphhiafepnoaaDoorAac
namespace Go.Proofs.YtbmphhiafepnoaaDoor
open Go.RowKit

def strCells (s : St) (blk : List UInt8) (n : Nat) : List Value := (stRow s).toList ++ (blk.map bcell ++ [.int .i64 (n : Int)])
def strRow (s : St) (blk : List UInt8) (n : Nat) : Array Value := (strCells s blk n).toArray
theorem strRow_size (s : St) (blk : List UInt8) (n : Nat) (h : blk.length = 64) : (strRow s blk n).size = 73 := by simp [strRow, strCells, h]
theorem splice_state (s s' : St) (blk : List UInt8) (n : Nat) : splice (strRow s blk n).toList 0 (stRow s').toList = strRow s' blk n := by
  simp [splice, strRow, strCells]
theorem splice_block (s : St) (blk bs : List UInt8) (n u : Nat) (h : blk.length = 64) (hu : u + bs.length ≤ 64) :
    splice (strRow s blk n).toList (8 + u) (bs.map bcell) = strRow s (blk.take u ++ bs ++ blk.drop (u + bs.length)) n := by
  have e8 : (stRow s).toList.length = 8 := rfl
  simp only [splice, strRow, strCells]
  rw [List.take_append, List.drop_append, e8, List.take_of_length_le (l := (stRow s).toList) (by rw [e8]; omega), List.drop_eq_nil_of_le («as» := (stRow s).toList) (by rw [e8]; omega)]
  rw [show 8 + u - 8 = u by omega, show 8 + u + (bs.map bcell).length - 8 = u + bs.length by simp; omega]
  rw [List.take_append_of_le_length (by simp; omega), List.drop_append_of_le_length (by simp; omega)]
  simp
theorem strRow_len (s : St) (blk : List UInt8) (n n' : Nat) (h : blk.length = 64) : (strRow s blk n).setIfInBounds 72 (.int .i64 (n' : Int)) = strRow s blk n' := by
  simp only [strRow, strCells, List.setIfInBounds_toArray]
  congr 1
  rw [List.set_append_right _ _ (by simp), List.set_append_right _ _ (by simp [h])]
  simp [h]
theorem str_state {w : World} {p : Nat} {t : TypeId} {s : St} {blk : List UInt8} {n : Nat} (hg : w.heap[p]? = some (.cells (strRow s blk n) t (0, 0))) : w.rangeAt p 0 (stRow s).toList := fun j v hv => by
  rw [Nat.zero_add, cell_of_row w p j _ t (0, 0) hg]
  have hj : j < 8 := by have := (List.getElem?_eq_some_iff.1 hv).1; simpa using this
  simp only [strRow, strCells, List.getElem?_toArray]
  rw [List.getElem?_append_left (by simpa using hj)]; exact hv
theorem str_block {w : World} {p : Nat} {t : TypeId} {s : St} {blk : List UInt8} {n : Nat} (h : blk.length = 64) (hg : w.heap[p]? = some (.cells (strRow s blk n) t (0, 0))) : w.rangeAt p 8 (blk.map bcell) := fun j v hv => by
  rw [cell_of_row w p _ _ t (0, 0) hg]
  have hj : j < 64 := by have := (List.getElem?_eq_some_iff.1 hv).1; simpa [h] using this
  simp only [strRow, strCells, List.getElem?_toArray]
  rw [List.getElem?_append_right (by simp), show 8 + j - (stRow s).toList.length = j by simp, List.getElem?_append_left (by simpa [h] using hj)]; exact hv
theorem str_len {w : World} {p : Nat} {t : TypeId} {s : St} {blk : List UInt8} {n : Nat} (h : blk.length = 64) (hg : w.heap[p]? = some (.cells (strRow s blk n) t (0, 0))) : w.cell? ⟨p, 72, none⟩ = some (.int .i64 (n : Int)) := by
  rw [cell_of_row w p _ _ t (0, 0) hg]
  simp only [strRow, strCells, List.getElem?_toArray]
  rw [List.getElem?_append_right (by simp), List.getElem?_append_right (by simp [h])]
  simp [h]
theorem byteRow_cells (blk : List UInt8) (h : blk.length = 64) : (blk.map bcell).toArray = byteRow blk := by
  apply Array.ext_getElem?
  intro i
  by_cases hi : i < 64
  · rw [byteRow_get _ _ hi]
    simp [bcell, at8, show i < blk.length by omega]
  · rw [Array.getElem?_eq_none (by simp; omega), Array.getElem?_eq_none (by rw [byteRow_size]; omega)]

/-- The state with which the next block is compressed. -/
def nextSt (s : St) (n : Nat) : St := if n < 64 then iv else s

/-- The stream in block p stands for the bytes m. -/
def IsStr (T : TypeId) (w : World) (p : Nat) (m : List UInt8) : Prop := ∃ s blk, blk.length = 64 ∧ w.heap[p]? = some (.cells (strRow s blk m.length) T (0, 0)) ∧
  blk.take (m.length % 64) = m.drop (64 * (m.length / 64)) ∧ nextSt s m.length = chain m (m.length / 64)
theorem IsStr.lt {T : TypeId} {w : World} {p : Nat} {m : List UInt8} (h : IsStr T w p m) : p < w.heap.size := by
  obtain ⟨s, blk, _, hg, _⟩ := h; exact (Array.getElem?_eq_some_iff.1 hg).1
/-! The blocks of a list, and of a longer one. -/
theorem chain_append (m r : List UInt8) (n : Nat) (h : 64 * n ≤ m.length) : chain (m ++ r) n = chain m n := by
  induction n with
  | zero => rfl
  | succ n ih =>
    rw [chain, chain, ih (by omega)]
    congr 1
    rw [List.drop_append_of_le_length (by omega), List.take_append_of_le_length (by simp; omega)]

/-- Bytes are put behind, and the block is not full. -/
theorem str_part {m bs blk : List UInt8} {s : St} (hl : blk.length = 64) (h1 : blk.take (m.length % 64) = m.drop (64 * (m.length / 64))) (h2 : nextSt s m.length = chain m (m.length / 64)) (hb : m.length % 64 + bs.length < 64) :
    (blk.take (m.length % 64) ++ bs ++ blk.drop (m.length % 64 + bs.length)).take ((m ++ bs).length % 64) = (m ++ bs).drop (64 * ((m ++ bs).length / 64)) ∧
      nextSt s (m ++ bs).length = chain (m ++ bs) ((m ++ bs).length / 64) := by
  have e1 : (m ++ bs).length % 64 = m.length % 64 + bs.length := by rw [List.length_append]; omega
  have e2 : (m ++ bs).length / 64 = m.length / 64 := by rw [List.length_append]; omega
  refine ⟨?_, ?_⟩
  · rw [e1, e2, List.drop_append_of_le_length (by omega), ← h1]
    rw [List.take_append_of_le_length (by simp; omega), List.take_of_length_le (by simp; omega)]
  · rw [e2, chain_append _ _ _ (by omega), ← h2]
    unfold nextSt
    by_cases hm : m.length < 64
    · rw [if_pos hm, if_pos (by rw [List.length_append]; omega)]
    · rw [if_neg hm, if_neg (by rw [List.length_append]; omega)]

/-- Bytes are put behind, and the block is full. -/
theorem str_full {m bs blk : List UInt8} {s : St} (hl : blk.length = 64) (h1 : blk.take (m.length % 64) = m.drop (64 * (m.length / 64))) (h2 : nextSt s m.length = chain m (m.length / 64)) (hb : m.length % 64 + bs.length = 64) :
    (blk.take (m.length % 64) ++ bs ++ blk.drop (m.length % 64 + bs.length)).take ((m ++ bs).length % 64) = (m ++ bs).drop (64 * ((m ++ bs).length / 64)) ∧
      nextSt (compress (nextSt s m.length) (blk.take (m.length % 64) ++ bs ++ blk.drop (m.length % 64 + bs.length))) (m ++ bs).length = chain (m ++ bs) ((m ++ bs).length / 64) := by
  have e1 : (m ++ bs).length % 64 = 0 := by rw [List.length_append]; omega
  have e2 : (m ++ bs).length / 64 = m.length / 64 + 1 := by rw [List.length_append]; omega
  refine ⟨?_, ?_⟩
  · rw [e1, e2, List.take_zero, List.drop_eq_nil_of_le (by rw [List.length_append]; omega)]
  · rw [e2, chain, chain_append _ _ _ (by omega), ← h2]
    rw [nextSt, if_neg (by rw [List.length_append]; omega)]
    congr 1
    rw [List.drop_append_of_le_length (by omega), ← h1, hb, List.drop_eq_nil_of_le (by omega), List.append_nil, List.take_of_length_le (l := List.take (m.length % 64) blk ++ bs) (by simp; omega)]


/-! The end of a stream's bytes, padded. -/
/-- The last bytes, the byte 128, noughts: as many as fill the block. -/
def tailBlk (blk : List UInt8) (u : Nat) : List UInt8 := blk.take u ++ 128 :: List.replicate (63 - u) 0
theorem tailBlk_length (blk : List UInt8) (u : Nat) (hl : blk.length = 64) (hu : u < 64) : (tailBlk blk u).length = 64 := by simp [tailBlk]; omega
theorem set_take_drop (blk : List UInt8) (u : Nat) (hl : blk.length = 64) (hu : u < 64) : (blk.set u 128).take (u + 1) ++ List.replicate (63 - u) 0 = tailBlk blk u := by
  unfold tailBlk
  rw [List.take_succ_eq_append_getElem (by simp; omega), List.take_set_of_le (Nat.le_refl _)]
  simp
theorem byteRow_list (l : List UInt8) (h : l.length = 64) : (byteRow l).toList = l.map bcell := by rw [← byteRow_cells l h]
theorem splice_bytes (l bs : List UInt8) (o : Nat) (h : l.length = 64) (ho : o + bs.length ≤ 64) : splice (byteRow l).toList o (bs.map bcell) = byteRow (l.take o ++ bs ++ l.drop (o + bs.length)) := by
  rw [byteRow_list l h, ← byteRow_cells _ (by simp; omega)]
  simp [splice]
theorem byteRow_set (l : List UInt8) (j : Nat) (x : UInt8) (h : l.length = 64) (hj : j < 64) : (byteRow l).setIfInBounds j (.int .u8 ((x.toNat : Nat) : Int)) = byteRow (l.set j x) :=
  byteRow_put l j x hj _ fun i hi => by
    unfold at8
    rw [List.getD_eq_getElem?_getD, List.getD_eq_getElem?_getD, List.getElem?_set]
    by_cases e : j = i
    · subst e; simp [h, hj]
    · rw [if_neg e, if_neg (fun x => e x.symm)]

theorem sha_short {m blk : List UInt8} {s : St} (hl : blk.length = 64) (h1 : blk.take (m.length % 64) = m.drop (64 * (m.length / 64))) (h2 : nextSt s m.length = chain m (m.length / 64)) (hu : m.length % 64 < 56) :
    sha m = stBytes (compress (nextSt s m.length) (lenBlk (tailBlk blk (m.length % 64)) m.length 8)) := by
  have hp := padding_length m.length
  have hlen : (padded m).length / 64 = m.length / 64 + 1 := by simp only [padded, List.length_append, hp]; omega
  unfold sha
  rw [hlen, chain, padded, chain_append _ _ _ (by omega), ← h2]
  congr 2
  rw [List.drop_append_of_le_length (by omega), ← h1]
  have e : lenBlk (tailBlk blk (m.length % 64)) m.length 8 = blk.take (m.length % 64) ++ padding m.length := by
    have e1 : (119 - m.length % 64) % 64 = 55 - m.length % 64 := by omega
    unfold lenBlk tailBlk padding
    rw [e1, Nat.sub_self, List.drop_zero, List.take_append]
    have e2 : (blk.take (m.length % 64)).length = m.length % 64 := by simp; omega
    rw [List.take_of_length_le (by omega), e2, show 64 - 8 - m.length % 64 = (55 - m.length % 64) + 1 by omega, List.take_succ_cons, List.take_replicate]
    simp
    omega
  rw [e, List.take_of_length_le]
  simp only [List.length_append, hp, List.length_take]; omega

theorem sha_long {m blk : List UInt8} {s : St} (hl : blk.length = 64) (h1 : blk.take (m.length % 64) = m.drop (64 * (m.length / 64))) (h2 : nextSt s m.length = chain m (m.length / 64)) (hu : 56 ≤ m.length % 64) :
    sha m = stBytes (compress (compress (nextSt s m.length) (tailBlk blk (m.length % 64))) (lenBlk (List.replicate 64 0) m.length 8)) := by
  have hp := padding_length m.length
  have hlen : (padded m).length / 64 = m.length / 64 + 1 + 1 := by simp only [padded, List.length_append, hp]; omega
  have e2 : (blk.take (m.length % 64)).length = m.length % 64 := by simp; omega
  have hpad : padding m.length = (128 :: List.replicate (63 - m.length % 64) 0) ++ (List.replicate 56 0 ++ lenBytes m.length) := by
    unfold padding
    rw [show (119 - m.length % 64) % 64 = (63 - m.length % 64) + 56 by omega, ← List.replicate_append_replicate]
    simp
  have hsplit : (padded m).drop (64 * (m.length / 64)) = tailBlk blk (m.length % 64) ++ (List.replicate 56 0 ++ lenBytes m.length) := by
    rw [padded, List.drop_append_of_le_length (by omega), ← h1, hpad]
    unfold tailBlk; simp
  have hT := tailBlk_length blk (m.length % 64) hl (by omega)
  have hL : (List.replicate 56 (0 : UInt8) ++ lenBytes m.length).length = 64 := by simp [lenBytes]
  unfold sha
  rw [hlen, chain, chain]
  have c1 : chain (padded m) (m.length / 64) = nextSt s m.length := by rw [padded, chain_append _ _ _ (by omega), ← h2]
  have c2 : ((padded m).drop (64 * (m.length / 64))).take 64 = tailBlk blk (m.length % 64) := by
    rw [hsplit, List.take_append_of_le_length (by omega), List.take_of_length_le (by omega)]
  have c3 : ((padded m).drop (64 * (m.length / 64 + 1))).take 64 = lenBlk (List.replicate 64 0) m.length 8 := by
    rw [show 64 * (m.length / 64 + 1) = 64 * (m.length / 64) + 64 by omega, ← List.drop_drop, hsplit, List.drop_append_of_le_length (by omega), List.drop_eq_nil_of_le (by omega), List.nil_append, List.take_of_length_le (by omega)]
    unfold lenBlk; simp
  rw [c1, c2, c3]

end Go.Proofs.YtbmphhiafepnoaaDoor
namespace Go.Proofs.YtbmphhiafepnoaaDoor
open Go.RowKit

theorem iv_row : (#[.int .u32 1779033703, .int .u32 3144134277, .int .u32 1013904242, .int .u32 2773480762, .int .u32 1359893119, .int .u32 2600822924, .int .u32 528734635, .int .u32 1541459225] : Array Value) = stRow iv := by kernel_rfl

set_option maxHeartbeats 400000 in
theorem first_any (w : World) : Calls Tryd.prog 54 #[] w fun e w' => e = .returned (.agg (stRow iv)) ∧ Below w.heap.size w w' := by
  go_enter Tryd.func54, Tryd.ntmps54
  go_wp2
  refine bodyPost_ret (v := .agg (stRow iv)) (by rw [← iv_row]; simp [results, Tryd.results54, go_sem]) rfl ⟨rfl, ?_⟩
  exact (Below.refl _ _).alloc (Nat.le_refl _) _

set_option maxHeartbeats 400000 in
theorem chain_any (p : Nat) (s : St) (blk : List UInt8) (n : Nat) (hl : blk.length = 64) (hn : n < 9223372036854775807) (w : World) (hg : w.heap[p]? = some (.cells (strRow s blk n) 67 (0, 0))) :
    Calls Tryd.prog 49 #[.pointer (some ⟨p, 0, none⟩)] w fun e w' => e = .returned (.agg (stRow (nextSt s n))) ∧ Below w.heap.size w w' := by
  have HS := Lib.hid (str_state hg)
  have hc := str_len hl hg
  have hp : p < w.heap.size := (Array.getElem?_eq_some_iff.1 hg).1
  clear hg hl
  by_cases h : n < 64
  · have hd : decide ((n : Int) < 64) = true := by simp; omega
    go_enter Tryd.func49, Tryd.ntmps49
    go_wp2_with (first | (go_at_call 54; (with_reducible refine (first_any _).mono ?_); rintro e w1 ⟨rfl, hb1⟩) | (refine wpList_alloc_row rfl 64 rfl zero8 zeroSt ?_) | (refine wpList_store_row rfl 64 _ _ rfl w.heap.size (stRow iv) rfl rfl 64 zero8 ((hb1.block _ (by simp)).trans (heap_alloc_new _ _)) (by kernel_rfl) rfl (stRow_one _) ?_))
    refine bodyPost_ret (v := .agg (stRow iv)) (results_cell_row rfl _ _ _ 64 _ (0,0) _ rfl (setRow_heap _ _ _ _ 64 _ ((hb1.block _ (by simp)).trans (heap_alloc_new _ _))) Tryd.underlying64 rfl (by kernel_rfl)) rfl ⟨by rw [nextSt, if_pos h], ?_⟩
    exact below_setRow (((Below.refl _ _).alloc (Nat.le_refl _) _).trans (hb1.mono (by simp))) _ _ (Nat.le_refl _)
  · have hd : decide ((n : Int) < 64) = false := by simp; omega
    go_enter Tryd.func49, Tryd.ntmps49
    go_wp2_with (first | (refine wpList_alloc_row rfl 64 rfl zero8 zeroSt ?_) | (refine wpList_load_mid rfl 64 _ rfl p 0 rfl (stRow s).toList _ (World.rangeAt_alloc HS.out _) Tryd.underlying64 rfl (by kernel_rfl) ?_) | (refine wpList_store_row rfl 64 _ _ rfl w.heap.size (stRow s) rfl rfl 64 zero8 (heap_alloc_new _ _) (by kernel_rfl) rfl (stRow_one _) ?_))
    refine bodyPost_ret (v := .agg (stRow s)) (results_cell_row rfl _ _ _ 64 _ (0,0) _ rfl (setRow_heap _ _ _ _ 64 _ (heap_alloc_new _ _)) Tryd.underlying64 rfl (by kernel_rfl)) rfl ⟨by rw [nextSt, if_neg h], ?_⟩
    exact below_setRow ((Below.refl _ _).alloc (Nat.le_refl _) _) _ _ (Nat.le_refl _)
end Go.Proofs.YtbmphhiafepnoaaDoor
