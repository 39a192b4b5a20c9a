/-
  A hash.Stream in memory: its 73 cells, and what it stands for. Nothing is claimed of the program here.
  The contracts of hash.firstState and of the stream's chain: the state with which the next block is compressed; nothing that was there before the call has changed.
  The contract of (*hash.Stream).Write on a stream that is not nil: the bytes are put behind those that it stands for; of what was there before the call only the stream has changed.
  The contracts of hash.putLength and hash.digest: the number of bits goes into the last eight bytes of the block; a state is returned as its 32 bytes.
-/
import Derived.Test.YtpmlkofceidnjaaGreatDoorAal
import Derived.Deep.RegionHeld3
import Derived.Deep.RegionLaw
import Derived.Lib.Bytes
import Derived.WalkSpells
namespace Go.Proofs.YtpmlkofceidnjaaGreatDoor
open Go.RowKit

def strCells (s : St) (blk : List UInt8) (n : Nat) : List Value := (stRow s).toList ++ (blk.map bcell ++ [.int .i64 (n : Int)])
def strRow (s : St) (blk : List UInt8) (n : Nat) : Array Value := (strCells s blk n).toArray
theorem strRow_size (s : St) (blk : List UInt8) (n : Nat) (h : blk.length = 64) : (strRow s blk n).size = 73 := by simp [strRow, strCells, h]
theorem splice_state (s s' : St) (blk : List UInt8) (n : Nat) : splice (strRow s blk n).toList 0 (stRow s').toList = strRow s' blk n := by
  simp [splice, strRow, strCells]
theorem splice_block (s : St) (blk bs : List UInt8) (n u : Nat) (h : blk.length = 64) (hu : u + bs.length ≤ 64) :
    splice (strRow s blk n).toList (8 + u) (bs.map bcell) = strRow s (blk.take u ++ bs ++ blk.drop (u + bs.length)) n := by
  have e8 : (stRow s).toList.length = 8 := rfl
  simp only [splice, strRow, strCells]
  rw [List.take_append, List.drop_append, e8, List.take_of_length_le (l := (stRow s).toList) (by rw [e8]; omega), List.drop_eq_nil_of_le («as» := (stRow s).toList) (by rw [e8]; omega)]
  rw [show 8 + u - 8 = u by omega, show 8 + u + (bs.map bcell).length - 8 = u + bs.length by simp; omega]
  rw [List.take_append_of_le_length (by simp; omega), List.drop_append_of_le_length (by simp; omega)]
  simp
theorem strRow_len (s : St) (blk : List UInt8) (n n' : Nat) (h : blk.length = 64) : (strRow s blk n).setIfInBounds 72 (.int .i64 (n' : Int)) = strRow s blk n' := by
  simp only [strRow, strCells, List.setIfInBounds_toArray]
  congr 1
  rw [List.set_append_right _ _ (by simp), List.set_append_right _ _ (by simp [h])]
  simp [h]
theorem str_state {w : World} {p : Nat} {t : TypeId} {s : St} {blk : List UInt8} {n : Nat} (hg : w.heap[p]? = some (.cells (strRow s blk n) t (0, 0))) : w.rangeAt p 0 (stRow s).toList := fun j v hv => by
  rw [Nat.zero_add, cell_of_row w p j _ t (0, 0) hg]
  have hj : j < 8 := by have := (List.getElem?_eq_some_iff.1 hv).1; simpa using this
  simp only [strRow, strCells, List.getElem?_toArray]
  rw [List.getElem?_append_left (by simpa using hj)]; exact hv
theorem str_block {w : World} {p : Nat} {t : TypeId} {s : St} {blk : List UInt8} {n : Nat} (h : blk.length = 64) (hg : w.heap[p]? = some (.cells (strRow s blk n) t (0, 0))) : w.rangeAt p 8 (blk.map bcell) := fun j v hv => by
  rw [cell_of_row w p _ _ t (0, 0) hg]
  have hj : j < 64 := by have := (List.getElem?_eq_some_iff.1 hv).1; simpa [h] using this
  simp only [strRow, strCells, List.getElem?_toArray]
  rw [List.getElem?_append_right (by simp), show 8 + j - (stRow s).toList.length = j by simp, List.getElem?_append_left (by simpa [h] using hj)]; exact hv
theorem str_len {w : World} {p : Nat} {t : TypeId} {s : St} {blk : List UInt8} {n : Nat} (h : blk.length = 64) (hg : w.heap[p]? = some (.cells (strRow s blk n) t (0, 0))) : w.cell? ⟨p, 72, none⟩ = some (.int .i64 (n : Int)) := by
  rw [cell_of_row w p _ _ t (0, 0) hg]
  simp only [strRow, strCells, List.getElem?_toArray]
  rw [List.getElem?_append_right (by simp), List.getElem?_append_right (by simp [h])]
  simp [h]
theorem byteRow_cells (blk : List UInt8) (h : blk.length = 64) : (blk.map bcell).toArray = byteRow blk := by
  apply Array.ext_getElem?
  intro i
  by_cases hi : i < 64
  · rw [byteRow_get _ _ hi]
    simp [bcell, at8, show i < blk.length by omega]
  · rw [Array.getElem?_eq_none (by simp; omega), Array.getElem?_eq_none (by rw [byteRow_size]; omega)]

/-- The state with which the next block is compressed. -/
def nextSt (s : St) (n : Nat) : St := if n < 64 then iv else s

/-- The stream in block p stands for the bytes m. -/
def IsStr (T : TypeId) (w : World) (p : Nat) (m : List UInt8) : Prop := ∃ s blk, blk.length = 64 ∧ w.heap[p]? = some (.cells (strRow s blk m.length) T (0, 0)) ∧
  blk.take (m.length % 64) = m.drop (64 * (m.length / 64)) ∧ nextSt s m.length = chain m (m.length / 64)
theorem IsStr.lt {T : TypeId} {w : World} {p : Nat} {m : List UInt8} (h : IsStr T w p m) : p < w.heap.size := by
  obtain ⟨s, blk, _, hg, _⟩ := h; exact (Array.getElem?_eq_some_iff.1 hg).1
/-! The blocks of a list, and of a longer one. -/
theorem chain_append (m r : List UInt8) (n : Nat) (h : 64 * n ≤ m.length) : chain (m ++ r) n = chain m n := by
  induction n with
  | zero => rfl
  | succ n ih =>
    rw [chain, chain, ih (by omega)]
    congr 1
    rw [List.drop_append_of_le_length (by omega), List.take_append_of_le_length (by simp; omega)]

/-- Bytes are put behind, and the block is not full. -/
theorem str_part {m bs blk : List UInt8} {s : St} (hl : blk.length = 64) (h1 : blk.take (m.length % 64) = m.drop (64 * (m.length / 64))) (h2 : nextSt s m.length = chain m (m.length / 64)) (hb : m.length % 64 + bs.length < 64) :
    (blk.take (m.length % 64) ++ bs ++ blk.drop (m.length % 64 + bs.length)).take ((m ++ bs).length % 64) = (m ++ bs).drop (64 * ((m ++ bs).length / 64)) ∧
      nextSt s (m ++ bs).length = chain (m ++ bs) ((m ++ bs).length / 64) := by
  have e1 : (m ++ bs).length % 64 = m.length % 64 + bs.length := by rw [List.length_append]; omega
  have e2 : (m ++ bs).length / 64 = m.length / 64 := by rw [List.length_append]; omega
  refine ⟨?_, ?_⟩
  · rw [e1, e2, List.drop_append_of_le_length (by omega), ← h1]
    rw [List.take_append_of_le_length (by simp; omega), List.take_of_length_le (by simp; omega)]
  · rw [e2, chain_append _ _ _ (by omega), ← h2]
    unfold nextSt
    by_cases hm : m.length < 64
    · rw [if_pos hm, if_pos (by rw [List.length_append]; omega)]
    · rw [if_neg hm, if_neg (by rw [List.length_append]; omega)]

/-- Bytes are put behind, and the block is full. -/
theorem str_full {m bs blk : List UInt8} {s : St} (hl : blk.length = 64) (h1 : blk.take (m.length % 64) = m.drop (64 * (m.length / 64))) (h2 : nextSt s m.length = chain m (m.length / 64)) (hb : m.length % 64 + bs.length = 64) :
    (blk.take (m.length % 64) ++ bs ++ blk.drop (m.length % 64 + bs.length)).take ((m ++ bs).length % 64) = (m ++ bs).drop (64 * ((m ++ bs).length / 64)) ∧
      nextSt (compress (nextSt s m.length) (blk.take (m.length % 64) ++ bs ++ blk.drop (m.length % 64 + bs.length))) (m ++ bs).length = chain (m ++ bs) ((m ++ bs).length / 64) := by
  have e1 : (m ++ bs).length % 64 = 0 := by rw [List.length_append]; omega
  have e2 : (m ++ bs).length / 64 = m.length / 64 + 1 := by rw [List.length_append]; omega
  refine ⟨?_, ?_⟩
  · rw [e1, e2, List.take_zero, List.drop_eq_nil_of_le (by rw [List.length_append]; omega)]
  · rw [e2, chain, chain_append _ _ _ (by omega), ← h2]
    rw [nextSt, if_neg (by rw [List.length_append]; omega)]
    congr 1
    rw [List.drop_append_of_le_length (by omega), ← h1, hb, List.drop_eq_nil_of_le (by omega), List.append_nil, List.take_of_length_le (l := List.take (m.length % 64) blk ++ bs) (by simp; omega)]


/-! The end of a stream's bytes, padded. -/
/-- The last bytes, the byte 128, noughts: as many as fill the block. -/
def tailBlk (blk : List UInt8) (u : Nat) : List UInt8 := blk.take u ++ 128 :: List.replicate (63 - u) 0
theorem tailBlk_length (blk : List UInt8) (u : Nat) (hl : blk.length = 64) (hu : u < 64) : (tailBlk blk u).length = 64 := by simp [tailBlk]; omega
theorem set_take_drop (blk : List UInt8) (u : Nat) (hl : blk.length = 64) (hu : u < 64) : (blk.set u 128).take (u + 1) ++ List.replicate (63 - u) 0 = tailBlk blk u := by
  unfold tailBlk
  rw [List.take_succ_eq_append_getElem (by simp; omega), List.take_set_of_le (Nat.le_refl _)]
  simp
theorem byteRow_list (l : List UInt8) (h : l.length = 64) : (byteRow l).toList = l.map bcell := by rw [← byteRow_cells l h]
theorem splice_bytes (l bs : List UInt8) (o : Nat) (h : l.length = 64) (ho : o + bs.length ≤ 64) : splice (byteRow l).toList o (bs.map bcell) = byteRow (l.take o ++ bs ++ l.drop (o + bs.length)) := by
  rw [byteRow_list l h, ← byteRow_cells _ (by simp; omega)]
  simp [splice]
theorem byteRow_set (l : List UInt8) (j : Nat) (x : UInt8) (h : l.length = 64) (hj : j < 64) : (byteRow l).setIfInBounds j (.int .u8 ((x.toNat : Nat) : Int)) = byteRow (l.set j x) :=
  byteRow_put l j x hj _ fun i hi => by
    unfold at8
    rw [List.getD_eq_getElem?_getD, List.getD_eq_getElem?_getD, List.getElem?_set]
    by_cases e : j = i
    · subst e; simp [h, hj]
    · rw [if_neg e, if_neg (fun x => e x.symm)]

theorem sha_short {m blk : List UInt8} {s : St} (hl : blk.length = 64) (h1 : blk.take (m.length % 64) = m.drop (64 * (m.length / 64))) (h2 : nextSt s m.length = chain m (m.length / 64)) (hu : m.length % 64 < 56) :
    sha m = stBytes (compress (nextSt s m.length) (lenBlk (tailBlk blk (m.length % 64)) m.length 8)) := by
  have hp := padding_length m.length
  have hlen : (padded m).length / 64 = m.length / 64 + 1 := by simp only [padded, List.length_append, hp]; omega
  unfold sha
  rw [hlen, chain, padded, chain_append _ _ _ (by omega), ← h2]
  congr 2
  rw [List.drop_append_of_le_length (by omega), ← h1]
  have e : lenBlk (tailBlk blk (m.length % 64)) m.length 8 = blk.take (m.length % 64) ++ padding m.length := by
    have e1 : (119 - m.length % 64) % 64 = 55 - m.length % 64 := by omega
    unfold lenBlk tailBlk padding
    rw [e1, Nat.sub_self, List.drop_zero, List.take_append]
    have e2 : (blk.take (m.length % 64)).length = m.length % 64 := by simp; omega
    rw [List.take_of_length_le (by omega), e2, show 64 - 8 - m.length % 64 = (55 - m.length % 64) + 1 by omega, List.take_succ_cons, List.take_replicate]
    simp
    omega
  rw [e, List.take_of_length_le]
  simp only [List.length_append, hp, List.length_take]; omega

theorem sha_long {m blk : List UInt8} {s : St} (hl : blk.length = 64) (h1 : blk.take (m.length % 64) = m.drop (64 * (m.length / 64))) (h2 : nextSt s m.length = chain m (m.length / 64)) (hu : 56 ≤ m.length % 64) :
    sha m = stBytes (compress (compress (nextSt s m.length) (tailBlk blk (m.length % 64))) (lenBlk (List.replicate 64 0) m.length 8)) := by
  have hp := padding_length m.length
  have hlen : (padded m).length / 64 = m.length / 64 + 1 + 1 := by simp only [padded, List.length_append, hp]; omega
  have e2 : (blk.take (m.length % 64)).length = m.length % 64 := by simp; omega
  have hpad : padding m.length = (128 :: List.replicate (63 - m.length % 64) 0) ++ (List.replicate 56 0 ++ lenBytes m.length) := by
    unfold padding
    rw [show (119 - m.length % 64) % 64 = (63 - m.length % 64) + 56 by omega, ← List.replicate_append_replicate]
    simp
  have hsplit : (padded m).drop (64 * (m.length / 64)) = tailBlk blk (m.length % 64) ++ (List.replicate 56 0 ++ lenBytes m.length) := by
    rw [padded, List.drop_append_of_le_length (by omega), ← h1, hpad]
    unfold tailBlk; simp
  have hT := tailBlk_length blk (m.length % 64) hl (by omega)
  have hL : (List.replicate 56 (0 : UInt8) ++ lenBytes m.length).length = 64 := by simp [lenBytes]
  unfold sha
  rw [hlen, chain, chain]
  have c1 : chain (padded m) (m.length / 64) = nextSt s m.length := by rw [padded, chain_append _ _ _ (by omega), ← h2]
  have c2 : ((padded m).drop (64 * (m.length / 64))).take 64 = tailBlk blk (m.length % 64) := by
    rw [hsplit, List.take_append_of_le_length (by omega), List.take_of_length_le (by omega)]
  have c3 : ((padded m).drop (64 * (m.length / 64 + 1))).take 64 = lenBlk (List.replicate 64 0) m.length 8 := by
    rw [show 64 * (m.length / 64 + 1) = 64 * (m.length / 64) + 64 by omega, ← List.drop_drop, hsplit, List.drop_append_of_le_length (by omega), List.drop_eq_nil_of_le (by omega), List.nil_append, List.take_of_length_le (by omega)]
    unfold lenBlk; simp
  rw [c1, c2, c3]

end Go.Proofs.YtpmlkofceidnjaaGreatDoor
namespace Go.Proofs.YtpmlkofceidnjaaGreatDoor
open Go.RowKit

theorem iv_row : (#[.int .u32 1779033703, .int .u32 3144134277, .int .u32 1013904242, .int .u32 2773480762, .int .u32 1359893119, .int .u32 2600822924, .int .u32 528734635, .int .u32 1541459225] : Array Value) = stRow iv := by kernel_rfl

set_option maxHeartbeats 400000 in
theorem first_any (w : World) : Calls Tryz.prog 100 #[] w fun e w' => e = .returned (.agg (stRow iv)) ∧ Below w.heap.size w w' := by
  go_enter Tryz.func100, Tryz.ntmps100
  go_wp2
  refine bodyPost_ret (v := .agg (stRow iv)) (by rw [← iv_row]; simp [results, Tryz.results100, go_sem]) rfl ⟨rfl, ?_⟩
  exact (Below.refl _ _).alloc (Nat.le_refl _) _

set_option maxHeartbeats 400000 in
theorem chain_any (p : Nat) (s : St) (blk : List UInt8) (n : Nat) (hl : blk.length = 64) (hn : n < 9223372036854775807) (w : World) (hg : w.heap[p]? = some (.cells (strRow s blk n) 106 (0, 0))) :
    Calls Tryz.prog 89 #[.pointer (some ⟨p, 0, none⟩)] w fun e w' => e = .returned (.agg (stRow (nextSt s n))) ∧ Below w.heap.size w w' := by
  have HS := Lib.hid (str_state hg)
  have hc := str_len hl hg
  have hp : p < w.heap.size := (Array.getElem?_eq_some_iff.1 hg).1
  clear hg hl
  by_cases h : n < 64
  · have hd : decide ((n : Int) < 64) = true := by simp; omega
    go_enter Tryz.func89, Tryz.ntmps89
    go_wp2_with (first | (go_at_call 100; (with_reducible refine (first_any _).mono ?_); rintro e w1 ⟨rfl, hb1⟩) | (refine wpList_alloc_row rfl 103 rfl zero8 zeroSt ?_) | (refine wpList_store_row rfl 103 _ _ rfl w.heap.size (stRow iv) rfl rfl 103 zero8 ((hb1.block _ (by simp)).trans (heap_alloc_new _ _)) (by kernel_rfl) rfl (stRow_one _) ?_))
    refine bodyPost_ret (v := .agg (stRow iv)) (results_cell_row rfl _ _ _ 103 _ (0,0) _ rfl (setRow_heap _ _ _ _ 103 _ ((hb1.block _ (by simp)).trans (heap_alloc_new _ _))) Tryz.underlying103 rfl (by kernel_rfl)) rfl ⟨by rw [nextSt, if_pos h], ?_⟩
    exact below_setRow (((Below.refl _ _).alloc (Nat.le_refl _) _).trans (hb1.mono (by simp))) _ _ (Nat.le_refl _)
  · have hd : decide ((n : Int) < 64) = false := by simp; omega
    go_enter Tryz.func89, Tryz.ntmps89
    go_wp2_with (first | (refine wpList_alloc_row rfl 103 rfl zero8 zeroSt ?_) | (refine wpList_load_mid rfl 103 _ rfl p 0 rfl (stRow s).toList _ (World.rangeAt_alloc HS.out _) Tryz.underlying103 rfl (by kernel_rfl) ?_) | (refine wpList_store_row rfl 103 _ _ rfl w.heap.size (stRow s) rfl rfl 103 zero8 (heap_alloc_new _ _) (by kernel_rfl) rfl (stRow_one _) ?_))
    refine bodyPost_ret (v := .agg (stRow s)) (results_cell_row rfl _ _ _ 103 _ (0,0) _ rfl (setRow_heap _ _ _ _ 103 _ (heap_alloc_new _ _)) Tryz.underlying103 rfl (by kernel_rfl)) rfl ⟨by rw [nextSt, if_neg h], ?_⟩
    exact below_setRow ((Below.refl _ _).alloc (Nat.le_refl _) _) _ _ (Nat.le_refl _)
end Go.Proofs.YtpmlkofceidnjaaGreatDoor
namespace Go.Proofs.YtpmlkofceidnjaaGreatDoor
open Go.RowKit

def strLen_z : Value → Nat | .string s => s.size | _ => 0
theorem grown_of_below {w w' : World} (h : Below w.heap.size w w') (row : Option Nat) : w.grownBy w' row := ⟨h.os, h.tape, h.output, h.size, fun k hk _ => h.block k hk⟩
theorem grown_trans {a b c : World} {row : Option Nat} (h : a.grownBy b row) (k : b.grownBy c row) : a.grownBy c row :=
  ⟨k.os.trans h.os, k.tape.trans h.tape, k.output.trans h.output, Nat.le_trans h.size k.size, fun i hi hr => (k.block i (Nat.lt_of_lt_of_le hi h.size) hr).trans (h.block i hi hr)⟩
theorem grown_setRow (w : World) (g : Nat) (cs : Array Value) : w.grownBy (w.setRow g cs) (some g) :=
  ⟨rfl, rfl, rfl, by simp, fun k _ hk => setRow_other w g k cs (fun e => hk (by rw [e]))⟩
theorem Holds.grown {w w' : World} {b p : Nat} {L : List (BitVec 32)} (h : Holds w b L) (hg : w.grownBy w' (some p)) (hb : b ≠ p) : Holds w' b L := fun i hi =>
  hg.cell (h i hi) (by simpa using hb)

theorem isStr_of {T : TypeId} {w : World} {p : Nat} {s : St} {blk : List UInt8} {m'' : List UInt8} (N n : Nat) (hl : blk.length = 64) (hm : m''.length = N + n) (hg : w.heap[p]? = some (.cells (strRow s blk N) T (0, 0)))
    (h : blk.take (m''.length % 64) = m''.drop (64 * (m''.length / 64)) ∧ nextSt s m''.length = chain m'' (m''.length / 64)) : IsStr T (w.setCell ⟨p, 72, none⟩ (.int .i64 ((N : Int) + (n : Int)))) p m'' := by
  refine ⟨s, blk, hl, ?_, h.1, h.2⟩
  rw [heap_setCell_same w p 72 _ T _ hg, show ((N : Int) + (n : Int)) = ((N + n : Nat) : Int) from rfl, strRow_len _ _ _ _ hl, hm]
theorem grown_setCell (w : World) (p j : Nat) (v : Value) : w.grownBy (w.setCell ⟨p, j, none⟩ v) (some p) :=
  ⟨rfl, rfl, rfl, by simp [World.setCell], fun k _ hk => heap_setCell_other w ⟨p, j, none⟩ k v (fun e => hk (by rw [e]))⟩

/-- The load of a block and the store of a state under names of their own, so that the walk's simp does not take them apart cell by cell. -/
def loadBlk (x : Value) : Sem Value := Instr.loadAt 104 x
theorem loadBlk_eq (x : Value) : Instr.loadAt 104 x = loadBlk x := rfl
def storeSt (x v : Value) : Sem Unit := Instr.storeAt 103 x v
theorem storeSt_eq (x v : Value) : Instr.storeAt 103 x v = storeSt x v := rfl
attribute [local go_sem ↓] loadBlk_eq storeSt_eq
theorem run_loadBlk {w : World} {p : Nat} {s : St} {blk : List UInt8} {n : Nat} (hl : blk.length = 64) (hg : w.heap[p]? = some (.cells (strRow s blk n) 106 (0, 0))) :
    (loadBlk (.pointer (some ⟨p, 8, none⟩))).run Tryz.prog w = .ok (.agg (byteRow blk)) w := by
  rw [← byteRow_cells blk hl]
  exact run_loadAt_mid w p 8 104 _ _ (str_block hl hg) Tryz.underlying104 rfl (by rw [List.length_map, hl]; kernel_rfl)
theorem run_storeSt {w : World} {p : Nat} {s : St} {blk : List UInt8} {n : Nat} (s' : St) (hl : blk.length = 64) (hg : w.heap[p]? = some (.cells (strRow s blk n) 106 (0, 0))) :
    (storeSt (.pointer (some ⟨p, 0, none⟩)) (.agg (stRow s'))).run Tryz.prog w = .ok () (w.setRow p (strRow s' blk n)) := by
  have hst := run_storeCells_at (P := Tryz.prog) p 0 106 (stRow s').toList 0 _ w hg (by rw [strRow_size _ _ _ hl]; simp) (stRow_ones _)
  have e := splice_state s s' blk n
  simp only [splice] at e
  simp only [Nat.add_zero, Nat.zero_add] at hst e
  rw [e] at hst
  have hi : (Tryz.prog.info? 103).map (·.size) = some 8 := by kernel_rfl
  unfold storeSt
  cases hq : Tryz.prog.info? 103 with
  | none => simp [hq] at hi
  | some i =>
    have hs : i.size = 8 := by simpa [hq] using hi
    simp [Instr.storeAt, Instr.sureAddr, storeVar, sizeOf, typeInfo, hq, Value.cells, hs, hst]

set_option maxRecDepth 100000 in
set_option maxHeartbeats 1000000 in
theorem write_any_z (p : Nat) (b : ByteArray) (m : List UInt8) (w : World) (hs : IsStr 106 w p m) (hK : Holds w 0 kWords) (hp : p ≠ 0) (hm : m.length + b.size < 4611686018427387904) :
    Calls Tryz.prog 76 #[.pointer (some ⟨p, 0, none⟩), .string b] w fun e w' => e = .returned (.tuple #[]) ∧ IsStr 106 w' p (m ++ b.data.toList) ∧ w.grownBy w' (some p) := by
  go_enter Tryz.func76, Tryz.ntmps76
  go_wp2_with fail
  go_loopw [1] (fun t wr => ∃ (c : ByteArray) (m' : List UInt8), t = .string c ∧ m' ++ c.data.toList = m ++ b.data.toList ∧ IsStr 106 wr p m' ∧ w.grownBy wr (some p) ∧ Holds wr 0 kWords) (fun t _ => strLen_z t)
  case atStart => exact ⟨b, m, rfl, rfl, hs, ⟨rfl, rfl, rfl, Nat.le_refl _, fun _ _ _ => rfl⟩, hK⟩
  case round =>
    obtain ⟨c, m', rfl, hmc, hs', hgr, hK'⟩ := hrel
    have hcl : m'.length + c.size = m.length + b.size := by
      have := congrArg List.length hmc
      simp only [List.length_append] at this
      exact this
    by_cases hc : c.size = 0
    · have hc1 : c.toList = [] := by rw [Lib.toList_data]; exact List.eq_nil_of_length_eq_zero hc
      go_wp2_with fail
      go_end0
      refine ⟨rfl, ?_, hgr⟩
      have e : m' = m ++ b.data.toList := by rw [← hmc, List.eq_nil_of_length_eq_zero (show c.data.toList.length = 0 from hc), List.append_nil]
      rw [← e]; exact hs'
    · obtain ⟨s, blk, hl, hg, h1, h2⟩ := hs'
      have hc1 : c.toList.isEmpty = false := by rw [Lib.toList_data]; cases h : c.data.toList with | nil => exact absurd (congrArg List.length h) hc | cons _ _ => rfl
      have hc2 : c.toList ≠ [] := by rw [Lib.toList_data]; intro h; exact hc (congrArg List.length h)
      obtain ⟨N, hN⟩ : ∃ N, N = m'.length := ⟨_, rfl⟩
      obtain ⟨u, hu⟩ : ∃ u, u = N % 64 := ⟨_, rfl⟩
      have hrem : (N : Int) % 64 = (u : Int) := by omega
      have hu64 : u < 64 := by omega
      obtain ⟨n, hn⟩ : ∃ n, n = min c.size (64 - u) := ⟨_, rfl⟩
      rw [← hN] at hg
      have hlen := str_len hl hg
      have HG := Lib.hid hg
      have HU := Lib.hid hu
      have HN := Lib.hid hN
      have HNm := Lib.hid hn
      have HL := Lib.hid hl
      have H1 := Lib.hid h1
      have H2 := Lib.hid h2
      have HMC := Lib.hid hmc
      have HCL := Lib.hid hcl
      have hN2 : N < 4611686018427387904 := by omega
      have hn1 : 1 ≤ n := by omega
      have hn2 : u + n ≤ 64 := by omega
      have hn3 : n ≤ c.size := by omega
      clear hg hu hN hn hl h1 h2 hmc hcl hc
      have hsl := fun wx => run_sliceAt_low (P := Tryz.prog) Tryz.underlying104 sizeByte p 8 u hu64 wx
      obtain ⟨blk', hb'⟩ : ∃ blk', blk' = blk.take u ++ c.data.toList.take n ++ blk.drop (u + n) := ⟨_, rfl⟩
      have hbl : (c.data.toList.take n).length = n := by rw [List.length_take]; exact Nat.min_eq_left hn3
      have HBL := Lib.hid hbl
      have hspl : splice (strRow s blk N).toList (8 + u) ((c.data.toList.take n).map bcell) = strRow s blk' N := by
        rw [splice_block s blk _ N u HL.out (by rw [hbl]; exact hn2), hbl, hb']
      have hl' : blk'.length = 64 := by
        rw [hb', List.length_append, List.length_append, hbl, List.length_take, List.length_drop, HL.out]; omega
      have HS := Lib.hid hspl
      have HB' := Lib.hid hb'
      have HL' := Lib.hid hl'
      clear hspl hb' hl' hbl
      have hext : (c.extract n c.size).data.toList = c.data.toList.drop n := by
        simp only [ByteArray.data_extract, Array.toList_extract, List.extract_eq_take_drop]
        exact List.take_of_length_le (by simp)
      have HX := Lib.hid hext
      clear hext
      by_cases h64 : u + n = 64
      · have hd : ((u : Int) + (n : Int) == 64) = true := by simp; omega
        go_wp2_with (refine wpList_copy_str rfl (.tmp 19) (.tmp 20) 53 9 5 rfl Tryz.underlying53 sizeByte p (8 + u) (64 - u) (64 - u) rfl c rfl n HNm.out 106 (strRow s blk N) HG.out (by rw [strRow_size _ _ _ HL.out]; omega) ?_; rw [HS.out]; obtain ⟨wb, hwb⟩ : ∃ wb, wb = wr.setRow p (strRow s blk' N) := ⟨_, rfl⟩; rw [← hwb]; have hgb : wb.heap[p]? = some (.cells (strRow s blk' N) 106 (0, 0)) := (by rw [hwb]; exact setRow_heap _ _ _ _ _ _ HG.out); have HGB := Lib.hid hgb; have HWB := Lib.hid hwb; clear hwb hgb hlen)
        have hgw : wr.grownBy wb (some p) := by rw [HWB.out]; exact grown_setRow _ _ _
        have hra := str_block HL'.out HGB.out
        have hu38 := Tryz.underlying104
        have hi38 : (Tryz.prog.info? 104).map (·.size) = some (blk'.map bcell).length := by rw [List.length_map, HL'.out]; kernel_rfl
        have hbb := Below.refl wb.heap.size wb
        have HKb := Lib.hid (hK'.grown hgw (Ne.symm hp))
        have hpb : p < wb.heap.size := (Array.getElem?_eq_some_iff.1 HGB.out).1
        have HGD : Hid (wb.drew.heap[p]? = some (.cells (strRow s blk' N) 106 (0, 0))) := HGB
        have HKD : Hid (Holds wb.drew 0 kWords) := HKb
        have hpd : p < wb.drew.heap.size := hpb
        have hT0 := run_loadBlk HL'.out HGD.out
        clear hra hbb HKb hpb hu38 hi38 hgw
        go_region_law (first | (go_simp; go_at_call 89; (with_reducible refine (chain_any p s blk' N HL'.out (by omega) _ HGD.out).mono ?_); rintro e w1 ⟨rfl, hb1⟩; have hT1 := run_loadBlk HL'.out ((hb1.block p hpd).trans HGD.out)) | (go_simp; go_at_call 88; refine (compress_any (nextSt s N) blk' HL'.out _ ?_).mono ?_; (exact HKD.out.below hb1 HKD.out.lt); rintro e w2 ⟨rfl, hb2⟩; have hT2 := run_storeSt (compress (nextSt s N) blk') HL'.out (((hb2.block p (Nat.lt_of_lt_of_le hpd hb1.size)).trans (hb1.block p hpd)).trans HGD.out)))
        all_goals
          have hgs : (w2.setRow p (strRow (compress (nextSt s N) blk') blk' N)).heap[p]? = some (.cells (strRow (compress (nextSt s N) blk') blk' N) 106 (0, 0)) := setRow_heap _ _ _ _ _ _ (((hb2.block p (Nat.lt_of_lt_of_le hpd hb1.size)).trans (hb1.block p hpd)).trans HGD.out)
          obtain ⟨wc, hwc⟩ : ∃ wc, wc = w2.setRow p (strRow (compress (nextSt s N) blk') blk' N) := ⟨_, rfl⟩
          rw [← hwc] at hgs ⊢
          have hlc := str_len HL'.out hgs
          have hfc := frozen_of_row wc p 72 _ _ hgs
          have hgc : wb.drew.grownBy wc (some p) := by
            rw [hwc]; exact grown_trans (grown_of_below (hb1.trans (hb2.mono hb1.size)) _) (grown_setRow _ _ _)
          have HGS := Lib.hid hgs
          have HWC := Lib.hid hwc
          clear hgs hwc hb1 hb2
          clear hT0
          go_wp2_with fail
          go_roundw
          case rel =>
            have hlm : (m' ++ c.data.toList.take n).length = N + n := by rw [List.length_append, HBL.out, HN.out]
            have hgw : wr.grownBy wb (some p) := by rw [HWB.out]; exact grown_setRow _ _ _
            have hgd : wr.grownBy wc (some p) := grown_trans (grown_trans hgw (grown_of_below (Below.refl _ _).drew _)) hgc
            refine ⟨c.extract n c.size, m' ++ c.data.toList.take n, rfl, ?_, ?_, ?_, ?_⟩
            · rw [HX.out, List.append_assoc, List.take_append_drop]; exact HMC.out
            · refine isStr_of N n HL'.out hlm HGS.out ?_
              have hum : m'.length % 64 = u := by rw [HU.out, HN.out]
              have := str_full (bs := c.data.toList.take n) HL.out H1.out H2.out (by rw [hum, HBL.out]; exact h64)
              rwa [hum, HBL.out, ← HB'.out, ← HN.out] at this
            · exact grown_trans (grown_trans hgr hgd) (grown_setCell _ _ _ _)
            · exact (hK'.grown hgd (Ne.symm hp)).grown (grown_setCell _ _ _ _) (Ne.symm hp)
          case measure => simp only [strLen_z, ByteArray.size_extract]; omega
      · have hd : ((u : Int) + (n : Int) == 64) = false := by simp; omega
        go_wp2_with (refine wpList_copy_str rfl (.tmp 19) (.tmp 20) 53 9 5 rfl Tryz.underlying53 sizeByte p (8 + u) (64 - u) (64 - u) rfl c rfl n HNm.out 106 (strRow s blk N) HG.out (by rw [strRow_size _ _ _ HL.out]; omega) ?_; rw [HS.out]; obtain ⟨wb, hwb⟩ : ∃ wb, wb = wr.setRow p (strRow s blk' N) := ⟨_, rfl⟩; rw [← hwb]; have hgb : wb.heap[p]? = some (.cells (strRow s blk' N) 106 (0, 0)) := (by rw [hwb]; exact setRow_heap _ _ _ _ _ _ HG.out); have hlb := str_len HL'.out hgb; have hfb := frozen_of_row wb p 72 _ _ hgb; have HGB := Lib.hid hgb; have HWB := Lib.hid hwb; clear hwb hgb hlen)
        go_roundw
        case rel =>
          have hlm : (m' ++ c.data.toList.take n).length = N + n := by rw [List.length_append, HBL.out, HN.out]
          have hgw : wr.grownBy wb (some p) := by rw [HWB.out]; exact grown_setRow _ _ _
          refine ⟨c.extract n c.size, m' ++ c.data.toList.take n, rfl, ?_, ?_, ?_, ?_⟩
          · rw [HX.out, List.append_assoc, List.take_append_drop]; exact HMC.out
          · refine isStr_of N n HL'.out hlm HGB.out ?_
            have hum : m'.length % 64 = u := by rw [HU.out, HN.out]
            have := str_part (bs := c.data.toList.take n) HL.out H1.out H2.out (by rw [hum, HBL.out]; omega)
            rwa [hum, HBL.out, ← HB'.out] at this
          · exact grown_trans (grown_trans hgr hgw) (grown_setCell _ _ _ _)
          · exact (hK'.grown hgw (Ne.symm hp)).grown (grown_setCell _ _ _ _) (Ne.symm hp)
        case measure => simp only [strLen_z, ByteArray.size_extract]; omega
end Go.Proofs.YtpmlkofceidnjaaGreatDoor
namespace Go.Proofs.YtpmlkofceidnjaaGreatDoor
open Go.RowKit

set_option maxRecDepth 100000 in
set_option maxHeartbeats 400000 in
theorem put_any (q : Nat) (blk : List UInt8) (N : Nat) (hl : blk.length = 64) (hN : N < 2305843009213693952) (w : World) (hg : w.heap[q]? = some (.cells (byteRow blk) 104 (0, 0))) :
    Calls Tryz.prog 90 #[.pointer (some ⟨q, 0, none⟩), .int .i64 N] w fun e w' => e = .returned (.tuple #[]) ∧ w'.heap[q]? = some (.cells (byteRow (lenBlk blk N 8)) 104 (0, 0)) ∧ w.grownBy w' (some q) := by
  go_enter Tryz.func90, Tryz.ntmps90
  go_wp2_with fail
  go_loopw [4, 5] (fun n i wr => ∃ k M : Nat, k ≤ 8 ∧ i = .int .i64 (63 - (k : Int)) ∧ M = 8 * N / 256 ^ k ∧ n = .int .u64 M ∧ wr.heap[q]? = some (.cells (byteRow (lenBlk blk N k)) 104 (0, 0)) ∧ w.grownBy wr (some q)) (fun _ i _ => (intOf i + 1).toNat)
  case atStart => exact ⟨0, 8 * N, by omega, rfl, by simp, by go_num, by rw [lenBlk_zero _ _ hl]; exact hg, World.grownBy.refl _ _⟩
  case round =>
    obtain ⟨k, M, hk, rfl, hM, rfl, hgk, hgr⟩ := hrel
    have hM2 : M < 18446744073709551616 := by
      rw [hM]; exact Nat.lt_of_le_of_lt (Nat.div_le_self _ _) (by omega)
    have HM := Lib.hid hM
    have hM3 : (M : Int) ≤ 18446744073709551615 := by omega
    clear hM hM2
    by_cases hlt : k < 8
    · have hd : decide ((56 : Int) ≤ 63 - (k : Int)) = true := by simp; omega
      have hb := byte_wrap M
      have hc : wr.cell? ⟨q, 63 - k, none⟩ = some (.int .u8 ((at8 (lenBlk blk N k) (63 - k)).toNat : Nat)) := by rw [cell_of_row wr q _ _ _ _ hgk, byteRow_get _ _ (by omega)]
      have hf := frozen_of_row wr q (63 - k) _ _ hgk
      have HG := Lib.hid hgk
      have hix : ((63 : Int) - (k : Int)).toNat = 63 - k := by omega
      clear hgk
      go_wp2_with fail
      go_roundw
      case rel =>
        refine ⟨k + 1, M / 256, by omega, by go_num, by rw [HM.out, Nat.div_div_eq_div_mul, Nat.pow_succ], by go_num, ?_, grown_trans hgr (grown_setCell _ _ _ _)⟩
        rw [heap_setCell_same _ _ _ _ _ _ HG.out]
        rw [show ((M : Int) % 256) = (((UInt8.ofNat M).toNat : Nat) : Int) by rw [← hb]; simp [IntKind.wrap, IntKind.bits, IntKind.signed]]
        rw [byteRow_put _ _ _ (by omega) (lenBlk blk N (k + 1)) (fun i hi => by rw [lenBlk_step blk N k hl hlt i hi, HM.out])]
      case measure => simp only [intOf]; omega
    · have e8 : k = 8 := by omega
      subst e8
      have hd : decide ((56 : Int) ≤ 63 - ((8 : Nat) : Int)) = false := by decide
      have HG := Lib.hid hgk
      clear hgk
      go_wp2_with fail
      go_end0
      exact ⟨rfl, HG.out, hgr⟩

/-- The 32 bytes of a state as cells, when k of them have been put. -/
def digRow (s : St) (k : Nat) : Array Value := row 32 fun j => .int .u8 (if j < k then (((digestAt s j).toNat : Nat) : Int) else 0)
theorem digRow_zero : ∀ w, (zeroValue 131).run Tryz.prog w = .ok (.agg (digRow iv 0)) w := by intro w; kernel_rfl
theorem digRow_start (s s' : St) : digRow s 0 = digRow s' 0 := row_congr fun j _ => by simp
theorem digRow_get (s : St) (k j : Nat) (h : j < 32) : (digRow s k)[j]? = some (.int .u8 (if j < k then (((digestAt s j).toNat : Nat) : Int) else 0)) := row_get _ _ _ h
theorem digRow_put (s : St) (k : Nat) (h : k < 32) : (digRow s k).setIfInBounds k (.int .u8 (((digestAt s k).toNat : Nat) : Int)) = digRow s (k + 1) := by
  unfold digRow; rw [row_set _ _ _ _ h]; apply row_congr; intro j _
  by_cases e : j = k
  · subst e; rw [if_pos rfl, if_pos (by omega)]
  · rw [if_neg e]; congr 1; by_cases h2 : j < k
    · rw [if_pos h2, if_pos (by omega)]
    · rw [if_neg h2, if_neg (by omega)]

set_option maxRecDepth 100000 in
set_option maxHeartbeats 400000 in
theorem digest_any (s : St) (w : World) :
    Calls Tryz.prog 91 #[.agg (stRow s)] w fun e w' => e = .returned (.string ⟨(stBytes s).toArray⟩) ∧ Below w.heap.size w w' := by
  go_enter Tryz.func91, Tryz.ntmps91
  go_wp2_with (refine wpList_alloc_row rfl 131 rfl (digRow iv 0) digRow_zero ?_)
  go_loopw [6] (fun i wr => ∃ k : Nat, k ≤ 32 ∧ i = .int .i64 k ∧ wr = (w.alloc (.cells (stRow s) 103)).alloc (.cells (digRow s k) 131)) (fun i _ => 32 - (intOf i).toNat)
  case atStart => exact ⟨0, by omega, rfl, by rw [digRow_start s iv]⟩
  case round =>
    obtain ⟨k, hk, rfl, rfl⟩ := hrel
    by_cases hlt : k < 32
    · have hd : decide ((k : Int) < 32) = true := by simp; omega
      have hst : (stRow s)[k / 4]? = some (.int .u32 (u32 (at32 (stWords s) (k / 4)))) := by
        have : k / 4 < 8 := by omega
        match h : k / 4, this with
        | 0, _ => rfl
        | 1, _ => rfl
        | 2, _ => rfl
        | 3, _ => rfl
        | 4, _ => rfl
        | 5, _ => rfl
        | 6, _ => rfl
        | 7, _ => rfl
      have hg := digRow_get s k k hlt
      have hsh : ((8 : Int) * (3 - (k : Int) % 4)).toNat = 8 * (3 - k % 4) := by omega
      go_wp2_with fail
      go_roundw
      case rel =>
        refine ⟨k + 1, by omega, by go_num, ?_⟩
        rw [u32_shr_bv, show ∀ y : BitVec 32, u32 y % 256 = (((UInt8.ofNat y.toNat).toNat : Nat) : Int) from fun y => by rw [← byte_wrap_u32]; simp [IntKind.wrap, IntKind.bits, IntKind.signed]]
        rw [← digRow_put s k hlt]; rfl
      case measure => simp [intOf]; omega
    · have e32 : k = 32 := by omega
      subst e32
      have hd : decide (((32 : Nat) : Int) < 32) = false := by decide
      have hconv := run_convert_bytes_back (P := Tryz.prog) ((w.alloc (.cells (stRow s) 103)).alloc (.cells (digRow s 32) 131)) 53 9 5 ⟨w.heap.size + 1, 0, none⟩ 32 (stBytes s) Tryz.underlying53 Tryz.underlying5 Tryz.underlying9 (fun j hj => by
        have hj' : j < 32 := by rw [stBytes_length] at hj; exact hj
        have hadd : (⟨w.heap.size + 1, 0, none⟩ : Addr).add j = ⟨w.heap.size + 1, j, none⟩ := by unfold Addr.add; split <;> simp_all
        rw [hadd, cell_of_row _ _ _ _ _ _ (heap_alloc2_new w _ _), digRow_get _ _ _ hj', if_pos hj']
        congr 4
        simp [stBytes_eq])
      rw [stBytes_length] at hconv
      go_wp2_with fail
      go_ret
      exact ⟨rfl, ((Below.refl _ _).alloc (Nat.le_refl _) _).alloc (by simp) _⟩
end Go.Proofs.YtpmlkofceidnjaaGreatDoor
