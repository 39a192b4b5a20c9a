/-
  The contracts of hash.putLength and hash.digest: the number of bits goes into the last eight bytes of the block; a state is returned as its 32 bytes.
-/
import Derived.Test.YtoickijglahipaaDoorWrite
namespace Go.Proofs.YtoickijglahipaaDoor
open Go.RowKit

set_option maxRecDepth 100000 in
set_option maxHeartbeats 400000 in
theorem put_any (q : Nat) (blk : List UInt8) (N : Nat) (hl : blk.length = 64) (hN : N < 2305843009213693952) (w : World) (hg : w.heap[q]? = some (.cells (byteRow blk) 38 (0, 0))) :
    Calls Tryd.prog 27 #[.pointer (some ⟨q, 0, none⟩), .int .i64 N] w fun e w' => e = .returned (.tuple #[]) ∧ w'.heap[q]? = some (.cells (byteRow (lenBlk blk N 8)) 38 (0, 0)) ∧ w.grownBy w' (some q) := by
  go_enter Tryd.func27, Tryd.ntmps27
  go_wp2_with fail
  go_loopw [4, 5] (fun n i wr => ∃ k M : Nat, k ≤ 8 ∧ i = .int .i64 (63 - (k : Int)) ∧ M = 8 * N / 256 ^ k ∧ n = .int .u64 M ∧ wr.heap[q]? = some (.cells (byteRow (lenBlk blk N k)) 38 (0, 0)) ∧ w.grownBy wr (some q)) (fun _ i _ => (intOf i + 1).toNat)
  case atStart => exact ⟨0, 8 * N, by omega, rfl, by simp, by go_num, by rw [lenBlk_zero _ _ hl]; exact hg, World.grownBy.refl _ _⟩
  case round =>
    obtain ⟨k, M, hk, rfl, hM, rfl, hgk, hgr⟩ := hrel
    have hM2 : M < 18446744073709551616 := by
      rw [hM]; exact Nat.lt_of_le_of_lt (Nat.div_le_self _ _) (by omega)
    have HM := Lib.hid hM
    have hM3 : (M : Int) ≤ 18446744073709551615 := by omega
    clear hM hM2
    by_cases hlt : k < 8
    · have hd : decide ((56 : Int) ≤ 63 - (k : Int)) = true := by simp; omega
      have hb := byte_wrap M
      have hc : wr.cell? ⟨q, 63 - k, none⟩ = some (.int .u8 ((at8 (lenBlk blk N k) (63 - k)).toNat : Nat)) := by rw [cell_of_row wr q _ _ _ _ hgk, byteRow_get _ _ (by omega)]
      have hf := frozen_of_row wr q (63 - k) _ _ hgk
      have HG := Lib.hid hgk
      have hix : ((63 : Int) - (k : Int)).toNat = 63 - k := by omega
      clear hgk
      go_wp2_with fail
      go_roundw
      case rel =>
        refine ⟨k + 1, M / 256, by omega, by go_num, by rw [HM.out, Nat.div_div_eq_div_mul, Nat.pow_succ], by go_num, ?_, grown_trans hgr (grown_setCell _ _ _ _)⟩
        rw [heap_setCell_same _ _ _ _ _ _ HG.out]
        rw [show ((M : Int) % 256) = (((UInt8.ofNat M).toNat : Nat) : Int) by rw [← hb]; simp [IntKind.wrap, IntKind.bits, IntKind.signed]]
        rw [byteRow_put _ _ _ (by omega) (lenBlk blk N (k + 1)) (fun i hi => by rw [lenBlk_step blk N k hl hlt i hi, HM.out])]
      case measure => simp only [intOf]; omega
    · have e8 : k = 8 := by omega
      subst e8
      have hd : decide ((56 : Int) ≤ 63 - ((8 : Nat) : Int)) = false := by decide
      have HG := Lib.hid hgk
      clear hgk
      go_wp2_with fail
      go_end0
      exact ⟨rfl, HG.out, hgr⟩

/-- The 32 bytes of a state as cells, when k of them have been put. -/
def digRow (s : St) (k : Nat) : Array Value := row 32 fun j => .int .u8 (if j < k then (((digestAt s j).toNat : Nat) : Int) else 0)
theorem digRow_zero : ∀ w, (zeroValue 60).run Tryd.prog w = .ok (.agg (digRow iv 0)) w := by intro w; kernel_rfl
theorem digRow_start (s s' : St) : digRow s 0 = digRow s' 0 := row_congr fun j _ => by simp
theorem digRow_get (s : St) (k j : Nat) (h : j < 32) : (digRow s k)[j]? = some (.int .u8 (if j < k then (((digestAt s j).toNat : Nat) : Int) else 0)) := row_get _ _ _ h
theorem digRow_put (s : St) (k : Nat) (h : k < 32) : (digRow s k).setIfInBounds k (.int .u8 (((digestAt s k).toNat : Nat) : Int)) = digRow s (k + 1) := by
  unfold digRow; rw [row_set _ _ _ _ h]; apply row_congr; intro j _
  by_cases e : j = k
  · subst e; rw [if_pos rfl, if_pos (by omega)]
  · rw [if_neg e]; congr 1; by_cases h2 : j < k
    · rw [if_pos h2, if_pos (by omega)]
    · rw [if_neg h2, if_neg (by omega)]

set_option maxRecDepth 100000 in
set_option maxHeartbeats 400000 in
theorem digest_any (s : St) (w : World) :
    Calls Tryd.prog 28 #[.agg (stRow s)] w fun e w' => e = .returned (.string ⟨(stBytes s).toArray⟩) ∧ Below w.heap.size w w' := by
  go_enter Tryd.func28, Tryd.ntmps28
  go_wp2_with (refine wpList_alloc_row rfl 60 rfl (digRow iv 0) digRow_zero ?_)
  go_loopw [6] (fun i wr => ∃ k : Nat, k ≤ 32 ∧ i = .int .i64 k ∧ wr = (w.alloc (.cells (stRow s) 37)).alloc (.cells (digRow s k) 60)) (fun i _ => 32 - (intOf i).toNat)
  case atStart => exact ⟨0, by omega, rfl, by rw [digRow_start s iv]⟩
  case round =>
    obtain ⟨k, hk, rfl, rfl⟩ := hrel
    by_cases hlt : k < 32
    · have hd : decide ((k : Int) < 32) = true := by simp; omega
      have hst : (stRow s)[k / 4]? = some (.int .u32 (u32 (at32 (stWords s) (k / 4)))) := by
        have : k / 4 < 8 := by omega
        match h : k / 4, this with
        | 0, _ => rfl
        | 1, _ => rfl
        | 2, _ => rfl
        | 3, _ => rfl
        | 4, _ => rfl
        | 5, _ => rfl
        | 6, _ => rfl
        | 7, _ => rfl
      have hg := digRow_get s k k hlt
      have hsh : ((8 : Int) * (3 - (k : Int) % 4)).toNat = 8 * (3 - k % 4) := by omega
      go_wp2_with fail
      go_roundw
      case rel =>
        refine ⟨k + 1, by omega, by go_num, ?_⟩
        rw [u32_shr_bv, show ∀ y : BitVec 32, u32 y % 256 = (((UInt8.ofNat y.toNat).toNat : Nat) : Int) from fun y => by rw [← byte_wrap_u32]; simp [IntKind.wrap, IntKind.bits, IntKind.signed]]
        rw [← digRow_put s k hlt]; rfl
      case measure => simp [intOf]; omega
    · have e32 : k = 32 := by omega
      subst e32
      have hd : decide (((32 : Nat) : Int) < 32) = false := by decide
      have hconv := run_convert_bytes_back (P := Tryd.prog) ((w.alloc (.cells (stRow s) 37)).alloc (.cells (digRow s 32) 60)) 28 9 5 ⟨w.heap.size + 1, 0, none⟩ 32 (stBytes s) Tryd.underlying28 Tryd.underlying5 Tryd.underlying9 (fun j hj => by
        have hj' : j < 32 := by rw [stBytes_length] at hj; exact hj
        have hadd : (⟨w.heap.size + 1, 0, none⟩ : Addr).add j = ⟨w.heap.size + 1, j, none⟩ := by unfold Addr.add; split <;> simp_all
        rw [hadd, cell_of_row _ _ _ _ _ _ (heap_alloc2_new w _ _), digRow_get _ _ _ hj', if_pos hj']
        congr 4
        simp [stBytes_eq])
      rw [stBytes_length] at hconv
      go_wp2_with fail
      go_ret
      exact ⟨rfl, ((Below.refl _ _).alloc (Nat.le_refl _) _).alloc (by simp) _⟩
end Go.Proofs.YtoickijglahipaaDoor
