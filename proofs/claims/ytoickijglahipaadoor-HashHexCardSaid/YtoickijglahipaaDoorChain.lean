/-
  The contracts of hash.firstState and of the stream's chain: the state with which the next block is compressed; nothing that was there before the call has changed.
-/
import Derived.Test.YtoickijglahipaaDoorComp
import Derived.Test.YtoickijglahipaaDoorStr
namespace Go.Proofs.YtoickijglahipaaDoor
open Go.RowKit

theorem iv_row : (#[.int .u32 1779033703, .int .u32 3144134277, .int .u32 1013904242, .int .u32 2773480762, .int .u32 1359893119, .int .u32 2600822924, .int .u32 528734635, .int .u32 1541459225] : Array Value) = stRow iv := by kernel_rfl

set_option maxHeartbeats 400000 in
theorem first_any (w : World) : Calls Tryd.prog 31 #[] w fun e w' => e = .returned (.agg (stRow iv)) ∧ Below w.heap.size w w' := by
  go_enter Tryd.func31, Tryd.ntmps31
  go_wp2
  refine bodyPost_ret (v := .agg (stRow iv)) (by rw [← iv_row]; simp [results, Tryd.results31, go_sem]) rfl ⟨rfl, ?_⟩
  exact (Below.refl _ _).alloc (Nat.le_refl _) _

set_option maxHeartbeats 400000 in
theorem chain_any (p : Nat) (s : St) (blk : List UInt8) (n : Nat) (hl : blk.length = 64) (hn : n < 9223372036854775807) (w : World) (hg : w.heap[p]? = some (.cells (strRow s blk n) 40 (0, 0))) :
    Calls Tryd.prog 26 #[.pointer (some ⟨p, 0, none⟩)] w fun e w' => e = .returned (.agg (stRow (nextSt s n))) ∧ Below w.heap.size w w' := by
  have HS := Lib.hid (str_state hg)
  have hc := str_len hl hg
  have hp : p < w.heap.size := (Array.getElem?_eq_some_iff.1 hg).1
  clear hg hl
  by_cases h : n < 64
  · have hd : decide ((n : Int) < 64) = true := by simp; omega
    go_enter Tryd.func26, Tryd.ntmps26
    go_wp2_with (first | (go_at_call 31; (with_reducible refine (first_any _).mono ?_); rintro e w1 ⟨rfl, hb1⟩) | (refine wpList_alloc_row rfl 37 rfl zero8 zeroSt ?_) | (refine wpList_store_row rfl 37 _ _ rfl w.heap.size (stRow iv) rfl rfl 37 zero8 ((hb1.block _ (by simp)).trans (heap_alloc_new _ _)) (by kernel_rfl) rfl (stRow_one _) ?_))
    refine bodyPost_ret (v := .agg (stRow iv)) (results_cell_row rfl _ _ _ 37 _ (0,0) _ rfl (setRow_heap _ _ _ _ 37 _ ((hb1.block _ (by simp)).trans (heap_alloc_new _ _))) Tryd.underlying37 rfl (by kernel_rfl)) rfl ⟨by rw [nextSt, if_pos h], ?_⟩
    exact below_setRow (((Below.refl _ _).alloc (Nat.le_refl _) _).trans (hb1.mono (by simp))) _ _ (Nat.le_refl _)
  · have hd : decide ((n : Int) < 64) = false := by simp; omega
    go_enter Tryd.func26, Tryd.ntmps26
    go_wp2_with (first | (refine wpList_alloc_row rfl 37 rfl zero8 zeroSt ?_) | (refine wpList_load_mid rfl 37 _ rfl p 0 rfl (stRow s).toList _ (World.rangeAt_alloc HS.out _) Tryd.underlying37 rfl (by kernel_rfl) ?_) | (refine wpList_store_row rfl 37 _ _ rfl w.heap.size (stRow s) rfl rfl 37 zero8 (heap_alloc_new _ _) (by kernel_rfl) rfl (stRow_one _) ?_))
    refine bodyPost_ret (v := .agg (stRow s)) (results_cell_row rfl _ _ _ 37 _ (0,0) _ rfl (setRow_heap _ _ _ _ 37 _ (heap_alloc_new _ _)) Tryd.underlying37 rfl (by kernel_rfl)) rfl ⟨by rw [nextSt, if_neg h], ?_⟩
    exact below_setRow ((Below.refl _ _).alloc (Nat.le_refl _) _) _ _ (Nat.le_refl _)
end Go.Proofs.YtoickijglahipaaDoor
