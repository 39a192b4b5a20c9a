/-
  The contract of hash.schedule: for every block of 64 bytes it returns the 64 words that the rounds add; nothing that was there before the call has changed.
-/
import Derived.Test.YtoickijglahipaaDoorRot
import Derived.Test.YtoickijglahipaaDoorRow
import Derived.Deep.QuietTactic
import Derived.BigQuiet
import Derived.RegionTactic
import Derived.ChangeAlike
import Derived.LoopTactic
import Derived.StillTailTactics
namespace Go.Proofs.YtoickijglahipaaDoor
open Go.RowKit
theorem zeroWords : ∀ w, (zeroValue 56).run Tryd.prog w = .ok (.agg (wordRow [])) w := by intro w; kernel_rfl
theorem aggByte : ∀ w, (isAgg 5).run Tryd.prog w = .ok false w := by intro w; kernel_rfl
theorem sizeByte : ∀ w, (sizeOf 5).run Tryd.prog w = .ok 1 w := by intro w; kernel_rfl
set_option maxRecDepth 100000 in
set_option maxHeartbeats 400000 in
theorem sched_any (l : List UInt8) (hl : l.length = 64) (w : World) :
    Calls Tryd.prog 29 #[.agg (byteRow l)] w fun e w' => e = .returned (.agg (wordRow (sched l 48))) ∧ Below w.heap.size w w' := by
  have HL := Lib.hid hl
  clear hl
  go_enter Tryd.func29, Tryd.ntmps29
  go_wp2_with (first | (refine wpList_alloc_row rfl 56 rfl (wordRow []) zeroWords ?_) | (refine wpList_load_row rfl 38 _ rfl _ rfl 38 (byteRow l) (0,0) _ (heap3_a _ _ _ _) Tryd.underlying38 rfl (by kernel_rfl) ?_))
  go_loopw [12] (fun i wr => ∃ k : Nat, k ≤ 64 ∧ i = .int .i64 k ∧ wr = ((w.alloc (.cells (byteRow l) 38)).alloc (.cells (wordRow []) 56)).alloc (.cells (wordRow (partW l k)) 56)) (fun i _ => 64 - (intOf i).toNat)
  case atStart => exact ⟨0, by omega, rfl, by rw [wordRow_congr (L := []) (L' := partW l 0)]; intro j _; rw [partW_zero]; rfl⟩
  case round =>
    obtain ⟨k, hk, rfl, rfl⟩ := hrel
    by_cases hlt : k < 64
    · have hix := fun wx => run_index_row (P := Tryd.prog) Tryd.underlying38 aggByte sizeByte (byteRow l) k _ hlt (byteRow_get l k hlt) wx
      have hg := wordRow_get (partW l k) (k / 4) (by omega)
      go_wp2_with fail
      go_roundw
      case rel =>
        exact ⟨k + 1, by omega, by go_num, by rw [wordRow_put _ _ _ (by omega) (partW l (k + 1)) (fun i _ => partW_step l HL.out k hlt i)]⟩
      case measure => simp [intOf]; omega
    · have e64 : k = 64 := by omega
      subst e64
      rw [partW_full l HL.out]
      clear hlt
      rw [show ((64 : Nat) : Int) = 64 from rfl]
      go_wp2_with fail
      go_loopw [6] (fun i wr => ∃ k n : Nat, k ≤ 48 ∧ i = .int .i64 (16 + k : Nat) ∧ wr = (((w.alloc (.cells (byteRow l) 38)).alloc (.cells (wordRow []) 56)).alloc (.cells (wordRow (sched l k)) 56)).drewN n) (fun i _ => 64 - (intOf i).toNat)
      case atStart => exact ⟨0, 0, by omega, rfl, rfl⟩
      case round =>
        obtain ⟨k, n, hk, rfl, rfl⟩ := hrel
        by_cases hlt : k < 48
        · have hd : decide ((16 : Int) + (k : Int) < 64) = true := by simp; omega
          have g16 := wordRow_get (sched l k) k (by omega)
          have gst := wordRow_get (sched l k) (16 + k) (by omega)
          have g15 := wordRow_get (sched l k) (16 + k - 15) (by omega)
          have g7 := wordRow_get (sched l k) (16 + k - 7) (by omega)
          have g2 := wordRow_get (sched l k) (16 + k - 2) (by omega)
          go_wp2_with fail
          go_quiet (fail)
          go_wp2_with (first | (go_at_call 32; (with_reducible refine (rot7 _ _).mono ?_); rintro e w' ⟨rfl, rfl⟩) | (go_at_call 32; (with_reducible refine (rot18 _ _).mono ?_); rintro e w' ⟨rfl, rfl⟩) | (go_at_call 32; (with_reducible refine (rot17 _ _).mono ?_); rintro e w' ⟨rfl, rfl⟩) | (go_at_call 32; (with_reducible refine (rot19 _ _).mono ?_); rintro e w' ⟨rfl, rfl⟩))
          go_region
          all_goals go_wp2_with fail
          go_roundw
          case rel =>
            refine ⟨k + 1, n + nq + 1, by omega, by go_num, ?_⟩
            rw [setCell_last _ _ _ _ _ _ _ (by simp)]
            rw [wordRow_put _ _ _ (by omega) (sched l (k + 1)) (fun i _ => ?_)]
            rw [at32_sched_step]
            simp only [newWord, small0, small1, Nat.add_sub_cancel_left]
          case measure => simp [intOf]; omega
        · have e48 : k = 48 := by omega
          subst e48
          clear hlt hk
          go_wp2_with (first | (refine wpList_load_row rfl 56 _ rfl _ rfl 56 (wordRow (sched l 48)) (0,0) _ (by rw [World.heap_drewN]; exact heap3_c _ _ _ _) Tryd.underlying56 rfl (by kernel_rfl) ?_) | (refine wpList_store_row rfl 56 _ _ rfl _ (wordRow (sched l 48)) rfl rfl 56 (wordRow []) (by rw [World.heap_drewN]; exact heap3_b _ _ _ _) (by kernel_rfl) (by rw [wordRow_size, wordRow_size]) (wordRow_one _) ?_))
          refine bodyPost_ret (v := .agg (wordRow (sched l 48))) (results_cell_row rfl _ _ _ 56 _ (0,0) _ rfl (setRow_heap _ _ _ _ 56 _ (by rw [World.heap_drewN]; exact heap3_b _ _ _ _)) Tryd.underlying56 rfl (by kernel_rfl)) rfl ⟨rfl, ?_⟩
          exact below_setRow (below_drewN ((((Below.refl _ _).alloc (Nat.le_refl _) _).alloc (by simp) _).alloc (by simp; omega) _) _) _ _ (by omega)
end Go.Proofs.YtoickijglahipaaDoor
