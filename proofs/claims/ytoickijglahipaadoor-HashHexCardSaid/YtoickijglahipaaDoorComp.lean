/-
  The contract of hash.compress: for every state and every block of 64 bytes, where the table of constants holds SHA-256's, it returns the state behind the block; nothing that was there before the call has changed.
-/
import Derived.Test.YtoickijglahipaaDoorSched
import Derived.Test.YtoickijglahipaaDoorMem
namespace Go.Proofs.YtoickijglahipaaDoor
open Go.RowKit

def zero8 : Array Value := #[.int .u32 0, .int .u32 0, .int .u32 0, .int .u32 0, .int .u32 0, .int .u32 0, .int .u32 0, .int .u32 0]
theorem zeroSt : ∀ w, (zeroValue 37).run Tryd.prog w = .ok (.agg zero8) w := by intro w; kernel_rfl

set_option maxRecDepth 100000 in
set_option maxHeartbeats 1000000 in
theorem compress_any (s : St) (l : List UInt8) (hl : l.length = 64) (w : World) (hK : Holds w 0 kWords) :
    Calls Tryd.prog 25 #[.agg (stRow s), .agg (byteRow l)] w fun e w' => e = .returned (.agg (stRow (compress s l))) ∧ Below w.heap.size w w' := by
  have HL := Lib.hid hl
  clear hl
  go_enter Tryd.func25, Tryd.ntmps25
  go_wp2_with (first | (go_at_call 29; (with_reducible refine (sched_any l HL.out _).mono ?_); rintro e w1 ⟨rfl, hb1⟩) | (refine wpList_alloc_row rfl 56 rfl (wordRow []) zeroWords ?_) | (refine wpList_alloc_row rfl 37 rfl zero8 zeroSt ?_) | (refine wpList_load_row rfl 38 _ rfl _ rfl 38 (byteRow l) (0,0) _ (heap3_b _ _ _ _) Tryd.underlying38 rfl (by kernel_rfl) ?_) | (refine wpList_store_row rfl 56 _ _ rfl _ (wordRow (sched l 48)) rfl rfl 56 (wordRow []) (heap_alloc_new _ _) (by kernel_rfl) (by rw [wordRow_size, wordRow_size]) (wordRow_one _) ?_))
  have hsz : w.heap.size + 3 ≤ w1.heap.size := by have := hb1.size; simp at this; omega
  obtain ⟨wa, hwa⟩ : ∃ wa, wa = (w1.alloc (.cells (wordRow []) 56)).setRow w1.heap.size (wordRow (sched l 48)) := ⟨_, rfl⟩
  have hbk : ∀ i, i < w.heap.size + 3 → wa.heap[i]? = (((w.alloc (.cells (stRow s) 37)).alloc (.cells (byteRow l) 38)).alloc (.cells zero8 37)).heap[i]? := fun i hi => by
    rw [hwa, setRow_other _ _ _ _ (by omega), heap_alloc_old _ _ (by omega), hb1.block i (by simp; omega)]
  have hs := (hbk w.heap.size (by omega)).trans (heap3_a _ _ _ _)
  have hz := (hbk (w.heap.size + 1 + 1) (by omega)).trans (heap3_c _ _ _ _)
  have hW : Holds wa w1.heap.size (sched l 48) := Holds.of_row (by rw [hwa]; exact setRow_heap _ _ _ _ 56 _ (heap_alloc_new _ _))
  have hb : Below w.heap.size w wa := by
    rw [hwa]
    refine below_setRow (Below.alloc ?_ (by omega) _) _ _ (by omega)
    exact ((((Below.refl _ _).alloc (Nat.le_refl _) _).alloc (by simp) _).alloc (by simp; omega) _).trans (hb1.mono (by simp; omega))
  have hKa := hK.old hb
  rw [← hwa]
  clear hwa hbk hb1 hK
  have HW := Lib.hid hW
  have HK := Lib.hid hKa
  clear hW hKa
  have c0 := cell_of_row wa _ 0 _ _ _ hs
  have c1 := cell_of_row wa _ 1 _ _ _ hs
  have c2 := cell_of_row wa _ 2 _ _ _ hs
  have c3 := cell_of_row wa _ 3 _ _ _ hs
  have c4 := cell_of_row wa _ 4 _ _ _ hs
  have c5 := cell_of_row wa _ 5 _ _ _ hs
  have c6 := cell_of_row wa _ 6 _ _ _ hs
  have c7 := cell_of_row wa _ 7 _ _ _ hs
  simp at c0 c1 c2 c3 c4 c5 c6 c7
  have HZ := Lib.hid hz
  clear hs hz
  go_quiet (fail)
  go_wp2_with fail
  go_quiet (fail)
  go_wp2_with fail
  go_loopw [6, 7, 8, 9, 10, 11, 12, 13, 37] (fun a b c d e f g h i wr => ∃ k n : Nat, ∃ r : St, k ≤ 64 ∧ i = .int .i64 k ∧ r = rounds (sched l 48) s k ∧ a = .int .u32 (u32 r.a) ∧ b = .int .u32 (u32 r.b) ∧ c = .int .u32 (u32 r.c) ∧ d = .int .u32 (u32 r.d) ∧ e = .int .u32 (u32 r.e) ∧ f = .int .u32 (u32 r.f) ∧ g = .int .u32 (u32 r.g) ∧ h = .int .u32 (u32 r.h) ∧ wr = wa.drewN n) (fun _ _ _ _ _ _ _ _ i _ => 64 - (intOf i).toNat)
  case atStart => exact ⟨0, _, s, by omega, rfl, rfl, rfl, rfl, rfl, rfl, rfl, rfl, rfl, rfl, World.drewN_drewN _ _ _⟩
  case round =>
    obtain ⟨k, n, r, hk, rfl, hr, rfl, rfl, rfl, rfl, rfl, rfl, rfl, rfl, rfl⟩ := hrel
    have HR := Lib.hid hr
    clear hr
    by_cases hlt : k < 64
    · have hd : decide ((k : Int) < 64) = true := by simp; omega
      have gK := HK.out k hlt
      have gW := HW.out k hlt
      go_wp2_with fail
      go_quiet ((go_at_call 30; (first | exact quiet_drawn (mix_e _) | exact quiet_drawn2 (mix_e _))))
      go_wp2_with (go_at_call 30; (with_reducible refine (mix_a _ _).mono ?_); rintro e w' ⟨rfl, rfl⟩)
      go_roundw
      case rel =>
        refine ⟨k + 1, _, step (at32 kWords k) (at32 (sched l 48) k) r, by omega, by go_num, by rw [HR.out]; rfl, ?_, rfl, rfl, rfl, ?_, rfl, rfl, rfl, rfl⟩
        · simp only [step, big0, big1, choose, major]
        · simp only [step, big0, big1, choose, major]
      case measure => simp [intOf]; omega
    · have e64 : k = 64 := by omega
      subst e64
      rw [show ((64 : Nat) : Int) = 64 from rfl]
      clear hlt hk
      go_wp2_with (refine wpList_store_row rfl 37 _ _ rfl _ (stRow (addSt s r)) rfl rfl 37 zero8 (by rw [World.heap_drewN]; exact HZ.out) (by kernel_rfl) (by rw [stRow_size]; rfl) (stRow_one _) ?_)
      have hr : ((wa.drewN n).setRow (w.heap.size + 1 + 1) (stRow (addSt s r))).heap[w.heap.size + 1 + 1]? = some (.cells (stRow (addSt s r)) 37 (0, 0)) := setRow_heap _ _ _ _ _ _ (by rw [World.heap_drewN]; exact HZ.out)
      refine bodyPost_ret (v := .agg (stRow (addSt s r))) (results_cell_row rfl _ _ _ 37 _ (0,0) _ rfl hr Tryd.underlying37 rfl (by kernel_rfl)) rfl ⟨?_, ?_⟩
      · rw [HR.out]; rfl
      · exact below_setRow (below_drewN hb _) _ _ (by omega)
end Go.Proofs.YtoickijglahipaaDoor
