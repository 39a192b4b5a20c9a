/-
  The contracts of math/bits.RotateLeft32 and of hash.mix: what each call returns, for every word; the world stays as it was.
-/
import Derived.Test.YtoickijglahipaaDoorRows
import Derived.Test.YtoickijglahipaaDoorSha
import Derived.WalkKit
import Derived.WalkSpells
import Derived.WalkLawsBesides
namespace Go.Proofs.YtoickijglahipaaDoor
open Go.RowKit

set_option maxHeartbeats 400000 in
theorem rot_core (x : BitVec 32) (k : Int) (n : Nat) (hb : bits .and .u64 (IntKind.u64.wrap k) 31 = (n : Int)) (_h0 : 0 < n) (_h1 : n < 32) (w : World) :
    Calls Tryd.prog 32 #[.int .u32 (u32 x), .int .i64 k] w fun e w' => e = .returned (.int .u32 (u32 (x <<< n ||| x >>> (32 - n)))) ∧ w = w' := by
  have e1 := u32_shl_bv x n
  have e2 := u32_shr_bv x (32 - n)
  go_enter Tryd.func32, Tryd.ntmps32
  go_wp2
  go_ret
  exact ⟨rfl, rfl⟩

theorem low5 (i : Nat) (h0 : 0 < i) (h1 : i < 32) : bits .and .u64 (IntKind.u64.wrap (-(i : Int))) 31 = ((32 - i : Nat) : Int) := by
  have e : IntKind.u64.wrap (-(i : Int)) = ((18446744073709551616 - i : Nat) : Int) := by
    simp only [IntKind.wrap, IntKind.bits, IntKind.signed]; simp; omega
  rw [e, show (31 : Int) = ((31 : Nat) : Int) from rfl, u64_and_nat _ _ (by omega) (by omega), nat_mask5]
  congr 1; omega

theorem rot_any (x : BitVec 32) (i : Nat) (h0 : 0 < i) (h1 : i < 32) (w : World) :
    Calls Tryd.prog 32 #[.int .u32 (u32 x), .int .i64 (-(i : Int))] w fun e w' => e = .returned (.int .u32 (u32 (rotr x i))) ∧ w = w' :=
  (rot_core x _ (32 - i) (low5 i h0 h1) (by omega) (by omega) w).mono fun _ _ h => by
    have e : 32 - (32 - i) = i := by omega
    rw [e] at h
    exact h

theorem rot_lit (x : BitVec 32) (k : Int) (i : Nat) (hk : k = -(i : Int)) (h0 : 0 < i) (h1 : i < 32) (w : World) :
    Calls Tryd.prog 32 #[.int .u32 (u32 x), .int .i64 k] w fun e w' => e = .returned (.int .u32 (u32 (rotr x i))) ∧ w = w' := by
  rw [hk]; exact rot_any x i h0 h1 w

theorem rot7 (x : BitVec 32) (w : World) : Calls Tryd.prog 32 #[.int .u32 (u32 x), .int .i64 (-7)] w fun e w' => e = .returned (.int .u32 (u32 (rotr x 7))) ∧ w = w' :=
  rot_lit x (-7) 7 rfl (by omega) (by omega) w
theorem rot18 (x : BitVec 32) (w : World) : Calls Tryd.prog 32 #[.int .u32 (u32 x), .int .i64 (-18)] w fun e w' => e = .returned (.int .u32 (u32 (rotr x 18))) ∧ w = w' :=
  rot_lit x (-18) 18 rfl (by omega) (by omega) w
theorem rot17 (x : BitVec 32) (w : World) : Calls Tryd.prog 32 #[.int .u32 (u32 x), .int .i64 (-17)] w fun e w' => e = .returned (.int .u32 (u32 (rotr x 17))) ∧ w = w' :=
  rot_lit x (-17) 17 rfl (by omega) (by omega) w
theorem rot19 (x : BitVec 32) (w : World) : Calls Tryd.prog 32 #[.int .u32 (u32 x), .int .i64 (-19)] w fun e w' => e = .returned (.int .u32 (u32 (rotr x 19))) ∧ w = w' :=
  rot_lit x (-19) 19 rfl (by omega) (by omega) w

set_option maxHeartbeats 400000 in
theorem mix_any (x : BitVec 32) (i j k : Nat) (i0 : 0 < i) (i1 : i < 32) (j0 : 0 < j) (j1 : j < 32) (k0 : 0 < k) (k1 : k < 32) (w : World) :
    Calls Tryd.prog 30 #[.int .u32 (u32 x), .int .i64 i, .int .i64 j, .int .i64 k] w fun e w' => e = .returned (.int .u32 (u32 (rotr x i ^^^ rotr x j ^^^ rotr x k))) ∧ w = w' := by
  go_enter Tryd.func30, Tryd.ntmps30
  go_wp2_with (go_at_call 32; refine (rot_any _ _ (by omega) (by omega) _).mono ?_; rintro e w' ⟨rfl, rfl⟩)
  go_ret
  exact ⟨rfl, rfl⟩

theorem mix_e (x : BitVec 32) (w : World) :
    Calls Tryd.prog 30 #[.int .u32 (u32 x), .int .i64 6, .int .i64 11, .int .i64 25] w fun e w' => e = .returned (.int .u32 (u32 (rotr x 6 ^^^ rotr x 11 ^^^ rotr x 25))) ∧ w = w' :=
  mix_any x 6 11 25 (by omega) (by omega) (by omega) (by omega) (by omega) (by omega) w

theorem mix_a (x : BitVec 32) (w : World) :
    Calls Tryd.prog 30 #[.int .u32 (u32 x), .int .i64 2, .int .i64 13, .int .i64 22] w fun e w' => e = .returned (.int .u32 (u32 (rotr x 2 ^^^ rotr x 13 ^^^ rotr x 22))) ∧ w = w' :=
  mix_any x 2 13 22 (by omega) (by omega) (by omega) (by omega) (by omega) (by omega) w

end Go.Proofs.YtoickijglahipaaDoor
