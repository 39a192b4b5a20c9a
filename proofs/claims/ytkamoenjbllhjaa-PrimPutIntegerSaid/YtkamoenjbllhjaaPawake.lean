/-
  The contract of the law's function awake: the chapter's examples answer as written.
-/
import Derived.Test.YtkamoenjbllhjaaPputflags
namespace Go.Proofs.Ytkamoenjbllhjaa
open Go.RowKit

theorem awake_flags : putFlagsVal 6 = .tuple #[.string ⟨#[5, 96]⟩, .int .i64 0] := by
  have e : putFlagsErr 6 = 0 := by decide
  have e2 : UInt8.ofNat (8 * ((Lib.bitLen 6 + 7) / 8) - Lib.bitLen 6) :: putF 6 ((Lib.bitLen 6 + 7) / 8) (Lib.bitLen 6) = [5, 96] := by decide +kernel
  unfold putFlagsVal putFlagsStr
  rw [e, show (6 : Int).toNat = 6 from rfl, e2]
  rfl
theorem awake_128 : putInt 128 = ⟨#[0, 128]⟩ := by
  have e : putZ 128 (lenZ 128) = [0, 128] := by decide +kernel
  unfold putInt
  rw [e]; rfl
theorem awake_one : putInt (-1) = ⟨#[255]⟩ := by
  have e : putZ (-1) (lenZ (-1)) = [255] := by decide +kernel
  unfold putInt
  rw [e]; rfl
theorem put_128 (w : World) : Calls Try.prog 16 #[.int .i64 128] w fun e w' => e = .returned (.string ⟨#[0, 128]⟩) ∧ Below w.heap.size w w' := by
  rw [← awake_128]; exact put_any 128 w (by omega) (by omega)
theorem put_one (w : World) : Calls Try.prog 16 #[.int .i64 (-1)] w fun e w' => e = .returned (.string ⟨#[255]⟩) ∧ Below w.heap.size w w' := by
  rw [← awake_one]; exact put_any (-1) w (by omega) (by omega)
theorem pflags_6 (w : World) : Calls Try.prog 24 #[.int .i64 6] w fun e w' => e = .returned (.tuple #[.string ⟨#[5, 96]⟩, .int .i64 0]) ∧ Below w.heap.size w w' := by
  rw [← awake_flags]; exact pflags_any 6 w

set_option maxRecDepth 100000 in
set_option maxHeartbeats 1000000 in
theorem awake_any (w : World) :
    Calls Try.prog 9 #[] w fun e w' => e = .returned (.bool true) ∧ Below w.heap.size w w' := by
  go_enter Try.func9, Try.ntmps9
  go_wp2_with (first | (go_at_call 24; (with_reducible refine (pflags_6 _).mono ?_); rintro e w1 ⟨rfl, hb1⟩; have HB1 := Lib.hid hb1; clear hb1) | (go_at_call 16; (with_reducible refine (put_128 _).mono ?_); rintro e w2 ⟨rfl, hb2⟩; have HB2 := Lib.hid hb2; clear hb2) | (go_at_call 16; (with_reducible refine (put_one _).mono ?_); rintro e w3 ⟨rfl, hb3⟩; have HB3 := Lib.hid hb3; clear hb3))
  go_ret
  exact ⟨rfl, below_next (below_next HB1.out HB2.out) HB3.out⟩
end Go.Proofs.Ytkamoenjbllhjaa
