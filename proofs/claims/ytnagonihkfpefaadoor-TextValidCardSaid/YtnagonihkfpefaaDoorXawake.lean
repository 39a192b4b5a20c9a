/-
  The contract of the law's function awake: the chapter's examples answer as written.
-/
import Derived.Test.YtnagonihkfpefaaDoorXval
import Derived.Test.YtnagonihkfpefaaDoorXesc
namespace Go.Proofs.YtnagonihkfpefaaDoor
open Go.RowKit

theorem fold_ex : foldS ⟨#[32, 32, 69, 120, 97, 109, 112, 108, 101, 32, 32, 32, 67, 111, 114, 112, 32]⟩ = ⟨#[101, 120, 97, 109, 112, 108, 101, 32, 99, 111, 114, 112]⟩ := by decide +kernel
theorem esc_ex : escS ⟨#[97, 44, 98]⟩ = ⟨#[97, 92, 50, 99, 98]⟩ := by decide +kernel
theorem val_ex1 : validB 12 [103, 114, 195, 182, 195, 159, 101] = true := by decide +kernel
theorem val_ex2 : validB 22 [103, 114, 195, 182, 195, 159, 101] = false := by decide +kernel
theorem fold_aw (w : World) : Calls Tryd.prog 13 #[.string ⟨#[32, 32, 69, 120, 97, 109, 112, 108, 101, 32, 32, 32, 67, 111, 114, 112, 32]⟩] w fun e w' => e = .returned (.string ⟨#[101, 120, 97, 109, 112, 108, 101, 32, 99, 111, 114, 112]⟩) ∧ Below w.heap.size w w' := by
  have := foldS_any ⟨#[32, 32, 69, 120, 97, 109, 112, 108, 101, 32, 32, 32, 67, 111, 114, 112, 32]⟩ w (by decide)
  rwa [fold_ex] at this
theorem esc_aw (w : World) : Calls Tryd.prog 17 #[.string ⟨#[97, 44, 98]⟩] w fun e w' => e = .returned (.string ⟨#[97, 92, 50, 99, 98]⟩) ∧ Below w.heap.size w w' := by
  have := esc_any ⟨#[97, 44, 98]⟩ w (by decide)
  rwa [esc_ex] at this
theorem val_aw1 (w : World) (hT : Tab w) : Calls Tryd.prog 10 #[.int .i64 12, .string ⟨#[103, 114, 195, 182, 195, 159, 101]⟩] w fun e w' => e = .returned (.bool true) ∧ Below w.heap.size w w' := by
  have := tval_any 12 ⟨#[103, 114, 195, 182, 195, 159, 101]⟩ w (by decide) hT
  rwa [show (⟨#[103, 114, 195, 182, 195, 159, 101]⟩ : ByteArray).data.toList = [103, 114, 195, 182, 195, 159, 101] from rfl, val_ex1] at this
theorem val_aw2 (w : World) (hT : Tab w) : Calls Tryd.prog 10 #[.int .i64 22, .string ⟨#[103, 114, 195, 182, 195, 159, 101]⟩] w fun e w' => e = .returned (.bool false) ∧ Below w.heap.size w w' := by
  have := tval_any 22 ⟨#[103, 114, 195, 182, 195, 159, 101]⟩ w (by decide) hT
  rwa [show (⟨#[103, 114, 195, 182, 195, 159, 101]⟩ : ByteArray).data.toList = [103, 114, 195, 182, 195, 159, 101] from rfl, val_ex2] at this

set_option maxRecDepth 100000 in
set_option maxHeartbeats 1000000 in
theorem awake_any (w : World) (hT : Tab w) :
    Calls Tryd.prog 8 #[] w fun e w' => e = .returned (.bool true) ∧ Below w.heap.size w w' := by
  have HT := Lib.hid hT
  clear hT
  go_enter Tryd.func8, Tryd.ntmps8
  go_wp2_with (first
    | (go_at_call 13; (with_reducible refine (fold_aw _).mono ?_); rintro e w1 ⟨rfl, hb1⟩; have HB1 := Lib.hid hb1; clear hb1)
    | (go_at_call 17; (with_reducible refine (esc_aw _).mono ?_); rintro e w2 ⟨rfl, hb2⟩; have HB2 := Lib.hid (below_next HB1.out hb2); clear hb2)
    | (go_at_call 10; (with_reducible refine (val_aw1 _ (HT.out.below HB2.out)).mono ?_); rintro e w3 ⟨rfl, hb3⟩; have HB3 := Lib.hid (below_next HB2.out hb3); clear hb3)
    | (go_at_call 10; (with_reducible refine (val_aw2 _ (HT.out.below HB3.out)).mono ?_); rintro e w4 ⟨rfl, hb4⟩; have HB4 := Lib.hid (below_next HB3.out hb4); clear hb4))
  go_ret
  exact ⟨rfl, HB4.out⟩
end Go.Proofs.YtnagonihkfpefaaDoor
