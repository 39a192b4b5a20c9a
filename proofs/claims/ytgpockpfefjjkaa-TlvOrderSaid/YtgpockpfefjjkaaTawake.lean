/-
  The contract of the law's function awake: the chapter's examples answer as written.
-/
import Derived.Test.YtgpockpfefjjkaaTwrap
import Derived.Test.YtgpockpfefjjkaaTsame
namespace Go.Proofs.Ytgpockpfefjjkaa
open Go.RowKit

theorem awake_wrap : wrapVal 4 (cat [⟨#[97]⟩, ⟨#[98]⟩]) = .tuple #[.string ⟨#[4, 2, 97, 98]⟩, .int .i64 0] := by
  have e : wrapErr 4 (cat [⟨#[97]⟩, ⟨#[98]⟩]).length = 0 := by decide
  have e2 : wrapL 4 (cat [⟨#[97]⟩, ⟨#[98]⟩]) = [4, 2, 97, 98] := by decide
  unfold wrapVal wrapStr
  rw [e]
  show Value.tuple #[.string ⟨(wrapL 4 (cat [⟨#[97]⟩, ⟨#[98]⟩])).toArray⟩, .int .i64 0] = _
  rw [e2]
theorem awake_read : rdVal ⟨#[4, 129, 2, 97, 98]⟩ = .tuple #[.agg #[.int .i64 0, .string ⟨#[]⟩, .string ⟨#[]⟩], .string ⟨#[]⟩, .int .i64 6] := by
  have e : rdErr ⟨#[4, 129, 2, 97, 98]⟩ = 6 := by decide
  rw [rdVal_bad (by rw [e]; decide), e]
  rfl
theorem two_read (w : World) : Reads (w.alloc (.cells #[.string ⟨#[97]⟩, .string ⟨#[98]⟩] 9)) (.slice (some ⟨w.heap.size, 0, none⟩) 2 2) [⟨#[97]⟩, ⟨#[98]⟩] := by
  refine ⟨_, 2, rfl, .inr ⟨w.heap.size, 0, rfl, fun i hi => ?_⟩⟩
  rw [Lib.cell_of_heap (heap_alloc_new w _)]
  have : i = 0 ∨ i = 1 := by simp at hi; omega
  rcases this with rfl | rfl <;> rfl

set_option maxRecDepth 100000 in
set_option maxHeartbeats 1000000 in
theorem awake_any (w : World) :
    Calls Try.prog 11 #[] w fun e w' => e = .returned (.bool true) ∧ Below w.heap.size w w' := by
  go_enter Try.func11, Try.ntmps11
  go_wp2_with (first | (go_at_call 13; (with_reducible refine (wrap_any 4 _ [⟨#[97]⟩, ⟨#[98]⟩] _ (two_read w) (by simp)).mono ?_); rw [awake_wrap]; rintro e w1 ⟨rfl, hb1⟩; have HB1 := Lib.hid hb1; clear hb1) | (go_at_call 21; (with_reducible refine (read_any ⟨#[4, 129, 2, 97, 98]⟩ _ (by decide)).mono ?_); rw [awake_read]; rintro e w2 ⟨rfl, hb2⟩; have HB2 := Lib.hid hb2; clear hb2))
  go_ret
  exact ⟨rfl, below_new (below_next (below_next (belowNew w _) HB1.out) HB2.out) _⟩
end Go.Proofs.Ytgpockpfefjjkaa
