/-
  The contract of isSet of prim.
-/
import Derived.Test.YtkamoenjbllhjaaPputbits
namespace Go.Proofs.Ytkamoenjbllhjaa
open Go.RowKit

theorem and_bit_all : ∀ x : Fin 256, ∀ r : Fin 8, (bits BinOp.and .u8 ((x.val : Nat) : Int) (128 / 2 ^ r.val) != 0) = x.val.testBit (7 - r.val) := by decide +kernel
theorem and_bit {x r : Nat} (hx : x < 256) (hr : r ≤ 7) : (bits BinOp.and .u8 (x : Int) (128 / 2 ^ r) != 0) = x.testBit (7 - r) := and_bit_all ⟨x, hx⟩ ⟨r, by omega⟩

set_option maxRecDepth 100000 in
set_option maxHeartbeats 1000000 in
theorem isset_core (b : ByteArray) (k q r x : Nat) (w : World) (hq : q = k / 8) (hr : r = k % 8) (hb : k ≤ 10000000000000) (hk : q < b.size) (hx : x = u8at b q) :
    Calls Try.prog 29 #[.string b, .int .i64 (k : Int)] w fun e w' => e = .returned (.bool (x.testBit (7 - r))) ∧ Below w.heap.size w w' := by
  have xk := fun w => run_index_u8 (P := Try.prog) Try.underlying9 b q hk (q : Int) rfl w
  rw [← hx] at xk
  have e1 : (k : Int) / 8 = (q : Int) := by omega
  have e2 : (k : Int) % 8 = (r : Int) := by omega
  have hr7 : r ≤ 7 := by omega
  have hxl : x < 256 := by rw [hx]; exact u8at_lt b _
  clear hq hr hx
  go_enter Try.func29, Try.ntmps29
  go_wp2_with fail
  go_quiet (fail)
  go_wp2_with fail
  go_ret
  exact ⟨congrArg (fun b => Ending.returned (.bool b)) (and_bit hxl hr7), Below.drawn (Below.refl _ _) _⟩
theorem isset_any (b : ByteArray) (k : Nat) (w : World) (hb : k ≤ 10000000000000) (hk : k / 8 < b.size) :
    Calls Try.prog 29 #[.string b, .int .i64 (k : Int)] w fun e w' => e = .returned (.bool (bitAt b k)) ∧ Below w.heap.size w w' :=
  isset_core b k _ _ _ w rfl rfl hb hk rfl
end Go.Proofs.Ytkamoenjbllhjaa
