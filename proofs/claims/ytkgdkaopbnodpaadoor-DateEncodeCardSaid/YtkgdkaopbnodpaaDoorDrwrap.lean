/-
  The contract of the reference's Wrap for one short content, and of its EncodeTime.
-/
import Derived.Test.YtkgdkaopbnodpaaDoorDrfmt
import Derived.Test.YtkgdkaopbnodpaaDoorDcode
namespace Go.Proofs.YtkgdkaopbnodpaaDoor
open Go.RowKit

set_option maxRecDepth 100000 in
set_option maxHeartbeats 1000000 in
theorem rwrap1 (t : UInt8) (ht : t.toNat % 32 ≠ 31) (c : List UInt8) (hl : c.length ≤ 100) (g cap : Nat) (w : World) (hc : w.cell? ⟨g, 0, none⟩ = some (.string (strOf c))) :
    Calls Tryd.prog 37 #[.int .i64 ((t.toNat : Nat) : Int), .slice (some ⟨g, 0, none⟩) 1 cap] w fun E w' => E = .returned (.tuple #[.string (strOf (t :: UInt8.ofNat c.length :: c)), .int .i64 0]) ∧ Below w.heap.size w w' := by
  have hz : (strOf c).size = c.length := rfl
  obtain ⟨n, hn⟩ : ∃ n : UInt8, n = UInt8.ofNat c.length := ⟨_, rfl⟩
  have hnn : n.toNat = c.length := by rw [hn]; simp; omega
  have hcv := str_two t n w
  rw [hnn] at hcv
  have hcat : ∀ w, (Op.stringOp .add (strOf [t, n]) (strOf c)).run Tryd.prog w = .ok (.string (strOf (t :: n :: c))) w := fun w => by
    rw [run_string_add_sum w _ _ (by rw [strOf_size, strOf_size]; simp; omega), str_cat]; rfl
  have hcat0 : ∀ w, (Op.stringOp .add ⟨#[]⟩ (strOf c)).run Tryd.prog w = .ok (.string (strOf c)) w := fun w => by
    rw [show (⟨#[]⟩ : ByteArray) = strOf [] from rfl, run_string_add_sum w _ _ (by rw [strOf_size, strOf_size]; simp; omega), str_cat]; rfl
  rw [← hn]
  have htb := t.toNat_lt
  have HCV := Lib.hid hcv
  clear hn hcv
  generalize t.toNat = T at ht htb HCV ⊢
  have d1 : decide ((T : Int) < 0) = false := decide_eq_false (by omega)
  have d2 : decide (255 < (T : Int)) = false := decide_eq_false (by omega)
  have d3 : ((T : Int) % 32 == 31) = false := beq_eq_false_iff_ne.2 (by omega)
  have e1 : decide (131072 < (c.length : Int)) = false := decide_eq_false (by omega)
  have e2 : decide (65536 ≤ (c.length : Int)) = false := decide_eq_false (by omega)
  have e3 : decide (256 ≤ (c.length : Int)) = false := decide_eq_false (by omega)
  have e4 : decide (128 ≤ (c.length : Int)) = false := decide_eq_false (by omega)
  clear ht
  go_enter Tryd.func37, Tryd.ntmps37
  go_wp2_with fail
  go_loopw [6, 24] (fun s i wr => (i = .int .i64 0 ∧ s = .string ⟨#[]⟩ ∨ i = .int .i64 1 ∧ s = .string (strOf c)) ∧ wr = w) (fun _ i _ => 1 - (intOf i).toNat)
  case atStart => exact ⟨.inl ⟨rfl, rfl⟩, rfl⟩
  case round =>
    obtain ⟨⟨rfl, rfl⟩ | ⟨rfl, rfl⟩, rfl⟩ := hrel
    · go_wp2_with fail
      go_roundw
      case rel => exact ⟨.inr ⟨rfl, rfl⟩, trivial⟩
      case measure => simp [intOf]
    · have hcv := HCV.out
      go_wp2_with fail
      go_ret2
      exact ⟨rfl, belowNew _ _⟩
end Go.Proofs.YtkgdkaopbnodpaaDoor
