/-
  The walk of the law HashSum: for every slice of strings it returns true, and leaves all that was there as it was.
  The contracts of the reference's numbers as bytes (B4, B1), and of its hash over a literal row of strings.
  Nothing is left of this text.
  Digits without a program, one byte after the other. Nothing is claimed of the program here.
  Nothing is left of this text.
  Nothing is left of this text.
  The contracts of the law package's small functions: seeds, ids and digests of the right size.
-/
import Derived.Test.YtbmphhiafepnoaaCag
import Derived.Test.YtbmphhiafepnoaaCab
namespace Go.Proofs.Ytbmphhiafepnoaa
open Go.RowKit

theorem refsum_any (v : Value) (ss : List ByteArray) (w : World) (hv : Reads_z w v ss) (hn : ss.length < 4611686018427387904) (hm : (cat_z ss).length ≤ 1099511627776) :
    Calls Try.prog 11 #[v] w fun e w' => e = .returned (.string (shaStr (cat_z ss))) ∧ Below w.heap.size w w' := by
  obtain ⟨a, cap, rfl, h⟩ := hv
  exact refsum_core a cap ss w h hn hm

set_option maxHeartbeats 400000 in
theorem refshort_any (v : Value) (ss : List ByteArray) (w : World) (hv : Reads_z w v ss) (hn : ss.length < 4611686018427387904) (hm : (cat_z ss).length ≤ 1099511627776) :
    Calls Try.prog 9 #[v] w fun e w' => e = .returned (.string (shortStr (cat_z ss))) ∧ Below w.heap.size w w' := by
  have HV := Lib.hid hv
  have HM := Lib.hid hm
  have hsz : (shaStr (cat_z ss)).size = 32 := shaStr_size _
  have hex := short_extract (cat_z ss)
  clear hv hm
  go_enter Try.func9, Try.ntmps9
  go_wp2_with (go_at_call 11; refine (refsum_any v ss _ HV.out hn HM.out).mono ?_; rintro e w1 ⟨he, hb1⟩; obtain rfl : e = .returned (.string (shaStr (cat_z ss))) := he; have HB1 := Lib.hid hb1; clear hb1)
  go_ret
  exact ⟨rfl, HB1.out⟩

end Go.Proofs.Ytbmphhiafepnoaa
namespace Go.Proofs.Ytbmphhiafepnoaa
open Go.RowKit

theorem shortStr_size (m : List UInt8) : (shortStr m).size = 16 := by
  show ((sha m).take 16).toArray.size = 16
  rw [List.size_toArray, List.length_take, sha_length]
  rfl
/-! ### What the hash is handed -/
end Go.Proofs.Ytbmphhiafepnoaa

namespace Go.Proofs.Ytbmphhiafepnoaa
open Go.RowKit

theorem halves_app : ∀ (l m : List UInt8), halves (l ++ m) = halves l ++ halves m
  | [], _ => rfl
  | b :: r, m => by
    show b.toNat / 16 :: b.toNat % 16 :: halves (r ++ m) = b.toNat / 16 :: b.toNat % 16 :: (halves r ++ halves m)
    rw [halves_app r m]
theorem lack_app : ∀ (l m : List Nat), lack (l ++ m) = lack l + lack m
  | [], m => by rw [List.nil_append]; exact (Nat.zero_add _).symm
  | d :: r, m => by
    show (15 - d) + lack (r ++ m) = (15 - d) + lack r + lack m
    rw [lack_app r m, Nat.add_assoc]
theorem halves_snoc (l : List UInt8) (b : UInt8) : halves (l ++ [b]) = halves l ++ [b.toNat / 16, b.toNat % 16] := halves_app l [b]
theorem lack_snoc (l : List UInt8) (b : UInt8) : lack (halves (l ++ [b])) = lack (halves l) + (30 - b.toNat / 16 - b.toNat % 16) := by
  have hb := b.toNat_lt
  rw [halves_snoc, lack_app]
  show lack (halves l) + ((15 - b.toNat / 16) + ((15 - b.toNat % 16) + 0)) = _
  omega
theorem lack_half_le (l : List UInt8) : lack (halves l) ≤ 30 * l.length := by
  have := lack_le (halves l)
  rw [halves_len] at this
  omega
theorem digs_zero : digs (List.replicate 16 0) = List.replicate 32 0 ++ [1, 14, 0] := by decide
end Go.Proofs.Ytbmphhiafepnoaa


namespace Go.Proofs.Ytbmphhiafepnoaa
open Go.RowKit

def dgS (s : ByteArray) : ByteArray := shortStr (cat_z [⟨#[68]⟩, s])
theorem dgS_size (s : ByteArray) : (dgS s).size = 16 := shortStr_size _
theorem cat_pairq (a b : ByteArray) : (cat_z [a, b]).length = a.size + b.size := by
  simp [cat_z]

set_option maxRecDepth 100000 in
set_option maxHeartbeats 1000000 in
theorem dgq_any (s : ByteArray) (hs : s.size ≤ 1000) (w : World) :
    Calls Try.prog 6 #[.string s] w fun e w' => e = .returned (.string (dgS s)) ∧ Below w.heap.size w w' := by
  obtain ⟨S, hS⟩ : ∃ S, S = dgS s := ⟨_, rfl⟩
  have HSM : Hid (∀ (V : Value) (W : World), Reads_z W V [⟨#[68]⟩, s] → Calls Try.prog 9 #[V] W fun e w' => e = .returned (.string S) ∧ Below W.heap.size W w') := Lib.hid fun V W h => by
    rw [hS]
    exact refshort_any V _ W h (show (2 : Nat) < 4611686018427387904 by decide) (by rw [cat_pairq]; show 1 + s.size ≤ 1099511627776; omega)
  rw [← hS]
  clear hS
  go_enter Try.func6, Try.ntmps6
  go_wp2_with (first | (go_at_call 9; refine (HSM.out _ _ (reads_row _ [⟨#[68]⟩, s] 9)).mono ?_; rintro e w2 ⟨rfl, hb2⟩; have HB2 := Lib.hid ((belowNew w _).next hb2); clear hb2))
  go_ret
  exact ⟨rfl, HB2.out⟩
end Go.Proofs.Ytbmphhiafepnoaa
