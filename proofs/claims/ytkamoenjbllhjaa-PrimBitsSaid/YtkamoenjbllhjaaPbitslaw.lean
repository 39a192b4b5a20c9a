/-
  The walk of the law PrimBits: for every two strings, every number and every byte it returns true, and leaves all that was there as it was.
-/
import Derived.Test.YtkamoenjbllhjaaPrputbits
import Derived.Test.YtkamoenjbllhjaaPputlaw
namespace Go.Proofs.Ytkamoenjbllhjaa
open Go.RowKit

theorem bits_form (c : ByteArray) : ∃ (s : ByteArray) (u n : Nat), bitsVal c = .tuple #[.string s, .int .i64 ((u : Nat) : Int), .int .i64 ((n : Nat) : Int)] := ⟨_, _, _, rfl⟩
theorem pbits_form (b : ByteArray) (u : Int) : ∃ (s : ByteArray) (n : Nat), putBitsVal b u = .tuple #[.string s, .int .i64 ((n : Nat) : Int)] := ⟨_, _, rfl⟩

set_option maxRecDepth 100000 in
set_option maxHeartbeats 4000000 in
theorem bitslaw_core (c b : ByteArray) (u : Int) (l a : Nat) (w : World) (hl : l < 256) (ha : a = l % 9) (hc : c.size ≤ 60) (hb : b.size ≤ 60) :
    Calls Try.prog 6 #[.string c, .string b, .int .i64 u, .int .u8 (l : Int)] w fun e w' => e = .returned (.bool true) ∧ Below w.heap.size w w' := by
  have dc : decide ((60 : Int) < (c.size : Int)) = false := by simp; omega
  have db : decide ((60 : Int) < (b.size : Int)) = false := by simp; omega
  have e1 : (l : Int) % 9 = (a : Int) := by omega
  have HB1 := Lib.hid (fun w => bits_any c w (by omega))
  have HB2 := Lib.hid (fun w => rbits_any c w (by omega))
  obtain ⟨s, t, n, hV⟩ := bits_form c
  rw [hV] at HB1 HB2
  have HP := Lib.hid (fun u w => pbits_any b u w (by omega))
  have HR := Lib.hid (fun u w => rpbits_any b u w (by omega))
  have ha9 : a < 9 := by omega
  clear hV ha hc hb
  go_enter Try.func6, Try.ntmps6
  go_wp2_with (first | (go_at_call 18; (with_reducible refine (HB1.out _).mono ?_); rintro e w2 ⟨rfl, hb2⟩; have HB3 := Lib.hid hb2; clear hb2) | (go_at_call 19; (with_reducible refine (HB2.out _).mono ?_); rintro e w3 ⟨rfl, hb3⟩; have HB4 := Lib.hid (below_next HB3.out hb3); clear hb3))
  have HBA := Lib.hid ((HB4.out.alloc (HB4.out.size) (.cells #[.int .i64 u, .int .i64 (a : Int)] 3)))
  have HCL := Lib.hid (row_ints w3 [u, (a : Int)])
  clear e1
  go_loopw [61] (fun i wr => ∃ k : Nat, k ≤ 2 ∧ i = .int .i64 k ∧ Below w.heap.size w wr ∧ Below (w3.heap.size + 1) (w3.alloc (.cells #[.int .i64 u, .int .i64 (a : Int)] 3)) wr) (fun i _ => 2 - (intOf i).toNat)
  case atStart => exact ⟨0, by omega, rfl, HBA.out, Below.refl _ _⟩
  case round =>
    obtain ⟨k, hk, rfl, hb, hb2⟩ := hrel
    have HB5 := Lib.hid hb
    have HBO := Lib.hid hb2
    by_cases hlt : k < 2
    · have hd4 : decide ((k : Int) < 2) = true := by simp; omega
      have hcx : wr.cell? ⟨w3.heap.size, k, none⟩ = some (.int .i64 ([u, (a : Int)].getD k 0)) := (hb2.cell (p := ⟨w3.heap.size, k, none⟩) (Nat.lt_succ_self _)).trans (HCL.out k hlt)
      clear hb hb2
      generalize [u, (a : Int)].getD k 0 = x at hcx
      obtain ⟨s', n', hV⟩ := pbits_form b x
      have HP2 := Lib.hid (HP.out x)
      have HR2 := Lib.hid (HR.out x)
      rw [hV] at HP2 HR2
      clear hV
      go_wp2_with (first | (go_at_call 20; (with_reducible refine (HP2.out _).mono ?_); rintro e w4 ⟨rfl, hb4⟩; have HB6 := Lib.hid hb4; clear hb4) | (go_at_call 21; (with_reducible refine (HR2.out _).mono ?_); rintro e w5 ⟨rfl, hb5⟩; have HB7 := Lib.hid (below_next HB6.out hb5); clear hb5))
      go_roundw
      case rel => exact ⟨k + 1, by omega, by go_num, below_next HB5.out HB7.out, HBO.out.trans (HB7.out.mono (by have := HBO.out.size; simp at this; omega))⟩
      case measure => simp [intOf]; omega
    · have ek : k = 2 := by omega
      subst ek
      clear hb hb2
      go_wp2_with (go_at_call 9; (with_reducible refine (awake_any _).mono ?_); rintro e w4 ⟨rfl, hb4⟩; have HB6 := Lib.hid hb4; clear hb4)
      go_ret
      exact ⟨rfl, below_next HB5.out HB6.out⟩
set_option maxRecDepth 100000 in
theorem bitslaw (c b : ByteArray) (u : Int) (l : Nat) (w : World) (hl : l < 256) :
    Calls Try.prog 6 #[.string c, .string b, .int .i64 u, .int .u8 (l : Int)] w fun e w' => e = .returned (.bool true) ∧ Below w.heap.size w w' := by
  by_cases hc : 60 < c.size
  · have d : decide ((60 : Int) < (c.size : Int)) = true := by simp; omega
    clear hc
    go_enter Try.func6, Try.ntmps6
    go_wp2_with (go_at_call 9; (with_reducible refine (awake_any _).mono ?_); rintro e w1 ⟨rfl, hb1⟩; have HB1 := Lib.hid hb1; clear hb1)
    go_ret
    exact ⟨rfl, HB1.out⟩
  · by_cases hb : 60 < b.size
    · have d : decide ((60 : Int) < (c.size : Int)) = false := by simp; omega
      have d2 : decide ((60 : Int) < (b.size : Int)) = true := by simp; omega
      clear hc hb
      go_enter Try.func6, Try.ntmps6
      go_wp2_with (go_at_call 9; (with_reducible refine (awake_any _).mono ?_); rintro e w1 ⟨rfl, hb1⟩; have HB1 := Lib.hid hb1; clear hb1)
      go_ret
      exact ⟨rfl, HB1.out⟩
    · exact bitslaw_core c b u l _ w hl rfl (by omega) (by omega)
end Go.Proofs.Ytkamoenjbllhjaa
