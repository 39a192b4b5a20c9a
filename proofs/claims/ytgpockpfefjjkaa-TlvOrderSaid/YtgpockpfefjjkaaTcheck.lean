/-
  The contracts of tlv.Check and of the reference's Check.
-/
import Derived.Test.YtgpockpfefjjkaaTrchk
namespace Go.Proofs.Ytgpockpfefjjkaa
open Go.RowKit

theorem oneVal_bad {b : ByteArray} (h : oneErr b ≠ 0) : oneVal b = .tuple #[.agg #[.int .i64 0, .string ⟨#[]⟩, .string ⟨#[]⟩], .int .i64 ((oneErr b : Nat) : Int)] := if_neg h
theorem oneVal_good {b : ByteArray} (h : oneErr b = 0) : oneVal b = .tuple #[.agg #[.int .i64 ((rdTag b : Nat) : Int), .string (rdContent b), .string (rdRaw b)], .int .i64 0] := if_pos h
theorem oneErr_rd {b : ByteArray} (h : oneErr b = 0) : rdErr b = 0 := by
  unfold oneErr at h
  by_cases h1 : rdErr b = 0
  · exact h1
  · rw [if_pos h1] at h; exact absurd h h1

set_option maxRecDepth 100000 in
set_option maxHeartbeats 1000000 in
theorem check_any (b : ByteArray) (w : World) (hs : b.size ≤ 1099511627776) :
    Calls Try.prog 14 #[.string b] w fun e w' => e = .returned (.int .i64 ((chkAll b : Nat) : Int)) ∧ Below w.heap.size w w' := by
  have HS := Lib.hid hs
  by_cases hx : oneErr b = 0
  · have HF := Lib.hid (show chkAll b = chkEl 15 (rdTag b) (rdContent b) from if_neg (fun h => h hx))
    have HV := Lib.hid (oneVal_good hx)
    have hcs := rdContent_size (oneErr_rd hx)
    have HC := Lib.hid (show (rdContent b).size ≤ 1099511627776 by omega)
    clear hx hcs hs
    go_enter Try.func14, Try.ntmps14
    go_wp2_with (first | (go_at_call 20; (with_reducible refine (one_any b _ HS.out).mono ?_); rw [HV.out]; rintro e w1 ⟨rfl, hb1⟩; have HB1 := Lib.hid hb1; clear hb1) | (go_at_call 38; (with_reducible refine (within_any _ (rdTag b) 1 (rdContent b) (rdRaw b) _ 1 (Nat.lt_succ_self _) (rdTag_lt b) (by omega) rfl HC.out).mono ?_); rintro e w2 ⟨rfl, hb2⟩; have HB2 := Lib.hid hb2; clear hb2))
    go_ret
    exact ⟨by rw [HF.out]; rfl, (HB1.out.alloc HB1.out.size _).trans (HB2.out.mono (by have := HB1.out.size; simp; omega))⟩
  · have HF := Lib.hid (show chkAll b = oneErr b from if_pos hx)
    have HV := Lib.hid (oneVal_bad hx)
    have dx : (((oneErr b : Nat) : Int) != 0) = true := by simp; omega
    clear hx hs
    go_enter Try.func14, Try.ntmps14
    go_wp2_with (go_at_call 20; (with_reducible refine (one_any b _ HS.out).mono ?_); rw [HV.out]; rintro e w1 ⟨rfl, hb1⟩; have HB1 := Lib.hid hb1; clear hb1)
    go_ret
    exact ⟨by rw [HF.out]; rfl, HB1.out.alloc HB1.out.size _⟩

set_option maxRecDepth 100000 in
set_option maxHeartbeats 1000000 in
theorem rcheck_any (b : ByteArray) (w : World) (hs : b.size ≤ 1099511627776) :
    Calls Try.prog 15 #[.string b] w fun e w' => e = .returned (.int .i64 ((chkAll b : Nat) : Int)) ∧ Below w.heap.size w w' := by
  have HS := Lib.hid hs
  by_cases hx : oneErr b = 0
  · have HF := Lib.hid (show chkAll b = chkEl 15 (rdTag b) (rdContent b) from if_neg (fun h => h hx))
    have HV := Lib.hid (oneVal_good hx)
    have hcs := rdContent_size (oneErr_rd hx)
    have HC := Lib.hid (show (rdContent b).size ≤ 1099511627776 by omega)
    clear hx hcs hs
    go_enter Try.func15, Try.ntmps15
    go_wp2_with (first | (go_at_call 28; (with_reducible refine (rone_any b _ HS.out).mono ?_); rw [HV.out]; rintro e w1 ⟨rfl, hb1⟩; have HB1 := Lib.hid hb1; clear hb1) | (go_at_call 39; (with_reducible refine (rwithin_any _ (rdTag b) 0 (rdContent b) (rdRaw b) _ 0 (Nat.lt_succ_self _) (rdTag_lt b) (by omega) rfl HC.out).mono ?_); rintro e w2 ⟨rfl, hb2⟩; have HB2 := Lib.hid hb2; clear hb2))
    go_ret
    exact ⟨by rw [HF.out]; rfl, (HB1.out.alloc HB1.out.size _).trans (HB2.out.mono (by have := HB1.out.size; simp; omega))⟩
  · have HF := Lib.hid (show chkAll b = oneErr b from if_pos hx)
    have HV := Lib.hid (oneVal_bad hx)
    have dx : (((oneErr b : Nat) : Int) != 0) = true := by simp; omega
    clear hx hs
    go_enter Try.func15, Try.ntmps15
    go_wp2_with (go_at_call 28; (with_reducible refine (rone_any b _ HS.out).mono ?_); rw [HV.out]; rintro e w1 ⟨rfl, hb1⟩; have HB1 := Lib.hid hb1; clear hb1)
    go_ret
    exact ⟨by rw [HF.out]; rfl, HB1.out.alloc HB1.out.size _⟩
end Go.Proofs.Ytgpockpfefjjkaa
