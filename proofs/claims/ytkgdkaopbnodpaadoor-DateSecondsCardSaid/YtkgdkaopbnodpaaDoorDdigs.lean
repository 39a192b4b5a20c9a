/-
  The contract of the reference's digits.
-/
import Derived.Test.YtkgdkaopbnodpaaDoorDpad
namespace Go.Proofs.YtkgdkaopbnodpaaDoor
open Go.RowKit

def allDig (l : List UInt8) : Bool := l.all fun c => decide (48 ≤ c.toNat) && decide (c.toNat ≤ 57)
theorem allDig_iff {l : List UInt8} : allDig l = true ↔ ∀ c ∈ l, isDig c := by
  unfold allDig isDig
  simp
/-- The number of decimal digits, or -1. -/
def digI (l : List UInt8) : Int := if allDig l then ((dval l : Nat) : Int) else -1
theorem digI_yes {l : List UInt8} (h : ∀ c ∈ l, isDig c) : digI l = ((dval l : Nat) : Int) := by unfold digI; rw [if_pos (allDig_iff.2 h)]
theorem digI_no {l : List UInt8} {c : UInt8} (h : c ∈ l) (hc : ¬ isDig c) : digI l = -1 := by
  unfold digI
  rw [if_neg]
  intro k
  exact hc (allDig_iff.1 k c h)
theorem take_snoc2 {l : List UInt8} {k : Nat} (h : k < l.length) : l.take (k + 1) = l.take k ++ [l.getD k 0] := by
  rw [List.take_add_one, List.getD_eq_getElem?_getD, List.getElem?_eq_getElem h]
  rfl

set_option maxRecDepth 100000 in
set_option maxHeartbeats 1000000 in
theorem rdigs_any (s : ByteArray) (w : World) (hs : s.size ≤ 18) :
    Calls Tryd.prog 33 #[.string s] w fun E w' => E = .returned (.int .i64 (digI s.data.toList)) ∧ w' = w := by
  have HLEN := Lib.hid (show s.data.toList.length = s.size from rfl)
  have HPOW := Lib.hid (show ∀ k, k ≤ 18 → (∀ c ∈ s.data.toList.take k, isDig c) → dval (s.data.toList.take k) < 10 ^ k from fun k _ h => by
    have h1 := dval_lt _ h
    refine Nat.lt_of_lt_of_le h1 (Nat.pow_le_pow_right (by omega) ?_)
    rw [List.length_take]; omega)
  go_enter Tryd.func33, Tryd.ntmps33
  go_wp2_with fail
  go_loopw [3, 4] (fun v i wr => ∃ k : Nat, k ≤ s.size ∧ i = .int .i64 (k : Int) ∧ v = .int .i64 ((dval (s.data.toList.take k) : Nat) : Int) ∧ (∀ c ∈ s.data.toList.take k, isDig c) ∧ wr = w) (fun _ i _ => s.size - (intOf i).toNat)
  case atStart => exact ⟨0, by omega, rfl, rfl, by simp, rfl⟩
  case round =>
    obtain ⟨k, hk, rfl, rfl, hd, rfl⟩ := hrel
    by_cases hlt : k < s.size
    · have d1 : decide ((k : Int) < (s.size : Int)) = true := decide_eq_true (by omega)
      have d2 : decide (k < s.size) = true := decide_eq_true hlt
      have hi := fun w => run_index_u8 (P := Tryd.prog) Tryd.underlying9 s k hlt (k : Int) rfl w
      rw [byte_at] at hi
      have hv : dval (s.data.toList.take k) < 100000000000000000 := Nat.lt_of_lt_of_le (HPOW.out k (by omega) hd) (by
        have : (10 : Nat) ^ k ≤ 10 ^ 17 := Nat.pow_le_pow_right (by omega) (by omega)
        simpa using this)
      have HT := Lib.hid (take_snoc2 (l := s.data.toList) (k := k) hlt)
      have HMEM := Lib.hid (show s.data.toList.getD k 0 ∈ s.data.toList from by
        rw [List.getD_eq_getElem?_getD, List.getElem?_eq_getElem (show k < s.data.toList.length from hlt)]
        exact List.getElem_mem _)
      have HV := Lib.hid (show dval (s.data.toList.take (k + 1)) = 10 * dval (s.data.toList.take k) + ((s.data.toList.getD k 0).toNat - 48) by rw [HT.out, dval_snoc])
      generalize s.data.toList.getD k 0 = c at hi HT HMEM HV
      have hcb := c.toNat_lt
      have HD := Lib.hid hd
      clear hd
      by_cases hlo : c.toNat < 48
      · have e1 : decide (((c.toNat : Nat) : Int) < 48) = true := decide_eq_true (by omega)
        have HE := Lib.hid (digI_no HMEM.out (by unfold isDig; omega))
        clear hlo
        go_wp2_with fail
        go_ret
        exact ⟨by rw [HE.out]; rfl, rfl⟩
      · have e1 : decide (((c.toNat : Nat) : Int) < 48) = false := decide_eq_false (by omega)
        by_cases hhi : 57 < c.toNat
        · have e2 : decide (57 < ((c.toNat : Nat) : Int)) = true := decide_eq_true (by omega)
          have HE := Lib.hid (digI_no HMEM.out (by unfold isDig; omega))
          clear hlo hhi
          go_wp2_with fail
          go_ret
          exact ⟨by rw [HE.out]; rfl, rfl⟩
        · have e2 : decide (57 < ((c.toNat : Nat) : Int)) = false := decide_eq_false (by omega)
          have HC := Lib.hid (show isDig c by unfold isDig; omega)
          obtain ⟨x, hx⟩ : ∃ x, x = c.toNat - 48 := ⟨_, rfl⟩
          have hxi : ((c.toNat : Nat) : Int) - 48 = (x : Int) := by omega
          have hx9 : x ≤ 9 := by omega
          rw [← hx] at HV
          clear hx hlo hhi
          generalize dval (s.data.toList.take k) = V at hv HV ⊢
          go_wp2_with fail
          go_roundw
          case rel => exact ⟨k + 1, by omega, by go_num, by rw [HV.out]; go_num, by
            rw [HT.out]
            intro y hy
            rcases List.mem_append.1 hy with hy | hy
            · exact HD.out y hy
            · obtain rfl : y = c := by simpa using hy
              exact HC.out, trivial⟩
          case measure => simp [intOf]; omega
    · obtain rfl : k = s.size := by omega
      have d1 : decide ((s.size : Int) < (s.size : Int)) = false := by simp
      have d2 : decide (s.size < s.size) = false := by simp
      have hall : s.data.toList.take s.size = s.data.toList := List.take_of_length_le (Nat.le_refl _)
      rw [hall] at hd ⊢
      have HE := Lib.hid (digI_yes hd)
      clear hd hall
      generalize dval s.data.toList = V at HE ⊢
      go_wp2_with fail
      go_ret
      exact ⟨by rw [HE.out]; rfl, rfl⟩
end Go.Proofs.YtkgdkaopbnodpaaDoor
