/-
  The values of hexadecimal digits: what the program's and the reference's functions answer for each byte, and what a string of digits says of them.
-/
import Derived.Test.YtoickijglahipaaDoorHashSum
namespace Go.Proofs.YtoickijglahipaaDoor
open Go.RowKit

def digV (c : Nat) : Option Nat := if 48 ≤ c ∧ c ≤ 57 then some (c - 48) else if 97 ≤ c ∧ c ≤ 102 then some (c - 87) else none
theorem digV_low {c : Nat} (h : 48 ≤ c ∧ c ≤ 57) : digV c = some (c - 48) := by unfold digV; rw [if_pos h]
theorem digV_high {c : Nat} (h : 97 ≤ c ∧ c ≤ 102) : digV c = some (c - 87) := by unfold digV; rw [if_neg (by omega), if_pos h]
theorem digV_no {c : Nat} (h : ¬ (48 ≤ c ∧ c ≤ 57)) (k : ¬ (97 ≤ c ∧ c ≤ 102)) : digV c = none := by unfold digV; rw [if_neg h, if_neg k]
theorem digV_some {c : UInt8} {v : Nat} (h : digV c.toNat = some v) : v < 16 ∧ hexDigit v = c := by
  unfold digV at h
  split at h
  · rename_i h1
    obtain rfl := Option.some.inj h
    refine ⟨by omega, ?_⟩
    unfold hexDigit
    rw [if_pos (by omega), show 48 + (c.toNat - 48) = c.toNat by omega]
    simp
  · split at h
    · rename_i h1
      obtain rfl := Option.some.inj h
      refine ⟨by omega, ?_⟩
      unfold hexDigit
      rw [if_neg (by omega), show 87 + (c.toNat - 87) = c.toNat by omega]
      simp
    · cases h
theorem digV_hex : ∀ v, v < 16 → digV (hexDigit v).toNat = some v := by decide
theorem hexDigit_inj {v w : Nat} (hv : v < 16) (hw : w < 16) (h : hexDigit v = hexDigit w) : v = w := by
  have h1 := digV_hex v hv
  rw [h, digV_hex w hw] at h1
  exact (Option.some.inj h1).symm
theorem hexL_mem {l : List UInt8} {c : UInt8} (h : c ∈ hexL l) : (digV c.toNat).isSome = true := by
  unfold hexL at h
  obtain ⟨b, _, hb⟩ := List.mem_flatMap.1 h
  have := b.toNat_lt
  simp only [List.mem_cons, List.not_mem_nil, or_false] at hb
  rcases hb with rfl | rfl
  · rw [digV_hex _ (by omega)]; rfl
  · rw [digV_hex _ (by omega)]; rfl
theorem hexL_cons (a : UInt8) (l : List UInt8) : hexL (a :: l) = hexDigit (a.toNat / 16) :: hexDigit (a.toNat % 16) :: hexL l := by simp [hexL]
theorem hexL_inj : ∀ {a b : List UInt8}, hexL a = hexL b → a = b
  | [], [], _ => rfl
  | [], y :: b, h => by rw [hexL_cons] at h; cases h
  | x :: a, [], h => by rw [hexL_cons] at h; cases h
  | x :: a, y :: b, h => by
    rw [hexL_cons, hexL_cons] at h
    have hx := x.toNat_lt
    have hy := y.toNat_lt
    have h1 := hexDigit_inj (by omega) (by omega) (List.cons.inj h).1
    have h2 := hexDigit_inj (by omega) (by omega) (List.cons.inj (List.cons.inj h).2).1
    have h3 := hexL_inj (List.cons.inj (List.cons.inj h).2).2
    have : x.toNat = y.toNat := by omega
    rw [h3, UInt8.toNat_inj.1 this]

/-- What Unhex answers for the string s: the string whose digits are s, if there is one. -/
def Unh (s : List UInt8) (u : ByteArray) (ok : Bool) : Prop := (ok = true ∧ hexL u.data.toList = s) ∨ (ok = false ∧ u = ⟨#[]⟩ ∧ ∀ l, hexL l ≠ s)
theorem Unh.eq {s : List UInt8} {u v : ByteArray} {a b : Bool} (h : Unh s u a) (k : Unh s v b) : v = u ∧ b = a := by
  rcases h with ⟨rfl, h⟩ | ⟨rfl, rfl, h⟩ <;> rcases k with ⟨rfl, k⟩ | ⟨rfl, rfl, k⟩
  · refine ⟨?_, rfl⟩
    have := hexL_inj (k.trans h.symm)
    apply ByteArray.ext
    exact Array.toList_inj.1 this
  · exact absurd h (k _)
  · exact absurd k (h _)
  · exact ⟨rfl, rfl⟩
theorem unh_odd {s : List UInt8} (h : s.length % 2 = 1) : Unh s ⟨#[]⟩ false := Or.inr ⟨rfl, rfl, fun l e => by
  have := congrArg List.length e
  rw [hexL_length] at this; omega⟩
theorem unh_bad {s : List UInt8} {c : UInt8} (hc : c ∈ s) (h : digV c.toNat = none) : Unh s ⟨#[]⟩ false := Or.inr ⟨rfl, rfl, fun l e => by
  rw [← e] at hc
  have := hexL_mem hc
  rw [h] at this; cases this⟩
theorem unh_step {s D : List UInt8} {j a b : Nat} {c0 c1 : UInt8} (hj : j + 1 < s.length) (hD : hexL D = s.take j) (h0 : s[j]'(by omega) = c0) (h1 : s[j + 1] = c1) (ha : digV c0.toNat = some a) (hb : digV c1.toNat = some b) :
    hexL (D ++ [UInt8.ofNat (16 * a + b)]) = s.take (j + 2) := by
  obtain ⟨a1, a2⟩ := digV_some ha
  obtain ⟨b1, b2⟩ := digV_some hb
  have e1 : s.take (j + 2) = s.take j ++ [c0, c1] := by
    rw [List.take_succ_eq_append_getElem hj, List.take_succ_eq_append_getElem (show j < s.length by omega), h0, h1]; simp
  have e2 : (UInt8.ofNat (16 * a + b)).toNat = 16 * a + b := by simp; omega
  rw [hexL_snoc, hD, e1, e2, show (16 * a + b) / 16 = a by omega, show (16 * a + b) % 16 = b by omega, a2, b2]

set_option maxHeartbeats 400000 in
theorem digit_any (c : UInt8) (w : World) :
    Calls Tryd.prog 23 #[.int .u8 ((c.toNat : Nat) : Int)] w fun e w' => e = .returned (.tuple #[.int .u8 (((digV c.toNat).getD 0 : Nat) : Int), .bool (digV c.toNat).isSome]) ∧ w = w' := by
  obtain ⟨n, hn⟩ : ∃ n, n = c.toNat := ⟨_, rfl⟩
  have hlt : n < 256 := by rw [hn]; exact c.toNat_lt
  rw [← hn]
  clear hn
  obtain ⟨V, hV⟩ : ∃ V, V = digV n := ⟨_, rfl⟩
  rw [← hV]
  have HV := Lib.hid hV
  clear hV
  by_cases h1 : 48 ≤ n
  · have d1 : decide ((48 : Int) ≤ (n : Int)) = true := by simp; omega
    by_cases h2 : n ≤ 57
    · have d2 : decide ((n : Int) ≤ (57 : Int)) = true := by simp; omega
      go_enter Tryd.func23, Tryd.ntmps23
      go_wp2_with fail
      go_ret2
      rw [HV.out, digV_low ⟨h1, h2⟩]
      refine ⟨?_, rfl⟩
      show Ending.returned (.tuple #[.int .u8 ((n : Int) - 48), .bool true]) = Ending.returned (.tuple #[.int .u8 ((n - 48 : Nat) : Int), .bool true])
      rw [show (n : Int) - 48 = ((n - 48 : Nat) : Int) by omega]
    · have d2 : decide ((n : Int) ≤ (57 : Int)) = false := by simp; omega
      by_cases h3 : 97 ≤ n
      · have d3 : decide ((97 : Int) ≤ (n : Int)) = true := by simp; omega
        by_cases h4 : n ≤ 102
        · have d4 : decide ((n : Int) ≤ (102 : Int)) = true := by simp; omega
          go_enter Tryd.func23, Tryd.ntmps23
          go_wp2_with fail
          go_ret2
          rw [HV.out, digV_high ⟨h3, h4⟩]
          refine ⟨?_, rfl⟩
          show Ending.returned (.tuple #[.int .u8 ((n : Int) - 97 + 10), .bool true]) = Ending.returned (.tuple #[.int .u8 ((n - 87 : Nat) : Int), .bool true])
          rw [show (n : Int) - 97 + 10 = ((n - 87 : Nat) : Int) by omega]
        · have d4 : decide ((n : Int) ≤ (102 : Int)) = false := by simp; omega
          go_enter Tryd.func23, Tryd.ntmps23
          go_wp2_with fail
          go_ret2
          rw [HV.out, digV_no (by omega) (by omega)]
          exact ⟨rfl, rfl⟩
      · have d3 : decide ((97 : Int) ≤ (n : Int)) = false := by simp; omega
        go_enter Tryd.func23, Tryd.ntmps23
        go_wp2_with fail
        go_ret2
        rw [HV.out, digV_no (by omega) (by omega)]
        exact ⟨rfl, rfl⟩
  · have d1 : decide ((48 : Int) ≤ (n : Int)) = false := by simp; omega
    have d3 : decide ((97 : Int) ≤ (n : Int)) = false := by simp; omega
    go_enter Tryd.func23, Tryd.ntmps23
    go_wp2_with fail
    go_ret2
    rw [HV.out, digV_no (by omega) (by omega)]
    exact ⟨rfl, rfl⟩

def nibV (o : Option Nat) : Int := match o with | some v => (v : Int) | none => -1
set_option maxHeartbeats 400000 in
theorem nibble_any (c : UInt8) (w : World) :
    Calls Tryd.prog 24 #[.int .u8 ((c.toNat : Nat) : Int)] w fun e w' => e = .returned (.int .i64 (nibV (digV c.toNat))) ∧ w = w' := by
  obtain ⟨n, hn⟩ : ∃ n, n = c.toNat := ⟨_, rfl⟩
  have hlt : n < 256 := by rw [hn]; exact c.toNat_lt
  rw [← hn]
  clear hn
  obtain ⟨V, hV⟩ : ∃ V, V = digV n := ⟨_, rfl⟩
  rw [← hV]
  have HV := Lib.hid hV
  clear hV
  by_cases h1 : 48 ≤ n
  · have d1 : decide ((48 : Int) ≤ (n : Int)) = true := by simp; omega
    by_cases h2 : n ≤ 57
    · have d2 : decide ((n : Int) ≤ (57 : Int)) = true := by simp; omega
      go_enter Tryd.func24, Tryd.ntmps24
      go_wp2_with fail
      go_ret
      rw [HV.out, digV_low ⟨h1, h2⟩]
      refine ⟨?_, rfl⟩
      show Ending.returned (.int .i64 ((n : Int) - 48)) = Ending.returned (.int .i64 ((n - 48 : Nat) : Int))
      rw [show (n : Int) - 48 = ((n - 48 : Nat) : Int) by omega]
    · have d2 : decide ((n : Int) ≤ (57 : Int)) = false := by simp; omega
      by_cases h3 : 97 ≤ n
      · have d3 : decide ((97 : Int) ≤ (n : Int)) = true := by simp; omega
        by_cases h4 : n ≤ 102
        · have d4 : decide ((n : Int) ≤ (102 : Int)) = true := by simp; omega
          go_enter Tryd.func24, Tryd.ntmps24
          go_wp2_with fail
          go_ret
          rw [HV.out, digV_high ⟨h3, h4⟩]
          refine ⟨?_, rfl⟩
          show Ending.returned (.int .i64 ((n : Int) - 97 + 10)) = Ending.returned (.int .i64 ((n - 87 : Nat) : Int))
          rw [show (n : Int) - 97 + 10 = ((n - 87 : Nat) : Int) by omega]
        · have d4 : decide ((n : Int) ≤ (102 : Int)) = false := by simp; omega
          go_enter Tryd.func24, Tryd.ntmps24
          go_wp2_with fail
          go_ret
          rw [HV.out, digV_no (by omega) (by omega)]
          exact ⟨rfl, rfl⟩
      · have d3 : decide ((97 : Int) ≤ (n : Int)) = false := by simp; omega
        go_enter Tryd.func24, Tryd.ntmps24
        go_wp2_with fail
        go_ret
        rw [HV.out, digV_no (by omega) (by omega)]
        exact ⟨rfl, rfl⟩
  · have d1 : decide ((48 : Int) ≤ (n : Int)) = false := by simp; omega
    have d3 : decide ((97 : Int) ≤ (n : Int)) = false := by simp; omega
    go_enter Tryd.func24, Tryd.ntmps24
    go_wp2_with fail
    go_ret
    rw [HV.out, digV_no (by omega) (by omega)]
    exact ⟨rfl, rfl⟩
end Go.Proofs.YtoickijglahipaaDoor
