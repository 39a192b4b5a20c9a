/-
  The walk of the law HashSum: for every slice of strings it returns true, and leaves all that was there as it was.
-/
import Derived.Test.YtoickijglahipaaDoorRefSum
namespace Go.Proofs.YtoickijglahipaaDoor
open Go.RowKit

def fewB (ss : List ByteArray) (n m : Nat) : Bool := decide (ss.length ≤ n) && ss.all fun s => decide (s.size ≤ m)

set_option maxHeartbeats 1000000 in
theorem few_core (a0 : Option Addr) (cap : Nat) (ss : List ByteArray) (n m : Nat) (w : World) (hv : ss = [] ∨ ∃ b o, a0 = some ⟨b, o, none⟩ ∧ ∀ i, i < ss.length → w.cell? ⟨b, o + i, none⟩ = some (.string (ss.getD i ByteArray.empty)))
    (hn : n < 4611686018427387904) :
    Calls Tryd.prog 8 #[.slice a0 ss.length cap, .int .i64 n, .int .i64 m] w fun e w' => e = .returned (.bool (fewB ss n m)) ∧ w = w' := by
  obtain ⟨B, hB⟩ : ∃ B, B = fewB ss n m := ⟨_, rfl⟩
  obtain ⟨L, hL⟩ : ∃ L, L = ss.length := ⟨_, rfl⟩
  rw [← hB, ← hL]
  have HB := Lib.hid hB
  have HL := Lib.hid hL
  have HV := Lib.hid hv
  clear hB hL hv
  by_cases hfar : n < L
  · have hd : decide ((n : Int) < (L : Int)) = true := by simp; omega
    have hb : B = false := by rw [HB.out, fewB, ← HL.out]; simp; omega
    subst hb
    go_enter Tryd.func8, Tryd.ntmps8
    go_wp2
    go_ret
    exact ⟨rfl, rfl⟩
  · have hd : decide ((n : Int) < (L : Int)) = false := by simp; omega
    go_enter Tryd.func8, Tryd.ntmps8
    go_wp2
    go_loop [15] (fun i => ∃ k : Nat, k ≤ L ∧ i = .int .i64 k ∧ ∀ j, j < k → (ss.getD j ByteArray.empty).size ≤ m) (fun i => L - (intOf i).toNat)
    case atStart => exact ⟨0, Nat.zero_le _, rfl, fun j hj => by omega⟩
    case round =>
      obtain ⟨k, hk, rfl, hall⟩ := hrel
      have HA := Lib.hid hall
      clear hall
      by_cases hlt : k < L
      · have hd2 : decide ((k : Int) < (L : Int)) = true := by simp; omega
        obtain ⟨b, o, ha, hc⟩ : ∃ b o, a0 = some ⟨b, o, none⟩ ∧ w.cell? ⟨b, o + k, none⟩ = some (.string (ss.getD k ByteArray.empty)) := by
          rcases HV.out with h | ⟨b, o, h1, h2⟩
          · have := HL.out; rw [h] at this; simp at this; omega
          · exact ⟨b, o, h1, h2 k (by rw [← HL.out]; exact hlt)⟩
        obtain ⟨x, hx⟩ : ∃ x, x = ss.getD k ByteArray.empty := ⟨_, rfl⟩
        rw [← hx] at hc
        have HX := Lib.hid hx
        clear hx
        subst ha
        by_cases hs : x.size ≤ m
        · have hd3 : decide ((m : Int) < (x.size : Int)) = false := by simp; omega
          go_wp2
          go_round
          case rel => exact ⟨k + 1, by omega, by go_num, fun j hj => by
            by_cases e : j = k
            · subst e; rw [← HX.out]; exact hs
            · exact HA.out j (by omega)⟩
          case measure => simp [intOf]; omega
        · have hd3 : decide ((m : Int) < (x.size : Int)) = true := by simp; omega
          have hb : B = false := by
            rw [HB.out, fewB]
            simp only [Bool.and_eq_false_iff]
            right
            rw [List.all_eq_false]
            refine ⟨x, ?_, by simpa using hs⟩
            rw [HX.out]
            have : k < ss.length := by rw [← HL.out]; exact hlt
            simp [this]
          subst hb
          go_wp2
          go_ret
          exact ⟨rfl, rfl⟩
      · have ek : k = L := by omega
        subst ek
        have hd2 : decide ((k : Int) < (k : Int)) = false := by simp
        have hb : B = true := by
          rw [HB.out, fewB, ← HL.out]
          simp only [Bool.and_eq_true, decide_eq_true_eq]
          refine ⟨by omega, List.all_eq_true.2 fun x hx => ?_⟩
          obtain ⟨j, hj, rfl⟩ := List.getElem_of_mem hx
          have := HA.out j (by rw [HL.out]; exact hj)
          simpa [hj] using this
        subst hb
        go_wp2
        go_ret
        exact ⟨rfl, rfl⟩
theorem few_any (v : Value) (ss : List ByteArray) (n m : Nat) (w : World) (hv : Reads w v ss) (hn : n < 4611686018427387904) :
    Calls Tryd.prog 8 #[v, .int .i64 n, .int .i64 m] w fun e w' => e = .returned (.bool (fewB ss n m)) ∧ w = w' := by
  obtain ⟨a, cap, rfl, h⟩ := hv
  exact few_core a cap ss n m w h hn

theorem few_law (v : Value) (ss : List ByteArray) (w : World) (hv : Reads w v ss) :
    Calls Tryd.prog 8 #[v, .int .i64 20, .int .i64 400] w fun e w' => e = .returned (.bool (fewB ss 20 400)) ∧ w = w' := few_any v ss 20 400 w hv (by omega)

theorem few_cat {n m : Nat} : ∀ {ss : List ByteArray}, fewB ss n m = true → ss.length ≤ n ∧ (cat ss).length ≤ ss.length * m := by
  intro ss h
  simp only [fewB, Bool.and_eq_true, decide_eq_true_eq, List.all_eq_true] at h
  refine ⟨h.1, ?_⟩
  have h2 := h.2
  clear h
  induction ss with
  | nil => simp [cat]
  | cons a t ih =>
    have := ih fun x hx => h2 x (List.mem_cons_of_mem _ hx)
    have h1 : a.data.toList.length ≤ m := h2 a List.mem_cons_self
    have : cat (a :: t) = a.data.toList ++ cat t := by simp [cat]
    rw [this, List.length_append, List.length_cons, Nat.add_mul]; omega

theorem refsum_any (v : Value) (ss : List ByteArray) (w : World) (hv : Reads w v ss) (hn : ss.length < 4611686018427387904) (hm : (cat ss).length ≤ 1099511627776) :
    Calls Tryd.prog 11 #[v] w fun e w' => e = .returned (.string (shaStr (cat ss))) ∧ Below w.heap.size w w' := by
  obtain ⟨a, cap, rfl, h⟩ := hv
  exact refsum_core a cap ss w h hn hm

set_option maxHeartbeats 400000 in
theorem refshort_any (v : Value) (ss : List ByteArray) (w : World) (hv : Reads w v ss) (hn : ss.length < 4611686018427387904) (hm : (cat ss).length ≤ 1099511627776) :
    Calls Tryd.prog 13 #[v] w fun e w' => e = .returned (.string (shortStr (cat ss))) ∧ Below w.heap.size w w' := by
  have HV := Lib.hid hv
  have HM := Lib.hid hm
  have hsz : (shaStr (cat ss)).size = 32 := shaStr_size _
  have hex := short_extract (cat ss)
  clear hv hm
  go_enter Tryd.func13, Tryd.ntmps13
  go_wp2_with (go_at_call 11; refine (refsum_any v ss _ HV.out hn HM.out).mono ?_; rintro e w1 ⟨he, hb1⟩; obtain rfl : e = .returned (.string (shaStr (cat ss))) := he; have HB1 := Lib.hid hb1; clear hb1)
  go_ret
  exact ⟨rfl, HB1.out⟩

set_option maxRecDepth 100000 in
set_option maxHeartbeats 1000000 in
theorem sum_law (v : Value) (ss : List ByteArray) (w : World) (hv : Reads w v ss) (hK : Holds w 0 kWords) :
    Calls Tryd.prog 3 #[v] w fun e w' => e = .returned (.bool true) ∧ Below w.heap.size w w' := by
  obtain ⟨F, hF⟩ : ∃ F, F = fewB ss 20 400 := ⟨_, rfl⟩
  have HV := Lib.hid hv
  have HK := Lib.hid hK
  have HF := Lib.hid hF
  clear hv hK hF
  cases F with
  | false =>
    go_enter Tryd.func3, Tryd.ntmps3
    go_wp2_with (first | (go_at_call 8; (with_reducible refine (few_law v ss _ HV.out).mono ?_); rintro e w1 ⟨he, rfl⟩; obtain rfl : e = .returned (.bool false) := (by rw [he, ← HF.out])) | (go_at_call 9; (with_reducible refine (awake_any _ HK.out).mono ?_); rintro e w1 ⟨rfl, hb1⟩; have HB1 := Lib.hid hb1; clear hb1))
    go_ret
    exact ⟨rfl, HB1.out⟩
  | true =>
    have hc := few_cat HF.out.symm
    have HL := Lib.hid (show (cat ss).length ≤ 8000 by omega)
    have HN := Lib.hid (show ss.length < 4611686018427387904 by omega)
    have HZ := Lib.hid (Below.refl w.heap.size w)
    obtain ⟨E, hE⟩ : ∃ E, E = shaStr (cat ss) := ⟨_, rfl⟩
    obtain ⟨T, hT⟩ : ∃ T, T = shortStr (cat ss) := ⟨_, rfl⟩
    have HE := Lib.hid hE
    have HT := Lib.hid hT
    clear hc hE hT
    go_enter Tryd.func3, Tryd.ntmps3
    go_wp2_with (first | (go_at_call 8; (with_reducible refine (few_law v ss _ HV.out).mono ?_); rintro e w1 ⟨he, rfl⟩; obtain rfl : e = .returned (.bool true) := (by rw [he, ← HF.out])) | (go_at_call 9; (with_reducible refine (awake_any _ (HK.out.old HZ.out)).mono ?_); rintro e w2 ⟨rfl, hb2⟩; have HZ := Lib.hid (HZ.out.next hb2); clear hb2) | (go_at_call 10; (with_reducible refine (hsumStr_any v ss _ (HV.out.old HZ.out) HN.out (HK.out.old HZ.out) (by have := HL.out; omega)).mono ?_); rintro e w3 ⟨he, hb3⟩; obtain rfl : e = .returned (.string E) := (by rw [he, HE.out]); have HZ := Lib.hid (HZ.out.next hb3); clear hb3) | (go_at_call 11; (with_reducible refine (refsum_any v ss _ (HV.out.old HZ.out) HN.out (by have := HL.out; omega)).mono ?_); rintro e w4 ⟨he, hb4⟩; obtain rfl : e = .returned (.string E) := (by rw [he, HE.out]); have HZ := Lib.hid (HZ.out.next hb4); clear hb4) | (go_at_call 12; (with_reducible refine (short_any v ss _ (HV.out.old HZ.out) HN.out (HK.out.old HZ.out) (by have := HL.out; omega)).mono ?_); rintro e w5 ⟨he, hb5⟩; obtain rfl : e = .returned (.string T) := (by rw [he, HT.out]); have HZ := Lib.hid (HZ.out.next hb5); clear hb5) | (go_at_call 13; (with_reducible refine (refshort_any v ss _ (HV.out.old HZ.out) HN.out (by have := HL.out; omega)).mono ?_); rintro e w6 ⟨he, hb6⟩; obtain rfl : e = .returned (.string T) := (by rw [he, HT.out]); have HZ := Lib.hid (HZ.out.next hb6); clear hb6))
    go_ret
    exact ⟨rfl, HZ.out⟩
end Go.Proofs.YtoickijglahipaaDoor
