/-
  The contract of Few of certpathmade: whether a list of strings is small enough for a law.
-/
import Derived.Test.YtgpockpfefjjkaaTtotal
namespace Go.Proofs.Ytgpockpfefjjkaa
open Go.RowKit

def fewB (ss : List ByteArray) (n m : Nat) : Bool := decide (ss.length ≤ n) && ss.all fun s => decide (s.size ≤ m)

set_option maxHeartbeats 1000000 in
theorem few_core (a0 : Option Addr) (cap : Nat) (ss : List ByteArray) (n m : Nat) (w : World) (hv : ss = [] ∨ ∃ b o, a0 = some ⟨b, o, none⟩ ∧ ∀ i, i < ss.length → w.cell? ⟨b, o + i, none⟩ = some (.string (ss.getD i ByteArray.empty)))
    (hn : n < 4611686018427387904) :
    Calls Try.prog 18 #[.slice a0 ss.length cap, .int .i64 n, .int .i64 m] w fun e w' => e = .returned (.bool (fewB ss n m)) ∧ w = w' := by
  obtain ⟨B, hB⟩ : ∃ B, B = fewB ss n m := ⟨_, rfl⟩
  obtain ⟨L, hL⟩ : ∃ L, L = ss.length := ⟨_, rfl⟩
  rw [← hB, ← hL]
  have HB := Lib.hid hB
  have HL := Lib.hid hL
  have HV := Lib.hid hv
  clear hB hL hv
  by_cases hfar : n < L
  · have hd : decide ((n : Int) < (L : Int)) = true := by simp; omega
    have hb : B = false := by rw [HB.out, fewB, ← HL.out]; simp; omega
    subst hb
    go_enter Try.func18, Try.ntmps18
    go_wp2
    go_ret
    exact ⟨rfl, rfl⟩
  · have hd : decide ((n : Int) < (L : Int)) = false := by simp; omega
    go_enter Try.func18, Try.ntmps18
    go_wp2
    go_loop [15] (fun i => ∃ k : Nat, k ≤ L ∧ i = .int .i64 k ∧ ∀ j, j < k → (ss.getD j ByteArray.empty).size ≤ m) (fun i => L - (intOf i).toNat)
    case atStart => exact ⟨0, Nat.zero_le _, rfl, fun j hj => by omega⟩
    case round =>
      obtain ⟨k, hk, rfl, hall⟩ := hrel
      have HA := Lib.hid hall
      clear hall
      by_cases hlt : k < L
      · have hd2 : decide ((k : Int) < (L : Int)) = true := by simp; omega
        obtain ⟨b, o, ha, hc⟩ : ∃ b o, a0 = some ⟨b, o, none⟩ ∧ w.cell? ⟨b, o + k, none⟩ = some (.string (ss.getD k ByteArray.empty)) := by
          rcases HV.out with h | ⟨b, o, h1, h2⟩
          · have := HL.out; rw [h] at this; simp at this; omega
          · exact ⟨b, o, h1, h2 k (by rw [← HL.out]; exact hlt)⟩
        obtain ⟨x, hx⟩ : ∃ x, x = ss.getD k ByteArray.empty := ⟨_, rfl⟩
        rw [← hx] at hc
        have HX := Lib.hid hx
        clear hx
        subst ha
        by_cases hs : x.size ≤ m
        · have hd3 : decide ((m : Int) < (x.size : Int)) = false := by simp; omega
          go_wp2
          go_round
          case rel => exact ⟨k + 1, by omega, by go_num, fun j hj => by
            by_cases e : j = k
            · subst e; rw [← HX.out]; exact hs
            · exact HA.out j (by omega)⟩
          case measure => simp [intOf]; omega
        · have hd3 : decide ((m : Int) < (x.size : Int)) = true := by simp; omega
          have hb : B = false := by
            rw [HB.out, fewB]
            simp only [Bool.and_eq_false_iff]
            right
            rw [List.all_eq_false]
            refine ⟨x, ?_, by simpa using hs⟩
            rw [HX.out]
            have : k < ss.length := by rw [← HL.out]; exact hlt
            simp [this]
          subst hb
          go_wp2
          go_ret
          exact ⟨rfl, rfl⟩
      · have ek : k = L := by omega
        subst ek
        have hd2 : decide ((k : Int) < (k : Int)) = false := by simp
        have hb : B = true := by
          rw [HB.out, fewB, ← HL.out]
          simp only [Bool.and_eq_true, decide_eq_true_eq]
          refine ⟨by omega, List.all_eq_true.2 fun x hx => ?_⟩
          obtain ⟨j, hj, rfl⟩ := List.getElem_of_mem hx
          have := HA.out j (by rw [HL.out]; exact hj)
          simpa [hj] using this
        subst hb
        go_wp2
        go_ret
        exact ⟨rfl, rfl⟩
theorem few_any (v : Value) (ss : List ByteArray) (n m : Nat) (w : World) (hv : Reads w v ss) (hn : n < 4611686018427387904) :
    Calls Try.prog 18 #[v, .int .i64 n, .int .i64 m] w fun e w' => e = .returned (.bool (fewB ss n m)) ∧ w = w' := by
  obtain ⟨a, cap, rfl, h⟩ := hv
  exact few_core a cap ss n m w h hn

theorem few_law (v : Value) (ss : List ByteArray) (w : World) (hv : Reads w v ss) :
    Calls Try.prog 18 #[v, .int .i64 20, .int .i64 400] w fun e w' => e = .returned (.bool (fewB ss 20 400)) ∧ w = w' := few_any v ss 20 400 w hv (by omega)

theorem few_cat {n m : Nat} : ∀ {ss : List ByteArray}, fewB ss n m = true → ss.length ≤ n ∧ (cat ss).length ≤ ss.length * m := by
  intro ss h
  simp only [fewB, Bool.and_eq_true, decide_eq_true_eq, List.all_eq_true] at h
  refine ⟨h.1, ?_⟩
  have h2 := h.2
  clear h
  induction ss with
  | nil => simp [cat]
  | cons a t ih =>
    have := ih fun x hx => h2 x (List.mem_cons_of_mem _ hx)
    have h1 : a.data.toList.length ≤ m := h2 a List.mem_cons_self
    have : cat (a :: t) = a.data.toList ++ cat t := by simp [cat]
    rw [this, List.length_append, List.length_cons, Nat.add_mul]; omega
end Go.Proofs.Ytgpockpfefjjkaa
