/-
  The contract of tlv.totalLength: how long the strings of a slice are together, if not longer than an element may be.
-/
import Derived.Test.YtgpockpfefjjkaaTlen
namespace Go.Proofs.Ytgpockpfefjjkaa
open Go.RowKit

def cat (ss : List ByteArray) : List UInt8 := ss.flatMap fun s => s.data.toList
theorem cat_nil : cat [] = [] := rfl
theorem cat_append (a b : List ByteArray) : cat (a ++ b) = cat a ++ cat b := by simp [cat]
theorem cat_take_succ (ss : List ByteArray) (k : Nat) (h : k < ss.length) : cat (ss.take (k + 1)) = cat (ss.take k) ++ (ss.getD k ByteArray.empty).data.toList := by
  rw [List.take_succ_eq_append_getElem h, cat_append]
  simp [cat, h]
theorem cat_take_le (ss : List ByteArray) (k : Nat) : (cat (ss.take k)).length ≤ (cat ss).length := by
  have : cat ss = cat (ss.take k) ++ cat (ss.drop k) := by rw [← cat_append, List.take_append_drop]
  rw [this, List.length_append]; omega
theorem cat_take_size (ss : List ByteArray) (k : Nat) (h : k < ss.length) : (cat (ss.take (k + 1))).length = (cat (ss.take k)).length + (ss.getD k ByteArray.empty).size := by
  rw [cat_take_succ ss k h, List.length_append]; rfl

/-- At the address lie the strings ss. -/
def Lies (w : World) (a : Option Addr) (ss : List ByteArray) : Prop := ss = [] ∨ ∃ b o, a = some ⟨b, o, none⟩ ∧ ∀ i, i < ss.length → w.cell? ⟨b, o + i, none⟩ = some (.string (ss.getD i ByteArray.empty))
/-- The slice value v reads as the strings ss. -/
def Reads (w : World) (v : Value) (ss : List ByteArray) : Prop := ∃ a cap, v = .slice a ss.length cap ∧ Lies w a ss
theorem Lies.old {w w' : World} {a : Option Addr} {ss : List ByteArray} (h : Lies w a ss) (hb : Below w.heap.size w w') : Lies w' a ss := by
  rcases h with h | ⟨b, o, rfl, h⟩
  · exact Or.inl h
  · exact Or.inr ⟨b, o, rfl, fun i hi => (hb.cell (p := ⟨b, o + i, none⟩) (block_lt_of_cell (h i hi))).trans (h i hi)⟩
theorem Reads.old {w w' : World} {v : Value} {ss : List ByteArray} (h : Reads w v ss) (hb : Below w.heap.size w w') : Reads w' v ss := by
  obtain ⟨a, cap, rfl, h⟩ := h
  exact ⟨a, cap, rfl, h.old hb⟩
theorem Lies.at {w : World} {a : Option Addr} {ss : List ByteArray} (h : Lies w a ss) (k : Nat) (hk : k < ss.length) : ∃ b o, a = some ⟨b, o, none⟩ ∧ w.cell? ⟨b, o + k, none⟩ = some (.string (ss.getD k ByteArray.empty)) := by
  rcases h with h | ⟨b, o, h1, h2⟩
  · rw [h] at hk; exact absurd hk (Nat.not_lt_zero _)
  · exact ⟨b, o, h1, h2 k hk⟩

set_option maxRecDepth 100000 in
set_option maxHeartbeats 1000000 in
theorem total_core (a0 : Option Addr) (cap : Nat) (ss : List ByteArray) (w : World) (hv : Lies w a0 ss) (hn : ss.length < 4611686018427387904) :
    Calls Try.prog 32 #[.slice a0 ss.length cap] w fun e w' => e = .returned (.tuple #[.int .i64 ((if (cat ss).length ≤ 131072 then (cat ss).length else 0 : Nat) : Int), .bool (decide ((cat ss).length ≤ 131072))]) ∧ w' = w := by
  obtain ⟨n, hln⟩ : ∃ n, n = ss.length := ⟨_, rfl⟩
  obtain ⟨R, hR⟩ : ∃ R, R = Value.tuple #[.int .i64 ((if (cat ss).length ≤ 131072 then (cat ss).length else 0 : Nat) : Int), .bool (decide ((cat ss).length ≤ 131072))] := ⟨_, rfl⟩
  rw [← hR]
  rw [← hln] at hn ⊢
  have HLN := Lib.hid hln
  have HV := Lib.hid hv
  have HR := Lib.hid hR
  clear hln hv hR
  go_enter Try.func32, Try.ntmps32
  go_wp2_with fail
  go_loopw [4, 9] (fun t i wr => ∃ k m : Nat, k ≤ n ∧ i = .int .i64 k ∧ t = .int .i64 m ∧ m = (cat (ss.take k)).length ∧ m ≤ 131072 ∧ wr = w) (fun _ i _ => n - (intOf i).toNat)
  case atStart => exact ⟨0, 0, Nat.zero_le _, rfl, rfl, rfl, Nat.zero_le _, rfl⟩
  case round =>
    obtain ⟨k, m, hk, rfl, rfl, hm, hm2, rfl⟩ := hrel
    have HM := Lib.hid hm
    clear hm
    by_cases hlt : k < n
    · have hd : decide ((k : Int) < (n : Int)) = true := by simp; omega
      obtain ⟨b, o, ha, hc⟩ := HV.out.at k (by rw [← HLN.out]; exact hlt)
      have hsz := cat_take_size ss k (by rw [← HLN.out]; exact hlt)
      have hle := cat_take_le ss (k + 1)
      generalize ss.getD k ByteArray.empty = x at hc hsz
      subst ha
      rw [hsz, ← HM.out] at hle
      have HSZ := Lib.hid hsz
      have HLE := Lib.hid hle
      clear hsz hle
      by_cases hbig : 131072 - m < x.size
      · have d1 : decide (131072 - (m : Int) < (x.size : Int)) = true := by simp; omega
        have HF := Lib.hid (show ¬ (cat ss).length ≤ 131072 by have := HLE.out; omega)
        clear hbig
        go_wp2_with fail
        go_ret2
        refine ⟨?_, rfl⟩
        rw [HR.out, if_neg HF.out, decide_eq_false HF.out]
        rfl
      · have d1 : decide (131072 - (m : Int) < (x.size : Int)) = false := by simp; omega
        have hxs : x.size ≤ 131072 := by omega
        have HB := Lib.hid hbig
        clear hbig
        go_wp2_with fail
        go_roundw
        case rel => exact ⟨k + 1, m + x.size, by omega, by go_num, by go_num, by rw [HSZ.out, ← HM.out], by have := HB.out; omega, trivial⟩
        case measure => simp [intOf]; omega
    · have ek : k = n := by omega
      subst ek
      have hd : decide ((k : Int) < (k : Int)) = false := by simp
      have et : ss.take k = ss := List.take_of_length_le (by rw [← HLN.out]; exact Nat.le_refl _)
      have HF := Lib.hid (show m = (cat ss).length by rw [HM.out, et])
      have HM2 := Lib.hid hm2
      clear et
      go_wp2_with fail
      go_ret2
      refine ⟨?_, rfl⟩
      have hh : (cat ss).length ≤ 131072 := by rw [← HF.out]; exact HM2.out
      rw [HR.out, if_pos hh, decide_eq_true hh, ← HF.out]
      rfl
end Go.Proofs.Ytgpockpfefjjkaa
