/-
  The walk of the law PrimPutInteger: for every number and every byte it returns true, and leaves all that was there as it was.
-/
import Derived.Test.YtkamoenjbllhjaaPback
import Derived.Test.YtkamoenjbllhjaaPrput
import Derived.Test.YtkamoenjbllhjaaPboollaw
namespace Go.Proofs.Ytkamoenjbllhjaa
open Go.RowKit

theorem wrap_range (n : Int) : -9223372036854775808 ≤ wrap64 n ∧ wrap64 n < 9223372036854775808 := by
  unfold wrap64
  omega
theorem div_range (v : Int) (a : Nat) (h0 : -9223372036854775808 ≤ v) (h1 : v < 9223372036854775808) : -9223372036854775808 ≤ v / 2 ^ a ∧ v / 2 ^ a < 9223372036854775808 := by
  have hp : (0 : Int) < 2 ^ a := Int.pow_pos (by decide)
  generalize (2 : Int) ^ a = p at *
  constructor
  · refine (Int.le_ediv_iff_mul_le hp).2 ?_
    omega
  · refine Int.ediv_lt_of_lt_mul hp ?_
    omega
theorem list_range (v : Int) (a b : Nat) (h0 : -9223372036854775808 ≤ v) (h1 : v < 9223372036854775808) (x : Int) (hx : x ∈ [v, v / 2 ^ a, wrap64 (wrap64 (2 ^ b) - 1), wrap64 (-2 ^ a)]) : -9223372036854775808 ≤ x ∧ x < 9223372036854775808 := by
  simp only [List.mem_cons, List.not_mem_nil, or_false] at hx
  rcases hx with rfl | rfl | rfl | rfl
  · exact ⟨h0, h1⟩
  · exact div_range v a h0 h1
  · exact wrap_range _
  · exact wrap_range _
theorem getD_mem (l : List Int) (k : Nat) (h : k < l.length) : l.getD k 0 ∈ l := by
  rw [List.getD_eq_getElem?_getD, List.getElem?_eq_getElem h]
  exact List.getElem_mem h
theorem row_ints (W : World) (l : List Int) (k : Nat) (hk : k < l.length) : (W.alloc (.cells (l.map (Value.int .i64)).toArray 3)).cell? ⟨W.heap.size, k, none⟩ = some (.int .i64 (l.getD k 0)) := by
  rw [cell_of_row _ _ k _ _ _ (heap_alloc_new W _)]
  simp [hk]

set_option maxRecDepth 100000 in
set_option maxHeartbeats 4000000 in
theorem putlaw_core (v : Int) (l a b : Nat) (w : World) (hl : l < 256) (ha : a = l % 64) (hb : b = l % 63) (h0 : -9223372036854775808 ≤ v) (h1 : v < 9223372036854775808) :
    Calls Try.prog 5 #[.int .i64 v, .int .u8 (l : Int)] w fun e w' => e = .returned (.bool true) ∧ Below w.heap.size w w' := by
  have e1 : (l : Int) % 64 = (a : Int) := by omega
  have e2 : (l : Int) % 63 = (b : Int) := by omega
  have ha6 : a < 64 := by omega
  have hb6 : b < 63 := by omega
  obtain ⟨L, hL⟩ : ∃ L : List Int, L = [v, v / 2 ^ a, wrap64 (wrap64 (2 ^ b) - 1), wrap64 (-2 ^ a)] := ⟨_, rfl⟩
  have hcell : ∀ k, k < 4 → (w.alloc (.cells #[.int .i64 v, .int .i64 (v / 2 ^ a), .int .i64 (wrap64 (wrap64 (2 ^ b) - 1)), .int .i64 (wrap64 (-2 ^ a))] 3)).cell? ⟨w.heap.size, k, none⟩ = some (.int .i64 (L.getD k 0)) ∧ -9223372036854775808 ≤ L.getD k 0 ∧ L.getD k 0 < 9223372036854775808 := by
    intro k hk
    refine ⟨by rw [hL]; exact row_ints w [v, v / 2 ^ a, wrap64 (wrap64 (2 ^ b) - 1), wrap64 (-2 ^ a)] k hk, ?_⟩
    exact list_range v a b h0 h1 _ (by rw [← hL]; exact getD_mem L k (by rw [hL]; exact hk))
  have HCL := Lib.hid hcell
  have HBA := Lib.hid (belowNew w (.cells #[.int .i64 v, .int .i64 (v / 2 ^ a), .int .i64 (wrap64 (wrap64 (2 ^ b) - 1)), .int .i64 (wrap64 (-2 ^ a))] 3))
  clear ha hb hL hcell
  go_enter Try.func5, Try.ntmps5
  go_wp2_with fail
  clear e1 e2
  go_loopw [24] (fun i wr => ∃ k : Nat, k ≤ 4 ∧ i = .int .i64 k ∧ Below w.heap.size w wr ∧ Below (w.heap.size + 1) (w.alloc (.cells #[.int .i64 v, .int .i64 (v / 2 ^ a), .int .i64 (wrap64 (wrap64 (2 ^ b) - 1)), .int .i64 (wrap64 (-2 ^ a))] 3)) wr) (fun i _ => 4 - (intOf i).toNat)
  case atStart => exact ⟨0, by omega, rfl, HBA.out, Below.refl _ _⟩
  case round =>
    obtain ⟨k, hk, rfl, hb, hb2⟩ := hrel
    have HB := Lib.hid hb
    have HBO := Lib.hid hb2
    by_cases hlt : k < 4
    · have hd4 : decide ((k : Int) < 4) = true := by simp; omega
      obtain ⟨hcx, hx0, hx1⟩ := HCL.out k hlt
      rw [← hb2.cell (p := ⟨w.heap.size, k, none⟩) (Nat.lt_succ_self _)] at hcx
      clear hb hb2
      generalize L.getD k 0 = x at hcx hx0 hx1
      have HP := Lib.hid (fun w => put_any x w hx0 hx1)
      have HR := Lib.hid (fun w => rput_any x w hx0 hx1)
      have HI := Lib.hid (fun w => int_any (putInt x) w)
      rw [int_put x hx0 hx1] at HI
      generalize putInt x = P at HP HR HI
      clear hx0 hx1
      go_wp2_with (first | (go_at_call 16; (with_reducible refine (HP.out _).mono ?_); rintro e w2 ⟨rfl, hb2⟩; have HB2 := Lib.hid hb2; clear hb2) | (go_at_call 14; (with_reducible refine (HI.out _).mono ?_); rintro e w3 ⟨rfl, rfl⟩) | (go_at_call 17; (with_reducible refine (HR.out _).mono ?_); rintro e w4 ⟨rfl, hb4⟩; have HB4 := Lib.hid (below_next HB2.out hb4); clear hb4))
      go_roundw
      case rel => exact ⟨k + 1, by omega, by go_num, below_next HB.out HB4.out, HBO.out.trans (HB4.out.mono (by have := HBO.out.size; simp at this; omega))⟩
      case measure => simp [intOf]; omega
    · have ek : k = 4 := by omega
      subst ek
      clear hb hb2
      go_wp2_with (go_at_call 9; (with_reducible refine (awake_any _).mono ?_); rintro e w4 ⟨rfl, hb4⟩; have HB4 := Lib.hid hb4; clear hb4)
      go_ret
      exact ⟨rfl, below_next HB.out HB4.out⟩
theorem putlaw (v : Int) (l : Nat) (w : World) (hl : l < 256) (h0 : -9223372036854775808 ≤ v) (h1 : v < 9223372036854775808) :
    Calls Try.prog 5 #[.int .i64 v, .int .u8 (l : Int)] w fun e w' => e = .returned (.bool true) ∧ Below w.heap.size w w' :=
  putlaw_core v l _ _ w hl rfl rfl h0 h1
end Go.Proofs.Ytkamoenjbllhjaa
