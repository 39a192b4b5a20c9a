/-
  The contract of the law's function same: all readers of tlv answer as those of the reference, at every string that memory can hold.
-/
import Derived.Test.YtgpockpfefjjkaaTsame0
import Derived.Deep.DeepCutAuto
namespace Go.Proofs.Ytgpockpfefjjkaa
open Go.RowKit

theorem lst_length (b : ByteArray) : ∀ n, b.size ≤ n → (lst b).1.length ≤ n := by
  intro n
  induction n generalizing b with
  | zero => intro h; rw [lst_nil (by omega)]; exact Nat.le_refl 0
  | succ n ih =>
    intro h
    by_cases h0 : b.size = 0
    · rw [lst_nil h0]; exact Nat.zero_le _
    · by_cases hx : rdErr b = 0
      · rw [lst_step h0 hx]
        have h1 := rdRest_size hx
        have h2 := ih (rdRest b) (by omega)
        by_cases h3 : (lst (rdRest b)).2 = 0
        · rw [if_pos h3]; simp; exact h2
        · rw [if_neg h3]; exact Nat.zero_le _
      · rw [lst_bad h0 hx]; exact Nat.zero_le _
theorem rdVal_form (b : ByteArray) : ∃ (t : Nat) (c r u : ByteArray) (x : Nat), rdVal b = .tuple #[.agg #[.int .i64 ((t : Nat) : Int), .string c, .string r], .string u, .int .i64 ((x : Nat) : Int)] := by
  by_cases h : rdErr b = 0
  · exact ⟨_, _, _, _, 0, rdVal_good h⟩
  · exact ⟨0, _, _, _, _, rdVal_bad h⟩
theorem oneVal_form (b : ByteArray) : ∃ (t : Nat) (c r : ByteArray) (x : Nat), oneVal b = .tuple #[.agg #[.int .i64 ((t : Nat) : Int), .string c, .string r], .int .i64 ((x : Nat) : Int)] := by
  by_cases h : oneErr b = 0
  · exact ⟨_, _, _, 0, oneVal_good h⟩
  · exact ⟨0, _, _, _, oneVal_bad h⟩
theorem OwnE.below {w w' : World} {B : Nat} {v : Value} {l : List El} (h : OwnE w B v l) (hb : Below w.heap.size w w') : OwnE w' B v l := own_below h hb
theorem below_next {w0 w w' : World} (h : Below w0.heap.size w0 w) (hb : Below w.heap.size w w') : Below w0.heap.size w0 w' := h.trans (hb.mono h.size)
theorem below_new {w0 w : World} (h : Below w0.heap.size w0 w) (o : Obj) : Below w0.heap.size w0 (w.alloc o) := h.alloc h.size o
theorem el_other {w : World} {g k : Nat} {a b c : Value} {o : Option Obj} (h : w.heap[k]? = o) (hne : g ≠ k) : (((w.setCell ⟨g, 0, none⟩ a).setCell ⟨g, 1, none⟩ b).setCell ⟨g, 2, none⟩ c).heap[k]? = o := by
  simp [World.setCell, Array.getElem?_modify, h, hne]

set_option maxRecDepth 100000 in
set_option maxHeartbeats 4000000 in
theorem same_law (b : ByteArray) (w : World) (hs : b.size ≤ 1099511627776) :
    Calls Try.prog 12 #[.string b] w fun e w' => e = .returned (.bool true) ∧ Below w.heap.size w w' := by
  have HS := Lib.hid hs
  obtain ⟨t, c, r, u, x, hV⟩ := rdVal_form b
  obtain ⟨t2, c2, r2, x2, hV2⟩ := oneVal_form b
  have HV := Lib.hid hV
  have HV2 := Lib.hid hV2
  have HL := Lib.hid (Nat.le_trans (lst_length b b.size (Nat.le_refl _)) hs)
  clear hs hV hV2
  go_enter Try.func12, Try.ntmps12
  go_wp2_with (first | (go_at_call 21; (with_reducible refine (read_any b _ HS.out).mono ?_); rw [HV.out]; rintro e w1 ⟨rfl, hb1⟩; have HB1 := Lib.hid hb1; clear hb1) | (go_at_call 27; (with_reducible refine (rread_any b _ HS.out).mono ?_); rw [HV.out]; rintro e w2 ⟨rfl, hb2⟩; have hp := (hb2.block w1.heap.size (by simp)).trans (elNew w1 _); obtain ⟨p0, p1, p2, pf0, pf1, pf2, plt⟩ := el_facts hp; have HP := Lib.hid hp; have HB2 := Lib.hid hb2; clear hp hb2) | (go_at_call 20; (with_reducible refine (one_any b _ HS.out).mono ?_); rw [HV2.out]; rintro e w3 ⟨rfl, hb3⟩; have hp := (hb3.block w1.heap.size (by simp; omega)).trans (heap_keep HP.out _); have hq := (hb3.block w2.heap.size (by simp)).trans (elNew w2 _); obtain ⟨p0, p1, p2, pf0, pf1, pf2, plt3⟩ := el_facts hp; obtain ⟨q0, q1, q2, qf0, qf1, qf2, qlt3⟩ := el_facts hq; have HP3 := Lib.hid hp; have HQ3 := Lib.hid hq; have HB3 := Lib.hid hb3; clear hp hq hb3) | (go_at_call 28; (with_reducible refine (rone_any b _ HS.out).mono ?_); rw [HV2.out]; rintro e w4 ⟨rfl, hb4⟩; have hp := (hb4.block w1.heap.size (by simp; omega)).trans (el_set HP3.out); have hq := (hb4.block w2.heap.size (by simp; omega)).trans (el_other HQ3.out (by omega)); obtain ⟨p0, p1, p2, pf0, pf1, pf2, plt4⟩ := el_facts hp; obtain ⟨q0, q1, q2, qf0, qf1, qf2, qlt4⟩ := el_facts hq; have hne : w1.heap.size ≠ w2.heap.size := (by omega); have HB4 := Lib.hid hb4; clear hp hq hb4) | (go_at_call 26; (with_reducible refine (list_any b _ HS.out).mono ?_); rintro e w5 ⟨v5, rfl, ho5, hb5⟩; have HO5 := Lib.hid ho5; have HB5 := Lib.hid hb5; clear ho5 hb5) | (go_at_call 29; (with_reducible refine (rlist_any b _ HS.out).mono ?_); rintro e w6 ⟨v6, rfl, ho6, hb6⟩; have HO6 := Lib.hid ho6; have HO56 := Lib.hid (OwnE.below HO5.out hb6); have HB6 := Lib.hid hb6; clear ho6 hb6) | (go_at_call 30; (with_reducible refine (same_any _ _ v5 v6 (lst b).1 _ HO56.out HO6.out HL.out).mono ?_); rintro e w7 ⟨rfl, hb7⟩; have HB7 := Lib.hid hb7; clear hb7) | (go_at_call 14; (with_reducible refine (check_any b _ HS.out).mono ?_); rintro e w8 ⟨rfl, hb8⟩; have HB8 := Lib.hid hb8; clear hb8) | (go_at_call 15; (with_reducible refine (rcheck_any b _ HS.out).mono ?_); rintro e w9 ⟨rfl, hb9⟩; have HB9 := Lib.hid hb9; clear hb9))
  go_ret
  refine ⟨rfl, ?_⟩
  have e1 := HB1.out.size
  have b3 := below_next (below_new (below_next (below_new HB1.out _) HB2.out) _) HB3.out
  have b4 := below_next (el_below b3 e1) HB4.out
  have b5 := below_next (el_below b4 (by omega)) HB5.out
  exact below_next (below_next (below_next (below_next b5 HB6.out) HB7.out) HB8.out) HB9.out
end Go.Proofs.Ytgpockpfefjjkaa
