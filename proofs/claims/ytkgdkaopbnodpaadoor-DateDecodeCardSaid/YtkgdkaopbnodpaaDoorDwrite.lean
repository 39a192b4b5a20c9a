/-
  The contract of date.write: six numbers are written in a layout.
-/
import Derived.Test.YtkgdkaopbnodpaaDoorDread
namespace Go.Proofs.YtkgdkaopbnodpaaDoor
open Go.RowKit

theorem wrt_le (L : List UInt8) (F : List Nat) (j : Nat) : (wrt L F).2.getD j 0 ≤ F.getD j 0 := by
  induction L with
  | nil => exact Nat.le_refl _
  | cons c r ih =>
    cases h : slot c.toNat with
    | none => rw [wrt_none h]; exact ih
    | some i =>
      rw [wrt_some h]
      simp only
      by_cases e : i = j
      · subst e
        by_cases hl : i < (wrt r F).2.length
        · rw [getD_set_same hl]; omega
        · rw [List.set_eq_of_length_le (by omega)]; exact ih
      · rw [getD_set_other e]; exact ih
/-- What stands in the row behind the last k steps. -/
def rowAt (L : List UInt8) (F : List Nat) (k : Nat) : List UInt8 := L.take k ++ (wrt (L.drop k) F).1
theorem rowAt_end (L : List UInt8) (F : List Nat) : rowAt L F L.length = L := by
  unfold rowAt
  rw [List.take_length, List.drop_length]
  simp [wrt]
theorem rowAt_zero (L : List UInt8) (F : List Nat) : rowAt L F 0 = (wrt L F).1 := rfl
theorem rowAt_len (L : List UInt8) (F : List Nat) (k : Nat) : (rowAt L F k).length = L.length := by
  unfold rowAt
  rw [List.length_append, (wrt_len _ _).1, List.length_take, List.length_drop]
  omega
theorem take_next (L : List UInt8) (k : Nat) (h : k < L.length) : L.take (k + 1) = L.take k ++ [L.getD k 0] := by
  rw [List.take_add_one, List.getD_eq_getElem?_getD, List.getElem?_eq_getElem h]
  rfl
theorem rowAt_none {L : List UInt8} {F : List Nat} {k : Nat} (h : k < L.length) (hs : slot (L.getD k 0).toNat = none) : rowAt L F k = rowAt L F (k + 1) := by
  unfold rowAt
  rw [byte_list L k h, wrt_none hs, take_next L k h, List.append_assoc]
  rfl
theorem rowAt_some {L : List UInt8} {F : List Nat} {k j : Nat} (h : k < L.length) (hs : slot (L.getD k 0).toNat = some j) : rowAt L F k = (rowAt L F (k + 1)).set k (dig ((wrt (L.drop (k + 1)) F).2.getD j 0)) := by
  unfold rowAt
  rw [byte_list L k h, wrt_some hs, take_next L k h, List.append_assoc, List.set_append_right _ _ (by rw [List.length_take]; omega)]
  have e : k - (L.take k).length = 0 := by rw [List.length_take]; omega
  rw [e]
  rfl
theorem wrt2_none {L : List UInt8} {F : List Nat} {k : Nat} (h : k < L.length) (hs : slot (L.getD k 0).toNat = none) : (wrt (L.drop k) F).2 = (wrt (L.drop (k + 1)) F).2 := by
  rw [byte_list L k h, wrt_none hs]
theorem wrt2_some {L : List UInt8} {F : List Nat} {k j : Nat} (h : k < L.length) (hs : slot (L.getD k 0).toNat = some j) : (wrt (L.drop k) F).2 = (wrt (L.drop (k + 1)) F).2.set j ((wrt (L.drop (k + 1)) F).2.getD j 0 / 10) := by
  rw [byte_list L k h, wrt_some hs]
theorem BL.text {w : World} {g : Nat} {l : List UInt8} (h : BL w g l) (n cap : Nat) (hn : n = l.length) : (convert 43 9 (.slice (some ⟨g, 0, none⟩) n cap)).run Tryd.prog w = .ok (.string (strOf l)) w := by
  subst hn
  refine run_convert_bytes_back w _ _ _ ⟨g, 0, none⟩ cap l Tryd.underlying43 Tryd.underlying5 Tryd.underlying9 (fun j hj => ?_)
  have hadd : (⟨g, 0, none⟩ : Addr).add j = ⟨g, j, none⟩ := by unfold Addr.add; split <;> simp_all
  rw [hadd, (h.2 j hj).1, List.getD_eq_getElem?_getD, List.getElem?_eq_getElem hj]
  rfl

theorem conv_made (L : List UInt8) (wb : World) : ∃ cap W, (convert 9 43 (.string (strOf L))).run Tryd.prog wb = .ok (.slice (some ⟨wb.heap.size, 0, none⟩) L.length cap) W ∧ BL W wb.heap.size L ∧ Below wb.heap.size wb W := by
  refine ⟨_, _, run_bytes_of_string wb 9 43 5 (strOf L) Tryd.underlying9 Tryd.underlying43 Tryd.underlying5, ?_, ?_⟩
  · exact BL.new wb.drew (strOf L) _ _
  · exact (Below.refl _ wb).drew.alloc (Nat.le_refl _) _
theorem FL.kept {w w' : World} {g : Nat} {F : List Nat} (h : FL w g F) {B : Nat} (hb : Below B w w') (hB : g < B) : FL w' g F :=
  ⟨Nat.lt_of_lt_of_le h.1 hb.size, h.2.1, fun j hj => ⟨(hb.cell (p := ⟨g, j, none⟩) hB).trans (h.2.2 j hj).1, (hb.frozen (p := ⟨g, j, none⟩) hB).trans (h.2.2 j hj).2⟩⟩

set_option maxRecDepth 100000 in
set_option maxHeartbeats 4000000 in
theorem write_any (L : List UInt8) (x : Dt) (w : World) (hL : L.length ≤ 40) (hx : ∀ j, (flds x).getD j 0 ≤ 99999) :
    Calls Tryd.prog 35 #[.string (strOf L), dtV x] w fun E w' => E = .returned (.string (strOf (wrt L (flds x)).1)) ∧ Below w.heap.size w w' := by
  have hz : (strOf L).size = L.length := rfl
  obtain ⟨cap, W, hcv, hbl, hbe⟩ := conv_made L (w.alloc (.cells (dtc x.y x.m x.d x.h x.n x.s) 27))
  rw [show (w.alloc (.cells (dtc x.y x.m x.d x.h x.n x.s) 27)).heap.size = w.heap.size + 1 by simp] at hcv hbl hbe
  have HF0 := Lib.hid ((FL.new w x 27).kept hbe (by omega))
  have HBL0 := Lib.hid hbl
  have HB0 := Lib.hid ((belowNew w (.cells (dtc x.y x.m x.d x.h x.n x.s) 27)).trans (hbe.mono (by omega)))
  have HX := Lib.hid (show ∀ k j, (wrt (L.drop k) (flds x)).2.getD j 0 ≤ 99999 from fun k j => Nat.le_trans (wrt_le _ _ _) (hx j))
  clear hx hbl hbe
  go_enter Tryd.func35, Tryd.ntmps35
  go_wp2_with fail
  clear hcv
  go_loopw [6] (fun i wr => ∃ k : Nat, k ≤ L.length ∧ i = .int .i64 ((k : Int) - 1) ∧ BL wr (w.heap.size + 1) (rowAt L (flds x) k) ∧ FL wr w.heap.size (wrt (L.drop k) (flds x)).2 ∧ Below w.heap.size w wr) (fun i _ => (intOf i + 1).toNat)
  case atStart => exact ⟨L.length, Nat.le_refl _, rfl, by rw [rowAt_end]; exact HBL0.out, by rw [List.drop_length]; exact HF0.out, HB0.out⟩
  case round =>
    obtain ⟨k, hk, rfl, hbl, hf, hb⟩ := hrel
    have HBL := Lib.hid hbl
    have HF := Lib.hid hf
    have HB := Lib.hid hb
    have hcv := hbl.text L.length cap (rowAt_len _ _ _).symm
    clear hbl hf hb
    cases k with
    | zero =>
      rw [rowAt_zero] at hcv
      rw [show (((0 : Nat) : Int) - 1) = -1 from rfl]
      have d1 : decide ((0 : Int) ≤ -1) = false := by decide
      go_wp2_with fail
      go_ret
      exact ⟨rfl, HB.out⟩
    | succ k =>
      clear hcv
      rw [show (((k + 1 : Nat) : Int) - 1) = (k : Int) by omega]
      have hlt : k < L.length := by omega
      have d1 : decide ((0 : Int) ≤ (k : Int)) = true := decide_eq_true (by omega)
      have hiL := fun w => run_index_u8 (P := Tryd.prog) Tryd.underlying9 (strOf L) k hlt (k : Int) rfl w
      rw [byte_at, strOf_list] at hiL
      have hlb : (L.getD k 0).toNat < 256 := (L.getD k 0).toNat_lt
      cases hs : slot (L.getD k 0).toNat with
      | none =>
        have HFO := Lib.hid (fun g w => field_no (g := g) hs w)
        have HR := Lib.hid (rowAt_none (F := flds x) hlt hs)
        have HW2 := Lib.hid (wrt2_none (F := flds x) hlt hs)
        generalize (L.getD k 0).toNat = l at hiL HFO hlb
        clear hs
        go_wp2_with (go_at_call 42; (with_reducible refine (HFO.out w.heap.size _).mono ?_); rintro E w1 ⟨rfl, rfl⟩)
        go_roundw
        case rel => exact ⟨k, by omega, by go_num, by rw [HR.out]; exact HBL.out, by rw [HW2.out]; exact HF.out, HB.out⟩
        case measure => simp [intOf]
      | some j =>
        have hj := slot_lt hs
        have HFO := Lib.hid (fun g w => field_yes (g := g) hs w)
        have HR := Lib.hid (rowAt_some (F := flds x) hlt hs)
        have HW2 := Lib.hid (wrt2_some (F := flds x) hlt hs)
        have hcF := (HF.out.2.2 j hj).1
        have hfF := (HF.out.2.2 j hj).2
        have hlr : k < (rowAt L (flds x) (k + 1)).length := by rw [rowAt_len]; exact hlt
        have hcB := (HBL.out.2 k hlr).1
        have hfB := (HBL.out.2 k hlr).2
        generalize (L.getD k 0).toNat = l at hiL HFO hlb
        have hv := HX.out (k + 1) j
        have HPB := Lib.hid (HBL.out.put hlr (dig ((wrt (L.drop (k + 1)) (flds x)).2.getD j 0)))
        rw [dig_nat] at HPB
        have HPF := Lib.hid ((HF.out.other (k := w.heap.size + 1) (by omega) k (.int .u8 ((48 + (wrt (L.drop (k + 1)) (flds x)).2.getD j 0 % 10 : Nat) : Int))).put hj ((wrt (L.drop (k + 1)) (flds x)).2.getD j 0 / 10))
        generalize (wrt (L.drop (k + 1)) (flds x)).2.getD j 0 = v at hcF hv HR HW2 HPB HPF
        obtain ⟨r, hr⟩ : ∃ r, r = v % 10 := ⟨_, rfl⟩
        obtain ⟨q, hq⟩ : ∃ q, q = v / 10 := ⟨_, rfl⟩
        have hri : (v : Int) % 10 = (r : Int) := by omega
        have hqi : (v : Int) / 10 = (q : Int) := by omega
        have hr9 : r ≤ 9 := by omega
        rw [← hr, ← hq] at HPF
        rw [← hr] at HPB
        rw [← hq] at HW2
        generalize ((rowAt L (flds x) (k + 1)).getD k 0).toNat = ob at hcB
        clear hs hr hq hlr
        go_wp2_with (go_at_call 42; (with_reducible refine (HFO.out w.heap.size _).mono ?_); rintro E w1 ⟨rfl, rfl⟩)
        go_roundw
        case rel =>
          refine ⟨k, by omega, rfl, ?_, ?_, (HB.out.setCell (by simp) _).setCell (by simp) _⟩
          · rw [HR.out]
            have h := HPB.out
            rw [show ((48 + r : Nat) : Int) = 48 + (r : Int) by omega] at h
            exact h.other (by omega) _ _
          · rw [HW2.out]
            have h := HPF.out
            rw [show ((48 + r : Nat) : Int) = 48 + (r : Int) by omega] at h
            exact h
        case measure => simp [intOf]
end Go.Proofs.YtkgdkaopbnodpaaDoor
