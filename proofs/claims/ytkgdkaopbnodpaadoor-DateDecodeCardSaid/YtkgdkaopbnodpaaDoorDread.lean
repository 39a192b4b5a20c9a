/-
  The contract of date.read: a text in a layout is read as the six numbers that are written so.
-/
import Derived.Test.YtkgdkaopbnodpaaDoorDfield
namespace Go.Proofs.YtkgdkaopbnodpaaDoor
open Go.RowKit

theorem field_no {g c : Nat} (h : slot c = none) (w : World) :
    Calls Tryd.prog 42 #[.pointer (some ⟨g, 0, none⟩), .int .u8 (c : Int)] w fun e w' => e = .returned (.pointer none) ∧ w' = w := by
  have := field_any g c w
  rwa [h] at this
theorem field_yes {g c j : Nat} (h : slot c = some j) (w : World) :
    Calls Tryd.prog 42 #[.pointer (some ⟨g, 0, none⟩), .int .u8 (c : Int)] w fun e w' => e = .returned (.pointer (some ⟨g, j, none⟩)) ∧ w' = w := by
  have := field_any g c w
  rwa [h] at this

/-- What read answers. -/
def Rd (L : List UInt8) (s : ByteArray) (E : Ending) : Prop :=
  (∃ x, wrt L (flds x) = (s.data.toList, zeros) ∧ E = .returned (.tuple #[dtV x, .bool true])) ∨ ((∀ x, wrt L (flds x) ≠ (s.data.toList, zeros)) ∧ E = .returned (.tuple #[dt0, .bool false]))
theorem rd_no {L : List UInt8} {s : ByteArray} (h : rdt L s.data.toList zeros = none) : Rd L s (.returned (.tuple #[dt0, .bool false])) :=
  .inr ⟨fun x e => by
    have h2 := wrt_rd L _ _ (flds x) rfl e
    rw [h] at h2
    exact absurd h2 (by simp), rfl⟩
/-- No field can grow beyond four digits. -/
def Small (L : List UInt8) (F : List Nat) : Prop := ∀ j, j < 6 → (F.getD j 0 + 1) * 10 ^ cnt j L ≤ 10000
theorem small_start {L : List UInt8} (h : ∀ j, j < 6 → cnt j L ≤ 4) : Small L zeros := by
  intro j hj
  have e : zeros.getD j 0 = 0 := by
    rcases (by omega : j = 0 ∨ j = 1 ∨ j = 2 ∨ j = 3 ∨ j = 4 ∨ j = 5) with rfl | rfl | rfl | rfl | rfl | rfl <;> rfl
  rw [e]
  have := Nat.pow_le_pow_right (n := 10) (by omega) (h j hj)
  omega
theorem small_skip {l : UInt8} {L : List UInt8} {F : List Nat} (h : Small (l :: L) F) (hn : slot l.toNat = none) : Small L F := by
  intro j hj
  have := h j hj
  rw [cnt, if_neg (by rw [hn]; simp), Nat.zero_add] at this
  exact this
theorem small_le {L : List UInt8} {F : List Nat} (h : Small L F) {j : Nat} (hj : j < 6) : F.getD j 0 ≤ 9999 := by
  have h1 := h j hj
  have h2 : 1 ≤ 10 ^ cnt j L := Nat.one_le_pow _ _ (by omega)
  have h3 := Nat.le_mul_of_pos_right (F.getD j 0 + 1) h2
  omega
theorem small_step {l : UInt8} {L : List UInt8} {F : List Nat} (h : Small (l :: L) F) (hF : F.length = 6) {i d : Nat} (hs : slot l.toNat = some i) (hd : d ≤ 9) : Small L (F.set i (10 * F.getD i 0 + d)) := by
  intro j hj
  have hi := slot_lt hs
  have h1 := h j hj
  by_cases e : i = j
  · subst e
    rw [getD_set_same (by omega)]
    rw [cnt, if_pos hs, Nat.add_comm 1, Nat.pow_succ] at h1
    refine Nat.le_trans (Nat.mul_le_mul_right _ (show 10 * F.getD i 0 + d + 1 ≤ (F.getD i 0 + 1) * 10 by omega)) ?_
    rw [Nat.mul_assoc, Nat.mul_comm 10]
    exact h1
  · rw [getD_set_other e]
    rw [cnt, if_neg (by rw [hs]; simp; exact e), Nat.zero_add] at h1
    exact h1
theorem byte_list (l : List UInt8) (k : Nat) (h : k < l.length) : l.drop k = l.getD k 0 :: l.drop (k + 1) := by
  rw [List.drop_eq_getElem_cons h, List.getD_eq_getElem?_getD, List.getElem?_eq_getElem h]
  rfl
theorem byte_at (b : ByteArray) (k : Nat) : u8at b k = (b.data.toList.getD k 0).toNat := rfl

theorem rd_step {l c : UInt8} {L S : List UInt8} {F : List Nat} {j : Nat} (hs : slot l.toNat = some j) (hc : 48 ≤ c.toNat ∧ c.toNat ≤ 57) : rdt (l :: L) (c :: S) F = rdt L S (F.set j (10 * F.getD j 0 + (c.toNat - 48))) := by rw [rdt_some hs, if_pos hc]
theorem rd_bad {l c : UInt8} {L S : List UInt8} {F : List Nat} {j : Nat} (hs : slot l.toNat = some j) (hc : ¬ (48 ≤ c.toNat ∧ c.toNat ≤ 57)) : rdt (l :: L) (c :: S) F = none := by rw [rdt_some hs, if_neg hc]
theorem rd_same {l : UInt8} {L S : List UInt8} {F : List Nat} (hs : slot l.toNat = none) : rdt (l :: L) (l :: S) F = rdt L S F := by rw [rdt_none hs, if_pos rfl]
theorem rd_other {l c : UInt8} {L S : List UInt8} {F : List Nat} (hs : slot l.toNat = none) (hc : c ≠ l) : rdt (l :: L) (c :: S) F = none := by rw [rdt_none hs, if_neg hc]
theorem heap_new2 (w : World) (a b : Array Value) (t : TypeId) : ((w.alloc (.cells a t)).alloc (.cells b t)).heap[w.heap.size]? = some (.cells a t (0, 0)) := by
  show ((w.heap.push _).push _)[w.heap.size]? = _
  rw [Array.getElem?_push, if_neg (by simp), Array.getElem?_push, if_pos rfl]
theorem fl_cells {w : World} {g : Nat} {x : Dt} (h : FL w g (flds x)) : w.cell? ⟨g, 0, none⟩ = some (.int .i64 (x.y : Int)) ∧ w.cell? ⟨g, 1, none⟩ = some (.int .i64 (x.m : Int)) ∧ w.cell? ⟨g, 2, none⟩ = some (.int .i64 (x.d : Int)) ∧ w.cell? ⟨g, 3, none⟩ = some (.int .i64 (x.h : Int)) ∧ w.cell? ⟨g, 4, none⟩ = some (.int .i64 (x.n : Int)) ∧ w.cell? ⟨g, 5, none⟩ = some (.int .i64 (x.s : Int)) :=
  ⟨(h.2.2 0 (by omega)).1, (h.2.2 1 (by omega)).1, (h.2.2 2 (by omega)).1, (h.2.2 3 (by omega)).1, (h.2.2 4 (by omega)).1, (h.2.2 5 (by omega)).1⟩

set_option maxRecDepth 100000 in
set_option maxHeartbeats 4000000 in
theorem read_any (L : List UInt8) (s : ByteArray) (w : World) (hL : L.length ≤ 40) (hc : ∀ j, j < 6 → cnt j L ≤ 4) :
    Calls Tryd.prog 38 #[.string (strOf L), .string s] w fun E w' => Rd L s E ∧ Below w.heap.size w w' := by
  have hz : (strOf L).size = L.length := rfl
  by_cases hn : s.size = L.length
  · have e1 : ((s.size : Int) != (L.length : Int)) = false := by rw [hn]; simp
    have HSM := Lib.hid (small_start hc)
    have HN := Lib.hid hn
    have HST := Lib.hid (show ∀ X : Option (List Nat), rdt L s.data.toList zeros = X → rdt (L.drop 0) (s.data.toList.drop 0) zeros = X from fun X h => h)
    clear hc hn
    go_enter Tryd.func38, Tryd.ntmps38
    go_wp2_with fail
    have HA0 := Lib.hid (heap_new2 w (dtc 0 0 0 0 0 0) (dtc 0 0 0 0 0 0) 27)
    have HF0 := Lib.hid (show FL ((w.alloc (.cells (dtc 0 0 0 0 0 0) 27)).alloc (.cells (dtc 0 0 0 0 0 0) 27)) (w.heap.size + 1) zeros by
      have h := FL.new (w.alloc (.cells (dtc 0 0 0 0 0 0) 27)) ⟨0, 0, 0, 0, 0, 0⟩ 27
      rw [show (w.alloc (.cells (dtc 0 0 0 0 0 0) 27)).heap.size = w.heap.size + 1 by simp] at h
      exact h)
    have HB0 := Lib.hid (show Below w.heap.size w ((w.alloc (.cells (dtc 0 0 0 0 0 0) 27)).alloc (.cells (dtc 0 0 0 0 0 0) 27)) from below_next (belowNew w _) (belowNew _ _))
    generalize (w.alloc (.cells (dtc 0 0 0 0 0 0) 27)).alloc (.cells (dtc 0 0 0 0 0 0) 27) = W at HA0 HF0 HB0 ⊢
    go_loopw [17] (fun i wr => ∃ (k : Nat) (F : List Nat), k ≤ L.length ∧ i = .int .i64 (k : Int) ∧ rdt L s.data.toList zeros = rdt (L.drop k) (s.data.toList.drop k) F ∧ Small (L.drop k) F ∧ FL wr (w.heap.size + 1) F ∧ wr.heap[w.heap.size]? = some (.cells (dtc 0 0 0 0 0 0) 27 (0, 0)) ∧ Below w.heap.size w wr) (fun i _ => L.length - (intOf i).toNat)
    case atStart => exact ⟨0, zeros, by omega, rfl, rfl, HSM.out, HF0.out, HA0.out, HB0.out⟩
    case round =>
      obtain ⟨k, F, hk, rfl, hr, hsm, hf, ha, hb⟩ := hrel
      obtain ⟨⟨c0, c1, c2, c3, c4, c5⟩, ⟨f0, f1, f2, f3, f4, f5⟩, hltg⟩ := dt_facts ha
      have HA := Lib.hid ha
      have HB := Lib.hid hb
      have HF := Lib.hid hf
      clear ha hb
      by_cases hlt : k < L.length
      · have d1 : decide ((k : Int) < (L.length : Int)) = true := decide_eq_true (by omega)
        have d2 : decide (k < L.length) = true := decide_eq_true hlt
        have hks : k < s.size := by have := HN.out; omega
        have hiL := fun w => run_index_u8 (P := Tryd.prog) Tryd.underlying9 (strOf L) k hlt (k : Int) rfl w
        have hiS := fun w => run_index_u8 (P := Tryd.prog) Tryd.underlying9 s k hks (k : Int) rfl w
        rw [byte_at] at hiL hiS
        rw [byte_list L k hlt, byte_list s.data.toList k hks] at hr
        rw [byte_list L k hlt] at hsm
        rw [strOf_list] at hiL
        generalize L.getD k 0 = l at hiL hr hsm
        generalize s.data.toList.getD k 0 = c at hiS hr
        have HSM2 := Lib.hid hsm
        have HR := Lib.hid hr
        clear hr hsm hf
        have hlb : l.toNat < 256 := l.toNat_lt
        have hcb : c.toNat < 256 := c.toNat_lt
        cases hs : slot l.toNat with
        | none =>
          have HFO := Lib.hid (fun g w => field_no (g := g) hs w)
          have HS := Lib.hid hs
          by_cases hcl : c = l
          · subst hcl
            have e2 : (((c.toNat : Nat) : Int) != ((c.toNat : Nat) : Int)) = false := by simp
            clear hs
            go_wp2_with (go_at_call 42; (with_reducible refine (HFO.out (w.heap.size + 1) _).mono ?_); rintro E w1 ⟨rfl, rfl⟩)
            go_quiet (fail)
            go_wp2_with fail
            go_roundw
            case rel => exact ⟨k + 1, F, by omega, by go_num, by rw [HR.out, rd_same HS.out], small_skip HSM2.out HS.out, HF.out, HA.out, Below.drawn HB.out _⟩
            case measure => simp [intOf]; omega
          · have e2 : (((c.toNat : Nat) : Int) != ((l.toNat : Nat) : Int)) = true := by
              simp
              intro e
              exact hcl (UInt8.toNat_inj.1 (by omega))
            have e3 : (c.toNat != l.toNat) = true := by
              simp
              intro e
              exact hcl (UInt8.toNat_inj.1 e)
            have HE := Lib.hid (rd_no (L := L) (s := s) (by rw [HR.out, rd_other hs hcl]))
            clear hs hcl
            go_wp2_with (go_at_call 42; (with_reducible refine (HFO.out (w.heap.size + 1) _).mono ?_); rintro E w1 ⟨rfl, rfl⟩)
            go_quiet (fail)
            go_wp2_with fail
            exact bodyPost_ret (dtRes2 rfl _ _ w _ _ _ _ _ _ rfl (dt_set (w := w1.drewN nq) (by exact HA.out))) rfl ⟨by exact HE.out, dt_below (Below.drawn HB.out _) (Nat.le_refl _)⟩
        | some j =>
          have hj := slot_lt hs
          have HFO := Lib.hid (fun g w => field_yes (g := g) hs w)
          have HS := Lib.hid hs
          by_cases hlo : c.toNat < 48
          · have e2 : decide (((c.toNat : Nat) : Int) < 48) = true := decide_eq_true (by omega)
            have HE := Lib.hid (rd_no (L := L) (s := s) (by rw [HR.out, rd_bad hs (by omega)]))
            clear hs hlo
            go_wp2_with (go_at_call 42; (with_reducible refine (HFO.out (w.heap.size + 1) _).mono ?_); rintro E w1 ⟨rfl, rfl⟩)
            exact bodyPost_ret (dtRes2 rfl _ _ w _ _ _ _ _ _ rfl (dt_set (by exact HA.out))) rfl ⟨by exact HE.out, dt_below HB.out (Nat.le_refl _)⟩
          · have e2 : decide (((c.toNat : Nat) : Int) < 48) = false := decide_eq_false (by omega)
            by_cases hhi : 57 < c.toNat
            · have e3 : decide (57 < ((c.toNat : Nat) : Int)) = true := decide_eq_true (by omega)
              have HE := Lib.hid (rd_no (L := L) (s := s) (by rw [HR.out, rd_bad hs (by omega)]))
              clear hs hlo hhi
              go_wp2_with (go_at_call 42; (with_reducible refine (HFO.out (w.heap.size + 1) _).mono ?_); rintro E w1 ⟨rfl, rfl⟩)
              exact bodyPost_ret (dtRes2 rfl _ _ w _ _ _ _ _ _ rfl (dt_set (by exact HA.out))) rfl ⟨by exact HE.out, dt_below HB.out (Nat.le_refl _)⟩
            · have e3 : decide (57 < ((c.toNat : Nat) : Int)) = false := decide_eq_false (by omega)
              have hsl := small_le HSM2.out hj
              have hF6 := HF.out.2.1
              have HST := Lib.hid (small_step (d := c.toNat - 48) HSM2.out hF6 hs (by omega))
              have HR2 := Lib.hid (HR.out.trans (rd_step hs ⟨by omega, by omega⟩))
              have hcF := (HF.out.2.2 j hj).1
              have hfF := (HF.out.2.2 j hj).2
              obtain ⟨v, hv⟩ : ∃ v, v = c.toNat - 48 := ⟨_, rfl⟩
              have hvi : ((c.toNat : Nat) : Int) - 48 = (v : Int) := by omega
              have hv9 : v ≤ 9 := by omega
              rw [← hv] at HST HR2
              have HP := Lib.hid (HF.out.put hj (10 * F.getD j 0 + v))
              generalize F.getD j 0 = f at hcF hsl HST HR2 HP
              clear hs hlo hhi hv hF6
              go_wp2_with (go_at_call 42; (with_reducible refine (HFO.out (w.heap.size + 1) _).mono ?_); rintro E w1 ⟨rfl, rfl⟩)
              go_region
              go_wp2_with fail
              go_roundw
              case rel => exact ⟨k + 1, F.set j (10 * f + v), by omega, by go_num, HR2.out, HST.out, by have h := HP.out; rw [show (((10 * f + v : Nat)) : Int) = (f : Int) * 10 + (v : Int) by omega] at h; exact h, (heap_setCell_other _ _ _ _ (by simp)).trans HA.out, (HB.out.setCell (by simp) _).drew⟩
              case measure => simp [intOf]; omega
      · obtain rfl : k = L.length := by omega
        have d1 : decide ((L.length : Int) < (L.length : Int)) = false := by simp
        have d2 : decide (L.length < L.length) = false := by simp
        obtain ⟨x, rfl⟩ := flds_of HF.out.2.1
        obtain ⟨g0, g1, g2, g3, g4, g5⟩ := fl_cells HF.out
        rw [List.drop_length, List.drop_eq_nil_of_le (by have := HN.out; show s.data.toList.length ≤ _; exact Nat.le_of_eq this)] at hr
        have HE := Lib.hid (show Rd L s (.returned (.tuple #[dtV x, .bool true])) from .inl ⟨x, rd_wrt L _ zeros (flds x) rfl hr, rfl⟩)
        clear hr hsm hf hlt
        go_wp2_with fail
        exact bodyPost_ret (dtRes2 rfl _ _ w _ _ _ _ _ _ rfl (dt_set (by exact HA.out))) rfl ⟨by exact HE.out, dt_below HB.out (Nat.le_refl _)⟩
  · have e1 : ((s.size : Int) != (L.length : Int)) = true := by simp; omega
    have HR := Lib.hid (rd_no (L := L) (s := s) (by
      cases h : rdt L s.data.toList zeros with
      | none => rfl
      | some G =>
        exfalso
        have h1 := rd_wrt L _ zeros G rfl h
        have h2 := (wrt_len L G).1
        rw [h1] at h2
        exact hn h2))
    clear hn hc
    go_enter Tryd.func38, Tryd.ntmps38
    go_wp2_with fail
    exact bodyPost_ret (dtRes2 rfl _ _ w _ _ _ _ _ _ rfl (heap_new2 w _ _ _)) rfl ⟨by exact HR.out, below_next (belowNew w _) (belowNew _ _)⟩
end Go.Proofs.YtkgdkaopbnodpaaDoor
