/-
  The walk of the law DateSeconds: for every date and all numbers of its parameters' types it returns true, and leaves all that was there as it was.
-/
import Derived.Test.YtkgdkaopbnodpaaDoorDcivlaw
namespace Go.Proofs.YtkgdkaopbnodpaaDoor
open Go.RowKit

theorem add_off (g j i : Nat) : (⟨g, j, none⟩ : Addr).add i = ⟨g, j + i, none⟩ := by unfold Addr.add; split <;> simp_all
theorem rem_nat (x n : Nat) (hn : 0 < n) : ∃ r, r < n ∧ (x : Int) % (n : Int) = (r : Int) := ⟨x % n, Nat.mod_lt _ hn, by omega⟩
/-- Three dates in a row. -/
theorem row_dates (W : World) (c : List Int) (hc : c.length = 18) (j : Nat) (hj : j < 3) : ∃ a0 a1 a2 a3 a4 a5, 
    (∀ i, i < 6 → (W.alloc (.cells (c.map (Value.int .i64)).toArray 27)).cell? ⟨W.heap.size, j * 6 + i, none⟩ = some (.int .i64 ([a0, a1, a2, a3, a4, a5].getD i 0))) := by
  have h : ∀ k, k < 18 → (W.alloc (.cells (c.map (Value.int .i64)).toArray 27)).cell? ⟨W.heap.size, k, none⟩ = some (.int .i64 (c.getD k 0)) := fun k hk => by
    rw [cell_of_row _ _ k _ _ _ (heap_alloc_new W _)]
    simp [hc, hk]
  refine ⟨c.getD (j * 6) 0, c.getD (j * 6 + 1) 0, c.getD (j * 6 + 2) 0, c.getD (j * 6 + 3) 0, c.getD (j * 6 + 4) 0, c.getD (j * 6 + 5) 0, fun i hi => ?_⟩
  rw [h _ (by omega)]
  rcases (by omega : i = 0 ∨ i = 1 ∨ i = 2 ∨ i = 3 ∨ i = 4 ∨ i = 5) with rfl | rfl | rfl | rfl | rfl | rfl <;> rfl

set_option maxRecDepth 100000 in
set_option maxHeartbeats 4000000 in
theorem seclaw (a b c d e f : Int) (y m dd h n s : Nat) (w : World) (hT : Mon w) (hy : y < 65536) (hm : m < 256) (hd : dd < 256) (hh : h < 256) (hn : n < 256) (hs : s < 256) :
    Calls Tryd.prog 4 #[dtv a b c d e f, .int .u16 (y : Int), .int .u8 (m : Int), .int .u8 (dd : Int), .int .u8 (h : Int), .int .u8 (n : Int), .int .u8 (s : Int)] w fun E w' => E = .returned (.bool true) ∧ Below w.heap.size w w' := by
  have HT := Lib.hid hT
  obtain ⟨r1, b1, q1⟩ := rem_nat y 8055 (by omega)
  obtain ⟨r2, b2, q2⟩ := rem_nat m 14 (by omega)
  obtain ⟨r3, b3, q3⟩ := rem_nat dd 8 (by omega)
  obtain ⟨r4, b4, q4⟩ := rem_nat h 25 (by omega)
  obtain ⟨r5, b5, q5⟩ := rem_nat n 61 (by omega)
  obtain ⟨r6, b6, q6⟩ := rem_nat s 61 (by omega)
  obtain ⟨r7, b7, q7⟩ := rem_nat y 500 (by omega)
  obtain ⟨r8, b8, q8⟩ := rem_nat dd 3 (by omega)
  simp only [Int.cast_ofNat_Int] at q1 q2 q3 q4 q5 q6 q7 q8
  clear hT
  go_enter Tryd.func4, Tryd.ntmps4
  go_wp2_with fail
  obtain ⟨c18, hc18, hl18⟩ : ∃ c18 : List Int, #[Value.int .i64 a, .int .i64 b, .int .i64 c, .int .i64 d, .int .i64 e, .int .i64 f, .int .i64 (1948 + (r1 : Int)), .int .i64 (r2 : Int), .int .i64 (26 + (r3 : Int)), .int .i64 (r4 : Int), .int .i64 (r5 : Int), .int .i64 (r6 : Int), .int .i64 (1900 + (r7 : Int)), .int .i64 2, .int .i64 (28 + (r8 : Int)), .int .i64 0, .int .i64 0, .int .i64 0] = (c18.map (Value.int .i64)).toArray ∧ c18.length = 18 :=
    ⟨[a, b, c, d, e, f, 1948 + (r1 : Int), (r2 : Int), 26 + (r3 : Int), (r4 : Int), (r5 : Int), (r6 : Int), 1900 + (r7 : Int), 2, 28 + (r8 : Int), 0, 0, 0], rfl, rfl⟩
  rw [hc18]
  have HRW := Lib.hid (row_dates (w.alloc (.cells (dtc a b c d e f) 27)) c18 hl18)
  rw [show (w.alloc (.cells (dtc a b c d e f) 27)).heap.size = w.heap.size + 1 by simp] at HRW
  have HBA := Lib.hid (below_next (belowNew w (.cells (dtc a b c d e f) 27)) (belowNew _ (.cells (c18.map (Value.int .i64)).toArray 27)))
  have HLT := Lib.hid (show w.heap.size + 1 < ((w.alloc (.cells (dtc a b c d e f) 27)).alloc (.cells (c18.map (Value.int .i64)).toArray 27)).heap.size by simp)
  generalize (w.alloc (.cells (dtc a b c d e f) 27)).alloc (.cells (c18.map (Value.int .i64)).toArray 27) = W at HRW HBA HLT ⊢
  clear hc18 q1 q2 q3 q4 q5 q6 q7 q8 b1 b2 b3 b4 b5 b6 b7 b8
  go_loopw [56] (fun i wr => ∃ k : Nat, k ≤ 3 ∧ i = .int .i64 (k : Int) ∧ Below W.heap.size W wr) (fun i _ => 3 - (intOf i).toNat)
  case atStart => exact ⟨0, by omega, rfl, Below.refl _ _⟩
  case round =>
    obtain ⟨j, hj, rfl, hb⟩ := hrel
    have HB := Lib.hid hb
    have HTR := Lib.hid (HT.out.old (HBA.out.trans (hb.mono HBA.out.size)))
    by_cases hlt : j < 3
    · have e1 : decide ((j : Int) < 3) = true := decide_eq_true (by omega)
      have e2 : decide (j < 3) = true := decide_eq_true hlt
      obtain ⟨a0, a1, a2, a3, a4, a5, hcell⟩ := HRW.out j hlt
      have hc0 := (hb.cell (p := ⟨w.heap.size + 1, j * 6, none⟩) HLT.out).trans (hcell 0 (by omega))
      have hc1 := (hb.cell (p := ⟨w.heap.size + 1, j * 6 + 1, none⟩) HLT.out).trans (hcell 1 (by omega))
      have hc2 := (hb.cell (p := ⟨w.heap.size + 1, j * 6 + 2, none⟩) HLT.out).trans (hcell 2 (by omega))
      have hc3 := (hb.cell (p := ⟨w.heap.size + 1, j * 6 + 3, none⟩) HLT.out).trans (hcell 3 (by omega))
      have hc4 := (hb.cell (p := ⟨w.heap.size + 1, j * 6 + 4, none⟩) HLT.out).trans (hcell 4 (by omega))
      have hc5 := (hb.cell (p := ⟨w.heap.size + 1, j * 6 + 5, none⟩) HLT.out).trans (hcell 5 (by omega))
      replace hc0 : wr.cell? ⟨w.heap.size + 1, j * 6, none⟩ = some (.int .i64 a0) := hc0
      replace hc1 : wr.cell? ⟨w.heap.size + 1, j * 6 + 1, none⟩ = some (.int .i64 a1) := hc1
      replace hc2 : wr.cell? ⟨w.heap.size + 1, j * 6 + 2, none⟩ = some (.int .i64 a2) := hc2
      replace hc3 : wr.cell? ⟨w.heap.size + 1, j * 6 + 3, none⟩ = some (.int .i64 a3) := hc3
      replace hc4 : wr.cell? ⟨w.heap.size + 1, j * 6 + 4, none⟩ = some (.int .i64 a4) := hc4
      replace hc5 : wr.cell? ⟨w.heap.size + 1, j * 6 + 5, none⟩ = some (.int .i64 a5) := hc5
      clear hb hcell
      by_cases ho : OkI a0 a1 a2 a3 a4 a5
      · obtain ⟨x, hx, rfl, rfl, rfl, rfl, rfl, rfl⟩ := ho
        have HS := Lib.hid (secs_yes hx _ (HTR.out.alloc (.cells (dtc x.y x.m x.d x.h x.n x.s) 27)))
        have HR := Lib.hid (fun w => rsecs_yes hx w)
        have HC := Lib.hid (fun w hT => civ_yes hx w hT)
        have HN0 := Lib.hid (dtNew wr (dtc x.y x.m x.d x.h x.n x.s) 27)
        have HB0 := Lib.hid (below_next HB.out (belowNew wr (.cells (dtc x.y x.m x.d x.h x.n x.s) 27)))
        have HT0 := Lib.hid (HTR.out.alloc (.cells (dtc x.y x.m x.d x.h x.n x.s) 27))
        have HL0 := Lib.hid (show wr.heap.size < (wr.alloc (.cells (dtc x.y x.m x.d x.h x.n x.s) 27)).heap.size by simp)
        generalize secs x = T at HC HR HS
        clear hx
        go_wp2_with (first
          | (go_at_call 12; (with_reducible refine HS.out.mono ?_); rintro E w2 ⟨rfl, hb2⟩; have HN2 := Lib.hid ((hb2.block wr.heap.size HL0.out).trans HN0.out); obtain ⟨⟨c0, c1, c2, c3, c4, c5⟩, _, hlt2⟩ := dt_facts HN2.out; have HB2 := Lib.hid (below_next HB0.out hb2); have HT2 := Lib.hid (HT0.out.old hb2); clear hb2)
          | (go_at_call 14; (with_reducible refine (HR.out _).mono ?_); rintro E w3 ⟨rfl, hb3⟩; have HN3 := Lib.hid ((hb3.block wr.heap.size (dt_facts HN2.out).2.2).trans HN2.out); have HB3 := Lib.hid (below_next HB2.out hb3); have HT3 := Lib.hid (HT2.out.old hb3); clear hb3)
          | (go_at_call 10; (with_reducible refine (HC.out _ HT3.out).mono ?_); rintro E w4 ⟨rfl, hb4⟩; obtain ⟨⟨g0, g1, g2, g3, g4, g5⟩, _, hlt4⟩ := dt_facts ((hb4.block wr.heap.size (dt_facts HN3.out).2.2).trans HN3.out); have HB4 := Lib.hid (below_next (below_next HB3.out hb4) (belowNew w4 (.cells (dtc x.y x.m x.d x.h x.n x.s) 27))); clear hb4))
        go_roundw
        case rel => exact ⟨j + 1, by omega, by go_num, HB4.out⟩
        case measure => simp [intOf]; omega
      · have HS := Lib.hid (secs_no ho _ (HTR.out.alloc (.cells (dtc a0 a1 a2 a3 a4 a5) 27)))
        have HR := Lib.hid (fun w => rsecs_no ho w)
        have HN0 := Lib.hid (dtNew wr (dtc a0 a1 a2 a3 a4 a5) 27)
        have HB0 := Lib.hid (below_next HB.out (belowNew wr (.cells (dtc a0 a1 a2 a3 a4 a5) 27)))
        have HL0 := Lib.hid (show wr.heap.size < (wr.alloc (.cells (dtc a0 a1 a2 a3 a4 a5) 27)).heap.size by simp)
        clear ho
        go_wp2_with (first
          | (go_at_call 12; (with_reducible refine HS.out.mono ?_); rintro E w2 ⟨rfl, hb2⟩; obtain ⟨⟨c0, c1, c2, c3, c4, c5⟩, _, hlt2⟩ := dt_facts ((hb2.block wr.heap.size HL0.out).trans HN0.out); have HB2 := Lib.hid (below_next HB0.out hb2); clear hb2)
          | (go_at_call 14; (with_reducible refine (HR.out _).mono ?_); rintro E w3 ⟨rfl, hb3⟩; have HB3 := Lib.hid (below_next HB2.out hb3); clear hb3))
        go_roundw
        case rel => exact ⟨j + 1, by omega, by go_num, HB3.out⟩
        case measure => simp [intOf]; omega
    · obtain rfl : j = 3 := by omega
      have e1 : decide (((3 : Nat) : Int) < 3) = false := by decide
      clear hb
      go_wp2_with (go_at_call 13; (with_reducible refine (awake_any _ HTR.out).mono ?_); rintro E w5 ⟨rfl, hb5⟩; have HB5 := Lib.hid (below_next HB.out hb5); clear hb5)
      go_ret
      exact ⟨rfl, HBA.out.trans (HB5.out.mono HBA.out.size)⟩
end Go.Proofs.YtkgdkaopbnodpaaDoor
