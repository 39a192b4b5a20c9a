/-
  The walk of the law TlvLong: for every two bytes it returns true, and leaves all that was there as it was.
-/
import Derived.Test.YtgpockpfefjjkaaTrwrap
import Derived.Test.YtgpockpfefjjkaaTcanon3
namespace Go.Proofs.Ytgpockpfefjjkaa
open Go.RowKit

theorem long_make (m : Nat) (hm : m ≤ 1000000) : ∃ Z : Array Value, Z = ((List.replicate m (0 : UInt8)).map bcell).toArray ∧ ∀ W : World, (Instr.makeSlice 22 (.int .i64 (m : Int)) (.int .i64 (m : Int))).run Try.prog W = .ok (.slice (some ⟨W.heap.size, 0, none⟩) m m) (W.alloc (.cells Z 5)) := by
  obtain ⟨i0, hi, hz0, hz1, hz2⟩ := info_parts byteInfo
  refine ⟨_, rfl, fun W => ?_⟩
  have hr := run_make (P := Try.prog) W 22 5 i0 (.int .u8 0) Try.underlying22 hi hz0 .i64 .i64 (m : Int) (m : Int) (by omega) (Int.le_refl _) (by rw [hz2]; omega) (by omega)
  rw [hr]
  have e2 : madeCells (Value.int .u8 0).cells ((m : Int).toNat * i0.size) = ((List.replicate m (0 : UInt8)).map bcell).toArray := by
    rw [hz1]
    apply Array.ext
    · simp [madeCells, Value.cells]
    · intro i h1 h2
      simp [madeCells, Value.cells, bcell, Nat.mod_one]
  rw [e2]
  simp
theorem one_wrap {t : Nat} {c : List UInt8} (ht : t < 256) (h1 : t % 32 ≠ 31) (hc : c.length ≤ 131072) :
    oneVal ⟨(wrapL t c).toArray⟩ = .tuple #[.agg #[.int .i64 ((t : Nat) : Int), .string ⟨c.toArray⟩, .string ⟨(wrapL t c).toArray⟩], .int .i64 0] := by
  have hb : (⟨(wrapL t c).toArray⟩ : ByteArray).data.toList = wrapL t c ++ [] := by simp
  have hr := rd_wrap ht h1 hc hb
  have hv := read_wrap ht h1 hc hb
  have he : rdErr ⟨(wrapL t c).toArray⟩ = 0 := by unfold rdErr; rw [hr]
  rw [rdVal_good he] at hv
  simp only [Value.tuple.injEq, Array.mk.injEq, List.cons.injEq, Value.agg.injEq, Value.string.injEq, and_true] at hv
  obtain ⟨⟨e1, e2, e3⟩, e4⟩ := hv
  have ho : oneErr ⟨(wrapL t c).toArray⟩ = 0 := by
    unfold oneErr
    rw [if_neg (fun x => x he), e4]
    rfl
  rw [oneVal_good ho, e1, e2, e3]
theorem long_row (W : World) (q : Nat) (hq : q < 4) : ∃ B : Nat, 127 ≤ B ∧ B ≤ 131072 ∧ (W.alloc (.cells #[.int .i64 127, .int .i64 255, .int .i64 65535, .int .i64 131072] 3)).cell? ⟨W.heap.size, q, none⟩ = some (.int .i64 (B : Int)) := by
  rw [Lib.cell_of_heap (heap_alloc_new W _)]
  rcases (by omega : q = 0 ∨ q = 1 ∨ q = 2 ∨ q = 3) with rfl | rfl | rfl | rfl
  · exact ⟨127, by omega, by omega, rfl⟩
  · exact ⟨255, by omega, by omega, rfl⟩
  · exact ⟨65535, by omega, by omega, rfl⟩
  · exact ⟨131072, by omega, by omega, rfl⟩
theorem halves (c : ByteArray) (j : Nat) : cat [c.extract 0 j, c.extract j c.size] = c.data.toList := by
  have h1 : cat [c.extract 0 j, c.extract j c.size] = (c.extract 0 j).data.toList ++ (c.extract j c.size).data.toList := by simp [cat]
  rw [h1, data_extract, data_extract, List.drop_zero, Nat.sub_zero]
  have : (c.data.toList.drop j).take (c.size - j) = c.data.toList.drop j := List.take_of_length_le (by rw [List.length_drop]; exact Nat.le_refl _)
  rw [this, List.take_append_drop]
theorem two_reads_d (w : World) (g : Nat) (hg : g = w.heap.size) (x y : ByteArray) : Reads (w.alloc (.cells #[.string x, .string y] 9)).drew (.slice (some ⟨g, 0, none⟩) 2 2) [x, y] := by
  subst hg
  refine ⟨_, 2, rfl, .inr ⟨w.heap.size, 0, rfl, fun i hi => ?_⟩⟩
  show (w.alloc (.cells #[.string x, .string y] 9)).cell? _ = _
  rw [Lib.cell_of_heap (heap_alloc_new w _)]
  have : i = 0 ∨ i = 1 := by simp at hi; omega
  rcases this with rfl | rfl <;> rfl
theorem one_read' (w : World) (g : Nat) (hg : g = w.heap.size) (x : ByteArray) : Reads (w.alloc (.cells #[.string x] 9)) (.slice (some ⟨g, 0, none⟩) 1 1) [x] := by
  subst hg
  refine ⟨_, 1, rfl, .inr ⟨w.heap.size, 0, rfl, fun i hi => ?_⟩⟩
  rw [Lib.cell_of_heap (heap_alloc_new w _)]
  have : i = 0 := by simp at hi; omega
  subst this
  rfl
theorem two_reads (w : World) (g : Nat) (hg : g = w.heap.size) (x y : ByteArray) : Reads (w.alloc (.cells #[.string x, .string y] 9)) (.slice (some ⟨g, 0, none⟩) 2 2) [x, y] := by
  subst hg
  refine ⟨_, 2, rfl, .inr ⟨w.heap.size, 0, rfl, fun i hi => ?_⟩⟩
  rw [Lib.cell_of_heap (heap_alloc_new w _)]
  have : i = 0 ∨ i = 1 := by simp at hi; omega
  rcases this with rfl | rfl <;> rfl

set_option maxRecDepth 100000 in
set_option maxHeartbeats 2000000 in
theorem long_law (a b : Nat) (w : World) :
    Calls Try.prog 7 #[.int .u8 (a : Nat), .int .u8 (b : Nat)] w fun e w' => e = .returned (.bool true) ∧ Below w.heap.size w w' := by
  obtain ⟨q, hq⟩ : ∃ q, q = a % 4 := ⟨_, rfl⟩
  obtain ⟨r, hr⟩ : ∃ r, r = b % 5 := ⟨_, rfl⟩
  have hqI : (a : Int) % 4 = (q : Int) := by omega
  have hrI : (b : Int) % 5 = (r : Int) := by omega
  have hq4 : q < 4 := by omega
  have hr5 : r < 5 := by omega
  obtain ⟨B, hB1, hB2, hcell⟩ := long_row w q hq4
  obtain ⟨N, hN⟩ : ∃ N, N = B - 2 + r := ⟨_, rfl⟩
  have hNI : (B : Int) - 2 + (r : Int) = (N : Int) := by omega
  have hN2 : N ≤ 131074 := by omega
  obtain ⟨Z, hZ, hmk⟩ := long_make N (by omega)
  have cv := row_conv (w.alloc (.cells #[.int .i64 127, .int .i64 255, .int .i64 65535, .int .i64 131072] 3)) (w.heap.size + 1) N (by simp) (List.replicate N 0) (by simp) Z hZ
  obtain ⟨c, hc⟩ : ∃ c : ByteArray, c = ⟨(List.replicate N (0 : UInt8)).toArray⟩ := ⟨_, rfl⟩
  rw [← hc] at cv
  have hcs : c.size = N := by rw [hc]; show (List.replicate N (0 : UInt8)).toArray.size = N; simp
  clear hq hr hN hZ hc
  subst hcs
  obtain ⟨j, hj⟩ : ∃ j, j = c.size / 2 := ⟨_, rfl⟩
  have hjI : (c.size : Int) / 2 = (j : Int) := by omega
  have hjT : Int.tdiv (c.size : Int) 2 = (j : Int) := by rw [Int.tdiv_eq_ediv_of_nonneg (by omega)]; omega
  have hjW : IntKind.i64.wrap (j : Int) = (j : Int) := by simp [IntKind.wrap, IntKind.bits, IntKind.signed]; omega
  have hj2 : j ≤ c.size := by omega
  have hcl : c.data.toList.length = c.size := rfl
  have HC2 := Lib.hid (halves c j)
  have HCC := Lib.hid (show cat [c] = c.data.toList by simp [cat])
  have HLL := Lib.hid (show c.data.toList.length ≤ 1099511627776 by rw [hcl]; omega)
  obtain ⟨W0, hW0⟩ : ∃ W0, W0 = ((w.alloc (.cells #[.int .i64 127, .int .i64 255, .int .i64 65535, .int .i64 131072] 3)).alloc (.cells Z 5)) := ⟨_, rfl⟩
  have HZ := Lib.hid (show Below w.heap.size w W0 by rw [hW0]; exact belowNew2 w _ _)
  have HW0 := Lib.hid hW0
  clear hj hW0
  by_cases h : c.size ≤ 131072
  · obtain ⟨s, hs⟩ : ∃ s : ByteArray, s = ⟨(wrapL 4 c.data.toList).toArray⟩ := ⟨_, rfl⟩
    have hO : oneVal s = .tuple #[.agg #[.int .i64 4, .string c, .string s], .int .i64 0] := by rw [hs]; exact one_wrap (t := 4) (by decide) (by decide) (by rw [hcl]; exact h)
    have hW : wrapVal 4 c.data.toList = .tuple #[.string s, .int .i64 0] := by
      have e : wrapErr 4 c.data.toList.length = 0 := by unfold wrapErr; rw [if_neg (by decide), if_neg (by rw [hcl]; omega)]
      unfold wrapVal wrapStr
      rw [e, hs]
      rfl
    have HO := Lib.hid hO
    have HW := Lib.hid hW
    have HSS := Lib.hid (show s.size ≤ 1099511627776 by
      rw [hs]
      show (wrapL 4 c.data.toList).toArray.size ≤ _
      unfold wrapL
      have := lsz_le c.data.toList.length
      simp only [List.size_toArray, List.length_cons, List.length_append, lenO_length]
      rw [hcl] at this ⊢
      omega)
    clear hs hO hW hcl h
    go_enter Try.func7, Try.ntmps7
    go_wp2_with fail
    rw [← HW0.out]
    go_region_with ((go_at_call 13; (with_reducible refine (wrap_any 4 _ [c.extract 0 j, c.extract j c.size] _ (two_reads_d W0 _ rfl _ _) (by simp)).mono ?_); rw [HC2.out, HW.out]; rintro e w2 ⟨rfl, hb2⟩; have HZ := Lib.hid (below_next (w0 := w) (by first | exact HZ.out | exact below_new HZ.out _ | exact (below_new HZ.out _).drew | exact Below.drew (below_new HZ.out _) | exact below_new HZ.out.drew _ | exact below_new (below_new HZ.out _) _) hb2); clear hb2))
    all_goals
      go_wp2_with (first | (go_at_call 19; (with_reducible refine (rwrap_any 4 _ [c] _ (one_read' _ _ (by simp) c) (by simp) (by rw [HCC.out]; exact HLL.out)).mono ?_); rw [HCC.out, HW.out]; rintro e w3 ⟨rfl, hb3⟩; have HZ := Lib.hid (below_next (w0 := w) (by first | exact HZ.out | exact below_new HZ.out _ | exact below_new (below_new HZ.out _) _) hb3); clear hb3) | (go_at_call 20; (with_reducible refine (one_any s _ HSS.out).mono ?_); rw [HO.out]; rintro e w4 ⟨rfl, hb4⟩; have HZ := Lib.hid (below_next (w0 := w) (by first | exact HZ.out | exact below_new HZ.out _ | exact below_new (below_new HZ.out _) _) hb4); clear hb4) | (go_at_call 11; (with_reducible refine (awake_any _).mono ?_); rintro e w5 ⟨rfl, hb5⟩; have hp := (hb5.block w4.heap.size (by simp)).trans (elNew w4 _); obtain ⟨p0, p1, p2, pf0, pf1, pf2, plt⟩ := el_facts hp; clear hp; have HZ := Lib.hid (below_next (w0 := w) (by first | exact HZ.out | exact below_new HZ.out _ | exact below_new (below_new HZ.out _) _) hb5); clear hb5))
      go_ret
      exact ⟨rfl, HZ.out⟩
  · have hW : wrapVal 4 c.data.toList = .tuple #[.string ⟨#[]⟩, .int .i64 6] := by
      have e : wrapErr 4 c.data.toList.length = 6 := by unfold wrapErr; rw [if_neg (by decide), if_pos (by rw [hcl]; omega)]
      unfold wrapVal wrapStr
      rw [e]
      rfl
    have HW := Lib.hid hW
    have dgt : decide (131072 < (c.size : Int)) = true := by simp; omega
    clear hW hcl h
    go_enter Try.func7, Try.ntmps7
    go_wp2_with fail
    rw [← HW0.out]
    go_region_with ((go_at_call 13; (with_reducible refine (wrap_any 4 _ [c.extract 0 j, c.extract j c.size] _ (two_reads_d W0 _ rfl _ _) (by simp)).mono ?_); rw [HC2.out, HW.out]; rintro e w2 ⟨rfl, hb2⟩; have HZ := Lib.hid (below_next (w0 := w) (by first | exact HZ.out | exact below_new HZ.out _ | exact (below_new HZ.out _).drew | exact Below.drew (below_new HZ.out _) | exact below_new HZ.out.drew _ | exact below_new (below_new HZ.out _) _) hb2); clear hb2))
    all_goals
      go_wp2_with (first | (go_at_call 19; (with_reducible refine (rwrap_any 4 _ [c] _ (one_read' _ _ (by simp) c) (by simp) (by rw [HCC.out]; exact HLL.out)).mono ?_); rw [HCC.out, HW.out]; rintro e w3 ⟨rfl, hb3⟩; have HZ := Lib.hid (below_next (w0 := w) (by first | exact HZ.out | exact below_new HZ.out _ | exact below_new (below_new HZ.out _) _) hb3); clear hb3) | (go_at_call 11; (with_reducible refine (awake_any _).mono ?_); rintro e w5 ⟨rfl, hb5⟩; have HZ := Lib.hid (below_next (w0 := w) (by first | exact HZ.out | exact below_new HZ.out _ | exact below_new (below_new HZ.out _) _) hb5); clear hb5))
      go_ret
      exact ⟨rfl, HZ.out⟩
end Go.Proofs.Ytgpockpfefjjkaa
