/-
  The walk of the law TlvNested: for every two bytes and every slice of numbers it returns true, and leaves all that was there as it was.
-/
import Derived.Test.YtgpockpfefjjkaaTdamage
import Derived.Test.YtgpockpfefjjkaaTcanon3
namespace Go.Proofs.Ytgpockpfefjjkaa
open Go.RowKit

theorem three_reads (w : World) (g : Nat) (hg : g = w.heap.size) (x y z : ByteArray) : Reads (w.alloc (.cells #[.string x, .string y, .string z] 9)) (.slice (some ⟨g, 0, none⟩) 3 3) [x, y, z] := by
  subst hg
  refine ⟨_, 3, rfl, .inr ⟨w.heap.size, 0, rfl, fun i hi => ?_⟩⟩
  rw [Lib.cell_of_heap (heap_alloc_new w _)]
  have : i = 0 ∨ i = 1 ∨ i = 2 := by simp at hi; omega
  rcases this with rfl | rfl | rfl <;> rfl
theorem nest_wrap (M S : ByteArray) (hM : M.size ≤ 2) (hS : S.size ≤ 1000) : ∃ U : ByteArray, wrapVal 48 (cat [M, S, M]) = .tuple #[.string U, .int .i64 0] ∧ U.size ≤ S.size + 9 ∧ U.size ≠ 0 := by
  have hl : (cat [M, S, M]).length = M.size + S.size + M.size := by
    have : cat [M, S, M] = M.data.toList ++ (S.data.toList ++ M.data.toList) := by simp [cat]
    rw [this, List.length_append, List.length_append]
    show M.size + (S.size + M.size) = _
    omega
  have e : wrapErr 48 (cat [M, S, M]).length = 0 := by unfold wrapErr; rw [if_neg (by decide), if_neg (by omega)]
  have hs : ByteArray.size ⟨(wrapL 48 (cat [M, S, M])).toArray⟩ = 1 + lsz (cat [M, S, M]).length + (cat [M, S, M]).length := by
    show (wrapL 48 (cat [M, S, M])).toArray.size = _
    unfold wrapL
    simp only [List.size_toArray, List.length_cons, List.length_append, lenO_length]
    omega
  have hz := lsz_le (cat [M, S, M]).length
  refine ⟨⟨(wrapL 48 (cat [M, S, M])).toArray⟩, ?_, by omega, by omega⟩
  unfold wrapVal wrapStr
  rw [e]
  rfl

theorem ILies.old {w w' : World} {a : Option Addr} {zs : List Int} (h : ILies w a zs) (hb : Below w.heap.size w w') : ILies w' a zs :=
  h.below hb fun x hx hne => by
    rcases h with h | ⟨b, o, h1, h2⟩
    · exact absurd h hne
    · obtain rfl := Option.some.inj (hx.symm.trans h1)
      exact block_lt_of_cell (h2 0 (List.length_pos_iff.2 hne))
theorem new_len (a : Option Addr) (cap : Nat) (zs : List Int) (L : Nat) (hL : L = zs.length) (w : World) (hl : ILies w a zs) (hz : zs.length ≤ 9223372036854775807) :
    Calls Try.prog 17 #[.slice a L cap] w fun e w' => e = .returned (.pointer (some ⟨w.heap.size, 0, none⟩)) ∧ DeckAt w' w.heap.size a cap zs 0 ∧ Below w.heap.size w w' := by
  rw [hL]
  exact new_any a cap zs w hl hz
set_option maxRecDepth 100000 in
set_option maxHeartbeats 4000000 in
theorem nest_loop (n d : Nat) (a : Option Addr) (cap : Nat) (zs : List Int) (w : World) (hn : n < 256) (hd : d < 256) (hl : ILies w a zs) (hz : zs.length ≤ 9223372036854775807) :
    Calls Try.prog 5 #[.int .u8 (n : Nat), .slice a zs.length cap, .int .u8 (d : Nat)] w fun e w' => e = .returned (.bool true) ∧ Below w.heap.size w w' := by
  obtain ⟨L, hL⟩ : ∃ L, L = zs.length := ⟨_, rfl⟩
  have HL := Lib.hid hL
  have HI := Lib.hid hl
  have HZZ := Lib.hid hz
  rw [← hL]
  obtain ⟨q, hq⟩ : ∃ q, q = n % 20 := ⟨_, rfl⟩
  have HQ := Lib.hid (show (n : Int) % 20 = (q : Int) by omega)
  have hq20 : q < 20 := by omega
  clear hL hl hz hq
  by_cases h3 : d % 3 = 1
  · have d3 : ((d : Int) % 3 == 1) = true := beq_iff_eq.2 (by omega)
    clear h3
    go_enter Try.func5, Try.ntmps5
    go_wp2_with fail
    clear d3
    go_loopw [7, 8] (fun s i wr => ∃ (k : Nat) (S : ByteArray), k ≤ q ∧ i = .int .i64 (k : Int) ∧ s = .string S ∧ S.size ≤ 3 + 9 * k ∧ S.size ≠ 0 ∧ Below w.heap.size w wr) (fun _ i _ => 20 - (intOf i).toNat)
    case atStart => exact ⟨0, ⟨#[48, 0]⟩, Nat.zero_le _, rfl, rfl, by decide, by decide, Below.refl _ _⟩
    case round =>
      obtain ⟨i, S, hi, rfl, rfl, hS, hS0, hb⟩ := hrel
      have HB := Lib.hid hb
      have hqI := HQ.out
      clear hb
      by_cases hlt : i < q
      · have hdd : decide ((i : Int) < (q : Int)) = true := by simp; omega
        by_cases h5 : d % 5 = i % 5
        · have dm : ((d : Int) % 5 == (i : Int) % 5) = true := beq_iff_eq.2 (by omega)
          obtain ⟨U, hU, hU1, hU2⟩ := nest_wrap ⟨#[5, 0]⟩ S (by decide) (by omega)
          have HW := Lib.hid hU
          have HU1 := Lib.hid hU1
          have HU2 := Lib.hid hU2
          clear hU hU1 hU2
          go_wp2_with (go_at_call 13; (with_reducible refine (wrap_any 48 _ [⟨#[5, 0]⟩, S, ⟨#[5, 0]⟩] _ (three_reads _ _ (by simp) _ _ _) (by simp)).mono ?_); rw [HW.out]; rintro e w2 ⟨rfl, hb2⟩; have HB2 := Lib.hid (below_next (below_new HB.out _) hb2); clear hb2)
          go_roundw
          case rel => exact ⟨i + 1, U, by omega, by go_num, rfl, by have := HU1.out; omega, HU2.out, HB2.out⟩
          case measure => simp [intOf]; omega
        · have dm : ((d : Int) % 5 == (i : Int) % 5) = false := beq_eq_false_iff_ne.2 (by omega)
          obtain ⟨U, hU, hU1, hU2⟩ := nest_wrap ⟨#[]⟩ S (by decide) (by omega)
          have HW := Lib.hid hU
          have HU1 := Lib.hid hU1
          have HU2 := Lib.hid hU2
          clear hU hU1 hU2
          go_wp2_with (go_at_call 13; (with_reducible refine (wrap_any 48 _ [⟨#[]⟩, S, ⟨#[]⟩] _ (three_reads _ _ (by simp) _ _ _) (by simp)).mono ?_); rw [HW.out]; rintro e w2 ⟨rfl, hb2⟩; have HB2 := Lib.hid (below_next (below_new HB.out _) hb2); clear hb2)
          go_roundw
          case rel => exact ⟨i + 1, U, by omega, by go_num, rfl, by have := HU1.out; omega, HU2.out, HB2.out⟩
          case measure => simp [intOf]; omega
      · have ei : i = q := by omega
        subst ei
        have hdd : decide ((i : Int) < (i : Int)) = false := by simp
        have HZ := HB
        have HSS := Lib.hid (show S.size ≤ 1099511627776 by omega)
        have HSD := Lib.hid (show S.size ≤ 1099511627000 by omega)
        have HS0 := Lib.hid hS0
        have HSZ := Lib.hid hS
        clear hS hS0
        go_wp2_with (first | (go_at_call 11; (with_reducible refine (awake_any _).mono ?_); rintro e w1 ⟨rfl, hb1⟩; have HZ := Lib.hid (below_next HZ.out hb1); clear hb1) | (go_at_call 14; (with_reducible refine (check_any S _ HSS.out).mono ?_); rintro e w2 ⟨rfl, hb2⟩; have HZ := Lib.hid (below_next HZ.out hb2); clear hb2) | (go_at_call 15; (with_reducible refine (rcheck_any S _ HSS.out).mono ?_); rintro e w3 ⟨rfl, hb3⟩; have HZ := Lib.hid (below_next HZ.out hb3); clear hb3) | (go_at_call 17; (with_reducible refine (new_len a cap zs L HL.out _ (ILies.old HI.out HZ.out) HZZ.out).mono ?_); rintro e w4 ⟨rfl, hd4, hb4⟩; have HD4 := Lib.hid hd4; have HB4 := Lib.hid hb4; have HZ4 := Lib.hid (below_next HZ.out hb4); clear hd4 hb4) | (go_at_call 16; (with_reducible refine (damage_any _ a cap zs 0 S _ HD4.out (by omega) HS0.out HSD.out).mono ?_); rintro e w5 ⟨u, rfl, hu, hb5⟩; have HU := Lib.hid (show u.size ≤ 1099511627776 by have := HSD.out; omega); have HZ5 := Lib.hid (HZ4.out.trans (hb5.mono HZ.out.size)); clear hu hb5) | (go_at_call 12; (with_reducible refine (same_law u _ HU.out).mono ?_); rintro e w6 ⟨rfl, hb6⟩; have HZ6 := Lib.hid (below_next HZ5.out hb6); clear hb6))
        go_ret
        exact ⟨rfl, HZ6.out⟩
  · have d3 : ((d : Int) % 3 == 1) = false := beq_eq_false_iff_ne.2 (by omega)
    clear h3
    go_enter Try.func5, Try.ntmps5
    go_wp2_with fail
    clear d3
    go_loopw [7, 8] (fun s i wr => ∃ (k : Nat) (S : ByteArray), k ≤ q ∧ i = .int .i64 (k : Int) ∧ s = .string S ∧ S.size ≤ 3 + 9 * k ∧ S.size ≠ 0 ∧ Below w.heap.size w wr) (fun _ i _ => 20 - (intOf i).toNat)
    case atStart => exact ⟨0, ⟨#[4, 1, 120]⟩, Nat.zero_le _, rfl, rfl, by decide, by decide, Below.refl _ _⟩
    case round =>
      obtain ⟨i, S, hi, rfl, rfl, hS, hS0, hb⟩ := hrel
      have HB := Lib.hid hb
      have hqI := HQ.out
      clear hb
      by_cases hlt : i < q
      · have hdd : decide ((i : Int) < (q : Int)) = true := by simp; omega
        by_cases h5 : d % 5 = i % 5
        · have dm : ((d : Int) % 5 == (i : Int) % 5) = true := beq_iff_eq.2 (by omega)
          obtain ⟨U, hU, hU1, hU2⟩ := nest_wrap ⟨#[5, 0]⟩ S (by decide) (by omega)
          have HW := Lib.hid hU
          have HU1 := Lib.hid hU1
          have HU2 := Lib.hid hU2
          clear hU hU1 hU2
          go_wp2_with (go_at_call 13; (with_reducible refine (wrap_any 48 _ [⟨#[5, 0]⟩, S, ⟨#[5, 0]⟩] _ (three_reads _ _ (by simp) _ _ _) (by simp)).mono ?_); rw [HW.out]; rintro e w2 ⟨rfl, hb2⟩; have HB2 := Lib.hid (below_next (below_new HB.out _) hb2); clear hb2)
          go_roundw
          case rel => exact ⟨i + 1, U, by omega, by go_num, rfl, by have := HU1.out; omega, HU2.out, HB2.out⟩
          case measure => simp [intOf]; omega
        · have dm : ((d : Int) % 5 == (i : Int) % 5) = false := beq_eq_false_iff_ne.2 (by omega)
          obtain ⟨U, hU, hU1, hU2⟩ := nest_wrap ⟨#[]⟩ S (by decide) (by omega)
          have HW := Lib.hid hU
          have HU1 := Lib.hid hU1
          have HU2 := Lib.hid hU2
          clear hU hU1 hU2
          go_wp2_with (go_at_call 13; (with_reducible refine (wrap_any 48 _ [⟨#[]⟩, S, ⟨#[]⟩] _ (three_reads _ _ (by simp) _ _ _) (by simp)).mono ?_); rw [HW.out]; rintro e w2 ⟨rfl, hb2⟩; have HB2 := Lib.hid (below_next (below_new HB.out _) hb2); clear hb2)
          go_roundw
          case rel => exact ⟨i + 1, U, by omega, by go_num, rfl, by have := HU1.out; omega, HU2.out, HB2.out⟩
          case measure => simp [intOf]; omega
      · have ei : i = q := by omega
        subst ei
        have hdd : decide ((i : Int) < (i : Int)) = false := by simp
        have HZ := HB
        have HSS := Lib.hid (show S.size ≤ 1099511627776 by omega)
        have HSD := Lib.hid (show S.size ≤ 1099511627000 by omega)
        have HS0 := Lib.hid hS0
        have HSZ := Lib.hid hS
        clear hS hS0
        go_wp2_with (first | (go_at_call 11; (with_reducible refine (awake_any _).mono ?_); rintro e w1 ⟨rfl, hb1⟩; have HZ := Lib.hid (below_next HZ.out hb1); clear hb1) | (go_at_call 14; (with_reducible refine (check_any S _ HSS.out).mono ?_); rintro e w2 ⟨rfl, hb2⟩; have HZ := Lib.hid (below_next HZ.out hb2); clear hb2) | (go_at_call 15; (with_reducible refine (rcheck_any S _ HSS.out).mono ?_); rintro e w3 ⟨rfl, hb3⟩; have HZ := Lib.hid (below_next HZ.out hb3); clear hb3) | (go_at_call 17; (with_reducible refine (new_len a cap zs L HL.out _ (ILies.old HI.out HZ.out) HZZ.out).mono ?_); rintro e w4 ⟨rfl, hd4, hb4⟩; have HD4 := Lib.hid hd4; have HB4 := Lib.hid hb4; have HZ4 := Lib.hid (below_next HZ.out hb4); clear hd4 hb4) | (go_at_call 16; (with_reducible refine (damage_any _ a cap zs 0 S _ HD4.out (by omega) HS0.out HSD.out).mono ?_); rintro e w5 ⟨u, rfl, hu, hb5⟩; have HU := Lib.hid (show u.size ≤ 1099511627776 by have := HSD.out; omega); have HZ5 := Lib.hid (HZ4.out.trans (hb5.mono HZ.out.size)); clear hu hb5) | (go_at_call 12; (with_reducible refine (same_law u _ HU.out).mono ?_); rintro e w6 ⟨rfl, hb6⟩; have HZ6 := Lib.hid (below_next HZ5.out hb6); clear hb6))
        go_ret
        exact ⟨rfl, HZ6.out⟩
end Go.Proofs.Ytgpockpfefjjkaa
