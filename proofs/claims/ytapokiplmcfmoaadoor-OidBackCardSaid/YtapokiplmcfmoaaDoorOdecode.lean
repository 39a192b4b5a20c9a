/-
  The contract of oid.Decode: the object identifier with these contents, if there is one.
-/
import Derived.Test.YtapokiplmcfmoaaDoorOnums
import Derived.Test.YtapokiplmcfmoaaDoorOid
namespace Go.Proofs.YtapokiplmcfmoaaDoor
open Go.RowKit

def oidVal (a : List Nat) : Value := .tuple #[.string (strOf (txt a)), .int .i64 0]
def OwnS (w : World) (B : Nat) (v : Value) (ss : List ByteArray) : Prop := w.ownsRow B 9 1 v ss.length (ss.map Value.string)
theorem strs_one (ss : List ByteArray) : ∀ v ∈ ss.map Value.string, v.oneCell' = true := by
  intro v hv; obtain ⟨b, _, rfl⟩ := List.mem_map.1 hv; rfl
def decS (n : Nat) : ByteArray := strOf (Lib.decDigits n)
theorem owns_two (w : World) (x y : ByteArray) : OwnS (w.alloc (.cells #[.string x, .string y] 9)) w.heap.size (.slice (some ⟨w.heap.size, 0, none⟩) 2 2) [x, y] :=
  ⟨rfl, .inr ⟨w.heap.size, 2, _, rfl, Nat.le_refl _, heap_alloc_new w _, Nat.le_refl _, by decide, rfl, rfl⟩⟩
theorem owns_form {w : World} {B : Nat} {v : Value} {ss : List ByteArray} (h : OwnS w B v ss) (h0 : ss ≠ []) :
    ∃ g cp, v = .slice (some ⟨g, 0, none⟩) ss.length cp ∧ g < w.heap.size ∧ ss.length ≤ cp ∧ ∀ (j : Nat) x, ss[j]? = some x → w.cell? ⟨g, 0 + j, none⟩ = some (.string x) := by
  rcases h.2 with ⟨_, h1⟩ | ⟨g, cap, cur, rfl, hB, hg, hn, _, hcs, htk⟩
  · exact absurd (List.eq_nil_of_length_eq_zero h1) h0
  · refine ⟨g, cap, rfl, (Array.getElem?_eq_some_iff.1 hg).1, hn, fun j x hx => ?_⟩
    have hj := (List.getElem?_eq_some_iff.1 hx).1
    rw [Nat.zero_add, cell_of_row w g j _ _ _ hg]
    have : (cur.toList.take (ss.length * 1))[j]? = some (.string ss[j]) := by rw [htk]; simp [hj]
    rw [List.getElem?_take_of_lt (by omega)] at this
    rw [List.getElem?_eq_getElem hj] at hx
    rw [← Option.some.inj hx]
    simpa using this
theorem strs_round {w wr w2 : World} {B : Nat} {v v' : Value} {D : List ByteArray} {y : ByteArray} {X : Obj} (hB : w.heap.size ≤ B) (hown : OwnS wr B v D) (hb : Below w.heap.size w wr)
    (hown2 : w2.ownsRow B 9 1 v' (D.length + 1) (D.map Value.string ++ [.string y])) (hgr2 : (wr.alloc X).grownBy w2 v.ownBlock) : OwnS w2 B v' (D ++ [y]) ∧ Below w.heap.size w w2 := by
  refine ⟨?_, ?_⟩
  · unfold OwnS
    rw [List.length_append, List.map_append]; exact hown2
  · exact (Below.alloc hb hb.size X).grown hgr2 (by simp; have := hb.size; omega) (fun k e => Nat.le_trans hB (World.ownsRow.lt hown k e).1)
theorem nums_yes {c : ByteArray} {N : List Nat} (hg : GoodN N) (hN : c.data.toList = cat e128 N) (w : World) (hs : c.size ≤ 1099511627) :
    Calls Tryd.prog 24 #[.string c] w fun e w' => (∃ g cap, e = .returned (.tuple #[.slice (some ⟨g, 0, none⟩) N.length cap, .bool true]) ∧ ILie w' g N ∧ N.length ≤ cap) ∧ Below w.heap.size w w' := by
  refine (nums_any c w hs).mono ?_
  rintro e w' ⟨h, hb⟩
  refine ⟨?_, hb⟩
  rcases h with ⟨M, g, cap, h1, h2, h3, h4, h5, h6⟩ | ⟨h1, _⟩
  · obtain rfl : M = N := code_inj e128_code e128_ne (h2.symm.trans hN)
    exact ⟨g, cap, h3, h4, h6⟩
  · exact absurd (dec_iff hg hN) (h1 _)
theorem nums_no {c : ByteArray} (h : ∀ a, ¬ Dec c.data.toList a) (w : World) (hs : c.size ≤ 1099511627) :
    Calls Tryd.prog 24 #[.string c] w fun e w' => (∃ v, e = .returned (.tuple #[v, .bool false])) ∧ Below w.heap.size w w' := by
  refine (nums_any c w hs).mono ?_
  rintro e w' ⟨h', hb⟩
  refine ⟨?_, hb⟩
  rcases h' with ⟨M, g, cap, h1, h2, _⟩ | ⟨_, h2⟩
  · exact absurd (dec_iff h1 h2) (h _)
  · exact h2
theorem itoaS (n : Nat) (w : World) (hn : n ≤ 9223372036854775807) (ht : Pow10 w) :
    Calls Tryd.prog 25 #[.int .i64 (n : Int)] w fun e w' => e = .returned (.string (decS n)) ∧ Below w.heap.size w w' := itoa_any n w hn ht

set_option maxRecDepth 100000 in
set_option maxHeartbeats 1000000 in
theorem decode_no {c : ByteArray} (h : ∀ a, ¬ Dec c.data.toList a) (w : World) (hs : c.size ≤ 1099511627) :
    Calls Tryd.prog 14 #[.string c] w fun e w' => e = .returned noVal ∧ Below w.heap.size w w' := by
  have HH := Lib.hid h
  clear h
  go_enter Tryd.func14, Tryd.ntmps14
  go_wp2_with (go_at_call 24; (with_reducible refine (nums_no HH.out _ hs).mono ?_); rintro e w1 ⟨⟨v, rfl⟩, hb1⟩; have HB1 := Lib.hid hb1; clear hb1)
  go_ret2
  exact ⟨rfl, HB1.out⟩

theorem arcs_len (m : Nat) (M : List Nat) (k : Nat) : ([min (m / 40) 2, m - 40 * min (m / 40) 2].map decS ++ (M.take k).map decS) = (arcsN (m :: M.take k)).map decS := by simp [arcsN]
theorem join_dec (a : List Nat) : Lib.join ((a.map decS).map (·.data.toList)) [46] = txt a := by
  rw [← join_txt, List.map_map]
  congr 1

set_option maxRecDepth 100000 in
set_option maxHeartbeats 2000000 in
theorem decode_yes {c : ByteArray} {N : List Nat} (hg : GoodN N) (hN : c.data.toList = cat e128 N) (w : World) (hs : c.size ≤ 1099511627) (ht : Pow10 w) :
    Calls Tryd.prog 14 #[.string c] w fun e w' => e = .returned (oidVal (arcsN N)) ∧ Below w.heap.size w w' := by
  obtain ⟨i0, hi, hz0, hz1, hz2⟩ := info_parts strInfo
  have HG := Lib.hid hg
  have HN := Lib.hid hN
  have HT := Lib.hid ht
  obtain ⟨m, M, rfl⟩ : ∃ m M, N = m :: M := by
    cases N with
    | nil => exact absurd hg.1 (by simp)
    | cons m M => exact ⟨m, M, rfl⟩
  have hM : M.length ≤ 10 := by have := hg.2.1; simp at this; omega
  have hm : m ≤ 2147483727 := by simpa using hg.2.2.1
  have HMM := Lib.hid (show ∀ v ∈ M, v ≤ 2147483647 from by simpa using hg.2.2.2)
  obtain ⟨q, hq⟩ : ∃ q, q = m / 40 := ⟨_, rfl⟩
  have hqi : (m : Int) / 40 = (q : Int) := by omega
  obtain ⟨f, hf⟩ : ∃ f, f = min q 2 := ⟨_, rfl⟩
  have hfi : min (q : Int) 2 = (f : Int) := by omega
  have hfb : f ≤ 2 := by omega
  have hf40 : 40 * f ≤ m := by omega
  obtain ⟨z, hz⟩ : ∃ z, z = m - 40 * f := ⟨_, rfl⟩
  have hzi : (m : Int) - 40 * (f : Int) = (z : Int) := by omega
  have hzb : z ≤ 2147483727 := by omega
  have HAR := Lib.hid (show ∀ k, (arcsN (m :: M.take k)).map decS = [decS f, decS z] ++ (M.take k).map decS from fun k => by rw [hz, hf, hq]; simp [arcsN])
  clear hq hf hz hg hN ht hf40
  go_enter Tryd.func14, Tryd.ntmps14
  go_upto_region 5 with (go_at_call 24; (with_reducible refine (nums_yes HG.out HN.out _ hs).mono ?_); rintro e w1 ⟨⟨g, cap, rfl, hl, hcp⟩, hb1⟩; have HB1 := Lib.hid hb1; have HL := Lib.hid hl; have hc0 := hl.cell 0 (by simp); simp only [List.length_cons] at hcp; simp only [List.getD_cons_zero] at hc0; clear hb1 hl)
  have hwr2 : IntKind.i64.wrap (40 * (f : Int)) = 40 * (f : Int) := by rw [wrap_i64]; omega
  have hwr3 : IntKind.i64.wrap (z : Int) = (z : Int) := by rw [wrap_i64]; omega
  have HB1D := Lib.hid (show Below w.heap.size w w1.drew from Below.drew HB1.out)
  have HT1 := Lib.hid (HT.out.below HB1D.out)
  have BF := Lib.hid (show f ≤ 9223372036854775807 by omega)
  have BZ := Lib.hid (show z ≤ 9223372036854775807 by omega)
  go_region_with (first
    | (go_at_call 25; (with_reducible refine (itoaS f _ BF.out HT1.out).mono ?_); rintro e w2 ⟨rfl, hb2⟩; have HB2 := Lib.hid (below_next HB1D.out hb2); have HT2 := Lib.hid (HT.out.below HB2.out); have HL2 := Lib.hid (HL.out.below ((Below.refl _ w1).drew.trans hb2)); have hc2 := HL2.out.cell 0 (by simp); simp only [List.getD_cons_zero] at hc2; clear hb2)
    | (go_at_call 25; (with_reducible refine (itoaS z _ BZ.out HT2.out).mono ?_); rintro e w3 ⟨rfl, hb3⟩; have HB3 := Lib.hid (below_next HB2.out hb3); have HL3 := Lib.hid (HL2.out.below hb3); clear hb3))
  all_goals
    have HO3 := Lib.hid (owns_two w3 (decS f) (decS z))
    have HB4 := Lib.hid (belowNew w3 (.cells #[.string (decS f), .string (decS z)] 9))
    clear hwr2 hwr3 hc0 hc2
    go_wp2_with fail
  all_goals
    go_loopw [7, 35] (fun u i wr => ∃ (k : Nat) (D : List ByteArray), k ≤ M.length ∧ i = .int .i64 (k : Int) ∧ D = (arcsN (m :: M.take k)).map decS ∧ D.length = k + 2 ∧ OwnS wr w3.heap.size u D ∧ Below w3.heap.size w3 wr) (fun _ i _ => M.length - (intOf i).toNat)
    case atStart => exact ⟨0, _, by omega, rfl, rfl, by rw [HAR.out]; rfl, by rw [HAR.out]; exact HO3.out, HB4.out⟩
    case round =>
      obtain ⟨k, D, hk, rfl, hD, hDl, ho, hb⟩ := hrel
      have HB := Lib.hid hb
      have HO := Lib.hid ho
      have HD := Lib.hid hD
      clear hb ho hD
      by_cases hlt : k < M.length
      · have dk : decide ((k : Int) < (M.length : Int)) = true := by simp; omega
        have hcx : wr.cell? ⟨g, 1 + k, none⟩ = some (.int .i64 ((M.getD k 0 : Nat) : Int)) := by
          have h1 := (HL3.out.below HB.out).2 (k + 1) (by simp; omega)
          rw [Nat.add_comm 1 k, h1]
          simp
        have hxb : M.getD k 0 ≤ 2147483647 := by
          rw [List.getD_eq_getElem?_getD, List.getElem?_eq_getElem hlt]
          exact HMM.out _ (by simp)
        have HN2 := Lib.hid (show D ++ [decS (M.getD k 0)] = (arcsN (m :: M.take (k + 1))).map decS by
          rw [HD.out, HAR.out, HAR.out, List.append_assoc, List.take_add_one, List.getD_eq_getElem?_getD, List.getElem?_eq_getElem hlt, List.map_append]
          rfl)
        generalize M.getD k 0 = x at hcx hxb HN2
        have BX := Lib.hid (show x ≤ 9223372036854775807 by omega)
        have HTR := Lib.hid (HT.out.below (below_next HB3.out HB.out))
        go_wp2_with (first
          | (go_at_call 25; (with_reducible refine (itoaS x _ BX.out HTR.out).mono ?_); rintro e w5 ⟨rfl, hb5⟩; have HO5 := Lib.hid (own_below HO.out hb5); have HB5 := Lib.hid (below_next HB.out hb5); clear hb5)
          | (at_builtin; (refine wpList_append_own _ rfl (.tmp 39) (.tmp 42) 25 rfl w3.heap.size 9 i0 (.string ⟨#[]⟩) 1 16 Tryd.underlying25 hi hz0 hz1 hz2 rfl (by decide) _ D.length (D.map Value.string) rfl (HO5.out.alloc _) ⟨w5.heap.size, 0, none⟩ 1 1 [.string (decS x)] rfl rfl (news_row w5 #[.string (decS x)] 9) (strs_one [decS x]) (by unfold maxLen; omega) (by omega) (by have := HB5.out.size; simp; omega) ?_); intro v' w6 hown2 hgr2 _; obtain ⟨P1, P2⟩ := strs_round (Nat.le_refl _) HO5.out HB5.out hown2 hgr2; have HP1 := Lib.hid P1; have HP2 := Lib.hid P2; clear hown2 hgr2 P1 P2))
        all_goals
          go_roundw
          case rel => exact ⟨k + 1, D ++ [decS x], by omega, by go_num, HN2.out, by simp; omega, HP1.out, HP2.out⟩
          case measure => simp [intOf]; omega
      · obtain rfl : k = M.length := by omega
        have dk : decide ((M.length : Int) < (M.length : Int)) = false := by simp
        obtain ⟨h, cp, rfl, hh1, hh2, hh3⟩ := owns_form HO.out (fun e => by rw [e] at hDl; simp at hDl)
        have HDD := Lib.hid (show D = (arcsN (m :: M)).map decS by rw [HD.out, List.take_of_length_le (Nat.le_refl _)])
        have HJ := Lib.hid (show Lib.join (D.map (·.data.toList)) [46] = txt (arcsN (m :: M)) by rw [HDD.out, join_dec])
        have hjl : (Lib.join (D.map (·.data.toList)) [46]).length ≤ 140737488355328 := by
          rw [HJ.out]
          refine Nat.le_trans (txt_len _ (goodN_arcs HG.out).1.2.2.1) ?_
          have := (goodN_arcs HG.out).1.2.1
          omega
        have HJL := Lib.hid hjl
        have hDb : D.length ≤ 12 := by omega
        have HH3 := Lib.hid hh3
        clear hjl hh3 hlt hDl hk
        go_wp2_with (go_at_call 26; (with_reducible refine (join_any h 0 cp D ⟨#[46]⟩ _ HH3.out hh1 (by omega) hh2 HJL.out).mono ?_); rintro e w5 ⟨rfl, hb5⟩; have HB5 := Lib.hid (below_next HB.out hb5); clear hb5)
        go_ret2
        refine ⟨?_, below_next HB3.out HB5.out⟩
        show _ = Ending.returned (oidVal (arcsN (m :: M)))
        rw [oidVal, ← HJ.out]
        rfl
end Go.Proofs.YtapokiplmcfmoaaDoor
