/-
  The contract of oid.Decode: the object identifier with these contents, if there is one.
  The contract of the definition's DecodeOID: the object identifier with these contents, if there is one.
-/
import Derived.Test.YtfpfgdbfigdooaaGreatDoorEat
import Derived.Test.YtfpfgdbfigdooaaGreatDoorEaz
namespace Go.Proofs.YtfpfgdbfigdooaaGreatDoor
open Go.RowKit

def oidVal (a : List Nat) : Value := .tuple #[.string (strOf (txt a)), .int .i64 0]
def OwnS (w : World) (B : Nat) (v : Value) (ss : List ByteArray) : Prop := w.ownsRow B 9 1 v ss.length (ss.map Value.string)
theorem strs_one (ss : List ByteArray) : ∀ v ∈ ss.map Value.string, v.oneCell' = true := by
  intro v hv; obtain ⟨b, _, rfl⟩ := List.mem_map.1 hv; rfl
def decS (n : Nat) : ByteArray := strOf (Lib.decDigits n)
theorem owns_two (w : World) (x y : ByteArray) : OwnS (w.alloc (.cells #[.string x, .string y] 9)) w.heap.size (.slice (some ⟨w.heap.size, 0, none⟩) 2 2) [x, y] :=
  ⟨rfl, .inr ⟨w.heap.size, 2, _, rfl, Nat.le_refl _, heap_alloc_new w _, Nat.le_refl _, by decide, rfl, rfl⟩⟩
theorem owns_form {w : World} {B : Nat} {v : Value} {ss : List ByteArray} (h : OwnS w B v ss) (h0 : ss ≠ []) :
    ∃ g cp, v = .slice (some ⟨g, 0, none⟩) ss.length cp ∧ g < w.heap.size ∧ ss.length ≤ cp ∧ ∀ (j : Nat) x, ss[j]? = some x → w.cell? ⟨g, 0 + j, none⟩ = some (.string x) := by
  rcases h.2 with ⟨_, h1⟩ | ⟨g, cap, cur, rfl, hB, hg, hn, _, hcs, htk⟩
  · exact absurd (List.eq_nil_of_length_eq_zero h1) h0
  · refine ⟨g, cap, rfl, (Array.getElem?_eq_some_iff.1 hg).1, hn, fun j x hx => ?_⟩
    have hj := (List.getElem?_eq_some_iff.1 hx).1
    rw [Nat.zero_add, cell_of_row w g j _ _ _ hg]
    have : (cur.toList.take (ss.length * 1))[j]? = some (.string ss[j]) := by rw [htk]; simp [hj]
    rw [List.getElem?_take_of_lt (by omega)] at this
    rw [List.getElem?_eq_getElem hj] at hx
    rw [← Option.some.inj hx]
    simpa using this
theorem strs_round {w wr w2 : World} {B : Nat} {v v' : Value} {D : List ByteArray} {y : ByteArray} {X : Obj} (hB : w.heap.size ≤ B) (hown : OwnS wr B v D) (hb : Below w.heap.size w wr)
    (hown2 : w2.ownsRow B 9 1 v' (D.length + 1) (D.map Value.string ++ [.string y])) (hgr2 : (wr.alloc X).grownBy w2 v.ownBlock) : OwnS w2 B v' (D ++ [y]) ∧ Below w.heap.size w w2 := by
  refine ⟨?_, ?_⟩
  · unfold OwnS
    rw [List.length_append, List.map_append]; exact hown2
  · exact (Below.alloc hb hb.size X).grown hgr2 (by simp; have := hb.size; omega) (fun k e => Nat.le_trans hB (World.ownsRow.lt hown k e).1)
theorem nums_yes {c : ByteArray} {N : List Nat} (hg : GoodN N) (hN : c.data.toList = cat e128 N) (w : World) (hs : c.size ≤ 1099511627) :
    Calls Tryz.prog 179 #[.string c] w fun e w' => (∃ g cap, e = .returned (.tuple #[.slice (some ⟨g, 0, none⟩) N.length cap, .bool true]) ∧ ILie w' g N ∧ N.length ≤ cap) ∧ Below w.heap.size w w' := by
  refine (nums_any c w hs).mono ?_
  rintro e w' ⟨h, hb⟩
  refine ⟨?_, hb⟩
  rcases h with ⟨M, g, cap, h1, h2, h3, h4, h5, h6⟩ | ⟨h1, _⟩
  · obtain rfl : M = N := code_inj e128_code e128_ne (h2.symm.trans hN)
    exact ⟨g, cap, h3, h4, h6⟩
  · exact absurd (dec_iff hg hN) (h1 _)
theorem nums_no {c : ByteArray} (h : ∀ a, ¬ Dec c.data.toList a) (w : World) (hs : c.size ≤ 1099511627) :
    Calls Tryz.prog 179 #[.string c] w fun e w' => (∃ v, e = .returned (.tuple #[v, .bool false])) ∧ Below w.heap.size w w' := by
  refine (nums_any c w hs).mono ?_
  rintro e w' ⟨h', hb⟩
  refine ⟨?_, hb⟩
  rcases h' with ⟨M, g, cap, h1, h2, _⟩ | ⟨_, h2⟩
  · exact absurd (dec_iff h1 h2) (h _)
  · exact h2
theorem itoaS (n : Nat) (w : World) (hn : n ≤ 9223372036854775807) (ht : Pow10 w) :
    Calls Tryz.prog 180 #[.int .i64 (n : Int)] w fun e w' => e = .returned (.string (decS n)) ∧ Below w.heap.size w w' := itoa_any n w hn ht

set_option maxRecDepth 100000 in
set_option maxHeartbeats 1000000 in
theorem decode_no {c : ByteArray} (h : ∀ a, ¬ Dec c.data.toList a) (w : World) (hs : c.size ≤ 1099511627) :
    Calls Tryz.prog 146 #[.string c] w fun e w' => e = .returned noVal ∧ Below w.heap.size w w' := by
  have HH := Lib.hid h
  clear h
  go_enter Tryz.func146, Tryz.ntmps146
  go_wp2_with (go_at_call 179; (with_reducible refine (nums_no HH.out _ hs).mono ?_); rintro e w1 ⟨⟨v, rfl⟩, hb1⟩; have HB1 := Lib.hid hb1; clear hb1)
  go_ret2
  exact ⟨rfl, HB1.out⟩

theorem arcs_len (m : Nat) (M : List Nat) (k : Nat) : ([min (m / 40) 2, m - 40 * min (m / 40) 2].map decS ++ (M.take k).map decS) = (arcsN (m :: M.take k)).map decS := by simp [arcsN]
theorem join_dec (a : List Nat) : Lib.join ((a.map decS).map (·.data.toList)) [46] = txt a := by
  rw [← join_txt, List.map_map]
  congr 1

set_option maxRecDepth 100000 in
set_option maxHeartbeats 2000000 in
theorem decode_yes {c : ByteArray} {N : List Nat} (hg : GoodN N) (hN : c.data.toList = cat e128 N) (w : World) (hs : c.size ≤ 1099511627) (ht : Pow10 w) :
    Calls Tryz.prog 146 #[.string c] w fun e w' => e = .returned (oidVal (arcsN N)) ∧ Below w.heap.size w w' := by
  obtain ⟨i0, hi, hz0, hz1, hz2⟩ := info_parts strInfo
  have HG := Lib.hid hg
  have HN := Lib.hid hN
  have HT := Lib.hid ht
  obtain ⟨m, M, rfl⟩ : ∃ m M, N = m :: M := by
    cases N with
    | nil => exact absurd hg.1 (by simp)
    | cons m M => exact ⟨m, M, rfl⟩
  have hM : M.length ≤ 10 := by have := hg.2.1; simp at this; omega
  have hm : m ≤ 2147483727 := by simpa using hg.2.2.1
  have HMM := Lib.hid (show ∀ v ∈ M, v ≤ 2147483647 from by simpa using hg.2.2.2)
  obtain ⟨q, hq⟩ : ∃ q, q = m / 40 := ⟨_, rfl⟩
  have hqi : (m : Int) / 40 = (q : Int) := by omega
  obtain ⟨f, hf⟩ : ∃ f, f = min q 2 := ⟨_, rfl⟩
  have hfi : min (q : Int) 2 = (f : Int) := by omega
  have hfb : f ≤ 2 := by omega
  have hf40 : 40 * f ≤ m := by omega
  obtain ⟨z, hz⟩ : ∃ z, z = m - 40 * f := ⟨_, rfl⟩
  have hzi : (m : Int) - 40 * (f : Int) = (z : Int) := by omega
  have hzb : z ≤ 2147483727 := by omega
  have HAR := Lib.hid (show ∀ k, (arcsN (m :: M.take k)).map decS = [decS f, decS z] ++ (M.take k).map decS from fun k => by rw [hz, hf, hq]; simp [arcsN])
  clear hq hf hz hg hN ht hf40
  go_enter Tryz.func146, Tryz.ntmps146
  go_upto_region 5 with (go_at_call 179; (with_reducible refine (nums_yes HG.out HN.out _ hs).mono ?_); rintro e w1 ⟨⟨g, cap, rfl, hl, hcp⟩, hb1⟩; have HB1 := Lib.hid hb1; have HL := Lib.hid hl; have hc0 := hl.cell 0 (by simp); simp only [List.length_cons] at hcp; simp only [List.getD_cons_zero] at hc0; clear hb1 hl)
  have hwr2 : IntKind.i64.wrap (40 * (f : Int)) = 40 * (f : Int) := by rw [wrap_i64]; omega
  have hwr3 : IntKind.i64.wrap (z : Int) = (z : Int) := by rw [wrap_i64]; omega
  have HB1D := Lib.hid (show Below w.heap.size w w1.drew from Below.drew HB1.out)
  have HT1 := Lib.hid (HT.out.below HB1D.out)
  have BF := Lib.hid (show f ≤ 9223372036854775807 by omega)
  have BZ := Lib.hid (show z ≤ 9223372036854775807 by omega)
  go_region_with (first
    | (go_at_call 180; (with_reducible refine (itoaS f _ BF.out HT1.out).mono ?_); rintro e w2 ⟨rfl, hb2⟩; have HB2 := Lib.hid (below_next HB1D.out hb2); have HT2 := Lib.hid (HT.out.below HB2.out); have HL2 := Lib.hid (HL.out.below ((Below.refl _ w1).drew.trans hb2)); have hc2 := HL2.out.cell 0 (by simp); simp only [List.getD_cons_zero] at hc2; clear hb2)
    | (go_at_call 180; (with_reducible refine (itoaS z _ BZ.out HT2.out).mono ?_); rintro e w3 ⟨rfl, hb3⟩; have HB3 := Lib.hid (below_next HB2.out hb3); have HL3 := Lib.hid (HL2.out.below hb3); clear hb3))
  all_goals
    have HO3 := Lib.hid (owns_two w3 (decS f) (decS z))
    have HB4 := Lib.hid (belowNew w3 (.cells #[.string (decS f), .string (decS z)] 9))
    clear hwr2 hwr3 hc0 hc2
    go_wp2_with fail
  all_goals
    go_loopw [7, 35] (fun u i wr => ∃ (k : Nat) (D : List ByteArray), k ≤ M.length ∧ i = .int .i64 (k : Int) ∧ D = (arcsN (m :: M.take k)).map decS ∧ D.length = k + 2 ∧ OwnS wr w3.heap.size u D ∧ Below w3.heap.size w3 wr) (fun _ i _ => M.length - (intOf i).toNat)
    case atStart => exact ⟨0, _, by omega, rfl, rfl, by rw [HAR.out]; rfl, by rw [HAR.out]; exact HO3.out, HB4.out⟩
    case round =>
      obtain ⟨k, D, hk, rfl, hD, hDl, ho, hb⟩ := hrel
      have HB := Lib.hid hb
      have HO := Lib.hid ho
      have HD := Lib.hid hD
      clear hb ho hD
      by_cases hlt : k < M.length
      · have dk : decide ((k : Int) < (M.length : Int)) = true := by simp; omega
        have hcx : wr.cell? ⟨g, 1 + k, none⟩ = some (.int .i64 ((M.getD k 0 : Nat) : Int)) := by
          have h1 := (HL3.out.below HB.out).2 (k + 1) (by simp; omega)
          rw [Nat.add_comm 1 k, h1]
          simp
        have hxb : M.getD k 0 ≤ 2147483647 := by
          rw [List.getD_eq_getElem?_getD, List.getElem?_eq_getElem hlt]
          exact HMM.out _ (by simp)
        have HN2 := Lib.hid (show D ++ [decS (M.getD k 0)] = (arcsN (m :: M.take (k + 1))).map decS by
          rw [HD.out, HAR.out, HAR.out, List.append_assoc, List.take_add_one, List.getD_eq_getElem?_getD, List.getElem?_eq_getElem hlt, List.map_append]
          rfl)
        generalize M.getD k 0 = x at hcx hxb HN2
        have BX := Lib.hid (show x ≤ 9223372036854775807 by omega)
        have HTR := Lib.hid (HT.out.below (below_next HB3.out HB.out))
        go_wp2_with (first
          | (go_at_call 180; (with_reducible refine (itoaS x _ BX.out HTR.out).mono ?_); rintro e w5 ⟨rfl, hb5⟩; have HO5 := Lib.hid (own_below HO.out hb5); have HB5 := Lib.hid (below_next HB.out hb5); clear hb5)
          | (at_builtin; (refine wpList_append_own _ rfl (.tmp 39) (.tmp 42) 43 rfl w3.heap.size 9 i0 (.string ⟨#[]⟩) 1 16 Tryz.underlying43 hi hz0 hz1 hz2 rfl (by decide) _ D.length (D.map Value.string) rfl (HO5.out.alloc _) ⟨w5.heap.size, 0, none⟩ 1 1 [.string (decS x)] rfl rfl (news_row w5 #[.string (decS x)] 9) (strs_one [decS x]) (by unfold maxLen; omega) (by omega) (by have := HB5.out.size; simp; omega) ?_); intro v' w6 hown2 hgr2 _; obtain ⟨P1, P2⟩ := strs_round (Nat.le_refl _) HO5.out HB5.out hown2 hgr2; have HP1 := Lib.hid P1; have HP2 := Lib.hid P2; clear hown2 hgr2 P1 P2))
        all_goals
          go_roundw
          case rel => exact ⟨k + 1, D ++ [decS x], by omega, by go_num, HN2.out, by simp; omega, HP1.out, HP2.out⟩
          case measure => simp [intOf]; omega
      · obtain rfl : k = M.length := by omega
        have dk : decide ((M.length : Int) < (M.length : Int)) = false := by simp
        obtain ⟨h, cp, rfl, hh1, hh2, hh3⟩ := owns_form HO.out (fun e => by rw [e] at hDl; simp at hDl)
        have HDD := Lib.hid (show D = (arcsN (m :: M)).map decS by rw [HD.out, List.take_of_length_le (Nat.le_refl _)])
        have HJ := Lib.hid (show Lib.join (D.map (·.data.toList)) [46] = txt (arcsN (m :: M)) by rw [HDD.out, join_dec])
        have hjl : (Lib.join (D.map (·.data.toList)) [46]).length ≤ 140737488355328 := by
          rw [HJ.out]
          refine Nat.le_trans (txt_len _ (goodN_arcs HG.out).1.2.2.1) ?_
          have := (goodN_arcs HG.out).1.2.1
          omega
        have HJL := Lib.hid hjl
        have hDb : D.length ≤ 12 := by omega
        have HH3 := Lib.hid hh3
        clear hjl hh3 hlt hDl hk
        go_wp2_with (go_at_call 74; (with_reducible refine (join_any h 0 cp D ⟨#[46]⟩ _ HH3.out hh1 (by omega) hh2 HJL.out).mono ?_); rintro e w5 ⟨rfl, hb5⟩; have HB5 := Lib.hid (below_next HB.out hb5); clear hb5)
        go_ret2
        refine ⟨?_, below_next HB3.out HB5.out⟩
        show _ = Ending.returned (oidVal (arcsN (m :: M)))
        rw [oidVal, ← HJ.out]
        rfl
end Go.Proofs.YtfpfgdbfigdooaaGreatDoor
namespace Go.Proofs.YtfpfgdbfigdooaaGreatDoor
open Go.RowKit

/-- What Decode and its definition answer. -/
def Decd (c : List UInt8) (e : Ending) : Prop := (∃ a, Dec c a ∧ e = .returned (oidVal a)) ∨ ((∀ a, ¬ Dec c a) ∧ e = .returned noVal)
theorem decode_any (c : ByteArray) (w : World) (hs : c.size ≤ 1099511627) (ht : Pow10 w) :
    Calls Tryz.prog 146 #[.string c] w fun e w' => Decd c.data.toList e ∧ Below w.heap.size w w' := by
  by_cases h : ∃ a, Dec c.data.toList a
  · obtain ⟨a, h1, h2⟩ := h
    have hg := good_nums h1
    refine (decode_yes hg.1 h2 w hs ht).mono ?_
    rintro e w' ⟨rfl, hb⟩
    exact ⟨.inl ⟨a, ⟨h1, h2⟩, by rw [hg.2]⟩, hb⟩
  · have h' : ∀ a, ¬ Dec c.data.toList a := fun a k => h ⟨a, k⟩
    refine (decode_no h' w hs).mono ?_
    rintro e w' ⟨rfl, hb⟩
    exact ⟨.inr ⟨h', rfl⟩, hb⟩
theorem arcs_snoc {A : List Nat} (h : A ≠ []) (x : Nat) : arcsN (A ++ [x]) = arcsN A ++ [x] := by
  cases A with
  | nil => exact absurd rfl h
  | cons m M => simp [arcsN]
theorem arcs_ne {A : List Nat} (h : A ≠ []) : arcsN A ≠ [] := by
  cases A with
  | nil => exact absurd rfl h
  | cons m M => simp [arcsN]
theorem dec_le10' {v : Nat} (h : v ≤ 2147483727) : (Lib.decDigits v).length ≤ 10 := dec_len 10 v (Nat.lt_of_le_of_lt h (by decide)) (by omega)
theorem cat_nil_e {M : List Nat} (h : ([] : List UInt8) = cat e128 M) : M = [] := by
  cases M with
  | nil => rfl
  | cons m M => have := h.symm; simp [cat, e128] at this
theorem limit_le {A M : List Nat} {m : Nat} (h : GoodN (A ++ m :: M)) : m ≤ 2147483727 := by
  have := limit_of h
  split at this <;> omega

set_option maxRecDepth 100000 in
set_option maxHeartbeats 8000000 in
theorem rdecode_any (c : ByteArray) (w : World) (hs : c.size ≤ 1099511627) :
    Calls Tryz.prog 72 #[.string c] w fun e w' => Decd c.data.toList e ∧ Below w.heap.size w w' := by
  go_enter Tryz.func72, Tryz.ntmps72
  go_wp2_with fail
  go_loopw [4, 5, 6, 7, 8] (fun s v o n i wr => ∃ (j : Nat) (A : List Nat) (u : List UInt8) (x k : Nat) (op : Bool) (T : List UInt8), j ≤ c.size ∧ i = .int .i64 (j : Int) ∧ c.data.toList.take j = cat e128 A ++ u ∧ (∀ b ∈ u, 128 ≤ b.toNat) ∧ u.head? ≠ some 128 ∧ x = val7 u ∧ x ≤ 2147483727 ∧ v = .int .i64 (x : Int) ∧ o = .bool op ∧ op = !u.isEmpty ∧ A.length ≤ 11 ∧ k = (if A = [] then 0 else A.length + 1) ∧ n = .int .i64 (k : Int) ∧ T = txt (arcsN A) ∧ T.length ≤ 11 * (A.length + 1) ∧ s = .string (strOf T) ∧ Below w.heap.size w wr) (fun _ _ _ _ i _ => c.size - (intOf i).toNat)
  case atStart => exact ⟨0, [], [], 0, 0, false, [], by omega, rfl, rfl, by simp, by simp, rfl, by omega, rfl, rfl, rfl, by simp, rfl, rfl, rfl, by simp, rfl, Below.refl _ _⟩
  case round =>
    obtain ⟨j, A, u, x, k, op, T, hj, rfl, htk, hall, hhd, hx, hxb, rfl, rfl, hop, hA, hk, rfl, hT, hTl, rfl, hb⟩ := hrel
    have HB := Lib.hid hb
    have HTK := Lib.hid htk
    have HALL := Lib.hid hall
    have HHD := Lib.hid hhd
    have HX := Lib.hid hx
    have HK := Lib.hid hk
    have HT := Lib.hid hT
    have hkb : k ≤ 12 := by rw [hk]; split <;> omega
    clear hb htk hall hhd hx hk hT
    by_cases hlt : j < c.size
    · have dj : decide ((j : Int) < (c.size : Int)) = true := by simp; omega
      have hij := fun w => run_index_u8 (P := Tryz.prog) Tryz.underlying9 c j hlt (j : Int) rfl w
      obtain ⟨b, hb, hbv⟩ := u8at_list c j hlt
      obtain ⟨y, hy⟩ : ∃ y, y = u8at c j := ⟨_, rfl⟩
      have hy256 : y < 256 := by rw [hy]; exact u8at_lt c j
      rw [← hy] at hij hbv
      have HS := Lib.hid (show c.data.toList = cat e128 A ++ (u ++ b :: c.data.toList.drop (j + 1)) by
        rw [← List.append_assoc, ← HTK.out]
        exact at_split _ _ _ hb)
      have HSN := Lib.hid (show c.data.toList.take (j + 1) = cat e128 A ++ (u ++ [b]) by
        rw [take_snoc hb, HTK.out, List.append_assoc])
      have HDN := Lib.hid (fun a (h : Dec c.data.toList a) => dec_next HS.out h)
      clear hy hb
      obtain ⟨y7, hy7⟩ : ∃ y7, y7 = y % 128 := ⟨_, rfl⟩
      have hy7i : (y : Int) % 128 = (y7 : Int) := by omega
      have hy7b : y7 < 128 := by omega
      obtain ⟨x2, hx2⟩ : ∃ x2, x2 = 128 * x + y7 := ⟨_, rfl⟩
      have hx2i : 128 * (x : Int) + (y : Int) % 128 = (x2 : Int) := by omega
      have hx2b : x2 < 274877920000 := by omega
      have HX2 := Lib.hid (show x2 = val7 (u ++ [b]) by rw [val7_snoc, ← HX.out, hx2, hy7, hbv])
      clear hx2 hy7i hy7b hy7
      by_cases hbad : u = [] ∧ y = 128
      · obtain ⟨rfl, rfl⟩ := hbad
        have HNO := Lib.hid (show ∀ a, ¬ Dec c.data.toList a from fun a h => by
          obtain ⟨M, _, h2, h3⟩ := HDN.out a h
          refine next_head h2 ?_
          rw [List.nil_append, List.head?_cons]
          congr 1
          exact UInt8.toNat_inj.1 (by rw [← hbv]; rfl))
        obtain rfl : op = false := hop
        clear hbv
        go_wp2_with fail
        go_ret2
        exact ⟨.inr ⟨HNO.out, rfl⟩, HB.out⟩
      · have HOR := Lib.hid (show (u = [] ∧ y ≠ 128) ∨ u ≠ [] by
          by_cases hu : u = []
          · left; exact ⟨hu, fun e => hbad ⟨hu, e⟩⟩
          · right; exact hu)
        have HUB := Lib.hid (show (u ++ [b]).head? ≠ some 128 by
          rcases HOR.out with ⟨rfl, h⟩ | h
          · intro e
            refine h ?_
            rw [hbv, Option.some.inj e]; rfl
          · rw [head_left h]; exact HHD.out)
        have hor : (op = false ∧ ((y : Int) == 128) = false) ∨ op = true := by
          rcases HOR.out with ⟨rfl, h⟩ | h
          · left; exact ⟨hop, beq_eq_false_iff_ne.2 (by omega)⟩
          · right; rw [hop]; cases u with
            | nil => exact absurd rfl h
            | cons => rfl
        clear hbad hop
        by_cases hbig : 2147483727 < x2
        · have d1 : decide (2147483727 < (x2 : Int)) = true := by simp; omega
          have HNO := Lib.hid (show ∀ a, ¬ Dec c.data.toList a from fun a h => by
            obtain ⟨M, _, h2, h3⟩ := HDN.out a h
            obtain ⟨m, M', rfl, h5⟩ := next_ge2 h2 rfl HALL.out
            have h6 := limit_le h3
            rw [← HX2.out] at h5
            omega)
          clear hbv
          rcases hor with ⟨rfl, g2⟩ | rfl
          all_goals
            go_wp2_with fail
            go_ret2
            exact ⟨.inr ⟨HNO.out, rfl⟩, HB.out⟩
        · have d1 : decide (2147483727 < (x2 : Int)) = false := by simp; omega
          by_cases hend : y < 128
          · have d2 : decide (128 ≤ (y : Int)) = false := by simp; omega
            have HE := Lib.hid (show u ++ [b] = e128 x2 by
              rw [HX2.out]
              exact e128_of _ _ HALL.out HUB.out (by omega))
            have HA2 := Lib.hid (show c.data.toList.take (j + 1) = cat e128 (A ++ [x2]) ++ [] by
              rw [HSN.out, HE.out, cat_append]; simp [cat])
            clear hbv
            by_cases hA0 : A = []
            · obtain rfl : k = 0 := by rw [HK.out, if_pos hA0]
              subst hA0
              obtain ⟨q, hq⟩ : ∃ q, q = x2 / 40 := ⟨_, rfl⟩
              have hqi : (x2 : Int) / 40 = (q : Int) := by omega
              obtain ⟨f, hf⟩ : ∃ f, f = min q 2 := ⟨_, rfl⟩
              have hfi : min (q : Int) 2 = (f : Int) := by omega
              have hfb : f ≤ 2 := by omega
              obtain ⟨z, hz⟩ : ∃ z, z = x2 - 40 * f := ⟨_, rfl⟩
              have hzi : (x2 : Int) - 40 * (f : Int) = (z : Int) := by omega
              have hzb : z ≤ 2147483727 := by omega
              have HT2 := Lib.hid (show Lib.decDigits f ++ 46 :: Lib.decDigits z = txt (arcsN ([] ++ [x2])) by rw [hz, hf, hq]; simp [arcsN, txt])
              have HL2 := Lib.hid (show (Lib.decDigits f ++ 46 :: Lib.decDigits z).length ≤ 11 * (([] ++ [x2] : List Nat).length + 1) by
                have h1 := dec_le10' (v := f) (by omega)
                have h2 := dec_le10' hzb
                simp; omega)
              have c1 := add_dot (Lib.decDigits f) (Nat.le_trans (dec_le10' (by omega)) (by omega))
              have c2 := add_str (Lib.decDigits f ++ [46]) (Lib.decDigits z) (by have := HL2.out; simp at this ⊢; omega)
              have BF := Lib.hid (show f ≤ 9223372036854775807 by omega)
              have BZ := Lib.hid (show z ≤ 9223372036854775807 by omega)
              clear hq hf hz
              rcases hor with ⟨rfl, g2⟩ | rfl
              all_goals
                go_wp2_with (first
                  | (go_at_call 112; (with_reducible refine (decno_any f _ BF.out).mono ?_); rintro e w1 ⟨rfl, hb1⟩; have HB1 := Lib.hid hb1; clear hb1)
                  | (go_at_call 112; (with_reducible refine (decno_any z _ BZ.out).mono ?_); rintro e w2 ⟨rfl, hb2⟩; have HB2 := Lib.hid hb2; clear hb2))
                go_roundw
                case rel => exact ⟨j + 1, [] ++ [x2], [], 0, 2, false, Lib.decDigits f ++ 46 :: Lib.decDigits z, by omega, by go_num, HA2.out, by simp, by simp, rfl, by omega, rfl, rfl, rfl, by simp, rfl, rfl, HT2.out, HL2.out, rfl, below_next (below_next HB.out HB1.out) HB2.out⟩
                case measure => simp [intOf]; omega
            · have hk1 : k = A.length + 1 := by rw [HK.out, if_neg hA0]
              have dk : ((k : Int) == 0) = false := beq_eq_false_iff_ne.2 (by omega)
              have HT2 := Lib.hid (show T ++ 46 :: Lib.decDigits x2 = txt (arcsN (A ++ [x2])) by
                rw [arcs_snoc hA0, txt_snoc _ (arcs_ne hA0), HT.out])
              have hd10 := dec_le10' (v := x2) (by omega)
              have HL2 := Lib.hid (show (T ++ 46 :: Lib.decDigits x2).length ≤ 11 * ((A ++ [x2]).length + 1) by simp; omega)
              have c1 := dot_add (Lib.decDigits x2) (by omega)
              have c2 := add_str T (46 :: Lib.decDigits x2) (by simp; omega)
              have BX := Lib.hid (show x2 ≤ 9223372036854775807 by omega)
              have HA0 := Lib.hid hA0
              clear hA0 hd10
              by_cases h11 : A.length = 11
              · have dn : decide (12 < (k : Int) + 1) = true := by simp; omega
                have HNO := Lib.hid (show ∀ a, ¬ Dec c.data.toList a from fun a h => by
                  obtain ⟨M, h1, h2, h3⟩ := HDN.out a h
                  cases M with
                  | nil => simp [cat] at h2
                  | cons m M' => have := h3.2.1; simp at this; omega)
                clear h11 hk1
                rcases hor with ⟨rfl, g2⟩ | rfl
                all_goals
                  go_wp2_with (go_at_call 112; (with_reducible refine (decno_any x2 _ BX.out).mono ?_); rintro e w1 ⟨rfl, hb1⟩; have HB1 := Lib.hid hb1; clear hb1)
                  go_ret2
                  exact ⟨.inr ⟨HNO.out, rfl⟩, below_next HB.out HB1.out⟩
              · have dn : decide (12 < (k : Int) + 1) = false := by simp; omega
                have hA10 : A.length ≤ 10 := by omega
                have HK2 := Lib.hid (show k + 1 = (if A ++ [x2] = [] then 0 else (A ++ [x2]).length + 1) by rw [if_neg (by simp)]; simp; omega)
                clear h11 hk1
                rcases hor with ⟨rfl, g2⟩ | rfl
                all_goals
                  go_wp2_with (go_at_call 112; (with_reducible refine (decno_any x2 _ BX.out).mono ?_); rintro e w1 ⟨rfl, hb1⟩; have HB1 := Lib.hid hb1; clear hb1)
                  go_roundw
                  case rel => exact ⟨j + 1, A ++ [x2], [], 0, k + 1, false, T ++ 46 :: Lib.decDigits x2, by omega, by go_num, HA2.out, by simp, by simp, rfl, by omega, rfl, rfl, rfl, by simp; omega, HK2.out, by go_num, HT2.out, HL2.out, rfl, below_next HB.out HB1.out⟩
                  case measure => simp [intOf]; omega
          · have d2 : decide (128 ≤ (y : Int)) = true := by simp; omega
            have HAL2 := Lib.hid (show ∀ z ∈ u ++ [b], 128 ≤ z.toNat by
              intro z hz
              rcases List.mem_append.1 hz with hz | hz
              · exact HALL.out z hz
              · obtain rfl : z = b := by simpa using hz
                omega)
            have HNE2 := Lib.hid (show true = (!(u ++ [b]).isEmpty) by simp)
            clear hbv
            rcases hor with ⟨rfl, g2⟩ | rfl
            all_goals
              go_wp2_with fail
              go_roundw
              case rel => exact ⟨j + 1, A, u ++ [b], x2, k, true, T, by omega, by go_num, HSN.out, HAL2.out, HUB.out, HX2.out, by omega, rfl, rfl, HNE2.out, hA, HK.out, rfl, HT.out, hTl, rfl, HB.out⟩
              case measure => simp [intOf]; omega
    · obtain rfl : j = c.size := by omega
      have dj : decide ((c.size : Int) < (c.size : Int)) = false := by simp
      have HC := Lib.hid (show c.data.toList = cat e128 A ++ u by rw [← HTK.out, List.take_of_length_le (show c.data.toList.length ≤ c.size from Nat.le_refl _)])
      have HDN := Lib.hid (fun a (h : Dec c.data.toList a) => dec_next HC.out h)
      clear hlt
      by_cases h0 : c.size = 0
      · have d0 : ((c.size : Int) == 0) = true := by rw [h0]; rfl
        clear hop
        have HNO := Lib.hid (show ∀ a, ¬ Dec c.data.toList a from fun a h => by
          have hn : c.data.toList = [] := List.eq_nil_of_length_eq_zero h0
          have h2 := h.2
          rw [hn] at h2
          have h3 := (good_nums h.1).1.1
          rw [cat_nil_e h2] at h3
          simp at h3)
        clear h0
        go_wp2_with fail
        all_goals
          go_ret2
          exact ⟨.inr ⟨HNO.out, rfl⟩, HB.out⟩
      · have d0 : ((c.size : Int) == 0) = false := beq_eq_false_iff_ne.2 (by omega)
        by_cases hu : u = []
        · subst hu
          obtain rfl : op = false := hop
          have hA0 : A ≠ [] := by
            rintro rfl
            refine h0 ?_
            show c.data.toList.length = 0
            rw [HC.out]; rfl
          have HCC := Lib.hid (show c.data.toList = cat e128 A by rw [HC.out, List.append_nil])
          have hTs : (strOf T).size ≤ 1099511627 := by rw [strOf_size]; omega
          have HTS := Lib.hid hTs
          rcases oid_or (strOf T).data.toList with ⟨a, ho⟩ | hno
          · have HO := Lib.hid ho
            have HYES := Lib.hid (show Dec c.data.toList (arcsN A) ∧ T = txt (arcsN A) from by
              have ho' := ho
              rw [strOf_list, HT.out] at ho'
              have e := good_of_txt (arcs_ne hA0) ho'
              subst e
              exact ⟨dec_iff (goodN_of hA0 ho'.1) HCC.out, HT.out⟩)
            clear h0 hA0 ho hTs
            go_wp2_with (go_at_call 65; (with_reducible refine (rvalid_yes HO.out _ HTS.out).mono ?_); rintro e w1 ⟨rfl, hb1⟩; have HB1 := Lib.hid hb1; clear hb1)
            all_goals
              go_ret2
              exact ⟨.inl ⟨arcsN A, HYES.out.1, by rw [HYES.out.2]; rfl⟩, below_next HB.out HB1.out⟩
          · have HNV := Lib.hid hno
            have HNO := Lib.hid (show ∀ a, ¬ Dec c.data.toList a from fun a h => by
              have e : numsOf a = A := code_inj e128_code e128_ne (h.2.symm.trans HCC.out)
              have g := good_nums h.1
              refine hno (arcsN A) ?_
              rw [strOf_list, HT.out, ← e, g.2]
              exact oid_of h.1)
            clear h0 hA0 hno hTs
            go_wp2_with (go_at_call 65; (with_reducible refine (rvalid_no HNV.out _ HTS.out).mono ?_); rintro e w1 ⟨rfl, hb1⟩; have HB1 := Lib.hid hb1; clear hb1)
            all_goals
              go_ret2
              exact ⟨.inr ⟨HNO.out, rfl⟩, below_next HB.out HB1.out⟩
        · obtain rfl : op = true := by
            rw [hop]
            cases u with
            | nil => exact absurd rfl hu
            | cons => rfl
          have HNO := Lib.hid (show ∀ a, ¬ Dec c.data.toList a from fun a h => by
            obtain ⟨M, _, h2, h3⟩ := HDN.out a h
            exact next_open h2 HALL.out hu)
          clear h0 hu hop
          go_wp2_with fail
          all_goals
            go_ret2
            exact ⟨.inr ⟨HNO.out, rfl⟩, HB.out⟩
end Go.Proofs.YtfpfgdbfigdooaaGreatDoor
