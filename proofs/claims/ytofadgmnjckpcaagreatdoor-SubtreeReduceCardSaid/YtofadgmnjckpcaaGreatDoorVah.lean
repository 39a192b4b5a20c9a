/-
  The contracts of the reference's Split and short: the pieces of a text; the short types and their object identifiers.
  The contract of the reference's Split: the pieces of a text.
  The contracts of the reference's alike and ends: two texts that differ in case only; a text that ends with another one.
  The contract of the reference's DNS: whether a text is a DNS name.
-/
import Derived.Test.YtofadgmnjckpcaaGreatDoorVag
import Derived.Test.YtofadgmnjckpcaaGreatDoorVac
import Derived.Test.YtofadgmnjckpcaaGreatDoorVad
namespace Go.Proofs.YtofadgmnjckpcaaGreatDoor
open Go.RowKit

/-- The slice value v, of memory from block B on, holds the texts ss. -/
def OwnT (w : World) (B : Nat) (v : Value) (ss : List ByteArray) : Prop := w.ownsRow B 9 1 v ss.length (ss.map Value.string)
theorem OwnT.cells {w : World} {B N : Nat} {v : Value} {ss : List ByteArray} (h : OwnT w B v ss) (hN : N = ss.length) (h0 : ss ≠ []) :
    ∃ g cp, v = .slice (some ⟨g, 0, none⟩) N cp ∧ g < w.heap.size ∧ B ≤ g ∧ N ≤ cp ∧ ∀ j, j < N → w.cell? ⟨g, j, none⟩ = some (.string (ss.getD j ⟨#[]⟩)) := by
  subst hN
  rcases h.2 with ⟨_, h1⟩ | ⟨g, cap, cur, rfl, hB, hg, hn, _, hcs, htk⟩
  · exact absurd (List.eq_nil_of_length_eq_zero h1) h0
  · refine ⟨g, cap, rfl, (Array.getElem?_eq_some_iff.1 hg).1, hB, hn, fun j hj => ?_⟩
    rw [cell_of_row w g j _ _ _ hg]
    have : (cur.toList.take (ss.length * 1))[j]? = some (.string ss[j]) := by rw [htk]; simp [hj]
    rw [List.getElem?_take_of_lt (by omega)] at this
    rw [List.getD_eq_getElem?_getD, List.getElem?_eq_getElem hj]
    simpa using this
theorem strT_round {w wr w2 : World} {B : Nat} {v v' : Value} {D : List ByteArray} {y : ByteArray} {X : Obj} (hB : w.heap.size ≤ B) (hown : OwnT wr B v D) (hb : Below w.heap.size w wr)
    (hown2 : w2.ownsRow B 9 1 v' (D.length + 1) (D.map Value.string ++ [.string y])) (hgr2 : (wr.alloc X).grownBy w2 v.ownBlock) : OwnT w2 B v' (D ++ [y]) ∧ Below w.heap.size w w2 := by
  refine ⟨?_, ?_⟩
  · unfold OwnT
    rw [List.length_append, List.map_append]; exact hown2
  · exact (Below.alloc hb hb.size X).grown hgr2 (by simp; have := hb.size; omega) (fun k e => Nat.le_trans hB (World.ownsRow.lt hown k e).1)
theorem str_one (d : ByteArray) : ∀ u ∈ [Value.string d], u.oneCell' = true := by
  intro u hu
  obtain rfl : u = _ := by simpa using hu
  rfl
abbrev dl (s : ByteArray) : List UInt8 := s.data.toList
theorem map_dl_inj {a b : List ByteArray} (h : a.map dl = b.map dl) : a = b := by
  induction a generalizing b with
  | nil => cases b with
    | nil => rfl
    | cons y t => simp at h
  | cons x r ih => cases b with
    | nil => simp at h
    | cons y t =>
      rw [List.map_cons, List.map_cons] at h
      injection h with h1 h2
      rw [list_inj h1, ih h2]
theorem take_all_drop {L : List UInt8} {a i : Nat} (h : i = L.length) : (L.take i).drop a = L.drop a := by rw [h, List.take_length]

set_option maxRecDepth 100000 in
set_option maxHeartbeats 4000000 in
theorem rsplit_any (s : ByteArray) (cc : UInt8) (n : Nat) (hcn : n = cc.toNat) (w : World) (hs : s.size ≤ 100000) :
    Calls Tryz.prog 111 #[.string s, .int .u8 (n : Int)] w fun e w' => (∃ v, e = .returned v ∧ OwnT w' w.heap.size v (pcsS cc s)) ∧ Below w.heap.size w w' := by
  obtain ⟨i0, hi, hz0, hz1, hz2⟩ := info_parts strInfo
  have HCN := Lib.hid hcn
  obtain ⟨L, hL⟩ : ∃ L, L = s.data.toList := ⟨_, rfl⟩
  have HL := Lib.hid hL
  have HSP := Lib.hid (pcsS_spl cc s)
  rw [← hL] at HSP
  have HLL := Lib.hid (show L.length = s.size by rw [hL]; rfl)
  clear hcn hL
  go_enter Tryz.func111, Tryz.ntmps111
  go_wp2_with fail
  go_loopw [5, 6, 7] (fun v t u wr => ∃ (i a : Nat) (P : List ByteArray), u = .int .i64 (i : Int) ∧ t = .int .i64 (a : Int) ∧ i ≤ s.size + 1 ∧ P.length ≤ i ∧ OwnT wr w.heap.size v P ∧ Below w.heap.size w wr ∧
      ((a ≤ i ∧ i ≤ s.size ∧ cc ∉ (L.take i).drop a ∧ ∀ qs, Spl cc (L.drop a) qs → Spl cc L (P.map dl ++ qs)) ∨ (i = s.size + 1 ∧ Spl cc L (P.map dl)))) (fun _ _ u _ => s.size + 1 - (intOf u).toNat)
  case atStart => exact ⟨0, 0, [], rfl, rfl, Nat.zero_le _, Nat.zero_le _, World.ownsRow_nil _ _ _ _, Below.refl _ _, .inl ⟨Nat.le_refl _, Nat.zero_le _, by simp, fun qs h => by simpa using h⟩⟩
  case round =>
    obtain ⟨i, a, P, rfl, rfl, hi1, hPl, ho, hb, hcase⟩ := hrel
    have HO := Lib.hid ho
    have HB := Lib.hid hb
    clear ho hb
    rcases hcase with ⟨ha, his, hno, hq⟩ | ⟨hie, hq⟩
    · have d1 : decide ((i : Int) ≤ (s.size : Int)) = true := by simp; omega
      have HNO := Lib.hid hno
      have HQ := Lib.hid hq
      clear hno hq
      by_cases hbyte : i < s.size ∧ u8at s i ≠ n
      · obtain ⟨hlt, hne⟩ := hbyte
        have d2 : ((i : Int) == (s.size : Int)) = false := by simp; omega
        have hix := fun w => run_index_u8 (P := Tryz.prog) Tryz.underlying9 s i hlt (i : Int) rfl w
        obtain ⟨c, hc, hcn⟩ := u8at_list s i hlt
        rw [← HL.out] at hc
        have HNX := Lib.hid (show cc ∉ (L.take (i + 1)).drop a by
          rw [part_snoc ha hc]
          intro hm
          rcases List.mem_append.1 hm with hm | hm
          · exact HNO.out hm
          · exact hne (by rw [hcn, HCN.out, List.mem_singleton.1 hm]))
        generalize u8at s i = m at hix hne
        have d3 : ((m : Int) == (n : Int)) = false := by simp; omega
        clear hc hcn
        go_wp2_with fail
        go_roundw
        case rel => exact ⟨i + 1, a, P, by go_num, rfl, by omega, by omega, HO.out, HB.out, .inl ⟨by omega, by omega, HNX.out, HQ.out⟩⟩
        case measure => first | (simp [intOf]; done) | (simp [intOf]; omega)
      · have hor : (i = s.size) ∨ (i < s.size ∧ u8at s i = n) := by
          rcases Nat.lt_or_ge i s.size with h | h
          · exact .inr ⟨h, Classical.byContradiction fun e => hbyte ⟨h, e⟩⟩
          · left; omega
        clear hbyte
        rcases hor with hie | ⟨hlt, hbn⟩
        · subst hie
          have hsl : ∀ w, (Instr.slice 9 (.string s) (some (.int .i64 (a : Int))) (some (.int .i64 (s.size : Int))) none).run Tryz.prog w = .ok (.string (s.extract a s.size)) w := fun w => by
            have := run_slice_string (P := Tryz.prog) w 9 s .i64 .i64 (a : Int) (s.size : Int) Tryz.underlying9 (by omega) (by omega) (by omega)
            simpa using this
          have HEX := Lib.hid (show dl (s.extract a s.size) = (L.take s.size).drop a by
            show (s.extract a s.size).data.toList = _
            rw [HL.out, ByteArray.data_extract, Array.toList_extract, List.extract_eq_take_drop, ← List.drop_take])
          generalize s.extract a s.size = d at hsl HEX
          have d2 : ((s.size : Int) == (s.size : Int)) = true := by simp
          have HFIN := Lib.hid (show Spl cc L ((P ++ [d]).map dl) by
            rw [List.map_append, List.map_singleton, HEX.out, take_all_drop HLL.out.symm]
            exact HQ.out _ (spl_one (by have := HNO.out; rwa [take_all_drop HLL.out.symm] at this)))
          go_wp2_with (at_builtin; (refine wpList_append_own _ rfl (.tmp 25) (.tmp 30) 63 rfl w.heap.size 9 i0 (.string ByteArray.empty) 1 16 Tryz.underlying63 hi hz0 hz1 hz2 rfl (by decide) _ P.length (P.map Value.string) rfl (World.ownsRow.alloc HO.out _) ⟨wr.heap.size, 0, none⟩ 1 1 [.string d] rfl rfl (row_news wr _ _) (str_one _) (by unfold maxLen; omega) (by omega) (by have := HB.out.size; simp; omega) ?_); intro v' w2 hown2 hgr2 _; obtain ⟨P1, P2⟩ := strT_round (Nat.le_refl _) HO.out HB.out hown2 hgr2; have HP1 := Lib.hid P1; have HP2 := Lib.hid P2; clear hown2 hgr2 P1 P2)
          go_roundw
          case rel => exact ⟨s.size + 1, s.size + 1, P ++ [d], by go_num, by go_num, Nat.le_refl _, by simp; omega, HP1.out, HP2.out, .inr ⟨rfl, HFIN.out⟩⟩
          case measure => first | (simp [intOf]; done) | (simp [intOf]; omega)
        · have d2 : ((i : Int) == (s.size : Int)) = false := by simp; omega
          have hsl : ∀ w, (Instr.slice 9 (.string s) (some (.int .i64 (a : Int))) (some (.int .i64 (i : Int))) none).run Tryz.prog w = .ok (.string (s.extract a i)) w := fun w => by
            have := run_slice_string (P := Tryz.prog) w 9 s .i64 .i64 (a : Int) (i : Int) Tryz.underlying9 (by omega) (by omega) (by omega)
            simpa using this
          have HEX := Lib.hid (show dl (s.extract a i) = (L.take i).drop a by
            show (s.extract a i).data.toList = _
            rw [HL.out, ByteArray.data_extract, Array.toList_extract, List.extract_eq_take_drop, ← List.drop_take])
          generalize s.extract a i = d at hsl HEX
          have hix : ∀ w, (Instr.index 9 (.string s) (.int .i64 (i : Int))).run Tryz.prog w = .ok (.int .u8 (n : Int)) w := fun w => by
            have := run_index_u8 (P := Tryz.prog) Tryz.underlying9 s i hlt (i : Int) rfl w
            rw [hbn] at this; exact this
          obtain ⟨c, hc, hcn⟩ := u8at_list s i hlt
          rw [← HL.out] at hc
          have hcc : c = cc := UInt8.toNat_inj.1 (by rw [← hcn, hbn, HCN.out])
          rw [hcc] at hc
          have d3 : ((n : Int) == (n : Int)) = true := by simp
          have HFIN := Lib.hid (show ∀ qs, Spl cc (L.drop (i + 1)) qs → Spl cc L ((P ++ [d]).map dl ++ qs) from fun qs h => by
            have h2 := spl_cons HNO.out h
            have e : L.drop a = (L.take i).drop a ++ cc :: L.drop (i + 1) := by
              have hi' : i < L.length := (List.getElem?_eq_some_iff.1 hc).1
              conv => lhs; rw [at_split L i cc hc]
              rw [List.drop_append_of_le_length (by simp; omega)]
            rw [← e] at h2
            have h3 := HQ.out _ h2
            rw [List.map_append, List.map_singleton, HEX.out, List.append_assoc]
            exact h3)
          clear hc hcn hcc hbn
          go_wp2_with (at_builtin; (refine wpList_append_own _ rfl (.tmp 25) (.tmp 30) 63 rfl w.heap.size 9 i0 (.string ByteArray.empty) 1 16 Tryz.underlying63 hi hz0 hz1 hz2 rfl (by decide) _ P.length (P.map Value.string) rfl (World.ownsRow.alloc HO.out _) ⟨wr.heap.size, 0, none⟩ 1 1 [.string d] rfl rfl (row_news wr _ _) (str_one _) (by unfold maxLen; omega) (by omega) (by have := HB.out.size; simp; omega) ?_); intro v' w2 hown2 hgr2 _; obtain ⟨P1, P2⟩ := strT_round (Nat.le_refl _) HO.out HB.out hown2 hgr2; have HP1 := Lib.hid P1; have HP2 := Lib.hid P2; clear hown2 hgr2 P1 P2)
          go_roundw
          case rel => exact ⟨i + 1, i + 1, P ++ [d], by go_num, by go_num, by omega, by simp; omega, HP1.out, HP2.out, .inl ⟨by omega, by omega, by rw [List.drop_eq_nil_of_le (by simp; omega)]; simp, HFIN.out⟩⟩
          case measure => first | (simp [intOf]; done) | (simp [intOf]; omega)
    · have d1 : decide ((i : Int) ≤ (s.size : Int)) = false := by simp; omega
      have HF := Lib.hid (show P = pcsS cc s from map_dl_inj (spl_inj hq HSP.out))
      clear hq
      go_wp2_with fail
      go_ret
      exact ⟨⟨_, rfl, by rw [← HF.out]; exact HO.out⟩, HB.out⟩
end Go.Proofs.YtofadgmnjckpcaaGreatDoor
namespace Go.Proofs.YtofadgmnjckpcaaGreatDoor
open Go.RowKit

end Go.Proofs.YtofadgmnjckpcaaGreatDoor
namespace Go.Proofs.YtofadgmnjckpcaaGreatDoor
open Go.RowKit

theorem ext_list_h (r : ByteArray) (i j : Nat) : (r.extract i j).data.toList = (r.data.toList.drop i).take (j - i) := by
  rw [ByteArray.data_extract, Array.toList_extract, List.extract_eq_take_drop]
theorem slice_tail_h (s : ByteArray) (i : Nat) (hi : i ≤ s.size) (a : Int) (ha : a = (i : Int)) (w : World) :
    (Instr.slice 9 (.string s) (some (.int .i64 a)) none none).run Tryz.prog w = .ok (.string (strOf (s.data.toList.drop i))) w := by
  subst ha
  have := run_slice_string_from_if (P := Tryz.prog) w 9 s .i64 (i : Int) Tryz.underlying9
  rw [this, if_pos ⟨by omega, by omega⟩]
  have e : (s.extract i s.size).data.toList = s.data.toList.drop i := by
    rw [ext_list_h]
    exact List.take_of_length_le (by rw [List.length_drop]; exact Nat.le_refl _)
  rw [← strOf_of e]
  congr 3
theorem tail_of (L : List UInt8) (i : Nat) (hi : i ≤ L.length) (a : Int) (ha : a = (i : Int)) (w : World) :
    (Instr.slice 9 (.string (strOf L)) (some (.int .i64 a)) none none).run Tryz.prog w = .ok (.string (strOf (L.drop i))) w := slice_tail_h (strOf L) i hi a ha w
theorem head_of (L : List UInt8) (i : Nat) (hi : i ≤ L.length) (a : Int) (ha : a = (i : Int)) (w : World) :
    (Instr.slice 9 (.string (strOf L)) none (some (.int .i64 a)) none).run Tryz.prog w = .ok (.string (strOf (L.take i))) w := by
  subst ha
  have := run_slice_string_to_if (P := Tryz.prog) w 9 (strOf L) .i64 (i : Int) Tryz.underlying9
  rw [this, if_pos ⟨by omega, by rw [strOf_size]; omega⟩]
  have e : ((strOf L).extract 0 i).data.toList = L.take i := by
    rw [ext_list_h, strOf_list, List.drop_zero, Nat.sub_zero]
  rw [← strOf_of e]
  congr 3
theorem beq_of (a b : List UInt8) : ((strOf a).toList == (strOf b).toList) = decide (a = b) := by
  rw [beq_str, decide_eq_decide]
  exact ⟨strOf_inj, fun h => by rw [h]⟩
theorem low_any (a : List UInt8) (h : a.length ≤ 1000000) (w : World) :
    Calls Tryz.prog 97 #[.string (strOf a)] w fun e w' => e = .returned (.string (strOf (lowL a))) ∧ Below w.heap.size w w' :=
  lower_any (strOf a) w (Nat.le_trans h (by omega))

set_option maxRecDepth 100000 in
set_option maxHeartbeats 1000000 in
theorem ralike_any (a b : List UInt8) (ha : a.length ≤ 1000000) (hb : b.length ≤ 1000000) (w : World) :
    Calls Tryz.prog 78 #[.string (strOf a), .string (strOf b)] w fun e w' => e = .returned (.bool (alikeB a b)) ∧ Below w.heap.size w w' := by
  have HA := Lib.hid ha
  have HB := Lib.hid hb
  have HE := Lib.hid (beq_of (lowL a) (lowL b))
  clear ha hb
  go_enter Tryz.func78, Tryz.ntmps78
  go_wp2_with (first
    | (go_at_call 97; (with_reducible refine (low_any a HA.out _).mono ?_); rintro e w1 ⟨rfl, hb1⟩; have HB1 := Lib.hid hb1; clear hb1)
    | (go_at_call 97; (with_reducible refine (low_any b HB.out _).mono ?_); rintro e w2 ⟨rfl, hb2⟩; have HB2 := Lib.hid hb2; clear hb2))
  go_ret
  exact ⟨by rw [HE.out]; rfl, below_next HB1.out HB2.out⟩

set_option maxRecDepth 100000 in
set_option maxHeartbeats 1000000 in
theorem rends_any (s t : List UInt8) (hs : s.length ≤ 1000000) (ht : t.length ≤ 1000000) (w : World) :
    Calls Tryz.prog 86 #[.string (strOf s), .string (strOf t)] w fun e w' => e = .returned (.bool (endsB s t)) ∧ Below w.heap.size w w' := by
  have e1 := strOf_size s
  have e2 := strOf_size t
  by_cases h : t.length ≤ s.length
  · have d1 : decide ((t.length : Int) ≤ (s.length : Int)) = true := by simp; omega
    have hsl := fun w => tail_of s (s.length - t.length) (by omega) ((s.length : Int) - (t.length : Int)) (by omega) w
    obtain ⟨d, hd⟩ : ∃ d, d = s.drop (s.length - t.length) := ⟨_, rfl⟩
    rw [← hd] at hsl
    have HD := Lib.hid (show d.length ≤ 1000000 by rw [hd, List.length_drop]; omega)
    have HT := Lib.hid ht
    have HE := Lib.hid (show endsB s t = alikeB d t by unfold endsB; rw [← hd, decide_eq_true h, Bool.true_and])
    clear hd ht
    go_enter Tryz.func86, Tryz.ntmps86
    go_wp2_with (go_at_call 78; (with_reducible refine (ralike_any d t HD.out HT.out _).mono ?_); rintro e w1 ⟨rfl, hb1⟩; have HB1 := Lib.hid hb1; clear hb1)
    go_ret
    exact ⟨by rw [HE.out]; rfl, HB1.out⟩
  · have d1 : decide ((t.length : Int) ≤ (s.length : Int)) = false := by simp; omega
    have HE := Lib.hid (show endsB s t = false by unfold endsB; rw [decide_eq_false h, Bool.false_and])
    have d2 : decide (t.length ≤ s.length) = false := decide_eq_false h
    go_enter Tryz.func86, Tryz.ntmps86
    go_wp2_with fail
    go_ret
    exact ⟨by rw [HE.out]; rfl, Below.refl _ _⟩
end Go.Proofs.YtofadgmnjckpcaaGreatDoor
namespace Go.Proofs.YtofadgmnjckpcaaGreatDoor
open Go.RowKit

def lblB (c : UInt8) : Bool := alnum c.toNat || c == 45
theorem lbl_def (p : List UInt8) : lbl p = (decide (1 ≤ p.length) && decide (p.length ≤ 63) && p.head? != some 45 && p.getLast? != some 45 && p.all lblB) := rfl
theorem lbl_nil : lbl [] = false := rfl
theorem lbl_long {p : List UInt8} (h : 63 < p.length) : lbl p = false := by rw [lbl_def, decide_eq_false (show ¬ p.length ≤ 63 by omega)]; simp
theorem lbl_head {p : List UInt8} (h : p.head? = some 45) : lbl p = false := by rw [lbl_def, h]; simp
theorem lbl_last {p : List UInt8} (h : p.getLast? = some 45) : lbl p = false := by rw [lbl_def, h]; simp
theorem lbl_all {p : List UInt8} (h1 : 1 ≤ p.length) (h2 : p.length ≤ 63) (h3 : p.head? ≠ some 45) (h4 : p.getLast? ≠ some 45) : lbl p = p.all lblB := by
  rw [lbl_def, decide_eq_true h1, decide_eq_true h2, bne_iff_ne.2 h3, bne_iff_ne.2 h4]
  rfl
theorem all_at {l : List (List UInt8)} {f : List UInt8 → Bool} {j : Nat} (hj : j < l.length) (h : f (l.getD j []) = false) : l.all f = false := by
  rw [Bool.eq_false_iff]
  intro k
  rw [List.all_eq_true] at k
  rw [List.getD_eq_getElem?_getD, List.getElem?_eq_getElem hj] at h
  have := k _ (List.getElem_mem hj)
  simp only [Option.getD_some] at h
  rw [h] at this
  cases this
theorem all_upto {l : List (List UInt8)} {f : List UInt8 → Bool} (h : ∀ j, j < l.length → f (l.getD j []) = true) : l.all f = true := by
  rw [List.all_eq_true]
  intro x hx
  obtain ⟨j, hj, rfl⟩ := List.getElem_of_mem hx
  have := h j hj
  rwa [List.getD_eq_getElem?_getD, List.getElem?_eq_getElem hj] at this
theorem pcsL_eq (c : UInt8) (l : List UInt8) : pcsS c (strOf l) = (pcsL c l).map strOf := by
  unfold pcsL
  rw [List.map_map]
  conv => lhs; rw [← List.map_id (pcsS c (strOf l))]
  exact List.map_congr_left fun x _ => strOf_of rfl
theorem getD_strOf (P : List (List UInt8)) (j : Nat) : (P.map strOf).getD j ⟨#[]⟩ = strOf (P.getD j []) := by
  rw [List.getD_eq_getElem?_getD, List.getD_eq_getElem?_getD, List.getElem?_map]
  cases P[j]? <;> rfl
theorem pcsL_ne (c : UInt8) (l : List UInt8) : pcsL c l ≠ [] := (pcsL_spl c l).1
theorem dnsB_long {L : List UInt8} (h : 128 < L.length) : dnsB L = false := by unfold dnsB; rw [decide_eq_false (show ¬ L.length ≤ 128 by omega)]; rfl
theorem dnsB_all {L : List UInt8} (h : L.length ≤ 128) : dnsB L = (pcsL 46 L).all lbl := by unfold dnsB; rw [decide_eq_true h]; rfl
theorem alnumU (c : UInt8) (w : World) : Calls Tryz.prog 109 #[.int .u8 ((c.toNat : Nat) : Int)] w fun e w' => e = .returned (.bool (alnum c.toNat)) ∧ w' = w := ralnum_is rfl w
theorem split_dot (L : List UInt8) (h : L.length ≤ 100000) (w : World) :
    Calls Tryz.prog 111 #[.string (strOf L), .int .u8 46] w fun e w' => (∃ v, e = .returned v ∧ OwnT w' w.heap.size v (pcsS 46 (strOf L))) ∧ Below w.heap.size w w' :=
  rsplit_any (strOf L) 46 46 rfl w h
theorem pcsL_len (c : UInt8) (l : List UInt8) : (pcsL c l).length ≤ l.length + 1 := by
  have h := (pcsL_spl c l).2.1
  cases e : pcsL c l with
  | nil => simp
  | cons x r =>
    rw [e] at h
    have := Lib.join_length x r [c]
    rw [h] at this
    simp only [List.length_cons, List.length_nil] at this ⊢
    omega
/-- A text's pieces, in cells. -/
theorem OwnT.pieces {w : World} {B : Nat} {v : Value} {c : UInt8} {L : List UInt8} (h : OwnT w B v (pcsS c (strOf L))) :
    ∃ g cp, v = .slice (some ⟨g, 0, none⟩) (pcsL c L).length cp ∧ g < w.heap.size ∧ B ≤ g ∧ ∀ j, j < (pcsL c L).length → w.cell? ⟨g, j, none⟩ = some (.string (strOf ((pcsL c L).getD j []))) := by
  have e : (pcsS c (strOf L)).length = (pcsL c L).length := by rw [pcsL_eq, List.length_map]
  obtain ⟨g, cp, rfl, h1, h2, _, h3⟩ := h.cells rfl (by rw [pcsL_eq]; exact fun k => pcsL_ne c L (List.map_eq_nil_iff.1 k))
  refine ⟨g, cp, by rw [e], h1, h2, fun j hj => ?_⟩
  rw [h3 j (by omega), pcsL_eq, getD_strOf]

set_option maxRecDepth 100000 in
set_option maxHeartbeats 2000000 in
theorem rdns_any (L : List UInt8) (hL : L.length ≤ 100000) (w : World) :
    Calls Tryz.prog 108 #[.string (strOf L)] w fun e w' => e = .returned (.bool (dnsB L)) ∧ Below w.heap.size w w' := by
  have e0 := strOf_size L
  by_cases h : 128 < L.length
  · have d1 : decide ((128 : Int) < (L.length : Int)) = true := by simp; omega
    have HE := Lib.hid (dnsB_long h)
    go_enter Tryz.func108, Tryz.ntmps108
    go_wp2_with fail
    go_ret
    exact ⟨by rw [HE.out]; rfl, Below.refl _ _⟩
  · have d1 : decide ((128 : Int) < (L.length : Int)) = false := by simp; omega
    have HD := Lib.hid (dnsB_all (L := L) (by omega))
    have HL := Lib.hid hL
    have HLE := Lib.hid e0
    go_enter Tryz.func108, Tryz.ntmps108
    go_wp2_with (go_at_call 111; (with_reducible refine (split_dot L HL.out _).mono ?_); rintro e w1 ⟨⟨v, rfl, ho⟩, hb1⟩; obtain ⟨g, cp, rfl, hg, hB, hcells⟩ := ho.pieces; have HO := Lib.hid hcells; have HB1 := Lib.hid hb1; have HG := Lib.hid hg; clear hb1 ho hcells hg hB)
    obtain ⟨P, hP⟩ : ∃ P, P = pcsL 46 L := ⟨_, rfl⟩
    rw [← hP] at HO HD ⊢
    clear d1 h hL
    obtain ⟨n, hn⟩ : ∃ n, n = P.length := ⟨_, rfl⟩
    have HN := Lib.hid hn
    have hnb : n ≤ 100001 := by have := pcsL_len 46 L; have := HL.out; rw [hn, hP]; omega
    rw [← hn] at HO ⊢
    clear hn hP
    go_loopw [12] (fun i wr => ∃ k : Nat, k ≤ n ∧ i = .int .i64 (k : Int) ∧ (∀ j, j < k → lbl (P.getD j []) = true) ∧ Below w1.heap.size w1 wr) (fun i _ => n - (intOf i).toNat)
    case atStart => exact ⟨0, Nat.zero_le _, rfl, fun j h => absurd h (Nat.not_lt_zero _), Below.refl _ _⟩
    case round =>
      obtain ⟨k, hk, rfl, hall, hb⟩ := hrel
      have HA := Lib.hid hall
      have HB := Lib.hid hb
      clear hall hb
      by_cases hlt : k < n
      · have hd : decide ((k : Int) < (n : Int)) = true := by simp; omega
        have hc := (HB.out.cell (p := ⟨g, k, none⟩) HG.out).trans (HO.out k hlt)
        have HF := Lib.hid (show lbl (P.getD k []) = false → dnsB L = false from fun h => by rw [HD.out]; exact all_at (by rw [← HN.out]; exact hlt) h)
        have HT := Lib.hid (show lbl (P.getD k []) = true → ∀ j, j < k + 1 → lbl (P.getD j []) = true from fun h j hj => by
          rcases Nat.lt_or_ge j k with e | e
          · exact HA.out j e
          · rw [show j = k by omega]; exact h)
        generalize P.getD k [] = p at hc HF HT
        have es := strOf_size p
        by_cases h1 : p.length < 1
        · have HF2 := Lib.hid (HF.out (by rw [List.eq_nil_of_length_eq_zero (show p.length = 0 by omega)]; exact lbl_nil))
          have dl : decide ((p.length : Int) < 1) = true := decide_eq_true (by omega)
          have dl2 : decide (p.length < 1) = true := decide_eq_true h1
          go_wp2_with fail
          go_ret
          exact ⟨by rw [HF2.out]; rfl, HB1.out.trans (HB.out.mono HB1.out.size)⟩
        · have dl : decide ((p.length : Int) < 1) = false := decide_eq_false (by omega)
          by_cases h2 : 63 < p.length
          · have HF2 := Lib.hid (HF.out (lbl_long h2))
            have dm : decide ((63 : Int) < (p.length : Int)) = true := by simp; omega
            go_wp2_with fail
            go_ret
            exact ⟨by rw [HF2.out]; rfl, HB1.out.trans (HB.out.mono HB1.out.size)⟩
          · have dm : decide ((63 : Int) < (p.length : Int)) = false := by simp; omega
            obtain ⟨x, hx, hxn⟩ := u8at_list (strOf p) 0 (by rw [es]; omega)
            have hix := run_index_u8 (P := Tryz.prog) Tryz.underlying9 (strOf p) 0 (by rw [es]; omega) 0 rfl
            rw [hxn] at hix
            obtain ⟨y, hy, hyn⟩ := u8at_list (strOf p) (p.length - 1) (by rw [es]; omega)
            have hiy := run_index_u8 (P := Tryz.prog) Tryz.underlying9 (strOf p) (p.length - 1) (by rw [es]; omega) ((p.length : Int) - 1) (by omega)
            rw [hyn] at hiy
            rw [strOf_list] at hx hy
            by_cases h3 : x = 45
            · have HF2 := Lib.hid (HF.out (lbl_head (by rw [List.head?_eq_getElem?, hx, h3])))
              have dx : ((x.toNat : Nat) : Int) == (45 : Int) := by rw [h3]; rfl
              clear hx hy hxn hyn hiy
              go_wp2_with fail
              go_ret
              exact ⟨by rw [HF2.out]; rfl, HB1.out.trans (HB.out.mono HB1.out.size)⟩
            · have dx : (((x.toNat : Nat) : Int) == (45 : Int)) = false := by
                have : ¬ x.toNat = 45 := fun h => h3 (UInt8.toNat_inj.1 h)
                simp; omega
              by_cases h4 : y = 45
              · have HF2 := Lib.hid (HF.out (lbl_last (by rw [List.getLast?_eq_getElem?, hy, h4])))
                have dy : ((y.toNat : Nat) : Int) == (45 : Int) := by rw [h4]; rfl
                clear hx hy hxn hyn
                go_wp2_with fail
                go_ret
                exact ⟨by rw [HF2.out]; rfl, HB1.out.trans (HB.out.mono HB1.out.size)⟩
              · have dy : (((y.toNat : Nat) : Int) == (45 : Int)) = false := by
                  have : ¬ y.toNat = 45 := fun h => h4 (UInt8.toNat_inj.1 h)
                  simp; omega
                have HQ := Lib.hid (show lbl p = p.all lblB from lbl_all (by omega) (by omega) (by rw [List.head?_eq_getElem?, hx]; exact fun h => h3 (Option.some.inj h)) (by rw [List.getLast?_eq_getElem?, hy]; exact fun h => h4 (Option.some.inj h)))
                clear hx hy hxn hyn h3 h4
                go_wp2_with fail
                clear hc dl dm dx dy hd
                go_loopw [5] (fun i ws => ∃ m : Nat, m ≤ p.length ∧ i = .int .i64 (m : Int) ∧ p.all lblB = (p.drop m).all lblB ∧ Below w1.heap.size w1 ws) (fun i _ => p.length - (intOf i).toNat)
                case atStart => exact ⟨0, Nat.zero_le _, rfl, rfl, HB.out⟩
                case round =>
                  obtain ⟨wz, hwz⟩ : ∃ wz, wz = wr := ⟨_, rfl⟩
                  subst hwz
                  obtain ⟨m, hm, rfl, hal, hbs⟩ := hrel
                  have HBS := Lib.hid hbs
                  clear hbs
                  by_cases hmt : m < p.length
                  · have hd : decide ((m : Int) < (p.length : Int)) = true := by simp; omega
                    obtain ⟨c, hc, hcn⟩ := u8at_list (strOf p) m (by rw [es]; exact hmt)
                    have hix := run_index_u8 (P := Tryz.prog) Tryz.underlying9 (strOf p) m (by rw [es]; exact hmt) (m : Int) rfl
                    rw [hcn] at hix
                    rw [strOf_list] at hc
                    rw [drop_cons hc, List.all_cons] at hal
                    have HAL := Lib.hid hal
                    clear hc hcn hal
                    cases ha : alnum c.toNat with
                    | true =>
                      have HAN := Lib.hid (fun w => show Calls Tryz.prog 109 #[.int .u8 ((c.toNat : Nat) : Int)] w fun e w' => e = .returned (.bool true) ∧ w' = w from ha ▸ alnumU c w)
                      have HN2 := Lib.hid (show p.all lblB = (p.drop (m + 1)).all lblB by
                        rw [HAL.out, show lblB c = true by unfold lblB; rw [ha]; rfl, Bool.true_and])
                      clear ha
                      go_wp2_with (go_at_call 109; (with_reducible refine (HAN.out _).mono ?_); rintro e w2 ⟨rfl, rfl⟩)
                      go_roundw
                      case rel => exact ⟨m + 1, by omega, by go_num, HN2.out, HBS.out⟩
                      case measure => simp [intOf]; omega
                    | false =>
                      have HAN := Lib.hid (fun w => show Calls Tryz.prog 109 #[.int .u8 ((c.toNat : Nat) : Int)] w fun e w' => e = .returned (.bool false) ∧ w' = w from ha ▸ alnumU c w)
                      by_cases h5 : c = 45
                      · have d5 : (((c.toNat : Nat) : Int) != (45 : Int)) = false := by rw [h5]; rfl
                        have HN2 := Lib.hid (show p.all lblB = (p.drop (m + 1)).all lblB by
                          rw [HAL.out, show lblB c = true by unfold lblB; rw [h5]; rfl, Bool.true_and])
                        clear ha h5
                        go_wp2_with (go_at_call 109; (with_reducible refine (HAN.out _).mono ?_); rintro e w2 ⟨rfl, rfl⟩)
                        go_roundw
                        case rel => exact ⟨m + 1, by omega, by go_num, HN2.out, HBS.out⟩
                        case measure => simp [intOf]; omega
                      · have d5 : (((c.toNat : Nat) : Int) != (45 : Int)) = true := by
                          have : ¬ c.toNat = 45 := fun h => h5 (UInt8.toNat_inj.1 h)
                          simp; omega
                        have HF2 := Lib.hid (HF.out (by rw [HQ.out, HAL.out, show lblB c = false by unfold lblB; rw [ha, beq_eq_false_iff_ne.2 h5]; rfl, Bool.false_and]))
                        clear ha
                        go_wp2_with (go_at_call 109; (with_reducible refine (HAN.out _).mono ?_); rintro e w2 ⟨rfl, rfl⟩)
                        go_ret
                        exact ⟨by rw [HF2.out]; rfl, HB1.out.trans (HBS.out.mono HB1.out.size)⟩
                  · have em : m = p.length := by omega
                    subst em
                    have hd : decide ((p.length : Int) < (p.length : Int)) = false := by simp
                    have HT2 := Lib.hid (HT.out (by rw [HQ.out, hal, List.drop_length]; rfl))
                    clear hal
                    go_wp2_with fail
                    go_roundw
                    case rel => exact ⟨k + 1, by omega, by go_num, HT2.out, HBS.out⟩
                    case measure => simp [intOf]; omega
      · have ek : k = n := by omega
        subst ek
        have hd : decide ((k : Int) < (k : Int)) = false := by simp
        have HE := Lib.hid (show dnsB L = true by rw [HD.out]; exact all_upto fun j hj => HA.out j (by rw [HN.out]; exact hj))
        go_wp2_with fail
        go_ret
        exact ⟨by rw [HE.out]; rfl, HB1.out.trans (HB.out.mono HB1.out.size)⟩
end Go.Proofs.YtofadgmnjckpcaaGreatDoor
