/-
  The contracts of the reference's Split and short: the pieces of a text; the short types and their object identifiers.
  The contract of the reference's Split: the pieces of a text.
  The contracts of the reference's alike and ends: two texts that differ in case only; a text that ends with another one.
-/
import Derived.Test.YtjdfgalcnbnobaaGreatDoorQai
import Derived.Test.YtjdfgalcnbnobaaGreatDoorQac
import Derived.Test.YtjdfgalcnbnobaaGreatDoorQad
namespace Go.Proofs.YtjdfgalcnbnobaaGreatDoor
open Go.RowKit

/-- The slice value v, of memory from block B on, holds the texts ss. -/
def OwnT (w : World) (B : Nat) (v : Value) (ss : List ByteArray) : Prop := w.ownsRow B 9 1 v ss.length (ss.map Value.string)
theorem OwnT.cells {w : World} {B N : Nat} {v : Value} {ss : List ByteArray} (h : OwnT w B v ss) (hN : N = ss.length) (h0 : ss ≠ []) :
    ∃ g cp, v = .slice (some ⟨g, 0, none⟩) N cp ∧ g < w.heap.size ∧ B ≤ g ∧ N ≤ cp ∧ ∀ j, j < N → w.cell? ⟨g, j, none⟩ = some (.string (ss.getD j ⟨#[]⟩)) := by
  subst hN
  rcases h.2 with ⟨_, h1⟩ | ⟨g, cap, cur, rfl, hB, hg, hn, _, hcs, htk⟩
  · exact absurd (List.eq_nil_of_length_eq_zero h1) h0
  · refine ⟨g, cap, rfl, (Array.getElem?_eq_some_iff.1 hg).1, hB, hn, fun j hj => ?_⟩
    rw [cell_of_row w g j _ _ _ hg]
    have : (cur.toList.take (ss.length * 1))[j]? = some (.string ss[j]) := by rw [htk]; simp [hj]
    rw [List.getElem?_take_of_lt (by omega)] at this
    rw [List.getD_eq_getElem?_getD, List.getElem?_eq_getElem hj]
    simpa using this
theorem strT_round {w wr w2 : World} {B : Nat} {v v' : Value} {D : List ByteArray} {y : ByteArray} {X : Obj} (hB : w.heap.size ≤ B) (hown : OwnT wr B v D) (hb : Below w.heap.size w wr)
    (hown2 : w2.ownsRow B 9 1 v' (D.length + 1) (D.map Value.string ++ [.string y])) (hgr2 : (wr.alloc X).grownBy w2 v.ownBlock) : OwnT w2 B v' (D ++ [y]) ∧ Below w.heap.size w w2 := by
  refine ⟨?_, ?_⟩
  · unfold OwnT
    rw [List.length_append, List.map_append]; exact hown2
  · exact (Below.alloc hb hb.size X).grown hgr2 (by simp; have := hb.size; omega) (fun k e => Nat.le_trans hB (World.ownsRow.lt hown k e).1)
theorem str_one (d : ByteArray) : ∀ u ∈ [Value.string d], u.oneCell' = true := by
  intro u hu
  obtain rfl : u = _ := by simpa using hu
  rfl
abbrev dl (s : ByteArray) : List UInt8 := s.data.toList
theorem map_dl_inj {a b : List ByteArray} (h : a.map dl = b.map dl) : a = b := by
  induction a generalizing b with
  | nil => cases b with
    | nil => rfl
    | cons y t => simp at h
  | cons x r ih => cases b with
    | nil => simp at h
    | cons y t =>
      rw [List.map_cons, List.map_cons] at h
      injection h with h1 h2
      rw [list_inj h1, ih h2]
theorem take_all_drop {L : List UInt8} {a i : Nat} (h : i = L.length) : (L.take i).drop a = L.drop a := by rw [h, List.take_length]

set_option maxRecDepth 100000 in
set_option maxHeartbeats 4000000 in
theorem rsplit_any (s : ByteArray) (cc : UInt8) (n : Nat) (hcn : n = cc.toNat) (w : World) (hs : s.size ≤ 100000) :
    Calls Tryz.prog 111 #[.string s, .int .u8 (n : Int)] w fun e w' => (∃ v, e = .returned v ∧ OwnT w' w.heap.size v (pcsS cc s)) ∧ Below w.heap.size w w' := by
  obtain ⟨i0, hi, hz0, hz1, hz2⟩ := info_parts strInfo
  have HCN := Lib.hid hcn
  obtain ⟨L, hL⟩ : ∃ L, L = s.data.toList := ⟨_, rfl⟩
  have HL := Lib.hid hL
  have HSP := Lib.hid (pcsS_spl cc s)
  rw [← hL] at HSP
  have HLL := Lib.hid (show L.length = s.size by rw [hL]; rfl)
  clear hcn hL
  go_enter Tryz.func111, Tryz.ntmps111
  go_wp2_with fail
  go_loopw [5, 6, 7] (fun v t u wr => ∃ (i a : Nat) (P : List ByteArray), u = .int .i64 (i : Int) ∧ t = .int .i64 (a : Int) ∧ i ≤ s.size + 1 ∧ P.length ≤ i ∧ OwnT wr w.heap.size v P ∧ Below w.heap.size w wr ∧
      ((a ≤ i ∧ i ≤ s.size ∧ cc ∉ (L.take i).drop a ∧ ∀ qs, Spl cc (L.drop a) qs → Spl cc L (P.map dl ++ qs)) ∨ (i = s.size + 1 ∧ Spl cc L (P.map dl)))) (fun _ _ u _ => s.size + 1 - (intOf u).toNat)
  case atStart => exact ⟨0, 0, [], rfl, rfl, Nat.zero_le _, Nat.zero_le _, World.ownsRow_nil _ _ _ _, Below.refl _ _, .inl ⟨Nat.le_refl _, Nat.zero_le _, by simp, fun qs h => by simpa using h⟩⟩
  case round =>
    obtain ⟨i, a, P, rfl, rfl, hi1, hPl, ho, hb, hcase⟩ := hrel
    have HO := Lib.hid ho
    have HB := Lib.hid hb
    clear ho hb
    rcases hcase with ⟨ha, his, hno, hq⟩ | ⟨hie, hq⟩
    · have d1 : decide ((i : Int) ≤ (s.size : Int)) = true := by simp; omega
      have HNO := Lib.hid hno
      have HQ := Lib.hid hq
      clear hno hq
      by_cases hbyte : i < s.size ∧ u8at s i ≠ n
      · obtain ⟨hlt, hne⟩ := hbyte
        have d2 : ((i : Int) == (s.size : Int)) = false := by simp; omega
        have hix := fun w => run_index_u8 (P := Tryz.prog) Tryz.underlying9 s i hlt (i : Int) rfl w
        obtain ⟨c, hc, hcn⟩ := u8at_list s i hlt
        rw [← HL.out] at hc
        have HNX := Lib.hid (show cc ∉ (L.take (i + 1)).drop a by
          rw [part_snoc ha hc]
          intro hm
          rcases List.mem_append.1 hm with hm | hm
          · exact HNO.out hm
          · exact hne (by rw [hcn, HCN.out, List.mem_singleton.1 hm]))
        generalize u8at s i = m at hix hne
        have d3 : ((m : Int) == (n : Int)) = false := by simp; omega
        clear hc hcn
        go_wp2_with fail
        go_roundw
        case rel => exact ⟨i + 1, a, P, by go_num, rfl, by omega, by omega, HO.out, HB.out, .inl ⟨by omega, by omega, HNX.out, HQ.out⟩⟩
        case measure => first | (simp [intOf]; done) | (simp [intOf]; omega)
      · have hor : (i = s.size) ∨ (i < s.size ∧ u8at s i = n) := by
          rcases Nat.lt_or_ge i s.size with h | h
          · exact .inr ⟨h, Classical.byContradiction fun e => hbyte ⟨h, e⟩⟩
          · left; omega
        clear hbyte
        rcases hor with hie | ⟨hlt, hbn⟩
        · subst hie
          have hsl : ∀ w, (Instr.slice 9 (.string s) (some (.int .i64 (a : Int))) (some (.int .i64 (s.size : Int))) none).run Tryz.prog w = .ok (.string (s.extract a s.size)) w := fun w => by
            have := run_slice_string (P := Tryz.prog) w 9 s .i64 .i64 (a : Int) (s.size : Int) Tryz.underlying9 (by omega) (by omega) (by omega)
            simpa using this
          have HEX := Lib.hid (show dl (s.extract a s.size) = (L.take s.size).drop a by
            show (s.extract a s.size).data.toList = _
            rw [HL.out, ByteArray.data_extract, Array.toList_extract, List.extract_eq_take_drop, ← List.drop_take])
          generalize s.extract a s.size = d at hsl HEX
          have d2 : ((s.size : Int) == (s.size : Int)) = true := by simp
          have HFIN := Lib.hid (show Spl cc L ((P ++ [d]).map dl) by
            rw [List.map_append, List.map_singleton, HEX.out, take_all_drop HLL.out.symm]
            exact HQ.out _ (spl_one (by have := HNO.out; rwa [take_all_drop HLL.out.symm] at this)))
          go_wp2_with (at_builtin; (refine wpList_append_own _ rfl (.tmp 25) (.tmp 30) 63 rfl w.heap.size 9 i0 (.string ByteArray.empty) 1 16 Tryz.underlying63 hi hz0 hz1 hz2 rfl (by decide) _ P.length (P.map Value.string) rfl (World.ownsRow.alloc HO.out _) ⟨wr.heap.size, 0, none⟩ 1 1 [.string d] rfl rfl (row_news wr _ _) (str_one _) (by unfold maxLen; omega) (by omega) (by have := HB.out.size; simp; omega) ?_); intro v' w2 hown2 hgr2 _; obtain ⟨P1, P2⟩ := strT_round (Nat.le_refl _) HO.out HB.out hown2 hgr2; have HP1 := Lib.hid P1; have HP2 := Lib.hid P2; clear hown2 hgr2 P1 P2)
          go_roundw
          case rel => exact ⟨s.size + 1, s.size + 1, P ++ [d], by go_num, by go_num, Nat.le_refl _, by simp; omega, HP1.out, HP2.out, .inr ⟨rfl, HFIN.out⟩⟩
          case measure => first | (simp [intOf]; done) | (simp [intOf]; omega)
        · have d2 : ((i : Int) == (s.size : Int)) = false := by simp; omega
          have hsl : ∀ w, (Instr.slice 9 (.string s) (some (.int .i64 (a : Int))) (some (.int .i64 (i : Int))) none).run Tryz.prog w = .ok (.string (s.extract a i)) w := fun w => by
            have := run_slice_string (P := Tryz.prog) w 9 s .i64 .i64 (a : Int) (i : Int) Tryz.underlying9 (by omega) (by omega) (by omega)
            simpa using this
          have HEX := Lib.hid (show dl (s.extract a i) = (L.take i).drop a by
            show (s.extract a i).data.toList = _
            rw [HL.out, ByteArray.data_extract, Array.toList_extract, List.extract_eq_take_drop, ← List.drop_take])
          generalize s.extract a i = d at hsl HEX
          have hix : ∀ w, (Instr.index 9 (.string s) (.int .i64 (i : Int))).run Tryz.prog w = .ok (.int .u8 (n : Int)) w := fun w => by
            have := run_index_u8 (P := Tryz.prog) Tryz.underlying9 s i hlt (i : Int) rfl w
            rw [hbn] at this; exact this
          obtain ⟨c, hc, hcn⟩ := u8at_list s i hlt
          rw [← HL.out] at hc
          have hcc : c = cc := UInt8.toNat_inj.1 (by rw [← hcn, hbn, HCN.out])
          rw [hcc] at hc
          have d3 : ((n : Int) == (n : Int)) = true := by simp
          have HFIN := Lib.hid (show ∀ qs, Spl cc (L.drop (i + 1)) qs → Spl cc L ((P ++ [d]).map dl ++ qs) from fun qs h => by
            have h2 := spl_cons HNO.out h
            have e : L.drop a = (L.take i).drop a ++ cc :: L.drop (i + 1) := by
              have hi' : i < L.length := (List.getElem?_eq_some_iff.1 hc).1
              conv => lhs; rw [at_split L i cc hc]
              rw [List.drop_append_of_le_length (by simp; omega)]
            rw [← e] at h2
            have h3 := HQ.out _ h2
            rw [List.map_append, List.map_singleton, HEX.out, List.append_assoc]
            exact h3)
          clear hc hcn hcc hbn
          go_wp2_with (at_builtin; (refine wpList_append_own _ rfl (.tmp 25) (.tmp 30) 63 rfl w.heap.size 9 i0 (.string ByteArray.empty) 1 16 Tryz.underlying63 hi hz0 hz1 hz2 rfl (by decide) _ P.length (P.map Value.string) rfl (World.ownsRow.alloc HO.out _) ⟨wr.heap.size, 0, none⟩ 1 1 [.string d] rfl rfl (row_news wr _ _) (str_one _) (by unfold maxLen; omega) (by omega) (by have := HB.out.size; simp; omega) ?_); intro v' w2 hown2 hgr2 _; obtain ⟨P1, P2⟩ := strT_round (Nat.le_refl _) HO.out HB.out hown2 hgr2; have HP1 := Lib.hid P1; have HP2 := Lib.hid P2; clear hown2 hgr2 P1 P2)
          go_roundw
          case rel => exact ⟨i + 1, i + 1, P ++ [d], by go_num, by go_num, by omega, by simp; omega, HP1.out, HP2.out, .inl ⟨by omega, by omega, by rw [List.drop_eq_nil_of_le (by simp; omega)]; simp, HFIN.out⟩⟩
          case measure => first | (simp [intOf]; done) | (simp [intOf]; omega)
    · have d1 : decide ((i : Int) ≤ (s.size : Int)) = false := by simp; omega
      have HF := Lib.hid (show P = pcsS cc s from map_dl_inj (spl_inj hq HSP.out))
      clear hq
      go_wp2_with fail
      go_ret
      exact ⟨⟨_, rfl, by rw [← HF.out]; exact HO.out⟩, HB.out⟩
end Go.Proofs.YtjdfgalcnbnobaaGreatDoor
namespace Go.Proofs.YtjdfgalcnbnobaaGreatDoor
open Go.RowKit

end Go.Proofs.YtjdfgalcnbnobaaGreatDoor
namespace Go.Proofs.YtjdfgalcnbnobaaGreatDoor
open Go.RowKit

theorem ext_list_h (r : ByteArray) (i j : Nat) : (r.extract i j).data.toList = (r.data.toList.drop i).take (j - i) := by
  rw [ByteArray.data_extract, Array.toList_extract, List.extract_eq_take_drop]
theorem slice_tail_h (s : ByteArray) (i : Nat) (hi : i ≤ s.size) (a : Int) (ha : a = (i : Int)) (w : World) :
    (Instr.slice 9 (.string s) (some (.int .i64 a)) none none).run Tryz.prog w = .ok (.string (strOf (s.data.toList.drop i))) w := by
  subst ha
  have := run_slice_string_from_if (P := Tryz.prog) w 9 s .i64 (i : Int) Tryz.underlying9
  rw [this, if_pos ⟨by omega, by omega⟩]
  have e : (s.extract i s.size).data.toList = s.data.toList.drop i := by
    rw [ext_list_h]
    exact List.take_of_length_le (by rw [List.length_drop]; exact Nat.le_refl _)
  rw [← strOf_of e]
  congr 3
theorem tail_of (L : List UInt8) (i : Nat) (hi : i ≤ L.length) (a : Int) (ha : a = (i : Int)) (w : World) :
    (Instr.slice 9 (.string (strOf L)) (some (.int .i64 a)) none none).run Tryz.prog w = .ok (.string (strOf (L.drop i))) w := slice_tail_h (strOf L) i hi a ha w
theorem head_of (L : List UInt8) (i : Nat) (hi : i ≤ L.length) (a : Int) (ha : a = (i : Int)) (w : World) :
    (Instr.slice 9 (.string (strOf L)) none (some (.int .i64 a)) none).run Tryz.prog w = .ok (.string (strOf (L.take i))) w := by
  subst ha
  have := run_slice_string_to_if (P := Tryz.prog) w 9 (strOf L) .i64 (i : Int) Tryz.underlying9
  rw [this, if_pos ⟨by omega, by rw [strOf_size]; omega⟩]
  have e : ((strOf L).extract 0 i).data.toList = L.take i := by
    rw [ext_list_h, strOf_list, List.drop_zero, Nat.sub_zero]
  rw [← strOf_of e]
  congr 3
theorem beq_of (a b : List UInt8) : ((strOf a).toList == (strOf b).toList) = decide (a = b) := by
  rw [beq_str, decide_eq_decide]
  exact ⟨strOf_inj, fun h => by rw [h]⟩
theorem low_any (a : List UInt8) (h : a.length ≤ 1000000) (w : World) :
    Calls Tryz.prog 97 #[.string (strOf a)] w fun e w' => e = .returned (.string (strOf (lowL a))) ∧ Below w.heap.size w w' :=
  lower_any (strOf a) w (Nat.le_trans h (by omega))

set_option maxRecDepth 100000 in
set_option maxHeartbeats 1000000 in
theorem ralike_any (a b : List UInt8) (ha : a.length ≤ 1000000) (hb : b.length ≤ 1000000) (w : World) :
    Calls Tryz.prog 78 #[.string (strOf a), .string (strOf b)] w fun e w' => e = .returned (.bool (alikeB a b)) ∧ Below w.heap.size w w' := by
  have HA := Lib.hid ha
  have HB := Lib.hid hb
  have HE := Lib.hid (beq_of (lowL a) (lowL b))
  clear ha hb
  go_enter Tryz.func78, Tryz.ntmps78
  go_wp2_with (first
    | (go_at_call 97; (with_reducible refine (low_any a HA.out _).mono ?_); rintro e w1 ⟨rfl, hb1⟩; have HB1 := Lib.hid hb1; clear hb1)
    | (go_at_call 97; (with_reducible refine (low_any b HB.out _).mono ?_); rintro e w2 ⟨rfl, hb2⟩; have HB2 := Lib.hid hb2; clear hb2))
  go_ret
  exact ⟨by rw [HE.out]; rfl, below_next HB1.out HB2.out⟩

set_option maxRecDepth 100000 in
set_option maxHeartbeats 1000000 in
theorem rends_any (s t : List UInt8) (hs : s.length ≤ 1000000) (ht : t.length ≤ 1000000) (w : World) :
    Calls Tryz.prog 86 #[.string (strOf s), .string (strOf t)] w fun e w' => e = .returned (.bool (endsB s t)) ∧ Below w.heap.size w w' := by
  have e1 := strOf_size s
  have e2 := strOf_size t
  by_cases h : t.length ≤ s.length
  · have d1 : decide ((t.length : Int) ≤ (s.length : Int)) = true := by simp; omega
    have hsl := fun w => tail_of s (s.length - t.length) (by omega) ((s.length : Int) - (t.length : Int)) (by omega) w
    obtain ⟨d, hd⟩ : ∃ d, d = s.drop (s.length - t.length) := ⟨_, rfl⟩
    rw [← hd] at hsl
    have HD := Lib.hid (show d.length ≤ 1000000 by rw [hd, List.length_drop]; omega)
    have HT := Lib.hid ht
    have HE := Lib.hid (show endsB s t = alikeB d t by unfold endsB; rw [← hd, decide_eq_true h, Bool.true_and])
    clear hd ht
    go_enter Tryz.func86, Tryz.ntmps86
    go_wp2_with (go_at_call 78; (with_reducible refine (ralike_any d t HD.out HT.out _).mono ?_); rintro e w1 ⟨rfl, hb1⟩; have HB1 := Lib.hid hb1; clear hb1)
    go_ret
    exact ⟨by rw [HE.out]; rfl, HB1.out⟩
  · have d1 : decide ((t.length : Int) ≤ (s.length : Int)) = false := by simp; omega
    have HE := Lib.hid (show endsB s t = false by unfold endsB; rw [decide_eq_false h, Bool.false_and])
    have d2 : decide (t.length ≤ s.length) = false := decide_eq_false h
    go_enter Tryz.func86, Tryz.ntmps86
    go_wp2_with fail
    go_ret
    exact ⟨by rw [HE.out]; rfl, Below.refl _ _⟩
end Go.Proofs.YtjdfgalcnbnobaaGreatDoor
