/-
The contracts of the reference's Fold and MatchText; nothing that was there before the call has changed.
The contracts of the reference's has and matchRDN: whether a relative name has an attribute that matches; whether two relative names match.
The contracts of the reference's WithinName and MatchName.
The contract of the reference's ExactName at equal names.
The walk of the law NameDecode: for every text and list of numbers it returns true, and leaves all that was there as it was.
The tables of the rows of NameDecode and NameBack.
-/
import Derived.Test.YtfpfgdbfigdooaaGreatDoorCax
import Derived.Test.YtfpfgdbfigdooaaGreatDoorCbr
import Derived.Test.YtfpfgdbfigdooaaGreatDoorCau
import Derived.Test.YtfpfgdbfigdooaaGreatDoorDad
import Derived.Test.YtfpfgdbfigdooaaGreatDoorDae
import Derived.Test.YtfpfgdbfigdooaaGreatDoorCba
import Derived.Test.YtfpfgdbfigdooaaGreatDoorCbu
import Derived.Test.YtfpfgdbfigdooaaGreatDoorCai
import Derived.Lib.LaidIn
namespace Go.Proofs.YtfpfgdbfigdooaaGreatDoor
open Go.RowKit

/-- The text of the first bytes of a row that the call has made. -/
theorem own_pre {w : World} {B g n cap : Nat} {l : List UInt8} (h : OwnB 5 w B (.slice (some ⟨g, 0, none⟩) n cap) l) (hl : l.length = n) (m : Nat) (hm : m ≤ n) :
    (convert 61 9 (.slice (some ⟨g, 0, none⟩) m cap)).run Tryz.prog w = .ok (.string (strOf (l.take m))) w := by
  have e : (l.take m).length = m := by rw [List.length_take]; omega
  have := run_convert_bytes_back w 61 9 5 ⟨g, 0, none⟩ cap (l.take m) Tryz.underlying61 Tryz.underlying5 Tryz.underlying9 (fun j hj => by
    have hadd : (⟨g, 0, none⟩ : Addr).add j = ⟨g, j, none⟩ := by unfold Addr.add; split <;> simp_all
    rw [hadd, own_cell h hl j (by omega)]
    simp only [List.getElem_take]
    rw [List.getD_eq_getElem?_getD, List.getElem?_eq_getElem (by omega)]
    rfl)
  rw [e] at this
  exact this
theorem last_of {O : List UInt8} (h : O ≠ []) : O.getLast? = some (O.getD (O.length - 1) 0) := by
  have hp : 0 < O.length := List.length_pos_iff.2 h
  rw [List.getLast?_eq_getElem?, List.getD_eq_getElem?_getD, List.getElem?_eq_getElem (by omega)]
  rfl
theorem map_at (L : List UInt8) {k : Nat} (h : k < L.length) : (L.map small).getD k 0 = small (L.getD k 0) := by
  rw [List.getD_eq_getElem?_getD, List.getD_eq_getElem?_getD, List.getElem?_map, List.getElem?_eq_getElem h]
  rfl

set_option maxRecDepth 100000 in
set_option maxHeartbeats 2000000 in
theorem rfold_any (s : ByteArray) (w : World) (hn : s.size ≤ 1099511627776) :
    Calls Tryz.prog 183 #[.string s] w fun e w' => e = .returned (.string (foldS s)) ∧ Below w.heap.size w w' := by
  obtain ⟨i0, hi, hz0, hz1, hz2⟩ := info_parts byteInfo
  have HLOW := Lib.hid (fun w => lower_any s w hn)
  obtain ⟨L, hL⟩ : ∃ L, L = s.data.toList := ⟨_, rfl⟩
  have hz : L.length ≤ 1099511627776 := by rw [hL]; exact hn
  have hfS : foldS s = strOf (foldRun L).1 := by rw [hL]; rfl
  rw [← hL] at HLOW
  have HFS := Lib.hid hfS
  clear hfS hL hn
  obtain ⟨M, hM⟩ : ∃ M, M = strOf (L.map small) := ⟨_, rfl⟩
  have hMz : M.size = L.length := by rw [hM, strOf_size, List.length_map]
  have HMA := Lib.hid (show ∀ k, k < L.length → u8at M k = (small (L.getD k 0)).toNat from fun k hk => by rw [hM, byte_at, strOf_list, map_at L hk])
  rw [← hM] at HLOW
  clear hM
  go_enter Tryz.func183, Tryz.ntmps183
  go_wp2_with (go_at_call 46; (with_reducible refine (HLOW.out _).mono ?_); rintro e w1 ⟨rfl, hb1⟩; have HB1 := Lib.hid hb1; clear hb1)
  go_loopw [3, 4] (fun v i wr => ∃ (k : Nat) (O : List UInt8), k ≤ M.size ∧ i = .int .i64 k ∧ O = refOut (foldRun (L.take k)) ∧ OwnB 5 wr w.heap.size v O ∧ Below w.heap.size w wr) (fun _ i _ => M.size - (intOf i).toNat)
  case atStart => exact ⟨0, [], Nat.zero_le _, rfl, rfl, own_nil _ _ _, HB1.out⟩
  case round =>
    obtain ⟨k, O, hk, rfl, hO, hown, hb⟩ := hrel
    have hOl : O.length ≤ k := by
      have h1 := fold_len (L.take k)
      rw [← hO, List.length_take] at h1
      omega
    have HOO := Lib.hid hO
    have HB := Lib.hid hb
    have hsb := hb.size
    clear hO hb
    by_cases hlt : k < M.size
    · have hd : decide ((k : Int) < (M.size : Int)) = true := by simp; omega
      have hlL : k < L.length := by omega
      have hix := fun w => run_index_u8 (P := Tryz.prog) Tryz.underlying9 M k hlt (k : Int) rfl w
      rw [HMA.out k hlL] at hix
      have HN := Lib.hid (show refOut (foldRun (L.take (k + 1))) = if small (L.getD k 0) ≠ 32 ∨ (O ≠ [] ∧ O.getLast? ≠ some 32) then O ++ [small (L.getD k 0)] else O by
        rw [take_next_x L k hlL, foldRun_snoc, refOut_step (finv _), ← HOO.out])
      generalize small (L.getD k 0) = y at hix HN
      by_cases h32 : y = 32
      · subst h32
        have hq : (((UInt8.toNat 32 : Nat) : Int) != 32) = false := rfl
        rw [show (UInt8.toNat 32 : Int) = 32 from rfl] at hix
        by_cases h0 : O = []
        · subst h0
          obtain ⟨a, cp, rfl⟩ := own_form hown
          have HO := Lib.hid hown
          have HNN := Lib.hid (show refOut (foldRun (L.take (k + 1))) = [] by rw [HN.out]; simp)
          clear hown
          go_wp2_with fail
          go_roundw
          case rel => exact ⟨k + 1, [], by omega, by go_num, HNN.out.symm, HO.out, HB.out⟩
          case measure => simp [intOf]; omega
        · obtain ⟨g, cp, rfl⟩ := own_form2 hown h0
          have HO := Lib.hid hown
          obtain ⟨m, hm⟩ : ∃ m, m = O.length - 1 := ⟨_, rfl⟩
          have hp : 0 < O.length := List.length_pos_iff.2 h0
          have hd0 : decide (0 < O.length) = true := by simp; omega
          have hd1 : decide ((0 : Int) < (O.length : Int)) = true := by simp; omega
          have hmi : (O.length : Int) - 1 = (m : Int) := by omega
          have hml : (m : Int) < (O.length : Int) := by omega
          have hml2 : m < O.length := by omega
          have hcell := own_cell HO.out rfl m hml2
          have hlast := last_of h0
          rw [← hm] at hlast
          generalize O.getD m 0 = x at hcell hlast
          have HL := Lib.hid hlast
          clear hm hown hlast
          by_cases hx : x = 32
          · have hq2 : (((x.toNat : Nat) : Int) != 32) = false := by rw [hx]; rfl
            have HNN := Lib.hid (show refOut (foldRun (L.take (k + 1))) = O by rw [HN.out, HL.out, hx]; simp)
            clear hx hp
            go_wp2_with fail
            go_roundw
            case rel => exact ⟨k + 1, O, by omega, by go_num, HNN.out.symm, HO.out, HB.out⟩
            case measure => simp [intOf]; omega
          · have hxn : ¬ x.toNat = 32 := fun h => hx (UInt8.toNat_inj.1 h)
            have hq2 : (((x.toNat : Nat) : Int) != 32) = true := by simp; omega
            have HNN := Lib.hid (show refOut (foldRun (L.take (k + 1))) = O ++ [32] by rw [HN.out, HL.out, if_pos (.inr ⟨h0, fun e => hx (Option.some.inj e)⟩)])
            clear hx hxn hp
            go_wp2_with (at_builtin; (refine wpList_append_own _ rfl (.tmp 31) (.tmp 35) 61 rfl w.heap.size 5 i0 (.int .u8 0) 1 1 Tryz.underlying61 hi hz0 hz1 hz2 rfl (by decide) _ _ _ rfl (HO.out.alloc _) ⟨wr.heap.size, 0, none⟩ 1 1 [bcell 32] rfl rfl (news_row wr #[bcell 32] 5) (bcells_one [32]) (by unfold maxLen; omega) (by omega) (by simp; omega) ?_); intro v' w2 hown2 hgr2 _; obtain ⟨P1, P2⟩ := out_round HO.out HB.out hown2 hgr2; have HP1 := Lib.hid P1; have HP2 := Lib.hid P2; clear hown2 hgr2 P1 P2)
            go_roundw
            case rel => exact ⟨k + 1, O ++ [32], by omega, by go_num, HNN.out.symm, HP1.out, HP2.out⟩
            case measure => simp [intOf]; omega
      · have h32n : ¬ y.toNat = 32 := fun h => h32 (UInt8.toNat_inj.1 h)
        have hq : (((y.toNat : Nat) : Int) != 32) = true := by simp; omega
        obtain ⟨a, cp, rfl⟩ := own_form hown
        have HO := Lib.hid hown
        have HNN := Lib.hid (show refOut (foldRun (L.take (k + 1))) = O ++ [y] by rw [HN.out, if_pos (.inl h32)])
        clear hown h32 h32n
        go_wp2_with (at_builtin; (refine wpList_append_own _ rfl (.tmp 31) (.tmp 35) 61 rfl w.heap.size 5 i0 (.int .u8 0) 1 1 Tryz.underlying61 hi hz0 hz1 hz2 rfl (by decide) _ _ _ rfl (HO.out.alloc _) ⟨wr.heap.size, 0, none⟩ 1 1 [bcell y] rfl rfl (news_row wr #[bcell y] 5) (bcells_one [y]) (by unfold maxLen; omega) (by omega) (by simp; omega) ?_); intro v' w2 hown2 hgr2 _; obtain ⟨P1, P2⟩ := out_round HO.out HB.out hown2 hgr2; have HP1 := Lib.hid P1; have HP2 := Lib.hid P2; clear hown2 hgr2 P1 P2)
        go_roundw
        case rel => exact ⟨k + 1, O ++ [y], by omega, by go_num, HNN.out.symm, HP1.out, HP2.out⟩
        case measure => simp [intOf]; omega
    · have ek : k = M.size := by omega
      subst ek
      have hd : decide ((M.size : Int) < (M.size : Int)) = false := by simp
      have hO2 : O = refOut (foldRun L) := by rw [HOO.out, List.take_of_length_le (by omega)]
      have hcase := refOut_last (finv L)
      rw [← hO2] at hcase
      have HFF := Lib.hid hcase
      clear hO2 hcase
      by_cases h0 : O = []
      · subst h0
        obtain ⟨a, cp, rfl⟩ := own_form hown
        have hconv : (convert 61 9 (.slice a 0 cp)).run Tryz.prog wr = .ok (.string (strOf [])) wr := own_str hown
        have HR := Lib.hid (show strOf [] = foldS s by
          rw [HFS.out]
          rcases HFF.out with h | h
          · exact absurd rfl h.1
          · rw [← h.2])
        clear hown
        go_wp2_with fail
        go_ret
        exact ⟨by rw [← HR.out]; rfl, HB.out⟩
      · obtain ⟨g, cp, rfl⟩ := own_form2 hown h0
        have HO := Lib.hid hown
        obtain ⟨m, hm⟩ : ∃ m, m = O.length - 1 := ⟨_, rfl⟩
        have hp : 0 < O.length := List.length_pos_iff.2 h0
        have hd0 : decide (0 < O.length) = true := by simp; omega
        have hd1 : decide ((0 : Int) < (O.length : Int)) = true := by simp; omega
        have hmi : (O.length : Int) - 1 = (m : Int) := by omega
        have hml : (m : Int) < (O.length : Int) := by omega
        have hml2 : m < O.length := by omega
        have hcell := own_cell HO.out rfl m hml2
        have hlast := last_of h0
        rw [← hm] at hlast
        generalize O.getD m 0 = x at hcell hlast
        have HL := Lib.hid hlast
        by_cases hx : x = 32
        · have hq2 : (((x.toNat : Nat) : Int) == 32) = true := by rw [hx]; rfl
          have hcpl : O.length ≤ cp := by
            rcases HO.out.2 with ⟨h, _⟩ | ⟨_, _, _, h, _, _, h2, _⟩
            · cases h
            · cases h; exact h2
          have hconv := own_pre HO.out rfl m (by omega)
          have HR := Lib.hid (show strOf (O.take m) = foldS s by
            rw [HFS.out, hm, ← List.dropLast_eq_take]
            rcases HFF.out with h | h
            · rw [h.2.2]
            · exact absurd ⟨h0, by rw [HL.out, hx]⟩ h.1)
          clear hx hm hown hlast
          go_wp2_with fail
          go_ret
          exact ⟨by rw [← HR.out]; rfl, HB.out⟩
        · have hxn : ¬ x.toNat = 32 := fun h => hx (UInt8.toNat_inj.1 h)
          have hq2 : (((x.toNat : Nat) : Int) == 32) = false := by simp; omega
          have hconv := own_str HO.out
          have HR := Lib.hid (show strOf O = foldS s by
            rw [HFS.out]
            rcases HFF.out with h | h
            · exact absurd (Option.some.inj (HL.out.symm.trans h.2.1)) hx
            · rw [← h.2])
          clear hx hxn hm hown hlast
          go_wp2_with fail
          go_ret
          exact ⟨by rw [← HR.out]; rfl, HB.out⟩

set_option maxHeartbeats 1000000 in
theorem rmatch_any (a b : ByteArray) (w : World) (ha : a.size ≤ 1099511627776) (hb : b.size ≤ 1099511627776) :
    Calls Tryz.prog 155 #[.string a, .string b] w fun e w' => e = .returned (.bool (matchB a b)) ∧ Below w.heap.size w w' := by
  have HA := Lib.hid ha
  have HBB := Lib.hid hb
  clear ha hb
  go_enter Tryz.func155, Tryz.ntmps155
  go_wp2_with (first
    | (go_at_call 183; (with_reducible refine (rfold_any a _ HA.out).mono ?_); rintro e w1 ⟨rfl, hb1⟩; have HB1 := Lib.hid hb1; clear hb1)
    | (go_at_call 183; (with_reducible refine (rfold_any b _ HBB.out).mono ?_); rintro e w2 ⟨rfl, hb2⟩; have HB2 := Lib.hid (below_next HB1.out hb2); clear hb2))
  go_ret
  exact ⟨rfl, HB2.out⟩
end Go.Proofs.YtfpfgdbfigdooaaGreatDoor
namespace Go.Proofs.YtfpfgdbfigdooaaGreatDoor
open Go.RowKit

def hasB (l : List At) (a : At) : Bool := l.any fun x => decide (fa x = fa a)
theorem hasB_iff (l : List At) (a : At) : hasB l a = true ↔ ∃ x ∈ l, fa x = fa a := by
  unfold hasB; rw [List.any_eq_true]; simp
theorem fa_dec (t u v s : ByteArray) (k j : Int) : decide (fa (t, k, v) = fa (u, j, s)) = (decide (t = u) && matchB v s) := by
  rw [Bool.eq_iff_iff, Bool.and_eq_true, matchB_iff]
  unfold fa; simp
theorem hasB_step (l : List At) (k : Nat) (a : At) (h : k < l.length) : hasB (l.take (k + 1)) a = (hasB (l.take k) a || decide (fa (l.getD k noAt) = fa a)) := by
  rw [takeD l k h noAt]; unfold hasB; rw [List.any_append]; simp
theorem memD {α : Type} (l : List α) (i : Nat) (h : i < l.length) (d : α) : l.getD i d ∈ l := by
  rw [List.getD_eq_getElem?_getD, List.getElem?_eq_getElem h]
  exact List.getElem_mem h
theorem hasB_hit (l : List At) (k : Nat) (a : At) (h : k < l.length) (e : decide (fa (l.getD k noAt) = fa a) = true) : hasB l a = true :=
  (hasB_iff l a).2 ⟨_, memD l k h noAt, of_decide_eq_true e⟩

set_option maxRecDepth 100000 in
set_option maxHeartbeats 4000000 in
theorem rhas_any (a0 : Option Addr) (c n : Nat) (l : List At) (t v : ByteArray) (kd : Int) (w : World) (h : ALies w a0 l) (hn : n = l.length) (hs : SmallR l) (hv : v.size ≤ 1000000) :
    Calls Tryz.prog 125 #[.slice a0 n c, .agg #[.string t, .int .i64 kd, .string v]] w fun e w' => e = .returned (.bool (hasB l (t, kd, v))) ∧ Below w.heap.size w w' := by
  have hL : n ≤ 1000000 := by rw [hn]; exact hs.1
  obtain ⟨E, hE⟩ : ∃ E, E = hasB l (t, kd, v) := ⟨_, rfl⟩
  rw [← hE]
  have HE := Lib.hid hE
  have HN := Lib.hid hn
  have HS := Lib.hid hs
  have HVS := Lib.hid hv
  obtain ⟨G, hG⟩ : ∃ G, G = w.heap.size := ⟨_, rfl⟩
  obtain ⟨W0, hW0⟩ : ∃ W0, W0 = w.alloc (.cells #[.string t, .int .i64 kd, .string v] 27) := ⟨_, rfl⟩
  have HWE := Lib.hid (show w.alloc (.cells #[.string t, .int .i64 kd, .string v] 27) = W0 from hW0.symm)
  have hb0 : Below w.heap.size w W0 := by rw [hW0]; exact belowNew w _
  have HB0 := Lib.hid hb0
  have HQ0 := Lib.hid (show W0.cell? ⟨G, 0, none⟩ = some (.string t) by rw [hW0, hG]; exact box_cell w _ _ _ _)
  have HQ2 := Lib.hid (show W0.cell? ⟨G, 2, none⟩ = some (.string v) by rw [hW0, hG, cell_of_row _ _ 2 _ _ _ (heap_alloc_new w _)]; rfl)
  have H1 := Lib.hid (h.below hb0)
  have HG := Lib.hid hG
  clear h hn hs hE hv hW0 hG hb0
  go_enter Tryz.func125, Tryz.ntmps125
  go_wp2_with fail
  rw [HWE.out, ← HG.out]
  go_loopw [9] (fun i wr => ∃ k : Nat, k ≤ n ∧ i = .int .i64 k ∧ hasB (l.take k) (t, kd, v) = false ∧ Below W0.heap.size W0 wr) (fun i _ => n - (intOf i).toNat)
  case atStart => exact ⟨0, Nat.zero_le _, rfl, rfl, Below.refl _ _⟩
  case round =>
    obtain ⟨k, hk, rfl, hA, hb⟩ := hrel
    have HB := Lib.hid hb
    have HA := Lib.hid hA
    have q0 := (hb.cell (p := ⟨G, 0, none⟩) (block_lt HQ0.out)).trans HQ0.out
    have q2 := (hb.cell (p := ⟨G, 2, none⟩) (block_lt HQ2.out)).trans HQ2.out
    have hltG : G < wr.heap.size := block_lt q0
    clear hb hA
    by_cases hlt : k < n
    · have hd : decide ((k : Int) < (n : Int)) = true := by simp; omega
      obtain ⟨b, o, rfl, hb, c0, c1, c2⟩ := H1.out.at k (by rw [← HN.out]; exact hlt)
      have a0 : wr.cell? ⟨b, o + k * 3, none⟩ = _ := (HB.out.cell (p := ⟨b, o + k * 3, none⟩) hb).trans c0
      have a1 : wr.cell? ⟨b, o + k * 3 + 1, none⟩ = _ := (HB.out.cell (p := ⟨b, o + k * 3 + 1, none⟩) hb).trans c1
      have a2 : wr.cell? ⟨b, o + k * 3 + 2, none⟩ = _ := (HB.out.cell (p := ⟨b, o + k * 3 + 2, none⟩) hb).trans c2
      have HST := Lib.hid (hasB_step l k (t, kd, v) (by rw [← HN.out]; exact hlt))
      have HHT := Lib.hid (hasB_hit l k (t, kd, v) (by rw [← HN.out]; exact hlt))
      have hsm := HS.out.2 k (by rw [← HN.out]; exact hlt)
      generalize l.getD k noAt = y at a0 a1 a2 HST hsm HHT
      obtain ⟨t2, kd2, v2⟩ := y
      have HM := Lib.hid (fun W => rmatch_any v2 v W (by have := hsm.2; simp at this; omega) (by have := HVS.out; omega))
      have hfa := fa_dec t2 t v2 v kd2 kd
      have HE2 := Lib.hid (beq_str t2 t)
      have HBX := Lib.hid (below_next (below_next HB0.out HB.out) (belowNew wr (.cells #[.string t2, .int .i64 kd2, .string v2] 27)))
      have HBY := Lib.hid (below_next HB.out (belowNew wr (.cells #[.string t2, .int .i64 kd2, .string v2] 27)))
      clear c0 c1 c2 hb hsm
      by_cases hx : t2 = t
      · have hbq : (t2.toList == t.toList) = true := by rw [HE2.out]; exact decide_eq_true hx
        rw [decide_eq_true hx, Bool.true_and] at hfa
        have HFA := Lib.hid hfa
        clear hfa hx
        cases hm : matchB v2 v with
        | true =>
          rw [hm] at HM
          have HF := Lib.hid (show E = true by rw [HE.out]; exact HHT.out (by rw [HFA.out, hm]))
          clear hm
          go_wp2_with (go_at_call 155; (with_reducible refine (HM.out _).mono ?_); rintro e w1 ⟨rfl, hb1⟩; have HB1 := Lib.hid hb1; clear hb1)
          go_ret
          exact ⟨by rw [HF.out]; rfl, below_next HBX.out HB1.out⟩
        | false =>
          rw [hm] at HM
          have HF := Lib.hid (show hasB (l.take (k + 1)) (t, kd, v) = false by rw [HST.out, HA.out, HFA.out, hm]; rfl)
          clear hm
          go_wp2_with (go_at_call 155; (with_reducible refine (HM.out _).mono ?_); rintro e w1 ⟨rfl, hb1⟩; have HB1 := Lib.hid hb1; clear hb1)
          go_roundw
          case rel => exact ⟨k + 1, by omega, by go_num, HF.out, below_next HBY.out HB1.out⟩
          case measure => simp [intOf]; omega
      · have hbq : (t2.toList == t.toList) = false := by rw [HE2.out]; exact decide_eq_false hx
        rw [decide_eq_false hx, Bool.false_and] at hfa
        have HF := Lib.hid (show hasB (l.take (k + 1)) (t, kd, v) = false by rw [HST.out, HA.out, hfa]; rfl)
        clear hfa hx
        go_wp2_with fail
        go_roundw
        case rel => exact ⟨k + 1, by omega, by go_num, HF.out, HBY.out⟩
        case measure => simp [intOf]; omega
    · have hd : decide ((k : Int) < (n : Int)) = false := by simp; omega
      have HF := Lib.hid (show E = false by rw [HE.out]; have := HA.out; rwa [List.take_of_length_le (by rw [← HN.out]; omega)] at this)
      go_wp2_with fail
      go_ret
      exact ⟨by rw [HF.out]; rfl, below_next HB0.out HB.out⟩

/-! ### matchRDN -/
theorem matchR_has (r s : List At) : MatchR r s ↔ r.length = s.length ∧ ∀ i, i < r.length → hasB s (r.getD i noAt) = true ∧ hasB r (s.getD i noAt) = true := by
  constructor
  · rintro ⟨h1, h2, h3⟩
    refine ⟨h1, fun i hi => ⟨(hasB_iff _ _).2 (h2 _ (memD r i hi noAt)), (hasB_iff _ _).2 (h3 _ (memD s i (by omega) noAt))⟩⟩
  · rintro ⟨h1, h2⟩
    refine ⟨h1, fun x hx => ?_, fun x hx => ?_⟩
    · obtain ⟨i, hi, rfl⟩ := List.mem_iff_getElem.1 hx
      have := (hasB_iff _ _).1 (h2 i hi).1
      rwa [List.getD_eq_getElem?_getD, List.getElem?_eq_getElem hi] at this
    · obtain ⟨i, hi, rfl⟩ := List.mem_iff_getElem.1 hx
      have := (hasB_iff _ _).1 (h2 i (by omega)).2
      rwa [List.getD_eq_getElem?_getD, List.getElem?_eq_getElem hi] at this
set_option maxRecDepth 100000 in
set_option maxHeartbeats 4000000 in
theorem rmrel_any (a0 b0 : Option Addr) (c d n m : Nat) (r s : List At) (w : World) (h1 : ALies w a0 r) (h2 : ALies w b0 s) (hn : n = r.length) (hm : m = s.length) (hr : SmallR r) (hs : SmallR s) :
    Calls Tryz.prog 79 #[.slice a0 n c, .slice b0 m d] w fun e w' => e = .returned (.bool (decide (MatchR r s))) ∧ Below w.heap.size w w' := by
  by_cases hl : n = m
  · subst hl
    have hL : n ≤ 1000000 := by rw [hn]; exact hr.1
    have H1 := Lib.hid h1
    have H2 := Lib.hid h2
    have HN := Lib.hid hn
    have HM := Lib.hid hm
    have HR := Lib.hid hr
    have HS := Lib.hid hs
    obtain ⟨E, hE⟩ : ∃ E, E = decide (MatchR r s) := ⟨_, rfl⟩
    rw [← hE]
    have HE := Lib.hid hE
    clear h1 h2 hn hm hr hs hE
    go_enter Tryz.func79, Tryz.ntmps79
    go_wp2_with fail
    go_loopw [13] (fun i wr => ∃ k : Nat, k ≤ n ∧ i = .int .i64 k ∧ (∀ j, j < k → hasB s (r.getD j noAt) = true ∧ hasB r (s.getD j noAt) = true) ∧ Below w.heap.size w wr) (fun i _ => n - (intOf i).toNat)
    case atStart => exact ⟨0, Nat.zero_le _, rfl, fun j hj => absurd hj (Nat.not_lt_zero _), Below.refl _ _⟩
    case round =>
      obtain ⟨k, hk, rfl, hA, hb⟩ := hrel
      have HB := Lib.hid hb
      have HA := Lib.hid hA
      clear hb hA
      by_cases hlt : k < n
      · have hd : decide ((k : Int) < (n : Int)) = true := by simp; omega
        obtain ⟨b, o, rfl, hb, c0, c1, c2⟩ := H1.out.at k (by rw [← HN.out]; exact hlt)
        have a0 : wr.cell? ⟨b, o + k * 3, none⟩ = _ := (HB.out.cell (p := ⟨b, o + k * 3, none⟩) hb).trans c0
        have a1 : wr.cell? ⟨b, o + k * 3 + 1, none⟩ = _ := (HB.out.cell (p := ⟨b, o + k * 3 + 1, none⟩) hb).trans c1
        have a2 : wr.cell? ⟨b, o + k * 3 + 2, none⟩ = _ := (HB.out.cell (p := ⟨b, o + k * 3 + 2, none⟩) hb).trans c2
        obtain ⟨g, q, rfl, hg, d0, d1, d2⟩ := H2.out.at k (by rw [← HM.out]; exact hlt)
        have HD0 := Lib.hid ((HB.out.cell (p := ⟨g, q + k * 3, none⟩) hg).trans d0)
        have HD1 := Lib.hid ((HB.out.cell (p := ⟨g, q + k * 3 + 1, none⟩) hg).trans d1)
        have HD2 := Lib.hid ((HB.out.cell (p := ⟨g, q + k * 3 + 2, none⟩) hg).trans d2)
        have hs1 := HR.out.2 k (by rw [← HN.out]; exact hlt)
        have hs2 := HS.out.2 k (by rw [← HM.out]; exact hlt)
        have HX := Lib.hid (show E = true → hasB s (r.getD k noAt) = true ∧ hasB r (s.getD k noAt) = true from fun e => ((matchR_has r s).1 (of_decide_eq_true (by rw [← HE.out]; exact e))).2 k (by rw [← HN.out]; exact hlt))
        have HY := Lib.hid (show hasB s (r.getD k noAt) = true ∧ hasB r (s.getD k noAt) = true → ∀ j, j < k + 1 → hasB s (r.getD j noAt) = true ∧ hasB r (s.getD j noAt) = true from fun e j hj => by
          by_cases hjk : j = k
          · subst hjk; exact e
          · exact HA.out j (by omega))
        generalize r.getD k noAt = x at a0 a1 a2 hs1 HX HY
        generalize s.getD k noAt = y at HD0 HD1 HD2 hs2 HX HY
        obtain ⟨t, kd, v⟩ := x
        obtain ⟨t2, kd2, v2⟩ := y
        have HC1 := Lib.hid (rhas_any (some ⟨g, q, none⟩) d n s t v kd wr (H2.out.below HB.out) HM.out HS.out hs1.2)
        have HC2 := Lib.hid (fun W (hw : Below wr.heap.size wr W) => rhas_any (some ⟨b, o, none⟩) c n r t2 v2 kd2 W ((H1.out.below HB.out).below hw) HN.out HR.out hs2.2)
        obtain ⟨x1, hx1⟩ : ∃ x1, x1 = hasB s (t, kd, v) := ⟨_, rfl⟩
        obtain ⟨x2, hx2⟩ : ∃ x2, x2 = hasB r (t2, kd2, v2) := ⟨_, rfl⟩
        rw [← hx1] at HC1 HX HY
        rw [← hx2] at HC2 HX HY
        clear c0 c1 c2 d0 d1 d2 hb hg hs1 hs2 hx1 hx2
        cases x1 with
        | false =>
          have HF := Lib.hid (show E = false from by
            cases hh : E with
            | false => rfl
            | true => exact absurd (HX.out hh).1 (by decide))
          go_wp2_with (go_at_call 125; (with_reducible refine HC1.out.mono ?_); rintro e w1 ⟨rfl, hb1⟩; have HB1 := Lib.hid (below_next HB.out hb1); clear hb1)
          go_ret
          exact ⟨by rw [HF.out]; rfl, HB1.out⟩
        | true =>
          cases x2 with
          | false =>
            have HF := Lib.hid (show E = false from by
              cases hh : E with
              | false => rfl
              | true => exact absurd (HX.out hh).2 (by decide))
            go_wp2_with (first
              | (go_at_call 125; (with_reducible refine HC1.out.mono ?_); rintro e w1 ⟨rfl, hb1⟩; have HB1 := Lib.hid hb1; have e0 := (hb1.cell (p := ⟨g, q + k * 3, none⟩) (block_lt HD0.out)).trans HD0.out; have e1 := (hb1.cell (p := ⟨g, q + k * 3 + 1, none⟩) (block_lt HD1.out)).trans HD1.out; have e2 := (hb1.cell (p := ⟨g, q + k * 3 + 2, none⟩) (block_lt HD2.out)).trans HD2.out; clear hb1)
              | (go_at_call 125; (with_reducible refine (HC2.out _ HB1.out).mono ?_); rintro e w2 ⟨rfl, hb2⟩; have HB2 := Lib.hid (below_next HB.out (below_next HB1.out hb2)); clear hb2))
            go_ret
            exact ⟨by rw [HF.out]; rfl, HB2.out⟩
          | true =>
            have HF := Lib.hid (HY.out ⟨rfl, rfl⟩)
            go_wp2_with (first
              | (go_at_call 125; (with_reducible refine HC1.out.mono ?_); rintro e w1 ⟨rfl, hb1⟩; have HB1 := Lib.hid hb1; have e0 := (hb1.cell (p := ⟨g, q + k * 3, none⟩) (block_lt HD0.out)).trans HD0.out; have e1 := (hb1.cell (p := ⟨g, q + k * 3 + 1, none⟩) (block_lt HD1.out)).trans HD1.out; have e2 := (hb1.cell (p := ⟨g, q + k * 3 + 2, none⟩) (block_lt HD2.out)).trans HD2.out; clear hb1)
              | (go_at_call 125; (with_reducible refine (HC2.out _ HB1.out).mono ?_); rintro e w2 ⟨rfl, hb2⟩; have HB2 := Lib.hid (below_next HB.out (below_next HB1.out hb2)); clear hb2))
            go_roundw
            case rel => exact ⟨k + 1, by omega, by go_num, HF.out, HB2.out⟩
            case measure => simp [intOf]; omega
      · have hd : decide ((k : Int) < (n : Int)) = false := by simp; omega
        have HF := Lib.hid (show E = true by rw [HE.out]; exact decide_eq_true ((matchR_has r s).2 ⟨by rw [← HN.out, ← HM.out], fun j hj => HA.out j (by rw [← HN.out] at hj; omega)⟩))
        go_wp2_with fail
        go_ret
        exact ⟨by rw [HF.out]; rfl, HB.out⟩
  · have e : decide (MatchR r s) = false := decide_eq_false (fun h => hl (by rw [hn, hm]; exact h.1))
    have hd : ((n : Int) != (m : Int)) = true := by simp; omega
    rw [e]
    clear h1 h2 hn hm hr hs hl e
    go_enter Tryz.func79, Tryz.ntmps79
    go_wp2_with fail
    go_ret
    exact ⟨rfl, Below.refl _ _⟩
end Go.Proofs.YtfpfgdbfigdooaaGreatDoor
namespace Go.Proofs.YtfpfgdbfigdooaaGreatDoor
open Go.RowKit

set_option maxRecDepth 100000 in
set_option maxHeartbeats 4000000 in
theorem rwithin_core (a0 b0 : Option Addr) (c d n m : Nat) (r s : Nm) (w : World) (h1 : RLies w a0 r) (h2 : RLies w b0 s) (hn : n = r.length) (hm : m = s.length) (hr : SmallN r) (hs : SmallN s) :
    Calls Tryz.prog 52 #[.agg #[.slice a0 n c], .agg #[.slice b0 m d]] w fun e w' => e = .returned (.bool (decide (WithinN r s))) ∧ Below w.heap.size w w' := by
  obtain ⟨W, hW⟩ : ∃ W, W = (w.alloc (.cells #[.slice a0 n c] 24)).alloc (.cells #[.slice b0 m d] 24) := ⟨_, rfl⟩
  have hwr : (w.alloc (.cells #[.slice a0 n c] 24)).alloc (.cells #[.slice b0 m d] 24) = W := hW.symm
  have hb : Below w.heap.size w W := by rw [hW]; exact belowTwo w _ _
  have k0 : W.cell? ⟨w.heap.size, 0, none⟩ = some (.slice a0 n c) := by
    rw [hW, World.cell?_alloc_old _ _ _ (by simp), cell_of_row _ _ 0 _ _ _ (heap_alloc_new w _)]; rfl
  have k1 : W.cell? ⟨w.heap.size + 1, 0, none⟩ = some (.slice b0 m d) := by
    rw [hW]
    have := cell_of_row (w := (w.alloc (.cells #[.slice a0 n c] 24)).alloc (.cells #[.slice b0 m d] 24)) (w.heap.size + 1) 0 #[.slice b0 m d] 24 (0, 0) (by have := heap_alloc_new (w.alloc (.cells #[.slice a0 n c] 24)) (.cells #[.slice b0 m d] 24); simpa using this)
    rw [this]; rfl
  have HB := Lib.hid hb
  have H1 := Lib.hid (h1.below hb)
  have H2 := Lib.hid (h2.below hb)
  have HN := Lib.hid hn
  have HM := Lib.hid hm
  have HR := Lib.hid hr
  have HS := Lib.hid hs
  have hms : m ≤ 1000000 := by rw [hm]; exact hs.1
  have hns : n ≤ 1000000 := by rw [hn]; exact hr.1
  obtain ⟨E, hE⟩ : ∃ E, E = decide (WithinN r s) := ⟨_, rfl⟩
  rw [← hE]
  have HE := Lib.hid hE
  clear h1 h2 hn hm hr hs hE hW hb
  by_cases hl : m ≤ n
  · have hd : decide ((n : Int) < (m : Int)) = false := by simp; omega
    go_enter Tryz.func52, Tryz.ntmps52
    go_wp2_with fail
    have K0 := Lib.hid k0
    have K1 := Lib.hid k1
    obtain ⟨g, hg⟩ : ∃ g, g = w.heap.size := ⟨_, rfl⟩
    have HG := Lib.hid hg
    rw [← hg] at K0 K1 ⊢
    clear hwr k0 k1 hd hg
    go_loopw [16] (fun i wr => ∃ k : Nat, k ≤ m ∧ i = .int .i64 k ∧ (∀ j, j < k → MatchR (r.getD j []) (s.getD j [])) ∧ Below W.heap.size W wr) (fun i _ => m - (intOf i).toNat)
    case atStart => exact ⟨0, Nat.zero_le _, rfl, fun j hj => absurd hj (Nat.not_lt_zero _), Below.refl _ _⟩
    case round =>
      obtain ⟨k, hk, rfl, hA, hb⟩ := hrel
      have HBR := Lib.hid hb
      have HA := Lib.hid hA
      clear hb hA
      by_cases hlt : k < m
      · have hd : decide ((k : Int) < (m : Int)) = true := by simp; omega
        have hkn : k < n := by omega
        obtain ⟨b, o, rfl, hb, a1, c1, e1, _, hL1⟩ := H1.out.at k (by rw [← HN.out]; exact hkn)
        have f1 : wr.cell? ⟨b, o + k, none⟩ = _ := (HBR.out.cell (p := ⟨b, o + k, none⟩) hb).trans e1
        obtain ⟨b', o', rfl, hb', a2, c2, e2, _, hL2⟩ := H2.out.at k (by rw [← HM.out]; exact hlt)
        have f2 : wr.cell? ⟨b', o' + k, none⟩ = _ := (HBR.out.cell (p := ⟨b', o' + k, none⟩) hb').trans e2
        have q0 := (HBR.out.cell (p := ⟨g, 0, none⟩) (block_lt K0.out)).trans K0.out
        have q1 := (HBR.out.cell (p := ⟨g + 1, 0, none⟩) (block_lt K1.out)).trans K1.out
        have hs1 := HR.out.2 k (by rw [← HN.out]; exact hkn)
        have hs2 := HS.out.2 k (by rw [← HM.out]; exact hlt)
        obtain ⟨x, hx⟩ : ∃ x, x = r.getD k [] := ⟨_, rfl⟩
        obtain ⟨y, hy⟩ : ∃ y, y = s.getD k [] := ⟨_, rfl⟩
        rw [← hx] at f1 hs1 hL1
        rw [← hy] at f2 hs2 hL2
        obtain ⟨p, hp⟩ : ∃ p, p = x.length := ⟨_, rfl⟩
        obtain ⟨q, hq⟩ : ∃ q, q = y.length := ⟨_, rfl⟩
        rw [← hp] at f1
        rw [← hq] at f2
        have HL1 := Lib.hid hL1
        have HL2 := Lib.hid hL2
        have HMR := Lib.hid (fun V (hv : Below wr.heap.size wr V) => rmrel_any a1 a2 c1 c2 p q x y V ((HL1.out.below HBR.out).below hv) ((HL2.out.below HBR.out).below hv) hp hq hs1 hs2)
        have HX := Lib.hid hx
        have HY := Lib.hid hy
        clear e1 e2 hb hb' hs1 hs2 hL1 hL2 hx hy hp hq
        obtain ⟨z, hz⟩ : ∃ z, z = decide (MatchR x y) := ⟨_, rfl⟩
        have HZ := Lib.hid hz
        rw [← hz] at HMR
        clear hz
        go_wp2_with fail
        have cE : ∀ d' os, Calls Tryz.prog 79 #[.slice a1 p c1, .slice a2 q c2] (Sort.grow (redrawn wr d') os)
            fun e w'' => e = .returned (.bool z) ∧ ∃ p : Regrown, w'' = Sort.grow (redrawn wr p.d) p.os := fun d' os => Calls.regrown_of (HMR.out _ (below_regrown wr d' os))
        have g0 := cell_regrown q0
        have g1 := cell_regrown q1
        have g2 := cell_regrown f1
        have g3 := cell_regrown f2
        clear q0 q1 f1 f2
        refine wp_region_quiet_below (by kernel_rfl) (by kernel_rfl) ?_
        repeat (go_big_quiet_step (with_reducible exact cE _ _))
        refine wpQuiet_nil ?_
        intro _ hw'
        obtain ⟨⟨dq, osq⟩, hw''⟩ := hw'
        subst hw''
        clear g0 g1 g2 g3 cE
        have HBZ := Lib.hid (HBR.out.trans ((below_regrown wr dq osq).mono HBR.out.size))
        cases z with
        | true =>
          have HF := Lib.hid (show ∀ j, j < k + 1 → MatchR (r.getD j []) (s.getD j []) from fun j hj => by
            by_cases e : j = k
            · rw [e, ← HX.out, ← HY.out]; exact of_decide_eq_true HZ.out.symm
            · exact HA.out j (by omega))
          go_wp2_with fail
          go_roundw
          case rel => exact ⟨k + 1, by omega, by go_num, HF.out, HBZ.out⟩
          case measure => simp [intOf]; omega
        | false =>
          have HF := Lib.hid (show E = false by rw [HE.out]; exact decide_eq_false (fun h => of_decide_eq_false HZ.out.symm (by rw [HX.out, HY.out]; exact h.2 k (by rw [← HM.out]; exact hlt))))
          go_wp2_with fail
          go_ret
          exact ⟨by rw [HF.out]; rfl, below_next HB.out HBZ.out⟩
      · have hd : decide ((k : Int) < (m : Int)) = false := by simp; omega
        have HF := Lib.hid (show E = true by rw [HE.out]; exact decide_eq_true ⟨by rw [← HN.out, ← HM.out]; exact hl, fun j hj => HA.out j (by rw [← HM.out] at hj; omega)⟩)
        go_wp2_with fail
        go_ret
        exact ⟨by rw [HF.out]; rfl, below_next HB.out HBR.out⟩
  · have hd : decide ((n : Int) < (m : Int)) = true := by simp; omega
    have HF := Lib.hid (show E = false by rw [HE.out]; exact decide_eq_false (fun h => hl (by rw [HN.out, HM.out]; exact h.1)))
    go_enter Tryz.func52, Tryz.ntmps52
    go_wp2_with fail
    go_ret
    exact ⟨by rw [HF.out]; rfl, HB.out⟩

set_option maxRecDepth 100000 in
set_option maxHeartbeats 4000000 in
theorem rmatch_core (a0 b0 : Option Addr) (c d n m : Nat) (r s : Nm) (w : World) (h1 : RLies w a0 r) (h2 : RLies w b0 s) (hn : n = r.length) (hm : m = s.length) (hr : SmallN r) (hs : SmallN s) :
    Calls Tryz.prog 26 #[.agg #[.slice a0 n c], .agg #[.slice b0 m d]] w fun e w' => e = .returned (.bool (decide (MatchN r s))) ∧ Below w.heap.size w w' := by
  have HE := Lib.hid (fun W (hb : Below w.heap.size w W) => rwithin_core a0 b0 c d n m r s W (h1.below hb) (h2.below hb) hn hm hr hs)
  have HB := Lib.hid (belowTwo w (.cells #[.slice a0 n c] 24) (.cells #[.slice b0 m d] 24))
  have hmw := match_within r s
  obtain ⟨E, hE⟩ : ∃ E, E = decide (MatchN r s) := ⟨_, rfl⟩
  obtain ⟨v, hv⟩ : ∃ v, v = decide (WithinN r s) := ⟨_, rfl⟩
  rw [← hv] at HE
  rw [← hE]
  have HEE := Lib.hid hE
  by_cases hl : n = m
  · have HF := Lib.hid (show E = v by
      rw [hE, hv, decide_eq_decide, hmw]
      exact ⟨fun h => h.2, fun h => ⟨by rw [← hn, ← hm]; exact hl, h⟩⟩)
    subst hl
    clear h1 h2 hn hm hr hs hv hE hmw
    go_enter Tryz.func26, Tryz.ntmps26
    go_wp2_with (go_at_call 52; (with_reducible refine (HE.out _ HB.out).mono ?_); rintro e w1 ⟨rfl, hb1⟩; have HB1 := Lib.hid (below_next HB.out hb1); clear hb1)
    go_ret
    exact ⟨by rw [HF.out]; rfl, HB1.out⟩
  · have HF := Lib.hid (show E = false by rw [hE]; exact decide_eq_false (fun h => hl (by rw [hn, hm]; exact h.1)))
    have hd : ((n : Int) == (m : Int)) = false := beq_eq_false_iff_ne.2 (by omega)
    clear h1 h2 hn hm hr hs hv hE hmw hl
    go_enter Tryz.func26, Tryz.ntmps26
    go_wp2_with fail
    go_ret
    exact ⟨by rw [HF.out]; rfl, HB.out⟩
end Go.Proofs.YtfpfgdbfigdooaaGreatDoor
namespace Go.Proofs.YtfpfgdbfigdooaaGreatDoor
open Go.RowKit

set_option maxRecDepth 100000 in
set_option maxHeartbeats 4000000 in
theorem exact_core (a0 b0 : Option Addr) (c d n : Nat) (r : Nm) (w : World) (h1 : RLies w a0 r) (h2 : RLies w b0 r) (hn : n = r.length) (hr : SmallN r) :
    Calls Tryz.prog 22 #[.agg #[.slice a0 n c], .agg #[.slice b0 n d]] w fun e w' => e = .returned (.bool true) ∧ Below w.heap.size w w' := by
  obtain ⟨W, hW⟩ : ∃ W, W = (w.alloc (.cells #[.slice a0 n c] 24)).alloc (.cells #[.slice b0 n d] 24) := ⟨_, rfl⟩
  have hwr : (w.alloc (.cells #[.slice a0 n c] 24)).alloc (.cells #[.slice b0 n d] 24) = W := hW.symm
  have hb : Below w.heap.size w W := by rw [hW]; exact belowTwo w _ _
  have k0 : W.cell? ⟨w.heap.size, 0, none⟩ = some (.slice a0 n c) := by
    rw [hW, World.cell?_alloc_old _ _ _ (by simp), cell_of_row _ _ 0 _ _ _ (heap_alloc_new w _)]; rfl
  have k1 : W.cell? ⟨w.heap.size + 1, 0, none⟩ = some (.slice b0 n d) := by
    rw [hW]
    have := cell_of_row (w := (w.alloc (.cells #[.slice a0 n c] 24)).alloc (.cells #[.slice b0 n d] 24)) (w.heap.size + 1) 0 #[.slice b0 n d] 24 (0, 0) (by have := heap_alloc_new (w.alloc (.cells #[.slice a0 n c] 24)) (.cells #[.slice b0 n d] 24); simpa using this)
    rw [this]; rfl
  have HB := Lib.hid hb
  have H1 := Lib.hid (h1.below hb)
  have H2 := Lib.hid (h2.below hb)
  have HN := Lib.hid hn
  have HR := Lib.hid hr
  have hns : n ≤ 1000000 := by rw [hn]; exact hr.1
  have hd0 : ((n : Int) != (n : Int)) = false := by simp
  clear h1 h2 hn hr hW hb
  go_enter Tryz.func22, Tryz.ntmps22
  go_wp2_with fail
  have K0 := Lib.hid k0
  have K1 := Lib.hid k1
  obtain ⟨g, hg⟩ : ∃ g, g = w.heap.size := ⟨_, rfl⟩
  have HG := Lib.hid hg
  rw [← hg] at K0 K1 ⊢
  clear hwr k0 k1 hd0 hg
  go_loopw [17] (fun i wr => ∃ k : Nat, k ≤ n ∧ i = .int .i64 k ∧ Below W.heap.size W wr) (fun i _ => n - (intOf i).toNat)
  case atStart => exact ⟨0, Nat.zero_le _, rfl, Below.refl _ _⟩
  case round =>
    obtain ⟨wo, hwo⟩ : ∃ wo, wo = wr := ⟨_, rfl⟩
    subst hwo
    obtain ⟨k, hk, rfl, hb⟩ := hrel
    have HBR := Lib.hid hb
    clear hb
    by_cases hlt : k < n
    · have hd : decide ((k : Int) < (n : Int)) = true := by simp; omega
      obtain ⟨b, o, rfl, hb, a1, c1, e1, _, hL1⟩ := H1.out.at k (by rw [← HN.out]; exact hlt)
      have f1 : wo.cell? ⟨b, o + k, none⟩ = _ := (HBR.out.cell (p := ⟨b, o + k, none⟩) hb).trans e1
      obtain ⟨b', o', rfl, hb', a2, c2, e2, _, hL2⟩ := H2.out.at k (by rw [← HN.out]; exact hlt)
      have f2 : wo.cell? ⟨b', o' + k, none⟩ = _ := (HBR.out.cell (p := ⟨b', o' + k, none⟩) hb').trans e2
      have q0 := (HBR.out.cell (p := ⟨g, 0, none⟩) (block_lt K0.out)).trans K0.out
      have q1 := (HBR.out.cell (p := ⟨g + 1, 0, none⟩) (block_lt K1.out)).trans K1.out
      have hs1 := HR.out.2 k (by rw [← HN.out]; exact hlt)
      obtain ⟨x, hx⟩ : ∃ x, x = r.getD k [] := ⟨_, rfl⟩
      rw [← hx] at f1 f2 hs1 hL1 hL2
      obtain ⟨p, hp⟩ : ∃ p, p = x.length := ⟨_, rfl⟩
      rw [← hp] at f1 f2
      have hpz : p ≤ 1000000 := by rw [hp]; exact hs1.1
      have HL1 := Lib.hid hL1
      have HL2 := Lib.hid hL2
      have HP := Lib.hid hp
      have HF1 := Lib.hid e1
      have HF2 := Lib.hid e2
      have hdp : ((p : Int) != (p : Int)) = false := by simp
      rw [← hx] at HF1 HF2
      rw [← hp] at HF1 HF2
      clear e1 e2 hb hb' hs1 hL1 hL2 hx hp
      go_wp2_with fail
      go_region
      go_wp2_with fail
      clear q0 q1 f1 f2 hdp
      have HBD := Lib.hid (HBR.out.trans ((Below.refl wo.heap.size wo).drew.mono HBR.out.size))
      go_loopw [39] (fun i ws => ∃ j : Nat, j ≤ p ∧ i = .int .i64 j ∧ Below W.heap.size W ws) (fun i _ => p - (intOf i).toNat)
      case atStart => exact ⟨0, Nat.zero_le _, rfl, HBD.out⟩
      case round =>
        obtain ⟨ws, hws⟩ : ∃ ws, ws = wr := ⟨_, rfl⟩
        subst hws
        obtain ⟨j, hj, rfl, hb⟩ := hrel
        have HBS := Lib.hid hb
        clear hb
        by_cases hjl : j < p
        · have hdj : decide ((j : Int) < (p : Int)) = true := by simp; omega
          have q0 := (HBS.out.cell (p := ⟨g, 0, none⟩) (block_lt K0.out)).trans K0.out
          have q1 := (HBS.out.cell (p := ⟨g + 1, 0, none⟩) (block_lt K1.out)).trans K1.out
          have f1 := (HBS.out.cell (p := ⟨b, o + k, none⟩) (block_lt HF1.out)).trans HF1.out
          have f2 := (HBS.out.cell (p := ⟨b', o' + k, none⟩) (block_lt HF2.out)).trans HF2.out
          obtain ⟨b3, o3, rfl, h3, m0, m1, m2⟩ := HL1.out.at j (by rw [← HP.out]; exact hjl)
          obtain ⟨b4, o4, rfl, h4, n0, n1, n2⟩ := HL2.out.at j (by rw [← HP.out]; exact hjl)
          generalize x.getD j noAt = y at m0 m1 m2 n0 n1 n2
          obtain ⟨t, kd, v⟩ := y
          have l0 : ws.cell? ⟨b3, o3 + j * 3, none⟩ = some (.string t) := (HBS.out.cell (p := ⟨b3, o3 + j * 3, none⟩) h3).trans m0
          have l1 : ws.cell? ⟨b3, o3 + j * 3 + 1, none⟩ = some (.int .i64 kd) := (HBS.out.cell (p := ⟨b3, o3 + j * 3 + 1, none⟩) h3).trans m1
          have l2 : ws.cell? ⟨b3, o3 + j * 3 + 2, none⟩ = some (.string v) := (HBS.out.cell (p := ⟨b3, o3 + j * 3 + 2, none⟩) h3).trans m2
          have r0 : ws.cell? ⟨b4, o4 + j * 3, none⟩ = some (.string t) := (HBS.out.cell (p := ⟨b4, o4 + j * 3, none⟩) h4).trans n0
          have r1 : ws.cell? ⟨b4, o4 + j * 3 + 1, none⟩ = some (.int .i64 kd) := (HBS.out.cell (p := ⟨b4, o4 + j * 3 + 1, none⟩) h4).trans n1
          have r2 : ws.cell? ⟨b4, o4 + j * 3 + 2, none⟩ = some (.string v) := (HBS.out.cell (p := ⟨b4, o4 + j * 3 + 2, none⟩) h4).trans n2
          clear m0 m1 m2 n0 n1 n2 h3 h4
          go_wp2_with fail
          go_region
          go_wp2_with fail
          go_roundw
          case rel => exact ⟨j + 1, by omega, by go_num, HBS.out.trans ((Below.refl ws.heap.size ws).drew.mono HBS.out.size)⟩
          case measure => simp [intOf]; omega
        · have hdj : decide ((j : Int) < (p : Int)) = false := by simp; omega
          go_wp2_with fail
          go_roundw
          case rel => exact ⟨k + 1, by omega, by go_num, HBS.out⟩
          case measure => simp [intOf]; omega
    · have hd : decide ((k : Int) < (n : Int)) = false := by simp; omega
      go_wp2_with fail
      go_ret
      exact ⟨rfl, below_next HB.out HBR.out⟩
theorem exact_any (v u : Value) (n : Nm) (w : World) (h1 : NameV w v n) (h2 : NameV w u n) (hs : SmallN n) :
    Calls Tryz.prog 22 #[v, u] w fun e w' => e = .returned (.bool true) ∧ Below w.heap.size w w' := by
  obtain ⟨a, c, rfl, _, h1⟩ := h1
  obtain ⟨b, d, rfl, _, h2⟩ := h2
  exact exact_core a b c d _ n w h1 h2 rfl hs
end Go.Proofs.YtfpfgdbfigdooaaGreatDoor
namespace Go.Proofs.YtfpfgdbfigdooaaGreatDoor
open Go.RowKit

set_option maxRecDepth 100000 in
set_option maxHeartbeats 4000000 in
theorem declaw (b : ByteArray) (a : Option Addr) (cap : Nat) (zs : List Int) (w : World) (hl : ILies w a zs) (hz : zs.length ≤ 9223372036854775807) (hT : Tab w) (hS : ShT w) (hP : Pow10 w) :
    Calls Tryz.prog 4 #[.string b, .slice a zs.length cap] w fun e w' => e = .returned (.bool true) ∧ Below w.heap.size w w' := by
  have HT := Lib.hid hT
  have HS := Lib.hid hS
  have HP := Lib.hid hP
  by_cases h4 : 400 < b.size
  · have hd : decide ((400 : Int) < (b.size : Int)) = true := by simp; omega
    have HAW := Lib.hid (awake_any w hT hS)
    clear hl hz hT hS hP h4
    go_enter Tryz.func4, Tryz.ntmps4
    go_wp2_with (go_at_call 9; (with_reducible refine HAW.out.mono ?_); rintro e w1 ⟨rfl, hb⟩; have HB := Lib.hid hb; clear hb)
    go_ret
    exact ⟨rfl, HB.out⟩
  have hd : decide ((400 : Int) < (b.size : Int)) = false := by simp; omega
  have HBZ := Lib.hid (show b.size ≤ 400 by omega)
  have HL := Lib.hid (new_any a cap zs w hl hz)
  obtain ⟨p, hp⟩ : ∃ p, p = w.heap.size := ⟨_, rfl⟩
  have HPP := Lib.hid hp
  clear hl hz hT hS hP h4 hp
  go_enter Tryz.func4, Tryz.ntmps4
  go_wp2_with fail
  refine HL.out.mono ?_
  rintro e w1 ⟨rfl, hd1, hb1⟩
  rw [← HPP.out] at hd1 hb1 ⊢
  have HB1 := Lib.hid hb1
  have HD1 := Lib.hid hd1
  have hpl1 := hd1.lt
  clear hd1 hb1
  go_wp2_with fail
  refine (name_any p a cap zs 0 w1 HD1.out (by omega)).mono ?_
  rintro e w2 ⟨v, n, k2, hmade, rfl, ⟨s0, rfl, hown⟩, hd2, hk2, hb2⟩
  obtain ⟨aA, cA, rfl, hcA, hrl⟩ := hown.lies
  have HRL := Lib.hid hrl
  have HD2 := Lib.hid hd2
  have HK2 := Lib.hid hk2
  have HB2 := Lib.hid hb2
  have HSM := Lib.hid (small_of_sp (spN_of_made hmade) (by omega))
  have HEZ := Lib.hid (encV_le (spN_of_made hmade))
  clear hrl hd2 hk2 hb2 hmade hown
  have HEN := Lib.hid (rencode_core aA cA n.length n w2 HRL.out rfl HSM.out)
  generalize encV n = s at HEN HEZ
  go_wp2_with fail
  refine HEN.out.mono ?_
  rintro e w3 ⟨rfl, hb3⟩
  have HD3 := Lib.hid (HD2.out.below hb3)
  have HB3 := Lib.hid (HB2.out.next (But.of hb3))
  clear hb3
  go_wp2_with (first
    | (go_at_call 18; (with_reducible refine (damage_all p a cap zs k2 s _ HD3.out (by have := HK2.out; omega) (by have := HEZ.out; omega)).mono ?_); rintro e w4 ⟨u1, k4, rfl, hu1, hd4, hk4, hb4⟩; have HU1 := Lib.hid hu1; have HD4 := Lib.hid hd4; have HK4 := Lib.hid hk4; have HB4 := Lib.hid (HB3.out.next hb4); clear hu1 hd4 hk4 hb4)
    | (go_at_call 19; (with_reducible refine (rewrap_any p a cap zs k4 s _ HD4.out (by have := HK2.out; have := HK4.out; have := HEZ.out; omega)).mono ?_); rintro e w5 ⟨u2, k5, rfl, hu2, _, _, hb5⟩; have HU2 := Lib.hid hu2; have HB5 := Lib.hid (HB4.out.next hb5); clear hu2 hb5))
  obtain ⟨g, hg⟩ : ∃ g, g = w5.heap.size := ⟨_, rfl⟩
  obtain ⟨W6, hW6⟩ : ∃ W6, W6 = w5.alloc (.cells #[.string b, .string u1, .string u2, .string s] 9) := ⟨_, rfl⟩
  have hq6 : W6.heap[g]? = some (.cells #[.string b, .string u1, .string u2, .string s] 9 (0, 0)) := by rw [hW6, hg]; exact heap_alloc_new w5 _
  have hg6 : g < W6.heap.size := (Array.getElem?_eq_some_iff.1 hq6).1
  have hx6 : ∀ j, j < 4 → ∃ x : ByteArray, W6.cell? ⟨g, j, none⟩ = some (.string x) ∧ x.size ≤ 1000000 := fun j hj => by
    have hs := HEZ.out
    have h1 := HU1.out
    have h2 := HU2.out
    have h3 := HBZ.out
    rcases (by omega : j = 0 ∨ j = 1 ∨ j = 2 ∨ j = 3) with rfl | rfl | rfl | rfl
    · exact ⟨b, by rw [Lib.cell_of_heap hq6]; rfl, by omega⟩
    · exact ⟨u1, by rw [Lib.cell_of_heap hq6]; rfl, by omega⟩
    · exact ⟨u2, by rw [Lib.cell_of_heap hq6]; rfl, by omega⟩
    · exact ⟨s, by rw [Lib.cell_of_heap hq6]; rfl, by omega⟩
  have HX6 := Lib.hid hx6
  have HB15 := Lib.hid (show Below p w w5 from HB1.out.trans (HB5.out.below (Nat.le_of_lt hpl1)))
  have HB6 := Lib.hid (show Below w.heap.size w W6 from by rw [← HPP.out, hW6]; exact HB15.out.trans ((belowNew w5 _).mono (by have := HB15.out.size; rw [HPP.out]; exact this)))
  have HW6 := Lib.hid hW6.symm
  have HG := Lib.hid hg
  have HT6 := Lib.hid (HT.out.below HB6.out)
  have HS6 := Lib.hid (HS.out.below HB6.out)
  have HP6 := Lib.hid (HP.out.below HB6.out)
  clear hq6 hx6 hW6 hg
  rw [HW6.out, ← HG.out]
  go_loopw [36] (fun i wr => ∃ (j : Nat), j ≤ 4 ∧ i = .int .i64 (j : Int) ∧ Below W6.heap.size W6 wr) (fun i _ => 4 - (intOf i).toNat)
  case atStart => exact ⟨0, Nat.zero_le _, rfl, Below.refl _ _⟩
  case round =>
    obtain ⟨wo, hwo⟩ : ∃ wo, wo = wr := ⟨_, rfl⟩
    subst hwo
    obtain ⟨j, hj, rfl, hb⟩ := hrel
    have HB := Lib.hid hb
    have HTR := Lib.hid (HT6.out.below hb)
    have HSR := Lib.hid (HS6.out.below hb)
    have HPR := Lib.hid (HP6.out.below hb)
    clear hb
    by_cases hlt : j < 4
    · have hd : decide ((j : Int) < 4) = true := by simp; omega
      have hj4 : (j : Int) < 4 := by omega
      obtain ⟨x, hx, hxz⟩ := HX6.out j hlt
      have hx := (HB.out.cell (p := ⟨g, j, none⟩) hg6).trans hx
      have HDC := Lib.hid (fun W hT hP => decode_nm x W hxz hT hP)
      have HRC := Lib.hid (fun W => rdecode_nm x W hxz)
      have HSA := Lib.hid (decN_small hxz)
      obtain ⟨E, A, hEA⟩ : ∃ E A, decN x = (E, A) := ⟨_, _, rfl⟩
      rw [hEA] at HDC HRC HSA
      simp only at HDC HRC HSA
      have hee : ((E : Int) != (E : Int)) = false := by simp
      clear hEA hxz
      go_wp2_with (first
        | (go_at_call 20; (with_reducible refine (HDC.out wo HTR.out HPR.out).mono ?_); rintro e w7 ⟨v7, rfl, ho7, hb7⟩; obtain ⟨s7, rfl, hs7⟩ := ho7; obtain ⟨a7, c7, rfl, _, hr7⟩ := hs7.lies; have HR7 := Lib.hid hr7; have HB7 := Lib.hid hb7; clear hb7 hs7 hr7)
        | (go_at_call 21; (with_reducible refine (HRC.out _).mono ?_); rintro e w8 ⟨v8, rfl, ho8, hb8⟩; obtain ⟨s8, rfl, hs8⟩ := ho8; obtain ⟨a8, c8, rfl, _, hr8⟩ := hs8.lies; have HR8 := Lib.hid hr8; have HR78 := Lib.hid (HR7.out.below (below_next (belowNew w7 _) hb8)); have HB8 := Lib.hid (below_next HB7.out (below_next (belowNew w7 _) hb8)); have hl8 : w7.heap.size < w8.heap.size := (by have := hb8.size; simp at this; omega); have m7 := ((belowNew w8 (.cells #[.slice a8 A.length c8] 24)).cell (p := ⟨w7.heap.size, 0, none⟩) hl8).trans ((hb8.cell (p := ⟨w7.heap.size, 0, none⟩) (by simp)).trans (one_facts (heap_alloc_new w7 _)).1); have m8 := (one_facts (heap_alloc_new w8 (.cells #[.slice a8 A.length c8] 24))).1; clear hb8 hs8 hr8)
        | (go_at_call 22; (with_reducible refine (exact_core a7 a8 c7 c8 A.length A _ (HR78.out.below (belowNew w8 _)) (HR8.out.below (belowNew w8 _)) rfl HSA.out).mono ?_); rintro e w9 ⟨rfl, hb9⟩; have HB9 := Lib.hid (below_next (below_next HB8.out (belowNew w8 _)) hb9); clear hb9))
      go_roundw
      case rel => exact ⟨j + 1, by omega, by go_num, HB.out.trans (HB9.out.mono HB.out.size)⟩
      case measure => simp [intOf]; omega
    · have hd : decide ((j : Int) < 4) = false := by simp; omega
      have HAW := Lib.hid (awake_any wo HTR.out HSR.out)
      go_wp2_with (go_at_call 9; (with_reducible refine HAW.out.mono ?_); rintro e w10 ⟨rfl, hb10⟩; have HB10 := Lib.hid hb10; clear hb10)
      go_ret
      exact ⟨rfl, HB6.out.trans ((below_next HB.out HB10.out).mono HB6.out.size)⟩
end Go.Proofs.YtfpfgdbfigdooaaGreatDoor
namespace Go.Proofs.YtfpfgdbfigdooaaGreatDoor
open Go.RowKit Go.ChangeMaps

theorem pow10_laid {x y : String × DataW Unit} {rest : List (String × DataW Unit)} {W : World} (h : laidMet Tryz.prog (x :: y :: ("internal/strconv.uint64pow10", Lib.tabData .u64 Lib.pow10Tab) :: rest) W) : Pow10 W :=
  Lib.tabBelow_of_tabIs (Lib.tabIs_of_head (g := 4) (t := 215) (e := 147) (n := 20) (by kernel_rfl) (by kernel_rfl) Tryz.underlying215 Tryz.underlying147 (by kernel_rfl) (by kernel_rfl) h.tail.tail)
theorem pow10_data : (Rows.laid_internal_strconv_uint64pow10 : DataW Unit) = Lib.tabData .u64 Lib.pow10Tab := by kernel_rfl
theorem six_laid {W : World} (h : laidMetH Tryz.prog [("math/bits.deBruijn32tab", Rows.laid_math_bits_deBruijn32tab), ("math/bits.deBruijn64tab", Rows.laid_math_bits_deBruijn64tab), ("internal/strconv.uint64pow10", Rows.laid_internal_strconv_uint64pow10), ("unicode/utf8.acceptRanges", Rows.laid_unicode_utf8_acceptRanges), ("certpath/dname.shortTypes", Rows.laid_certpath_dname_shortTypes), ("unicode/utf8.first", Rows.laid_unicode_utf8_first)] W) : Tab W ∧ ShT W ∧ Pow10 W := by
  rw [MakeChecks.laidMetH_plain _ _ _ (by kernel_rfl)] at h
  have h' : laidMet Tryz.prog (("math/bits.deBruijn32tab", Rows.laid_math_bits_deBruijn32tab) :: ("math/bits.deBruijn64tab", Rows.laid_math_bits_deBruijn64tab) :: ("internal/strconv.uint64pow10", Rows.laid_internal_strconv_uint64pow10) :: [("unicode/utf8.acceptRanges", Rows.laid_unicode_utf8_acceptRanges), ("certpath/dname.shortTypes", Rows.laid_certpath_dname_shortTypes), ("unicode/utf8.first", Rows.laid_unicode_utf8_first)]) W := h
  have hP : Pow10 W := by
    have h2 := h'
    rw [pow10_data] at h2
    exact pow10_laid h2
  have h3 : laidMetH Tryz.prog [("unicode/utf8.acceptRanges", Rows.laid_unicode_utf8_acceptRanges), ("certpath/dname.shortTypes", Rows.laid_certpath_dname_shortTypes), ("unicode/utf8.first", Rows.laid_unicode_utf8_first)] W := by
    rw [MakeChecks.laidMetH_plain _ _ _ (by kernel_rfl)]
    exact h'.tail.tail.tail
  exact ⟨tab_laid h3, sh_laid h3, hP⟩
end Go.Proofs.YtfpfgdbfigdooaaGreatDoor
