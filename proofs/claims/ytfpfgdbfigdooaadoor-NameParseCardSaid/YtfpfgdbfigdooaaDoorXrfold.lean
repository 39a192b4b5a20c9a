/-
  The contracts of the reference's Fold and MatchText; nothing that was there before the call has changed.
-/
import Derived.Test.YtfpfgdbfigdooaaDoorMbd
namespace Go.Proofs.YtfpfgdbfigdooaaDoor
open Go.RowKit

/-- The text of the first bytes of a row that the call has made. -/
theorem own_pre {w : World} {B g n cap : Nat} {l : List UInt8} (h : OwnB 5 w B (.slice (some ⟨g, 0, none⟩) n cap) l) (hl : l.length = n) (m : Nat) (hm : m ≤ n) :
    (convert 46 9 (.slice (some ⟨g, 0, none⟩) m cap)).run Tryd.prog w = .ok (.string (strOf (l.take m))) w := by
  have e : (l.take m).length = m := by rw [List.length_take]; omega
  have := run_convert_bytes_back w 46 9 5 ⟨g, 0, none⟩ cap (l.take m) Tryd.underlying46 Tryd.underlying5 Tryd.underlying9 (fun j hj => by
    have hadd : (⟨g, 0, none⟩ : Addr).add j = ⟨g, j, none⟩ := by unfold Addr.add; split <;> simp_all
    rw [hadd, own_cell h hl j (by omega)]
    simp only [List.getElem_take]
    rw [List.getD_eq_getElem?_getD, List.getElem?_eq_getElem (by omega)]
    rfl)
  rw [e] at this
  exact this
theorem last_of {O : List UInt8} (h : O ≠ []) : O.getLast? = some (O.getD (O.length - 1) 0) := by
  have hp : 0 < O.length := List.length_pos_iff.2 h
  rw [List.getLast?_eq_getElem?, List.getD_eq_getElem?_getD, List.getElem?_eq_getElem (by omega)]
  rfl
theorem map_at (L : List UInt8) {k : Nat} (h : k < L.length) : (L.map small).getD k 0 = small (L.getD k 0) := by
  rw [List.getD_eq_getElem?_getD, List.getD_eq_getElem?_getD, List.getElem?_map, List.getElem?_eq_getElem h]
  rfl

set_option maxRecDepth 100000 in
set_option maxHeartbeats 2000000 in
theorem rfold_any (s : ByteArray) (w : World) (hn : s.size ≤ 1099511627776) :
    Calls Tryd.prog 67 #[.string s] w fun e w' => e = .returned (.string (foldS s)) ∧ Below w.heap.size w w' := by
  obtain ⟨i0, hi, hz0, hz1, hz2⟩ := info_parts byteInfo
  have HLOW := Lib.hid (fun w => lower_any s w hn)
  obtain ⟨L, hL⟩ : ∃ L, L = s.data.toList := ⟨_, rfl⟩
  have hz : L.length ≤ 1099511627776 := by rw [hL]; exact hn
  have hfS : foldS s = strOf (foldRun L).1 := by rw [hL]; rfl
  rw [← hL] at HLOW
  have HFS := Lib.hid hfS
  clear hfS hL hn
  obtain ⟨M, hM⟩ : ∃ M, M = strOf (L.map small) := ⟨_, rfl⟩
  have hMz : M.size = L.length := by rw [hM, strOf_size, List.length_map]
  have HMA := Lib.hid (show ∀ k, k < L.length → u8at M k = (small (L.getD k 0)).toNat from fun k hk => by rw [hM, byte_at, strOf_list, map_at L hk])
  rw [← hM] at HLOW
  clear hM
  go_enter Tryd.func67, Tryd.ntmps67
  go_wp2_with (go_at_call 26; (with_reducible refine (HLOW.out _).mono ?_); rintro e w1 ⟨rfl, hb1⟩; have HB1 := Lib.hid hb1; clear hb1)
  go_loopw [3, 4] (fun v i wr => ∃ (k : Nat) (O : List UInt8), k ≤ M.size ∧ i = .int .i64 k ∧ O = refOut (foldRun (L.take k)) ∧ OwnB 5 wr w.heap.size v O ∧ Below w.heap.size w wr) (fun _ i _ => M.size - (intOf i).toNat)
  case atStart => exact ⟨0, [], Nat.zero_le _, rfl, rfl, own_nil _ _ _, HB1.out⟩
  case round =>
    obtain ⟨k, O, hk, rfl, hO, hown, hb⟩ := hrel
    have hOl : O.length ≤ k := by
      have h1 := fold_len (L.take k)
      rw [← hO, List.length_take] at h1
      omega
    have HOO := Lib.hid hO
    have HB := Lib.hid hb
    have hsb := hb.size
    clear hO hb
    by_cases hlt : k < M.size
    · have hd : decide ((k : Int) < (M.size : Int)) = true := by simp; omega
      have hlL : k < L.length := by omega
      have hix := fun w => run_index_u8 (P := Tryd.prog) Tryd.underlying9 M k hlt (k : Int) rfl w
      rw [HMA.out k hlL] at hix
      have HN := Lib.hid (show refOut (foldRun (L.take (k + 1))) = if small (L.getD k 0) ≠ 32 ∨ (O ≠ [] ∧ O.getLast? ≠ some 32) then O ++ [small (L.getD k 0)] else O by
        rw [take_next_x L k hlL, foldRun_snoc, refOut_step (finv _), ← HOO.out])
      generalize small (L.getD k 0) = y at hix HN
      by_cases h32 : y = 32
      · subst h32
        have hq : (((UInt8.toNat 32 : Nat) : Int) != 32) = false := rfl
        rw [show (UInt8.toNat 32 : Int) = 32 from rfl] at hix
        by_cases h0 : O = []
        · subst h0
          obtain ⟨a, cp, rfl⟩ := own_form hown
          have HO := Lib.hid hown
          have HNN := Lib.hid (show refOut (foldRun (L.take (k + 1))) = [] by rw [HN.out]; simp)
          clear hown
          go_wp2_with fail
          go_roundw
          case rel => exact ⟨k + 1, [], by omega, by go_num, HNN.out.symm, HO.out, HB.out⟩
          case measure => simp [intOf]; omega
        · obtain ⟨g, cp, rfl⟩ := own_form2 hown h0
          have HO := Lib.hid hown
          obtain ⟨m, hm⟩ : ∃ m, m = O.length - 1 := ⟨_, rfl⟩
          have hp : 0 < O.length := List.length_pos_iff.2 h0
          have hd0 : decide (0 < O.length) = true := by simp; omega
          have hd1 : decide ((0 : Int) < (O.length : Int)) = true := by simp; omega
          have hmi : (O.length : Int) - 1 = (m : Int) := by omega
          have hml : (m : Int) < (O.length : Int) := by omega
          have hml2 : m < O.length := by omega
          have hcell := own_cell HO.out rfl m hml2
          have hlast := last_of h0
          rw [← hm] at hlast
          generalize O.getD m 0 = x at hcell hlast
          have HL := Lib.hid hlast
          clear hm hown hlast
          by_cases hx : x = 32
          · have hq2 : (((x.toNat : Nat) : Int) != 32) = false := by rw [hx]; rfl
            have HNN := Lib.hid (show refOut (foldRun (L.take (k + 1))) = O by rw [HN.out, HL.out, hx]; simp)
            clear hx hp
            go_wp2_with fail
            go_roundw
            case rel => exact ⟨k + 1, O, by omega, by go_num, HNN.out.symm, HO.out, HB.out⟩
            case measure => simp [intOf]; omega
          · have hxn : ¬ x.toNat = 32 := fun h => hx (UInt8.toNat_inj.1 h)
            have hq2 : (((x.toNat : Nat) : Int) != 32) = true := by simp; omega
            have HNN := Lib.hid (show refOut (foldRun (L.take (k + 1))) = O ++ [32] by rw [HN.out, HL.out, if_pos (.inr ⟨h0, fun e => hx (Option.some.inj e)⟩)])
            clear hx hxn hp
            go_wp2_with (at_builtin; (refine wpList_append_own _ rfl (.tmp 31) (.tmp 35) 46 rfl w.heap.size 5 i0 (.int .u8 0) 1 1 Tryd.underlying46 hi hz0 hz1 hz2 rfl (by decide) _ _ _ rfl (HO.out.alloc _) ⟨wr.heap.size, 0, none⟩ 1 1 [bcell 32] rfl rfl (news_row wr #[bcell 32] 5) (bcells_one [32]) (by unfold maxLen; omega) (by omega) (by simp; omega) ?_); intro v' w2 hown2 hgr2 _; obtain ⟨P1, P2⟩ := out_round HO.out HB.out hown2 hgr2; have HP1 := Lib.hid P1; have HP2 := Lib.hid P2; clear hown2 hgr2 P1 P2)
            go_roundw
            case rel => exact ⟨k + 1, O ++ [32], by omega, by go_num, HNN.out.symm, HP1.out, HP2.out⟩
            case measure => simp [intOf]; omega
      · have h32n : ¬ y.toNat = 32 := fun h => h32 (UInt8.toNat_inj.1 h)
        have hq : (((y.toNat : Nat) : Int) != 32) = true := by simp; omega
        obtain ⟨a, cp, rfl⟩ := own_form hown
        have HO := Lib.hid hown
        have HNN := Lib.hid (show refOut (foldRun (L.take (k + 1))) = O ++ [y] by rw [HN.out, if_pos (.inl h32)])
        clear hown h32 h32n
        go_wp2_with (at_builtin; (refine wpList_append_own _ rfl (.tmp 31) (.tmp 35) 46 rfl w.heap.size 5 i0 (.int .u8 0) 1 1 Tryd.underlying46 hi hz0 hz1 hz2 rfl (by decide) _ _ _ rfl (HO.out.alloc _) ⟨wr.heap.size, 0, none⟩ 1 1 [bcell y] rfl rfl (news_row wr #[bcell y] 5) (bcells_one [y]) (by unfold maxLen; omega) (by omega) (by simp; omega) ?_); intro v' w2 hown2 hgr2 _; obtain ⟨P1, P2⟩ := out_round HO.out HB.out hown2 hgr2; have HP1 := Lib.hid P1; have HP2 := Lib.hid P2; clear hown2 hgr2 P1 P2)
        go_roundw
        case rel => exact ⟨k + 1, O ++ [y], by omega, by go_num, HNN.out.symm, HP1.out, HP2.out⟩
        case measure => simp [intOf]; omega
    · have ek : k = M.size := by omega
      subst ek
      have hd : decide ((M.size : Int) < (M.size : Int)) = false := by simp
      have hO2 : O = refOut (foldRun L) := by rw [HOO.out, List.take_of_length_le (by omega)]
      have hcase := refOut_last (finv L)
      rw [← hO2] at hcase
      have HFF := Lib.hid hcase
      clear hO2 hcase
      by_cases h0 : O = []
      · subst h0
        obtain ⟨a, cp, rfl⟩ := own_form hown
        have hconv : (convert 46 9 (.slice a 0 cp)).run Tryd.prog wr = .ok (.string (strOf [])) wr := own_str hown
        have HR := Lib.hid (show strOf [] = foldS s by
          rw [HFS.out]
          rcases HFF.out with h | h
          · exact absurd rfl h.1
          · rw [← h.2])
        clear hown
        go_wp2_with fail
        go_ret
        exact ⟨by rw [← HR.out]; rfl, HB.out⟩
      · obtain ⟨g, cp, rfl⟩ := own_form2 hown h0
        have HO := Lib.hid hown
        obtain ⟨m, hm⟩ : ∃ m, m = O.length - 1 := ⟨_, rfl⟩
        have hp : 0 < O.length := List.length_pos_iff.2 h0
        have hd0 : decide (0 < O.length) = true := by simp; omega
        have hd1 : decide ((0 : Int) < (O.length : Int)) = true := by simp; omega
        have hmi : (O.length : Int) - 1 = (m : Int) := by omega
        have hml : (m : Int) < (O.length : Int) := by omega
        have hml2 : m < O.length := by omega
        have hcell := own_cell HO.out rfl m hml2
        have hlast := last_of h0
        rw [← hm] at hlast
        generalize O.getD m 0 = x at hcell hlast
        have HL := Lib.hid hlast
        by_cases hx : x = 32
        · have hq2 : (((x.toNat : Nat) : Int) == 32) = true := by rw [hx]; rfl
          have hcpl : O.length ≤ cp := by
            rcases HO.out.2 with ⟨h, _⟩ | ⟨_, _, _, h, _, _, h2, _⟩
            · cases h
            · cases h; exact h2
          have hconv := own_pre HO.out rfl m (by omega)
          have HR := Lib.hid (show strOf (O.take m) = foldS s by
            rw [HFS.out, hm, ← List.dropLast_eq_take]
            rcases HFF.out with h | h
            · rw [h.2.2]
            · exact absurd ⟨h0, by rw [HL.out, hx]⟩ h.1)
          clear hx hm hown hlast
          go_wp2_with fail
          go_ret
          exact ⟨by rw [← HR.out]; rfl, HB.out⟩
        · have hxn : ¬ x.toNat = 32 := fun h => hx (UInt8.toNat_inj.1 h)
          have hq2 : (((x.toNat : Nat) : Int) == 32) = false := by simp; omega
          have hconv := own_str HO.out
          have HR := Lib.hid (show strOf O = foldS s by
            rw [HFS.out]
            rcases HFF.out with h | h
            · exact absurd (Option.some.inj (HL.out.symm.trans h.2.1)) hx
            · rw [← h.2])
          clear hx hxn hm hown hlast
          go_wp2_with fail
          go_ret
          exact ⟨by rw [← HR.out]; rfl, HB.out⟩

set_option maxHeartbeats 1000000 in
theorem rmatch_any (a b : ByteArray) (w : World) (ha : a.size ≤ 1099511627776) (hb : b.size ≤ 1099511627776) :
    Calls Tryd.prog 53 #[.string a, .string b] w fun e w' => e = .returned (.bool (matchB a b)) ∧ Below w.heap.size w w' := by
  have HA := Lib.hid ha
  have HBB := Lib.hid hb
  clear ha hb
  go_enter Tryd.func53, Tryd.ntmps53
  go_wp2_with (first
    | (go_at_call 67; (with_reducible refine (rfold_any a _ HA.out).mono ?_); rintro e w1 ⟨rfl, hb1⟩; have HB1 := Lib.hid hb1; clear hb1)
    | (go_at_call 67; (with_reducible refine (rfold_any b _ HBB.out).mono ?_); rintro e w2 ⟨rfl, hb2⟩; have HB2 := Lib.hid (below_next HB1.out hb2); clear hb2))
  go_ret
  exact ⟨rfl, HB2.out⟩
end Go.Proofs.YtfpfgdbfigdooaaDoor
