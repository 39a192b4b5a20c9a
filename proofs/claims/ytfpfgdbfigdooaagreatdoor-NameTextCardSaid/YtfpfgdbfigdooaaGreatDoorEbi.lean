/-
  The names of the generator have no error, nor have they when their kinds are those that Parse gives. Nothing is claimed of the program here.
  The contracts of the reference's Fold and MatchText; nothing that was there before the call has changed.
  The contracts of the reference's has and matchRDN: whether a relative name has an attribute that matches; whether two relative names match.
-/
import Derived.Test.YtfpfgdbfigdooaaGreatDoorEbh
import Derived.Test.YtfpfgdbfigdooaaGreatDoorEbg
import Derived.Test.YtfpfgdbfigdooaaGreatDoorEan
import Derived.Test.YtfpfgdbfigdooaaGreatDoorEbd
import Derived.Test.YtfpfgdbfigdooaaGreatDoorEal
namespace Go.Proofs.YtfpfgdbfigdooaaGreatDoor
open Go.RowKit

theorem oid_99 : Oid [50, 46, 53, 46, 52, 46, 57, 57] [2, 5, 4, 99] := by
  refine ⟨⟨by decide, by decide, by decide, by decide, by decide⟩, ?_⟩
  decide +kernel
theorem made_types : ∀ x ∈ madeL, oidB x.1 = true := by
  intro x hx
  simp only [madeL, List.mem_cons, List.not_mem_nil, or_false] at hx
  rcases hx with rfl | rfl | rfl | rfl | rfl | rfl | rfl | rfl | rfl | rfl | rfl | rfl
  · exact oidB_yes oid_cn
  · exact oidB_yes oid_cn
  · exact oidB_yes oid_cn
  · exact oidB_yes oid_c
  · exact oidB_yes oid_o
  · exact oidB_yes oid_o
  · exact oidB_yes oid_ou
  · exact oidB_yes oid_dc
  · exact oidB_yes oid_e
  · exact oidB_yes oid_e
  · exact oidB_yes oid_99
  · exact oidB_yes oid_l
theorem made_valid : (madeL.all fun x => decide (x.2.2.size ≠ 0) && validB x.2.1 x.2.2.data.toList && decide (x.2.2.size ≤ 64) && validB (kindV x.1 x.2.2) x.2.2.data.toList) = true := by decide +kernel
theorem made_okA {x : At} (hx : x ∈ madeL) : okA x ∧ okA (x.1, kindV x.1 x.2.2, x.2.2) := by
  have h := List.all_eq_true.1 made_valid x hx
  simp only [Bool.and_eq_true, decide_eq_true_eq] at h
  obtain ⟨⟨⟨h1, h2⟩, h3⟩, h4⟩ := h
  exact ⟨⟨made_types x hx, h1, h2, h3⟩, ⟨made_types x hx, h1, h4, h3⟩⟩
theorem made_chkR {r : List At} (h : MadeR r) (h0 : 0 < r.length) : chkR r = 0 :=
  (chkR_iff r).2 ⟨h0, by have := h.1; omega, fun a ha => (made_okA (h.2.1 a ha)).1, h.2.2⟩
theorem made_chkN {n : Nm} (h : MadeN n) : chkN n = 0 :=
  (chkN_iff n).2 ⟨by have := h.1; omega, fun r hr => made_chkR (h.2 r hr).1 (h.2 r hr).2⟩
theorem made_re {n : Nm} (h : MadeN n) : chkN (n.map fun r => (sortR r).map fun a => (a.1, kindV a.1 a.2.2, a.2.2)) = 0 := by
  refine (chkN_iff _).2 ⟨by rw [List.length_map]; have := h.1; omega, fun r hr => ?_⟩
  obtain ⟨s, hs, rfl⟩ := List.mem_map.1 hr
  obtain ⟨h1, h2⟩ := h.2 s hs
  have hp := sortR_perm s
  refine (chkR_iff _).2 ⟨by rw [List.length_map, hp.length_eq]; exact h2, by rw [List.length_map, hp.length_eq]; have := h1.1; omega, fun a ha => ?_, ?_⟩
  · obtain ⟨x, hx, rfl⟩ := List.mem_map.1 ha
    exact (made_okA (h1.2.1 x (hp.mem_iff.1 hx))).2
  · rw [List.map_map]
    exact (hp.map (·.1)).nodup_iff.2 h1.2.2
end Go.Proofs.YtfpfgdbfigdooaaGreatDoor
namespace Go.Proofs.YtfpfgdbfigdooaaGreatDoor
open Go.RowKit

/-- The text of the first bytes of a row that the call has made. -/
theorem own_pre {w : World} {B g n cap : Nat} {l : List UInt8} (h : OwnB 5 w B (.slice (some ⟨g, 0, none⟩) n cap) l) (hl : l.length = n) (m : Nat) (hm : m ≤ n) :
    (convert 61 9 (.slice (some ⟨g, 0, none⟩) m cap)).run Tryz.prog w = .ok (.string (strOf (l.take m))) w := by
  have e : (l.take m).length = m := by rw [List.length_take]; omega
  have := run_convert_bytes_back w 61 9 5 ⟨g, 0, none⟩ cap (l.take m) Tryz.underlying61 Tryz.underlying5 Tryz.underlying9 (fun j hj => by
    have hadd : (⟨g, 0, none⟩ : Addr).add j = ⟨g, j, none⟩ := by unfold Addr.add; split <;> simp_all
    rw [hadd, own_cell h hl j (by omega)]
    simp only [List.getElem_take]
    rw [List.getD_eq_getElem?_getD, List.getElem?_eq_getElem (by omega)]
    rfl)
  rw [e] at this
  exact this
theorem last_of {O : List UInt8} (h : O ≠ []) : O.getLast? = some (O.getD (O.length - 1) 0) := by
  have hp : 0 < O.length := List.length_pos_iff.2 h
  rw [List.getLast?_eq_getElem?, List.getD_eq_getElem?_getD, List.getElem?_eq_getElem (by omega)]
  rfl
theorem map_at (L : List UInt8) {k : Nat} (h : k < L.length) : (L.map small).getD k 0 = small (L.getD k 0) := by
  rw [List.getD_eq_getElem?_getD, List.getD_eq_getElem?_getD, List.getElem?_map, List.getElem?_eq_getElem h]
  rfl

set_option maxRecDepth 100000 in
set_option maxHeartbeats 2000000 in
theorem rfold_any (s : ByteArray) (w : World) (hn : s.size ≤ 1099511627776) :
    Calls Tryz.prog 183 #[.string s] w fun e w' => e = .returned (.string (foldS s)) ∧ Below w.heap.size w w' := by
  obtain ⟨i0, hi, hz0, hz1, hz2⟩ := info_parts byteInfo
  have HLOW := Lib.hid (fun w => lower_any s w hn)
  obtain ⟨L, hL⟩ : ∃ L, L = s.data.toList := ⟨_, rfl⟩
  have hz : L.length ≤ 1099511627776 := by rw [hL]; exact hn
  have hfS : foldS s = strOf (foldRun L).1 := by rw [hL]; rfl
  rw [← hL] at HLOW
  have HFS := Lib.hid hfS
  clear hfS hL hn
  obtain ⟨M, hM⟩ : ∃ M, M = strOf (L.map small) := ⟨_, rfl⟩
  have hMz : M.size = L.length := by rw [hM, strOf_size, List.length_map]
  have HMA := Lib.hid (show ∀ k, k < L.length → u8at M k = (small (L.getD k 0)).toNat from fun k hk => by rw [hM, byte_at, strOf_list, map_at L hk])
  rw [← hM] at HLOW
  clear hM
  go_enter Tryz.func183, Tryz.ntmps183
  go_wp2_with (go_at_call 46; (with_reducible refine (HLOW.out _).mono ?_); rintro e w1 ⟨rfl, hb1⟩; have HB1 := Lib.hid hb1; clear hb1)
  go_loopw [3, 4] (fun v i wr => ∃ (k : Nat) (O : List UInt8), k ≤ M.size ∧ i = .int .i64 k ∧ O = refOut (foldRun (L.take k)) ∧ OwnB 5 wr w.heap.size v O ∧ Below w.heap.size w wr) (fun _ i _ => M.size - (intOf i).toNat)
  case atStart => exact ⟨0, [], Nat.zero_le _, rfl, rfl, own_nil _ _ _, HB1.out⟩
  case round =>
    obtain ⟨k, O, hk, rfl, hO, hown, hb⟩ := hrel
    have hOl : O.length ≤ k := by
      have h1 := fold_len (L.take k)
      rw [← hO, List.length_take] at h1
      omega
    have HOO := Lib.hid hO
    have HB := Lib.hid hb
    have hsb := hb.size
    clear hO hb
    by_cases hlt : k < M.size
    · have hd : decide ((k : Int) < (M.size : Int)) = true := by simp; omega
      have hlL : k < L.length := by omega
      have hix := fun w => run_index_u8 (P := Tryz.prog) Tryz.underlying9 M k hlt (k : Int) rfl w
      rw [HMA.out k hlL] at hix
      have HN := Lib.hid (show refOut (foldRun (L.take (k + 1))) = if small (L.getD k 0) ≠ 32 ∨ (O ≠ [] ∧ O.getLast? ≠ some 32) then O ++ [small (L.getD k 0)] else O by
        rw [take_next_x L k hlL, foldRun_snoc, refOut_step (finv _), ← HOO.out])
      generalize small (L.getD k 0) = y at hix HN
      by_cases h32 : y = 32
      · subst h32
        have hq : (((UInt8.toNat 32 : Nat) : Int) != 32) = false := rfl
        rw [show (UInt8.toNat 32 : Int) = 32 from rfl] at hix
        by_cases h0 : O = []
        · subst h0
          obtain ⟨a, cp, rfl⟩ := own_form hown
          have HO := Lib.hid hown
          have HNN := Lib.hid (show refOut (foldRun (L.take (k + 1))) = [] by rw [HN.out]; simp)
          clear hown
          go_wp2_with fail
          go_roundw
          case rel => exact ⟨k + 1, [], by omega, by go_num, HNN.out.symm, HO.out, HB.out⟩
          case measure => simp [intOf]; omega
        · obtain ⟨g, cp, rfl⟩ := own_form2 hown h0
          have HO := Lib.hid hown
          obtain ⟨m, hm⟩ : ∃ m, m = O.length - 1 := ⟨_, rfl⟩
          have hp : 0 < O.length := List.length_pos_iff.2 h0
          have hd0 : decide (0 < O.length) = true := by simp; omega
          have hd1 : decide ((0 : Int) < (O.length : Int)) = true := by simp; omega
          have hmi : (O.length : Int) - 1 = (m : Int) := by omega
          have hml : (m : Int) < (O.length : Int) := by omega
          have hml2 : m < O.length := by omega
          have hcell := own_cell HO.out rfl m hml2
          have hlast := last_of h0
          rw [← hm] at hlast
          generalize O.getD m 0 = x at hcell hlast
          have HL := Lib.hid hlast
          clear hm hown hlast
          by_cases hx : x = 32
          · have hq2 : (((x.toNat : Nat) : Int) != 32) = false := by rw [hx]; rfl
            have HNN := Lib.hid (show refOut (foldRun (L.take (k + 1))) = O by rw [HN.out, HL.out, hx]; simp)
            clear hx hp
            go_wp2_with fail
            go_roundw
            case rel => exact ⟨k + 1, O, by omega, by go_num, HNN.out.symm, HO.out, HB.out⟩
            case measure => simp [intOf]; omega
          · have hxn : ¬ x.toNat = 32 := fun h => hx (UInt8.toNat_inj.1 h)
            have hq2 : (((x.toNat : Nat) : Int) != 32) = true := by simp; omega
            have HNN := Lib.hid (show refOut (foldRun (L.take (k + 1))) = O ++ [32] by rw [HN.out, HL.out, if_pos (.inr ⟨h0, fun e => hx (Option.some.inj e)⟩)])
            clear hx hxn hp
            go_wp2_with (at_builtin; (refine wpList_append_own _ rfl (.tmp 31) (.tmp 35) 61 rfl w.heap.size 5 i0 (.int .u8 0) 1 1 Tryz.underlying61 hi hz0 hz1 hz2 rfl (by decide) _ _ _ rfl (HO.out.alloc _) ⟨wr.heap.size, 0, none⟩ 1 1 [bcell 32] rfl rfl (news_row wr #[bcell 32] 5) (bcells_one [32]) (by unfold maxLen; omega) (by omega) (by simp; omega) ?_); intro v' w2 hown2 hgr2 _; obtain ⟨P1, P2⟩ := out_round HO.out HB.out hown2 hgr2; have HP1 := Lib.hid P1; have HP2 := Lib.hid P2; clear hown2 hgr2 P1 P2)
            go_roundw
            case rel => exact ⟨k + 1, O ++ [32], by omega, by go_num, HNN.out.symm, HP1.out, HP2.out⟩
            case measure => simp [intOf]; omega
      · have h32n : ¬ y.toNat = 32 := fun h => h32 (UInt8.toNat_inj.1 h)
        have hq : (((y.toNat : Nat) : Int) != 32) = true := by simp; omega
        obtain ⟨a, cp, rfl⟩ := own_form hown
        have HO := Lib.hid hown
        have HNN := Lib.hid (show refOut (foldRun (L.take (k + 1))) = O ++ [y] by rw [HN.out, if_pos (.inl h32)])
        clear hown h32 h32n
        go_wp2_with (at_builtin; (refine wpList_append_own _ rfl (.tmp 31) (.tmp 35) 61 rfl w.heap.size 5 i0 (.int .u8 0) 1 1 Tryz.underlying61 hi hz0 hz1 hz2 rfl (by decide) _ _ _ rfl (HO.out.alloc _) ⟨wr.heap.size, 0, none⟩ 1 1 [bcell y] rfl rfl (news_row wr #[bcell y] 5) (bcells_one [y]) (by unfold maxLen; omega) (by omega) (by simp; omega) ?_); intro v' w2 hown2 hgr2 _; obtain ⟨P1, P2⟩ := out_round HO.out HB.out hown2 hgr2; have HP1 := Lib.hid P1; have HP2 := Lib.hid P2; clear hown2 hgr2 P1 P2)
        go_roundw
        case rel => exact ⟨k + 1, O ++ [y], by omega, by go_num, HNN.out.symm, HP1.out, HP2.out⟩
        case measure => simp [intOf]; omega
    · have ek : k = M.size := by omega
      subst ek
      have hd : decide ((M.size : Int) < (M.size : Int)) = false := by simp
      have hO2 : O = refOut (foldRun L) := by rw [HOO.out, List.take_of_length_le (by omega)]
      have hcase := refOut_last (finv L)
      rw [← hO2] at hcase
      have HFF := Lib.hid hcase
      clear hO2 hcase
      by_cases h0 : O = []
      · subst h0
        obtain ⟨a, cp, rfl⟩ := own_form hown
        have hconv : (convert 61 9 (.slice a 0 cp)).run Tryz.prog wr = .ok (.string (strOf [])) wr := own_str hown
        have HR := Lib.hid (show strOf [] = foldS s by
          rw [HFS.out]
          rcases HFF.out with h | h
          · exact absurd rfl h.1
          · rw [← h.2])
        clear hown
        go_wp2_with fail
        go_ret
        exact ⟨by rw [← HR.out]; rfl, HB.out⟩
      · obtain ⟨g, cp, rfl⟩ := own_form2 hown h0
        have HO := Lib.hid hown
        obtain ⟨m, hm⟩ : ∃ m, m = O.length - 1 := ⟨_, rfl⟩
        have hp : 0 < O.length := List.length_pos_iff.2 h0
        have hd0 : decide (0 < O.length) = true := by simp; omega
        have hd1 : decide ((0 : Int) < (O.length : Int)) = true := by simp; omega
        have hmi : (O.length : Int) - 1 = (m : Int) := by omega
        have hml : (m : Int) < (O.length : Int) := by omega
        have hml2 : m < O.length := by omega
        have hcell := own_cell HO.out rfl m hml2
        have hlast := last_of h0
        rw [← hm] at hlast
        generalize O.getD m 0 = x at hcell hlast
        have HL := Lib.hid hlast
        by_cases hx : x = 32
        · have hq2 : (((x.toNat : Nat) : Int) == 32) = true := by rw [hx]; rfl
          have hcpl : O.length ≤ cp := by
            rcases HO.out.2 with ⟨h, _⟩ | ⟨_, _, _, h, _, _, h2, _⟩
            · cases h
            · cases h; exact h2
          have hconv := own_pre HO.out rfl m (by omega)
          have HR := Lib.hid (show strOf (O.take m) = foldS s by
            rw [HFS.out, hm, ← List.dropLast_eq_take]
            rcases HFF.out with h | h
            · rw [h.2.2]
            · exact absurd ⟨h0, by rw [HL.out, hx]⟩ h.1)
          clear hx hm hown hlast
          go_wp2_with fail
          go_ret
          exact ⟨by rw [← HR.out]; rfl, HB.out⟩
        · have hxn : ¬ x.toNat = 32 := fun h => hx (UInt8.toNat_inj.1 h)
          have hq2 : (((x.toNat : Nat) : Int) == 32) = false := by simp; omega
          have hconv := own_str HO.out
          have HR := Lib.hid (show strOf O = foldS s by
            rw [HFS.out]
            rcases HFF.out with h | h
            · exact absurd (Option.some.inj (HL.out.symm.trans h.2.1)) hx
            · rw [← h.2])
          clear hx hxn hm hown hlast
          go_wp2_with fail
          go_ret
          exact ⟨by rw [← HR.out]; rfl, HB.out⟩

set_option maxHeartbeats 1000000 in
theorem rmatch_any (a b : ByteArray) (w : World) (ha : a.size ≤ 1099511627776) (hb : b.size ≤ 1099511627776) :
    Calls Tryz.prog 155 #[.string a, .string b] w fun e w' => e = .returned (.bool (matchB a b)) ∧ Below w.heap.size w w' := by
  have HA := Lib.hid ha
  have HBB := Lib.hid hb
  clear ha hb
  go_enter Tryz.func155, Tryz.ntmps155
  go_wp2_with (first
    | (go_at_call 183; (with_reducible refine (rfold_any a _ HA.out).mono ?_); rintro e w1 ⟨rfl, hb1⟩; have HB1 := Lib.hid hb1; clear hb1)
    | (go_at_call 183; (with_reducible refine (rfold_any b _ HBB.out).mono ?_); rintro e w2 ⟨rfl, hb2⟩; have HB2 := Lib.hid (below_next HB1.out hb2); clear hb2))
  go_ret
  exact ⟨rfl, HB2.out⟩
end Go.Proofs.YtfpfgdbfigdooaaGreatDoor
namespace Go.Proofs.YtfpfgdbfigdooaaGreatDoor
open Go.RowKit

def hasB (l : List At) (a : At) : Bool := l.any fun x => decide (fa x = fa a)
theorem hasB_iff (l : List At) (a : At) : hasB l a = true ↔ ∃ x ∈ l, fa x = fa a := by
  unfold hasB; rw [List.any_eq_true]; simp
theorem fa_dec (t u v s : ByteArray) (k j : Int) : decide (fa (t, k, v) = fa (u, j, s)) = (decide (t = u) && matchB v s) := by
  rw [Bool.eq_iff_iff, Bool.and_eq_true, matchB_iff]
  unfold fa; simp
theorem hasB_step (l : List At) (k : Nat) (a : At) (h : k < l.length) : hasB (l.take (k + 1)) a = (hasB (l.take k) a || decide (fa (l.getD k noAt) = fa a)) := by
  rw [takeD l k h noAt]; unfold hasB; rw [List.any_append]; simp
theorem memD {α : Type} (l : List α) (i : Nat) (h : i < l.length) (d : α) : l.getD i d ∈ l := by
  rw [List.getD_eq_getElem?_getD, List.getElem?_eq_getElem h]
  exact List.getElem_mem h
theorem hasB_hit (l : List At) (k : Nat) (a : At) (h : k < l.length) (e : decide (fa (l.getD k noAt) = fa a) = true) : hasB l a = true :=
  (hasB_iff l a).2 ⟨_, memD l k h noAt, of_decide_eq_true e⟩

set_option maxRecDepth 100000 in
set_option maxHeartbeats 4000000 in
theorem rhas_any (a0 : Option Addr) (c n : Nat) (l : List At) (t v : ByteArray) (kd : Int) (w : World) (h : ALies w a0 l) (hn : n = l.length) (hs : SmallR l) (hv : v.size ≤ 1000000) :
    Calls Tryz.prog 125 #[.slice a0 n c, .agg #[.string t, .int .i64 kd, .string v]] w fun e w' => e = .returned (.bool (hasB l (t, kd, v))) ∧ Below w.heap.size w w' := by
  have hL : n ≤ 1000000 := by rw [hn]; exact hs.1
  obtain ⟨E, hE⟩ : ∃ E, E = hasB l (t, kd, v) := ⟨_, rfl⟩
  rw [← hE]
  have HE := Lib.hid hE
  have HN := Lib.hid hn
  have HS := Lib.hid hs
  have HVS := Lib.hid hv
  obtain ⟨G, hG⟩ : ∃ G, G = w.heap.size := ⟨_, rfl⟩
  obtain ⟨W0, hW0⟩ : ∃ W0, W0 = w.alloc (.cells #[.string t, .int .i64 kd, .string v] 27) := ⟨_, rfl⟩
  have HWE := Lib.hid (show w.alloc (.cells #[.string t, .int .i64 kd, .string v] 27) = W0 from hW0.symm)
  have hb0 : Below w.heap.size w W0 := by rw [hW0]; exact belowNew w _
  have HB0 := Lib.hid hb0
  have HQ0 := Lib.hid (show W0.cell? ⟨G, 0, none⟩ = some (.string t) by rw [hW0, hG]; exact box_cell w _ _ _ _)
  have HQ2 := Lib.hid (show W0.cell? ⟨G, 2, none⟩ = some (.string v) by rw [hW0, hG, cell_of_row _ _ 2 _ _ _ (heap_alloc_new w _)]; rfl)
  have H1 := Lib.hid (h.below hb0)
  have HG := Lib.hid hG
  clear h hn hs hE hv hW0 hG hb0
  go_enter Tryz.func125, Tryz.ntmps125
  go_wp2_with fail
  rw [HWE.out, ← HG.out]
  go_loopw [9] (fun i wr => ∃ k : Nat, k ≤ n ∧ i = .int .i64 k ∧ hasB (l.take k) (t, kd, v) = false ∧ Below W0.heap.size W0 wr) (fun i _ => n - (intOf i).toNat)
  case atStart => exact ⟨0, Nat.zero_le _, rfl, rfl, Below.refl _ _⟩
  case round =>
    obtain ⟨k, hk, rfl, hA, hb⟩ := hrel
    have HB := Lib.hid hb
    have HA := Lib.hid hA
    have q0 := (hb.cell (p := ⟨G, 0, none⟩) (block_lt HQ0.out)).trans HQ0.out
    have q2 := (hb.cell (p := ⟨G, 2, none⟩) (block_lt HQ2.out)).trans HQ2.out
    have hltG : G < wr.heap.size := block_lt q0
    clear hb hA
    by_cases hlt : k < n
    · have hd : decide ((k : Int) < (n : Int)) = true := by simp; omega
      obtain ⟨b, o, rfl, hb, c0, c1, c2⟩ := H1.out.at k (by rw [← HN.out]; exact hlt)
      have a0 : wr.cell? ⟨b, o + k * 3, none⟩ = _ := (HB.out.cell (p := ⟨b, o + k * 3, none⟩) hb).trans c0
      have a1 : wr.cell? ⟨b, o + k * 3 + 1, none⟩ = _ := (HB.out.cell (p := ⟨b, o + k * 3 + 1, none⟩) hb).trans c1
      have a2 : wr.cell? ⟨b, o + k * 3 + 2, none⟩ = _ := (HB.out.cell (p := ⟨b, o + k * 3 + 2, none⟩) hb).trans c2
      have HST := Lib.hid (hasB_step l k (t, kd, v) (by rw [← HN.out]; exact hlt))
      have HHT := Lib.hid (hasB_hit l k (t, kd, v) (by rw [← HN.out]; exact hlt))
      have hsm := HS.out.2 k (by rw [← HN.out]; exact hlt)
      generalize l.getD k noAt = y at a0 a1 a2 HST hsm HHT
      obtain ⟨t2, kd2, v2⟩ := y
      have HM := Lib.hid (fun W => rmatch_any v2 v W (by have := hsm.2; simp at this; omega) (by have := HVS.out; omega))
      have hfa := fa_dec t2 t v2 v kd2 kd
      have HE2 := Lib.hid (beq_str t2 t)
      have HBX := Lib.hid (below_next (below_next HB0.out HB.out) (belowNew wr (.cells #[.string t2, .int .i64 kd2, .string v2] 27)))
      have HBY := Lib.hid (below_next HB.out (belowNew wr (.cells #[.string t2, .int .i64 kd2, .string v2] 27)))
      clear c0 c1 c2 hb hsm
      by_cases hx : t2 = t
      · have hbq : (t2.toList == t.toList) = true := by rw [HE2.out]; exact decide_eq_true hx
        rw [decide_eq_true hx, Bool.true_and] at hfa
        have HFA := Lib.hid hfa
        clear hfa hx
        cases hm : matchB v2 v with
        | true =>
          rw [hm] at HM
          have HF := Lib.hid (show E = true by rw [HE.out]; exact HHT.out (by rw [HFA.out, hm]))
          clear hm
          go_wp2_with (go_at_call 155; (with_reducible refine (HM.out _).mono ?_); rintro e w1 ⟨rfl, hb1⟩; have HB1 := Lib.hid hb1; clear hb1)
          go_ret
          exact ⟨by rw [HF.out]; rfl, below_next HBX.out HB1.out⟩
        | false =>
          rw [hm] at HM
          have HF := Lib.hid (show hasB (l.take (k + 1)) (t, kd, v) = false by rw [HST.out, HA.out, HFA.out, hm]; rfl)
          clear hm
          go_wp2_with (go_at_call 155; (with_reducible refine (HM.out _).mono ?_); rintro e w1 ⟨rfl, hb1⟩; have HB1 := Lib.hid hb1; clear hb1)
          go_roundw
          case rel => exact ⟨k + 1, by omega, by go_num, HF.out, below_next HBY.out HB1.out⟩
          case measure => simp [intOf]; omega
      · have hbq : (t2.toList == t.toList) = false := by rw [HE2.out]; exact decide_eq_false hx
        rw [decide_eq_false hx, Bool.false_and] at hfa
        have HF := Lib.hid (show hasB (l.take (k + 1)) (t, kd, v) = false by rw [HST.out, HA.out, hfa]; rfl)
        clear hfa hx
        go_wp2_with fail
        go_roundw
        case rel => exact ⟨k + 1, by omega, by go_num, HF.out, HBY.out⟩
        case measure => simp [intOf]; omega
    · have hd : decide ((k : Int) < (n : Int)) = false := by simp; omega
      have HF := Lib.hid (show E = false by rw [HE.out]; have := HA.out; rwa [List.take_of_length_le (by rw [← HN.out]; omega)] at this)
      go_wp2_with fail
      go_ret
      exact ⟨by rw [HF.out]; rfl, below_next HB0.out HB.out⟩

/-! ### matchRDN -/
theorem matchR_has (r s : List At) : MatchR r s ↔ r.length = s.length ∧ ∀ i, i < r.length → hasB s (r.getD i noAt) = true ∧ hasB r (s.getD i noAt) = true := by
  constructor
  · rintro ⟨h1, h2, h3⟩
    refine ⟨h1, fun i hi => ⟨(hasB_iff _ _).2 (h2 _ (memD r i hi noAt)), (hasB_iff _ _).2 (h3 _ (memD s i (by omega) noAt))⟩⟩
  · rintro ⟨h1, h2⟩
    refine ⟨h1, fun x hx => ?_, fun x hx => ?_⟩
    · obtain ⟨i, hi, rfl⟩ := List.mem_iff_getElem.1 hx
      have := (hasB_iff _ _).1 (h2 i hi).1
      rwa [List.getD_eq_getElem?_getD, List.getElem?_eq_getElem hi] at this
    · obtain ⟨i, hi, rfl⟩ := List.mem_iff_getElem.1 hx
      have := (hasB_iff _ _).1 (h2 i (by omega)).2
      rwa [List.getD_eq_getElem?_getD, List.getElem?_eq_getElem hi] at this
set_option maxRecDepth 100000 in
set_option maxHeartbeats 4000000 in
theorem rmrel_any (a0 b0 : Option Addr) (c d n m : Nat) (r s : List At) (w : World) (h1 : ALies w a0 r) (h2 : ALies w b0 s) (hn : n = r.length) (hm : m = s.length) (hr : SmallR r) (hs : SmallR s) :
    Calls Tryz.prog 79 #[.slice a0 n c, .slice b0 m d] w fun e w' => e = .returned (.bool (decide (MatchR r s))) ∧ Below w.heap.size w w' := by
  by_cases hl : n = m
  · subst hl
    have hL : n ≤ 1000000 := by rw [hn]; exact hr.1
    have H1 := Lib.hid h1
    have H2 := Lib.hid h2
    have HN := Lib.hid hn
    have HM := Lib.hid hm
    have HR := Lib.hid hr
    have HS := Lib.hid hs
    obtain ⟨E, hE⟩ : ∃ E, E = decide (MatchR r s) := ⟨_, rfl⟩
    rw [← hE]
    have HE := Lib.hid hE
    clear h1 h2 hn hm hr hs hE
    go_enter Tryz.func79, Tryz.ntmps79
    go_wp2_with fail
    go_loopw [13] (fun i wr => ∃ k : Nat, k ≤ n ∧ i = .int .i64 k ∧ (∀ j, j < k → hasB s (r.getD j noAt) = true ∧ hasB r (s.getD j noAt) = true) ∧ Below w.heap.size w wr) (fun i _ => n - (intOf i).toNat)
    case atStart => exact ⟨0, Nat.zero_le _, rfl, fun j hj => absurd hj (Nat.not_lt_zero _), Below.refl _ _⟩
    case round =>
      obtain ⟨k, hk, rfl, hA, hb⟩ := hrel
      have HB := Lib.hid hb
      have HA := Lib.hid hA
      clear hb hA
      by_cases hlt : k < n
      · have hd : decide ((k : Int) < (n : Int)) = true := by simp; omega
        obtain ⟨b, o, rfl, hb, c0, c1, c2⟩ := H1.out.at k (by rw [← HN.out]; exact hlt)
        have a0 : wr.cell? ⟨b, o + k * 3, none⟩ = _ := (HB.out.cell (p := ⟨b, o + k * 3, none⟩) hb).trans c0
        have a1 : wr.cell? ⟨b, o + k * 3 + 1, none⟩ = _ := (HB.out.cell (p := ⟨b, o + k * 3 + 1, none⟩) hb).trans c1
        have a2 : wr.cell? ⟨b, o + k * 3 + 2, none⟩ = _ := (HB.out.cell (p := ⟨b, o + k * 3 + 2, none⟩) hb).trans c2
        obtain ⟨g, q, rfl, hg, d0, d1, d2⟩ := H2.out.at k (by rw [← HM.out]; exact hlt)
        have HD0 := Lib.hid ((HB.out.cell (p := ⟨g, q + k * 3, none⟩) hg).trans d0)
        have HD1 := Lib.hid ((HB.out.cell (p := ⟨g, q + k * 3 + 1, none⟩) hg).trans d1)
        have HD2 := Lib.hid ((HB.out.cell (p := ⟨g, q + k * 3 + 2, none⟩) hg).trans d2)
        have hs1 := HR.out.2 k (by rw [← HN.out]; exact hlt)
        have hs2 := HS.out.2 k (by rw [← HM.out]; exact hlt)
        have HX := Lib.hid (show E = true → hasB s (r.getD k noAt) = true ∧ hasB r (s.getD k noAt) = true from fun e => ((matchR_has r s).1 (of_decide_eq_true (by rw [← HE.out]; exact e))).2 k (by rw [← HN.out]; exact hlt))
        have HY := Lib.hid (show hasB s (r.getD k noAt) = true ∧ hasB r (s.getD k noAt) = true → ∀ j, j < k + 1 → hasB s (r.getD j noAt) = true ∧ hasB r (s.getD j noAt) = true from fun e j hj => by
          by_cases hjk : j = k
          · subst hjk; exact e
          · exact HA.out j (by omega))
        generalize r.getD k noAt = x at a0 a1 a2 hs1 HX HY
        generalize s.getD k noAt = y at HD0 HD1 HD2 hs2 HX HY
        obtain ⟨t, kd, v⟩ := x
        obtain ⟨t2, kd2, v2⟩ := y
        have HC1 := Lib.hid (rhas_any (some ⟨g, q, none⟩) d n s t v kd wr (H2.out.below HB.out) HM.out HS.out hs1.2)
        have HC2 := Lib.hid (fun W (hw : Below wr.heap.size wr W) => rhas_any (some ⟨b, o, none⟩) c n r t2 v2 kd2 W ((H1.out.below HB.out).below hw) HN.out HR.out hs2.2)
        obtain ⟨x1, hx1⟩ : ∃ x1, x1 = hasB s (t, kd, v) := ⟨_, rfl⟩
        obtain ⟨x2, hx2⟩ : ∃ x2, x2 = hasB r (t2, kd2, v2) := ⟨_, rfl⟩
        rw [← hx1] at HC1 HX HY
        rw [← hx2] at HC2 HX HY
        clear c0 c1 c2 d0 d1 d2 hb hg hs1 hs2 hx1 hx2
        cases x1 with
        | false =>
          have HF := Lib.hid (show E = false from by
            cases hh : E with
            | false => rfl
            | true => exact absurd (HX.out hh).1 (by decide))
          go_wp2_with (go_at_call 125; (with_reducible refine HC1.out.mono ?_); rintro e w1 ⟨rfl, hb1⟩; have HB1 := Lib.hid (below_next HB.out hb1); clear hb1)
          go_ret
          exact ⟨by rw [HF.out]; rfl, HB1.out⟩
        | true =>
          cases x2 with
          | false =>
            have HF := Lib.hid (show E = false from by
              cases hh : E with
              | false => rfl
              | true => exact absurd (HX.out hh).2 (by decide))
            go_wp2_with (first
              | (go_at_call 125; (with_reducible refine HC1.out.mono ?_); rintro e w1 ⟨rfl, hb1⟩; have HB1 := Lib.hid hb1; have e0 := (hb1.cell (p := ⟨g, q + k * 3, none⟩) (block_lt HD0.out)).trans HD0.out; have e1 := (hb1.cell (p := ⟨g, q + k * 3 + 1, none⟩) (block_lt HD1.out)).trans HD1.out; have e2 := (hb1.cell (p := ⟨g, q + k * 3 + 2, none⟩) (block_lt HD2.out)).trans HD2.out; clear hb1)
              | (go_at_call 125; (with_reducible refine (HC2.out _ HB1.out).mono ?_); rintro e w2 ⟨rfl, hb2⟩; have HB2 := Lib.hid (below_next HB.out (below_next HB1.out hb2)); clear hb2))
            go_ret
            exact ⟨by rw [HF.out]; rfl, HB2.out⟩
          | true =>
            have HF := Lib.hid (HY.out ⟨rfl, rfl⟩)
            go_wp2_with (first
              | (go_at_call 125; (with_reducible refine HC1.out.mono ?_); rintro e w1 ⟨rfl, hb1⟩; have HB1 := Lib.hid hb1; have e0 := (hb1.cell (p := ⟨g, q + k * 3, none⟩) (block_lt HD0.out)).trans HD0.out; have e1 := (hb1.cell (p := ⟨g, q + k * 3 + 1, none⟩) (block_lt HD1.out)).trans HD1.out; have e2 := (hb1.cell (p := ⟨g, q + k * 3 + 2, none⟩) (block_lt HD2.out)).trans HD2.out; clear hb1)
              | (go_at_call 125; (with_reducible refine (HC2.out _ HB1.out).mono ?_); rintro e w2 ⟨rfl, hb2⟩; have HB2 := Lib.hid (below_next HB.out (below_next HB1.out hb2)); clear hb2))
            go_roundw
            case rel => exact ⟨k + 1, by omega, by go_num, HF.out, HB2.out⟩
            case measure => simp [intOf]; omega
      · have hd : decide ((k : Int) < (n : Int)) = false := by simp; omega
        have HF := Lib.hid (show E = true by rw [HE.out]; exact decide_eq_true ((matchR_has r s).2 ⟨by rw [← HN.out, ← HM.out], fun j hj => HA.out j (by rw [← HN.out] at hj; omega)⟩))
        go_wp2_with fail
        go_ret
        exact ⟨by rw [HF.out]; rfl, HB.out⟩
  · have e : decide (MatchR r s) = false := decide_eq_false (fun h => hl (by rw [hn, hm]; exact h.1))
    have hd : ((n : Int) != (m : Int)) = true := by simp; omega
    rw [e]
    clear h1 h2 hn hm hr hs hl e
    go_enter Tryz.func79, Tryz.ntmps79
    go_wp2_with fail
    go_ret
    exact ⟨rfl, Below.refl _ _⟩
end Go.Proofs.YtfpfgdbfigdooaaGreatDoor
