/-
  The walk of the law HashParts: for every string and every slice of cuts it returns true, and leaves all that was there as it was.
-/
import Derived.Test.YtoickijglahipaaDoorAwake
namespace Go.Proofs.YtoickijglahipaaDoor
open Go.RowKit

theorem strInfo : (Tryd.prog.info? 9).map (fun i => (i.zero, i.size, i.bytes)) = some (some (.string ⟨#[]⟩), 1, 16) := by kernel_rfl
/-- The slice value v, of memory from block B on, holds the strings ss. -/
def OwnS (w : World) (B : Nat) (v : Value) (ss : List ByteArray) : Prop := w.ownsRow B 9 1 v ss.length (ss.map Value.string)
theorem strs_one (ss : List ByteArray) : ∀ v ∈ ss.map Value.string, v.oneCell' = true := by
  intro v hv; obtain ⟨b, _, rfl⟩ := List.mem_map.1 hv; rfl
theorem OwnS.reads {w : World} {B : Nat} {v : Value} {ss : List ByteArray} (h : OwnS w B v ss) : Reads w v ss := by
  rcases h.2 with ⟨rfl, h0⟩ | ⟨g, cap, cur, rfl, _, hg, _, _, _, htk⟩
  · obtain rfl := List.eq_nil_of_length_eq_zero h0
    exact reads_nil w
  · refine ⟨_, _, rfl, Or.inr ⟨g, 0, rfl, fun i hi => ?_⟩⟩
    rw [Nat.zero_add, cell_of_row w g i _ _ _ hg]
    have : (cur.toList.take (ss.length * 1))[i]? = some (.string ss[i]) := by rw [htk]; simp [hi]
    rw [List.getElem?_take_of_lt (by omega)] at this
    simp [hi] at this ⊢
    exact this

set_option maxRecDepth 100000 in
set_option maxHeartbeats 2000000 in
theorem parts_far (b : ByteArray) (a0 : Option Addr) (n cap : Nat) (w : World) (hK : Holds w 0 kWords) (h : 1000 < b.size ∨ 40 < n) :
    Calls Tryd.prog 7 #[.string b, .slice a0 n cap] w fun e w' => e = .returned (.bool true) ∧ Below w.heap.size w w' := by
  have HK := Lib.hid hK
  clear hK
  by_cases h1 : 1000 < b.size
  · have hd : decide ((1000 : Int) < (b.size : Int)) = true := by simp; omega
    clear h
    go_enter Tryd.func7, Tryd.ntmps7
    go_wp2_with (go_at_call 9; (with_reducible refine (awake_any _ HK.out).mono ?_); rintro e w1 ⟨rfl, hb1⟩; have HB1 := Lib.hid hb1; clear hb1)
    go_ret
    exact ⟨rfl, HB1.out⟩
  · have hd : decide ((1000 : Int) < (b.size : Int)) = false := by simp; omega
    have h2 : 40 < n := by omega
    have hd2 : decide ((40 : Int) < (n : Int)) = true := by simp; omega
    clear h
    go_enter Tryd.func7, Tryd.ntmps7
    go_wp2_with (go_at_call 9; (with_reducible refine (awake_any _ HK.out).mono ?_); rintro e w1 ⟨rfl, hb1⟩; have HB1 := Lib.hid hb1; clear hb1)
    go_ret
    exact ⟨rfl, HB1.out⟩

/-- What a round that cuts m bytes off does to the parts. -/
theorem parts_round {b c : ByteArray} {ss : List ByteArray} {v v' : Value} {w1 wr w2 : World} {X : Obj} (m : Nat) (hcat : cat ss ++ c.data.toList = b.data.toList) (hown : OwnS wr w1.heap.size v ss) (hb : Below w1.heap.size w1 wr)
    (hown2 : w2.ownsRow w1.heap.size 9 1 v' (ss.length + 1) (ss.map Value.string ++ [.string (c.extract 0 m)])) (hgr2 : ((wr.alloc X).drew).grownBy w2 v.ownBlock) :
    cat (ss ++ [c.extract 0 m]) ++ (c.extract m c.size).data.toList = b.data.toList ∧ OwnS w2 w1.heap.size v' (ss ++ [c.extract 0 m]) ∧ Below w1.heap.size w1 w2 := by
  refine ⟨?_, ?_, ?_⟩
  · have e1 : (c.extract 0 m).data.toList = c.data.toList.take m := by
      simp only [ByteArray.data_extract, Array.toList_extract, List.extract_eq_take_drop]; simp
    have e2 : (c.extract m c.size).data.toList = c.data.toList.drop m := by
      simp only [ByteArray.data_extract, Array.toList_extract, List.extract_eq_take_drop]
      exact List.take_of_length_le (by simp)
    rw [cat_append, e2]
    have e3 : cat [c.extract 0 m] = c.data.toList.take m := by rw [← e1]; simp [cat]
    rw [e3, List.append_assoc, List.take_append_drop]; exact hcat
  · unfold OwnS
    rw [List.length_append, List.map_append]; exact hown2
  · exact (Below.drew (Below.alloc hb hb.size X)).grown hgr2 (by simp; have := hb.size; omega) (fun k e => (hown.lt k e).1)

theorem parts_last {b c : ByteArray} {ss : List ByteArray} {v v' : Value} {w1 wr w2 : World} {X : Obj} (hcat : cat ss ++ c.data.toList = b.data.toList) (hown : OwnS wr w1.heap.size v ss) (hb : Below w1.heap.size w1 wr)
    (hown2 : w2.ownsRow w1.heap.size 9 1 v' (ss.length + 1) (ss.map Value.string ++ [.string c])) (hgr2 : ((wr.alloc X).drew).grownBy w2 v.ownBlock) :
    cat (ss ++ [c]) ++ ByteArray.empty.data.toList = b.data.toList ∧ OwnS w2 w1.heap.size v' (ss ++ [c]) ∧ Below w1.heap.size w1 w2 := by
  refine ⟨?_, ?_, ?_⟩
  · rw [cat_append, ← hcat]; simp [cat]
  · unfold OwnS
    rw [List.length_append, List.map_append]; exact hown2
  · exact (Below.drew (Below.alloc hb hb.size X)).grown hgr2 (by simp; have := hb.size; omega) (fun k e => (hown.lt k e).1)

theorem parts_end {b c : ByteArray} {ss : List ByteArray} {v v' : Value} {w1 wr w2 : World} {X : Obj} (hcat : cat ss ++ c.data.toList = b.data.toList) (hown : OwnS wr w1.heap.size v ss) (hb : Below w1.heap.size w1 wr)
    (hown2 : w2.ownsRow w1.heap.size 9 1 v' (ss.length + 1) (ss.map Value.string ++ [.string c])) (hgr2 : (wr.alloc X).grownBy w2 v.ownBlock) :
    cat (ss ++ [c]) = b.data.toList ∧ OwnS w2 w1.heap.size v' (ss ++ [c]) ∧ Below w1.heap.size w1 w2 := by
  refine ⟨?_, ?_, ?_⟩
  · rw [cat_append, ← hcat]; simp [cat]
  · unfold OwnS
    rw [List.length_append, List.map_append]; exact hown2
  · exact (Below.alloc hb hb.size X).grown hgr2 (by simp; have := hb.size; omega) (fun k e => (hown.lt k e).1)

theorem own_form {w : World} {B : Nat} {v : Value} {ss : List ByteArray} {n : Nat} (h : OwnS w B v ss) (hn : ss.length = n) (h0 : 0 < n) :
    ∃ g cp, v = .slice (some ⟨g, 0, none⟩) n cp ∧ B ≤ g ∧ ∀ i, i < n → w.cell? ⟨g, i, none⟩ = some (.string (ss.getD i ByteArray.empty)) := by
  subst hn
  rcases h.2 with ⟨_, h1⟩ | ⟨g, cap, cur, rfl, hB, hg, _, _, _, htk⟩
  · omega
  · refine ⟨g, cap, rfl, hB, fun i hi => ?_⟩
    rw [cell_of_row w g i _ _ _ hg]
    have : (cur.toList.take (ss.length * 1))[i]? = some (.string ss[i]) := by rw [htk]; simp [hi]
    rw [List.getElem?_take_of_lt (by omega)] at this
    simp [hi] at this ⊢
    exact this

set_option maxRecDepth 100000 in
set_option maxHeartbeats 2000000 in
theorem parts_near (b : ByteArray) (a0 : Option Addr) (n cap : Nat) (cs : Nat → Nat) (w : World) (hK : Holds w 0 kWords) (h1 : b.size ≤ 1000) (h2 : n ≤ 40)
    (hc : n = 0 ∨ ∃ cb co, a0 = some ⟨cb, co, none⟩ ∧ ∀ i, i < n → w.cell? ⟨cb, co + i, none⟩ = some (.int .u8 (cs i : Nat))) (hcs : ∀ i, cs i ≤ 255) :
    Calls Tryd.prog 7 #[.string b, .slice a0 n cap] w fun e w' => e = .returned (.bool true) ∧ Below w.heap.size w w' := by
  obtain ⟨i0, hi, hz0, hz1, hz2⟩ := info_parts strInfo
  have HK := Lib.hid hK
  have HC := Lib.hid hc
  have HCS := Lib.hid hcs
  have hd : decide ((1000 : Int) < (b.size : Int)) = false := by simp; omega
  have hd2 : decide ((40 : Int) < (n : Int)) = false := by simp; omega
  clear hK hc hcs
  go_enter Tryd.func7, Tryd.ntmps7
  go_wp2_with (go_at_call 18; (with_reducible refine (start_any _).mono ?_); rintro e w1 ⟨rfl, hs1, hb1⟩; have HS1 := Lib.hid hs1; have HB1 := Lib.hid hb1; clear hs1 hb1)
  go_loopw [6, 7, 28] (fun v r i wr => ∃ (k : Nat) (ss : List ByteArray) (c : ByteArray), k ≤ n ∧ i = .int .i64 k ∧ ss.length = k ∧ r = .string c ∧ cat ss ++ c.data.toList = b.data.toList ∧ OwnS wr w1.heap.size v ss ∧ Below w1.heap.size w1 wr) (fun _ _ i _ => n - (intOf i).toNat)
  case atStart => exact ⟨0, [], b, Nat.zero_le _, rfl, rfl, rfl, rfl, World.ownsRow_nil _ _ _ _, Below.refl _ _⟩
  case round =>
    obtain ⟨k, ss, c, hk, rfl, hsl, rfl, hcat, hown, hb⟩ := hrel
    have HSL := Lib.hid hsl
    have HCT := Lib.hid hcat
    have HO := Lib.hid hown
    have HB := Lib.hid hb
    have hcsz : c.size ≤ 1000 := by
      have := congrArg List.length hcat
      rw [List.length_append] at this
      have e1 : c.data.toList.length = c.size := rfl
      have e2 : b.data.toList.length = b.size := rfl
      omega
    clear hsl hcat hown hb
    by_cases hlt : k < n
    · have hd3 : decide ((k : Int) < (n : Int)) = true := by simp; omega
      obtain ⟨cb, co, ha, hcell⟩ : ∃ cb co, a0 = some ⟨cb, co, none⟩ ∧ wr.cell? ⟨cb, co + k, none⟩ = some (.int .u8 (cs k : Nat)) := by
        rcases HC.out with h | ⟨cb, co, h1, h2⟩
        · omega
        · have hx := h2 k hlt
          have hlt2 : cb < w.heap.size := block_lt_of_cell hx
          exact ⟨cb, co, h1, (HB.out.cell (p := ⟨cb, co + k, none⟩) (Nat.lt_of_lt_of_le hlt2 HB1.out.size)).trans ((HB1.out.cell (p := ⟨cb, co + k, none⟩) hlt2).trans hx)⟩
      obtain ⟨q, hq⟩ : ∃ q, q = cs k := ⟨_, rfl⟩
      rw [← hq] at hcell
      have hq2 : q ≤ 255 := by rw [hq]; exact HCS.out k
      clear hq
      subst ha
      have hsb := HB.out.size
      go_wp2_with fail
      · go_region_law (refine step_append_own rfl (.tmp 37) (.tmp 41) 22 rfl w1.heap.size 9 i0 (.string ⟨#[]⟩) 16 Tryd.underlying22 hi hz0 hz1 hz2 rfl _ _ _ rfl ((HO.out.alloc _).drew) ⟨wr.heap.size, 0, none⟩ 1 1 [.string (c)] rfl rfl (news_row wr #[.string (c)] 9) (strs_one [c]) (by rw [HSL.out]; unfold maxLen; omega) (by rw [HSL.out]; omega) (by simp; omega) ?_; intro v' w2 hown2 hgr2 _)
        all_goals
          obtain ⟨P1, P2, P3⟩ := parts_last HCT.out HO.out HB.out hown2 hgr2
          clear hown2 hgr2
          have HP1 := Lib.hid P1
          have HP2 := Lib.hid P2
          have HP3 := Lib.hid P3
          clear P1 P2 P3
          go_wp2_with fail
          go_roundw
          case rel => exact ⟨k + 1, ss ++ [c], ByteArray.empty, by omega, by go_num, by rw [List.length_append, HSL.out]; rfl, rfl, HP1.out, HP2.out, HP3.out⟩
          case measure => simp [intOf]; omega
      · have hqc : q ≤ c.size := by omega
        go_region_law (refine step_append_own rfl (.tmp 37) (.tmp 41) 22 rfl w1.heap.size 9 i0 (.string ⟨#[]⟩) 16 Tryd.underlying22 hi hz0 hz1 hz2 rfl _ _ _ rfl ((HO.out.alloc _).drew) ⟨wr.heap.size, 0, none⟩ 1 1 [.string (c.extract 0 q)] rfl rfl (news_row wr #[.string (c.extract 0 q)] 9) (strs_one [c.extract 0 q]) (by rw [HSL.out]; unfold maxLen; omega) (by rw [HSL.out]; omega) (by simp; omega) ?_; intro v' w2 hown2 hgr2 _)
        all_goals
          obtain ⟨P1, P2, P3⟩ := parts_round q HCT.out HO.out HB.out hown2 hgr2
          clear hown2 hgr2
          have HP1 := Lib.hid P1
          have HP2 := Lib.hid P2
          have HP3 := Lib.hid P3
          clear P1 P2 P3
          go_wp2_with fail
          go_roundw
          case rel => exact ⟨k + 1, ss ++ [c.extract 0 q], c.extract q c.size, by omega, by go_num, by rw [List.length_append, HSL.out]; rfl, rfl, HP1.out, HP2.out, HP3.out⟩
          case measure => simp [intOf]; omega
    · have ek : k = n := by omega
      subst ek
      have hd3 : decide ((k : Int) < (k : Int)) = false := by simp
      have hsb := HB.out.size
      go_wp2_with (at_builtin; (refine wpList_append_own _ rfl (.tmp 47) (.tmp 49) 22 rfl w1.heap.size 9 i0 (.string ⟨#[]⟩) 1 16 Tryd.underlying22 hi hz0 hz1 hz2 rfl (by decide) _ _ _ rfl (HO.out.alloc _) ⟨wr.heap.size, 0, none⟩ 1 1 [.string c] rfl rfl (news_row wr #[.string c] 9) (strs_one [c]) (by rw [HSL.out]; unfold maxLen; omega) (by rw [HSL.out]; omega) (by simp; omega) ?_); intro v' w2 hown2 hgr2 _; obtain ⟨P1, P2, P3⟩ := parts_end HCT.out HO.out HB.out hown2 hgr2; obtain ⟨g, cp, rfl, hgB, hgc⟩ := own_form (n := k + 1) P2 (by rw [List.length_append, HSL.out]; rfl) (by omega); have HGC := Lib.hid hgc; clear hgc; have HP1 := Lib.hid P1; have HP2 := Lib.hid P2; have HP3 := Lib.hid P3; clear hown2 hgr2 P1 P2 P3)
      have hpg : w.heap.size < w1.heap.size := HS1.out.lt
      obtain ⟨ts, hts⟩ : ∃ ts, ts = ss ++ [c] := ⟨_, rfl⟩
      rw [← hts] at HP1 HP2 HGC
      have htl : ts.length = k + 1 := by rw [hts, List.length_append, HSL.out]; rfl
      have HTL := Lib.hid htl
      clear hts htl
      have hs2 : IsStr 40 w2 w.heap.size [] := HS1.out.of_heap (HP3.out.block _ hpg)
      have hk2 : Holds w2 0 kWords := (HK.out.old HB1.out).below HP3.out (by have := HK.out.lt; have := HB1.out.size; omega)
      have HS2 := Lib.hid hs2
      have HK2 := Lib.hid hk2
      clear hs2 hk2
      go_loopw [53] (fun i wx => ∃ j : Nat, j ≤ k + 1 ∧ i = .int .i64 j ∧ IsStr 40 wx w.heap.size (cat (ts.take j)) ∧ w2.grownBy wx (some w.heap.size)) (fun i _ => (k + 1) - (intOf i).toNat)
      case atStart => exact ⟨0, by omega, rfl, HS2.out, World.grownBy.refl _ _⟩
      case round =>
        obtain ⟨j, hj, rfl, hsj, hgj⟩ := hrel
        have HSJ := Lib.hid hsj
        have HGJ := Lib.hid hgj
        have HKJ := Lib.hid (HK2.out.grown hgj (by have := HK.out.lt; omega))
        clear hsj hgj
        by_cases hjt : j < k + 1
        · have hd4 : decide ((j : Int) < (k : Int) + 1) = true := by simp; omega
          obtain ⟨x, hx⟩ : ∃ x, x = ts.getD j ByteArray.empty := ⟨_, rfl⟩
          have hcx := HGC.out j hjt
          have hcj : wr.cell? ⟨g, j, none⟩ = some (.string x) := by
            rw [hx]; exact HGJ.out.cell hcx (by simp; omega)
          have HX := Lib.hid hx
          clear hx hcx
          have hlb : b.data.toList.length ≤ 1000 := h1
          have hsz : (cat (ts.take j)).length + x.size < 4611686018427387904 := by
            have h1 := cat_take_succ ts j (by rw [HTL.out]; exact hjt)
            have h2 := cat_take_le ts (j + 1)
            rw [h1, List.length_append, ← HX.out, HP1.out] at h2
            have h3 : x.data.toList.length = x.size := rfl
            omega
          have HSZ := Lib.hid hsz
          clear hsz
          go_wp2_with (go_at_call 19; (with_reducible refine (write_any w.heap.size x (cat (ts.take j)) _ HSJ.out HKJ.out (by have := HK.out.lt; omega) HSZ.out).mono ?_); rintro e w3 ⟨rfl, hs3, hg3⟩; have HS3 := Lib.hid hs3; have HG3 := Lib.hid hg3; clear hs3 hg3)
          go_roundw
          case rel =>
            refine ⟨j + 1, by omega, by go_num, ?_, grown_trans HGJ.out HG3.out⟩
            rw [cat_take_succ ts j (by rw [HTL.out]; exact hjt), ← HX.out]; exact HS3.out
          case measure => simp [intOf]; omega
        · have ej : j = k + 1 := by omega
          subst ej
          have ett : ts.take (k + 1) = ts := List.take_of_length_le (by rw [HTL.out]; exact Nat.le_refl _)
          obtain ⟨E, hE⟩ : ∃ E, E = shaStr b.data.toList := ⟨_, rfl⟩
          have he32 : E.size = 32 := by rw [hE]; exact shaStr_size _
          have HE := Lib.hid hE
          have hrd : Reads wr (.slice (some ⟨g, 0, none⟩) (k + 1) cp) ts := by
            refine ⟨_, cp, by rw [HTL.out], Or.inr ⟨g, 0, rfl, fun i hi => ?_⟩⟩
            rw [Nat.zero_add]
            exact HGJ.out.cell (HGC.out i (by rw [← HTL.out]; exact hi)) (by simp; omega)
          have HRD := Lib.hid hrd
          have hsw : IsStr 40 wr w.heap.size b.data.toList := by
            have := HSJ.out
            rw [ett, HP1.out] at this
            exact this
          have HSW := Lib.hid hsw
          have hlb : b.data.toList.length < 2305843009213693952 := Nat.lt_of_le_of_lt (show b.data.toList.length ≤ 1000 from h1) (by omega)
          have HLB := Lib.hid hlb
          have hcb : cat [b] = b.data.toList := by simp [cat]
          have HCB := Lib.hid hcb
          have HZ := Lib.hid (Below.refl wr.heap.size wr)
          have hbw : Below w.heap.size w wr := by
            have b2 := (HB1.out.next HP3.out)
            exact below_of_grown b2 HGJ.out b2.size (Nat.le_refl _)
          have HBW := Lib.hid hbw
          clear hE hrd hsw hlb hcb hbw ett
          go_wp2_with (first | (go_at_call 9; (with_reducible refine (awake_any _ (HKJ.out.old HZ.out)).mono ?_); rintro e w4 ⟨rfl, hb4⟩; have HZ := Lib.hid (HZ.out.next hb4); clear hb4) | (go_at_call 10; (with_reducible refine (hsumStr_any (.slice (some ⟨g, 0, none⟩) (k + 1) cp) ts _ (HRD.out.old HZ.out) (by rw [HTL.out]; omega) (HKJ.out.old HZ.out) (by rw [HP1.out]; exact HLB.out)).mono ?_); rintro e w5 ⟨he, hb5⟩; obtain rfl : e = .returned (.string E) := (by rw [he, HE.out, HP1.out]); have HZ := Lib.hid (HZ.out.next hb5); clear hb5) | (go_at_call 10; (refine (hsumStr_any _ [b] _ (reads_row _ [b] 9) (by simp) (HKJ.out.old (HZ.out.alloc HZ.out.size _)) (by rw [HCB.out]; exact HLB.out)).mono ?_); rintro e w6 ⟨he, hb6⟩; obtain rfl : e = .returned (.string E) := (by rw [he, HE.out, HCB.out]); have HZ := Lib.hid ((HZ.out.alloc HZ.out.size _).next hb6); clear hb6) | (go_at_call 20; (refine (sum_any w.heap.size b.data.toList _ (HSW.out.of_heap (HZ.out.block _ HSW.out.lt)) (HKJ.out.old HZ.out) HLB.out).mono ?_); rintro e w7 ⟨he, hb7⟩; obtain rfl : e = .returned (.string E) := (by rw [he, HE.out]; rfl); have HZ := Lib.hid (HZ.out.next hb7); clear hb7))
          go_ret
          exact ⟨rfl, HBW.out.next HZ.out⟩
end Go.Proofs.YtoickijglahipaaDoor
