/-
  The contract of the reference's FormatName.
-/
import Derived.Test.YtflpajbcomhkpaaGreatDoorSbm
import Derived.Test.YtflpajbcomhkpaaGreatDoorSaw
import Derived.Test.YtflpajbcomhkpaaGreatDoorSbi
import Derived.Deep.CutRange
import Derived.Deep.RegionHeld3
namespace Go.Proofs.YtflpajbcomhkpaaGreatDoor
open Go.RowKit

theorem step_append3 {P : Program} {ops : Array Oper} {o : Oper} {a : Act} {w : World} {K : Act → World → Prop} {Q : Exit → Act → World → Prop} {E : Prop} (hgd : o.guard = none) (s x : Operand) (t : TypeId)
    (ho : o.op = .call { callee := .builtin .append, args := #[s, x], argTypes := #[t, t] })
    (base : Nat) (e : TypeId) (i : TypeInfo) (z : Value) (size bytes : Nat) (ht : P.underlying t = some (.slice e)) (hi : P.info? e = some i) (hz : i.zero = some z)
    (hsize : i.size = size) (hby : i.bytes = bytes) (hzs : z.cells.size = size) (hsz : 0 < size)
    (v : Value) (n : Nat) (xs : List Value) (hs : a.eval s = v) (hown : w.ownsRow base e size v n xs)
    (ad : Addr) (m c : Nat) (news : List Value) (hx : a.eval x = .slice (some ad) m c) (hl : news.length = m * size) (hnews : ∀ j u, news[j]? = some u → w.cell? (ad.add j) = some u) (h1 : ∀ u ∈ news, u.oneCell' = true)
    (h63 : n + m ≤ maxLen) (hbytes : (n + m) * bytes ≤ 140737488355328) (hbase : base ≤ w.heap.size)
    (h : ∀ v' w', w'.ownsRow base e size v' (n + m) (xs ++ news) → w.grownBy w' v.ownBlock → K (a.put o.dst v') w') :
    if Region.wanted o (yielded ops a.tmps) = true then Oper.wp P o a w K Q else E := by
  have hw : Region.wanted o (yielded ops a.tmps) = true := by simp [Region.wanted, hgd]
  rw [if_pos hw]
  exact wp_append_own w s x t ho base e i z size bytes ht hi hz hsize hby hzs hsz v n xs hs hown ad m c news hx hl hnews h1 h63 hbytes hbase fun v' w' h2 h3 _ => h v' w' h2 h3
theorem ALies.drop {w : World} {b o : Nat} {l : List At} (h : ALies w (some ⟨b, o, none⟩) l) (k : Nat) : ALies w (some ⟨b, o + k * 3, none⟩) (l.drop k) := by
  rcases h with h | ⟨b', o', e, hc⟩
  · exact .inl (by rw [h]; simp)
  · obtain ⟨rfl, rfl⟩ : b = b' ∧ o = o' := by simpa using e
    refine .inr ⟨b, o + k * 3, rfl, fun i hi => ?_⟩
    rw [List.length_drop] at hi
    obtain ⟨c0, c1, c2⟩ := hc (k + i) (by omega)
    have e2 : (l.drop k).getD i noAt = l.getD (k + i) noAt := by rw [List.getD_eq_getElem?_getD, List.getD_eq_getElem?_getD, List.getElem?_drop]
    rw [e2, show o + k * 3 + i * 3 = o + (k + i) * 3 by omega]
    exact ⟨c0, c1, c2⟩
theorem take_news {w : World} {g : Nat} {L : List At} (h : ALies w (some ⟨g, 0, none⟩) L) (mm : Nat) : ∀ W, Below w.heap.size w W → ∀ j u, (atsCells (L.take mm))[j]? = some u → W.cell? ((⟨g, 0, none⟩ : Addr).add j) = some u :=
  fun _ hb => lies_news ((h.take mm).below hb)
theorem drop_news {w : World} {g mm : Nat} {L : List At} {p : Addr} (h : ALies w (some ⟨g, 0, none⟩) L) (hp : mm + 1 < L.length → p = ⟨g, (mm + 1) * 3, none⟩) : ∀ W, Below w.heap.size w W → ∀ j u, (atsCells (L.drop (mm + 1)))[j]? = some u → W.cell? (p.add j) = some u := by
  intro W hb j u hj
  by_cases hm : mm + 1 < L.length
  · rw [hp hm]
    have := lies_news ((h.drop (mm + 1)).below hb) j u hj
    rwa [Nat.zero_add] at this
  · rw [List.drop_of_length_le (by omega)] at hj
    cases hj
theorem encs_at {L : List At} {i : Nat} (h : i < L.length) : (L.map encA).getD i ByteArray.empty = encA (L.getD i noAt) := by
  rw [List.getD_eq_getElem?_getD, List.getElem?_map, List.getElem?_eq_getElem h, List.getD_eq_getElem?_getD, List.getElem?_eq_getElem h]
  rfl
def lenOf : Value → Nat
  | .slice _ n _ => n
  | _ => 0

set_option maxRecDepth 100000 in
set_option maxHeartbeats 8000000 in
theorem rformat_core (a0 : Option Addr) (c m : Nat) (n : Nm) (w : World) (h : RLies w a0 n) (hn : m = n.length) (hs : SmallN n) (ht : ∀ r ∈ n, ∀ x ∈ r, x.1.size ≤ 200000) :
    Calls Tryz.prog 54 #[.agg #[.slice a0 m c]] w fun e w' => e = .returned (.tuple #[.string (fmtV n), .int .i64 ((chkN n : Nat) : Int)]) ∧ Below w.heap.size w w' := by
  obtain ⟨i1, hi', hy0, hy1, hy2⟩ := info_parts atInfo
  obtain ⟨W0, hW0⟩ : ∃ W0, W0 = w.alloc (.cells #[.slice a0 m c] 30) := ⟨_, rfl⟩
  have hwr : w.alloc (.cells #[.slice a0 m c] 30) = W0 := hW0.symm
  have hb0 : Below w.heap.size w W0 := by rw [hW0]; exact belowNew w _
  have hq0 : W0.heap[w.heap.size]? = some (.cells #[.slice a0 m c] 30 (0, 0)) := by rw [hW0]; exact heap_alloc_new w _
  have HC := Lib.hid (rchk_core a0 c m n W0 (h.below hb0) hn hs)
  obtain ⟨E, hE⟩ : ∃ E, E = chkN n := ⟨_, rfl⟩
  obtain ⟨V, hV⟩ : ∃ V, V = fmtV n := ⟨_, rfl⟩
  rw [← hE] at HC ⊢
  rw [← hV]
  have HB0 := Lib.hid hb0
  have HQ0 := Lib.hid hq0
  obtain ⟨c0, f0, l0⟩ := one_facts hq0
  by_cases hz : E = 0
  · have hch := (chkN_iff n).1 (hE.symm.trans hz)
    have HV := Lib.hid (show V = fmtN n by rw [hV]; unfold fmtV; rw [← hE, if_pos hz])
    have hp : ∀ r ∈ n, PreF r := fun r hm => by
      have hr := hch.2 _ hm
      exact ⟨okR_of hr, ((chkR_iff _).1 hr).2.1, ht _ hm⟩
    have HP := Lib.hid hp
    have H1 := Lib.hid h
    have HN := Lib.hid hn
    have hm8 : m ≤ 8 := by rw [hn]; exact hch.1
    have HSZ := Lib.hid (show ∀ (k : Nat) (S : ByteArray), k ≤ n.length → S.data.toList = Lib.join (((n.take k).map fmtR).map (·.data.toList)) [44] → S.size ≤ 1000001 * k from fun k S hk hS => by
      have hl := join_len 44 1000000 (((n.take k).map fmtR).map (·.data.toList)) (fun p hp' => by
        obtain ⟨s, hs', rfl⟩ := List.mem_map.1 hp'
        obtain ⟨r, hr, rfl⟩ := List.mem_map.1 hs'
        exact joinF_small (hp r (List.mem_of_mem_take hr)))
      rw [← hS, List.length_map, List.length_map, List.length_take, Nat.min_eq_left hk] at hl
      exact hl)
    subst hz
    clear hE hV hn hs hch h hW0 hb0 hq0 hp ht
    go_enter Tryz.func54, Tryz.ntmps54
    go_wp2_with (go_at_call 76; (with_reducible refine HC.out.mono ?_); rintro e w1 ⟨rfl, hb1⟩; have HB1 := Lib.hid (below_next HB0.out hb1); have hq1 := (hb1.block w.heap.size l0).trans HQ0.out; have HQ1 := Lib.hid hq1; obtain ⟨c1, f1, l1⟩ := one_facts hq1; clear hb1 hq1)
    clear c0 f0 l0 c1 f1 l1 hwr
    go_loopw [5, 25] (fun s i wr => ∃ (k : Nat) (S : ByteArray), k ≤ m ∧ i = .int .i64 (k : Int) ∧ s = .string S ∧ S.data.toList = Lib.join (((n.take k).map fmtR).map (·.data.toList)) [44] ∧ Below w.heap.size w wr) (fun _ i _ => m - (intOf i).toNat)
    case atStart => exact ⟨0, ⟨#[]⟩, Nat.zero_le _, rfl, rfl, rfl, HB1.out⟩
    case round =>
      obtain ⟨wo, hwo⟩ : ∃ wo, wo = wr := ⟨_, rfl⟩
      subst hwo
      obtain ⟨k, S, hk, rfl, rfl, hS, hb⟩ := hrel
      have HB := Lib.hid hb
      have HSL := Lib.hid hS
      have hsz := HSZ.out k S (by rw [← HN.out]; exact hk) hS
      clear hb hS
      by_cases hlt : k < m
      · have hd : decide ((k : Int) < (m : Int)) = true := by simp; omega
        have hki : (k : Int) < (m : Int) := by omega
        obtain ⟨b, o, rfl, hb, a', c', e0, hc', hL⟩ := H1.out.at k (by rw [← HN.out]; exact hlt)
        have a0 : wo.cell? ⟨b, o + k, none⟩ = _ := (HB.out.cell (p := ⟨b, o + k, none⟩) hb).trans e0
        have hst : ((n.take (k + 1)).map fmtR).map (·.data.toList) = ((n.take k).map fmtR).map (·.data.toList) ++ [(fmtR (n.getD k [])).data.toList] := by rw [takeD n k (by rw [← HN.out]; exact hlt) []]; simp
        have hpr := HP.out _ (getD_memS n k (by rw [← HN.out]; exact hlt) [])
        generalize n.getD k [] = r at a0 hst hpr hc' hL
        obtain ⟨q, hqq⟩ : ∃ q, q = r.length := ⟨_, rfl⟩
        rw [← hqq] at a0 hc'
        have hq1 : 1 ≤ q := by rw [hqq]; exact hpr.1.1
        have hq4 : q ≤ 4 := by rw [hqq]; exact hpr.2.1
        obtain ⟨b3, o3, rfl⟩ : ∃ b3 o3, a' = some ⟨b3, o3, none⟩ := by
          rcases hL with hL | ⟨b3, o3, e, _⟩
          · rw [hL] at hqq; simp at hqq; omega
          · exact ⟨b3, o3, e⟩
        obtain ⟨P, hP⟩ : ∃ P : ByteArray, P = if k = 0 then S else S ++ ⟨#[44]⟩ := ⟨_, rfl⟩
        have HST := Lib.hid hst
        have HPR := Lib.hid hpr
        have HQQ := Lib.hid hqq
        have HL := Lib.hid hL
        have HPP := Lib.hid hP
        have hcat := cat_any S ⟨#[44]⟩ (by show S.size + 1 ≤ _; omega)
        clear e0 hb hst hpr hqq hL hP
        go_upto_region 8 with fail
        clear a0
        obtain ⟨bk, hbk⟩ : ∃ bk, decide ((0 : Int) < (k : Int)) = bk := ⟨_, rfl⟩
        have hbk2 : decide (0 < k) = bk := by rw [← hbk]; simp
        have HBK := Lib.hid hbk2
        clear hbk hbk2
        go_upto_if 31 with fail
        rw [HBK.out]
        go_cut [5, 25] from 25 to 105 (fun s i wx => s = .string P ∧ i = .int .i64 (k : Int) ∧ wx = wo)
        case first =>
          have hP := HPP.out
          cases bk with
          | false =>
            have hk0 : k = 0 := by have := HBK.out; simp at this; exact this
            rw [if_pos hk0] at hP
            have HP0 := Lib.hid hP
            clear HPP hk0 hP
            go_wp2_with fail
            go_meet
            exact ⟨by rw [HP0.out], rfl, rfl⟩
          | true =>
            have hk0 : ¬ k = 0 := by have := HBK.out; simp at this; omega
            rw [if_neg hk0] at hP
            rw [← hP] at hcat
            clear HPP hP hk0
            go_wp2_with fail
            go_meet
            exact ⟨rfl, rfl, rfl⟩
        case rest =>
          obtain ⟨rfl, rfl, hwx⟩ := hcut
          have HBC := Lib.hid (show Below w.heap.size w wc by rw [hwx]; exact HB.out)
          have HNW := Lib.hid (lies_news (HL.out.below HBC.out))
          have HPS := Lib.hid (show P.data.toList = (if k = 0 then [] else Lib.join (((n.take k).map fmtR).map (·.data.toList)) [44] ++ [44]) ∧ P.size ≤ 8000010 by
            have hP := HPP.out
            by_cases hk0 : k = 0
            · rw [if_pos hk0] at hP ⊢
              have h0 := HSL.out
              rw [hk0] at h0
              exact ⟨by rw [hP, h0]; rfl, by rw [hP]; omega⟩
            · rw [if_neg hk0] at hP ⊢
              refine ⟨by rw [hP, ← HSL.out]; simp, ?_⟩
              rw [hP, ByteArray.size_append]
              show S.size + 1 ≤ _
              omega)
          have hbw := HBC.out.size
          clear hwx HPP HB hsz hcat
          go_upto_region 11 with (at_builtin; ((refine wpList_append_own _ rfl (.const (.slice none 0 0)) (.tmp 34) 101 rfl w.heap.size 103 i1 (.agg #[.string ⟨#[]⟩, .int .i64 0, .string ⟨#[]⟩]) 3 40 Tryz.underlying101 hi' hy0 hy1 hy2 rfl (by decide) (.slice none 0 0) 0 [] rfl (World.ownsRow_nil _ _ _ _) ⟨b3, o3, none⟩ q c' (atsCells r) rfl (by rw [atsCells_length, HQQ.out]) HNW.out (atsCells_one r) (by unfold maxLen; omega) (by omega) hbw ?_); intro v8 w3 hown3 hgr3 _; have HO3 := Lib.hid hown3; have HG3 := Lib.hid hgr3; clear hown3 hgr3))
          have HB3 := Lib.hid (show Below w.heap.size w w3 from HBC.out.grown HG3.out hbw (fun k e => by cases e))
          have HO4 := Lib.hid (show OwnA w3 w.heap.size v8 r from by
            have := HO3.out
            rw [Nat.zero_add, List.nil_append, HQQ.out] at this
            exact this)
          have hq8 : r.length ≤ 4 := HPR.out.2.1
          have HTX := Lib.hid (show ∀ S2 : ByteArray, S2.data.toList = P.data.toList ++ txtD (sortR r) → S2.data.toList = Lib.join (((n.take (k + 1)).map fmtR).map (·.data.toList)) [44] from fun S2 h2 => by
            rw [h2, HPS.out.1, HST.out, txt_sort]
            by_cases hk0 : k = 0
            · rw [if_pos hk0, hk0, List.take_zero, List.map_nil, List.map_nil, List.nil_append, List.nil_append, Lib.join_one]
            · rw [if_neg hk0, join_snoc 44 _ _ (by
                intro e
                have := congrArg List.length e
                rw [List.length_map, List.length_map, List.length_take, ← HN.out, List.length_nil] at this
                omega)]
              simp)
          clear HO3 HG3 HBC HNW hbw
          go_wp2_with fail
          go_loopw [5, 8, 9] (fun s v i wr => ∃ (D L : List At) (S2 : ByteArray), s = .string S2 ∧ i = .int .i64 (D.length : Int) ∧ S2.data.toList = P.data.toList ++ txtD D ∧ OwnA wr w.heap.size v L ∧ Picked r D L ∧ Below w.heap.size w wr) (fun _ v _ _ => lenOf v)
          case atStart => exact ⟨[], r, P, rfl, rfl, by show _ = P.data.toList ++ []; rw [List.append_nil], HO4.out, Picked.start r, HB3.out⟩
          case round =>
            obtain ⟨wi, hwi⟩ : ∃ wi, wi = wr := ⟨_, rfl⟩
            subst hwi
            obtain ⟨D, L, S2, rfl, rfl, hS2, hO, hPk, hb⟩ := hrel
            have HS2 := Lib.hid hS2
            have HOL := Lib.hid hO
            have HPK := Lib.hid hPk
            have HBI := Lib.hid hb
            have hDL := picked_size hPk
            obtain ⟨aL, cL, rfl, hcL, hLL⟩ := hO.lies
            have HLL := Lib.hid hLL
            clear hS2 hO hPk hb hLL
            by_cases hL0 : L = []
            · subst hL0
              have HDS := Lib.hid (HPK.out.done HPR.out.1.2.1)
              have HT2 := Lib.hid (HTX.out S2 (by rw [HS2.out, HDS.out]))
              clear hDL hcL
              go_wp2_with fail
              go_roundw
              case rel => exact ⟨k + 1, S2, by omega, by go_num, rfl, HT2.out, HBI.out⟩
              case measure => simp [intOf]; omega
            · obtain ⟨g, cL2, hv, hBg, hglt, hfz, hcells⟩ := HOL.out.open hL0
              obtain ⟨rfl, rfl⟩ : aL = some ⟨g, 0, none⟩ ∧ cL = cL2 := by simpa using hv
              have HCE := Lib.hid hcells
              have hN1 : 1 ≤ L.length := by
                cases L with
                | nil => exact absurd rfl hL0
                | cons _ _ => simp
              obtain ⟨N, hN⟩ : ∃ N, N = L.length := ⟨_, rfl⟩
              have HNL := Lib.hid hN
              rw [← hN] at hN1 hcL hDL ⊢
              have hd0 : decide ((0 : Int) < (N : Int)) = true := by simp; omega
              have hd1 : decide (0 < N) = true := by simp; omega
              have hsmL : SmallR L := ⟨by omega, fun j hj => by
                have hm := HPK.out.1.mem_iff.1 (List.mem_append_right D (getD_memS L j hj noAt))
                exact ⟨Nat.le_trans (HPR.out.2.2 _ hm) (by omega), Nat.le_trans (HPR.out.1.2.1 _ hm).2.2.2 (by omega)⟩⟩
              have HAT := Lib.hid (rattrs_any (some ⟨g, 0, none⟩) cL N L wi HLL.out hN hsmL (by omega))
              clear hcells hL0 hN hsmL hfz hv
              go_upto_region 16 with (go_at_call 78; (with_reducible refine HAT.out.mono ?_); rintro e w5 ⟨⟨v5, rfl, ho5⟩, hb5⟩; have HO5 := Lib.hid ho5; have HB5 := Lib.hid hb5; clear ho5 hb5)
              obtain ⟨a5, c5, rfl, hr5⟩ := HO5.out.reads
              obtain ⟨g5, o5, rfl, hc5⟩ : ∃ g5 o5, a5 = some ⟨g5, o5, none⟩ ∧ ∀ i, i < N → w5.cell? ⟨g5, o5 + i, none⟩ = some (.string (encA (L.getD i noAt))) := by
                rcases hr5 with e | ⟨g5, o5, e, hc⟩
                · have := congrArg List.length e
                  rw [List.length_map, ← HNL.out, List.length_nil] at this
                  omega
                · refine ⟨g5, o5, e, fun i hi => ?_⟩
                  rw [hc i (by rw [List.length_map, ← HNL.out]; exact hi), encs_at (by rw [← HNL.out]; exact hi)]
              rw [List.length_map, ← HNL.out]
              have HC5 := Lib.hid hc5
              clear hr5 hc5 HO5
              go_wp2_with fail
              go_loopw [10, 45] (fun l i wx => ∃ (j mm : Nat), j ≤ N ∧ i = .int .i64 (j : Int) ∧ l = .int .i64 (mm : Int) ∧ mm < N ∧ (∀ i, i < j → leA (L.getD mm noAt) (L.getD i noAt)) ∧ Below w5.heap.size w5 wx) (fun _ i _ => N - (intOf i).toNat)
              case atStart => exact ⟨0, 0, Nat.zero_le _, rfl, rfl, hN1, fun i hi => absurd hi (Nat.not_lt_zero _), Below.refl _ _⟩
              case round =>
                obtain ⟨wj, hwj⟩ : ∃ wj, wj = wr := ⟨_, rfl⟩
                subst hwj
                obtain ⟨j, mm, hj, rfl, rfl, hmm, hle, hb⟩ := hrel
                have HLE := Lib.hid hle
                have HBJ := Lib.hid hb
                clear hle hb
                by_cases hjl : j < N
                · have hdj : decide ((j : Int) < (N : Int)) = true := by simp; omega
                  have cx := (HBJ.out.cell (p := ⟨g5, o5 + j, none⟩) (block_lt (HC5.out j hjl))).trans (HC5.out j hjl)
                  have cy := (HBJ.out.cell (p := ⟨g5, o5 + mm, none⟩) (block_lt (HC5.out mm hmm))).trans (HC5.out mm hmm)
                  have HBJD := Lib.hid HBJ.out.drew
                  by_cases hless : encL (L.getD j noAt) < encL (L.getD mm noAt)
                  · have hbl : Op.bytesLess (encA (L.getD j noAt)).toList (encA (L.getD mm noAt)).toList = true := by rw [ByteArray.toList_eq, ByteArray.toList_eq]; exact (bl_iff _ _).2 hless
                    have HLE2 := Lib.hid (show ∀ i, i < j + 1 → leA (L.getD j noAt) (L.getD i noAt) from fun i hi => by
                      by_cases e : i = j
                      · rw [e]; exact List.lt_irrefl _
                      · exact (leA_of_lt hless).trans (HLE.out i (by omega)))
                    generalize encA (L.getD j noAt) = X at cx hbl
                    generalize encA (L.getD mm noAt) = Y at cy hbl
                    clear hless
                    go_wp2_with fail
                    go_region
                    go_wp2_with fail
                    go_roundw
                    case rel => exact ⟨j + 1, j, by omega, by go_num, rfl, hjl, HLE2.out, HBJD.out⟩
                    case measure => simp [intOf]; omega
                  · have hbl : Op.bytesLess (encA (L.getD j noAt)).toList (encA (L.getD mm noAt)).toList = false := by rw [ByteArray.toList_eq, ByteArray.toList_eq, ← Bool.not_eq_true, bl_iff]; exact hless
                    have HLE2 := Lib.hid (show ∀ i, i < j + 1 → leA (L.getD mm noAt) (L.getD i noAt) from fun i hi => by
                      by_cases e : i = j
                      · rw [e]; exact hless
                      · exact HLE.out i (by omega))
                    generalize encA (L.getD j noAt) = X at cx hbl
                    generalize encA (L.getD mm noAt) = Y at cy hbl
                    clear hless
                    go_wp2_with fail
                    go_region
                    go_wp2_with fail
                    go_roundw
                    case rel => exact ⟨j + 1, mm, by omega, by go_num, rfl, hmm, HLE2.out, HBJD.out⟩
                    case measure => simp [intOf]; omega
                · have hdj : decide ((j : Int) < (N : Int)) = false := by simp; omega
                  have HMIN := Lib.hid (show ∀ i, i < L.length → leA (L.getD mm noAt) (L.getD i noAt) from fun i hi => HLE.out i (by rw [← HNL.out] at hi; omega))
                  have HPKN := Lib.hid (HPK.out.next (by rw [← HNL.out]; exact hmm) HMIN.out)
                  have HBW := Lib.hid (below_next HB5.out HBJ.out)
                  obtain ⟨z0, z1, z2⟩ := HCE.out mm (by rw [← HNL.out]; exact hmm)
                  have a0 := (HBW.out.cell (p := ⟨g, mm * 3, none⟩) hglt).trans z0
                  have a1 := (HBW.out.cell (p := ⟨g, mm * 3 + 1, none⟩) hglt).trans z1
                  have a2 := (HBW.out.cell (p := ⟨g, mm * 3 + 2, none⟩) hglt).trans z2
                  clear z0 z1 z2
                  have hmem := HPK.out.1.mem_iff.1 (List.mem_append_right D (getD_memS L mm (by rw [← HNL.out]; exact hmm) noAt))
                  have htz := HPR.out.2.2 _ hmem
                  have hvz := (HPR.out.1.2.1 _ hmem).2.2.2
                  generalize L.getD mm noAt = y at a0 a1 a2 HPKN htz hvz
                  obtain ⟨ty, kd, vv⟩ := y
                  simp only at a0 a1 a2 htz hvz
                  have hmi : (mm : Int) < (N : Int) := by omega
                  obtain ⟨G, hG⟩ : ∃ G, G = wj.heap.size := ⟨_, rfl⟩
                  obtain ⟨V1, hV1⟩ : ∃ V1, V1 = wj.alloc (.cells #[.string ty, .int .i64 kd, .string vv] 103) := ⟨_, rfl⟩
                  have hbV : Below wj.heap.size wj V1 := by rw [hV1]; exact belowNew wj _
                  obtain ⟨y0, y1, y2, _, _, _, yl⟩ := at_facts (show V1.heap[G]? = _ from by rw [hV1, hG]; exact heap_alloc_new wj _)
                  have HY0 := Lib.hid y0
                  have HY2 := Lib.hid y2
                  have HBV := Lib.hid (below_next HBW.out hbV)
                  have HVE := Lib.hid hV1.symm
                  have HGE := Lib.hid hG
                  obtain ⟨p2, hsl2, hp2⟩ := slice_from g N cL mm (by omega) hcL
                  have hsl1 := slice_to g N cL mm (by omega)
                  have HTK := Lib.hid (take_news (HLL.out.below HBV.out) mm)
                  have HDR := Lib.hid (drop_news (p := p2) (HLL.out.below HBV.out) (fun e => hp2 (by rw [HNL.out]; exact e)))
                  clear hp2 hV1 hbV hG hmem
                  go_upto_region 23 with fail
                  rw [HVE.out, ← HGE.out]
                  clear a0 a1 a2
                  have hbw1 : w.heap.size ≤ V1.heap.size := Nat.le_trans HBI.out.size HBV.out.size
                  have hgw : IntKind.i64.wrap ((mm : Int) + 1) = (mm : Int) + 1 := by rw [wrap_i64]; omega
                  have hmc : mm ≤ cL := by omega
                  have htl : (L.take mm).length = mm := by rw [List.length_take, ← HNL.out]; omega
                  have hdl : (L.drop (mm + 1)).length = N - (mm + 1) := by rw [List.length_drop, ← HNL.out]
                  have HTL := Lib.hid htl
                  have HDLL := Lib.hid hdl
                  clear htl hdl y0 y1 y2 yl
                  have hv1 : V1.heap.size ≤ V1.heap.size := Nat.le_refl _
                  go_region_law (first
                    | (refine step_append3 rfl (.const (.slice none 0 0)) (.tmp 65) 101 rfl V1.heap.size 103 i1 (.agg #[.string ⟨#[]⟩, .int .i64 0, .string ⟨#[]⟩]) 3 40 Tryz.underlying101 hi' hy0 hy1 hy2 rfl (by decide) (.slice none 0 0) 0 [] (by simp [Act.eval]) (World.ownsRow_nil _ _ _ _) ⟨g, 0, none⟩ mm cL (atsCells (L.take mm)) (by simp [Act.eval, Act.put]) (by rw [atsCells_length, HTL.out]) (HTK.out _ (by first | exact Below.refl _ _ | exact (Below.refl _ _).drew)) (atsCells_one _) (by unfold maxLen; omega) (by omega) (by first | exact hv1 | (simp; done)) ?_; intro v1 w8 ho1 hg1; have HO1 := Lib.hid ho1; have HB8 := Lib.hid (show Below V1.heap.size V1 w8 from by first | exact (Below.refl _ V1).grown hg1 (Nat.le_refl _) (fun k e => by cases e) | exact ((Below.refl V1.heap.size V1).drew).grown hg1 (by simp) (fun k e => by cases e)); clear ho1 hg1)
                    | (refine step_append3 rfl (.tmp 66) (.tmp 70) 101 rfl V1.heap.size 103 i1 (.agg #[.string ⟨#[]⟩, .int .i64 0, .string ⟨#[]⟩]) 3 40 Tryz.underlying101 hi' hy0 hy1 hy2 rfl (by decide) v1 (0 + mm) ([] ++ atsCells (L.take mm)) (by simp [Act.eval]) HO1.out p2 (N - (mm + 1)) (cL - (mm + 1)) (atsCells (L.drop (mm + 1))) (by simp [Act.eval]) (by rw [atsCells_length, HDLL.out]) (HDR.out _ HB8.out) (atsCells_one _) (by unfold maxLen; omega) (by omega) HB8.out.size ?_; intro v2 w9 ho2 hg2; have HO2 := Lib.hid ho2; have HB9 := Lib.hid (show Below V1.heap.size V1 w9 from HB8.out.grown hg2 HB8.out.size (fun k e => (World.ownsRow.lt HO1.out k e).1)); clear ho2 hg2))
                  all_goals
                    have HO4 := Lib.hid (show OwnA w9 V1.heap.size v2 (L.take mm ++ L.drop (mm + 1)) from by
                      have := HO2.out
                      unfold OwnA
                      rw [List.length_append, HTL.out, HDLL.out, atsCells_append]
                      rw [Nat.zero_add, List.nil_append] at this
                      exact this)
                    have HLEN := Lib.hid (show (L.take mm ++ L.drop (mm + 1)).length = N - 1 from by rw [List.length_append, HTL.out, HDLL.out]; omega)
                    obtain ⟨a9, c9, rfl, _, _⟩ := HO4.out.lies
                    rw [HLEN.out]
                    obtain ⟨P2, hP2⟩ : ∃ P2 : ByteArray, P2 = if D = [] then S2 else S2 ++ ⟨#[43]⟩ := ⟨_, rfl⟩
                    have HP2 := Lib.hid hP2
                    have hs2z : S2.size ≤ 9000000 := by
                      have h1 : S2.size = S2.data.toList.length := rfl
                      have h2 := txtD_len (D := D) (fun a ha => by
                        have hm := HPK.out.1.mem_iff.1 (List.mem_append_left L ha)
                        exact ⟨HPR.out.2.2 _ hm, (HPR.out.1.2.1 _ hm).2.2.2⟩)
                      have h3 := HPS.out.2
                      have h4 : P.data.toList.length = P.size := rfl
                      rw [h1, HS2.out, List.length_append]
                      omega
                    have hcat := cat_any S2 ⟨#[43]⟩ (by show S2.size + 1 ≤ _; omega)
                    obtain ⟨bd, hbd⟩ : ∃ bd, decide (0 < D.length) = bd := ⟨_, rfl⟩
                    have HBD := Lib.hid hbd
                    clear HO1 HB8 HO2 HTK HDR hP2 hbd hsl1 hsl2 hgw
                    go_upto_if 73 with fail
                    rw [HBD.out]
                    go_cut [5] from 36 to 104 (fun s wx => s = .string P2 ∧ Below w9.heap.size w9 wx)
                    case first =>
                      have hP := HP2.out
                      cases bd with
                      | false =>
                        have hk0 : D = [] := List.eq_nil_of_length_eq_zero (by have := HBD.out; simp at this; simpa using this)
                        rw [if_pos hk0] at hP
                        have HP0 := Lib.hid hP
                        clear HP2 hk0 hP hcat
                        go_wp2_with fail
                        go_meet
                        exact ⟨by rw [HP0.out], by first | exact Below.refl _ _ | exact (Below.refl _ _).drew⟩
                      | true =>
                        have hk0 : ¬ D = [] := fun e => by have := HBD.out; rw [e] at this; simp at this
                        rw [if_neg hk0] at hP
                        rw [← hP] at hcat
                        clear HP2 hP hk0
                        go_wp2_with fail
                        go_meet
                        exact ⟨rfl, by first | exact Below.refl _ _ | exact (Below.refl _ _).drew⟩
                    case rest =>
                      obtain ⟨rfl, hbx⟩ := hcut
                      have HBX := Lib.hid hbx
                      have HVC := Lib.hid (below_next HB9.out hbx)
                      have hG1 := block_lt HY0.out
                      have y0 := (HVC.out.cell (p := ⟨G, 0, none⟩) hG1).trans HY0.out
                      clear hbx
                      have HSH := Lib.hid (rshort_any wc)
                      obtain ⟨gs, hgs⟩ : ∃ gs, gs = wc.heap.size := ⟨_, rfl⟩
                      obtain ⟨W4, hW4⟩ : ∃ W4, W4 = wc.alloc (.cells shArr 9) := ⟨_, rfl⟩
                      have hb4 : Below wc.heap.size wc W4 := by rw [hW4]; exact belowNew wc _
                      have hq4s : W4.heap[gs]? = some (.cells shArr 9 (0, 0)) := by rw [hW4, hgs]; exact heap_alloc_new wc _
                      rw [← hgs, ← hW4] at HSH
                      have HQ4 := Lib.hid hq4s
                      have hgs4 : gs < W4.heap.size := (Array.getElem?_eq_some_iff.1 hq4s).1
                      have HV4 := Lib.hid (below_next HVC.out hb4)
                      have HB94 := Lib.hid (below_next HBX.out hb4)
                      clear hgs hW4 hb4 hq4s
                      go_wp2_with (go_at_call 93; (with_reducible refine HSH.out.mono ?_); rintro e w10 ⟨rfl, hw10⟩; rw [hw10]; clear hw10)
                      clear y0
                      go_loopw [14, 16] (fun t i wx => ∃ (z e : Nat), z ≤ 7 ∧ e = 2 * z ∧ i = .int .i64 (e : Int) ∧ t = .string (stS ty z) ∧ Below W4.heap.size W4 wx) (fun _ i _ => 14 - (intOf i).toNat)
                      case atStart => exact ⟨0, 0, Nat.zero_le _, rfl, rfl, rfl, Below.refl _ _⟩
                      case round =>
                        obtain ⟨wz, hwz⟩ : ∃ wz, wz = wr := ⟨_, rfl⟩
                        subst hwz
                        obtain ⟨z, e, hz7, hez, rfl, rfl, hb⟩ := hrel
                        have HBZ := Lib.hid hb
                        have HEZ := Lib.hid hez
                        clear hb
                        have y0 := (HBZ.out.cell (p := ⟨G, 0, none⟩) (Nat.lt_of_lt_of_le hG1 HV4.out.size)).trans ((HV4.out.cell (p := ⟨G, 0, none⟩) hG1).trans HY0.out)
                        have y2 := (HBZ.out.cell (p := ⟨G, 2, none⟩) (Nat.lt_of_lt_of_le hG1 HV4.out.size)).trans ((HV4.out.cell (p := ⟨G, 2, none⟩) hG1).trans HY2.out)
                        by_cases hzl : z < 7
                        · have hd1 : decide ((e : Int) < 14) = true := by simp; omega
                          have he14 : (e : Int) < 14 := by omega
                          have he15 : (e : Int) + 1 < 14 := by omega
                          have hew : IntKind.i64.wrap ((e : Int) + 1) = (e : Int) + 1 := by rw [wrap_i64]; omega
                          obtain ⟨sa, sb⟩ := shArr_at z hzl
                          rw [← HEZ.out] at sa sb
                          have k0 : wz.cell? ⟨gs, e, none⟩ = some (.string (SH.getD z (⟨#[]⟩, ⟨#[]⟩)).1) := (HBZ.out.cell (p := ⟨gs, e, none⟩) hgs4).trans (by rw [Lib.cell_of_heap HQ4.out]; exact sa)
                          have k1 : wz.cell? ⟨gs, e + 1, none⟩ = some (.string (SH.getD z (⟨#[]⟩, ⟨#[]⟩)).2) := (HBZ.out.cell (p := ⟨gs, e + 1, none⟩) hgs4).trans (by rw [Lib.cell_of_heap HQ4.out]; exact sb)
                          have HSTP := Lib.hid (show stS ty (z + 1) = if (SH.getD z (⟨#[]⟩, ⟨#[]⟩)).2 = ty then (SH.getD z (⟨#[]⟩, ⟨#[]⟩)).1 else stS ty z from rfl)
                          obtain ⟨u, hu⟩ : ∃ u, u = (SH.getD z (⟨#[]⟩, ⟨#[]⟩)).1 := ⟨_, rfl⟩
                          obtain ⟨x, hx⟩ : ∃ x, x = (SH.getD z (⟨#[]⟩, ⟨#[]⟩)).2 := ⟨_, rfl⟩
                          rw [← hu] at k0 HSTP
                          rw [← hx] at k1 HSTP
                          clear hu hx sa sb hez
                          by_cases hxt : x = ty
                          · have hbq : (x.toList == ty.toList) = true := by rw [beq_str]; exact decide_eq_true hxt
                            have HF := Lib.hid (show stS ty (z + 1) = u by rw [HSTP.out, if_pos hxt])
                            clear hxt
                            go_wp2_with fail
                            go_region
                            go_wp2_with fail
                            go_roundw
                            case rel => exact ⟨z + 1, e + 2, by omega, by have := HEZ.out; omega, by go_num, by rw [HF.out], HBZ.out.drew⟩
                            case measure => simp [intOf]; omega
                          · have hbq : (x.toList == ty.toList) = false := by rw [beq_str]; exact decide_eq_false hxt
                            have HF := Lib.hid (show stS ty (z + 1) = stS ty z by rw [HSTP.out, if_neg hxt])
                            clear hxt
                            go_wp2_with fail
                            go_region
                            go_wp2_with fail
                            go_roundw
                            case rel => exact ⟨z + 1, e + 2, by omega, by have := HEZ.out; omega, by go_num, by rw [HF.out], HBZ.out.drew⟩
                            case measure => simp [intOf]; omega
                        · have hz : z = 7 := by omega
                          have he14 : e = 14 := by omega
                          have HSTS := Lib.hid (show stS ty z = shortO ty by rw [hz]; exact stS_short ty)
                          rw [HSTS.out]
                          have hd1 : decide ((e : Int) < 14) = false := by simp; omega
                          clear hz he14 hez
                          have hsz := shortO_size ty
                          have hez2 := escS_size vv
                          have HES := Lib.hid (fun W => resc_any vv W (by omega))
                          obtain ⟨T, hT⟩ : ∃ T, T = shortO ty := ⟨_, rfl⟩
                          obtain ⟨U, hU⟩ : ∃ U, U = escS vv := ⟨_, rfl⟩
                          have HFA := Lib.hid (show (T ++ (⟨#[61]⟩ : ByteArray) ++ U).data.toList = (fmtA (ty, kd, vv)).data.toList from by
                            rw [hT, hU]
                            simp [escS, fmtA, strOf])
                          rw [← hT] at hsz ⊢
                          rw [← hU] at hez2 HES
                          have hp2z : P2.size ≤ 9000001 := by
                            rw [HP2.out]
                            split
                            · omega
                            · rw [ByteArray.size_append]; show S2.size + 1 ≤ _; omega
                          have ht1 : T.size ≤ 200002 := by omega
                          have hu1 : U.size ≤ 192 := by omega
                          have q1 := cat_any T ⟨#[61]⟩ (by show T.size + 1 ≤ _; omega)
                          have q2 := cat_any (T ++ ⟨#[61]⟩) U (by rw [ByteArray.size_append]; show T.size + 1 + U.size ≤ _; omega)
                          have q3 := cat_any P2 (T ++ ⟨#[61]⟩ ++ U) (by rw [ByteArray.size_append, ByteArray.size_append]; show P2.size + (T.size + 1 + U.size) ≤ _; omega)
                          have HTXT := Lib.hid (show (P2 ++ (T ++ (⟨#[61]⟩ : ByteArray) ++ U)).data.toList = P.data.toList ++ txtD (D ++ [(ty, kd, vv)]) from by
                            have e1 : (P2 ++ (T ++ (⟨#[61]⟩ : ByteArray) ++ U)).data.toList = P2.data.toList ++ (T ++ (⟨#[61]⟩ : ByteArray) ++ U).data.toList := by simp
                            rw [e1, HFA.out, HP2.out]
                            by_cases hD : D = []
                            · rw [if_pos hD, HS2.out, hD, List.nil_append, txtD_one]
                              show P.data.toList ++ [] ++ _ = _
                              rw [List.append_nil]
                            · rw [if_neg hD, txtD_snoc _ hD]
                              have e2 : (S2 ++ (⟨#[43]⟩ : ByteArray)).data.toList = S2.data.toList ++ [43] := by simp
                              rw [e2, HS2.out]
                              simp)
                          have HLL9 := Lib.hid (show (D ++ [(ty, kd, vv)]).length = D.length + 1 by simp)
                          obtain ⟨S3, hS3⟩ : ∃ S3, S3 = P2 ++ (T ++ (⟨#[61]⟩ : ByteArray) ++ U) := ⟨_, rfl⟩
                          rw [← hS3] at q3 HTXT
                          have hOW := HO4.out
                          rw [HLEN.out] at hOW
                          have HOW := Lib.hid ((hOW.base (B' := w.heap.size) hbw1).below (HB94.out.trans (HBZ.out.mono HB94.out.size)))
                          have HBF := Lib.hid (show Below w.heap.size w wz from HBI.out.trans ((HBV.out.trans ((HV4.out.trans (HBZ.out.mono HV4.out.size)).mono HBV.out.size)).mono HBI.out.size))
                          clear hT hU hsz hez2 hp2z ht1 hu1 hS3 hOW hs2z
                          go_wp2_with (go_at_call 52; (with_reducible refine (HES.out _).mono ?_); rintro e w11 ⟨rfl, hb11⟩; have HB11 := Lib.hid hb11; clear hb11)
                          go_roundw
                          case rel => exact ⟨D ++ [(ty, kd, vv)], L.take mm ++ L.drop (mm + 1), S3, rfl, by rw [HLL9.out]; go_num, HTXT.out, HOW.out.below HB11.out, HPKN.out, below_next HBF.out HB11.out⟩
                          case measure => simp [lenOf]; omega
      · have hd : decide ((k : Int) < (m : Int)) = false := by simp; omega
        have HF := Lib.hid (show S = V by
          rw [HV.out]
          apply ext_list_t
          rw [HSL.out, List.take_of_length_le (by rw [← HN.out]; omega)]
          rfl)
        go_wp2_with fail
        go_ret2
        exact ⟨by rw [← HF.out]; rfl, HB.out⟩
  · have hz1 := errno_ne hz
    have HV := Lib.hid (show V = ⟨#[]⟩ by rw [hV]; unfold fmtV; rw [← hE, if_neg hz])
    clear hE hV hn hs h hW0 hb0 hq0 ht
    rw [HV.out]
    go_enter Tryz.func54, Tryz.ntmps54
    go_wp2_with (go_at_call 76; (with_reducible refine HC.out.mono ?_); rintro e w1 ⟨rfl, hb1⟩; have HB1 := Lib.hid (below_next HB0.out hb1); clear hb1)
    go_ret2
    exact ⟨rfl, HB1.out⟩
end Go.Proofs.YtflpajbcomhkpaaGreatDoor
