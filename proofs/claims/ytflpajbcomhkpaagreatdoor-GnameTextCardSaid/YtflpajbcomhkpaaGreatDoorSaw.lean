/-
  The contract of Encode: the element of a name, or the error of Check.
  The contract of the reference's CheckName: the same first error.
  The contracts of the reference's attributes and EncodeName: the same element.
  The contract of the reference's EncodeName: the same element as Encode returns, or the same error.
  General names: what Check, Encode, Same, Match and Within answer, said over a kind, a text and a name. Nothing is claimed of the program here.
-/
import Derived.Test.YtflpajbcomhkpaaGreatDoorSav
import Derived.Test.YtflpajbcomhkpaaGreatDoorSak
import Derived.Test.YtflpajbcomhkpaaGreatDoorSan
import Derived.Test.YtflpajbcomhkpaaGreatDoorSae
import Derived.Test.YtflpajbcomhkpaaGreatDoorSal
import Derived.Test.YtflpajbcomhkpaaGreatDoorSao
import Derived.Test.YtflpajbcomhkpaaGreatDoorSap
namespace Go.Proofs.YtflpajbcomhkpaaGreatDoor
open Go.RowKit

theorem chkRs_zero : ∀ {n : Nm}, chkRs n = 0 → ∀ i, i < n.length → chkR (n.getD i []) = 0
  | [], _, i, hi => absurd hi (Nat.not_lt_zero _)
  | r :: n, h, i, hi => by
    unfold chkRs at h
    by_cases hr : chkR r = 0
    · rw [if_pos hr] at h
      cases i with
      | zero => exact hr
      | succ i => exact chkRs_zero h i (by simpa using hi)
    · rw [if_neg hr] at h
      exact absurd h hr
theorem chkN_zero {n : Nm} (h : chkN n = 0) : n.length ≤ 8 ∧ ∀ i, i < n.length → chkR (n.getD i []) = 0 := by
  unfold chkN at h
  split at h
  · cases h
  · exact ⟨by omega, chkRs_zero h⟩
theorem chkR_zero {r : List At} (h : chkR r = 0) : 1 ≤ r.length ∧ r.length ≤ 4 ∧ chkL [] r = 0 := by
  unfold chkR at h
  split at h
  · cases h
  · split at h
    · cases h
    · exact ⟨by omega, by omega, h⟩
/-- What Encode answers. -/
noncomputable def encV (n : Nm) : ByteArray := if chkN n = 0 then encN n else ⟨#[]⟩
set_option maxRecDepth 100000 in
set_option maxHeartbeats 4000000 in
theorem encode_core (a0 : Option Addr) (c m : Nat) (n : Nm) (w : World) (h : RLies w a0 n) (hn : m = n.length) (hs : SmallN n) (hT : Tab w) :
    Calls Tryz.prog 61 #[.agg #[.slice a0 m c]] w fun e w' => e = .returned (.tuple #[.string (encV n), .int .i64 ((chkN n : Nat) : Int)]) ∧ Below w.heap.size w w' := by
  obtain ⟨W0, hW0⟩ : ∃ W0, W0 = w.alloc (.cells #[.slice a0 m c] 30) := ⟨_, rfl⟩
  have hwr : w.alloc (.cells #[.slice a0 m c] 30) = W0 := hW0.symm
  have hb0 : Below w.heap.size w W0 := by rw [hW0]; exact belowNew w _
  have hq0 : W0.heap[w.heap.size]? = some (.cells #[.slice a0 m c] 30 (0, 0)) := by rw [hW0]; exact heap_alloc_new w _
  have hz0 : W0.heap.size = w.heap.size + 1 := by rw [hW0]; simp
  have HC := Lib.hid (chk_core a0 c m n W0 (h.below hb0) hn hs (hT.below hb0))
  obtain ⟨E, hE⟩ : ∃ E, E = chkN n := ⟨_, rfl⟩
  obtain ⟨V, hV⟩ : ∃ V, V = encV n := ⟨_, rfl⟩
  rw [← hE] at HC ⊢
  rw [← hV]
  have HB0 := Lib.hid hb0
  have HQ0 := Lib.hid hq0
  obtain ⟨c0, f0, l0⟩ := one_facts hq0
  by_cases hz : E = 0
  · have hch := chkN_zero (hE.symm.trans hz)
    have HV := Lib.hid (show V = wrapStr 48 (cat_t (n.map encR)) by rw [hV]; unfold encV; rw [← hE, if_pos hz]; rfl)
    have H1 := Lib.hid h
    have HN := Lib.hid hn
    have HS := Lib.hid hs
    have HCH := Lib.hid hch.2
    have hm8 : m ≤ 8 := by rw [hn]; exact hch.1
    have hmk := strs_make m (by omega)
    have HDW := Lib.hid (fun g W (hv : Reads W (.slice (some ⟨g, 0, none⟩) m m) (n.map encR)) => dwrap_any 48 _ m m (n.map encR) W hv (by rw [List.length_map, ← hn]; omega))
    subst hz
    clear hE hV hn hs hch h hT hW0 hb0 hq0
    go_enter Tryz.func61, Tryz.ntmps61
    go_wp2_with (go_at_call 83; (with_reducible refine HC.out.mono ?_); rintro e w1 ⟨rfl, hb1⟩; have HB1 := Lib.hid (below_next HB0.out hb1); have hq1 := (hb1.block w.heap.size l0).trans HQ0.out; have HQ1 := Lib.hid hq1; obtain ⟨c1, f1, l1⟩ := one_facts hq1; clear hb1 hq1)
    obtain ⟨W2, hW2⟩ : ∃ W2, W2 = w1.alloc (.cells (rowT m []) 9) := ⟨_, rfl⟩
    have hb2 : Below w1.heap.size w1 W2 := by rw [hW2]; exact belowNew w1 _
    have hq2 : W2.heap[w1.heap.size]? = some (.cells (rowT m []) 9 (0, 0)) := by rw [hW2]; exact heap_alloc_new w1 _
    rw [← hW2]
    obtain ⟨g, hg⟩ : ∃ g, g = w1.heap.size := ⟨_, rfl⟩
    rw [← hg] at hq2 ⊢
    have HB2 := Lib.hid (below_next HB1.out hb2)
    have HQ2 := Lib.hid hq2
    have hwg : w.heap.size ≤ g := by rw [hg]; exact HB1.out.size
    clear hmk hb2 hq2 hW2 hg c0 f0 l0 c1 f1 l1 hwr
    go_loopw [20] (fun i wr => ∃ k : Nat, k ≤ m ∧ i = .int .i64 (k : Int) ∧ wr.heap[g]? = some (.cells (rowT m ((n.take k).map encR)) 9 (0, 0)) ∧ Below w.heap.size w wr) (fun i _ => m - (intOf i).toNat)
    case atStart => exact ⟨0, Nat.zero_le _, rfl, HQ2.out, HB2.out⟩
    case round =>
      obtain ⟨k, hk, rfl, hq, hb⟩ := hrel
      have HB := Lib.hid hb
      have HQ := Lib.hid hq
      clear hb hq
      by_cases hlt : k < m
      · have hd : decide ((k : Int) < (m : Int)) = true := by simp; omega
        obtain ⟨b, o, rfl, hb, a', c', e0, hc', hL⟩ := H1.out.at k (by rw [← HN.out]; exact hlt)
        have a0 : wr.cell? ⟨b, o + k, none⟩ = _ := (HB.out.cell (p := ⟨b, o + k, none⟩) hb).trans e0
        have hst : (n.take (k + 1)).map encR = (n.take k).map encR ++ [encR (n.getD k [])] := by rw [takeD n k (by rw [← HN.out]; exact hlt) []]; simp
        have hsm := HS.out.2 k (by rw [← HN.out]; exact hlt)
        have hrz := (chkR_zero (HCH.out k (by rw [← HN.out]; exact hlt))).2.1
        generalize n.getD k [] = r at a0 hst hsm hc' hL hrz
        obtain ⟨q, hqq⟩ : ∃ q, q = r.length := ⟨_, rfl⟩
        rw [← hqq] at a0 hc'
        have HEN := Lib.hid (encrel_any a' c' q r wr (hL.below HB.out) hqq hsm (by omega))
        obtain ⟨s, hs⟩ : ∃ s, s = encR r := ⟨_, rfl⟩
        rw [← hs] at HEN hst
        have HST := Lib.hid hst
        have HLL := Lib.hid (show k = ((n.take k).map encR).length by rw [List.length_map, List.length_take, ← HN.out]; omega)
        have hgl : g < wr.heap.size := (Array.getElem?_eq_some_iff.1 HQ.out).1
        clear e0 hb hsm hs hst hrz hqq hL hc'
        go_wp2_with (go_at_call 102; (with_reducible refine HEN.out.mono ?_); rintro e w3 ⟨rfl, hb3⟩; have hq3 := (hb3.block g hgl).trans HQ.out; have HQ3 := Lib.hid hq3; have HB3 := Lib.hid (below_next HB.out hb3); obtain ⟨cv, hcv⟩ := rowT_at m ((n.take k).map encR) (by have := HLL.out; omega) k hlt; have hcell : w3.cell? ⟨g, k, none⟩ = some cv := (by rw [Lib.cell_of_heap hq3]; exact hcv); have hfz : w3.frozen? ⟨g, k, none⟩ = false := Lib.frozen_of_heap hq3 k; clear hb3 hq3 hcv)
        go_roundw
        case rel => exact ⟨k + 1, by omega, by go_num, by rw [HST.out]; exact row_put HQ3.out HLL.out hlt, HB3.out.setCell (p := ⟨g, k, none⟩) hwg _⟩
        case measure => simp [intOf]; omega
      · have hd : decide ((k : Int) < (m : Int)) = false := by simp; omega
        have hR := row_reads HQ.out (by rw [List.length_map, List.length_take, ← HN.out]; omega)
        rw [List.take_of_length_le (by rw [← HN.out]; omega)] at hR
        have HR := Lib.hid (HDW.out _ _ hR)
        rw [← HV.out] at HR
        clear hR
        go_wp2_with (go_at_call 103; (with_reducible refine HR.out.mono ?_); rintro e w1 ⟨rfl, hb1⟩; have HB1 := Lib.hid (below_next HB.out hb1); clear hb1)
        go_ret2
        exact ⟨rfl, HB1.out⟩
  · have hz1 := errno_ne hz
    have HV := Lib.hid (show V = ⟨#[]⟩ by rw [hV]; unfold encV; rw [← hE, if_neg hz])
    clear hE hV hn hs h hT hW0 hb0 hq0
    rw [HV.out]
    go_enter Tryz.func61, Tryz.ntmps61
    go_wp2_with (go_at_call 83; (with_reducible refine HC.out.mono ?_); rintro e w1 ⟨rfl, hb1⟩; have HB1 := Lib.hid (below_next HB0.out hb1); clear hb1)
    go_ret2
    exact ⟨rfl, HB1.out⟩
end Go.Proofs.YtflpajbcomhkpaaGreatDoor
namespace Go.Proofs.YtflpajbcomhkpaaGreatDoor
open Go.RowKit

set_option maxRecDepth 100000 in
set_option maxHeartbeats 4000000 in
theorem rchk_core (a0 : Option Addr) (c m : Nat) (n : Nm) (w : World) (h : RLies w a0 n) (hn : m = n.length) (hs : SmallN n) :
    Calls Tryz.prog 76 #[.agg #[.slice a0 m c]] w fun e w' => e = .returned (.int .i64 ((chkN n : Nat) : Int)) ∧ Below w.heap.size w w' := by
  by_cases h4 : 8 < m
  · have e : chkN n = 2 := by unfold chkN; rw [if_pos (by omega)]
    have d4 : decide ((8 : Int) < (m : Int)) = true := by simp; omega
    rw [e]
    clear e hn h hs h4
    go_enter Tryz.func76, Tryz.ntmps76
    go_wp2_with fail
    go_ret
    exact ⟨rfl, belowNew w _⟩
  have d4 : decide ((8 : Int) < (m : Int)) = false := by simp; omega
  have e : chkN n = chkRs n := by unfold chkN; rw [if_neg (by omega)]
  rw [e]
  have hL : m ≤ 1000000 := by omega
  obtain ⟨E, hE⟩ : ∃ E, E = chkRs n := ⟨_, rfl⟩
  rw [← hE]
  have HE := Lib.hid hE
  have H1 := Lib.hid h
  have HN := Lib.hid hn
  have HS := Lib.hid hs
  clear h hn hs e hE h4
  go_enter Tryz.func76, Tryz.ntmps76
  go_wp2_with fail
  go_loopw [13] (fun i wr => ∃ k : Nat, k ≤ m ∧ i = .int .i64 k ∧ E = chkRs (n.drop k) ∧ Below w.heap.size w wr) (fun i _ => m - (intOf i).toNat)
  case atStart => exact ⟨0, Nat.zero_le _, rfl, by rw [List.drop_zero]; exact HE.out, belowNew w _⟩
  case round =>
    obtain ⟨k, hk, rfl, hA, hb⟩ := hrel
    have HB := Lib.hid hb
    have HA := Lib.hid hA
    clear hb hA
    by_cases hlt : k < m
    · have hd : decide ((k : Int) < (m : Int)) = true := by simp; omega
      obtain ⟨b, o, rfl, hb, a', c', c0, hc', hL2⟩ := H1.out.at k (by rw [← HN.out]; exact hlt)
      have a0 : wr.cell? ⟨b, o + k, none⟩ = _ := (HB.out.cell (p := ⟨b, o + k, none⟩) hb).trans c0
      have HST := Lib.hid (chkRs_step n k (by rw [← HN.out]; exact hlt))
      have hsm := HS.out.2 k (by rw [← HN.out]; exact hlt)
      generalize n.getD k [] = r at a0 HST hsm hc' hL2
      obtain ⟨q, hq⟩ : ∃ q, q = r.length := ⟨_, rfl⟩
      rw [← hq] at a0 hc'
      have HCK := Lib.hid (rchkL_any a' c' q r wr (hL2.below HB.out) hq hsm)
      by_cases hq0 : q = 0
      · have e : chkR r = 14 := by unfold chkR; rw [if_pos (by omega)]
        have HF := Lib.hid (show E = 14 by rw [HA.out, HST.out, e]; rfl)
        have dq : ((q : Int) == 0) = true := beq_iff_eq.2 (by omega)
        clear c0 hb hsm hq hL2 hc' HCK e hq0 HST
        go_wp2_with fail
        go_ret
        exact ⟨by rw [HF.out]; rfl, HB.out⟩
      have dq : ((q : Int) == 0) = false := beq_eq_false_iff_ne.2 (by omega)
      by_cases hq4 : 4 < q
      · have e : chkR r = 2 := by unfold chkR; rw [if_neg (by omega), if_pos (by omega)]
        have HF := Lib.hid (show E = 2 by rw [HA.out, HST.out, e]; rfl)
        have dq4 : decide ((4 : Int) < (q : Int)) = true := by simp; omega
        clear c0 hb hsm hq hL2 hc' HCK e hq0 HST hq4
        go_wp2_with fail
        go_ret
        exact ⟨by rw [HF.out]; rfl, HB.out⟩
      have dq4 : decide ((4 : Int) < (q : Int)) = false := by simp; omega
      have e : chkR r = chkL [] r := by unfold chkR; rw [if_neg (by omega), if_neg (by omega)]
      obtain ⟨Z, hZ⟩ : ∃ Z, Z = chkL [] r := ⟨_, rfl⟩
      rw [← hZ] at e HCK
      rw [e] at HST
      clear c0 hb hsm hZ hq hL2 hc' hq0 hq4 e
      by_cases hz : Z = 0
      · subst hz
        have HF := Lib.hid (show E = chkRs (n.drop (k + 1)) by rw [HA.out, HST.out, if_pos rfl])
        go_wp2_with (go_at_call 120; (with_reducible refine HCK.out.mono ?_); rintro e w1 ⟨rfl, hb1⟩; have HB1 := Lib.hid (below_next HB.out hb1); clear hb1)
        go_roundw
        case rel => exact ⟨k + 1, by omega, by go_num, HF.out, HB1.out⟩
        case measure => simp [intOf]; omega
      · have HF := Lib.hid (show E = Z by rw [HA.out, HST.out, if_neg hz])
        have hz1 := errno_ne hz
        go_wp2_with (go_at_call 120; (with_reducible refine HCK.out.mono ?_); rintro e w1 ⟨rfl, hb1⟩; have HB1 := Lib.hid (below_next HB.out hb1); clear hb1)
        go_ret
        exact ⟨by rw [HF.out]; rfl, HB1.out⟩
    · have hd : decide ((k : Int) < (m : Int)) = false := by simp; omega
      have HF := Lib.hid (show E = 0 by rw [HA.out, chkRs_end _ _ (by rw [← HN.out]; omega)])
      go_wp2_with fail
      go_ret
      exact ⟨by rw [HF.out]; rfl, HB.out⟩
end Go.Proofs.YtflpajbcomhkpaaGreatDoor
namespace Go.Proofs.YtflpajbcomhkpaaGreatDoor
open Go.RowKit

theorem OwnT.reads {w : World} {B : Nat} {v : Value} {ss : List ByteArray} (h : OwnT w B v ss) : Reads w v ss := by
  rcases h.2 with ⟨hv, h0⟩ | ⟨g, cap, cur, hv, hB, hg, hn, _, hcs, htk⟩
  · exact ⟨none, 0, by rw [hv, h0], .inl (List.eq_nil_of_length_eq_zero h0)⟩
  · refine ⟨_, cap, hv, .inr ⟨g, 0, rfl, fun j hj => ?_⟩⟩
    rw [cell_of_row w g _ _ _ _ hg]
    have : (cur.toList.take (ss.length * 1))[j]? = some (.string ss[j]) := by rw [htk]; simp [hj]
    rw [List.getElem?_take_of_lt (by omega)] at this
    rw [List.getD_eq_getElem?_getD, List.getElem?_eq_getElem hj, Nat.zero_add]
    simpa using this
theorem strT_next {w wr w1 w2 : World} {B : Nat} {v v' : Value} {D : List ByteArray} {y : ByteArray} (hB : w.heap.size ≤ B) (hown : OwnT wr B v D) (hb : Below w.heap.size w wr) (hb1 : Below wr.heap.size wr w1)
    (hown2 : w2.ownsRow B 9 1 v' (D.length + 1) (D.map Value.string ++ [.string y])) (hgr2 : w1.grownBy w2 v.ownBlock) : OwnT w2 B v' (D ++ [y]) ∧ Below w.heap.size w w2 := by
  have h1 := hb.size
  have h2 := hb1.size
  refine ⟨?_, ?_⟩
  · unfold OwnT
    rw [List.length_append, List.map_append]; exact hown2
  · exact (hb.trans (hb1.mono h1)).grown hgr2 (by omega) (fun k e => Nat.le_trans hB (World.ownsRow.lt hown k e).1)
set_option maxRecDepth 100000 in
set_option maxHeartbeats 8000000 in
theorem rattrs_any (a0 : Option Addr) (c n : Nat) (l : List At) (w : World) (h : ALies w a0 l) (hn : n = l.length) (hs : SmallR l) (hl : n ≤ 1000) :
    Calls Tryz.prog 78 #[.slice a0 n c] w fun e w' => (∃ v, e = .returned v ∧ OwnT w' w.heap.size v (l.map encA)) ∧ Below w.heap.size w w' := by
  obtain ⟨i0, hi, hz0, hz1, hz2⟩ := info_parts strInfo2
  have H1 := Lib.hid h
  have HN := Lib.hid hn
  have HS := Lib.hid hs
  clear h hn hs
  go_enter Tryz.func78, Tryz.ntmps78
  go_wp2_with fail
  go_loopw [3, 8] (fun v i wr => ∃ (k : Nat) (D : List ByteArray) (u : Value), k ≤ n ∧ i = .int .i64 (k : Int) ∧ v = u ∧ D = (l.take k).map encA ∧ D.length = k ∧ OwnT wr w.heap.size u D ∧ Below w.heap.size w wr) (fun _ i _ => n - (intOf i).toNat)
  case atStart => exact ⟨0, [], _, Nat.zero_le _, rfl, rfl, rfl, rfl, World.ownsRow_nil _ _ _ _, Below.refl _ _⟩
  case round =>
    obtain ⟨k, D, u, hk, rfl, rfl, hD, hDk, hown, hb⟩ := hrel
    have HB := Lib.hid hb
    have HO := Lib.hid hown
    have HD := Lib.hid hD
    have HDK := Lib.hid hDk
    clear hb hown hD hDk
    by_cases hlt : k < n
    · have hd : decide ((k : Int) < (n : Int)) = true := by simp; omega
      obtain ⟨b, o, rfl, hb, c0, c1, c2⟩ := H1.out.at k (by rw [← HN.out]; exact hlt)
      have a0 : wr.cell? ⟨b, o + k * 3, none⟩ = _ := (HB.out.cell (p := ⟨b, o + k * 3, none⟩) hb).trans c0
      have a1 : wr.cell? ⟨b, o + k * 3 + 1, none⟩ = _ := (HB.out.cell (p := ⟨b, o + k * 3 + 1, none⟩) hb).trans c1
      have a2 : wr.cell? ⟨b, o + k * 3 + 2, none⟩ = _ := (HB.out.cell (p := ⟨b, o + k * 3 + 2, none⟩) hb).trans c2
      have hst : (l.take (k + 1)).map encA = (l.take k).map encA ++ [encA (l.getD k noAt)] := by rw [takeD l k (by rw [← HN.out]; exact hlt) noAt]; simp
      have hsm := HS.out.2 k (by rw [← HN.out]; exact hlt)
      generalize l.getD k noAt = y at a0 a1 a2 hst hsm
      obtain ⟨t, kd, v⟩ := y
      have HOI := Lib.hid (fun W => roid_any t W (Nat.le_trans hsm.1 (by omega)))
      have hvz : v.size ≤ 1099511627776 := Nat.le_trans hsm.2 (by omega)
      obtain ⟨e1, he1⟩ : ∃ e1, e1 = wr1 6 (oidS t) := ⟨_, rfl⟩
      obtain ⟨e2, he2⟩ : ∃ e2, e2 = wr1 kd v := ⟨_, rfl⟩
      have hz1' : e1.size ≤ 131080 := by rw [he1]; exact wrapStr_size _ _
      have hz2' : e2.size ≤ 131080 := by rw [he2]; exact wrapStr_size _ _
      have HW1 := Lib.hid (fun g W h => rw1 kd g v W h hvz)
      have HW2 := Lib.hid (fun g W h k => rw2 48 g e1 e2 W h k (by omega))
      obtain ⟨s, hs⟩ : ∃ s, s = wr2 48 e1 e2 := ⟨_, rfl⟩
      have hse : encA (t, kd, v) = s := by rw [hs, he1, he2]; rfl
      rw [← he1] at HOI
      rw [← he2] at HW1
      rw [← hs] at HW2
      have HST := Lib.hid (show (l.take (k + 1)).map encA = D ++ [s] by rw [hst, hse, HD.out])
      obtain ⟨W1, hW1⟩ : ∃ W1, W1 = wr.alloc (.cells #[.string t, .int .i64 kd, .string v] 103) := ⟨_, rfl⟩
      have hwe : wr.alloc (.cells #[.string t, .int .i64 kd, .string v] 103) = W1 := hW1.symm
      obtain ⟨d0, d1, d2, _, _, _, hlt1⟩ := at_facts (heap_alloc_new wr (.cells #[.string t, .int .i64 kd, .string v] 103))
      have HBN := Lib.hid (belowNew wr (.cells #[.string t, .int .i64 kd, .string v] 103))
      rw [hwe] at d0 d1 d2 HBN hlt1
      obtain ⟨g, hg⟩ : ∃ g, g = wr.heap.size := ⟨_, rfl⟩
      rw [← hg] at d0 d1 d2 hlt1
      have HWE := Lib.hid hwe
      have HG := Lib.hid hg
      clear c0 c1 c2 hb hsm hst hs he1 he2 hse hvz hwe hW1 hg hz1' hz2'
      go_wp2_with fail
      rw [HWE.out, ← HG.out]
      clear a0 a1 a2
      go_region_held3 (fun w' => w'.cell? ⟨g, 0, none⟩ = some (.string t) ∧ w'.cell? ⟨g, 1, none⟩ = some (.int .i64 kd) ∧ w'.cell? ⟨g, 2, none⟩ = some (.string v)) (first | exact ⟨by assumption, by assumption, by assumption⟩ | go_keep)
        (first
          | (go_at_call 121; (with_reducible refine (HOI.out _).mono ?_); rintro e x1 ⟨rfl, hb⟩; have hx : Below W1.heap.size W1 x1 := (by first | exact below_next (Below.refl _ W1).drew hb | exact below_next (belowNew W1 _).drew hb | exact below_next HX2.out hb | exact below_next (Below.refl _ W1) hb | exact below_next (belowNew W1 _) hb); have d0' := (hx.cell (p := ⟨g, 0, none⟩) hlt1).trans d0; have d1' := (hx.cell (p := ⟨g, 1, none⟩) hlt1).trans d1; have d2' := (hx.cell (p := ⟨g, 2, none⟩) hlt1).trans d2; (try (have rv := (hb.cell (p := ⟨W1.heap.size, 0, none⟩) (by simp <;> omega)).trans (bx1d W1 v 9))); have HX1 := Lib.hid hx; clear hb hx)
          | (go_at_call 37; (with_reducible refine (HW1.out _ _ (by first | exact bx1 _ _ _ | exact bx1d _ _ _ | assumption)).mono ?_); rintro e x2 ⟨rfl, hb⟩; have hx : Below W1.heap.size W1 x2 := (by first | exact below_next (belowNew W1 _).drew hb | exact below_next (below_next HX1.out (belowNew x1 _)) hb | exact below_next HX1.out hb); have d0' := (hx.cell (p := ⟨g, 0, none⟩) hlt1).trans d0; have d1' := (hx.cell (p := ⟨g, 1, none⟩) hlt1).trans d1; have d2' := (hx.cell (p := ⟨g, 2, none⟩) hlt1).trans d2; have HX2 := Lib.hid hx; clear hb hx)
          | (go_at_call 37; (with_reducible refine (HW2.out _ _ (by first | exact by0 _ _ _ _ | exact by0d _ _ _ _) (by first | exact by1 _ _ _ _ | exact by1d _ _ _ _)).mono ?_); rintro e x3 ⟨rfl, hb⟩; have hx : Below W1.heap.size W1 x3 := (by first | exact below_next (below_next HX2.out (belowNew x2 _)) hb | exact below_next (below_next HX1.out (belowNew x1 _)) hb); have d0' := (hx.cell (p := ⟨g, 0, none⟩) hlt1).trans d0; have d1' := (hx.cell (p := ⟨g, 1, none⟩) hlt1).trans d1; have d2' := (hx.cell (p := ⟨g, 2, none⟩) hlt1).trans d2; have HX3 := Lib.hid hx; clear hb hx)
          | (refine step_append_own rfl (.tmp 12) (.tmp 24) 51 rfl w.heap.size 9 i0 (.string ⟨#[]⟩) 16 Tryz.underlying51 hi hz0 hz1 hz2 rfl _ D.length (D.map Value.string) (by simp [Act.eval]) ((own_below (own_below HO.out HBN.out) HX3.out).alloc _) ⟨x3.heap.size, 0, none⟩ 1 1 [.string s] (by simp [Act.eval]) rfl (row_news x3 _ _) (str_one s) (by have := HDK.out; unfold maxLen; omega) (by have := HDK.out; omega) (by have h1 := HB.out.size; have h2 := HBN.out.size; have h3 := HX3.out.size; simp; omega) ?_; intro v' w9 hown9 hgr9 _; obtain ⟨P1, P2⟩ := strT_next (Nat.le_refl _) HO.out HB.out (below_next (below_next HBN.out HX3.out) (belowNew x3 _)) hown9 hgr9; have hgx : g < x3.heap.size := Nat.lt_of_lt_of_le hlt1 HX3.out.size; have hbk : w9.heap[g]? = x3.heap[g]? := (hgr9.block g (by simp; omega) (fun e => by have h1 := (World.ownsRow.lt HO.out g e.symm).2; have h2 := HG.out; omega)).trans ((belowNew x3 _).block g hgx); have d0'' := (cell_same hbk 0).trans d0'; have d1'' := (cell_same hbk 1).trans d1'; have d2'' := (cell_same hbk 2).trans d2'; have HP1 := Lib.hid P1; have HP2 := Lib.hid P2; clear P1 P2 hown9 hgr9 hbk))
      all_goals
        clear d0 d1 d2
        go_wp2_with fail
        go_roundw
        case rel => exact ⟨k + 1, D ++ [s], _, by omega, by go_num, rfl, HST.out.symm, by rw [List.length_append, HDK.out]; rfl, HP1.out, HP2.out⟩
        case measure => simp [intOf]; omega
    · have hd : decide ((k : Int) < (n : Int)) = false := by simp; omega
      have HF := Lib.hid (show D = l.map encA by rw [HD.out, List.take_of_length_le (by rw [← HN.out]; omega)])
      go_wp2_with fail
      go_ret
      exact ⟨⟨_, rfl, by rw [← HF.out]; exact HO.out⟩, HB.out⟩
end Go.Proofs.YtflpajbcomhkpaaGreatDoor
namespace Go.Proofs.YtflpajbcomhkpaaGreatDoor
open Go.RowKit

end Go.Proofs.YtflpajbcomhkpaaGreatDoor
namespace Go.Proofs.YtflpajbcomhkpaaGreatDoor
open Go.RowKit

/-- Is the text one of its kind? -/
def okT (k : Int) (c : Bool) (t : List UInt8) : Bool :=
  if k = 1 then (if c then mailBaseB t else mailB t) else if k = 2 then (if c then baseB t else patB t) else if k = 7 then (if c then rangeB t else addrB t) else false
/-- The first error of a general name. -/
noncomputable def chkG (c : Bool) (k : Int) (t : List UInt8) (n : Nm) : Nat :=
  if k = 4 then (if t = [] then chkN n else 14) else if okT k c t = true ∧ n = [] then 0 else 14
/-- The five cases of a kind. -/
theorem kind_or (k : Int) : k = 1 ∨ k = 2 ∨ k = 4 ∨ k = 7 ∨ (k ≠ 1 ∧ k ≠ 2 ∧ k ≠ 4 ∧ k ≠ 7) := by omega
theorem chkG_dir (c : Bool) (t : List UInt8) (n : Nm) : chkG c 4 t n = if t = [] then chkN n else 14 := by unfold chkG; rw [if_pos rfl]
theorem chkG_not {k : Int} (h : k ≠ 4) (c : Bool) (t : List UInt8) (n : Nm) : chkG c k t n = if okT k c t = true ∧ n = [] then 0 else 14 := by unfold chkG; rw [if_neg h]
theorem okT_1 (c : Bool) (t : List UInt8) : okT 1 c t = if c then mailBaseB t else mailB t := rfl
theorem okT_2 (c : Bool) (t : List UInt8) : okT 2 c t = if c then baseB t else patB t := rfl
theorem okT_7 (c : Bool) (t : List UInt8) : okT 7 c t = if c then rangeB t else addrB t := rfl
theorem okT_no {k : Int} (h : k ≠ 1 ∧ k ≠ 2 ∧ k ≠ 4 ∧ k ≠ 7) (c : Bool) (t : List UInt8) : okT k c t = false := by
  unfold okT; rw [if_neg h.1, if_neg h.2.1, if_neg h.2.2.2]
theorem okT_len {k : Int} {c : Bool} {t : List UInt8} (h : okT k c t = true) : t.length ≤ 128 := by
  unfold okT at h
  split at h
  · cases c
    · exact mail_len (by simpa using h)
    · exact mailBase_len (by simpa using h)
  · split at h
    · cases c
      · exact pat_len (by simpa using h)
      · exact base_len (by simpa using h)
    · split at h
      · cases c
        · exact addr_le (by simpa using h)
        · exact range_le (by simpa using h)
      · cases h
/-- The encoding of a general name. -/
noncomputable def encG (c : Bool) (k : Int) (t : List UInt8) (n : Nm) : ByteArray :=
  if chkG c k t n = 0 then (if k = 4 then wr1 164 (encN n) else wr1 (128 + k) (strOf t)) else ⟨#[]⟩
/-- Are two general names the same? -/
noncomputable def sameG (k : Int) (t : List UInt8) (n : Nm) (l : Int) (u : List UInt8) (m : Nm) : Bool :=
  if k ≠ l then false else if k = 1 then (if mailB t = true ∧ mailB u = true then mailMatchB t u else alikeB t u) else if k = 2 then alikeB t u else if k = 4 then decide (MatchN n m) else if k = 7 then decide (t = u) else false
noncomputable def matchG (k : Int) (t : List UInt8) (n : Nm) (l : Int) (u : List UInt8) (m : Nm) : Bool :=
  if k = 2 ∧ l = 2 then dnsMatchB t u else sameG k t n l u m
end Go.Proofs.YtflpajbcomhkpaaGreatDoor
