/-
The contract of certpathmade's ShortName: what it says is short has few and short parts.
The walk of the law NameText: for every name and list of numbers it returns true, and leaves all that was there as it was.
-/
import Derived.Test.YtfpfgdbfigdooaaGreatDoorEal
import Derived.Test.YtfpfgdbfigdooaaGreatDoorGe
import Derived.Test.YtfpfgdbfigdooaaGreatDoorEbi
import Derived.Test.YtfpfgdbfigdooaaGreatDoorEaq
import Derived.Test.YtfpfgdbfigdooaaGreatDoorEbj
namespace Go.Proofs.YtfpfgdbfigdooaaGreatDoor
open Go.RowKit

/-- A name of at most twelve relative names of at most eight attributes, each of at most 200 bytes. -/
def ShR (r : List At) : Prop := r.length ≤ 8 ∧ ∀ i, i < r.length → (r.getD i noAt).1.size ≤ 200 ∧ (r.getD i noAt).2.2.size ≤ 200
def ShN (n : Nm) : Prop := n.length ≤ 12 ∧ ∀ i, i < n.length → ShR (n.getD i [])
/-- What ShortName answers. -/
def Shorted (n : Nm) (e : Ending) : Prop := (e = .returned (.bool true) ∧ ShN n) ∨ e = .returned (.bool false)
theorem ShN.small {n : Nm} (h : ShN n) : SmallN n :=
  ⟨Nat.le_trans h.1 (by omega), fun i hi => ⟨Nat.le_trans (h.2 i hi).1 (by omega), fun j hj => ⟨Nat.le_trans ((h.2 i hi).2 j hj).1 (by omega), Nat.le_trans ((h.2 i hi).2 j hj).2 (by omega)⟩⟩⟩

set_option maxRecDepth 100000 in
set_option maxHeartbeats 4000000 in
theorem short_core (a0 : Option Addr) (c m : Nat) (n : Nm) (w : World) (h : RLies w a0 n) (hn : m = n.length) (hm : m ≤ 9223372036854775807) (hq : ∀ i, i < n.length → (n.getD i []).length ≤ 9223372036854775807 ∧ ∀ j, j < (n.getD i []).length → ((n.getD i []).getD j noAt).1.size ≤ 9223372036854775807 ∧ ((n.getD i []).getD j noAt).2.2.size ≤ 9223372036854775807) :
    Calls Tryz.prog 8 #[.agg #[.slice a0 m c]] w fun e w' => Shorted n e ∧ Below w.heap.size w w' := by
  by_cases h12 : 12 < m
  · have hd : decide ((12 : Int) < (m : Int)) = true := by simp; omega
    clear h hn hm hq h12
    go_enter Tryz.func8, Tryz.ntmps8
    go_wp2_with fail
    go_ret
    exact ⟨.inr rfl, belowNew w _⟩
  have hd : decide ((12 : Int) < (m : Int)) = false := by simp; omega
  have H1 := Lib.hid (h.below (belowNew w (.cells #[.slice a0 m c] 24)))
  have HN := Lib.hid hn
  have HQ := Lib.hid hq
  have hm12 : m ≤ 12 := by omega
  clear h hn hm hq h12
  go_enter Tryz.func8, Tryz.ntmps8
  go_wp2_with fail
  clear hd
  obtain ⟨W, hW⟩ : ∃ W, W = w.alloc (.cells #[.slice a0 m c] 24) := ⟨_, rfl⟩
  have HBW := Lib.hid (show Below w.heap.size w W by rw [hW]; exact belowNew w _)
  rw [← hW] at H1 ⊢
  clear hW
  go_loopw [14] (fun i wr => ∃ k : Nat, k ≤ m ∧ i = .int .i64 k ∧ (∀ j, j < k → ShR (n.getD j [])) ∧ Below W.heap.size W wr) (fun i _ => m - (intOf i).toNat)
  case atStart => exact ⟨0, Nat.zero_le _, rfl, fun j hj => absurd hj (Nat.not_lt_zero _), Below.refl _ _⟩
  case round =>
    obtain ⟨k, hk, rfl, hA, hb⟩ := hrel
    have HB := Lib.hid hb
    have HA := Lib.hid hA
    clear hb hA
    by_cases hlt : k < m
    · have hd : decide ((k : Int) < (m : Int)) = true := by simp; omega
      obtain ⟨b, o, rfl, hb, a1, c1, e1, hc1, hL1⟩ := H1.out.at k (by rw [← HN.out]; exact hlt)
      have f1 : wr.cell? ⟨b, o + k, none⟩ = _ := (HB.out.cell (p := ⟨b, o + k, none⟩) hb).trans e1
      obtain ⟨hq1, hq2⟩ := HQ.out k (by rw [← HN.out]; exact hlt)
      obtain ⟨r, hr⟩ : ∃ r, r = n.getD k [] := ⟨_, rfl⟩
      rw [← hr] at f1 hq1 hq2 hL1 hc1
      have HR := Lib.hid hr
      obtain ⟨q, hq⟩ : ∃ q, q = r.length := ⟨_, rfl⟩
      rw [← hq] at f1 hq1 hc1
      have HL1 := Lib.hid (hL1.below HB.out)
      have HQ2 := Lib.hid hq2
      have HQQ := Lib.hid hq
      clear e1 hb hL1 hq2 hr hq
      by_cases h8 : 8 < q
      · have hd8 : decide ((8 : Int) < (q : Int)) = true := by simp; omega
        go_wp2_with fail
        go_ret
        exact ⟨.inr rfl, below_next HBW.out HB.out⟩
      have hd8 : decide ((8 : Int) < (q : Int)) = false := by simp; omega
      have hq8 : q ≤ 8 := by omega
      clear h8 hq1
      go_wp2_with fail
      clear hd hd8 f1 hc1
      go_loopw [23] (fun i ws => ∃ k2 : Nat, k2 ≤ q ∧ i = .int .i64 k2 ∧ (∀ j, j < k2 → (r.getD j noAt).1.size ≤ 200 ∧ (r.getD j noAt).2.2.size ≤ 200) ∧ Below wr.heap.size wr ws) (fun i _ => q - (intOf i).toNat)
      case atStart => exact ⟨0, Nat.zero_le _, rfl, fun j hj => absurd hj (Nat.not_lt_zero _), Below.refl _ _⟩
      case round =>
        obtain ⟨k2, hk2, rfl, hA2, hb2⟩ := hrel
        have HB2 := Lib.hid hb2
        have HA2 := Lib.hid hA2
        clear hb2 hA2
        by_cases hlt2 : k2 < q
        · have hd2 : decide ((k2 : Int) < (q : Int)) = true := by simp; omega
          obtain ⟨g, p, rfl, hg, c0, c1', c2⟩ := HL1.out.at k2 (by rw [← HQQ.out]; exact hlt2)
          have d0 : wr.cell? ⟨g, p + k2 * 3, none⟩ = _ := (HB2.out.cell (p := ⟨g, p + k2 * 3, none⟩) hg).trans c0
          have d1 : wr.cell? ⟨g, p + k2 * 3 + 1, none⟩ = _ := (HB2.out.cell (p := ⟨g, p + k2 * 3 + 1, none⟩) hg).trans c1'
          have d2 : wr.cell? ⟨g, p + k2 * 3 + 2, none⟩ = _ := (HB2.out.cell (p := ⟨g, p + k2 * 3 + 2, none⟩) hg).trans c2
          have hz := HQ2.out k2 (by rw [← HQQ.out]; exact hlt2)
          have HX := Lib.hid (show ∀ t v : ByteArray, ∀ kd : Int, r.getD k2 noAt = (t, kd, v) → t.size ≤ 200 → v.size ≤ 200 → ∀ j, j < k2 + 1 → (r.getD j noAt).1.size ≤ 200 ∧ (r.getD j noAt).2.2.size ≤ 200 from fun t v kd e h1 h2 j hj => by
            by_cases ej : j = k2
            · rw [ej, e]; exact ⟨h1, h2⟩
            · exact HA2.out j (by omega))
          obtain ⟨⟨t, kd, v⟩, hy⟩ : ∃ y, y = r.getD k2 noAt := ⟨_, rfl⟩
          rw [← hy] at d0 d1 d2 hz
          have HY := Lib.hid hy
          have hz1 := hz.1
          have hz2 := hz.2
          simp only at hz1 hz2
          have HBX := Lib.hid (below_next HB2.out (belowNew wr (.cells #[.string t, .int .i64 kd, .string v] 27)))
          clear c0 c1' c2 hg hz hy
          by_cases ht : 200 < t.size
          · have dt : decide ((200 : Int) < (t.size : Int)) = true := by simp; omega
            go_wp2_with fail
            go_ret
            exact ⟨.inr rfl, below_next HBW.out (below_next HB.out HBX.out)⟩
          have dt : decide ((200 : Int) < (t.size : Int)) = false := by simp; omega
          by_cases hv : 200 < v.size
          · have dv : decide ((200 : Int) < (v.size : Int)) = true := by simp; omega
            go_wp2_with fail
            go_ret
            exact ⟨.inr rfl, below_next HBW.out (below_next HB.out HBX.out)⟩
          have dv : decide ((200 : Int) < (v.size : Int)) = false := by simp; omega
          have HF := Lib.hid (HX.out t v kd HY.out.symm (by omega) (by omega))
          go_wp2_with fail
          go_roundw
          case rel => exact ⟨k2 + 1, by omega, by go_num, HF.out, HBX.out⟩
          case measure => simp [intOf]; omega
        · have hd2 : decide ((k2 : Int) < (q : Int)) = false := by simp; omega
          have HF := Lib.hid (show ∀ j, j < k + 1 → ShR (n.getD j []) from fun j hj => by
            by_cases ej : j = k
            · rw [ej, ← HR.out]
              exact ⟨by rw [← HQQ.out]; exact hq8, fun i hi => HA2.out i (by rw [← HQQ.out] at hi; omega)⟩
            · exact HA.out j (by omega))
          go_wp2_with fail
          go_roundw
          case rel => exact ⟨k + 1, by omega, by go_num, HF.out, below_next HB.out HB2.out⟩
          case measure => simp [intOf]; omega
    · have hd : decide ((k : Int) < (m : Int)) = false := by simp; omega
      have HF := Lib.hid (show ShN n from ⟨by rw [← HN.out]; exact hm12, fun j hj => HA.out j (by rw [← HN.out] at hj; omega)⟩)
      go_wp2_with fail
      go_ret
      exact ⟨.inl ⟨rfl, HF.out⟩, below_next HBW.out HB.out⟩
end Go.Proofs.YtfpfgdbfigdooaaGreatDoor
namespace Go.Proofs.YtfpfgdbfigdooaaGreatDoor
open Go.RowKit

theorem ok_shortT {n : Nm} (h : NameOk n) : ∀ i, i < n.length → (n.getD i []).length ≤ 9223372036854775807 ∧ ∀ j, j < (n.getD i []).length → ((n.getD i []).getD j noAt).1.size ≤ 9223372036854775807 ∧ ((n.getD i []).getD j noAt).2.2.size ≤ 9223372036854775807 :=
  fun i hi => ⟨(h.2 i hi).1, fun j hj => ⟨((h.2 i hi).2 j hj).1, ((h.2 i hi).2 j hj).2.1⟩⟩
theorem short_types {n : Nm} (h : ShN n) : ∀ r ∈ n, ∀ x ∈ r, x.1.size ≤ 200000 := by
  intro r hr x hx
  obtain ⟨i, hi, rfl⟩ := List.getElem_of_mem hr
  have h1 := (h.2 i hi).2
  rw [getD_mem hi _] at h1
  obtain ⟨j, hj, rfl⟩ := List.getElem_of_mem hx
  have h2 := (h1 j hj).1
  rw [getD_mem hj _] at h2
  omega
theorem sp_types {L : Nat} {n : Nm} (h : SpN L n) : ∀ r ∈ n, ∀ x ∈ r, x.1.size ≤ 200000 := fun r hr x hx => by have := ((h.2 r hr).2 x hx).1; omega
theorem fmtN_small {n : Nm} (h : SpN 20 n) : (fmtN n).size ≤ 100000 := by
  have hr : ∀ r ∈ n, (fmtR r).data.toList.length ≤ 400 := fun r hr => by
    have hl := join_len 43 164 ((outF r).map (·.data.toList)) (fun p hp => by
      obtain ⟨s, hs, rfl⟩ := List.mem_map.1 hp
      obtain ⟨a, ha, rfl⟩ := List.mem_map.1 hs
      obtain ⟨q1, q2⟩ := (h.2 r hr).2 a ((sortR_perm r).mem_iff.1 ha)
      have e1 : (fmtA a).data.toList.length = (shortO a.1).data.toList.length + ((escL a.2.2.data.toList).length + 1) := by
        show ((shortO a.1).data.toList ++ 61 :: escL a.2.2.data.toList).length = _
        rw [List.length_append, List.length_cons]
      have e2 := escL_len a.2.2.data.toList
      have e3 := shortO_size a.1
      have e4 : a.2.2.data.toList.length = a.2.2.size := rfl
      have e5 : (shortO a.1).data.toList.length = (shortO a.1).size := rfl
      omega)
    rw [List.length_map, outF_len] at hl
    have := (h.2 r hr).1
    show (Lib.join ((outF r).map (·.data.toList)) [43]).length ≤ _
    omega
  have hl := join_len 44 400 ((n.map fmtR).map (·.data.toList)) (fun p hp => by
    obtain ⟨s, hs, rfl⟩ := List.mem_map.1 hp
    obtain ⟨r, hr', rfl⟩ := List.mem_map.1 hs
    exact hr r hr')
  rw [List.length_map, List.length_map] at hl
  have := h.1
  show (Lib.join ((n.map fmtR).map (·.data.toList)) [44]).length ≤ _
  omega
/-- What the text of the generator's name says. -/
theorem text_back {n : Nm} (h : MadeN n) : chkN n = 0 ∧ fmtV n = fmtN n ∧ (fmtN n).size ≤ 100000 ∧ ∃ m, prsErr (fmtN n) = 0 ∧ prsV (fmtN n) = m ∧ SmallN m ∧ MatchN n m := by
  have h0 := made_chkN h
  have hz := fmtN_small (spN_of_made h)
  have hp := prs_fmtN (n := n) (fun r hr => okR_of (((chkN_iff n).1 h0).2 r hr))
  have hc : chkN (n.map fun r => (sortR r).map reK) = 0 := made_re h
  have he : prsErr (fmtN n) = 0 := by unfold prsErr; rw [hp]; exact hc
  refine ⟨h0, by unfold fmtV; rw [if_pos h0], hz, _, he, rfl, ?_, ?_⟩
  · unfold prsV
    rw [if_pos he, hp]
    exact prsN_small hp hz
  · unfold prsV
    rw [if_pos he, hp]
    exact match_re n

set_option maxRecDepth 100000 in
set_option maxHeartbeats 8000000 in
theorem txtlaw (u0 : Value) (r : Nm) (a : Option Addr) (cap : Nat) (zs : List Int) (w : World) (h1 : NameV w u0 r) (q1 : NameOk r) (hl : ILies w a zs) (hz : zs.length ≤ 9223372036854775807) (hT : Tab w) (hS : ShT w) :
    Calls Tryz.prog 7 #[u0, .slice a zs.length cap] w fun e w' => e = .returned (.bool true) ∧ Below w.heap.size w w' := by
  obtain ⟨aR, cR, rfl, hcR, lR⟩ := h1
  obtain ⟨NR, hNR⟩ : ∃ NR, NR = r.length := ⟨_, rfl⟩
  rw [← hNR] at hcR ⊢
  obtain ⟨g, hg⟩ : ∃ g, g = w.heap.size := ⟨_, rfl⟩
  obtain ⟨W, hW⟩ : ∃ W, W = w.alloc (.cells #[.slice aR NR cR] 24) := ⟨_, rfl⟩
  have hb : Below w.heap.size w W := by rw [hW]; exact belowNew w _
  have k0 : W.cell? ⟨g, 0, none⟩ = some (.slice aR NR cR) := by rw [hg, hW]; exact (one_facts (heap_alloc_new w _)).1
  have HWE := Lib.hid hW.symm
  have HG := Lib.hid hg
  have HB := Lib.hid hb
  have HLR := Lib.hid (lR.below hb)
  have HNR := Lib.hid hNR
  have HAW := Lib.hid (fun V (hb : Below w.heap.size w V) => awake_any V (hT.below hb) (hS.below hb))
  have HT := Lib.hid (fun V (hb : Below w.heap.size w V) => hT.below hb)
  have HS := Lib.hid (fun V (hb : Below w.heap.size w V) => hS.below hb)
  have HIL := Lib.hid (fun V (hb : Below w.heap.size w V) => hl.below hb (fun x hx hne => by
    rcases hl with h | ⟨b, o, rfl, h⟩
    · exact absurd h hne
    · obtain rfl := Option.some.inj hx
      cases zs with
      | nil => exact absurd rfl hne
      | cons z t => exact block_lt (h 0 (by simp))))
  have HZ := Lib.hid hz
  have HQ1 := Lib.hid q1
  clear hW hb lR hNR hcR hT hS hl hz q1 hg
  go_enter Tryz.func7, Tryz.ntmps7
  go_wp2_with fail
  rw [HWE.out, ← HG.out]
  refine (short_core aR cR NR r W HLR.out HNR.out (by rw [HNR.out]; exact HQ1.out.1) (ok_shortT HQ1.out)).mono ?_
  rintro e w1 ⟨hsh1, hb1⟩
  have HB1 := Lib.hid (below_next HB.out hb1)
  have c31 := (hb1.cell (p := ⟨g, 0, none⟩) (block_lt k0)).trans k0
  have HC31 := Lib.hid c31
  have HLR1 := Lib.hid (HLR.out.below hb1)
  clear hb1 k0
  rcases hsh1 with ⟨rfl, hsh1⟩ | rfl
  case inr =>
    clear c31
    go_wp2_with (go_at_call 9; (with_reducible refine (HAW.out _ HB1.out).mono ?_); rintro e w2 ⟨rfl, hb2⟩; have HB2 := Lib.hid (below_next HB1.out hb2); clear hb2)
    go_ret
    exact ⟨rfl, HB2.out⟩
  have HSH1 := Lib.hid hsh1.small
  have HTY1 := Lib.hid (short_types hsh1)
  clear hsh1 c31
  go_wp2_with fail
  refine (new_any a cap zs w1 (HIL.out _ HB1.out) HZ.out).mono ?_
  rintro e w2 ⟨rfl, hd2', hb2⟩
  obtain ⟨p, hp⟩ : ∃ p, p = w1.heap.size := ⟨_, rfl⟩
  rw [← hp] at hd2' hb2 ⊢
  have HD2 := Lib.hid hd2'
  have hpw : p < w2.heap.size := hd2'.lt
  have HP := Lib.hid hp
  have HB2 := Lib.hid hb2
  clear hd2' hb2 hp
  go_wp2_with fail
  refine (name_any p a cap zs 0 w2 HD2.out (by omega)).mono ?_
  rintro e w3 ⟨v3, n, k3, hmade, rfl, ⟨s3, rfl, hown3⟩, hd3, hk3, hb3⟩
  obtain ⟨aN, cN, rfl, hcN, hlN⟩ := hown3.lies
  have HSMN := Lib.hid (small_of_sp (spN_of_made hmade) (by omega))
  have HTYN := Lib.hid (sp_types (spN_of_made hmade))
  obtain ⟨t1, t2, t3, m, t4, t5, t6, t7⟩ := text_back hmade
  have HCN := Lib.hid t1
  have HFV := Lib.hid t2
  have HPA := Lib.hid (fun W hT hS => parse_any (fmtN n) W t3 hT hS)
  rw [t4, t5] at HPA
  have HSMM := Lib.hid t6
  have HMA := Lib.hid (decide_eq_true t7)
  have HB3 := Lib.hid (show Below w1.heap.size w1 w3 from by rw [← HP.out]; exact HB2.out.trans (hb3.below (Nat.le_of_lt hpw)))
  obtain ⟨N, hN⟩ : ∃ N, N = n.length := ⟨_, rfl⟩
  rw [← hN] at hcN ⊢
  have HNE := Lib.hid hN
  obtain ⟨b8, hb8⟩ : ∃ b8, b8 = w3.heap.size := ⟨_, rfl⟩
  obtain ⟨W4, hW4⟩ : ∃ W4, W4 = w3.alloc (.cells #[.slice aN N cN] 24) := ⟨_, rfl⟩
  have c8 : W4.cell? ⟨b8, 0, none⟩ = some (.slice aN N cN) := by rw [hW4, hb8]; exact (one_facts (heap_alloc_new w3 _)).1
  have hnew : Below w3.heap.size w3 W4 := by rw [hW4]; exact belowNew w3 _
  have HLN := Lib.hid (hlN.below hnew)
  have HB4 := Lib.hid (below_next HB3.out hnew)
  have HWE4 := Lib.hid hW4.symm
  have HB8 := Lib.hid hb8
  have HC8 := Lib.hid c8
  have c0 : W4.cell? ⟨g, 0, none⟩ = some (.slice aR NR cR) := (HB4.out.cell (p := ⟨g, 0, none⟩) (block_lt HC31.out)).trans HC31.out
  clear hown3 hd3 hk3 hb3 hlN hmade t1 t2 t3 t4 t5 t6 t7 hN hb8 hW4 hnew
  go_upto_region 4 with fail
  rw [HWE4.out, ← HB8.out]
  obtain ⟨g4, hg4⟩ : ∃ g4, g4 = W4.heap.size := ⟨_, rfl⟩
  obtain ⟨W5, hW5⟩ : ∃ W5, W5 = W4.alloc (.cells #[.slice aR NR cR, .slice aN N cN] 24) := ⟨_, rfl⟩
  have hb5 : Below W4.heap.size W4 W5 := by rw [hW5]; exact belowNew W4 _
  have hq5 : W5.heap[g4]? = some (.cells #[.slice aR NR cR, .slice aN N cN] 24 (0, 0)) := by rw [hW5, hg4]; exact heap_alloc_new W4 _
  have hg45 : g4 < W5.heap.size := (Array.getElem?_eq_some_iff.1 hq5).1
  have HX5 := Lib.hid (show ∀ j, j < 2 → ∃ ax cx x, W5.cell? ⟨g4, j, none⟩ = some (.slice ax (List.length x) cx) ∧ RLies W5 ax x ∧ SmallN x ∧ ∀ r ∈ x, ∀ y ∈ r, y.1.size ≤ 200000 from fun j hj => by
    rcases (by omega : j = 0 ∨ j = 1) with rfl | rfl
    · exact ⟨aR, cR, r, by rw [Lib.cell_of_heap hq5, ← HNR.out]; rfl, (HLR1.out.below HB4.out).below hb5, HSH1.out, HTY1.out⟩
    · exact ⟨aN, cN, n, by rw [Lib.cell_of_heap hq5, ← HNE.out]; rfl, HLN.out.below hb5, HSMN.out, HTYN.out⟩)
  have HB5 := Lib.hid (below_next HB4.out hb5)
  have HB15 := Lib.hid (below_next HB1.out HB5.out)
  have HWE5 := Lib.hid hW5.symm
  have HG4 := Lib.hid hg4
  have hb85 : b8 < W5.heap.size := Nat.lt_of_lt_of_le (block_lt HC8.out) hb5.size
  have HC85 := Lib.hid ((hb5.cell (p := ⟨b8, 0, none⟩) (block_lt HC8.out)).trans HC8.out)
  have HLN5 := Lib.hid (HLN.out.below hb5)
  clear hW5 hb5 hq5 hg4
  go_wp2_with fail
  rw [HWE5.out, ← HG4.out]
  clear c0 c8
  go_loopw [27] (fun i wr => ∃ (j : Nat), j ≤ 2 ∧ i = .int .i64 (j : Int) ∧ Below W5.heap.size W5 wr) (fun i _ => 2 - (intOf i).toNat)
  case atStart => exact ⟨0, Nat.zero_le _, rfl, Below.refl _ _⟩
  case round =>
    obtain ⟨wo, hwo⟩ : ∃ wo, wo = wr := ⟨_, rfl⟩
    subst hwo
    obtain ⟨j, hj, rfl, hb⟩ := hrel
    have HBO := Lib.hid hb
    have HBW := Lib.hid (below_next HB15.out hb)
    clear hb
    by_cases hlt : j < 2
    · have hd : decide ((j : Int) < 2) = true := by simp; omega
      have hj2 : (j : Int) < 2 := by omega
      obtain ⟨ax, cx, x, e0, e1, e2, e3⟩ := HX5.out j hlt
      have e0 := (HBO.out.cell (p := ⟨g4, j, none⟩) hg45).trans e0
      have e1 := e1.below HBO.out
      obtain ⟨X, hX⟩ : ∃ X, X = x.length := ⟨_, rfl⟩
      rw [← hX] at e0
      have HF1 := Lib.hid (fun V (hb : Below wo.heap.size wo V) => format_core ax cx X x V (e1.below hb) hX e2 e3 (HT.out V (below_next HBW.out hb)) (HS.out V (below_next HBW.out hb)))
      have HF2 := Lib.hid (fun V (hb : Below wo.heap.size wo V) => rformat_core ax cx X x V (e1.below hb) hX e2 e3)
      generalize fmtV x = F at HF1 HF2
      generalize chkN x = E at HF1 HF2
      obtain ⟨G, hG⟩ : ∃ G, G = wo.heap.size := ⟨_, rfl⟩
      obtain ⟨V, hV⟩ : ∃ V, V = wo.alloc (.cells #[.slice ax X cx] 24) := ⟨_, rfl⟩
      have hbV : Below wo.heap.size wo V := by rw [hV]; exact belowNew wo _
      have hqV : V.heap[G]? = some (.cells #[.slice ax X cx] 24 (0, 0)) := by rw [hV, hG]; exact heap_alloc_new wo _
      obtain ⟨f0, _, fl⟩ := one_facts hqV
      have HBV := Lib.hid hbV
      have HVE := Lib.hid hV.symm
      have HGE := Lib.hid hG
      have hff : (F.toList == F.toList) = true := by simp
      have hee : ((E : Int) != (E : Int)) = false := by simp
      clear e1 e2 e3 hX hV hbV hG hqV
      go_upto_region 7 with fail
      rw [HVE.out, ← HGE.out]
      clear e0
      go_wp2_with (first
        | (go_at_call 27; (with_reducible refine (HF1.out _ HBV.out).mono ?_); rintro e w6 ⟨rfl, hb6⟩; have f1 := (hb6.cell (p := ⟨G, 0, none⟩) fl).trans f0; have HB6 := Lib.hid (below_next HBV.out hb6); clear hb6)
        | (go_at_call 28; (with_reducible refine (HF2.out _ HB6.out).mono ?_); rintro e w7 ⟨rfl, hb7⟩; have HB7 := Lib.hid (below_next HB6.out hb7); clear hb7))
      go_roundw
      case rel => exact ⟨j + 1, by omega, by go_num, HBO.out.trans (HB7.out.mono HBO.out.size)⟩
      case measure => simp [intOf]; omega
    · have hd : decide ((j : Int) < 2) = false := by simp; omega
      have c8 := (HBO.out.cell (p := ⟨b8, 0, none⟩) hb85).trans HC85.out
      have hfn := format_core aN cN N n wo (HLN5.out.below HBO.out) HNE.out HSMN.out HTYN.out (HT.out wo HBW.out) (HS.out wo HBW.out)
      rw [HFV.out, HCN.out] at hfn
      have HFN := Lib.hid hfn
      have hlo : b8 < wo.heap.size := block_lt c8
      generalize fmtN n = F at HFN HPA
      clear hfn
      go_upto_region 14 with (first
        | (go_at_call 27; (with_reducible refine HFN.out.mono ?_); rintro e w10 ⟨rfl, hb10⟩; have HB10 := Lib.hid hb10; clear hb10)
        | (go_at_call 29; (with_reducible refine (HPA.out _ (HT.out _ (below_next HBW.out HB10.out)) (HS.out _ (below_next HBW.out HB10.out))).mono ?_); rintro e w11 ⟨v11, rfl, ho11, hb11⟩; have HB11 := Lib.hid (below_next HB10.out hb11); obtain ⟨s11, rfl, hs11⟩ := ho11; obtain ⟨am, cm, rfl, _, hlm⟩ := hs11.lies; have HLM := Lib.hid hlm; clear hb11 hs11 hlm))
      obtain ⟨M, hM⟩ : ∃ M, M = m.length := ⟨_, rfl⟩
      rw [← hM]
      obtain ⟨g12, hg12⟩ : ∃ g12, g12 = w11.heap.size := ⟨_, rfl⟩
      obtain ⟨W12, hW12⟩ : ∃ W12, W12 = w11.alloc (.cells #[.slice am M cm] 24) := ⟨_, rfl⟩
      have hb12 : Below w11.heap.size w11 W12 := by rw [hW12]; exact belowNew w11 _
      have hq12 : W12.heap[g12]? = some (.cells #[.slice am M cm] 24 (0, 0)) := by rw [hW12, hg12]; exact heap_alloc_new w11 _
      obtain ⟨m0, _, ml⟩ := one_facts hq12
      have HB12 := Lib.hid (below_next HB11.out hb12)
      have HBW12 := Lib.hid (below_next HBW.out HB12.out)
      have n0 := (HB12.out.cell (p := ⟨b8, 0, none⟩) hlo).trans c8
      have nl : b8 < W12.heap.size := block_lt n0
      have HRM := Lib.hid (fun V (hb : Below W12.heap.size W12 V) => rmatch_core aN am cN cm N M n m V ((HLN5.out.below HBO.out).below (HB12.out.trans (hb.mono HB12.out.size))) ((HLM.out.below hb12).below hb) HNE.out hM HSMN.out HSMM.out)
      rw [HMA.out] at HRM
      have HM2 := Lib.hid hM
      rw [← hW12, ← hg12]
      have HWE12 := Lib.hid hW12
      clear hM hW12 hb12 hq12 hg12 c8
      go_wp2_with (first
        | (go_at_call 9; (with_reducible refine (HAW.out _ HBW12.out).mono ?_); rintro e w13 ⟨rfl, hb13⟩; have m1 := (hb13.cell (p := ⟨g12, 0, none⟩) ml).trans m0; have n1 := (hb13.cell (p := ⟨b8, 0, none⟩) nl).trans n0; have HB13 := Lib.hid hb13; clear hb13)
        | (go_at_call 26; (with_reducible refine (HRM.out _ HB13.out).mono ?_); rintro e w14 ⟨rfl, hb14⟩; have HB14 := Lib.hid (below_next HB13.out hb14); clear hb14))
      go_ret
      exact ⟨rfl, below_next HBW12.out HB14.out⟩
end Go.Proofs.YtfpfgdbfigdooaaGreatDoor
