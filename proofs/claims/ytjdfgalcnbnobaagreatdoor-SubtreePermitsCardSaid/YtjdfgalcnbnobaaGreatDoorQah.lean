/-
  The contracts of the reference's has and matchRDN: whether a relative name has an attribute that matches; whether two relative names match.
-/
import Derived.Test.YtjdfgalcnbnobaaGreatDoorQad
import Derived.Test.YtjdfgalcnbnobaaGreatDoorQag
namespace Go.Proofs.YtjdfgalcnbnobaaGreatDoor
open Go.RowKit

def hasB (l : List At) (a : At) : Bool := l.any fun x => decide (fa x = fa a)
theorem hasB_iff (l : List At) (a : At) : hasB l a = true ↔ ∃ x ∈ l, fa x = fa a := by
  unfold hasB; rw [List.any_eq_true]; simp
theorem fa_dec (t u v s : ByteArray) (k j : Int) : decide (fa (t, k, v) = fa (u, j, s)) = (decide (t = u) && matchB v s) := by
  rw [Bool.eq_iff_iff, Bool.and_eq_true, matchB_iff]
  unfold fa; simp
theorem hasB_step (l : List At) (k : Nat) (a : At) (h : k < l.length) : hasB (l.take (k + 1)) a = (hasB (l.take k) a || decide (fa (l.getD k noAt) = fa a)) := by
  rw [takeD l k h noAt]; unfold hasB; rw [List.any_append]; simp
theorem memD {α : Type} (l : List α) (i : Nat) (h : i < l.length) (d : α) : l.getD i d ∈ l := by
  rw [List.getD_eq_getElem?_getD, List.getElem?_eq_getElem h]
  exact List.getElem_mem h
theorem hasB_hit (l : List At) (k : Nat) (a : At) (h : k < l.length) (e : decide (fa (l.getD k noAt) = fa a) = true) : hasB l a = true :=
  (hasB_iff l a).2 ⟨_, memD l k h noAt, of_decide_eq_true e⟩

set_option maxRecDepth 100000 in
set_option maxHeartbeats 4000000 in
theorem rhas_any (a0 : Option Addr) (c n : Nat) (l : List At) (t v : ByteArray) (kd : Int) (w : World) (h : ALies w a0 l) (hn : n = l.length) (hs : SmallR l) (hv : v.size ≤ 1000000) :
    Calls Tryz.prog 112 #[.slice a0 n c, .agg #[.string t, .int .i64 kd, .string v]] w fun e w' => e = .returned (.bool (hasB l (t, kd, v))) ∧ Below w.heap.size w w' := by
  have hL : n ≤ 1000000 := by rw [hn]; exact hs.1
  obtain ⟨E, hE⟩ : ∃ E, E = hasB l (t, kd, v) := ⟨_, rfl⟩
  rw [← hE]
  have HE := Lib.hid hE
  have HN := Lib.hid hn
  have HS := Lib.hid hs
  have HVS := Lib.hid hv
  obtain ⟨G, hG⟩ : ∃ G, G = w.heap.size := ⟨_, rfl⟩
  obtain ⟨W0, hW0⟩ : ∃ W0, W0 = w.alloc (.cells #[.string t, .int .i64 kd, .string v] 69) := ⟨_, rfl⟩
  have HWE := Lib.hid (show w.alloc (.cells #[.string t, .int .i64 kd, .string v] 69) = W0 from hW0.symm)
  have hb0 : Below w.heap.size w W0 := by rw [hW0]; exact belowNew w _
  have HB0 := Lib.hid hb0
  have HQ0 := Lib.hid (show W0.cell? ⟨G, 0, none⟩ = some (.string t) by rw [hW0, hG]; exact box_cell w _ _ _ _)
  have HQ2 := Lib.hid (show W0.cell? ⟨G, 2, none⟩ = some (.string v) by rw [hW0, hG, cell_of_row _ _ 2 _ _ _ (heap_alloc_new w _)]; rfl)
  have H1 := Lib.hid (h.below hb0)
  have HG := Lib.hid hG
  clear h hn hs hE hv hW0 hG hb0
  go_enter Tryz.func112, Tryz.ntmps112
  go_wp2_with fail
  rw [HWE.out, ← HG.out]
  go_loopw [9] (fun i wr => ∃ k : Nat, k ≤ n ∧ i = .int .i64 k ∧ hasB (l.take k) (t, kd, v) = false ∧ Below W0.heap.size W0 wr) (fun i _ => n - (intOf i).toNat)
  case atStart => exact ⟨0, Nat.zero_le _, rfl, rfl, Below.refl _ _⟩
  case round =>
    obtain ⟨k, hk, rfl, hA, hb⟩ := hrel
    have HB := Lib.hid hb
    have HA := Lib.hid hA
    have q0 := (hb.cell (p := ⟨G, 0, none⟩) (block_lt HQ0.out)).trans HQ0.out
    have q2 := (hb.cell (p := ⟨G, 2, none⟩) (block_lt HQ2.out)).trans HQ2.out
    have hltG : G < wr.heap.size := block_lt q0
    clear hb hA
    by_cases hlt : k < n
    · have hd : decide ((k : Int) < (n : Int)) = true := by simp; omega
      obtain ⟨b, o, rfl, hb, c0, c1, c2⟩ := H1.out.at k (by rw [← HN.out]; exact hlt)
      have a0 : wr.cell? ⟨b, o + k * 3, none⟩ = _ := (HB.out.cell (p := ⟨b, o + k * 3, none⟩) hb).trans c0
      have a1 : wr.cell? ⟨b, o + k * 3 + 1, none⟩ = _ := (HB.out.cell (p := ⟨b, o + k * 3 + 1, none⟩) hb).trans c1
      have a2 : wr.cell? ⟨b, o + k * 3 + 2, none⟩ = _ := (HB.out.cell (p := ⟨b, o + k * 3 + 2, none⟩) hb).trans c2
      have HST := Lib.hid (hasB_step l k (t, kd, v) (by rw [← HN.out]; exact hlt))
      have HHT := Lib.hid (hasB_hit l k (t, kd, v) (by rw [← HN.out]; exact hlt))
      have hsm := HS.out.2 k (by rw [← HN.out]; exact hlt)
      generalize l.getD k noAt = y at a0 a1 a2 HST hsm HHT
      obtain ⟨t2, kd2, v2⟩ := y
      have HM := Lib.hid (fun W => rmatch_any v2 v W (by have := hsm.2; simp at this; omega) (by have := HVS.out; omega))
      have hfa := fa_dec t2 t v2 v kd2 kd
      have HE2 := Lib.hid (beq_str t2 t)
      have HBX := Lib.hid (below_next (below_next HB0.out HB.out) (belowNew wr (.cells #[.string t2, .int .i64 kd2, .string v2] 69)))
      have HBY := Lib.hid (below_next HB.out (belowNew wr (.cells #[.string t2, .int .i64 kd2, .string v2] 69)))
      clear c0 c1 c2 hb hsm
      by_cases hx : t2 = t
      · have hbq : (t2.toList == t.toList) = true := by rw [HE2.out]; exact decide_eq_true hx
        rw [decide_eq_true hx, Bool.true_and] at hfa
        have HFA := Lib.hid hfa
        clear hfa hx
        cases hm : matchB v2 v with
        | true =>
          rw [hm] at HM
          have HF := Lib.hid (show E = true by rw [HE.out]; exact HHT.out (by rw [HFA.out, hm]))
          clear hm
          go_wp2_with (go_at_call 124; (with_reducible refine (HM.out _).mono ?_); rintro e w1 ⟨rfl, hb1⟩; have HB1 := Lib.hid hb1; clear hb1)
          go_ret
          exact ⟨by rw [HF.out]; rfl, below_next HBX.out HB1.out⟩
        | false =>
          rw [hm] at HM
          have HF := Lib.hid (show hasB (l.take (k + 1)) (t, kd, v) = false by rw [HST.out, HA.out, HFA.out, hm]; rfl)
          clear hm
          go_wp2_with (go_at_call 124; (with_reducible refine (HM.out _).mono ?_); rintro e w1 ⟨rfl, hb1⟩; have HB1 := Lib.hid hb1; clear hb1)
          go_roundw
          case rel => exact ⟨k + 1, by omega, by go_num, HF.out, below_next HBY.out HB1.out⟩
          case measure => simp [intOf]; omega
      · have hbq : (t2.toList == t.toList) = false := by rw [HE2.out]; exact decide_eq_false hx
        rw [decide_eq_false hx, Bool.false_and] at hfa
        have HF := Lib.hid (show hasB (l.take (k + 1)) (t, kd, v) = false by rw [HST.out, HA.out, hfa]; rfl)
        clear hfa hx
        go_wp2_with fail
        go_roundw
        case rel => exact ⟨k + 1, by omega, by go_num, HF.out, HBY.out⟩
        case measure => simp [intOf]; omega
    · have hd : decide ((k : Int) < (n : Int)) = false := by simp; omega
      have HF := Lib.hid (show E = false by rw [HE.out]; have := HA.out; rwa [List.take_of_length_le (by rw [← HN.out]; omega)] at this)
      go_wp2_with fail
      go_ret
      exact ⟨by rw [HF.out]; rfl, below_next HB0.out HB.out⟩

/-! ### matchRDN -/
theorem matchR_has (r s : List At) : MatchR r s ↔ r.length = s.length ∧ ∀ i, i < r.length → hasB s (r.getD i noAt) = true ∧ hasB r (s.getD i noAt) = true := by
  constructor
  · rintro ⟨h1, h2, h3⟩
    refine ⟨h1, fun i hi => ⟨(hasB_iff _ _).2 (h2 _ (memD r i hi noAt)), (hasB_iff _ _).2 (h3 _ (memD s i (by omega) noAt))⟩⟩
  · rintro ⟨h1, h2⟩
    refine ⟨h1, fun x hx => ?_, fun x hx => ?_⟩
    · obtain ⟨i, hi, rfl⟩ := List.mem_iff_getElem.1 hx
      have := (hasB_iff _ _).1 (h2 i hi).1
      rwa [List.getD_eq_getElem?_getD, List.getElem?_eq_getElem hi] at this
    · obtain ⟨i, hi, rfl⟩ := List.mem_iff_getElem.1 hx
      have := (hasB_iff _ _).1 (h2 i (by omega)).2
      rwa [List.getD_eq_getElem?_getD, List.getElem?_eq_getElem hi] at this
set_option maxRecDepth 100000 in
set_option maxHeartbeats 4000000 in
theorem rmrel_any (a0 b0 : Option Addr) (c d n m : Nat) (r s : List At) (w : World) (h1 : ALies w a0 r) (h2 : ALies w b0 s) (hn : n = r.length) (hm : m = s.length) (hr : SmallR r) (hs : SmallR s) :
    Calls Tryz.prog 89 #[.slice a0 n c, .slice b0 m d] w fun e w' => e = .returned (.bool (decide (MatchR r s))) ∧ Below w.heap.size w w' := by
  by_cases hl : n = m
  · subst hl
    have hL : n ≤ 1000000 := by rw [hn]; exact hr.1
    have H1 := Lib.hid h1
    have H2 := Lib.hid h2
    have HN := Lib.hid hn
    have HM := Lib.hid hm
    have HR := Lib.hid hr
    have HS := Lib.hid hs
    obtain ⟨E, hE⟩ : ∃ E, E = decide (MatchR r s) := ⟨_, rfl⟩
    rw [← hE]
    have HE := Lib.hid hE
    clear h1 h2 hn hm hr hs hE
    go_enter Tryz.func89, Tryz.ntmps89
    go_wp2_with fail
    go_loopw [13] (fun i wr => ∃ k : Nat, k ≤ n ∧ i = .int .i64 k ∧ (∀ j, j < k → hasB s (r.getD j noAt) = true ∧ hasB r (s.getD j noAt) = true) ∧ Below w.heap.size w wr) (fun i _ => n - (intOf i).toNat)
    case atStart => exact ⟨0, Nat.zero_le _, rfl, fun j hj => absurd hj (Nat.not_lt_zero _), Below.refl _ _⟩
    case round =>
      obtain ⟨k, hk, rfl, hA, hb⟩ := hrel
      have HB := Lib.hid hb
      have HA := Lib.hid hA
      clear hb hA
      by_cases hlt : k < n
      · have hd : decide ((k : Int) < (n : Int)) = true := by simp; omega
        obtain ⟨b, o, rfl, hb, c0, c1, c2⟩ := H1.out.at k (by rw [← HN.out]; exact hlt)
        have a0 : wr.cell? ⟨b, o + k * 3, none⟩ = _ := (HB.out.cell (p := ⟨b, o + k * 3, none⟩) hb).trans c0
        have a1 : wr.cell? ⟨b, o + k * 3 + 1, none⟩ = _ := (HB.out.cell (p := ⟨b, o + k * 3 + 1, none⟩) hb).trans c1
        have a2 : wr.cell? ⟨b, o + k * 3 + 2, none⟩ = _ := (HB.out.cell (p := ⟨b, o + k * 3 + 2, none⟩) hb).trans c2
        obtain ⟨g, q, rfl, hg, d0, d1, d2⟩ := H2.out.at k (by rw [← HM.out]; exact hlt)
        have HD0 := Lib.hid ((HB.out.cell (p := ⟨g, q + k * 3, none⟩) hg).trans d0)
        have HD1 := Lib.hid ((HB.out.cell (p := ⟨g, q + k * 3 + 1, none⟩) hg).trans d1)
        have HD2 := Lib.hid ((HB.out.cell (p := ⟨g, q + k * 3 + 2, none⟩) hg).trans d2)
        have hs1 := HR.out.2 k (by rw [← HN.out]; exact hlt)
        have hs2 := HS.out.2 k (by rw [← HM.out]; exact hlt)
        have HX := Lib.hid (show E = true → hasB s (r.getD k noAt) = true ∧ hasB r (s.getD k noAt) = true from fun e => ((matchR_has r s).1 (of_decide_eq_true (by rw [← HE.out]; exact e))).2 k (by rw [← HN.out]; exact hlt))
        have HY := Lib.hid (show hasB s (r.getD k noAt) = true ∧ hasB r (s.getD k noAt) = true → ∀ j, j < k + 1 → hasB s (r.getD j noAt) = true ∧ hasB r (s.getD j noAt) = true from fun e j hj => by
          by_cases hjk : j = k
          · subst hjk; exact e
          · exact HA.out j (by omega))
        generalize r.getD k noAt = x at a0 a1 a2 hs1 HX HY
        generalize s.getD k noAt = y at HD0 HD1 HD2 hs2 HX HY
        obtain ⟨t, kd, v⟩ := x
        obtain ⟨t2, kd2, v2⟩ := y
        have HC1 := Lib.hid (rhas_any (some ⟨g, q, none⟩) d n s t v kd wr (H2.out.below HB.out) HM.out HS.out hs1.2)
        have HC2 := Lib.hid (fun W (hw : Below wr.heap.size wr W) => rhas_any (some ⟨b, o, none⟩) c n r t2 v2 kd2 W ((H1.out.below HB.out).below hw) HN.out HR.out hs2.2)
        obtain ⟨x1, hx1⟩ : ∃ x1, x1 = hasB s (t, kd, v) := ⟨_, rfl⟩
        obtain ⟨x2, hx2⟩ : ∃ x2, x2 = hasB r (t2, kd2, v2) := ⟨_, rfl⟩
        rw [← hx1] at HC1 HX HY
        rw [← hx2] at HC2 HX HY
        clear c0 c1 c2 d0 d1 d2 hb hg hs1 hs2 hx1 hx2
        cases x1 with
        | false =>
          have HF := Lib.hid (show E = false from by
            cases hh : E with
            | false => rfl
            | true => exact absurd (HX.out hh).1 (by decide))
          go_wp2_with (go_at_call 112; (with_reducible refine HC1.out.mono ?_); rintro e w1 ⟨rfl, hb1⟩; have HB1 := Lib.hid (below_next HB.out hb1); clear hb1)
          go_ret
          exact ⟨by rw [HF.out]; rfl, HB1.out⟩
        | true =>
          cases x2 with
          | false =>
            have HF := Lib.hid (show E = false from by
              cases hh : E with
              | false => rfl
              | true => exact absurd (HX.out hh).2 (by decide))
            go_wp2_with (first
              | (go_at_call 112; (with_reducible refine HC1.out.mono ?_); rintro e w1 ⟨rfl, hb1⟩; have HB1 := Lib.hid hb1; have e0 := (hb1.cell (p := ⟨g, q + k * 3, none⟩) (block_lt HD0.out)).trans HD0.out; have e1 := (hb1.cell (p := ⟨g, q + k * 3 + 1, none⟩) (block_lt HD1.out)).trans HD1.out; have e2 := (hb1.cell (p := ⟨g, q + k * 3 + 2, none⟩) (block_lt HD2.out)).trans HD2.out; clear hb1)
              | (go_at_call 112; (with_reducible refine (HC2.out _ HB1.out).mono ?_); rintro e w2 ⟨rfl, hb2⟩; have HB2 := Lib.hid (below_next HB.out (below_next HB1.out hb2)); clear hb2))
            go_ret
            exact ⟨by rw [HF.out]; rfl, HB2.out⟩
          | true =>
            have HF := Lib.hid (HY.out ⟨rfl, rfl⟩)
            go_wp2_with (first
              | (go_at_call 112; (with_reducible refine HC1.out.mono ?_); rintro e w1 ⟨rfl, hb1⟩; have HB1 := Lib.hid hb1; have e0 := (hb1.cell (p := ⟨g, q + k * 3, none⟩) (block_lt HD0.out)).trans HD0.out; have e1 := (hb1.cell (p := ⟨g, q + k * 3 + 1, none⟩) (block_lt HD1.out)).trans HD1.out; have e2 := (hb1.cell (p := ⟨g, q + k * 3 + 2, none⟩) (block_lt HD2.out)).trans HD2.out; clear hb1)
              | (go_at_call 112; (with_reducible refine (HC2.out _ HB1.out).mono ?_); rintro e w2 ⟨rfl, hb2⟩; have HB2 := Lib.hid (below_next HB.out (below_next HB1.out hb2)); clear hb2))
            go_roundw
            case rel => exact ⟨k + 1, by omega, by go_num, HF.out, HB2.out⟩
            case measure => simp [intOf]; omega
      · have hd : decide ((k : Int) < (n : Int)) = false := by simp; omega
        have HF := Lib.hid (show E = true by rw [HE.out]; exact decide_eq_true ((matchR_has r s).2 ⟨by rw [← HN.out, ← HM.out], fun j hj => HA.out j (by rw [← HN.out] at hj; omega)⟩))
        go_wp2_with fail
        go_ret
        exact ⟨by rw [HF.out]; rfl, HB.out⟩
  · have e : decide (MatchR r s) = false := decide_eq_false (fun h => hl (by rw [hn, hm]; exact h.1))
    have hd : ((n : Int) != (m : Int)) = true := by simp; omega
    rw [e]
    clear h1 h2 hn hm hr hs hl e
    go_enter Tryz.func89, Tryz.ntmps89
    go_wp2_with fail
    go_ret
    exact ⟨rfl, Below.refl _ _⟩
end Go.Proofs.YtjdfgalcnbnobaaGreatDoor
