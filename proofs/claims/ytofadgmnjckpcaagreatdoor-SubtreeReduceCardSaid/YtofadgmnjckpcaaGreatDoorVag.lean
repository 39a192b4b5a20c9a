/-
  The contracts of the reference's has and matchRDN: whether a relative name has an attribute that matches; whether two relative names match.
  The contracts of the reference's WithinName and MatchName.
  The contract of the reference's ExactName at equal names.
  The table of short types and the contracts of typeOf and kindOf.
  The contract of text.Unescape: the string whose escaped form is the given one, if there is one; nothing that was there before the call has changed.
  What a text denotes as a name, as a function of the text; the contracts of kindOf and parseAttribute.
  The contract of parseAttribute: the attribute that a text denotes, if it denotes one.
  The contract of parseRelative: the relative name that a text denotes, if it denotes one.
  The contract of parseName: the name that a text denotes, if it denotes one.
-/
import Derived.Test.YtofadgmnjckpcaaGreatDoorVad
import Derived.Test.YtofadgmnjckpcaaGreatDoorVaf
import Derived.Test.YtofadgmnjckpcaaGreatDoorVac
import Derived.Test.YtofadgmnjckpcaaGreatDoorVaa
import Derived.Test.YtofadgmnjckpcaaGreatDoorVae
namespace Go.Proofs.YtofadgmnjckpcaaGreatDoor
open Go.RowKit

def hasB (l : List At) (a : At) : Bool := l.any fun x => decide (fa x = fa a)
theorem hasB_iff (l : List At) (a : At) : hasB l a = true ↔ ∃ x ∈ l, fa x = fa a := by
  unfold hasB; rw [List.any_eq_true]; simp
theorem fa_dec (t u v s : ByteArray) (k j : Int) : decide (fa (t, k, v) = fa (u, j, s)) = (decide (t = u) && matchB v s) := by
  rw [Bool.eq_iff_iff, Bool.and_eq_true, matchB_iff]
  unfold fa; simp
theorem hasB_step (l : List At) (k : Nat) (a : At) (h : k < l.length) : hasB (l.take (k + 1)) a = (hasB (l.take k) a || decide (fa (l.getD k noAt) = fa a)) := by
  rw [takeD l k h noAt]; unfold hasB; rw [List.any_append]; simp
theorem memD {α : Type} (l : List α) (i : Nat) (h : i < l.length) (d : α) : l.getD i d ∈ l := by
  rw [List.getD_eq_getElem?_getD, List.getElem?_eq_getElem h]
  exact List.getElem_mem h
theorem hasB_hit (l : List At) (k : Nat) (a : At) (h : k < l.length) (e : decide (fa (l.getD k noAt) = fa a) = true) : hasB l a = true :=
  (hasB_iff l a).2 ⟨_, memD l k h noAt, of_decide_eq_true e⟩

set_option maxRecDepth 100000 in
set_option maxHeartbeats 4000000 in
theorem rhas_any (a0 : Option Addr) (c n : Nat) (l : List At) (t v : ByteArray) (kd : Int) (w : World) (h : ALies w a0 l) (hn : n = l.length) (hs : SmallR l) (hv : v.size ≤ 1000000) :
    Calls Tryz.prog 112 #[.slice a0 n c, .agg #[.string t, .int .i64 kd, .string v]] w fun e w' => e = .returned (.bool (hasB l (t, kd, v))) ∧ Below w.heap.size w w' := by
  have hL : n ≤ 1000000 := by rw [hn]; exact hs.1
  obtain ⟨E, hE⟩ : ∃ E, E = hasB l (t, kd, v) := ⟨_, rfl⟩
  rw [← hE]
  have HE := Lib.hid hE
  have HN := Lib.hid hn
  have HS := Lib.hid hs
  have HVS := Lib.hid hv
  obtain ⟨G, hG⟩ : ∃ G, G = w.heap.size := ⟨_, rfl⟩
  obtain ⟨W0, hW0⟩ : ∃ W0, W0 = w.alloc (.cells #[.string t, .int .i64 kd, .string v] 69) := ⟨_, rfl⟩
  have HWE := Lib.hid (show w.alloc (.cells #[.string t, .int .i64 kd, .string v] 69) = W0 from hW0.symm)
  have hb0 : Below w.heap.size w W0 := by rw [hW0]; exact belowNew w _
  have HB0 := Lib.hid hb0
  have HQ0 := Lib.hid (show W0.cell? ⟨G, 0, none⟩ = some (.string t) by rw [hW0, hG]; exact box_cell w _ _ _ _)
  have HQ2 := Lib.hid (show W0.cell? ⟨G, 2, none⟩ = some (.string v) by rw [hW0, hG, cell_of_row _ _ 2 _ _ _ (heap_alloc_new w _)]; rfl)
  have H1 := Lib.hid (h.below hb0)
  have HG := Lib.hid hG
  clear h hn hs hE hv hW0 hG hb0
  go_enter Tryz.func112, Tryz.ntmps112
  go_wp2_with fail
  rw [HWE.out, ← HG.out]
  go_loopw [9] (fun i wr => ∃ k : Nat, k ≤ n ∧ i = .int .i64 k ∧ hasB (l.take k) (t, kd, v) = false ∧ Below W0.heap.size W0 wr) (fun i _ => n - (intOf i).toNat)
  case atStart => exact ⟨0, Nat.zero_le _, rfl, rfl, Below.refl _ _⟩
  case round =>
    obtain ⟨k, hk, rfl, hA, hb⟩ := hrel
    have HB := Lib.hid hb
    have HA := Lib.hid hA
    have q0 := (hb.cell (p := ⟨G, 0, none⟩) (block_lt HQ0.out)).trans HQ0.out
    have q2 := (hb.cell (p := ⟨G, 2, none⟩) (block_lt HQ2.out)).trans HQ2.out
    have hltG : G < wr.heap.size := block_lt q0
    clear hb hA
    by_cases hlt : k < n
    · have hd : decide ((k : Int) < (n : Int)) = true := by simp; omega
      obtain ⟨b, o, rfl, hb, c0, c1, c2⟩ := H1.out.at k (by rw [← HN.out]; exact hlt)
      have a0 : wr.cell? ⟨b, o + k * 3, none⟩ = _ := (HB.out.cell (p := ⟨b, o + k * 3, none⟩) hb).trans c0
      have a1 : wr.cell? ⟨b, o + k * 3 + 1, none⟩ = _ := (HB.out.cell (p := ⟨b, o + k * 3 + 1, none⟩) hb).trans c1
      have a2 : wr.cell? ⟨b, o + k * 3 + 2, none⟩ = _ := (HB.out.cell (p := ⟨b, o + k * 3 + 2, none⟩) hb).trans c2
      have HST := Lib.hid (hasB_step l k (t, kd, v) (by rw [← HN.out]; exact hlt))
      have HHT := Lib.hid (hasB_hit l k (t, kd, v) (by rw [← HN.out]; exact hlt))
      have hsm := HS.out.2 k (by rw [← HN.out]; exact hlt)
      generalize l.getD k noAt = y at a0 a1 a2 HST hsm HHT
      obtain ⟨t2, kd2, v2⟩ := y
      have HM := Lib.hid (fun W => rmatch_any v2 v W (by have := hsm.2; simp at this; omega) (by have := HVS.out; omega))
      have hfa := fa_dec t2 t v2 v kd2 kd
      have HE2 := Lib.hid (beq_str t2 t)
      have HBX := Lib.hid (below_next (below_next HB0.out HB.out) (belowNew wr (.cells #[.string t2, .int .i64 kd2, .string v2] 69)))
      have HBY := Lib.hid (below_next HB.out (belowNew wr (.cells #[.string t2, .int .i64 kd2, .string v2] 69)))
      clear c0 c1 c2 hb hsm
      by_cases hx : t2 = t
      · have hbq : (t2.toList == t.toList) = true := by rw [HE2.out]; exact decide_eq_true hx
        rw [decide_eq_true hx, Bool.true_and] at hfa
        have HFA := Lib.hid hfa
        clear hfa hx
        cases hm : matchB v2 v with
        | true =>
          rw [hm] at HM
          have HF := Lib.hid (show E = true by rw [HE.out]; exact HHT.out (by rw [HFA.out, hm]))
          clear hm
          go_wp2_with (go_at_call 124; (with_reducible refine (HM.out _).mono ?_); rintro e w1 ⟨rfl, hb1⟩; have HB1 := Lib.hid hb1; clear hb1)
          go_ret
          exact ⟨by rw [HF.out]; rfl, below_next HBX.out HB1.out⟩
        | false =>
          rw [hm] at HM
          have HF := Lib.hid (show hasB (l.take (k + 1)) (t, kd, v) = false by rw [HST.out, HA.out, HFA.out, hm]; rfl)
          clear hm
          go_wp2_with (go_at_call 124; (with_reducible refine (HM.out _).mono ?_); rintro e w1 ⟨rfl, hb1⟩; have HB1 := Lib.hid hb1; clear hb1)
          go_roundw
          case rel => exact ⟨k + 1, by omega, by go_num, HF.out, below_next HBY.out HB1.out⟩
          case measure => simp [intOf]; omega
      · have hbq : (t2.toList == t.toList) = false := by rw [HE2.out]; exact decide_eq_false hx
        rw [decide_eq_false hx, Bool.false_and] at hfa
        have HF := Lib.hid (show hasB (l.take (k + 1)) (t, kd, v) = false by rw [HST.out, HA.out, hfa]; rfl)
        clear hfa hx
        go_wp2_with fail
        go_roundw
        case rel => exact ⟨k + 1, by omega, by go_num, HF.out, HBY.out⟩
        case measure => simp [intOf]; omega
    · have hd : decide ((k : Int) < (n : Int)) = false := by simp; omega
      have HF := Lib.hid (show E = false by rw [HE.out]; have := HA.out; rwa [List.take_of_length_le (by rw [← HN.out]; omega)] at this)
      go_wp2_with fail
      go_ret
      exact ⟨by rw [HF.out]; rfl, below_next HB0.out HB.out⟩

/-! ### matchRDN -/
theorem matchR_has (r s : List At) : MatchR r s ↔ r.length = s.length ∧ ∀ i, i < r.length → hasB s (r.getD i noAt) = true ∧ hasB r (s.getD i noAt) = true := by
  constructor
  · rintro ⟨h1, h2, h3⟩
    refine ⟨h1, fun i hi => ⟨(hasB_iff _ _).2 (h2 _ (memD r i hi noAt)), (hasB_iff _ _).2 (h3 _ (memD s i (by omega) noAt))⟩⟩
  · rintro ⟨h1, h2⟩
    refine ⟨h1, fun x hx => ?_, fun x hx => ?_⟩
    · obtain ⟨i, hi, rfl⟩ := List.mem_iff_getElem.1 hx
      have := (hasB_iff _ _).1 (h2 i hi).1
      rwa [List.getD_eq_getElem?_getD, List.getElem?_eq_getElem hi] at this
    · obtain ⟨i, hi, rfl⟩ := List.mem_iff_getElem.1 hx
      have := (hasB_iff _ _).1 (h2 i (by omega)).2
      rwa [List.getD_eq_getElem?_getD, List.getElem?_eq_getElem hi] at this
set_option maxRecDepth 100000 in
set_option maxHeartbeats 4000000 in
theorem rmrel_any (a0 b0 : Option Addr) (c d n m : Nat) (r s : List At) (w : World) (h1 : ALies w a0 r) (h2 : ALies w b0 s) (hn : n = r.length) (hm : m = s.length) (hr : SmallR r) (hs : SmallR s) :
    Calls Tryz.prog 89 #[.slice a0 n c, .slice b0 m d] w fun e w' => e = .returned (.bool (decide (MatchR r s))) ∧ Below w.heap.size w w' := by
  by_cases hl : n = m
  · subst hl
    have hL : n ≤ 1000000 := by rw [hn]; exact hr.1
    have H1 := Lib.hid h1
    have H2 := Lib.hid h2
    have HN := Lib.hid hn
    have HM := Lib.hid hm
    have HR := Lib.hid hr
    have HS := Lib.hid hs
    obtain ⟨E, hE⟩ : ∃ E, E = decide (MatchR r s) := ⟨_, rfl⟩
    rw [← hE]
    have HE := Lib.hid hE
    clear h1 h2 hn hm hr hs hE
    go_enter Tryz.func89, Tryz.ntmps89
    go_wp2_with fail
    go_loopw [13] (fun i wr => ∃ k : Nat, k ≤ n ∧ i = .int .i64 k ∧ (∀ j, j < k → hasB s (r.getD j noAt) = true ∧ hasB r (s.getD j noAt) = true) ∧ Below w.heap.size w wr) (fun i _ => n - (intOf i).toNat)
    case atStart => exact ⟨0, Nat.zero_le _, rfl, fun j hj => absurd hj (Nat.not_lt_zero _), Below.refl _ _⟩
    case round =>
      obtain ⟨k, hk, rfl, hA, hb⟩ := hrel
      have HB := Lib.hid hb
      have HA := Lib.hid hA
      clear hb hA
      by_cases hlt : k < n
      · have hd : decide ((k : Int) < (n : Int)) = true := by simp; omega
        obtain ⟨b, o, rfl, hb, c0, c1, c2⟩ := H1.out.at k (by rw [← HN.out]; exact hlt)
        have a0 : wr.cell? ⟨b, o + k * 3, none⟩ = _ := (HB.out.cell (p := ⟨b, o + k * 3, none⟩) hb).trans c0
        have a1 : wr.cell? ⟨b, o + k * 3 + 1, none⟩ = _ := (HB.out.cell (p := ⟨b, o + k * 3 + 1, none⟩) hb).trans c1
        have a2 : wr.cell? ⟨b, o + k * 3 + 2, none⟩ = _ := (HB.out.cell (p := ⟨b, o + k * 3 + 2, none⟩) hb).trans c2
        obtain ⟨g, q, rfl, hg, d0, d1, d2⟩ := H2.out.at k (by rw [← HM.out]; exact hlt)
        have HD0 := Lib.hid ((HB.out.cell (p := ⟨g, q + k * 3, none⟩) hg).trans d0)
        have HD1 := Lib.hid ((HB.out.cell (p := ⟨g, q + k * 3 + 1, none⟩) hg).trans d1)
        have HD2 := Lib.hid ((HB.out.cell (p := ⟨g, q + k * 3 + 2, none⟩) hg).trans d2)
        have hs1 := HR.out.2 k (by rw [← HN.out]; exact hlt)
        have hs2 := HS.out.2 k (by rw [← HM.out]; exact hlt)
        have HX := Lib.hid (show E = true → hasB s (r.getD k noAt) = true ∧ hasB r (s.getD k noAt) = true from fun e => ((matchR_has r s).1 (of_decide_eq_true (by rw [← HE.out]; exact e))).2 k (by rw [← HN.out]; exact hlt))
        have HY := Lib.hid (show hasB s (r.getD k noAt) = true ∧ hasB r (s.getD k noAt) = true → ∀ j, j < k + 1 → hasB s (r.getD j noAt) = true ∧ hasB r (s.getD j noAt) = true from fun e j hj => by
          by_cases hjk : j = k
          · subst hjk; exact e
          · exact HA.out j (by omega))
        generalize r.getD k noAt = x at a0 a1 a2 hs1 HX HY
        generalize s.getD k noAt = y at HD0 HD1 HD2 hs2 HX HY
        obtain ⟨t, kd, v⟩ := x
        obtain ⟨t2, kd2, v2⟩ := y
        have HC1 := Lib.hid (rhas_any (some ⟨g, q, none⟩) d n s t v kd wr (H2.out.below HB.out) HM.out HS.out hs1.2)
        have HC2 := Lib.hid (fun W (hw : Below wr.heap.size wr W) => rhas_any (some ⟨b, o, none⟩) c n r t2 v2 kd2 W ((H1.out.below HB.out).below hw) HN.out HR.out hs2.2)
        obtain ⟨x1, hx1⟩ : ∃ x1, x1 = hasB s (t, kd, v) := ⟨_, rfl⟩
        obtain ⟨x2, hx2⟩ : ∃ x2, x2 = hasB r (t2, kd2, v2) := ⟨_, rfl⟩
        rw [← hx1] at HC1 HX HY
        rw [← hx2] at HC2 HX HY
        clear c0 c1 c2 d0 d1 d2 hb hg hs1 hs2 hx1 hx2
        cases x1 with
        | false =>
          have HF := Lib.hid (show E = false from by
            cases hh : E with
            | false => rfl
            | true => exact absurd (HX.out hh).1 (by decide))
          go_wp2_with (go_at_call 112; (with_reducible refine HC1.out.mono ?_); rintro e w1 ⟨rfl, hb1⟩; have HB1 := Lib.hid (below_next HB.out hb1); clear hb1)
          go_ret
          exact ⟨by rw [HF.out]; rfl, HB1.out⟩
        | true =>
          cases x2 with
          | false =>
            have HF := Lib.hid (show E = false from by
              cases hh : E with
              | false => rfl
              | true => exact absurd (HX.out hh).2 (by decide))
            go_wp2_with (first
              | (go_at_call 112; (with_reducible refine HC1.out.mono ?_); rintro e w1 ⟨rfl, hb1⟩; have HB1 := Lib.hid hb1; have e0 := (hb1.cell (p := ⟨g, q + k * 3, none⟩) (block_lt HD0.out)).trans HD0.out; have e1 := (hb1.cell (p := ⟨g, q + k * 3 + 1, none⟩) (block_lt HD1.out)).trans HD1.out; have e2 := (hb1.cell (p := ⟨g, q + k * 3 + 2, none⟩) (block_lt HD2.out)).trans HD2.out; clear hb1)
              | (go_at_call 112; (with_reducible refine (HC2.out _ HB1.out).mono ?_); rintro e w2 ⟨rfl, hb2⟩; have HB2 := Lib.hid (below_next HB.out (below_next HB1.out hb2)); clear hb2))
            go_ret
            exact ⟨by rw [HF.out]; rfl, HB2.out⟩
          | true =>
            have HF := Lib.hid (HY.out ⟨rfl, rfl⟩)
            go_wp2_with (first
              | (go_at_call 112; (with_reducible refine HC1.out.mono ?_); rintro e w1 ⟨rfl, hb1⟩; have HB1 := Lib.hid hb1; have e0 := (hb1.cell (p := ⟨g, q + k * 3, none⟩) (block_lt HD0.out)).trans HD0.out; have e1 := (hb1.cell (p := ⟨g, q + k * 3 + 1, none⟩) (block_lt HD1.out)).trans HD1.out; have e2 := (hb1.cell (p := ⟨g, q + k * 3 + 2, none⟩) (block_lt HD2.out)).trans HD2.out; clear hb1)
              | (go_at_call 112; (with_reducible refine (HC2.out _ HB1.out).mono ?_); rintro e w2 ⟨rfl, hb2⟩; have HB2 := Lib.hid (below_next HB.out (below_next HB1.out hb2)); clear hb2))
            go_roundw
            case rel => exact ⟨k + 1, by omega, by go_num, HF.out, HB2.out⟩
            case measure => simp [intOf]; omega
      · have hd : decide ((k : Int) < (n : Int)) = false := by simp; omega
        have HF := Lib.hid (show E = true by rw [HE.out]; exact decide_eq_true ((matchR_has r s).2 ⟨by rw [← HN.out, ← HM.out], fun j hj => HA.out j (by rw [← HN.out] at hj; omega)⟩))
        go_wp2_with fail
        go_ret
        exact ⟨by rw [HF.out]; rfl, HB.out⟩
  · have e : decide (MatchR r s) = false := decide_eq_false (fun h => hl (by rw [hn, hm]; exact h.1))
    have hd : ((n : Int) != (m : Int)) = true := by simp; omega
    rw [e]
    clear h1 h2 hn hm hr hs hl e
    go_enter Tryz.func89, Tryz.ntmps89
    go_wp2_with fail
    go_ret
    exact ⟨rfl, Below.refl _ _⟩
end Go.Proofs.YtofadgmnjckpcaaGreatDoor
namespace Go.Proofs.YtofadgmnjckpcaaGreatDoor
open Go.RowKit

set_option maxRecDepth 100000 in
set_option maxHeartbeats 4000000 in
theorem rwithin_core (a0 b0 : Option Addr) (c d n m : Nat) (r s : Nm) (w : World) (h1 : RLies w a0 r) (h2 : RLies w b0 s) (hn : n = r.length) (hm : m = s.length) (hr : SmallN r) (hs : SmallN s) :
    Calls Tryz.prog 68 #[.agg #[.slice a0 n c], .agg #[.slice b0 m d]] w fun e w' => e = .returned (.bool (decide (WithinN r s))) ∧ Below w.heap.size w w' := by
  obtain ⟨W, hW⟩ : ∃ W, W = (w.alloc (.cells #[.slice a0 n c] 30)).alloc (.cells #[.slice b0 m d] 30) := ⟨_, rfl⟩
  have hwr : (w.alloc (.cells #[.slice a0 n c] 30)).alloc (.cells #[.slice b0 m d] 30) = W := hW.symm
  have hb : Below w.heap.size w W := by rw [hW]; exact belowTwo w _ _
  have k0 : W.cell? ⟨w.heap.size, 0, none⟩ = some (.slice a0 n c) := by
    rw [hW, World.cell?_alloc_old _ _ _ (by simp), cell_of_row _ _ 0 _ _ _ (heap_alloc_new w _)]; rfl
  have k1 : W.cell? ⟨w.heap.size + 1, 0, none⟩ = some (.slice b0 m d) := by
    rw [hW]
    have := cell_of_row (w := (w.alloc (.cells #[.slice a0 n c] 30)).alloc (.cells #[.slice b0 m d] 30)) (w.heap.size + 1) 0 #[.slice b0 m d] 30 (0, 0) (by have := heap_alloc_new (w.alloc (.cells #[.slice a0 n c] 30)) (.cells #[.slice b0 m d] 30); simpa using this)
    rw [this]; rfl
  have HB := Lib.hid hb
  have H1 := Lib.hid (h1.below hb)
  have H2 := Lib.hid (h2.below hb)
  have HN := Lib.hid hn
  have HM := Lib.hid hm
  have HR := Lib.hid hr
  have HS := Lib.hid hs
  have hms : m ≤ 1000000 := by rw [hm]; exact hs.1
  have hns : n ≤ 1000000 := by rw [hn]; exact hr.1
  obtain ⟨E, hE⟩ : ∃ E, E = decide (WithinN r s) := ⟨_, rfl⟩
  rw [← hE]
  have HE := Lib.hid hE
  clear h1 h2 hn hm hr hs hE hW hb
  by_cases hl : m ≤ n
  · have hd : decide ((n : Int) < (m : Int)) = false := by simp; omega
    go_enter Tryz.func68, Tryz.ntmps68
    go_wp2_with fail
    have K0 := Lib.hid k0
    have K1 := Lib.hid k1
    obtain ⟨g, hg⟩ : ∃ g, g = w.heap.size := ⟨_, rfl⟩
    have HG := Lib.hid hg
    rw [← hg] at K0 K1 ⊢
    clear hwr k0 k1 hd hg
    go_loopw [16] (fun i wr => ∃ k : Nat, k ≤ m ∧ i = .int .i64 k ∧ (∀ j, j < k → MatchR (r.getD j []) (s.getD j [])) ∧ Below W.heap.size W wr) (fun i _ => m - (intOf i).toNat)
    case atStart => exact ⟨0, Nat.zero_le _, rfl, fun j hj => absurd hj (Nat.not_lt_zero _), Below.refl _ _⟩
    case round =>
      obtain ⟨k, hk, rfl, hA, hb⟩ := hrel
      have HBR := Lib.hid hb
      have HA := Lib.hid hA
      clear hb hA
      by_cases hlt : k < m
      · have hd : decide ((k : Int) < (m : Int)) = true := by simp; omega
        have hkn : k < n := by omega
        obtain ⟨b, o, rfl, hb, a1, c1, e1, _, hL1⟩ := H1.out.at k (by rw [← HN.out]; exact hkn)
        have f1 : wr.cell? ⟨b, o + k, none⟩ = _ := (HBR.out.cell (p := ⟨b, o + k, none⟩) hb).trans e1
        obtain ⟨b', o', rfl, hb', a2, c2, e2, _, hL2⟩ := H2.out.at k (by rw [← HM.out]; exact hlt)
        have f2 : wr.cell? ⟨b', o' + k, none⟩ = _ := (HBR.out.cell (p := ⟨b', o' + k, none⟩) hb').trans e2
        have q0 := (HBR.out.cell (p := ⟨g, 0, none⟩) (block_lt K0.out)).trans K0.out
        have q1 := (HBR.out.cell (p := ⟨g + 1, 0, none⟩) (block_lt K1.out)).trans K1.out
        have hs1 := HR.out.2 k (by rw [← HN.out]; exact hkn)
        have hs2 := HS.out.2 k (by rw [← HM.out]; exact hlt)
        obtain ⟨x, hx⟩ : ∃ x, x = r.getD k [] := ⟨_, rfl⟩
        obtain ⟨y, hy⟩ : ∃ y, y = s.getD k [] := ⟨_, rfl⟩
        rw [← hx] at f1 hs1 hL1
        rw [← hy] at f2 hs2 hL2
        obtain ⟨p, hp⟩ : ∃ p, p = x.length := ⟨_, rfl⟩
        obtain ⟨q, hq⟩ : ∃ q, q = y.length := ⟨_, rfl⟩
        rw [← hp] at f1
        rw [← hq] at f2
        have HL1 := Lib.hid hL1
        have HL2 := Lib.hid hL2
        have HMR := Lib.hid (fun V (hv : Below wr.heap.size wr V) => rmrel_any a1 a2 c1 c2 p q x y V ((HL1.out.below HBR.out).below hv) ((HL2.out.below HBR.out).below hv) hp hq hs1 hs2)
        have HX := Lib.hid hx
        have HY := Lib.hid hy
        clear e1 e2 hb hb' hs1 hs2 hL1 hL2 hx hy hp hq
        obtain ⟨z, hz⟩ : ∃ z, z = decide (MatchR x y) := ⟨_, rfl⟩
        have HZ := Lib.hid hz
        rw [← hz] at HMR
        clear hz
        go_wp2_with fail
        have cE : ∀ d' os, Calls Tryz.prog 89 #[.slice a1 p c1, .slice a2 q c2] (Sort.grow (redrawn wr d') os)
            fun e w'' => e = .returned (.bool z) ∧ ∃ p : Regrown, w'' = Sort.grow (redrawn wr p.d) p.os := fun d' os => Calls.regrown_of (HMR.out _ (below_regrown wr d' os))
        have g0 := cell_regrown q0
        have g1 := cell_regrown q1
        have g2 := cell_regrown f1
        have g3 := cell_regrown f2
        clear q0 q1 f1 f2
        refine wp_region_quiet_below (by kernel_rfl) (by kernel_rfl) ?_
        repeat (go_big_quiet_step (with_reducible exact cE _ _))
        refine wpQuiet_nil ?_
        intro _ hw'
        obtain ⟨⟨dq, osq⟩, hw''⟩ := hw'
        subst hw''
        clear g0 g1 g2 g3 cE
        have HBZ := Lib.hid (HBR.out.trans ((below_regrown wr dq osq).mono HBR.out.size))
        cases z with
        | true =>
          have HF := Lib.hid (show ∀ j, j < k + 1 → MatchR (r.getD j []) (s.getD j []) from fun j hj => by
            by_cases e : j = k
            · rw [e, ← HX.out, ← HY.out]; exact of_decide_eq_true HZ.out.symm
            · exact HA.out j (by omega))
          go_wp2_with fail
          go_roundw
          case rel => exact ⟨k + 1, by omega, by go_num, HF.out, HBZ.out⟩
          case measure => simp [intOf]; omega
        | false =>
          have HF := Lib.hid (show E = false by rw [HE.out]; exact decide_eq_false (fun h => of_decide_eq_false HZ.out.symm (by rw [HX.out, HY.out]; exact h.2 k (by rw [← HM.out]; exact hlt))))
          go_wp2_with fail
          go_ret
          exact ⟨by rw [HF.out]; rfl, below_next HB.out HBZ.out⟩
      · have hd : decide ((k : Int) < (m : Int)) = false := by simp; omega
        have HF := Lib.hid (show E = true by rw [HE.out]; exact decide_eq_true ⟨by rw [← HN.out, ← HM.out]; exact hl, fun j hj => HA.out j (by rw [← HM.out] at hj; omega)⟩)
        go_wp2_with fail
        go_ret
        exact ⟨by rw [HF.out]; rfl, below_next HB.out HBR.out⟩
  · have hd : decide ((n : Int) < (m : Int)) = true := by simp; omega
    have HF := Lib.hid (show E = false by rw [HE.out]; exact decide_eq_false (fun h => hl (by rw [HN.out, HM.out]; exact h.1)))
    go_enter Tryz.func68, Tryz.ntmps68
    go_wp2_with fail
    go_ret
    exact ⟨by rw [HF.out]; rfl, HB.out⟩

set_option maxRecDepth 100000 in
set_option maxHeartbeats 4000000 in
theorem rmatch_core (a0 b0 : Option Addr) (c d n m : Nat) (r s : Nm) (w : World) (h1 : RLies w a0 r) (h2 : RLies w b0 s) (hn : n = r.length) (hm : m = s.length) (hr : SmallN r) (hs : SmallN s) :
    Calls Tryz.prog 79 #[.agg #[.slice a0 n c], .agg #[.slice b0 m d]] w fun e w' => e = .returned (.bool (decide (MatchN r s))) ∧ Below w.heap.size w w' := by
  have HE := Lib.hid (fun W (hb : Below w.heap.size w W) => rwithin_core a0 b0 c d n m r s W (h1.below hb) (h2.below hb) hn hm hr hs)
  have HB := Lib.hid (belowTwo w (.cells #[.slice a0 n c] 30) (.cells #[.slice b0 m d] 30))
  have hmw := match_within r s
  obtain ⟨E, hE⟩ : ∃ E, E = decide (MatchN r s) := ⟨_, rfl⟩
  obtain ⟨v, hv⟩ : ∃ v, v = decide (WithinN r s) := ⟨_, rfl⟩
  rw [← hv] at HE
  rw [← hE]
  have HEE := Lib.hid hE
  by_cases hl : n = m
  · have HF := Lib.hid (show E = v by
      rw [hE, hv, decide_eq_decide, hmw]
      exact ⟨fun h => h.2, fun h => ⟨by rw [← hn, ← hm]; exact hl, h⟩⟩)
    subst hl
    clear h1 h2 hn hm hr hs hv hE hmw
    go_enter Tryz.func79, Tryz.ntmps79
    go_wp2_with (go_at_call 68; (with_reducible refine (HE.out _ HB.out).mono ?_); rintro e w1 ⟨rfl, hb1⟩; have HB1 := Lib.hid (below_next HB.out hb1); clear hb1)
    go_ret
    exact ⟨by rw [HF.out]; rfl, HB1.out⟩
  · have HF := Lib.hid (show E = false by rw [hE]; exact decide_eq_false (fun h => hl (by rw [hn, hm]; exact h.1)))
    have hd : ((n : Int) == (m : Int)) = false := beq_eq_false_iff_ne.2 (by omega)
    clear h1 h2 hn hm hr hs hv hE hmw hl
    go_enter Tryz.func79, Tryz.ntmps79
    go_wp2_with fail
    go_ret
    exact ⟨by rw [HF.out]; rfl, HB.out⟩
end Go.Proofs.YtofadgmnjckpcaaGreatDoor
namespace Go.Proofs.YtofadgmnjckpcaaGreatDoor
open Go.RowKit

set_option maxRecDepth 100000 in
set_option maxHeartbeats 4000000 in
theorem exact_core (a0 b0 : Option Addr) (c d n : Nat) (r : Nm) (w : World) (h1 : RLies w a0 r) (h2 : RLies w b0 r) (hn : n = r.length) (hr : SmallN r) :
    Calls Tryz.prog 45 #[.agg #[.slice a0 n c], .agg #[.slice b0 n d]] w fun e w' => e = .returned (.bool true) ∧ Below w.heap.size w w' := by
  obtain ⟨W, hW⟩ : ∃ W, W = (w.alloc (.cells #[.slice a0 n c] 30)).alloc (.cells #[.slice b0 n d] 30) := ⟨_, rfl⟩
  have hwr : (w.alloc (.cells #[.slice a0 n c] 30)).alloc (.cells #[.slice b0 n d] 30) = W := hW.symm
  have hb : Below w.heap.size w W := by rw [hW]; exact belowTwo w _ _
  have k0 : W.cell? ⟨w.heap.size, 0, none⟩ = some (.slice a0 n c) := by
    rw [hW, World.cell?_alloc_old _ _ _ (by simp), cell_of_row _ _ 0 _ _ _ (heap_alloc_new w _)]; rfl
  have k1 : W.cell? ⟨w.heap.size + 1, 0, none⟩ = some (.slice b0 n d) := by
    rw [hW]
    have := cell_of_row (w := (w.alloc (.cells #[.slice a0 n c] 30)).alloc (.cells #[.slice b0 n d] 30)) (w.heap.size + 1) 0 #[.slice b0 n d] 30 (0, 0) (by have := heap_alloc_new (w.alloc (.cells #[.slice a0 n c] 30)) (.cells #[.slice b0 n d] 30); simpa using this)
    rw [this]; rfl
  have HB := Lib.hid hb
  have H1 := Lib.hid (h1.below hb)
  have H2 := Lib.hid (h2.below hb)
  have HN := Lib.hid hn
  have HR := Lib.hid hr
  have hns : n ≤ 1000000 := by rw [hn]; exact hr.1
  have hd0 : ((n : Int) != (n : Int)) = false := by simp
  clear h1 h2 hn hr hW hb
  go_enter Tryz.func45, Tryz.ntmps45
  go_wp2_with fail
  have K0 := Lib.hid k0
  have K1 := Lib.hid k1
  obtain ⟨g, hg⟩ : ∃ g, g = w.heap.size := ⟨_, rfl⟩
  have HG := Lib.hid hg
  rw [← hg] at K0 K1 ⊢
  clear hwr k0 k1 hd0 hg
  go_loopw [17] (fun i wr => ∃ k : Nat, k ≤ n ∧ i = .int .i64 k ∧ Below W.heap.size W wr) (fun i _ => n - (intOf i).toNat)
  case atStart => exact ⟨0, Nat.zero_le _, rfl, Below.refl _ _⟩
  case round =>
    obtain ⟨wo, hwo⟩ : ∃ wo, wo = wr := ⟨_, rfl⟩
    subst hwo
    obtain ⟨k, hk, rfl, hb⟩ := hrel
    have HBR := Lib.hid hb
    clear hb
    by_cases hlt : k < n
    · have hd : decide ((k : Int) < (n : Int)) = true := by simp; omega
      obtain ⟨b, o, rfl, hb, a1, c1, e1, _, hL1⟩ := H1.out.at k (by rw [← HN.out]; exact hlt)
      have f1 : wo.cell? ⟨b, o + k, none⟩ = _ := (HBR.out.cell (p := ⟨b, o + k, none⟩) hb).trans e1
      obtain ⟨b', o', rfl, hb', a2, c2, e2, _, hL2⟩ := H2.out.at k (by rw [← HN.out]; exact hlt)
      have f2 : wo.cell? ⟨b', o' + k, none⟩ = _ := (HBR.out.cell (p := ⟨b', o' + k, none⟩) hb').trans e2
      have q0 := (HBR.out.cell (p := ⟨g, 0, none⟩) (block_lt K0.out)).trans K0.out
      have q1 := (HBR.out.cell (p := ⟨g + 1, 0, none⟩) (block_lt K1.out)).trans K1.out
      have hs1 := HR.out.2 k (by rw [← HN.out]; exact hlt)
      obtain ⟨x, hx⟩ : ∃ x, x = r.getD k [] := ⟨_, rfl⟩
      rw [← hx] at f1 f2 hs1 hL1 hL2
      obtain ⟨p, hp⟩ : ∃ p, p = x.length := ⟨_, rfl⟩
      rw [← hp] at f1 f2
      have hpz : p ≤ 1000000 := by rw [hp]; exact hs1.1
      have HL1 := Lib.hid hL1
      have HL2 := Lib.hid hL2
      have HP := Lib.hid hp
      have HF1 := Lib.hid e1
      have HF2 := Lib.hid e2
      have hdp : ((p : Int) != (p : Int)) = false := by simp
      rw [← hx] at HF1 HF2
      rw [← hp] at HF1 HF2
      clear e1 e2 hb hb' hs1 hL1 hL2 hx hp
      go_wp2_with fail
      go_region
      go_wp2_with fail
      clear q0 q1 f1 f2 hdp
      have HBD := Lib.hid (HBR.out.trans ((Below.refl wo.heap.size wo).drew.mono HBR.out.size))
      go_loopw [39] (fun i ws => ∃ j : Nat, j ≤ p ∧ i = .int .i64 j ∧ Below W.heap.size W ws) (fun i _ => p - (intOf i).toNat)
      case atStart => exact ⟨0, Nat.zero_le _, rfl, HBD.out⟩
      case round =>
        obtain ⟨ws, hws⟩ : ∃ ws, ws = wr := ⟨_, rfl⟩
        subst hws
        obtain ⟨j, hj, rfl, hb⟩ := hrel
        have HBS := Lib.hid hb
        clear hb
        by_cases hjl : j < p
        · have hdj : decide ((j : Int) < (p : Int)) = true := by simp; omega
          have q0 := (HBS.out.cell (p := ⟨g, 0, none⟩) (block_lt K0.out)).trans K0.out
          have q1 := (HBS.out.cell (p := ⟨g + 1, 0, none⟩) (block_lt K1.out)).trans K1.out
          have f1 := (HBS.out.cell (p := ⟨b, o + k, none⟩) (block_lt HF1.out)).trans HF1.out
          have f2 := (HBS.out.cell (p := ⟨b', o' + k, none⟩) (block_lt HF2.out)).trans HF2.out
          obtain ⟨b3, o3, rfl, h3, m0, m1, m2⟩ := HL1.out.at j (by rw [← HP.out]; exact hjl)
          obtain ⟨b4, o4, rfl, h4, n0, n1, n2⟩ := HL2.out.at j (by rw [← HP.out]; exact hjl)
          generalize x.getD j noAt = y at m0 m1 m2 n0 n1 n2
          obtain ⟨t, kd, v⟩ := y
          have l0 : ws.cell? ⟨b3, o3 + j * 3, none⟩ = some (.string t) := (HBS.out.cell (p := ⟨b3, o3 + j * 3, none⟩) h3).trans m0
          have l1 : ws.cell? ⟨b3, o3 + j * 3 + 1, none⟩ = some (.int .i64 kd) := (HBS.out.cell (p := ⟨b3, o3 + j * 3 + 1, none⟩) h3).trans m1
          have l2 : ws.cell? ⟨b3, o3 + j * 3 + 2, none⟩ = some (.string v) := (HBS.out.cell (p := ⟨b3, o3 + j * 3 + 2, none⟩) h3).trans m2
          have r0 : ws.cell? ⟨b4, o4 + j * 3, none⟩ = some (.string t) := (HBS.out.cell (p := ⟨b4, o4 + j * 3, none⟩) h4).trans n0
          have r1 : ws.cell? ⟨b4, o4 + j * 3 + 1, none⟩ = some (.int .i64 kd) := (HBS.out.cell (p := ⟨b4, o4 + j * 3 + 1, none⟩) h4).trans n1
          have r2 : ws.cell? ⟨b4, o4 + j * 3 + 2, none⟩ = some (.string v) := (HBS.out.cell (p := ⟨b4, o4 + j * 3 + 2, none⟩) h4).trans n2
          clear m0 m1 m2 n0 n1 n2 h3 h4
          go_wp2_with fail
          go_region
          go_wp2_with fail
          go_roundw
          case rel => exact ⟨j + 1, by omega, by go_num, HBS.out.trans ((Below.refl ws.heap.size ws).drew.mono HBS.out.size)⟩
          case measure => simp [intOf]; omega
        · have hdj : decide ((j : Int) < (p : Int)) = false := by simp; omega
          go_wp2_with fail
          go_roundw
          case rel => exact ⟨k + 1, by omega, by go_num, HBS.out⟩
          case measure => simp [intOf]; omega
    · have hd : decide ((k : Int) < (n : Int)) = false := by simp; omega
      go_wp2_with fail
      go_ret
      exact ⟨rfl, below_next HB.out HBR.out⟩
end Go.Proofs.YtofadgmnjckpcaaGreatDoor
namespace Go.Proofs.YtofadgmnjckpcaaGreatDoor
open Go.RowKit

end Go.Proofs.YtofadgmnjckpcaaGreatDoor
namespace Go.Proofs.YtofadgmnjckpcaaGreatDoor
open Go.RowKit

end Go.Proofs.YtofadgmnjckpcaaGreatDoor
namespace Go.Proofs.YtofadgmnjckpcaaGreatDoor
open Go.RowKit

end Go.Proofs.YtofadgmnjckpcaaGreatDoor
namespace Go.Proofs.YtofadgmnjckpcaaGreatDoor
open Go.RowKit

theorem at_facts {w : World} {g : Nat} {x y z : Value} {t : TypeId} (h : w.heap[g]? = some (.cells #[x, y, z] t (0, 0))) :
    w.cell? ⟨g, 0, none⟩ = some x ∧ w.cell? ⟨g, 1, none⟩ = some y ∧ w.cell? ⟨g, 2, none⟩ = some z ∧ w.frozen? ⟨g, 0, none⟩ = false ∧ w.frozen? ⟨g, 1, none⟩ = false ∧ w.frozen? ⟨g, 2, none⟩ = false ∧ g < w.heap.size := by
  refine ⟨?_, ?_, ?_, Lib.frozen_of_heap h 0, Lib.frozen_of_heap h 1, Lib.frozen_of_heap h 2, (Array.getElem?_eq_some_iff.1 h).1⟩
  · rw [Lib.cell_of_heap h]; rfl
  · rw [Lib.cell_of_heap h]; rfl
  · rw [Lib.cell_of_heap h]; rfl
theorem at_set {w : World} {g : Nat} {x y z a b c : Value} {t : TypeId} (h : w.heap[g]? = some (.cells #[x, y, z] t (0, 0))) :
    (((w.setCell ⟨g, 0, none⟩ a).setCell ⟨g, 1, none⟩ b).setCell ⟨g, 2, none⟩ c).heap[g]? = some (.cells #[a, b, c] t (0, 0)) := by
  simp [World.setCell, Array.getElem?_modify, h]
theorem atSize : (Tryz.prog.info? 69).map (·.size) = some 3 := by kernel_rfl
end Go.Proofs.YtofadgmnjckpcaaGreatDoor
namespace Go.Proofs.YtofadgmnjckpcaaGreatDoor
open Go.RowKit

end Go.Proofs.YtofadgmnjckpcaaGreatDoor
namespace Go.Proofs.YtofadgmnjckpcaaGreatDoor
open Go.RowKit

theorem one_facts {w : World} {g : Nat} {x : Value} {t : TypeId} (h : w.heap[g]? = some (.cells #[x] t (0, 0))) : w.cell? ⟨g, 0, none⟩ = some x ∧ w.frozen? ⟨g, 0, none⟩ = false ∧ g < w.heap.size := by
  refine ⟨?_, Lib.frozen_of_heap h 0, (Array.getElem?_eq_some_iff.1 h).1⟩
  rw [Lib.cell_of_heap h]; rfl
theorem one_set {w : World} {g : Nat} {x a : Value} {t : TypeId} (h : w.heap[g]? = some (.cells #[x] t (0, 0))) : (w.setCell ⟨g, 0, none⟩ a).heap[g]? = some (.cells #[a] t (0, 0)) := by
  simp [World.setCell, Array.getElem?_modify, h]
theorem nmSize : (Tryz.prog.info? 30).map (·.size) = some 1 := by kernel_rfl
theorem rdInfo : (Tryz.prog.info? 67).map (fun i => (i.zero, i.size, i.bytes)) = some (some (.slice none 0 0), 1, 24) := by kernel_rfl
theorem row_news (w1 : World) (v : Value) (T : TypeId) : ∀ j u, [v][j]? = some u → (w1.alloc (.cells #[v] T)).cell? ((⟨w1.heap.size, 0, none⟩ : Addr).add j) = some u := by
  intro j u h
  exact news_row w1 #[v] T j u (by simpa using h)

theorem one_one (a : Option Addr) (n c : Nat) : ∀ u ∈ [Value.slice a n c], u.oneCell' = true := by
  intro u hu
  obtain rfl : u = _ := by simpa using hu
  rfl
/-- The box of a name stays while its row grows. -/
theorem more_box {wr w1 w2 : World} {p B n k : Nat} {x v : Value} {T e : TypeId} {xs : List Value} {Y : Obj} (h : w1.heap[p]? = some (.cells #[x] T (0, 0))) (hp : p < B) (ho : wr.ownsRow B e k v n xs) (hg : (w1.alloc Y).grownBy w2 v.ownBlock) : w2.heap[p]? = some (.cells #[x] T (0, 0)) := by
  have hl : p < w1.heap.size := (Array.getElem?_eq_some_iff.1 h).1
  refine (hg.block p (by simp; omega) (fun e => ?_)).trans (((belowNew w1 Y).block p hl).trans h)
  have := (World.ownsRow.lt ho p e.symm).1
  omega
end Go.Proofs.YtofadgmnjckpcaaGreatDoor
