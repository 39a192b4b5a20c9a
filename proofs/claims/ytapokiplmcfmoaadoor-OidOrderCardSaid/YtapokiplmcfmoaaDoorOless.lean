/-
  The contracts of slices.Compare, oid.Less and the reference's LessOID.
-/
import Derived.Test.YtapokiplmcfmoaaDoorOvalid
namespace Go.Proofs.YtapokiplmcfmoaaDoor
open Go.RowKit

/-- Is the object identifier s before t? -/
noncomputable def lessB (s t : List UInt8) : Bool := @decide (∃ a b, Oid s a ∧ Oid t b ∧ ltL a b = true) (Classical.propDecidable _)
theorem lessB_of {s t : List UInt8} {a b : List Nat} (hs : Oid s a) (ht : Oid t b) : lessB s t = ltL a b := by
  unfold lessB
  cases h : ltL a b with
  | true => exact @decide_eq_true _ (Classical.propDecidable _) ⟨a, b, hs, ht, h⟩
  | false =>
    refine @decide_eq_false _ (Classical.propDecidable _) ?_
    rintro ⟨a', b', h1, h2, h3⟩
    rw [oid_one h1 hs, oid_one h2 ht, h] at h3
    cases h3
theorem lessB_no1 {s t : List UInt8} (h : ∀ a, ¬ Oid s a) : lessB s t = false := by
  unfold lessB
  refine @decide_eq_false _ (Classical.propDecidable _) ?_
  rintro ⟨a, b, h1, _⟩
  exact h a h1
theorem lessB_no2 {s t : List UInt8} (h : ∀ a, ¬ Oid t a) : lessB s t = false := by
  unfold lessB
  refine @decide_eq_false _ (Classical.propDecidable _) ?_
  rintro ⟨a, b, _, h1, _⟩
  exact h b h1

set_option maxRecDepth 100000 in
set_option maxHeartbeats 1000000 in
theorem compare_any (a b : List Nat) (g h c d : Nat) (w : World) (ha : ILie w g a) (hb : ILie w h b) (ha12 : a.length ≤ 12) (hb12 : b.length ≤ 12) :
    Calls Tryd.prog 28 #[.slice (some ⟨g, 0, none⟩) a.length c, .slice (some ⟨h, 0, none⟩) b.length d] w fun e w' => ∃ z : Int, e = .returned (.int .i64 z) ∧ decide (z < 0) = ltL a b ∧ w' = w := by
  have HA := Lib.hid ha
  have HB := Lib.hid hb
  clear ha hb
  go_enter Tryd.func28, Tryd.ntmps28
  go_wp2_with fail
  go_loopw [11] (fun i wr => ∃ k : Nat, k ≤ a.length ∧ k ≤ b.length ∧ i = .int .i64 (k : Int) ∧ a.take k = b.take k ∧ wr = w) (fun i _ => a.length - (intOf i).toNat)
  case atStart => exact ⟨0, by omega, by omega, rfl, by simp, rfl⟩
  case round =>
    obtain ⟨k, hk1, hk2, rfl, ht, rfl⟩ := hrel
    have HT := Lib.hid ht
    clear ht
    by_cases h1 : k < a.length
    · have d1 : decide ((k : Int) < (a.length : Int)) = true := by simp; omega
      have hca := HA.out.cell k h1
      by_cases h2 : k < b.length
      · have d2 : decide ((b.length : Int) ≤ (k : Int)) = false := by simp; omega
        have hcb := HB.out.cell k h2
        have HN := Lib.hid (fun e => take_next h1 h2 HT.out e)
        have HLT := Lib.hid (fun e => ltL_at a b k h1 h2 HT.out e)
        generalize a.getD k 0 = x at hca HN HLT
        generalize b.getD k 0 = y at hcb HN HLT
        rcases Nat.lt_trichotomy x y with hxy | hxy | hxy
        · have hz : Lib.compareInt (x : Int) (y : Int) = -1 := by unfold Lib.compareInt; rw [if_pos (by omega)]
          have HF := Lib.hid (show decide ((-1 : Int) < 0) = ltL a b by rw [HLT.out (by omega)]; simp; omega)
          go_wp2_with (go_at_call 37; (with_reducible refine (cmp_any _ _ _).mono ?_); rw [hz]; rintro e w1 ⟨rfl, rfl⟩)
          go_ret
          exact ⟨-1, rfl, HF.out, rfl⟩
        · have hz : Lib.compareInt (x : Int) (y : Int) = 0 := by unfold Lib.compareInt; rw [if_neg (by omega), if_neg (by omega)]
          have HX := Lib.hid hxy
          clear hxy
          go_wp2_with (go_at_call 37; (with_reducible refine (cmp_any _ _ _).mono ?_); rw [hz]; rintro e w1 ⟨rfl, rfl⟩)
          go_roundw
          case rel => exact ⟨k + 1, by omega, by omega, by go_num, HN.out HX.out, trivial⟩
          case measure => simp [intOf]; omega
        · have hz : Lib.compareInt (x : Int) (y : Int) = 1 := by unfold Lib.compareInt; rw [if_neg (by omega), if_pos (by omega)]
          have HF := Lib.hid (show decide ((1 : Int) < 0) = ltL a b by rw [HLT.out (by omega)]; simp; omega)
          go_wp2_with (go_at_call 37; (with_reducible refine (cmp_any _ _ _).mono ?_); rw [hz]; rintro e w1 ⟨rfl, rfl⟩)
          go_ret
          exact ⟨1, rfl, HF.out, rfl⟩
      · have d2 : decide ((b.length : Int) ≤ (k : Int)) = true := by simp; omega
        have HF := Lib.hid (show decide ((1 : Int) < 0) = ltL a b by rw [ltL_pre a b k (.inr (by omega)) HT.out]; simp; omega)
        go_wp2_with fail
        go_ret
        exact ⟨1, rfl, HF.out, rfl⟩
    · obtain rfl : k = a.length := by omega
      have d1 : decide ((a.length : Int) < (a.length : Int)) = false := by simp
      by_cases h2 : a.length < b.length
      · have d2 : decide ((a.length : Int) < (b.length : Int)) = true := by simp; omega
        have HF := Lib.hid (show decide ((-1 : Int) < 0) = ltL a b by rw [ltL_pre a b a.length (.inl rfl) HT.out]; simp; omega)
        go_wp2_with fail
        go_ret
        exact ⟨-1, rfl, HF.out, rfl⟩
      · have d2 : decide ((a.length : Int) < (b.length : Int)) = false := by simp; omega
        have HF := Lib.hid (show decide ((0 : Int) < 0) = ltL a b by rw [ltL_pre a b a.length (.inl rfl) HT.out]; simp; omega)
        go_wp2_with fail
        go_ret
        exact ⟨0, rfl, HF.out, rfl⟩

set_option maxRecDepth 100000 in
set_option maxHeartbeats 1000000 in
theorem less_any (s t : ByteArray) (w : World) (hs : s.size ≤ 1099511627) (ht : t.size ≤ 1099511627) :
    Calls Tryd.prog 17 #[.string s, .string t] w fun e w' => e = .returned (.bool (lessB s.data.toList t.data.toList)) ∧ Below w.heap.size w w' := by
  rcases oid_or s.data.toList with ⟨a, ha⟩ | ha
  · rcases oid_or t.data.toList with ⟨b, hb⟩ | hb
    · rw [lessB_of ha hb]
      have HA := Lib.hid ha
      have HB := Lib.hid hb
      have HA12 := Lib.hid ha.1.2.1
      have HB12 := Lib.hid hb.1.2.1
      clear ha hb
      go_enter Tryd.func17, Tryd.ntmps17
      go_wp2_with (first
        | (go_at_call 21; (with_reducible refine (arcs_yes HA.out _ hs).mono ?_); rintro e w1 ⟨⟨g, cap, rfl, hl, hg, hcp⟩, hb1⟩; have HB1 := Lib.hid hb1; have HL1 := Lib.hid hl; clear hb1 hl hg hcp)
        | (go_at_call 21; (with_reducible refine (arcs_yes HB.out _ ht).mono ?_); rintro e w2 ⟨⟨g2, cap2, rfl, hl2, hg2, hcp2⟩, hb2⟩; have HB2 := Lib.hid hb2; have HL2 := Lib.hid hl2; have HL3 := Lib.hid (HL1.out.below hb2); clear hb2 hl2 hg2 hcp2)
        | (go_at_call 28; (with_reducible refine (compare_any a b g g2 cap cap2 _ HL3.out HL2.out HA12.out HB12.out).mono ?_); rintro e w3 ⟨z, rfl, hz, rfl⟩))
      go_ret
      exact ⟨by rw [← hz]; rfl, below_next HB1.out HB2.out⟩
    · rw [lessB_no2 hb]
      have HA := Lib.hid ha
      have HB := Lib.hid hb
      clear ha hb
      go_enter Tryd.func17, Tryd.ntmps17
      go_wp2_with (first
        | (go_at_call 21; (with_reducible refine (arcs_yes HA.out _ hs).mono ?_); rintro e w1 ⟨⟨g, cap, rfl, hl, hg, hcp⟩, hb1⟩; have HB1 := Lib.hid hb1; clear hb1 hl hg hcp)
        | (go_at_call 21; (with_reducible refine (arcs_no HB.out _ ht).mono ?_); rintro e w2 ⟨rfl, hb2⟩; have HB2 := Lib.hid hb2; clear hb2))
      go_ret
      exact ⟨rfl, below_next HB1.out HB2.out⟩
  · rw [lessB_no1 ha]
    have HA := Lib.hid ha
    clear ha
    go_enter Tryd.func17, Tryd.ntmps17
    rcases oid_or t.data.toList with ⟨b, hb⟩ | hb
    · have HB := Lib.hid hb
      clear hb
      go_wp2_with (first
        | (go_at_call 21; (with_reducible refine (arcs_no HA.out _ hs).mono ?_); rintro e w1 ⟨rfl, hb1⟩; have HB1 := Lib.hid hb1; clear hb1)
        | (go_at_call 21; (with_reducible refine (arcs_yes HB.out _ ht).mono ?_); rintro e w2 ⟨⟨g, cap, rfl, hl, hg, hcp⟩, hb2⟩; have HB2 := Lib.hid hb2; clear hb2 hl hg hcp))
      go_ret
      exact ⟨rfl, below_next HB1.out HB2.out⟩
    · have HB := Lib.hid hb
      clear hb
      go_wp2_with (first
        | (go_at_call 21; (with_reducible refine (arcs_no HA.out _ hs).mono ?_); rintro e w1 ⟨rfl, hb1⟩; have HB1 := Lib.hid hb1; clear hb1)
        | (go_at_call 21; (with_reducible refine (arcs_no HB.out _ ht).mono ?_); rintro e w2 ⟨rfl, hb2⟩; have HB2 := Lib.hid hb2; clear hb2))
      go_ret
      exact ⟨rfl, below_next HB1.out HB2.out⟩
end Go.Proofs.YtapokiplmcfmoaaDoor
