/-
  The contracts of oid.Under and of the reference's UnderOID.
-/
import Derived.Test.YtapokiplmcfmoaaDoorOless
import Derived.Test.YtapokiplmcfmoaaDoorOdecno
namespace Go.Proofs.YtapokiplmcfmoaaDoor
open Go.RowKit

/-- Is the object identifier s under t? -/
noncomputable def underB (s t : List UInt8) : Bool := @decide (∃ a b, Oid s a ∧ Oid t b ∧ under a b = true) (Classical.propDecidable _)
theorem underB_of {s t : List UInt8} {a b : List Nat} (hs : Oid s a) (ht : Oid t b) : underB s t = under a b := by
  unfold underB
  cases h : under a b with
  | true => exact @decide_eq_true _ (Classical.propDecidable _) ⟨a, b, hs, ht, h⟩
  | false =>
    refine @decide_eq_false _ (Classical.propDecidable _) ?_
    rintro ⟨a', b', h1, h2, h3⟩
    rw [oid_one h1 hs, oid_one h2 ht, h] at h3
    cases h3
theorem underB_no1 {s t : List UInt8} (h : ∀ a, ¬ Oid s a) : underB s t = false := by
  unfold underB
  refine @decide_eq_false _ (Classical.propDecidable _) ?_
  rintro ⟨a, b, h1, _⟩
  exact h a h1
theorem underB_no2 {s t : List UInt8} (h : ∀ a, ¬ Oid t a) : underB s t = false := by
  unfold underB
  refine @decide_eq_false _ (Classical.propDecidable _) ?_
  rintro ⟨a, b, _, h1, _⟩
  exact h b h1
theorem dot_any (a : ByteArray) (h : a.size ≤ 1099511627) (w : World) : (Op.stringOp .add a ⟨#[46]⟩).run Tryd.prog w = .ok (.string (a ++ ⟨#[46]⟩)) w := run_string_add_sum w a ⟨#[46]⟩ (by show a.size + 1 ≤ _; omega)

set_option maxRecDepth 100000 in
set_option maxHeartbeats 1000000 in
theorem under_any (s t : ByteArray) (w : World) (hs : s.size ≤ 1099511627) (ht : t.size ≤ 1099511627) :
    Calls Tryd.prog 19 #[.string s, .string t] w fun e w' => e = .returned (.bool (underB s.data.toList t.data.toList)) ∧ Below w.heap.size w w' := by
  have q1 := dot_any s hs
  have q2 := dot_any t ht
  rcases oid_or s.data.toList with ⟨a, ha⟩ | ha
  · rcases oid_or t.data.toList with ⟨b, hb⟩ | hb
    · rw [underB_of ha hb]
      have HA := Lib.hid ha
      have HB := Lib.hid hb
      have HU := Lib.hid (show Lib.hasPrefix (s ++ ⟨#[46]⟩).data.toList (t ++ ⟨#[46]⟩).data.toList = under a b by
        rw [str_add, str_add]; exact under_text ha hb)
      clear ha hb
      go_enter Tryd.func19, Tryd.ntmps19
      go_wp2_with (first
        | (go_at_call 12; (with_reducible refine (valid_yes HA.out _ hs).mono ?_); rintro e w1 ⟨rfl, hb1⟩; have HB1 := Lib.hid hb1; clear hb1)
        | (go_at_call 12; (with_reducible refine (valid_yes HB.out _ ht).mono ?_); rintro e w2 ⟨rfl, hb2⟩; have HB2 := Lib.hid (below_next HB1.out hb2); clear hb2)
        | (go_at_call 29; (with_reducible refine (prefix_any _ _ _).mono ?_); rw [HU.out]; rintro e w3 ⟨rfl, rfl⟩))
      go_ret
      exact ⟨rfl, HB2.out⟩
    · rw [underB_no2 hb]
      have HA := Lib.hid ha
      have HB := Lib.hid hb
      clear ha hb
      go_enter Tryd.func19, Tryd.ntmps19
      go_wp2_with (first
        | (go_at_call 12; (with_reducible refine (valid_yes HA.out _ hs).mono ?_); rintro e w1 ⟨rfl, hb1⟩; have HB1 := Lib.hid hb1; clear hb1)
        | (go_at_call 12; (with_reducible refine (valid_no HB.out _ ht).mono ?_); rintro e w2 ⟨rfl, hb2⟩; have HB2 := Lib.hid (below_next HB1.out hb2); clear hb2))
      go_ret
      exact ⟨rfl, HB2.out⟩
  · rw [underB_no1 ha]
    have HA := Lib.hid ha
    clear ha
    go_enter Tryd.func19, Tryd.ntmps19
    go_wp2_with (go_at_call 12; (with_reducible refine (valid_no HA.out _ hs).mono ?_); rintro e w1 ⟨rfl, hb1⟩; have HB1 := Lib.hid hb1; clear hb1)
    go_ret
    exact ⟨rfl, HB1.out⟩

theorem take_eq_of {a b : List Nat} (h : b.length ≤ a.length) (hk : a.take b.length = b.take b.length) : under a b = true := by
  unfold under
  rw [List.take_of_length_le (Nat.le_refl _)] at hk
  simp [h, hk]
theorem take_ne_of {a b : List Nat} {k : Nat} (h1 : k < a.length) (h2 : k < b.length) (hne : a.getD k 0 ≠ b.getD k 0) : under a b = false := by
  cases h : under a b with
  | false => rfl
  | true =>
    exfalso
    obtain ⟨M, rfl⟩ := (under_iff a b).1 h
    exact hne (by rw [List.getD_eq_getElem?_getD, List.getD_eq_getElem?_getD, List.getElem?_append_left h2])
theorem under_long {a b : List Nat} (h : a.length < b.length) : under a b = false := by
  unfold under
  have : ¬ b.length ≤ a.length := by omega
  simp [this]

set_option maxRecDepth 100000 in
set_option maxHeartbeats 1000000 in
theorem runder_any (s t : ByteArray) (w : World) (hs : s.size ≤ 1099511627) (ht : t.size ≤ 1099511627) :
    Calls Tryd.prog 20 #[.string s, .string t] w fun e w' => e = .returned (.bool (underB s.data.toList t.data.toList)) ∧ Below w.heap.size w w' := by
  rcases oid_or s.data.toList with ⟨a, ha⟩ | ha
  · rcases oid_or t.data.toList with ⟨b, hb⟩ | hb
    · rw [underB_of ha hb]
      have HA := Lib.hid ha
      have HB := Lib.hid hb
      have ha12 := ha.1.2.1
      have hb12 := hb.1.2.1
      clear ha hb
      by_cases hlen : a.length < b.length
      · rw [under_long hlen]
        have d0 : decide ((a.length : Int) < (b.length : Int)) = true := by simp; omega
        go_enter Tryd.func20, Tryd.ntmps20
        go_wp2_with (first
          | (go_at_call 23; (with_reducible refine (rarcs_yes HA.out _ hs).mono ?_); rintro e w1 ⟨⟨g, cap, rfl, hl, hg, hcp⟩, hb1⟩; have HB1 := Lib.hid hb1; clear hb1 hl hg hcp)
          | (go_at_call 23; (with_reducible refine (rarcs_yes HB.out _ ht).mono ?_); rintro e w2 ⟨⟨g2, cap2, rfl, hl2, hg2, hcp2⟩, hb2⟩; have HB2 := Lib.hid hb2; clear hb2 hl2 hg2 hcp2))
        go_ret
        exact ⟨rfl, below_next HB1.out HB2.out⟩
      · have d0 : decide ((a.length : Int) < (b.length : Int)) = false := by simp; omega
        go_enter Tryd.func20, Tryd.ntmps20
        go_wp2_with (first
          | (go_at_call 23; (with_reducible refine (rarcs_yes HA.out _ hs).mono ?_); rintro e w1 ⟨⟨g, cap, rfl, hl, hg, hcp⟩, hb1⟩; have HB1 := Lib.hid hb1; have HL1 := Lib.hid hl; clear hb1 hl hg hcp)
          | (go_at_call 23; (with_reducible refine (rarcs_yes HB.out _ ht).mono ?_); rintro e w2 ⟨⟨g2, cap2, rfl, hl2, hg2, hcp2⟩, hb2⟩; have HB2 := Lib.hid hb2; have HL2 := Lib.hid hl2; have HL3 := Lib.hid (HL1.out.below hb2); clear hb2 hl2 hg2 hcp2))
        go_loopw [35] (fun i wr => ∃ k : Nat, k ≤ b.length ∧ i = .int .i64 (k : Int) ∧ a.take k = b.take k ∧ Below w2.heap.size w2 wr) (fun i _ => b.length - (intOf i).toNat)
        case atStart => exact ⟨0, by omega, rfl, by simp, Below.refl _ _⟩
        case round =>
          obtain ⟨k, hk2, rfl, htk, hbr⟩ := hrel
          have HT := Lib.hid htk
          have HBR := Lib.hid hbr
          clear htk
          by_cases h2 : k < b.length
          · have d2 : decide ((k : Int) < (b.length : Int)) = true := by simp; omega
            have h1 : k < a.length := by omega
            have hca := (HL3.out.below HBR.out).cell k h1
            have hcb := (HL2.out.below HBR.out).cell k h2
            have HN := Lib.hid (fun e => take_next h1 h2 HT.out e)
            have HLT := Lib.hid (fun e => take_ne_of (a := a) (b := b) h1 h2 e)
            generalize a.getD k 0 = x at hca HN HLT
            generalize b.getD k 0 = y at hcb HN HLT
            clear hbr
            by_cases hxy : x = y
            · have d3 : ((x : Int) != (y : Int)) = false := by rw [hxy]; simp
              have HX := Lib.hid hxy
              clear hxy
              go_wp2_with fail
              go_quiet (fail)
              go_wp2_with fail
              go_roundw
              case rel => exact ⟨k + 1, by omega, by go_num, HN.out HX.out, Below.drawn HBR.out _⟩
              case measure => simp [intOf]; omega
            · have d3 : ((x : Int) != (y : Int)) = true := by simp; omega
              have HF := Lib.hid (HLT.out hxy)
              clear hxy
              go_wp2_with fail
              go_quiet (fail)
              go_wp2_with fail
              go_ret
              exact ⟨by rw [HF.out]; rfl, below_next (below_next HB1.out HB2.out) (Below.drawn HBR.out _)⟩
          · obtain rfl : k = b.length := by omega
            have d2 : decide ((b.length : Int) < (b.length : Int)) = false := by simp
            have HF := Lib.hid (take_eq_of (a := a) (b := b) (by omega) HT.out)
            clear hbr
            go_wp2_with fail
            go_ret
            exact ⟨by rw [HF.out]; rfl, below_next (below_next HB1.out HB2.out) HBR.out⟩
    · rw [underB_no2 hb]
      have HA := Lib.hid ha
      have HB := Lib.hid hb
      clear ha hb
      go_enter Tryd.func20, Tryd.ntmps20
      go_wp2_with (first
        | (go_at_call 23; (with_reducible refine (rarcs_yes HA.out _ hs).mono ?_); rintro e w1 ⟨⟨g, cap, rfl, hl, hg, hcp⟩, hb1⟩; have HB1 := Lib.hid hb1; clear hb1 hl hg hcp)
        | (go_at_call 23; (with_reducible refine (rarcs_no HB.out _ ht).mono ?_); rintro e w2 ⟨rfl, hb2⟩; have HB2 := Lib.hid hb2; clear hb2))
      go_ret
      exact ⟨rfl, below_next HB1.out HB2.out⟩
  · rw [underB_no1 ha]
    have HA := Lib.hid ha
    clear ha
    go_enter Tryd.func20, Tryd.ntmps20
    rcases oid_or t.data.toList with ⟨b, hb⟩ | hb
    · have HB := Lib.hid hb
      clear hb
      go_wp2_with (first
        | (go_at_call 23; (with_reducible refine (rarcs_no HA.out _ hs).mono ?_); rintro e w1 ⟨rfl, hb1⟩; have HB1 := Lib.hid hb1; clear hb1)
        | (go_at_call 23; (with_reducible refine (rarcs_yes HB.out _ ht).mono ?_); rintro e w2 ⟨⟨g, cap, rfl, hl, hg, hcp⟩, hb2⟩; have HB2 := Lib.hid hb2; clear hb2 hl hg hcp))
      go_ret
      exact ⟨rfl, below_next HB1.out HB2.out⟩
    · have HB := Lib.hid hb
      clear hb
      go_wp2_with (first
        | (go_at_call 23; (with_reducible refine (rarcs_no HA.out _ hs).mono ?_); rintro e w1 ⟨rfl, hb1⟩; have HB1 := Lib.hid hb1; clear hb1)
        | (go_at_call 23; (with_reducible refine (rarcs_no HB.out _ ht).mono ?_); rintro e w2 ⟨rfl, hb2⟩; have HB2 := Lib.hid hb2; clear hb2))
      go_ret
      exact ⟨rfl, below_next HB1.out HB2.out⟩
end Go.Proofs.YtapokiplmcfmoaaDoor
