/-
  The contract of the reference's LessOID.
-/
import Derived.Test.YtapokiplmcfmoaaDoorOless
namespace Go.Proofs.YtapokiplmcfmoaaDoor
open Go.RowKit

set_option maxRecDepth 100000 in
set_option maxHeartbeats 1000000 in
theorem rless_any (s t : ByteArray) (w : World) (hs : s.size ≤ 1099511627) (ht : t.size ≤ 1099511627) :
    Calls Tryd.prog 18 #[.string s, .string t] w fun e w' => e = .returned (.bool (lessB s.data.toList t.data.toList)) ∧ Below w.heap.size w w' := by
  rcases oid_or s.data.toList with ⟨a, ha⟩ | ha
  · rcases oid_or t.data.toList with ⟨b, hb⟩ | hb
    · rw [lessB_of ha hb]
      have HA := Lib.hid ha
      have HB := Lib.hid hb
      have ha12 := ha.1.2.1
      have hb12 := hb.1.2.1
      clear ha hb
      go_enter Tryd.func18, Tryd.ntmps18
      go_wp2_with (first
        | (go_at_call 23; (with_reducible refine (rarcs_yes HA.out _ hs).mono ?_); rintro e w1 ⟨⟨g, cap, rfl, hl, hg, hcp⟩, hb1⟩; have HB1 := Lib.hid hb1; have HL1 := Lib.hid hl; clear hb1 hl hg hcp)
        | (go_at_call 23; (with_reducible refine (rarcs_yes HB.out _ ht).mono ?_); rintro e w2 ⟨⟨g2, cap2, rfl, hl2, hg2, hcp2⟩, hb2⟩; have HB2 := Lib.hid hb2; have HL2 := Lib.hid hl2; have HL3 := Lib.hid (HL1.out.below hb2); clear hb2 hl2 hg2 hcp2))
      go_loopw [9] (fun i wr => ∃ k : Nat, k ≤ a.length ∧ k ≤ b.length ∧ i = .int .i64 (k : Int) ∧ a.take k = b.take k ∧ Below w2.heap.size w2 wr) (fun i _ => a.length - (intOf i).toNat)
      case atStart => exact ⟨0, by omega, by omega, rfl, by simp, Below.refl _ _⟩
      case round =>
        obtain ⟨k, hk1, hk2, rfl, htk, hbr⟩ := hrel
        have HT := Lib.hid htk
        have HBR := Lib.hid hbr
        clear htk
        by_cases h1 : k < a.length
        · have d1 : decide ((k : Int) < (a.length : Int)) = true := by simp; omega
          have hca := (HL3.out.below HBR.out).cell k h1
          by_cases h2 : k < b.length
          · have d2 : decide ((k : Int) < (b.length : Int)) = true := by simp; omega
            have hcb := (HL2.out.below HBR.out).cell k h2
            have HN := Lib.hid (fun e => take_next h1 h2 HT.out e)
            have HLT := Lib.hid (fun e => ltL_at a b k h1 h2 HT.out e)
            generalize a.getD k 0 = x at hca HN HLT
            generalize b.getD k 0 = y at hcb HN HLT
            clear hbr
            by_cases hxy : x = y
            · have d3 : ((x : Int) != (y : Int)) = false := by rw [hxy]; simp
              have HX := Lib.hid hxy
              clear hxy
              go_wp2_with fail
              go_quiet (fail)
              go_wp2_with fail
              go_roundw
              case rel => exact ⟨k + 1, by omega, by omega, by go_num, HN.out HX.out, Below.drawn HBR.out _⟩
              case measure => simp [intOf]; omega
            · have d3 : ((x : Int) != (y : Int)) = true := by simp; omega
              have HF := Lib.hid (show decide (x < y) = ltL a b by rw [HLT.out hxy])
              clear hxy
              go_wp2_with fail
              go_quiet (fail)
              go_wp2_with fail
              go_quiet (fail)
              go_wp2_with fail
              go_ret
              exact ⟨by rw [← HF.out]; rfl, below_next (below_next HB1.out HB2.out) (Below.drawn (Below.drawn HBR.out _) _)⟩
          · have d2 : decide ((k : Int) < (b.length : Int)) = false := by simp; omega
            have HF := Lib.hid (show decide (a.length < b.length) = ltL a b by rw [ltL_pre a b k (.inr (by omega)) HT.out])
            clear hbr
            go_wp2_with fail
            go_ret
            exact ⟨by rw [← HF.out]; rfl, below_next (below_next HB1.out HB2.out) HBR.out⟩
        · obtain rfl : k = a.length := by omega
          have d1 : decide ((a.length : Int) < (a.length : Int)) = false := by simp
          have HF := Lib.hid (show decide (a.length < b.length) = ltL a b by rw [ltL_pre a b a.length (.inl rfl) HT.out])
          clear hbr
          go_wp2_with fail
          go_ret
          exact ⟨by rw [← HF.out]; rfl, below_next (below_next HB1.out HB2.out) HBR.out⟩
    · rw [lessB_no2 hb]
      have HA := Lib.hid ha
      have HB := Lib.hid hb
      clear ha hb
      go_enter Tryd.func18, Tryd.ntmps18
      go_wp2_with (first
        | (go_at_call 23; (with_reducible refine (rarcs_yes HA.out _ hs).mono ?_); rintro e w1 ⟨⟨g, cap, rfl, hl, hg, hcp⟩, hb1⟩; have HB1 := Lib.hid hb1; clear hb1 hl hg hcp)
        | (go_at_call 23; (with_reducible refine (rarcs_no HB.out _ ht).mono ?_); rintro e w2 ⟨rfl, hb2⟩; have HB2 := Lib.hid hb2; clear hb2))
      go_ret
      exact ⟨rfl, below_next HB1.out HB2.out⟩
  · rw [lessB_no1 ha]
    have HA := Lib.hid ha
    clear ha
    go_enter Tryd.func18, Tryd.ntmps18
    rcases oid_or t.data.toList with ⟨b, hb⟩ | hb
    · have HB := Lib.hid hb
      clear hb
      go_wp2_with (first
        | (go_at_call 23; (with_reducible refine (rarcs_no HA.out _ hs).mono ?_); rintro e w1 ⟨rfl, hb1⟩; have HB1 := Lib.hid hb1; clear hb1)
        | (go_at_call 23; (with_reducible refine (rarcs_yes HB.out _ ht).mono ?_); rintro e w2 ⟨⟨g, cap, rfl, hl, hg, hcp⟩, hb2⟩; have HB2 := Lib.hid hb2; clear hb2 hl hg hcp))
      go_ret
      exact ⟨rfl, below_next HB1.out HB2.out⟩
    · have HB := Lib.hid hb
      clear hb
      go_wp2_with (first
        | (go_at_call 23; (with_reducible refine (rarcs_no HA.out _ hs).mono ?_); rintro e w1 ⟨rfl, hb1⟩; have HB1 := Lib.hid hb1; clear hb1)
        | (go_at_call 23; (with_reducible refine (rarcs_no HB.out _ ht).mono ?_); rintro e w2 ⟨rfl, hb2⟩; have HB2 := Lib.hid hb2; clear hb2))
      go_ret
      exact ⟨rfl, below_next HB1.out HB2.out⟩
end Go.Proofs.YtapokiplmcfmoaaDoor
