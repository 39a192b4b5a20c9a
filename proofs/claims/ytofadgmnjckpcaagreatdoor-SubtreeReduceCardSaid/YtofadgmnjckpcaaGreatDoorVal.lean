/-
  The contract of the reference's AddressWithin: whether an address or a range lies within a range.
-/
import Derived.Test.YtofadgmnjckpcaaGreatDoorVak
import Derived.Lib.QuietBelow
import Derived.BigQuiet
namespace Go.Proofs.YtofadgmnjckpcaaGreatDoor
open Go.RowKit

theorem and_u8 (a b : UInt8) : bits BinOp.and .u8 ((a.toNat : Nat) : Int) ((b.toNat : Nat) : Int) = (((a &&& b).toNat : Nat) : Int) := by
  show IntKind.u8.wrap ((BitVec.ofInt 8 (a.toNat : Int) &&& BitVec.ofInt 8 (b.toNat : Int)).toNat : Int) = _
  rw [BitVec.toNat_and, BitVec.toNat_ofInt, BitVec.toNat_ofInt, UInt8.toNat_and]
  have e1 : ((a.toNat : Int) % (2 ^ 8 : Nat)).toNat = a.toNat := by
    have := a.toNat_lt
    show ((a.toNat : Int) % (256 : Nat)).toNat = a.toNat
    omega
  have e2 : ((b.toNat : Int) % (2 ^ 8 : Nat)).toNat = b.toNat := by
    have := b.toNat_lt
    show ((b.toNat : Int) % (256 : Nat)).toNat = b.toNat
    omega
  rw [e1, e2]
  have h : a.toNat &&& b.toNat ≤ a.toNat := Nat.and_le_left
  have := a.toNat_lt
  simp [IntKind.wrap, IntKind.bits, IntKind.signed]
  omega
theorem byte_neq {c d : UInt8} (h : c ≠ d) : (((c.toNat : Nat) : Int) != ((d.toNat : Nat) : Int)) = true := by
  have : ¬ c.toNat = d.toNat := fun e => h (UInt8.toNat_inj.1 e)
  simp; omega
theorem byte_eqq {c d : UInt8} (h : c = d) : (((c.toNat : Nat) : Int) != ((d.toNat : Nat) : Int)) = false := by rw [h]; simp
theorem u8_of (L : List UInt8) (i : Nat) : u8at (strOf L) i = (L.getD i 0).toNat := rfl
theorem range_len {L : List UInt8} (h : rangeB L = true) : L.length = 8 ∨ L.length = 32 := by
  unfold rangeB at h
  rw [Bool.and_eq_true, Bool.or_eq_true, decide_eq_true_iff, decide_eq_true_iff] at h
  exact h.1
theorem addr_len {L : List UInt8} (h : addrB L = true) : L.length = 4 ∨ L.length = 16 := by
  unfold addrB at h
  rw [Bool.or_eq_true, decide_eq_true_iff, decide_eq_true_iff] at h
  exact h
theorem aw_all {a r : List UInt8} {h : Nat} (hh : h = r.length / 2) (hr : rangeB r = true) (hw : wholeB a r = true ∨ (rangeB a = true ∧ a.length = r.length)) (ha : ∀ j, j < h → byteIn a r h j = true) : addrWithinB a r = true := by
  unfold addrWithinB
  rw [hr, ← hh, Bool.true_and, Bool.and_eq_true, Bool.or_eq_true, Bool.and_eq_true, decide_eq_true_iff, List.all_eq_true]
  exact ⟨hw, fun j hj => ha j (List.mem_range.1 hj)⟩
theorem aw_bad {a r : List UInt8} {h j : Nat} (hh : h = r.length / 2) (hj : j < h) (hb : byteIn a r h j = false) : addrWithinB a r = false := by
  unfold addrWithinB
  rw [← hh, Bool.and_eq_false_iff]
  refine .inr ?_
  rw [Bool.eq_false_iff]
  intro k
  rw [List.all_eq_true] at k
  have := k j (List.mem_range.2 hj)
  rw [hb] at this
  cases this

set_option maxRecDepth 100000 in
set_option maxHeartbeats 4000000 in
theorem raw_any (a r : List UInt8) (w : World) :
    Calls Tryz.prog 69 #[.string (strOf a), .string (strOf r)] w fun e w' => e = .returned (.bool (addrWithinB a r)) ∧ Below w.heap.size w w' := by
  have e0 := strOf_size a
  have e1 := strOf_size r
  cases h1 : rangeB r with
  | false =>
    have HR := Lib.hid (fun w => rrange_is h1 w)
    have HE := Lib.hid (show addrWithinB a r = false by unfold addrWithinB; rw [h1]; rfl)
    clear h1
    go_enter Tryz.func69, Tryz.ntmps69
    go_wp2_with (first
      | (go_at_call 90; (with_reducible refine (HR.out _).mono ?_); rintro e w1 ⟨rfl, hb1⟩; have HB1 := Lib.hid hb1; clear hb1))
    go_ret
    exact ⟨by rw [HE.out]; rfl, HB1.out⟩
  | true =>
    have HR := Lib.hid (fun w => rrange_is h1 w)
    have H1 := Lib.hid h1
    have hl := range_len h1
    obtain ⟨h, hh⟩ : ∃ h, h = r.length / 2 := ⟨_, rfl⟩
    have HH := Lib.hid hh
    obtain ⟨n, hn⟩ : ∃ n, n = r.length := ⟨_, rfl⟩
    obtain ⟨m, hm⟩ : ∃ m, m = a.length := ⟨_, rfl⟩
    rw [← hn] at e1
    rw [← hm] at e0
    have HN := Lib.hid hn
    have HM := Lib.hid hm
    have hb : h ≤ 16 := by omega
    have HN2 := Lib.hid (show n = 2 * h by omega)
    have hq : (n : Int) / 2 = (h : Int) := by omega
    cases h2 : addrB a with
    | true =>
      have HA := Lib.hid (fun w => raddr_is h2 w)
      have hal := addr_len h2
      by_cases h3 : m = h
      · have d3 : ((m : Int) == (h : Int)) = true := by rw [h3]; simp
        have HW := Lib.hid (show wholeB a r = true by unfold wholeB; rw [h2, ← hm, ← hh, decide_eq_true h3]; rfl)
        have HWR := Lib.hid (show wholeB a r = true ∨ (rangeB a = true ∧ a.length = r.length) from .inl HW.out)
        have HM2 := Lib.hid h3
        clear h1 h2 h3 hl hal hh hn hm
        go_enter Tryz.func69, Tryz.ntmps69
        go_wp2_with (first
          | (go_at_call 90; (with_reducible refine (HR.out _).mono ?_); rintro e w1 ⟨rfl, hb1⟩; have HB1 := Lib.hid hb1; clear hb1)
          | (go_at_call 91; (with_reducible refine (HA.out _).mono ?_); rintro e w2 ⟨rfl, hb2⟩; have HB2 := Lib.hid (below_next HB1.out hb2); clear hb2))
        clear d3
        clear hq
        go_loopw [7] (fun i wr => ∃ k : Nat, k ≤ h ∧ i = .int .i64 (k : Int) ∧ (∀ j, j < k → byteIn a r h j = true) ∧ Below w.heap.size w wr) (fun i _ => h - (intOf i).toNat)
        case atStart => exact ⟨0, Nat.zero_le _, rfl, fun j hj => absurd hj (Nat.not_lt_zero _), HB2.out⟩
        case round =>
          obtain ⟨wz, hwz⟩ : ∃ wz, wz = wr := ⟨_, rfl⟩
          subst hwz
          obtain ⟨k, hk, rfl, hall, hbz⟩ := hrel
          have HX := Lib.hid hall
          have HZ := Lib.hid hbz
          clear hall hbz
          by_cases hlt : k < h
          · have hd : decide ((k : Int) < (h : Int)) = true := decide_eq_true (by omega)
            have i1 := run_index_u8 (P := Tryz.prog) Tryz.underlying9 (strOf a) k (by rw [e0, HM2.out]; omega) (k : Int) rfl
            have i2 := run_index_u8 (P := Tryz.prog) Tryz.underlying9 (strOf r) (h + k) (by rw [e1, HN2.out]; omega) ((h : Int) + (k : Int)) (by omega)
            have i3 := run_index_u8 (P := Tryz.prog) Tryz.underlying9 (strOf r) k (by rw [e1, HN2.out]; omega) (k : Int) rfl
            rw [u8_of] at i1 i2 i3
            have HNXT := Lib.hid (show byteIn a r h k = true → ∀ j, j < k + 1 → byteIn a r h j = true from fun h j hj => by
              rcases Nat.lt_or_ge j k with e | e
              · exact HX.out j e
              · rw [show j = k by omega]; exact h)
            have HBAD := Lib.hid (show byteIn a r h k = false → addrWithinB a r = false from fun e => aw_bad HH.out hlt e)
            have hbi : byteIn a r h k = decide (a.getD k 0 &&& r.getD (h + k) 0 = r.getD k 0) := by unfold byteIn; rw [HW.out, Bool.true_or, Bool.and_true]
            generalize a.getD k 0 = x at i1 hbi
            generalize r.getD (h + k) 0 = y at i2 hbi
            generalize r.getD k 0 = z at i3 hbi
            have a1 := and_u8 x y
            by_cases g : x &&& y = z
            · have d1 := byte_eqq g
              have HX2 := Lib.hid (HNXT.out (by rw [hbi, decide_eq_true g]))
              clear hbi g
              generalize x &&& y = u at a1 d1
              go_wp2_with fail
              refine wp_region_quiet_below (by kernel_rfl) (by kernel_rfl) ?_
              repeat (go_big_quiet_step (fail))
              refine wpQuiet_nil ?_
              intro _ hw'
              obtain ⟨⟨dq, osq⟩, hw''⟩ := hw'
              subst hw''
              have HZ2 := Lib.hid (below_next HZ.out (below_regrown wz dq osq))
              go_wp2_with fail
              go_roundw
              case rel => exact ⟨k + 1, by omega, by go_num, HX2.out, HZ2.out⟩
              case measure => simp [intOf]; omega
            · have d1 := byte_neq g
              have HE := Lib.hid (HBAD.out (by rw [hbi, decide_eq_false g]))
              clear hbi g
              generalize x &&& y = u at a1 d1
              go_wp2_with fail
              refine wp_region_quiet_below (by kernel_rfl) (by kernel_rfl) ?_
              repeat (go_big_quiet_step (fail))
              refine wpQuiet_nil ?_
              intro _ hw'
              obtain ⟨⟨dq, osq⟩, hw''⟩ := hw'
              subst hw''
              have HZ2 := Lib.hid (below_next HZ.out (below_regrown wz dq osq))
              go_wp2_with fail
              go_ret
              exact ⟨by rw [HE.out]; rfl, HZ2.out⟩
          · have ek : k = h := by omega
            have hd : decide ((k : Int) < (h : Int)) = false := decide_eq_false (by omega)
            have HE := Lib.hid (aw_all HH.out H1.out HWR.out fun j hj => HX.out j (by omega))
            clear ek
            go_wp2_with fail
            go_ret
            exact ⟨by rw [HE.out]; rfl, HZ.out⟩
      · have d3 : ((m : Int) == (h : Int)) = false := by simp; omega
        have hs : rangeB a = false := by
          rw [Bool.eq_false_iff]
          intro h
          have := range_len h
          omega
        have HS := Lib.hid (fun w => rrange_is hs w)
        have HE := Lib.hid (show addrWithinB a r = false by unfold addrWithinB wholeB; rw [hs, h2, ← hm, ← hh, decide_eq_false h3]; simp)
        clear h1 h2 h3 hl hal hh hn hm hs
        go_enter Tryz.func69, Tryz.ntmps69
        go_wp2_with (first
          | (go_at_call 90; (with_reducible refine (HR.out _).mono ?_); rintro e w1 ⟨rfl, hb1⟩; have HB1 := Lib.hid hb1; clear hb1)
          | (go_at_call 91; (with_reducible refine (HA.out _).mono ?_); rintro e w2 ⟨rfl, hb2⟩; have HB2 := Lib.hid (below_next HB1.out hb2); clear hb2)
          | (go_at_call 90; (with_reducible refine (HS.out _).mono ?_); rintro e w3 ⟨rfl, hb3⟩; have HB3 := Lib.hid (below_next HB2.out hb3); clear hb3))
        go_ret
        exact ⟨by rw [HE.out]; rfl, HB3.out⟩
    | false =>
      have HA := Lib.hid (fun w => raddr_is h2 w)
      have hw : wholeB a r = false := by unfold wholeB; rw [h2]; rfl
      cases hs : rangeB a with
      | false =>
        have HS := Lib.hid (fun w => rrange_is hs w)
        have HE := Lib.hid (show addrWithinB a r = false by unfold addrWithinB; rw [hs, hw]; simp)
        clear h1 h2 hl hh hn hm hs hw
        go_enter Tryz.func69, Tryz.ntmps69
        go_wp2_with (first
          | (go_at_call 90; (with_reducible refine (HR.out _).mono ?_); rintro e w1 ⟨rfl, hb1⟩; have HB1 := Lib.hid hb1; clear hb1)
          | (go_at_call 91; (with_reducible refine (HA.out _).mono ?_); rintro e w2 ⟨rfl, hb2⟩; have HB2 := Lib.hid (below_next HB1.out hb2); clear hb2)
          | (go_at_call 90; (with_reducible refine (HS.out _).mono ?_); rintro e w3 ⟨rfl, hb3⟩; have HB3 := Lib.hid (below_next HB2.out hb3); clear hb3))
        go_ret
        exact ⟨by rw [HE.out]; rfl, HB3.out⟩
      | true =>
        have HS := Lib.hid (fun w => rrange_is hs w)
        by_cases h3 : m = n
        · have d3 : ((m : Int) != (n : Int)) = false := by rw [h3]; simp
          have HW := Lib.hid hw
          have HWR := Lib.hid (show wholeB a r = true ∨ (rangeB a = true ∧ a.length = r.length) from .inr ⟨hs, by omega⟩)
          have HM2 := Lib.hid (show m = 2 * h by rw [h3, HN2.out])
          clear h1 h2 h3 hl hh hn hm hs hw
          go_enter Tryz.func69, Tryz.ntmps69
          go_wp2_with (first
            | (go_at_call 90; (with_reducible refine (HR.out _).mono ?_); rintro e w1 ⟨rfl, hb1⟩; have HB1 := Lib.hid hb1; clear hb1)
            | (go_at_call 91; (with_reducible refine (HA.out _).mono ?_); rintro e w2 ⟨rfl, hb2⟩; have HB2 := Lib.hid (below_next HB1.out hb2); clear hb2)
            | (go_at_call 90; (with_reducible refine (HS.out _).mono ?_); rintro e w3 ⟨rfl, hb3⟩; have HB20 := HB2; have HB2 := Lib.hid (below_next HB20.out hb3); clear hb3))
          clear d3
          clear hq
          go_loopw [7] (fun i wr => ∃ k : Nat, k ≤ h ∧ i = .int .i64 (k : Int) ∧ (∀ j, j < k → byteIn a r h j = true) ∧ Below w.heap.size w wr) (fun i _ => h - (intOf i).toNat)
          case atStart => exact ⟨0, Nat.zero_le _, rfl, fun j hj => absurd hj (Nat.not_lt_zero _), HB2.out⟩
          case round =>
            obtain ⟨wz, hwz⟩ : ∃ wz, wz = wr := ⟨_, rfl⟩
            subst hwz
            obtain ⟨k, hk, rfl, hall, hbz⟩ := hrel
            have HX := Lib.hid hall
            have HZ := Lib.hid hbz
            clear hall hbz
            by_cases hlt : k < h
            · have hd : decide ((k : Int) < (h : Int)) = true := decide_eq_true (by omega)
              have i1 := run_index_u8 (P := Tryz.prog) Tryz.underlying9 (strOf a) k (by rw [e0, HM2.out]; omega) (k : Int) rfl
              have i2 := run_index_u8 (P := Tryz.prog) Tryz.underlying9 (strOf r) (h + k) (by rw [e1, HN2.out]; omega) ((h : Int) + (k : Int)) (by omega)
              have i3 := run_index_u8 (P := Tryz.prog) Tryz.underlying9 (strOf r) k (by rw [e1, HN2.out]; omega) (k : Int) rfl
              rw [u8_of] at i1 i2 i3
              have HNXT := Lib.hid (show byteIn a r h k = true → ∀ j, j < k + 1 → byteIn a r h j = true from fun h j hj => by
                rcases Nat.lt_or_ge j k with e | e
                · exact HX.out j e
                · rw [show j = k by omega]; exact h)
              have HBAD := Lib.hid (show byteIn a r h k = false → addrWithinB a r = false from fun e => aw_bad HH.out hlt e)
              have i4 := run_index_u8 (P := Tryz.prog) Tryz.underlying9 (strOf a) (h + k) (by rw [e0, HM2.out]; omega) ((h : Int) + (k : Int)) (by omega)
              rw [u8_of] at i4
              have hbi : byteIn a r h k = (decide (a.getD k 0 &&& r.getD (h + k) 0 = r.getD k 0) && decide (a.getD (h + k) 0 &&& r.getD (h + k) 0 = r.getD (h + k) 0)) := by unfold byteIn; rw [HW.out, Bool.false_or]
              generalize a.getD k 0 = x at i1 hbi
              generalize r.getD (h + k) 0 = y at i2 hbi
              generalize r.getD k 0 = z at i3 hbi
              generalize a.getD (h + k) 0 = v at i4 hbi
              have a1 := and_u8 x y
              by_cases g : x &&& y = z
              · have d1 := byte_eqq g
                rw [decide_eq_true g, Bool.true_and] at hbi
                have a2 := and_u8 v y
                by_cases g2 : v &&& y = y
                · have d2 := byte_eqq g2
                  have HX2 := Lib.hid (HNXT.out (by rw [hbi, decide_eq_true g2]))
                  clear hbi g g2
                  generalize x &&& y = u at a1 d1
                  generalize v &&& y = t at a2 d2
                  go_wp2_with fail
                  refine wp_region_quiet_below (by kernel_rfl) (by kernel_rfl) ?_
                  repeat (go_big_quiet_step (fail))
                  refine wpQuiet_nil ?_
                  intro _ hw'
                  obtain ⟨⟨dq, osq⟩, hw''⟩ := hw'
                  subst hw''
                  have HZ2 := Lib.hid (below_next HZ.out (below_regrown wz dq osq))
                  go_wp2_with fail
                  go_roundw
                  case rel => exact ⟨k + 1, by omega, by go_num, HX2.out, HZ2.out⟩
                  case measure => simp [intOf]; omega
                · have d2 := byte_neq g2
                  have HE := Lib.hid (HBAD.out (by rw [hbi, decide_eq_false g2]))
                  clear hbi g g2
                  generalize x &&& y = u at a1 d1
                  generalize v &&& y = t at a2 d2
                  go_wp2_with fail
                  refine wp_region_quiet_below (by kernel_rfl) (by kernel_rfl) ?_
                  repeat (go_big_quiet_step (fail))
                  refine wpQuiet_nil ?_
                  intro _ hw'
                  obtain ⟨⟨dq, osq⟩, hw''⟩ := hw'
                  subst hw''
                  have HZ2 := Lib.hid (below_next HZ.out (below_regrown wz dq osq))
                  go_wp2_with fail
                  go_ret
                  exact ⟨by rw [HE.out]; rfl, HZ2.out⟩
              · have d1 := byte_neq g
                have HE := Lib.hid (HBAD.out (by rw [hbi, decide_eq_false g, Bool.false_and]))
                clear hbi g
                generalize x &&& y = u at a1 d1
                go_wp2_with fail
                refine wp_region_quiet_below (by kernel_rfl) (by kernel_rfl) ?_
                repeat (go_big_quiet_step (fail))
                refine wpQuiet_nil ?_
                intro _ hw'
                obtain ⟨⟨dq, osq⟩, hw''⟩ := hw'
                subst hw''
                have HZ2 := Lib.hid (below_next HZ.out (below_regrown wz dq osq))
                go_wp2_with fail
                go_ret
                exact ⟨by rw [HE.out]; rfl, HZ2.out⟩
            · have ek : k = h := by omega
              have hd : decide ((k : Int) < (h : Int)) = false := decide_eq_false (by omega)
              have HE := Lib.hid (aw_all HH.out H1.out HWR.out fun j hj => HX.out j (by omega))
              clear ek
              go_wp2_with fail
              go_ret
              exact ⟨by rw [HE.out]; rfl, HZ.out⟩
        · have d3 : ((m : Int) != (n : Int)) = true := by simp; omega
          have HE := Lib.hid (show addrWithinB a r = false by unfold addrWithinB; rw [hs, hw, decide_eq_false (show ¬ a.length = r.length by omega)]; simp)
          clear h1 h2 h3 hl hh hn hm hs hw
          go_enter Tryz.func69, Tryz.ntmps69
          go_wp2_with (first
            | (go_at_call 90; (with_reducible refine (HR.out _).mono ?_); rintro e w1 ⟨rfl, hb1⟩; have HB1 := Lib.hid hb1; clear hb1)
            | (go_at_call 91; (with_reducible refine (HA.out _).mono ?_); rintro e w2 ⟨rfl, hb2⟩; have HB2 := Lib.hid (below_next HB1.out hb2); clear hb2)
            | (go_at_call 90; (with_reducible refine (HS.out _).mono ?_); rintro e w3 ⟨rfl, hb3⟩; have HB3 := Lib.hid (below_next HB2.out hb3); clear hb3))
          go_ret
          exact ⟨by rw [HE.out]; rfl, HB3.out⟩
end Go.Proofs.YtofadgmnjckpcaaGreatDoor
