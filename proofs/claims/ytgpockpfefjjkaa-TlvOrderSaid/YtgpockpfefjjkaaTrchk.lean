/-
  The contract of the reference's check: the first error within an element.
-/
import Derived.Test.YtgpockpfefjjkaaTchk
namespace Go.Proofs.Ytgpockpfefjjkaa
open Go.RowKit

set_option maxRecDepth 100000 in
set_option maxHeartbeats 2000000 in
theorem rwithin_any : ∀ (n : Nat) (t k : Nat) (c r : ByteArray) (w : World) (K : Int), c.size < n → t < 256 → k ≤ 15 → K = (k : Int) → c.size ≤ 1099511627776 →
    Calls Try.prog 39 #[.agg #[.int .i64 (t : Nat), .string c, .string r], .int .i64 K] w fun e w' => e = .returned (.int .i64 ((chkEl (15 - k) t c : Nat) : Int)) ∧ Below w.heap.size w w' := by
  intro n
  induction n with
  | zero => exact fun t k c r w K hn => absurd hn (Nat.not_lt_zero _)
  | succ n ih =>
  intro t k c r w K hn ht hk hK hs
  have IH := Lib.hid ih
  clear ih
  subst hK
  by_cases h1 : t / 32 % 2 = 0
  · have HF := Lib.hid (show chkEl (15 - k) t c = 0 from if_pos h1)
    obtain ⟨q, hq⟩ : ∃ q, q = t / 32 := ⟨_, rfl⟩
    have dq : (t : Int) / 32 = (q : Int) := by omega
    have dw : wrap64 (q : Int) = (q : Int) := by simp [wrap64]; omega
    have dt : ((q : Int) % 2 == 0) = true := beq_iff_eq.2 (by omega)
    clear hq
    have HT := Lib.hid ht
    clear h1 ht
    rw [HF.out]
    go_enter Try.func39, Try.ntmps39
    go_wp2_with fail
    go_ret
    exact ⟨rfl, belowNew _ _⟩
  · have HF := Lib.hid (show chkEl (15 - k) t c = chk (15 - k) c from if_neg h1)
    obtain ⟨q, hq⟩ : ∃ q, q = t / 32 := ⟨_, rfl⟩
    have dq : (t : Int) / 32 = (q : Int) := by omega
    have dw : wrap64 (q : Int) = (q : Int) := by simp [wrap64]; omega
    have dt : ((q : Int) % 2 == 0) = false := beq_eq_false_iff_ne.2 (by omega)
    clear hq
    have HT := Lib.hid ht
    clear h1 ht
    rw [HF.out]
    go_enter Try.func39, Try.ntmps39
    go_wp2_with fail
    clear dq dw dt
    go_loopw [5] (fun s wr => ∃ u : ByteArray, s = .string u ∧ u.size ≤ c.size ∧ chk (15 - k) u = chk (15 - k) c ∧ Below w.heap.size w wr) (fun s _ => strLen s)
    case atStart => exact ⟨c, rfl, Nat.le_refl _, rfl, belowNew _ _⟩
    case round =>
      obtain ⟨u, rfl, hu, hc, hb⟩ := hrel
      have HS := Lib.hid (show u.size ≤ 1099511627776 by omega)
      have HB := Lib.hid hb
      have HC := Lib.hid hc
      have HU := Lib.hid hu
      have HN := Lib.hid hn
      clear hb hc hu hn hs
      by_cases h0 : u.size = 0
      · have er : u = ⟨#[]⟩ := by
          apply ByteArray.ext
          exact Array.eq_empty_of_size_eq_zero h0
        subst er
        have HR := Lib.hid (HC.out.symm.trans (chk_nil h0))
        clear h0
        go_wp2_with fail
        go_ret
        exact ⟨by rw [HR.out]; rfl, HB.out⟩
      · have he := nonempty_list h0
        have hpos : 0 < u.size := by omega
        by_cases hx : rdErr u = 0
        · have HV := Lib.hid (rdVal_good hx)
          by_cases hk2 : k = 15
          · subst hk2
            have HR := Lib.hid (HC.out.symm.trans (chk_deep h0 hx))
            clear hx h0
            go_wp2_with (go_at_call 27; (with_reducible refine (rread_any u _ HS.out).mono ?_); rw [HV.out]; rintro e w1 ⟨rfl, hb1⟩; have HB1 := Lib.hid hb1; clear hb1)
            go_ret
            exact ⟨by rw [HR.out]; rfl, (HB.out.trans (HB1.out.mono HB.out.size)).alloc (by have := HB.out.size; have := HB1.out.size; omega) _⟩
          · have dk : decide (16 ≤ (k : Int) + 1) = false := by simp; omega
            obtain ⟨d, hd⟩ : ∃ d, 15 - k = d + 1 := ⟨15 - k - 1, by omega⟩
            have hd2 : 15 - (k + 1) = d := by omega
            have HD2 := Lib.hid hd2
            have hin : chkEl d (rdTag u) (rdContent u) ≠ 0 → chk (15 - k) u = chkEl d (rdTag u) (rdContent u) := fun h => by rw [hd]; exact chk_in h0 hx h
            have hon : chkEl d (rdTag u) (rdContent u) = 0 → chk (15 - k) u = chk (15 - k) (rdRest u) := fun h => by rw [hd]; exact chk_on h0 hx h
            have hcs := rdContent_size hx
            have hrs := rdRest_size hx
            have HI := Lib.hid (show (rdContent u).size < n by have := HU.out; have := HN.out; omega)
            have HI2 := Lib.hid (show (rdContent u).size ≤ 1099511627776 by have := HS.out; omega)
            have HRS := Lib.hid hrs
            have HK := Lib.hid (show k + 1 ≤ 15 by omega)
            by_cases hy : chkEl d (rdTag u) (rdContent u) = 0
            · have HR := Lib.hid ((hon hy).symm.trans HC.out)
              have HY := Lib.hid hy
              clear hx h0 hin hon hcs hrs hy hd hd2 hk2
              go_wp2_with (first | (go_at_call 27; (with_reducible refine (rread_any u _ HS.out).mono ?_); rw [HV.out]; rintro e w1 ⟨rfl, hb1⟩; have HB1 := Lib.hid hb1; clear hb1) | (go_at_call 39; (with_reducible refine (IH.out (rdTag u) (k + 1) (rdContent u) (rdRaw u) _ ((k : Int) + 1) HI.out (rdTag_lt u) HK.out (by omega) HI2.out).mono ?_); rw [HD2.out, HY.out]; rintro e w2 ⟨rfl, hb2⟩; have HB2 := Lib.hid hb2; clear hb2))
              go_roundw
              case rel => exact ⟨rdRest u, rfl, by have := HRS.out; have := HU.out; omega, HR.out, ((HB.out.trans (HB1.out.mono HB.out.size)).alloc (by have := HB.out.size; have := HB1.out.size; omega) _).trans (HB2.out.mono (by have := HB.out.size; have := HB1.out.size; simp; omega))⟩
              case measure => exact HRS.out
            · have HR := Lib.hid ((hin hy).symm.trans HC.out)
              generalize ey : chkEl d (rdTag u) (rdContent u) = y at hy HR
              have HY := Lib.hid ey
              have dy : ((y : Int) != 0) = true := by simp; omega
              clear hx h0 hin hon hcs hrs hy hd hd2 hk2 ey
              go_wp2_with (first | (go_at_call 27; (with_reducible refine (rread_any u _ HS.out).mono ?_); rw [HV.out]; rintro e w1 ⟨rfl, hb1⟩; have HB1 := Lib.hid hb1; clear hb1) | (go_at_call 39; (with_reducible refine (IH.out (rdTag u) (k + 1) (rdContent u) (rdRaw u) _ ((k : Int) + 1) HI.out (rdTag_lt u) HK.out (by omega) HI2.out).mono ?_); rw [HD2.out, HY.out]; rintro e w2 ⟨rfl, hb2⟩; have HB2 := Lib.hid hb2; clear hb2))
              go_ret
              exact ⟨by rw [← HR.out]; rfl, ((HB.out.trans (HB1.out.mono HB.out.size)).alloc (by have := HB.out.size; have := HB1.out.size; omega) _).trans (HB2.out.mono (by have := HB.out.size; have := HB1.out.size; simp; omega))⟩
        · have HV := Lib.hid (rdVal_bad hx)
          have HR := Lib.hid (HC.out.symm.trans (chk_bad h0 hx))
          have dx : (((rdErr u : Nat) : Int) != 0) = true := by simp; omega
          clear hx h0
          go_wp2_with (go_at_call 27; (with_reducible refine (rread_any u _ HS.out).mono ?_); rw [HV.out]; rintro e w1 ⟨rfl, hb1⟩; have HB1 := Lib.hid hb1; clear hb1)
          go_ret
          exact ⟨by rw [HR.out]; rfl, (HB.out.trans (HB1.out.mono HB.out.size)).alloc (by have := HB.out.size; have := HB1.out.size; omega) _⟩
end Go.Proofs.Ytgpockpfefjjkaa
