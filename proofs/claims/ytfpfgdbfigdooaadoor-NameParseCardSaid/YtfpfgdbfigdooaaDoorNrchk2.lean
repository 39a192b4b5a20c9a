/-
  The contract of the reference's CheckName: the same first error.
-/
import Derived.Test.YtfpfgdbfigdooaaDoorNrchk
namespace Go.Proofs.YtfpfgdbfigdooaaDoor
open Go.RowKit

set_option maxRecDepth 100000 in
set_option maxHeartbeats 4000000 in
theorem rchk_core (a0 : Option Addr) (c m : Nat) (n : Nm) (w : World) (h : RLies w a0 n) (hn : m = n.length) (hs : SmallN n) :
    Calls Tryd.prog 9 #[.agg #[.slice a0 m c]] w fun e w' => e = .returned (.int .i64 ((chkN n : Nat) : Int)) ∧ Below w.heap.size w w' := by
  by_cases h4 : 8 < m
  · have e : chkN n = 2 := by unfold chkN; rw [if_pos (by omega)]
    have d4 : decide ((8 : Int) < (m : Int)) = true := by simp; omega
    rw [e]
    clear e hn h hs h4
    go_enter Tryd.func9, Tryd.ntmps9
    go_wp2_with fail
    go_ret
    exact ⟨rfl, belowNew w _⟩
  have d4 : decide ((8 : Int) < (m : Int)) = false := by simp; omega
  have e : chkN n = chkRs n := by unfold chkN; rw [if_neg (by omega)]
  rw [e]
  have hL : m ≤ 1000000 := by omega
  obtain ⟨E, hE⟩ : ∃ E, E = chkRs n := ⟨_, rfl⟩
  rw [← hE]
  have HE := Lib.hid hE
  have H1 := Lib.hid h
  have HN := Lib.hid hn
  have HS := Lib.hid hs
  clear h hn hs e hE h4
  go_enter Tryd.func9, Tryd.ntmps9
  go_wp2_with fail
  go_loopw [13] (fun i wr => ∃ k : Nat, k ≤ m ∧ i = .int .i64 k ∧ E = chkRs (n.drop k) ∧ Below w.heap.size w wr) (fun i _ => m - (intOf i).toNat)
  case atStart => exact ⟨0, Nat.zero_le _, rfl, by rw [List.drop_zero]; exact HE.out, belowNew w _⟩
  case round =>
    obtain ⟨k, hk, rfl, hA, hb⟩ := hrel
    have HB := Lib.hid hb
    have HA := Lib.hid hA
    clear hb hA
    by_cases hlt : k < m
    · have hd : decide ((k : Int) < (m : Int)) = true := by simp; omega
      obtain ⟨b, o, rfl, hb, a', c', c0, hc', hL2⟩ := H1.out.at k (by rw [← HN.out]; exact hlt)
      have a0 : wr.cell? ⟨b, o + k, none⟩ = _ := (HB.out.cell (p := ⟨b, o + k, none⟩) hb).trans c0
      have HST := Lib.hid (chkRs_step n k (by rw [← HN.out]; exact hlt))
      have hsm := HS.out.2 k (by rw [← HN.out]; exact hlt)
      generalize n.getD k [] = r at a0 HST hsm hc' hL2
      obtain ⟨q, hq⟩ : ∃ q, q = r.length := ⟨_, rfl⟩
      rw [← hq] at a0 hc'
      have HCK := Lib.hid (rchkL_any a' c' q r wr (hL2.below HB.out) hq hsm)
      by_cases hq0 : q = 0
      · have e : chkR r = 14 := by unfold chkR; rw [if_pos (by omega)]
        have HF := Lib.hid (show E = 14 by rw [HA.out, HST.out, e]; rfl)
        have dq : ((q : Int) == 0) = true := beq_iff_eq.2 (by omega)
        clear c0 hb hsm hq hL2 hc' HCK e hq0 HST
        go_wp2_with fail
        go_ret
        exact ⟨by rw [HF.out]; rfl, HB.out⟩
      have dq : ((q : Int) == 0) = false := beq_eq_false_iff_ne.2 (by omega)
      by_cases hq4 : 4 < q
      · have e : chkR r = 2 := by unfold chkR; rw [if_neg (by omega), if_pos (by omega)]
        have HF := Lib.hid (show E = 2 by rw [HA.out, HST.out, e]; rfl)
        have dq4 : decide ((4 : Int) < (q : Int)) = true := by simp; omega
        clear c0 hb hsm hq hL2 hc' HCK e hq0 HST hq4
        go_wp2_with fail
        go_ret
        exact ⟨by rw [HF.out]; rfl, HB.out⟩
      have dq4 : decide ((4 : Int) < (q : Int)) = false := by simp; omega
      have e : chkR r = chkL [] r := by unfold chkR; rw [if_neg (by omega), if_neg (by omega)]
      obtain ⟨Z, hZ⟩ : ∃ Z, Z = chkL [] r := ⟨_, rfl⟩
      rw [← hZ] at e HCK
      rw [e] at HST
      clear c0 hb hsm hZ hq hL2 hc' hq0 hq4 e
      by_cases hz : Z = 0
      · subst hz
        have HF := Lib.hid (show E = chkRs (n.drop (k + 1)) by rw [HA.out, HST.out, if_pos rfl])
        go_wp2_with (go_at_call 24; (with_reducible refine HCK.out.mono ?_); rintro e w1 ⟨rfl, hb1⟩; have HB1 := Lib.hid (below_next HB.out hb1); clear hb1)
        go_roundw
        case rel => exact ⟨k + 1, by omega, by go_num, HF.out, HB1.out⟩
        case measure => simp [intOf]; omega
      · have HF := Lib.hid (show E = Z by rw [HA.out, HST.out, if_neg hz])
        have hz1 := errno_ne hz
        go_wp2_with (go_at_call 24; (with_reducible refine HCK.out.mono ?_); rintro e w1 ⟨rfl, hb1⟩; have HB1 := Lib.hid (below_next HB.out hb1); clear hb1)
        go_ret
        exact ⟨by rw [HF.out]; rfl, HB1.out⟩
    · have hd : decide ((k : Int) < (m : Int)) = false := by simp; omega
      have HF := Lib.hid (show E = 0 by rw [HA.out, chkRs_end _ _ (by rw [← HN.out]; omega)])
      go_wp2_with fail
      go_ret
      exact ⟨by rw [HF.out]; rfl, HB.out⟩
theorem rcheck_any (v : Value) (n : Nm) (w : World) (h : NameV w v n) (hs : SmallN n) :
    Calls Tryd.prog 9 #[v] w fun e w' => e = .returned (.int .i64 ((chkN n : Nat) : Int)) ∧ Below w.heap.size w w' := by
  obtain ⟨a, c, rfl, _, h⟩ := h
  exact rchk_core a c _ n w h rfl hs
end Go.Proofs.YtfpfgdbfigdooaaDoor
