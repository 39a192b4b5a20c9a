/-
  The contracts of checkRelative and Check: the first error of a relative name, of a name.
-/
import Derived.Test.YtfpfgdbfigdooaaDoorNchk
namespace Go.Proofs.YtfpfgdbfigdooaaDoor
open Go.RowKit

theorem errno_ne {e : Nat} (h : e ≠ 0) : ((e : Int) != 0) = true := by simp; omega
theorem errno_eq : (((0 : Nat) : Int) != 0) = false := by decide
set_option maxRecDepth 100000 in
set_option maxHeartbeats 4000000 in
theorem chkL_any (a0 : Option Addr) (c n : Nat) (l : List At) (w : World) (h : ALies w a0 l) (hn : n = l.length) (hc : n ≤ c) (hs : SmallR l) (hT : Tab w) :
    Calls Tryd.prog 23 #[.slice a0 n c] w fun e w' => e = .returned (.int .i64 ((chkR l : Nat) : Int)) ∧ Below w.heap.size w w' := by
  by_cases h0 : n = 0
  · subst h0
    have e : chkR l = 14 := by unfold chkR; rw [if_pos hn.symm]
    rw [e]
    clear e hn h hs hT
    go_enter Tryd.func23, Tryd.ntmps23
    go_wp2_with fail
    go_ret
    exact ⟨rfl, Below.refl _ _⟩
  have d0 : ((n : Int) == 0) = false := by simp; omega
  by_cases h4 : 4 < n
  · have e : chkR l = 2 := by unfold chkR; rw [if_neg (by omega), if_pos (by omega)]
    have d4 : decide ((4 : Int) < (n : Int)) = true := by simp; omega
    rw [e]
    clear e hn h hs hT h0 h4
    go_enter Tryd.func23, Tryd.ntmps23
    go_wp2_with fail
    go_ret
    exact ⟨rfl, Below.refl _ _⟩
  have d4 : decide ((4 : Int) < (n : Int)) = false := by simp; omega
  have e : chkR l = chkL [] l := by unfold chkR; rw [if_neg (by omega), if_neg (by omega)]
  rw [e]
  have HN4 := Lib.hid (show n ≤ 4 by omega)
  have hL : n ≤ 1000000 := by omega
  obtain ⟨E, hE⟩ : ∃ E, E = chkL [] l := ⟨_, rfl⟩
  rw [← hE]
  have HE := Lib.hid hE
  have H1 := Lib.hid h
  have HN := Lib.hid hn
  have HS := Lib.hid hs
  have HT := Lib.hid hT
  clear h hn hs hT e hE h0 h4
  go_enter Tryd.func23, Tryd.ntmps23
  go_wp2_with fail
  go_loopw [14] (fun i wr => ∃ k : Nat, k ≤ n ∧ i = .int .i64 k ∧ E = chkL (l.take k) (l.drop k) ∧ Below w.heap.size w wr) (fun i _ => n - (intOf i).toNat)
  case atStart => exact ⟨0, Nat.zero_le _, rfl, by rw [List.take_zero, List.drop_zero]; exact HE.out, Below.refl _ _⟩
  case round =>
    obtain ⟨k, hk, rfl, hA, hb⟩ := hrel
    have HB := Lib.hid hb
    have HA := Lib.hid hA
    clear hb hA
    by_cases hlt : k < n
    · have hd : decide ((k : Int) < (n : Int)) = true := by simp; omega
      obtain ⟨b, o, rfl, hb, c0, c1, c2⟩ := H1.out.at k (by rw [← HN.out]; exact hlt)
      have a0 : wr.cell? ⟨b, o + k * 3, none⟩ = _ := (HB.out.cell (p := ⟨b, o + k * 3, none⟩) hb).trans c0
      have a1 : wr.cell? ⟨b, o + k * 3 + 1, none⟩ = _ := (HB.out.cell (p := ⟨b, o + k * 3 + 1, none⟩) hb).trans c1
      have a2 : wr.cell? ⟨b, o + k * 3 + 2, none⟩ = _ := (HB.out.cell (p := ⟨b, o + k * 3 + 2, none⟩) hb).trans c2
      have HST := Lib.hid (chkL_step l k (by rw [← HN.out]; exact hlt))
      have hsm := HS.out.2 k (by rw [← HN.out]; exact hlt)
      generalize l.getD k noAt = y at a0 a1 a2 HST hsm
      obtain ⟨t, kd, v⟩ := y
      have HM1 := Lib.hid hsm.1
      have HM2 := Lib.hid hsm.2
      have hlc : k ≤ c := by omega
      have hk0 : (0 : Int) ≤ (k : Int) := by omega
      have hkc : (k : Int) ≤ (c : Int) := by omega
      obtain ⟨Z, hZ⟩ : ∃ Z, Z = chkA (l.take k) (t, kd, v) := ⟨_, rfl⟩
      rw [← hZ] at HST
      have HCK := Lib.hid (fun W (hA : ALies W (some ⟨b, o, none⟩) l) (hT : Tab W) => chkA_any t v kd (some ⟨b, o, none⟩) c k (l.take k) W HM1.out HM2.out (hA.take k) (by rw [List.length_take, ← HN.out]; omega) (by have := HN4.out; omega) hT)
      rw [← hZ] at HCK
      have HBA := Lib.hid (show Below w.heap.size w (wr.alloc (.cells #[.string t, .int .i64 kd, .string v] 26)) from below_next HB.out (belowNew wr _))
      clear c0 c1 c2 hb hsm hZ
      by_cases hz : Z = 0
      · subst hz
        have HF := Lib.hid (show E = chkL (l.take (k + 1)) (l.drop (k + 1)) by rw [HA.out, HST.out, if_pos rfl])
        go_wp2_with fail
        go_region_with (go_at_call 36; (with_reducible refine (HCK.out _ (H1.out.below HBA.out.drew) (HT.out.below HBA.out.drew)).mono ?_); rintro e w1 ⟨rfl, hb1⟩; have HB1 := Lib.hid (below_next HBA.out.drew hb1); clear hb1)
        all_goals
          go_wp2_with fail
          go_roundw
          case rel => exact ⟨k + 1, by omega, by go_num, HF.out, HB1.out⟩
          case measure => simp [intOf]; omega
      · have HF := Lib.hid (show E = Z by rw [HA.out, HST.out, if_neg hz])
        have hz1 := errno_ne hz
        go_wp2_with fail
        go_region_with (go_at_call 36; (with_reducible refine (HCK.out _ (H1.out.below HBA.out.drew) (HT.out.below HBA.out.drew)).mono ?_); rintro e w1 ⟨rfl, hb1⟩; have HB1 := Lib.hid (below_next HBA.out.drew hb1); clear hb1)
        all_goals
          go_wp2_with fail
          go_ret
          exact ⟨by rw [HF.out]; rfl, HB1.out⟩
    · have hd : decide ((k : Int) < (n : Int)) = false := by simp; omega
      have HF := Lib.hid (show E = 0 by rw [HA.out, chkL_end _ _ _ (by rw [← HN.out]; omega)])
      go_wp2_with fail
      go_ret
      exact ⟨by rw [HF.out]; rfl, HB.out⟩

set_option maxRecDepth 100000 in
set_option maxHeartbeats 4000000 in
theorem chk_core (a0 : Option Addr) (c m : Nat) (n : Nm) (w : World) (h : RLies w a0 n) (hn : m = n.length) (hs : SmallN n) (hT : Tab w) :
    Calls Tryd.prog 8 #[.agg #[.slice a0 m c]] w fun e w' => e = .returned (.int .i64 ((chkN n : Nat) : Int)) ∧ Below w.heap.size w w' := by
  by_cases h4 : 8 < m
  · have e : chkN n = 2 := by unfold chkN; rw [if_pos (by omega)]
    have d4 : decide ((8 : Int) < (m : Int)) = true := by simp; omega
    rw [e]
    clear e hn h hs hT h4
    go_enter Tryd.func8, Tryd.ntmps8
    go_wp2_with fail
    go_ret
    exact ⟨rfl, belowNew w _⟩
  have d4 : decide ((8 : Int) < (m : Int)) = false := by simp; omega
  have e : chkN n = chkRs n := by unfold chkN; rw [if_neg (by omega)]
  rw [e]
  have hL : m ≤ 1000000 := by omega
  obtain ⟨E, hE⟩ : ∃ E, E = chkRs n := ⟨_, rfl⟩
  rw [← hE]
  have HE := Lib.hid hE
  have H1 := Lib.hid h
  have HN := Lib.hid hn
  have HS := Lib.hid hs
  have HT := Lib.hid hT
  clear h hn hs hT e hE h4
  go_enter Tryd.func8, Tryd.ntmps8
  go_wp2_with fail
  go_loopw [13] (fun i wr => ∃ k : Nat, k ≤ m ∧ i = .int .i64 k ∧ E = chkRs (n.drop k) ∧ Below w.heap.size w wr) (fun i _ => m - (intOf i).toNat)
  case atStart => exact ⟨0, Nat.zero_le _, rfl, by rw [List.drop_zero]; exact HE.out, belowNew w _⟩
  case round =>
    obtain ⟨k, hk, rfl, hA, hb⟩ := hrel
    have HB := Lib.hid hb
    have HA := Lib.hid hA
    clear hb hA
    by_cases hlt : k < m
    · have hd : decide ((k : Int) < (m : Int)) = true := by simp; omega
      obtain ⟨b, o, rfl, hb, a', c', c0, hc', hL⟩ := H1.out.at k (by rw [← HN.out]; exact hlt)
      have a0 : wr.cell? ⟨b, o + k, none⟩ = _ := (HB.out.cell (p := ⟨b, o + k, none⟩) hb).trans c0
      have HST := Lib.hid (chkRs_step n k (by rw [← HN.out]; exact hlt))
      have hsm := HS.out.2 k (by rw [← HN.out]; exact hlt)
      generalize n.getD k [] = r at a0 HST hsm hc' hL
      obtain ⟨Z, hZ⟩ : ∃ Z, Z = chkR r := ⟨_, rfl⟩
      obtain ⟨q, hq⟩ : ∃ q, q = r.length := ⟨_, rfl⟩
      rw [← hZ] at HST
      rw [← hq] at a0 hc'
      have HCK := Lib.hid (chkL_any a' c' q r wr (hL.below HB.out) hq hc' hsm (HT.out.below HB.out))
      rw [← hZ] at HCK
      clear c0 hb hsm hZ hq hL hc'
      by_cases hz : Z = 0
      · subst hz
        have HF := Lib.hid (show E = chkRs (n.drop (k + 1)) by rw [HA.out, HST.out, if_pos rfl])
        go_wp2_with (go_at_call 23; (with_reducible refine HCK.out.mono ?_); rintro e w1 ⟨rfl, hb1⟩; have HB1 := Lib.hid (below_next HB.out hb1); clear hb1)
        go_roundw
        case rel => exact ⟨k + 1, by omega, by go_num, HF.out, HB1.out⟩
        case measure => simp [intOf]; omega
      · have HF := Lib.hid (show E = Z by rw [HA.out, HST.out, if_neg hz])
        have hz1 := errno_ne hz
        go_wp2_with (go_at_call 23; (with_reducible refine HCK.out.mono ?_); rintro e w1 ⟨rfl, hb1⟩; have HB1 := Lib.hid (below_next HB.out hb1); clear hb1)
        go_ret
        exact ⟨by rw [HF.out]; rfl, HB1.out⟩
    · have hd : decide ((k : Int) < (m : Int)) = false := by simp; omega
      have HF := Lib.hid (show E = 0 by rw [HA.out, chkRs_end _ _ (by rw [← HN.out]; omega)])
      go_wp2_with fail
      go_ret
      exact ⟨by rw [HF.out]; rfl, HB.out⟩
theorem check_any (v : Value) (n : Nm) (w : World) (h : NameV w v n) (hs : SmallN n) (hT : Tab w) :
    Calls Tryd.prog 8 #[v] w fun e w' => e = .returned (.int .i64 ((chkN n : Nat) : Int)) ∧ Below w.heap.size w w' := by
  obtain ⟨a, c, rfl, _, h⟩ := h
  exact chk_core a c _ n w h rfl hs hT
end Go.Proofs.YtfpfgdbfigdooaaDoor
