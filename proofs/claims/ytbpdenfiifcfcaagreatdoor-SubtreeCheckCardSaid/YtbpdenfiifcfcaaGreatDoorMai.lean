/-
  The contracts of checkRelative and Check: the first error of a relative name, of a name.
  The contracts of the reference's checkAttributes and CheckName: the same first error.
-/
import Derived.Test.YtbpdenfiifcfcaaGreatDoorMah
namespace Go.Proofs.YtbpdenfiifcfcaaGreatDoor
open Go.RowKit

theorem errno_ne {e : Nat} (h : e ≠ 0) : ((e : Int) != 0) = true := by simp; omega
set_option maxRecDepth 100000 in
set_option maxHeartbeats 4000000 in
theorem chkL_any (a0 : Option Addr) (c n : Nat) (l : List At) (w : World) (h : ALies w a0 l) (hn : n = l.length) (hc : n ≤ c) (hs : SmallR l) (hT : Tab w) :
    Calls Tryz.prog 109 #[.slice a0 n c] w fun e w' => e = .returned (.int .i64 ((chkR l : Nat) : Int)) ∧ Below w.heap.size w w' := by
  by_cases h0 : n = 0
  · subst h0
    have e : chkR l = 14 := by unfold chkR; rw [if_pos hn.symm]
    rw [e]
    clear e hn h hs hT
    go_enter Tryz.func109, Tryz.ntmps109
    go_wp2_with fail
    go_ret
    exact ⟨rfl, Below.refl _ _⟩
  have d0 : ((n : Int) == 0) = false := by simp; omega
  by_cases h4 : 4 < n
  · have e : chkR l = 2 := by unfold chkR; rw [if_neg (by omega), if_pos (by omega)]
    have d4 : decide ((4 : Int) < (n : Int)) = true := by simp; omega
    rw [e]
    clear e hn h hs hT h0 h4
    go_enter Tryz.func109, Tryz.ntmps109
    go_wp2_with fail
    go_ret
    exact ⟨rfl, Below.refl _ _⟩
  have d4 : decide ((4 : Int) < (n : Int)) = false := by simp; omega
  have e : chkR l = chkL [] l := by unfold chkR; rw [if_neg (by omega), if_neg (by omega)]
  rw [e]
  have HN4 := Lib.hid (show n ≤ 4 by omega)
  have hL : n ≤ 1000000 := by omega
  obtain ⟨E, hE⟩ : ∃ E, E = chkL [] l := ⟨_, rfl⟩
  rw [← hE]
  have HE := Lib.hid hE
  have H1 := Lib.hid h
  have HN := Lib.hid hn
  have HS := Lib.hid hs
  have HT := Lib.hid hT
  clear h hn hs hT e hE h0 h4
  go_enter Tryz.func109, Tryz.ntmps109
  go_wp2_with fail
  go_loopw [14] (fun i wr => ∃ k : Nat, k ≤ n ∧ i = .int .i64 k ∧ E = chkL (l.take k) (l.drop k) ∧ Below w.heap.size w wr) (fun i _ => n - (intOf i).toNat)
  case atStart => exact ⟨0, Nat.zero_le _, rfl, by rw [List.take_zero, List.drop_zero]; exact HE.out, Below.refl _ _⟩
  case round =>
    obtain ⟨k, hk, rfl, hA, hb⟩ := hrel
    have HB := Lib.hid hb
    have HA := Lib.hid hA
    clear hb hA
    by_cases hlt : k < n
    · have hd : decide ((k : Int) < (n : Int)) = true := by simp; omega
      obtain ⟨b, o, rfl, hb, c0, c1, c2⟩ := H1.out.at k (by rw [← HN.out]; exact hlt)
      have a0 : wr.cell? ⟨b, o + k * 3, none⟩ = _ := (HB.out.cell (p := ⟨b, o + k * 3, none⟩) hb).trans c0
      have a1 : wr.cell? ⟨b, o + k * 3 + 1, none⟩ = _ := (HB.out.cell (p := ⟨b, o + k * 3 + 1, none⟩) hb).trans c1
      have a2 : wr.cell? ⟨b, o + k * 3 + 2, none⟩ = _ := (HB.out.cell (p := ⟨b, o + k * 3 + 2, none⟩) hb).trans c2
      have HST := Lib.hid (chkL_step l k (by rw [← HN.out]; exact hlt))
      have hsm := HS.out.2 k (by rw [← HN.out]; exact hlt)
      generalize l.getD k noAt = y at a0 a1 a2 HST hsm
      obtain ⟨t, kd, v⟩ := y
      have HM1 := Lib.hid hsm.1
      have HM2 := Lib.hid hsm.2
      have hlc : k ≤ c := by omega
      have hk0 : (0 : Int) ≤ (k : Int) := by omega
      have hkc : (k : Int) ≤ (c : Int) := by omega
      obtain ⟨Z, hZ⟩ : ∃ Z, Z = chkA (l.take k) (t, kd, v) := ⟨_, rfl⟩
      rw [← hZ] at HST
      have HCK := Lib.hid (fun W (hA : ALies W (some ⟨b, o, none⟩) l) (hT : Tab W) => chkA_any t v kd (some ⟨b, o, none⟩) c k (l.take k) W HM1.out HM2.out (hA.take k) (by rw [List.length_take, ← HN.out]; omega) (by have := HN4.out; omega) hT)
      rw [← hZ] at HCK
      have HBA := Lib.hid (show Below w.heap.size w (wr.alloc (.cells #[.string t, .int .i64 kd, .string v] 86)) from below_next HB.out (belowNew wr _))
      clear c0 c1 c2 hb hsm hZ
      by_cases hz : Z = 0
      · subst hz
        have HF := Lib.hid (show E = chkL (l.take (k + 1)) (l.drop (k + 1)) by rw [HA.out, HST.out, if_pos rfl])
        go_wp2_with fail
        go_region_with (go_at_call 133; (with_reducible refine (HCK.out _ (H1.out.below HBA.out.drew) (HT.out.below HBA.out.drew)).mono ?_); rintro e w1 ⟨rfl, hb1⟩; have HB1 := Lib.hid (below_next HBA.out.drew hb1); clear hb1)
        all_goals
          go_wp2_with fail
          go_roundw
          case rel => exact ⟨k + 1, by omega, by go_num, HF.out, HB1.out⟩
          case measure => simp [intOf]; omega
      · have HF := Lib.hid (show E = Z by rw [HA.out, HST.out, if_neg hz])
        have hz1 := errno_ne hz
        go_wp2_with fail
        go_region_with (go_at_call 133; (with_reducible refine (HCK.out _ (H1.out.below HBA.out.drew) (HT.out.below HBA.out.drew)).mono ?_); rintro e w1 ⟨rfl, hb1⟩; have HB1 := Lib.hid (below_next HBA.out.drew hb1); clear hb1)
        all_goals
          go_wp2_with fail
          go_ret
          exact ⟨by rw [HF.out]; rfl, HB1.out⟩
    · have hd : decide ((k : Int) < (n : Int)) = false := by simp; omega
      have HF := Lib.hid (show E = 0 by rw [HA.out, chkL_end _ _ _ (by rw [← HN.out]; omega)])
      go_wp2_with fail
      go_ret
      exact ⟨by rw [HF.out]; rfl, HB.out⟩

set_option maxRecDepth 100000 in
set_option maxHeartbeats 4000000 in
theorem chk_core (a0 : Option Addr) (c m : Nat) (n : Nm) (w : World) (h : RLies w a0 n) (hn : m = n.length) (hs : SmallN n) (hT : Tab w) :
    Calls Tryz.prog 85 #[.agg #[.slice a0 m c]] w fun e w' => e = .returned (.int .i64 ((chkN n : Nat) : Int)) ∧ Below w.heap.size w w' := by
  by_cases h4 : 8 < m
  · have e : chkN n = 2 := by unfold chkN; rw [if_pos (by omega)]
    have d4 : decide ((8 : Int) < (m : Int)) = true := by simp; omega
    rw [e]
    clear e hn h hs hT h4
    go_enter Tryz.func85, Tryz.ntmps85
    go_wp2_with fail
    go_ret
    exact ⟨rfl, belowNew w _⟩
  have d4 : decide ((8 : Int) < (m : Int)) = false := by simp; omega
  have e : chkN n = chkRs n := by unfold chkN; rw [if_neg (by omega)]
  rw [e]
  have hL : m ≤ 1000000 := by omega
  obtain ⟨E, hE⟩ : ∃ E, E = chkRs n := ⟨_, rfl⟩
  rw [← hE]
  have HE := Lib.hid hE
  have H1 := Lib.hid h
  have HN := Lib.hid hn
  have HS := Lib.hid hs
  have HT := Lib.hid hT
  clear h hn hs hT e hE h4
  go_enter Tryz.func85, Tryz.ntmps85
  go_wp2_with fail
  go_loopw [13] (fun i wr => ∃ k : Nat, k ≤ m ∧ i = .int .i64 k ∧ E = chkRs (n.drop k) ∧ Below w.heap.size w wr) (fun i _ => m - (intOf i).toNat)
  case atStart => exact ⟨0, Nat.zero_le _, rfl, by rw [List.drop_zero]; exact HE.out, belowNew w _⟩
  case round =>
    obtain ⟨k, hk, rfl, hA, hb⟩ := hrel
    have HB := Lib.hid hb
    have HA := Lib.hid hA
    clear hb hA
    by_cases hlt : k < m
    · have hd : decide ((k : Int) < (m : Int)) = true := by simp; omega
      obtain ⟨b, o, rfl, hb, a', c', c0, hc', hL⟩ := H1.out.at k (by rw [← HN.out]; exact hlt)
      have a0 : wr.cell? ⟨b, o + k, none⟩ = _ := (HB.out.cell (p := ⟨b, o + k, none⟩) hb).trans c0
      have HST := Lib.hid (chkRs_step n k (by rw [← HN.out]; exact hlt))
      have hsm := HS.out.2 k (by rw [← HN.out]; exact hlt)
      generalize n.getD k [] = r at a0 HST hsm hc' hL
      obtain ⟨Z, hZ⟩ : ∃ Z, Z = chkR r := ⟨_, rfl⟩
      obtain ⟨q, hq⟩ : ∃ q, q = r.length := ⟨_, rfl⟩
      rw [← hZ] at HST
      rw [← hq] at a0 hc'
      have HCK := Lib.hid (chkL_any a' c' q r wr (hL.below HB.out) hq hc' hsm (HT.out.below HB.out))
      rw [← hZ] at HCK
      clear c0 hb hsm hZ hq hL hc'
      by_cases hz : Z = 0
      · subst hz
        have HF := Lib.hid (show E = chkRs (n.drop (k + 1)) by rw [HA.out, HST.out, if_pos rfl])
        go_wp2_with (go_at_call 109; (with_reducible refine HCK.out.mono ?_); rintro e w1 ⟨rfl, hb1⟩; have HB1 := Lib.hid (below_next HB.out hb1); clear hb1)
        go_roundw
        case rel => exact ⟨k + 1, by omega, by go_num, HF.out, HB1.out⟩
        case measure => simp [intOf]; omega
      · have HF := Lib.hid (show E = Z by rw [HA.out, HST.out, if_neg hz])
        have hz1 := errno_ne hz
        go_wp2_with (go_at_call 109; (with_reducible refine HCK.out.mono ?_); rintro e w1 ⟨rfl, hb1⟩; have HB1 := Lib.hid (below_next HB.out hb1); clear hb1)
        go_ret
        exact ⟨by rw [HF.out]; rfl, HB1.out⟩
    · have hd : decide ((k : Int) < (m : Int)) = false := by simp; omega
      have HF := Lib.hid (show E = 0 by rw [HA.out, chkRs_end _ _ (by rw [← HN.out]; omega)])
      go_wp2_with fail
      go_ret
      exact ⟨by rw [HF.out]; rfl, HB.out⟩
end Go.Proofs.YtbpdenfiifcfcaaGreatDoor
namespace Go.Proofs.YtbpdenfiifcfcaaGreatDoor
open Go.RowKit

set_option maxRecDepth 100000 in
set_option maxHeartbeats 4000000 in
theorem rchkL_any (a0 : Option Addr) (c n : Nat) (l : List At) (w : World) (h : ALies w a0 l) (hn : n = l.length) (hs : SmallR l) :
    Calls Tryz.prog 89 #[.slice a0 n c] w fun e w' => e = .returned (.int .i64 ((chkL [] l : Nat) : Int)) ∧ Below w.heap.size w w' := by
  have hL : n ≤ 1000000 := by rw [hn]; exact hs.1
  obtain ⟨E, hE⟩ : ∃ E, E = chkL [] l := ⟨_, rfl⟩
  rw [← hE]
  have HE := Lib.hid hE
  have H1 := Lib.hid h
  have HN := Lib.hid hn
  have HS := Lib.hid hs
  clear h hn hs hE
  go_enter Tryz.func89, Tryz.ntmps89
  go_wp2_with fail
  go_loopw [8] (fun i wr => ∃ k : Nat, k ≤ n ∧ i = .int .i64 k ∧ E = chkL (l.take k) (l.drop k) ∧ Below w.heap.size w wr) (fun i _ => n - (intOf i).toNat)
  case atStart => exact ⟨0, Nat.zero_le _, rfl, by rw [List.take_zero, List.drop_zero]; exact HE.out, Below.refl _ _⟩
  case round =>
    obtain ⟨k, hk, rfl, hA, hb⟩ := hrel
    have HB := Lib.hid hb
    have HA := Lib.hid hA
    clear hb hA
    by_cases hlt : k < n
    · have hd : decide ((k : Int) < (n : Int)) = true := by simp; omega
      obtain ⟨b, o, rfl, hb, c0, c1, c2⟩ := H1.out.at k (by rw [← HN.out]; exact hlt)
      have a0 : wr.cell? ⟨b, o + k * 3, none⟩ = _ := (HB.out.cell (p := ⟨b, o + k * 3, none⟩) hb).trans c0
      have a1 : wr.cell? ⟨b, o + k * 3 + 1, none⟩ = _ := (HB.out.cell (p := ⟨b, o + k * 3 + 1, none⟩) hb).trans c1
      have a2 : wr.cell? ⟨b, o + k * 3 + 2, none⟩ = _ := (HB.out.cell (p := ⟨b, o + k * 3 + 2, none⟩) hb).trans c2
      have HST := Lib.hid (chkL_step l k (by rw [← HN.out]; exact hlt))
      have hsm := HS.out.2 k (by rw [← HN.out]; exact hlt)
      generalize l.getD k noAt = y at a0 a1 a2 HST hsm
      obtain ⟨t, kd, v⟩ := y
      have HO := Lib.hid (fun W => rvalid_b t W (by have := hsm.1; simp at this; omega))
      have HV := Lib.hid (fun W => rval_any kd v W (by have := hsm.2; simp at this; omega))
      obtain ⟨w0, hw0⟩ : ∃ w0, w0 = wr.alloc (.cells #[.string t, .int .i64 kd, .string v] 86) := ⟨_, rfl⟩
      have hwr : wr.alloc (.cells #[.string t, .int .i64 kd, .string v] 86) = w0 := hw0.symm
      have HW := Lib.hid (show Below wr.heap.size wr w0 by rw [hw0]; exact belowNew wr _)
      have hc0 : w0.cell? ⟨wr.heap.size, 0, none⟩ = some (.string t) := by rw [hw0]; exact box_cell wr _ _ _ _
      have hc1 : w0.cell? ⟨wr.heap.size, 1, none⟩ = some (.int .i64 kd) := by rw [hw0, cell_of_row _ _ 1 _ _ _ (heap_alloc_new wr _)]; rfl
      have hc2 : w0.cell? ⟨wr.heap.size, 2, none⟩ = some (.string v) := by rw [hw0, cell_of_row _ _ 2 _ _ _ (heap_alloc_new wr _)]; rfl
      have hlt0 : wr.heap.size < w0.heap.size := block_lt hc0
      have HBW := Lib.hid (below_next HB.out HW.out)
      clear c0 c1 c2 hb hsm hw0
      rcases chk_ways (l.take k) t v kd with ⟨h1, e⟩ | ⟨h1, h2, e⟩ | ⟨h1, h2, h3, e⟩ | ⟨h1, h2, h3, h4, e⟩ | ⟨h1, h2, h3, h4, h5, e⟩ | ⟨h1, h2, h3, h4, h5, e⟩
      · have HF := Lib.hid (show E = 11 by rw [HA.out, HST.out, e]; rfl)
        rw [h1] at HO
        clear e h1
        go_wp2_with (go_at_call 112; (with_reducible refine (HO.out _).mono ?_); rintro e w1 ⟨rfl, hb⟩; have HX := Lib.hid hb; have g0 := (hb.cell (p := ⟨wr.heap.size, 0, none⟩) hlt0).trans hc0; have g1 := (hb.cell (p := ⟨wr.heap.size, 1, none⟩) hlt0).trans hc1; have g2 := (hb.cell (p := ⟨wr.heap.size, 2, none⟩) hlt0).trans hc2; have hlt1 := Nat.lt_of_lt_of_le hlt0 hb.size; clear hb)
        go_ret
        exact ⟨by rw [HF.out]; rfl, below_next HBW.out HX.out⟩
      · have HF := Lib.hid (show E = 13 by rw [HA.out, HST.out, e]; rfl)
        rw [h1] at HO
        have hd0 : ((v.size : Int) == 0) = true := beq_iff_eq.2 (by rw [h2]; rfl)
        clear e h1 h2
        go_wp2_with (go_at_call 112; (with_reducible refine (HO.out _).mono ?_); rintro e w1 ⟨rfl, hb⟩; have HX := Lib.hid hb; have g0 := (hb.cell (p := ⟨wr.heap.size, 0, none⟩) hlt0).trans hc0; have g1 := (hb.cell (p := ⟨wr.heap.size, 1, none⟩) hlt0).trans hc1; have g2 := (hb.cell (p := ⟨wr.heap.size, 2, none⟩) hlt0).trans hc2; have hlt1 := Nat.lt_of_lt_of_le hlt0 hb.size; clear hb)
        go_ret
        exact ⟨by rw [HF.out]; rfl, below_next HBW.out HX.out⟩
      · have HF := Lib.hid (show E = 13 by rw [HA.out, HST.out, e]; rfl)
        rw [h1] at HO
        rw [h3] at HV
        have hd0 : ((v.size : Int) == 0) = false := beq_eq_false_iff_ne.2 (by omega)
        clear e h1 h2 h3
        go_wp2_with (first | (go_at_call 112; (with_reducible refine (HO.out _).mono ?_); rintro e w1 ⟨rfl, hb⟩; have HX := Lib.hid hb; have g0 := (hb.cell (p := ⟨wr.heap.size, 0, none⟩) hlt0).trans hc0; have g1 := (hb.cell (p := ⟨wr.heap.size, 1, none⟩) hlt0).trans hc1; have g2 := (hb.cell (p := ⟨wr.heap.size, 2, none⟩) hlt0).trans hc2; have hlt1 := Nat.lt_of_lt_of_le hlt0 hb.size; clear hb) | (go_at_call 113; (with_reducible refine (HV.out _).mono ?_); rintro e w2 ⟨rfl, hb⟩; have q0 := (hb.cell (p := ⟨wr.heap.size, 0, none⟩) hlt1).trans g0; have q1 := (hb.cell (p := ⟨wr.heap.size, 1, none⟩) hlt1).trans g1; have q2 := (hb.cell (p := ⟨wr.heap.size, 2, none⟩) hlt1).trans g2; have HX := Lib.hid (below_next HX.out hb); clear hb))
        go_ret
        exact ⟨by rw [HF.out]; rfl, below_next HBW.out HX.out⟩
      · have HF := Lib.hid (show E = 2 by rw [HA.out, HST.out, e]; rfl)
        rw [h1] at HO
        rw [h3] at HV
        have hd0 : ((v.size : Int) == 0) = false := beq_eq_false_iff_ne.2 (by omega)
        have hd4 : decide ((64 : Int) < (v.size : Int)) = true := by simp; omega
        clear e h1 h2 h3 h4
        go_wp2_with (first | (go_at_call 112; (with_reducible refine (HO.out _).mono ?_); rintro e w1 ⟨rfl, hb⟩; have HX := Lib.hid hb; have g0 := (hb.cell (p := ⟨wr.heap.size, 0, none⟩) hlt0).trans hc0; have g1 := (hb.cell (p := ⟨wr.heap.size, 1, none⟩) hlt0).trans hc1; have g2 := (hb.cell (p := ⟨wr.heap.size, 2, none⟩) hlt0).trans hc2; have hlt1 := Nat.lt_of_lt_of_le hlt0 hb.size; clear hb) | (go_at_call 113; (with_reducible refine (HV.out _).mono ?_); rintro e w2 ⟨rfl, hb⟩; have q0 := (hb.cell (p := ⟨wr.heap.size, 0, none⟩) hlt1).trans g0; have q1 := (hb.cell (p := ⟨wr.heap.size, 1, none⟩) hlt1).trans g1; have q2 := (hb.cell (p := ⟨wr.heap.size, 2, none⟩) hlt1).trans g2; have HX := Lib.hid (below_next HX.out hb); clear hb))
        go_ret
        exact ⟨by rw [HF.out]; rfl, below_next HBW.out HX.out⟩
      · have HF := Lib.hid (show E = 10 by rw [HA.out, HST.out, e]; rfl)
        have H5 := Lib.hid h5
        rw [h1] at HO
        rw [h3] at HV
        have hd0 : ((v.size : Int) == 0) = false := beq_eq_false_iff_ne.2 (by omega)
        have hd4 : decide ((64 : Int) < (v.size : Int)) = false := by simp; omega
        clear e h1 h2 h3 h4 h5
        go_wp2_with (first | (go_at_call 112; (with_reducible refine (HO.out _).mono ?_); rintro e w1 ⟨rfl, hb⟩; have HX := Lib.hid hb; have g0 := (hb.cell (p := ⟨wr.heap.size, 0, none⟩) hlt0).trans hc0; have g1 := (hb.cell (p := ⟨wr.heap.size, 1, none⟩) hlt0).trans hc1; have g2 := (hb.cell (p := ⟨wr.heap.size, 2, none⟩) hlt0).trans hc2; have hlt1 := Nat.lt_of_lt_of_le hlt0 hb.size; clear hb) | (go_at_call 113; (with_reducible refine (HV.out _).mono ?_); rintro e w2 ⟨rfl, hb⟩; have q0 := (hb.cell (p := ⟨wr.heap.size, 0, none⟩) hlt1).trans g0; have q1 := (hb.cell (p := ⟨wr.heap.size, 1, none⟩) hlt1).trans g1; have q2 := (hb.cell (p := ⟨wr.heap.size, 2, none⟩) hlt1).trans g2; have HX := Lib.hid (below_next HX.out hb); clear hb))
        clear q1 q2 g0 g1 g2 hlt1
        generalize wr.heap.size = G at q0 ⊢
        go_loopw [5] (fun i ws => ∃ j : Nat, j ≤ k ∧ i = .int .i64 j ∧ ((l.take j).any fun b => decide (b.1 = t)) = false ∧ Below w2.heap.size w2 ws) (fun i _ => k - (intOf i).toNat)
        case atStart => exact ⟨0, Nat.zero_le _, rfl, by simp, Below.refl _ _⟩
        case round =>
          obtain ⟨j, hj, rfl, hJ, hbj⟩ := hrel
          have HJ := Lib.hid hJ
          have HBJ := Lib.hid hbj
          have r0 := (hbj.cell (p := ⟨G, 0, none⟩) (block_lt q0)).trans q0
          clear hJ hbj
          by_cases hjk : j < k
          · have hdj : decide ((j : Int) < (k : Int)) = true := by simp; omega
            obtain ⟨b2, o2, e2, hb2, c0, _, _⟩ := H1.out.at j (by rw [← HN.out]; omega)
            obtain ⟨rfl, rfl⟩ : b = b2 ∧ o = o2 := by simpa using e2
            have j0 : wr.cell? ⟨b, o + j * 3, none⟩ = _ := ((below_next HBW.out (below_next HX.out HBJ.out)).cell (p := ⟨b, o + j * 3, none⟩) hb2).trans c0
            have HT2 := Lib.hid (takeD l j (by rw [← HN.out]; omega) noAt)
            generalize (l.getD j noAt) = y at j0 HT2
            obtain ⟨t2, kd2, v2⟩ := y
            have hjn : j < n := by omega
            clear c0 hb2 e2
            have HE2 := Lib.hid (beq_str t2 t)
            by_cases hx : t2 = t
            · have hbq : (t2.toList == t.toList) = true := by rw [HE2.out]; exact decide_eq_true hx
              clear hx
              go_wp2_with fail
              go_region
              go_wp2_with fail
              go_ret
              exact ⟨by rw [HF.out]; rfl, (below_next HBW.out (below_next HX.out HBJ.out)).drew⟩
            · have hbq : (t2.toList == t.toList) = false := by rw [HE2.out]; exact decide_eq_false hx
              have HJ2 := Lib.hid (show ((l.take (j + 1)).any fun b => decide (b.1 = t)) = false by rw [HT2.out, List.any_append, HJ.out]; simp [hx])
              clear hx
              go_wp2_with fail
              go_region
              go_wp2_with fail
              go_roundw
              case rel => exact ⟨j + 1, by omega, by go_num, HJ2.out, HBJ.out.drew⟩
              case measure => simp [intOf]; omega
          · have hdj : decide ((j : Int) < (k : Int)) = false := by simp; omega
            exfalso
            have e3 := HJ.out
            rw [show j = k by omega, H5.out] at e3
            cases e3
      · have HF := Lib.hid (show E = chkL (l.take (k + 1)) (l.drop (k + 1)) by rw [HA.out, HST.out, e]; rfl)
        have H5 := Lib.hid h5
        rw [h1] at HO
        rw [h3] at HV
        have hd0 : ((v.size : Int) == 0) = false := beq_eq_false_iff_ne.2 (by omega)
        have hd4 : decide ((64 : Int) < (v.size : Int)) = false := by simp; omega
        clear e h1 h2 h3 h4 h5
        go_wp2_with (first | (go_at_call 112; (with_reducible refine (HO.out _).mono ?_); rintro e w1 ⟨rfl, hb⟩; have HX := Lib.hid hb; have g0 := (hb.cell (p := ⟨wr.heap.size, 0, none⟩) hlt0).trans hc0; have g1 := (hb.cell (p := ⟨wr.heap.size, 1, none⟩) hlt0).trans hc1; have g2 := (hb.cell (p := ⟨wr.heap.size, 2, none⟩) hlt0).trans hc2; have hlt1 := Nat.lt_of_lt_of_le hlt0 hb.size; clear hb) | (go_at_call 113; (with_reducible refine (HV.out _).mono ?_); rintro e w2 ⟨rfl, hb⟩; have q0 := (hb.cell (p := ⟨wr.heap.size, 0, none⟩) hlt1).trans g0; have q1 := (hb.cell (p := ⟨wr.heap.size, 1, none⟩) hlt1).trans g1; have q2 := (hb.cell (p := ⟨wr.heap.size, 2, none⟩) hlt1).trans g2; have HX := Lib.hid (below_next HX.out hb); clear hb))
        clear q1 q2 g0 g1 g2 hlt1
        generalize wr.heap.size = G at q0 ⊢
        go_loopw [5] (fun i ws => ∃ j : Nat, j ≤ k ∧ i = .int .i64 j ∧ ((l.take j).any fun b => decide (b.1 = t)) = false ∧ Below w2.heap.size w2 ws) (fun i _ => k - (intOf i).toNat)
        case atStart => exact ⟨0, Nat.zero_le _, rfl, by simp, Below.refl _ _⟩
        case round =>
          obtain ⟨j, hj, rfl, hJ, hbj⟩ := hrel
          have HJ := Lib.hid hJ
          have HBJ := Lib.hid hbj
          have r0 := (hbj.cell (p := ⟨G, 0, none⟩) (block_lt q0)).trans q0
          clear hJ hbj
          by_cases hjk : j < k
          · have hdj : decide ((j : Int) < (k : Int)) = true := by simp; omega
            obtain ⟨b2, o2, e2, hb2, c0, _, _⟩ := H1.out.at j (by rw [← HN.out]; omega)
            obtain ⟨rfl, rfl⟩ : b = b2 ∧ o = o2 := by simpa using e2
            have j0 : wr.cell? ⟨b, o + j * 3, none⟩ = _ := ((below_next HBW.out (below_next HX.out HBJ.out)).cell (p := ⟨b, o + j * 3, none⟩) hb2).trans c0
            have HT2 := Lib.hid (takeD l j (by rw [← HN.out]; omega) noAt)
            generalize (l.getD j noAt) = y at j0 HT2
            obtain ⟨t2, kd2, v2⟩ := y
            have hjn : j < n := by omega
            clear c0 hb2 e2
            have HE2 := Lib.hid (beq_str t2 t)
            by_cases hx : t2 = t
            · have hbq : (t2.toList == t.toList) = true := by rw [HE2.out]; exact decide_eq_true hx
              exfalso
              have := HJ.out
              have e3 := H5.out
              have e4 : (l.take k) = l.take (j + 1) ++ (l.take k).drop (j + 1) := by
                conv => lhs; rw [← List.take_append_drop (j + 1) (l.take k)]
                rw [List.take_take, Nat.min_eq_left (by omega)]
              rw [e4, List.any_append, HT2.out, List.any_append] at e3
              simp [hx] at e3
            · have hbq : (t2.toList == t.toList) = false := by rw [HE2.out]; exact decide_eq_false hx
              have HJ2 := Lib.hid (show ((l.take (j + 1)).any fun b => decide (b.1 = t)) = false by rw [HT2.out, List.any_append, HJ.out]; simp [hx])
              clear hx
              go_wp2_with fail
              go_region
              go_wp2_with fail
              go_roundw
              case rel => exact ⟨j + 1, by omega, by go_num, HJ2.out, HBJ.out.drew⟩
              case measure => simp [intOf]; omega
          · have hdj : decide ((j : Int) < (k : Int)) = false := by simp; omega
            go_wp2_with fail
            go_roundw
            case rel => exact ⟨k + 1, by omega, by go_num, HF.out, below_next HBW.out (below_next HX.out HBJ.out)⟩
            case measure => simp [intOf]; omega
    · have hd : decide ((k : Int) < (n : Int)) = false := by simp; omega
      have HF := Lib.hid (show E = 0 by rw [HA.out, chkL_end _ _ _ (by rw [← HN.out]; omega)])
      go_wp2_with fail
      go_ret
      exact ⟨by rw [HF.out]; rfl, HB.out⟩
end Go.Proofs.YtbpdenfiifcfcaaGreatDoor
