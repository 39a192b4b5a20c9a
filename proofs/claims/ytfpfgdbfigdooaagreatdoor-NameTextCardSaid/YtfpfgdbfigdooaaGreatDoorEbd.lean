/-
  The contracts of the reference's checkAttributes and CheckName: the same first error.
  The contract of the reference's CheckName: the same first error.
  The contracts of the reference's Split and short: the pieces of a text; the short types and their object identifiers.
  The contracts of the reference's attributes and EncodeName: the same element.
-/
import Derived.Test.YtfpfgdbfigdooaaGreatDoorEaj
import Derived.Test.YtfpfgdbfigdooaaGreatDoorEam
import Derived.Test.YtfpfgdbfigdooaaGreatDoorEah
import Derived.Test.YtfpfgdbfigdooaaGreatDoorEaz
namespace Go.Proofs.YtfpfgdbfigdooaaGreatDoor
open Go.RowKit

set_option maxRecDepth 100000 in
set_option maxHeartbeats 4000000 in
theorem rchkL_any (a0 : Option Addr) (c n : Nat) (l : List At) (w : World) (h : ALies w a0 l) (hn : n = l.length) (hs : SmallR l) :
    Calls Tryz.prog 38 #[.slice a0 n c] w fun e w' => e = .returned (.int .i64 ((chkL [] l : Nat) : Int)) ∧ Below w.heap.size w w' := by
  have hL : n ≤ 1000000 := by rw [hn]; exact hs.1
  obtain ⟨E, hE⟩ : ∃ E, E = chkL [] l := ⟨_, rfl⟩
  rw [← hE]
  have HE := Lib.hid hE
  have H1 := Lib.hid h
  have HN := Lib.hid hn
  have HS := Lib.hid hs
  clear h hn hs hE
  go_enter Tryz.func38, Tryz.ntmps38
  go_wp2_with fail
  go_loopw [8] (fun i wr => ∃ k : Nat, k ≤ n ∧ i = .int .i64 k ∧ E = chkL (l.take k) (l.drop k) ∧ Below w.heap.size w wr) (fun i _ => n - (intOf i).toNat)
  case atStart => exact ⟨0, Nat.zero_le _, rfl, by rw [List.take_zero, List.drop_zero]; exact HE.out, Below.refl _ _⟩
  case round =>
    obtain ⟨k, hk, rfl, hA, hb⟩ := hrel
    have HB := Lib.hid hb
    have HA := Lib.hid hA
    clear hb hA
    by_cases hlt : k < n
    · have hd : decide ((k : Int) < (n : Int)) = true := by simp; omega
      obtain ⟨b, o, rfl, hb, c0, c1, c2⟩ := H1.out.at k (by rw [← HN.out]; exact hlt)
      have a0 : wr.cell? ⟨b, o + k * 3, none⟩ = _ := (HB.out.cell (p := ⟨b, o + k * 3, none⟩) hb).trans c0
      have a1 : wr.cell? ⟨b, o + k * 3 + 1, none⟩ = _ := (HB.out.cell (p := ⟨b, o + k * 3 + 1, none⟩) hb).trans c1
      have a2 : wr.cell? ⟨b, o + k * 3 + 2, none⟩ = _ := (HB.out.cell (p := ⟨b, o + k * 3 + 2, none⟩) hb).trans c2
      have HST := Lib.hid (chkL_step l k (by rw [← HN.out]; exact hlt))
      have hsm := HS.out.2 k (by rw [← HN.out]; exact hlt)
      generalize l.getD k noAt = y at a0 a1 a2 HST hsm
      obtain ⟨t, kd, v⟩ := y
      have HO := Lib.hid (fun W => rvalid_b t W (by have := hsm.1; simp at this; omega))
      have HV := Lib.hid (fun W => rval_any kd v W (by have := hsm.2; simp at this; omega))
      obtain ⟨w0, hw0⟩ : ∃ w0, w0 = wr.alloc (.cells #[.string t, .int .i64 kd, .string v] 27) := ⟨_, rfl⟩
      have hwr : wr.alloc (.cells #[.string t, .int .i64 kd, .string v] 27) = w0 := hw0.symm
      have HW := Lib.hid (show Below wr.heap.size wr w0 by rw [hw0]; exact belowNew wr _)
      have hc0 : w0.cell? ⟨wr.heap.size, 0, none⟩ = some (.string t) := by rw [hw0]; exact box_cell wr _ _ _ _
      have hc1 : w0.cell? ⟨wr.heap.size, 1, none⟩ = some (.int .i64 kd) := by rw [hw0, cell_of_row _ _ 1 _ _ _ (heap_alloc_new wr _)]; rfl
      have hc2 : w0.cell? ⟨wr.heap.size, 2, none⟩ = some (.string v) := by rw [hw0, cell_of_row _ _ 2 _ _ _ (heap_alloc_new wr _)]; rfl
      have hlt0 : wr.heap.size < w0.heap.size := block_lt hc0
      have HBW := Lib.hid (below_next HB.out HW.out)
      clear c0 c1 c2 hb hsm hw0
      rcases chk_ways (l.take k) t v kd with ⟨h1, e⟩ | ⟨h1, h2, e⟩ | ⟨h1, h2, h3, e⟩ | ⟨h1, h2, h3, h4, e⟩ | ⟨h1, h2, h3, h4, h5, e⟩ | ⟨h1, h2, h3, h4, h5, e⟩
      · have HF := Lib.hid (show E = 11 by rw [HA.out, HST.out, e]; rfl)
        rw [h1] at HO
        clear e h1
        go_wp2_with (go_at_call 65; (with_reducible refine (HO.out _).mono ?_); rintro e w1 ⟨rfl, hb⟩; have HX := Lib.hid hb; have g0 := (hb.cell (p := ⟨wr.heap.size, 0, none⟩) hlt0).trans hc0; have g1 := (hb.cell (p := ⟨wr.heap.size, 1, none⟩) hlt0).trans hc1; have g2 := (hb.cell (p := ⟨wr.heap.size, 2, none⟩) hlt0).trans hc2; have hlt1 := Nat.lt_of_lt_of_le hlt0 hb.size; clear hb)
        go_ret
        exact ⟨by rw [HF.out]; rfl, below_next HBW.out HX.out⟩
      · have HF := Lib.hid (show E = 13 by rw [HA.out, HST.out, e]; rfl)
        rw [h1] at HO
        have hd0 : ((v.size : Int) == 0) = true := beq_iff_eq.2 (by rw [h2]; rfl)
        clear e h1 h2
        go_wp2_with (go_at_call 65; (with_reducible refine (HO.out _).mono ?_); rintro e w1 ⟨rfl, hb⟩; have HX := Lib.hid hb; have g0 := (hb.cell (p := ⟨wr.heap.size, 0, none⟩) hlt0).trans hc0; have g1 := (hb.cell (p := ⟨wr.heap.size, 1, none⟩) hlt0).trans hc1; have g2 := (hb.cell (p := ⟨wr.heap.size, 2, none⟩) hlt0).trans hc2; have hlt1 := Nat.lt_of_lt_of_le hlt0 hb.size; clear hb)
        go_ret
        exact ⟨by rw [HF.out]; rfl, below_next HBW.out HX.out⟩
      · have HF := Lib.hid (show E = 13 by rw [HA.out, HST.out, e]; rfl)
        rw [h1] at HO
        rw [h3] at HV
        have hd0 : ((v.size : Int) == 0) = false := beq_eq_false_iff_ne.2 (by omega)
        clear e h1 h2 h3
        go_wp2_with (first | (go_at_call 65; (with_reducible refine (HO.out _).mono ?_); rintro e w1 ⟨rfl, hb⟩; have HX := Lib.hid hb; have g0 := (hb.cell (p := ⟨wr.heap.size, 0, none⟩) hlt0).trans hc0; have g1 := (hb.cell (p := ⟨wr.heap.size, 1, none⟩) hlt0).trans hc1; have g2 := (hb.cell (p := ⟨wr.heap.size, 2, none⟩) hlt0).trans hc2; have hlt1 := Nat.lt_of_lt_of_le hlt0 hb.size; clear hb) | (go_at_call 66; (with_reducible refine (HV.out _).mono ?_); rintro e w2 ⟨rfl, hb⟩; have q0 := (hb.cell (p := ⟨wr.heap.size, 0, none⟩) hlt1).trans g0; have q1 := (hb.cell (p := ⟨wr.heap.size, 1, none⟩) hlt1).trans g1; have q2 := (hb.cell (p := ⟨wr.heap.size, 2, none⟩) hlt1).trans g2; have HX := Lib.hid (below_next HX.out hb); clear hb))
        go_ret
        exact ⟨by rw [HF.out]; rfl, below_next HBW.out HX.out⟩
      · have HF := Lib.hid (show E = 2 by rw [HA.out, HST.out, e]; rfl)
        rw [h1] at HO
        rw [h3] at HV
        have hd0 : ((v.size : Int) == 0) = false := beq_eq_false_iff_ne.2 (by omega)
        have hd4 : decide ((64 : Int) < (v.size : Int)) = true := by simp; omega
        clear e h1 h2 h3 h4
        go_wp2_with (first | (go_at_call 65; (with_reducible refine (HO.out _).mono ?_); rintro e w1 ⟨rfl, hb⟩; have HX := Lib.hid hb; have g0 := (hb.cell (p := ⟨wr.heap.size, 0, none⟩) hlt0).trans hc0; have g1 := (hb.cell (p := ⟨wr.heap.size, 1, none⟩) hlt0).trans hc1; have g2 := (hb.cell (p := ⟨wr.heap.size, 2, none⟩) hlt0).trans hc2; have hlt1 := Nat.lt_of_lt_of_le hlt0 hb.size; clear hb) | (go_at_call 66; (with_reducible refine (HV.out _).mono ?_); rintro e w2 ⟨rfl, hb⟩; have q0 := (hb.cell (p := ⟨wr.heap.size, 0, none⟩) hlt1).trans g0; have q1 := (hb.cell (p := ⟨wr.heap.size, 1, none⟩) hlt1).trans g1; have q2 := (hb.cell (p := ⟨wr.heap.size, 2, none⟩) hlt1).trans g2; have HX := Lib.hid (below_next HX.out hb); clear hb))
        go_ret
        exact ⟨by rw [HF.out]; rfl, below_next HBW.out HX.out⟩
      · have HF := Lib.hid (show E = 10 by rw [HA.out, HST.out, e]; rfl)
        have H5 := Lib.hid h5
        rw [h1] at HO
        rw [h3] at HV
        have hd0 : ((v.size : Int) == 0) = false := beq_eq_false_iff_ne.2 (by omega)
        have hd4 : decide ((64 : Int) < (v.size : Int)) = false := by simp; omega
        clear e h1 h2 h3 h4 h5
        go_wp2_with (first | (go_at_call 65; (with_reducible refine (HO.out _).mono ?_); rintro e w1 ⟨rfl, hb⟩; have HX := Lib.hid hb; have g0 := (hb.cell (p := ⟨wr.heap.size, 0, none⟩) hlt0).trans hc0; have g1 := (hb.cell (p := ⟨wr.heap.size, 1, none⟩) hlt0).trans hc1; have g2 := (hb.cell (p := ⟨wr.heap.size, 2, none⟩) hlt0).trans hc2; have hlt1 := Nat.lt_of_lt_of_le hlt0 hb.size; clear hb) | (go_at_call 66; (with_reducible refine (HV.out _).mono ?_); rintro e w2 ⟨rfl, hb⟩; have q0 := (hb.cell (p := ⟨wr.heap.size, 0, none⟩) hlt1).trans g0; have q1 := (hb.cell (p := ⟨wr.heap.size, 1, none⟩) hlt1).trans g1; have q2 := (hb.cell (p := ⟨wr.heap.size, 2, none⟩) hlt1).trans g2; have HX := Lib.hid (below_next HX.out hb); clear hb))
        clear q1 q2 g0 g1 g2 hlt1
        generalize wr.heap.size = G at q0 ⊢
        go_loopw [5] (fun i ws => ∃ j : Nat, j ≤ k ∧ i = .int .i64 j ∧ ((l.take j).any fun b => decide (b.1 = t)) = false ∧ Below w2.heap.size w2 ws) (fun i _ => k - (intOf i).toNat)
        case atStart => exact ⟨0, Nat.zero_le _, rfl, by simp, Below.refl _ _⟩
        case round =>
          obtain ⟨j, hj, rfl, hJ, hbj⟩ := hrel
          have HJ := Lib.hid hJ
          have HBJ := Lib.hid hbj
          have r0 := (hbj.cell (p := ⟨G, 0, none⟩) (block_lt q0)).trans q0
          clear hJ hbj
          by_cases hjk : j < k
          · have hdj : decide ((j : Int) < (k : Int)) = true := by simp; omega
            obtain ⟨b2, o2, e2, hb2, c0, _, _⟩ := H1.out.at j (by rw [← HN.out]; omega)
            obtain ⟨rfl, rfl⟩ : b = b2 ∧ o = o2 := by simpa using e2
            have j0 : wr.cell? ⟨b, o + j * 3, none⟩ = _ := ((below_next HBW.out (below_next HX.out HBJ.out)).cell (p := ⟨b, o + j * 3, none⟩) hb2).trans c0
            have HT2 := Lib.hid (takeD l j (by rw [← HN.out]; omega) noAt)
            generalize (l.getD j noAt) = y at j0 HT2
            obtain ⟨t2, kd2, v2⟩ := y
            have hjn : j < n := by omega
            clear c0 hb2 e2
            have HE2 := Lib.hid (beq_str t2 t)
            by_cases hx : t2 = t
            · have hbq : (t2.toList == t.toList) = true := by rw [HE2.out]; exact decide_eq_true hx
              clear hx
              go_wp2_with fail
              go_region
              go_wp2_with fail
              go_ret
              exact ⟨by rw [HF.out]; rfl, (below_next HBW.out (below_next HX.out HBJ.out)).drew⟩
            · have hbq : (t2.toList == t.toList) = false := by rw [HE2.out]; exact decide_eq_false hx
              have HJ2 := Lib.hid (show ((l.take (j + 1)).any fun b => decide (b.1 = t)) = false by rw [HT2.out, List.any_append, HJ.out]; simp [hx])
              clear hx
              go_wp2_with fail
              go_region
              go_wp2_with fail
              go_roundw
              case rel => exact ⟨j + 1, by omega, by go_num, HJ2.out, HBJ.out.drew⟩
              case measure => simp [intOf]; omega
          · have hdj : decide ((j : Int) < (k : Int)) = false := by simp; omega
            exfalso
            have e3 := HJ.out
            rw [show j = k by omega, H5.out] at e3
            cases e3
      · have HF := Lib.hid (show E = chkL (l.take (k + 1)) (l.drop (k + 1)) by rw [HA.out, HST.out, e]; rfl)
        have H5 := Lib.hid h5
        rw [h1] at HO
        rw [h3] at HV
        have hd0 : ((v.size : Int) == 0) = false := beq_eq_false_iff_ne.2 (by omega)
        have hd4 : decide ((64 : Int) < (v.size : Int)) = false := by simp; omega
        clear e h1 h2 h3 h4 h5
        go_wp2_with (first | (go_at_call 65; (with_reducible refine (HO.out _).mono ?_); rintro e w1 ⟨rfl, hb⟩; have HX := Lib.hid hb; have g0 := (hb.cell (p := ⟨wr.heap.size, 0, none⟩) hlt0).trans hc0; have g1 := (hb.cell (p := ⟨wr.heap.size, 1, none⟩) hlt0).trans hc1; have g2 := (hb.cell (p := ⟨wr.heap.size, 2, none⟩) hlt0).trans hc2; have hlt1 := Nat.lt_of_lt_of_le hlt0 hb.size; clear hb) | (go_at_call 66; (with_reducible refine (HV.out _).mono ?_); rintro e w2 ⟨rfl, hb⟩; have q0 := (hb.cell (p := ⟨wr.heap.size, 0, none⟩) hlt1).trans g0; have q1 := (hb.cell (p := ⟨wr.heap.size, 1, none⟩) hlt1).trans g1; have q2 := (hb.cell (p := ⟨wr.heap.size, 2, none⟩) hlt1).trans g2; have HX := Lib.hid (below_next HX.out hb); clear hb))
        clear q1 q2 g0 g1 g2 hlt1
        generalize wr.heap.size = G at q0 ⊢
        go_loopw [5] (fun i ws => ∃ j : Nat, j ≤ k ∧ i = .int .i64 j ∧ ((l.take j).any fun b => decide (b.1 = t)) = false ∧ Below w2.heap.size w2 ws) (fun i _ => k - (intOf i).toNat)
        case atStart => exact ⟨0, Nat.zero_le _, rfl, by simp, Below.refl _ _⟩
        case round =>
          obtain ⟨j, hj, rfl, hJ, hbj⟩ := hrel
          have HJ := Lib.hid hJ
          have HBJ := Lib.hid hbj
          have r0 := (hbj.cell (p := ⟨G, 0, none⟩) (block_lt q0)).trans q0
          clear hJ hbj
          by_cases hjk : j < k
          · have hdj : decide ((j : Int) < (k : Int)) = true := by simp; omega
            obtain ⟨b2, o2, e2, hb2, c0, _, _⟩ := H1.out.at j (by rw [← HN.out]; omega)
            obtain ⟨rfl, rfl⟩ : b = b2 ∧ o = o2 := by simpa using e2
            have j0 : wr.cell? ⟨b, o + j * 3, none⟩ = _ := ((below_next HBW.out (below_next HX.out HBJ.out)).cell (p := ⟨b, o + j * 3, none⟩) hb2).trans c0
            have HT2 := Lib.hid (takeD l j (by rw [← HN.out]; omega) noAt)
            generalize (l.getD j noAt) = y at j0 HT2
            obtain ⟨t2, kd2, v2⟩ := y
            have hjn : j < n := by omega
            clear c0 hb2 e2
            have HE2 := Lib.hid (beq_str t2 t)
            by_cases hx : t2 = t
            · have hbq : (t2.toList == t.toList) = true := by rw [HE2.out]; exact decide_eq_true hx
              exfalso
              have := HJ.out
              have e3 := H5.out
              have e4 : (l.take k) = l.take (j + 1) ++ (l.take k).drop (j + 1) := by
                conv => lhs; rw [← List.take_append_drop (j + 1) (l.take k)]
                rw [List.take_take, Nat.min_eq_left (by omega)]
              rw [e4, List.any_append, HT2.out, List.any_append] at e3
              simp [hx] at e3
            · have hbq : (t2.toList == t.toList) = false := by rw [HE2.out]; exact decide_eq_false hx
              have HJ2 := Lib.hid (show ((l.take (j + 1)).any fun b => decide (b.1 = t)) = false by rw [HT2.out, List.any_append, HJ.out]; simp [hx])
              clear hx
              go_wp2_with fail
              go_region
              go_wp2_with fail
              go_roundw
              case rel => exact ⟨j + 1, by omega, by go_num, HJ2.out, HBJ.out.drew⟩
              case measure => simp [intOf]; omega
          · have hdj : decide ((j : Int) < (k : Int)) = false := by simp; omega
            go_wp2_with fail
            go_roundw
            case rel => exact ⟨k + 1, by omega, by go_num, HF.out, below_next HBW.out (below_next HX.out HBJ.out)⟩
            case measure => simp [intOf]; omega
    · have hd : decide ((k : Int) < (n : Int)) = false := by simp; omega
      have HF := Lib.hid (show E = 0 by rw [HA.out, chkL_end _ _ _ (by rw [← HN.out]; omega)])
      go_wp2_with fail
      go_ret
      exact ⟨by rw [HF.out]; rfl, HB.out⟩
end Go.Proofs.YtfpfgdbfigdooaaGreatDoor
namespace Go.Proofs.YtfpfgdbfigdooaaGreatDoor
open Go.RowKit

set_option maxRecDepth 100000 in
set_option maxHeartbeats 4000000 in
theorem rchk_core (a0 : Option Addr) (c m : Nat) (n : Nm) (w : World) (h : RLies w a0 n) (hn : m = n.length) (hs : SmallN n) :
    Calls Tryz.prog 17 #[.agg #[.slice a0 m c]] w fun e w' => e = .returned (.int .i64 ((chkN n : Nat) : Int)) ∧ Below w.heap.size w w' := by
  by_cases h4 : 8 < m
  · have e : chkN n = 2 := by unfold chkN; rw [if_pos (by omega)]
    have d4 : decide ((8 : Int) < (m : Int)) = true := by simp; omega
    rw [e]
    clear e hn h hs h4
    go_enter Tryz.func17, Tryz.ntmps17
    go_wp2_with fail
    go_ret
    exact ⟨rfl, belowNew w _⟩
  have d4 : decide ((8 : Int) < (m : Int)) = false := by simp; omega
  have e : chkN n = chkRs n := by unfold chkN; rw [if_neg (by omega)]
  rw [e]
  have hL : m ≤ 1000000 := by omega
  obtain ⟨E, hE⟩ : ∃ E, E = chkRs n := ⟨_, rfl⟩
  rw [← hE]
  have HE := Lib.hid hE
  have H1 := Lib.hid h
  have HN := Lib.hid hn
  have HS := Lib.hid hs
  clear h hn hs e hE h4
  go_enter Tryz.func17, Tryz.ntmps17
  go_wp2_with fail
  go_loopw [13] (fun i wr => ∃ k : Nat, k ≤ m ∧ i = .int .i64 k ∧ E = chkRs (n.drop k) ∧ Below w.heap.size w wr) (fun i _ => m - (intOf i).toNat)
  case atStart => exact ⟨0, Nat.zero_le _, rfl, by rw [List.drop_zero]; exact HE.out, belowNew w _⟩
  case round =>
    obtain ⟨k, hk, rfl, hA, hb⟩ := hrel
    have HB := Lib.hid hb
    have HA := Lib.hid hA
    clear hb hA
    by_cases hlt : k < m
    · have hd : decide ((k : Int) < (m : Int)) = true := by simp; omega
      obtain ⟨b, o, rfl, hb, a', c', c0, hc', hL2⟩ := H1.out.at k (by rw [← HN.out]; exact hlt)
      have a0 : wr.cell? ⟨b, o + k, none⟩ = _ := (HB.out.cell (p := ⟨b, o + k, none⟩) hb).trans c0
      have HST := Lib.hid (chkRs_step n k (by rw [← HN.out]; exact hlt))
      have hsm := HS.out.2 k (by rw [← HN.out]; exact hlt)
      generalize n.getD k [] = r at a0 HST hsm hc' hL2
      obtain ⟨q, hq⟩ : ∃ q, q = r.length := ⟨_, rfl⟩
      rw [← hq] at a0 hc'
      have HCK := Lib.hid (rchkL_any a' c' q r wr (hL2.below HB.out) hq hsm)
      by_cases hq0 : q = 0
      · have e : chkR r = 14 := by unfold chkR; rw [if_pos (by omega)]
        have HF := Lib.hid (show E = 14 by rw [HA.out, HST.out, e]; rfl)
        have dq : ((q : Int) == 0) = true := beq_iff_eq.2 (by omega)
        clear c0 hb hsm hq hL2 hc' HCK e hq0 HST
        go_wp2_with fail
        go_ret
        exact ⟨by rw [HF.out]; rfl, HB.out⟩
      have dq : ((q : Int) == 0) = false := beq_eq_false_iff_ne.2 (by omega)
      by_cases hq4 : 4 < q
      · have e : chkR r = 2 := by unfold chkR; rw [if_neg (by omega), if_pos (by omega)]
        have HF := Lib.hid (show E = 2 by rw [HA.out, HST.out, e]; rfl)
        have dq4 : decide ((4 : Int) < (q : Int)) = true := by simp; omega
        clear c0 hb hsm hq hL2 hc' HCK e hq0 HST hq4
        go_wp2_with fail
        go_ret
        exact ⟨by rw [HF.out]; rfl, HB.out⟩
      have dq4 : decide ((4 : Int) < (q : Int)) = false := by simp; omega
      have e : chkR r = chkL [] r := by unfold chkR; rw [if_neg (by omega), if_neg (by omega)]
      obtain ⟨Z, hZ⟩ : ∃ Z, Z = chkL [] r := ⟨_, rfl⟩
      rw [← hZ] at e HCK
      rw [e] at HST
      clear c0 hb hsm hZ hq hL2 hc' hq0 hq4 e
      by_cases hz : Z = 0
      · subst hz
        have HF := Lib.hid (show E = chkRs (n.drop (k + 1)) by rw [HA.out, HST.out, if_pos rfl])
        go_wp2_with (go_at_call 38; (with_reducible refine HCK.out.mono ?_); rintro e w1 ⟨rfl, hb1⟩; have HB1 := Lib.hid (below_next HB.out hb1); clear hb1)
        go_roundw
        case rel => exact ⟨k + 1, by omega, by go_num, HF.out, HB1.out⟩
        case measure => simp [intOf]; omega
      · have HF := Lib.hid (show E = Z by rw [HA.out, HST.out, if_neg hz])
        have hz1 := errno_ne hz
        go_wp2_with (go_at_call 38; (with_reducible refine HCK.out.mono ?_); rintro e w1 ⟨rfl, hb1⟩; have HB1 := Lib.hid (below_next HB.out hb1); clear hb1)
        go_ret
        exact ⟨by rw [HF.out]; rfl, HB1.out⟩
    · have hd : decide ((k : Int) < (m : Int)) = false := by simp; omega
      have HF := Lib.hid (show E = 0 by rw [HA.out, chkRs_end _ _ (by rw [← HN.out]; omega)])
      go_wp2_with fail
      go_ret
      exact ⟨by rw [HF.out]; rfl, HB.out⟩
theorem rcheck_any (v : Value) (n : Nm) (w : World) (h : NameV w v n) (hs : SmallN n) :
    Calls Tryz.prog 17 #[v] w fun e w' => e = .returned (.int .i64 ((chkN n : Nat) : Int)) ∧ Below w.heap.size w w' := by
  obtain ⟨a, c, rfl, _, h⟩ := h
  exact rchk_core a c _ n w h rfl hs
end Go.Proofs.YtfpfgdbfigdooaaGreatDoor
namespace Go.Proofs.YtfpfgdbfigdooaaGreatDoor
open Go.RowKit

/-- The slice value v, of memory from block B on, holds the texts ss. -/
def OwnT (w : World) (B : Nat) (v : Value) (ss : List ByteArray) : Prop := w.ownsRow B 9 1 v ss.length (ss.map Value.string)
theorem OwnT.cells {w : World} {B N : Nat} {v : Value} {ss : List ByteArray} (h : OwnT w B v ss) (hN : N = ss.length) (h0 : ss ≠ []) :
    ∃ g cp, v = .slice (some ⟨g, 0, none⟩) N cp ∧ g < w.heap.size ∧ B ≤ g ∧ N ≤ cp ∧ ∀ j, j < N → w.cell? ⟨g, j, none⟩ = some (.string (ss.getD j ⟨#[]⟩)) := by
  subst hN
  rcases h.2 with ⟨_, h1⟩ | ⟨g, cap, cur, rfl, hB, hg, hn, _, hcs, htk⟩
  · exact absurd (List.eq_nil_of_length_eq_zero h1) h0
  · refine ⟨g, cap, rfl, (Array.getElem?_eq_some_iff.1 hg).1, hB, hn, fun j hj => ?_⟩
    rw [cell_of_row w g j _ _ _ hg]
    have : (cur.toList.take (ss.length * 1))[j]? = some (.string ss[j]) := by rw [htk]; simp [hj]
    rw [List.getElem?_take_of_lt (by omega)] at this
    rw [List.getD_eq_getElem?_getD, List.getElem?_eq_getElem hj]
    simpa using this
theorem strT_round {w wr w2 : World} {B : Nat} {v v' : Value} {D : List ByteArray} {y : ByteArray} {X : Obj} (hB : w.heap.size ≤ B) (hown : OwnT wr B v D) (hb : Below w.heap.size w wr)
    (hown2 : w2.ownsRow B 9 1 v' (D.length + 1) (D.map Value.string ++ [.string y])) (hgr2 : (wr.alloc X).grownBy w2 v.ownBlock) : OwnT w2 B v' (D ++ [y]) ∧ Below w.heap.size w w2 := by
  refine ⟨?_, ?_⟩
  · unfold OwnT
    rw [List.length_append, List.map_append]; exact hown2
  · exact (Below.alloc hb hb.size X).grown hgr2 (by simp; have := hb.size; omega) (fun k e => Nat.le_trans hB (World.ownsRow.lt hown k e).1)
theorem str_one (d : ByteArray) : ∀ u ∈ [Value.string d], u.oneCell' = true := by
  intro u hu
  obtain rfl : u = _ := by simpa using hu
  rfl
abbrev dl (s : ByteArray) : List UInt8 := s.data.toList
theorem map_dl_inj {a b : List ByteArray} (h : a.map dl = b.map dl) : a = b := by
  induction a generalizing b with
  | nil => cases b with
    | nil => rfl
    | cons y t => simp at h
  | cons x r ih => cases b with
    | nil => simp at h
    | cons y t =>
      rw [List.map_cons, List.map_cons] at h
      injection h with h1 h2
      rw [list_inj h1, ih h2]
theorem take_all_drop {L : List UInt8} {a i : Nat} (h : i = L.length) : (L.take i).drop a = L.drop a := by rw [h, List.take_length]

set_option maxRecDepth 100000 in
set_option maxHeartbeats 1000000 in
theorem rshort_any (w : World) :
    Calls Tryz.prog 54 #[] w fun e w' => e = .returned (.slice (some ⟨w.heap.size, 0, none⟩) 14 14) ∧ w' = w.alloc (.cells shArr 9) := by
  go_enter Tryz.func54, Tryz.ntmps54
  go_wp2_with fail
  go_ret
  exact ⟨rfl, rfl⟩
end Go.Proofs.YtfpfgdbfigdooaaGreatDoor
namespace Go.Proofs.YtfpfgdbfigdooaaGreatDoor
open Go.RowKit

theorem OwnT.reads {w : World} {B : Nat} {v : Value} {ss : List ByteArray} (h : OwnT w B v ss) : Reads w v ss := by
  rcases h.2 with ⟨hv, h0⟩ | ⟨g, cap, cur, hv, hB, hg, hn, _, hcs, htk⟩
  · exact ⟨none, 0, by rw [hv, h0], .inl (List.eq_nil_of_length_eq_zero h0)⟩
  · refine ⟨_, cap, hv, .inr ⟨g, 0, rfl, fun j hj => ?_⟩⟩
    rw [cell_of_row w g _ _ _ _ hg]
    have : (cur.toList.take (ss.length * 1))[j]? = some (.string ss[j]) := by rw [htk]; simp [hj]
    rw [List.getElem?_take_of_lt (by omega)] at this
    rw [List.getD_eq_getElem?_getD, List.getElem?_eq_getElem hj, Nat.zero_add]
    simpa using this
theorem strT_next {w wr w1 w2 : World} {B : Nat} {v v' : Value} {D : List ByteArray} {y : ByteArray} (hB : w.heap.size ≤ B) (hown : OwnT wr B v D) (hb : Below w.heap.size w wr) (hb1 : Below wr.heap.size wr w1)
    (hown2 : w2.ownsRow B 9 1 v' (D.length + 1) (D.map Value.string ++ [.string y])) (hgr2 : w1.grownBy w2 v.ownBlock) : OwnT w2 B v' (D ++ [y]) ∧ Below w.heap.size w w2 := by
  have h1 := hb.size
  have h2 := hb1.size
  refine ⟨?_, ?_⟩
  · unfold OwnT
    rw [List.length_append, List.map_append]; exact hown2
  · exact (hb.trans (hb1.mono h1)).grown hgr2 (by omega) (fun k e => Nat.le_trans hB (World.ownsRow.lt hown k e).1)
theorem row_newsd (w1 : World) (v : Value) (T : TypeId) : ∀ j u, [v][j]? = some u → (w1.alloc (.cells #[v] T)).drew.cell? ((⟨w1.heap.size, 0, none⟩ : Addr).add j) = some u := row_news w1 v T

set_option maxRecDepth 100000 in
set_option maxHeartbeats 8000000 in
theorem rattrs_any (a0 : Option Addr) (c n : Nat) (l : List At) (w : World) (h : ALies w a0 l) (hn : n = l.length) (hs : SmallR l) (hl : n ≤ 1000) :
    Calls Tryz.prog 36 #[.slice a0 n c] w fun e w' => (∃ v, e = .returned v ∧ OwnT w' w.heap.size v (l.map encA)) ∧ Below w.heap.size w w' := by
  obtain ⟨i0, hi, hz0, hz1, hz2⟩ := info_parts strInfo2
  have H1 := Lib.hid h
  have HN := Lib.hid hn
  have HS := Lib.hid hs
  clear h hn hs
  go_enter Tryz.func36, Tryz.ntmps36
  go_wp2_with fail
  go_loopw [3, 8] (fun v i wr => ∃ (k : Nat) (D : List ByteArray) (u : Value), k ≤ n ∧ i = .int .i64 (k : Int) ∧ v = u ∧ D = (l.take k).map encA ∧ D.length = k ∧ OwnT wr w.heap.size u D ∧ Below w.heap.size w wr) (fun _ i _ => n - (intOf i).toNat)
  case atStart => exact ⟨0, [], _, Nat.zero_le _, rfl, rfl, rfl, rfl, World.ownsRow_nil _ _ _ _, Below.refl _ _⟩
  case round =>
    obtain ⟨k, D, u, hk, rfl, rfl, hD, hDk, hown, hb⟩ := hrel
    have HB := Lib.hid hb
    have HO := Lib.hid hown
    have HD := Lib.hid hD
    have HDK := Lib.hid hDk
    clear hb hown hD hDk
    by_cases hlt : k < n
    · have hd : decide ((k : Int) < (n : Int)) = true := by simp; omega
      obtain ⟨b, o, rfl, hb, c0, c1, c2⟩ := H1.out.at k (by rw [← HN.out]; exact hlt)
      have a0 : wr.cell? ⟨b, o + k * 3, none⟩ = _ := (HB.out.cell (p := ⟨b, o + k * 3, none⟩) hb).trans c0
      have a1 : wr.cell? ⟨b, o + k * 3 + 1, none⟩ = _ := (HB.out.cell (p := ⟨b, o + k * 3 + 1, none⟩) hb).trans c1
      have a2 : wr.cell? ⟨b, o + k * 3 + 2, none⟩ = _ := (HB.out.cell (p := ⟨b, o + k * 3 + 2, none⟩) hb).trans c2
      have hst : (l.take (k + 1)).map encA = (l.take k).map encA ++ [encA (l.getD k noAt)] := by rw [takeD l k (by rw [← HN.out]; exact hlt) noAt]; simp
      have hsm := HS.out.2 k (by rw [← HN.out]; exact hlt)
      generalize l.getD k noAt = y at a0 a1 a2 hst hsm
      obtain ⟨t, kd, v⟩ := y
      have HOI := Lib.hid (fun W => roid_any t W (Nat.le_trans hsm.1 (by omega)))
      have hvz : v.size ≤ 1099511627776 := Nat.le_trans hsm.2 (by omega)
      obtain ⟨e1, he1⟩ : ∃ e1, e1 = wr1 6 (oidS t) := ⟨_, rfl⟩
      obtain ⟨e2, he2⟩ : ∃ e2, e2 = wr1 kd v := ⟨_, rfl⟩
      have hz1' : e1.size ≤ 131080 := by rw [he1]; exact wrapStr_size _ _
      have hz2' : e2.size ≤ 131080 := by rw [he2]; exact wrapStr_size _ _
      have HW1 := Lib.hid (fun g W h => rw1 kd g v W h hvz)
      have HW2 := Lib.hid (fun g W h k => rw2 48 g e1 e2 W h k (by omega))
      obtain ⟨s, hs⟩ : ∃ s, s = wr2 48 e1 e2 := ⟨_, rfl⟩
      have hse : encA (t, kd, v) = s := by rw [hs, he1, he2]; rfl
      rw [← he1] at HOI
      rw [← he2] at HW1
      rw [← hs] at HW2
      have HST := Lib.hid (show (l.take (k + 1)).map encA = D ++ [s] by rw [hst, hse, HD.out])
      obtain ⟨W1, hW1⟩ : ∃ W1, W1 = wr.alloc (.cells #[.string t, .int .i64 kd, .string v] 27) := ⟨_, rfl⟩
      have hwe : wr.alloc (.cells #[.string t, .int .i64 kd, .string v] 27) = W1 := hW1.symm
      obtain ⟨d0, d1, d2, _, _, _, hlt1⟩ := at_facts (heap_alloc_new wr (.cells #[.string t, .int .i64 kd, .string v] 27))
      have HBN := Lib.hid (belowNew wr (.cells #[.string t, .int .i64 kd, .string v] 27))
      rw [hwe] at d0 d1 d2 HBN hlt1
      obtain ⟨g, hg⟩ : ∃ g, g = wr.heap.size := ⟨_, rfl⟩
      rw [← hg] at d0 d1 d2 hlt1
      have HWE := Lib.hid hwe
      have HG := Lib.hid hg
      clear c0 c1 c2 hb hsm hst hs he1 he2 hse hvz hwe hW1 hg hz1' hz2'
      go_wp2_with fail
      rw [HWE.out, ← HG.out]
      clear a0 a1 a2
      go_region_held3 (fun w' => w'.cell? ⟨g, 0, none⟩ = some (.string t) ∧ w'.cell? ⟨g, 1, none⟩ = some (.int .i64 kd) ∧ w'.cell? ⟨g, 2, none⟩ = some (.string v)) (first | exact ⟨by assumption, by assumption, by assumption⟩ | go_keep)
        (first
          | (go_at_call 63; (with_reducible refine (HOI.out _).mono ?_); rintro e x1 ⟨rfl, hb⟩; have hx : Below W1.heap.size W1 x1 := (by first | exact below_next (Below.refl _ W1).drew hb | exact below_next (belowNew W1 _).drew hb | exact below_next HX2.out hb | exact below_next (Below.refl _ W1) hb | exact below_next (belowNew W1 _) hb); have d0' := (hx.cell (p := ⟨g, 0, none⟩) hlt1).trans d0; have d1' := (hx.cell (p := ⟨g, 1, none⟩) hlt1).trans d1; have d2' := (hx.cell (p := ⟨g, 2, none⟩) hlt1).trans d2; (try (have rv := (hb.cell (p := ⟨W1.heap.size, 0, none⟩) (by simp <;> omega)).trans (bx1d W1 v 9))); have HX1 := Lib.hid hx; clear hb hx)
          | (go_at_call 34; (with_reducible refine (HW1.out _ _ (by first | exact bx1 _ _ _ | exact bx1d _ _ _ | assumption)).mono ?_); rintro e x2 ⟨rfl, hb⟩; have hx : Below W1.heap.size W1 x2 := (by first | exact below_next (belowNew W1 _).drew hb | exact below_next (below_next HX1.out (belowNew x1 _)) hb | exact below_next HX1.out hb); have d0' := (hx.cell (p := ⟨g, 0, none⟩) hlt1).trans d0; have d1' := (hx.cell (p := ⟨g, 1, none⟩) hlt1).trans d1; have d2' := (hx.cell (p := ⟨g, 2, none⟩) hlt1).trans d2; have HX2 := Lib.hid hx; clear hb hx)
          | (go_at_call 34; (with_reducible refine (HW2.out _ _ (by first | exact by0 _ _ _ _ | exact by0d _ _ _ _) (by first | exact by1 _ _ _ _ | exact by1d _ _ _ _)).mono ?_); rintro e x3 ⟨rfl, hb⟩; have hx : Below W1.heap.size W1 x3 := (by first | exact below_next (below_next HX2.out (belowNew x2 _)) hb | exact below_next (below_next HX1.out (belowNew x1 _)) hb); have d0' := (hx.cell (p := ⟨g, 0, none⟩) hlt1).trans d0; have d1' := (hx.cell (p := ⟨g, 1, none⟩) hlt1).trans d1; have d2' := (hx.cell (p := ⟨g, 2, none⟩) hlt1).trans d2; have HX3 := Lib.hid hx; clear hb hx)
          | (refine step_append_own rfl (.tmp 12) (.tmp 24) 43 rfl w.heap.size 9 i0 (.string ⟨#[]⟩) 16 Tryz.underlying43 hi hz0 hz1 hz2 rfl _ D.length (D.map Value.string) (by simp [Act.eval]) ((own_below (own_below HO.out HBN.out) HX3.out).alloc _) ⟨x3.heap.size, 0, none⟩ 1 1 [.string s] (by simp [Act.eval]) rfl (row_news x3 _ _) (str_one s) (by have := HDK.out; unfold maxLen; omega) (by have := HDK.out; omega) (by have h1 := HB.out.size; have h2 := HBN.out.size; have h3 := HX3.out.size; simp; omega) ?_; intro v' w9 hown9 hgr9 _; obtain ⟨P1, P2⟩ := strT_next (Nat.le_refl _) HO.out HB.out (below_next (below_next HBN.out HX3.out) (belowNew x3 _)) hown9 hgr9; have hgx : g < x3.heap.size := Nat.lt_of_lt_of_le hlt1 HX3.out.size; have hbk : w9.heap[g]? = x3.heap[g]? := (hgr9.block g (by simp; omega) (fun e => by have h1 := (World.ownsRow.lt HO.out g e.symm).2; have h2 := HG.out; omega)).trans ((belowNew x3 _).block g hgx); have d0'' := (cell_same hbk 0).trans d0'; have d1'' := (cell_same hbk 1).trans d1'; have d2'' := (cell_same hbk 2).trans d2'; have HP1 := Lib.hid P1; have HP2 := Lib.hid P2; clear P1 P2 hown9 hgr9 hbk))
      all_goals
        clear d0 d1 d2
        go_wp2_with fail
        go_roundw
        case rel => exact ⟨k + 1, D ++ [s], _, by omega, by go_num, rfl, HST.out.symm, by rw [List.length_append, HDK.out]; rfl, HP1.out, HP2.out⟩
        case measure => simp [intOf]; omega
    · have hd : decide ((k : Int) < (n : Int)) = false := by simp; omega
      have HF := Lib.hid (show D = l.map encA by rw [HD.out, List.take_of_length_le (by rw [← HN.out]; omega)])
      go_wp2_with fail
      go_ret
      exact ⟨⟨_, rfl, by rw [← HF.out]; exact HO.out⟩, HB.out⟩
end Go.Proofs.YtfpfgdbfigdooaaGreatDoor
