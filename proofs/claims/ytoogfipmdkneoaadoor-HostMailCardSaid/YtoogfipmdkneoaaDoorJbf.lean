/-
  The walk of the law HostMail: for every two texts and every two slices of bytes it returns true, and leaves all that was there as it was.
-/
import Derived.Test.YtoogfipmdkneoaaDoorJbd
namespace Go.Proofs.YtoogfipmdkneoaaDoor
open Go.RowKit


set_option maxRecDepth 100000 in
set_option maxHeartbeats 4000000 in
theorem mllaw (s t : ByteArray) (a0 a1 : Option Addr) (l m : List UInt8) (c0 c1 : Nat) (w : World) (hmx : Mx w) (hl : BLies w a0 l) (hm : BLies w a1 m) (hll : l.length ≤ 9223372036854775807) (hml : m.length ≤ 9223372036854775807) :
    Calls Tryd.prog 6 #[.string s, .string t, .slice a0 l.length c0, .slice a1 m.length c1] w fun e w' => e = .returned (.bool true) ∧ Below w.heap.size w w' := by
  have HMX := Lib.hid hmx
  clear hmx
  obtain ⟨S, rfl⟩ : ∃ S, s = strOf S := ⟨_, strOf_of rfl⟩
  obtain ⟨T, rfl⟩ : ∃ T, t = strOf T := ⟨_, strOf_of rfl⟩
  have e0 := strOf_size S
  have e1 := strOf_size T
  have HL := Lib.hid hl
  have HM := Lib.hid hm
  have HLL := Lib.hid hll
  have HML := Lib.hid hml
  clear hl hm hll hml
  rcases len_or S T with h | ⟨h, h'⟩ | ⟨h, h'⟩
  · have d1 : decide ((200 : Int) < (S.length : Int)) = true := decide_eq_true (by omega)
    clear h
    go_enter Tryd.func6, Tryd.ntmps6
    go_wp2_with (go_at_call 10; (with_reducible refine (hawake_any _ (HMX.out)).mono ?_); rintro e w1 ⟨rfl, hb1⟩; have HB1 := Lib.hid hb1; clear hb1)
    go_ret
    exact ⟨rfl, HB1.out⟩
  · have d1 : decide ((200 : Int) < (S.length : Int)) = false := decide_eq_false (by omega)
    have d2 : decide ((200 : Int) < (T.length : Int)) = true := decide_eq_true (by omega)
    clear h h'
    go_enter Tryd.func6, Tryd.ntmps6
    go_wp2_with (go_at_call 10; (with_reducible refine (hawake_any _ (HMX.out)).mono ?_); rintro e w1 ⟨rfl, hb1⟩; have HB1 := Lib.hid hb1; clear hb1)
    go_ret
    exact ⟨rfl, HB1.out⟩
  · have d1 : decide ((200 : Int) < (S.length : Int)) = false := decide_eq_false (by omega)
    have d2 : decide ((200 : Int) < (T.length : Int)) = false := decide_eq_false (by omega)
    have HS := Lib.hid (show S.length ≤ 100000 by omega)
    have HT := Lib.hid (show T.length ≤ 100000 by omega)
    clear h h'
    go_enter Tryd.func6, Tryd.ntmps6
    go_wp2_with (first
      | (go_at_call 12; (with_reducible refine (dns_any a0 l c0 _ HL.out HLL.out).mono ?_); rintro e w1 ⟨A, rfl, hA, hb1⟩; have HW1 := Lib.hid hb1; have HA := Lib.hid hA; clear hb1 hA)
      | (go_at_call 12; (with_reducible refine (dns_any a1 m c1 _ (HM.out.below HW1.out) HML.out).mono ?_); rintro e w2 ⟨B, rfl, hB, hb2⟩; have HW2 := Lib.hid (below_next HW1.out hb2); have HB := Lib.hid hB; clear hb2 hB; have cat1 := fun w => pre_of [46] B (by have := HB.out; simp; omega) w; rw [show strOf [46] = ⟨#[46]⟩ from rfl] at cat1; have HC1 := Lib.hid (show ([46] ++ B).length ≤ 100000 by have := HB.out; simp; omega); generalize [46] ++ B = DB at cat1 HC1; have cat2 := fun w => pre_of [97, 110, 110, 64] B (by have := HB.out; simp; omega) w; rw [show strOf [97, 110, 110, 64] = ⟨#[97, 110, 110, 64]⟩ from rfl] at cat2; have HC2 := Lib.hid (show ([97, 110, 110, 64] ++ B).length ≤ 100000 by have := HB.out; simp; omega); generalize [97, 110, 110, 64] ++ B = AB at cat2 HC2; have cat3 := fun w => pre_of [46] A (by have := HA.out; simp; omega) w; rw [show strOf [46] = ⟨#[46]⟩ from rfl] at cat3; have HC3 := Lib.hid (show ([46] ++ A).length ≤ 100000 by have := HA.out; simp; omega); generalize [46] ++ A = DA at cat3 HC3; have cat4 := fun w => pre_of [97, 110, 110, 64] A (by have := HA.out; simp; omega) w; rw [show strOf [97, 110, 110, 64] = ⟨#[97, 110, 110, 64]⟩ from rfl] at cat4; have HC4 := Lib.hid (show ([97, 110, 110, 64] ++ A).length ≤ 100000 by have := HA.out; simp; omega); generalize [97, 110, 110, 64] ++ A = AA at cat4 HC4; have cat5 := fun w => pre_of [65, 110, 110, 64] A (by have := HA.out; simp; omega) w; rw [show strOf [65, 110, 110, 64] = ⟨#[65, 110, 110, 64]⟩ from rfl] at cat5; have HC5 := Lib.hid (show ([65, 110, 110, 64] ++ A).length ≤ 100000 by have := HA.out; simp; omega); generalize [65, 110, 110, 64] ++ A = CA at cat5 HC5)
      | (go_at_call 11; (with_reducible refine (pieces_any a0 l c0 _ (HL.out.below HW2.out) HLL.out).mono ?_); rintro e w3 ⟨P, rfl, hP, hb3⟩; have HW3 := Lib.hid (below_next HW2.out hb3); have HP := Lib.hid hP; clear hb3 hP)
      | (go_at_call 11; (with_reducible refine (pieces_any a1 m c1 _ (HM.out.below HW3.out) HML.out).mono ?_); rintro e w4 ⟨Q, rfl, hQ, hb4⟩; have HW4 := Lib.hid (below_next HW3.out hb4); have HQ := Lib.hid hQ; clear hb4 hQ)
      | (go_at_call 23; (with_reducible refine (low_any AA (by have := HC4.out; omega) _).mono ?_); rintro e w5 ⟨rfl, hb5⟩; have HW5 := Lib.hid (below_next HW4.out hb5); clear hb5))
    obtain ⟨R, hR⟩ : ∃ R : List (List UInt8 × List UInt8), R = [(S, T), (AA, B), (AA, DB), (AA, AB), (AA, CA), (A, B), (A, DB), (DA, DB), (DA, B), (A, AA), (P, Q), (AA, (lowL AA))] := ⟨_, rfl⟩
    have hcell : ∀ k, k < 12 → (w5.alloc (.cells #[.string (strOf S), .string (strOf T), .string (strOf AA), .string (strOf B), .string (strOf AA), .string (strOf DB), .string (strOf AA), .string (strOf AB), .string (strOf AA), .string (strOf CA), .string (strOf A), .string (strOf B), .string (strOf A), .string (strOf DB), .string (strOf DA), .string (strOf DB), .string (strOf DA), .string (strOf B), .string (strOf A), .string (strOf AA), .string (strOf P), .string (strOf Q), .string (strOf AA), .string (strOf (lowL AA))] 29)).cell? ⟨w5.heap.size, k * 2, none⟩ = some (.string (strOf (R.getD k ([], [])).1)) ∧ (w5.alloc (.cells #[.string (strOf S), .string (strOf T), .string (strOf AA), .string (strOf B), .string (strOf AA), .string (strOf DB), .string (strOf AA), .string (strOf AB), .string (strOf AA), .string (strOf CA), .string (strOf A), .string (strOf B), .string (strOf A), .string (strOf DB), .string (strOf DA), .string (strOf DB), .string (strOf DA), .string (strOf B), .string (strOf A), .string (strOf AA), .string (strOf P), .string (strOf Q), .string (strOf AA), .string (strOf (lowL AA))] 29)).cell? ⟨w5.heap.size, k * 2 + 1, none⟩ = some (.string (strOf (R.getD k ([], [])).2)) := fun k hk => by
      rw [hR]
      exact row_two w5 [(S, T), (AA, B), (AA, DB), (AA, AB), (AA, CA), (A, B), (A, DB), (DA, DB), (DA, B), (A, AA), (P, Q), (AA, (lowL AA))] 29 k hk
    have HRL := Lib.hid (show ∀ X ∈ R, X.1.length ≤ 100000 ∧ X.2.length ≤ 100000 by
      intro X hX
      rw [hR] at hX
      simp only [List.mem_cons, List.not_mem_nil, or_false] at hX
      have hA : A.length ≤ 100000 := by have := HA.out; omega
      have hB : B.length ≤ 100000 := by have := HB.out; omega
      have hP : P.length ≤ 100000 := by have := HP.out; omega
      have hQ : Q.length ≤ 100000 := by have := HQ.out; omega
      have hLA : (lowL AA).length ≤ 100000 := by rw [lowL_length]; exact HC4.out
      rcases hX with rfl | rfl | rfl | rfl | rfl | rfl | rfl | rfl | rfl | rfl | rfl | rfl
      · exact ⟨HS.out, HT.out⟩
      · exact ⟨HC4.out, hB⟩
      · exact ⟨HC4.out, HC1.out⟩
      · exact ⟨HC4.out, HC2.out⟩
      · exact ⟨HC4.out, HC5.out⟩
      · exact ⟨hA, hB⟩
      · exact ⟨hA, HC1.out⟩
      · exact ⟨HC3.out, HC1.out⟩
      · exact ⟨HC3.out, hB⟩
      · exact ⟨hA, HC4.out⟩
      · exact ⟨hP, hQ⟩
      · exact ⟨HC4.out, hLA⟩)
    have HRN := Lib.hid (show R.length = 12 by rw [hR]; rfl)
    have HV := Lib.hid (show Below w.heap.size w (w5.alloc (.cells #[.string (strOf S), .string (strOf T), .string (strOf AA), .string (strOf B), .string (strOf AA), .string (strOf DB), .string (strOf AA), .string (strOf AB), .string (strOf AA), .string (strOf CA), .string (strOf A), .string (strOf B), .string (strOf A), .string (strOf DB), .string (strOf DA), .string (strOf DB), .string (strOf DA), .string (strOf B), .string (strOf A), .string (strOf AA), .string (strOf P), .string (strOf Q), .string (strOf AA), .string (strOf (lowL AA))] 29)) from HW5.out.alloc HW5.out.size _)
    have hgV : w5.heap.size < (w5.alloc (.cells #[.string (strOf S), .string (strOf T), .string (strOf AA), .string (strOf B), .string (strOf AA), .string (strOf DB), .string (strOf AA), .string (strOf AB), .string (strOf AA), .string (strOf CA), .string (strOf A), .string (strOf B), .string (strOf A), .string (strOf DB), .string (strOf DA), .string (strOf DB), .string (strOf DA), .string (strOf B), .string (strOf A), .string (strOf AA), .string (strOf P), .string (strOf Q), .string (strOf AA), .string (strOf (lowL AA))] 29)).heap.size := by simp
    clear hR
    generalize w5.alloc (.cells #[.string (strOf S), .string (strOf T), .string (strOf AA), .string (strOf B), .string (strOf AA), .string (strOf DB), .string (strOf AA), .string (strOf AB), .string (strOf AA), .string (strOf CA), .string (strOf A), .string (strOf B), .string (strOf A), .string (strOf DB), .string (strOf DA), .string (strOf DB), .string (strOf DA), .string (strOf B), .string (strOf A), .string (strOf AA), .string (strOf P), .string (strOf Q), .string (strOf AA), .string (strOf (lowL AA))] 29) = V at hcell HV hgV ⊢
    have HMV := Lib.hid (HMX.out.below HV.out)
    obtain ⟨g, hg⟩ : ∃ g, g = w5.heap.size := ⟨_, rfl⟩
    rw [← hg] at hcell hgV ⊢
    have HC := Lib.hid hcell
    have HG := Lib.hid hgV
    clear hcell hgV hg
    go_loopw [81] (fun i wr => ∃ k : Nat, k ≤ 12 ∧ i = .int .i64 (k : Int) ∧ Below V.heap.size V wr) (fun i _ => 12 - (intOf i).toNat)
    case atStart => exact ⟨0, Nat.zero_le _, rfl, Below.refl _ _⟩
    case round =>
      obtain ⟨wz, hwz⟩ : ∃ wz, wz = wr := ⟨_, rfl⟩
      subst hwz
      obtain ⟨k, hk, rfl, hb⟩ := hrel
      have HBK := Lib.hid hb
      clear hb
      by_cases hlt : k < 12
      · have hd : decide ((k : Int) < 12) = true := decide_eq_true (by omega)
        have hc0 := (HBK.out.cell (p := ⟨g, k * 2, none⟩) HG.out).trans (HC.out k hlt).1
        have hc1 := (HBK.out.cell (p := ⟨g, k * 2 + 1, none⟩) HG.out).trans (HC.out k hlt).2
        have hlen := HRL.out _ (mem_pair (l := R) (k := k) (by rw [HRN.out]; exact hlt))
        generalize R.getD k ([], []) = XY at hc0 hc1 hlen
        obtain ⟨X, Y⟩ := XY
        simp only at hc0 hc1 hlen
        have HX := Lib.hid hlen.1
        have HY := Lib.hid hlen.2
        clear hlen
        obtain ⟨G, hG⟩ : ∃ G, G = wz.heap.size := ⟨_, rfl⟩
        obtain ⟨V2, hV2⟩ : ∃ V2, V2 = wz.alloc (.cells #[.string (strOf X), .string (strOf Y)] 29) := ⟨_, rfl⟩
        have hbV : Below wz.heap.size wz V2 := by rw [hV2]; exact belowNew wz _
        have k0 : V2.cell? ⟨G, 0, none⟩ = some (.string (strOf X)) := by
          rw [hV2, hG, cell_of_row _ _ 0 _ _ _ (heap_alloc_new wz _)]; rfl
        have k1 : V2.cell? ⟨G, 1, none⟩ = some (.string (strOf Y)) := by
          rw [hV2, hG, cell_of_row _ _ 1 _ _ _ (heap_alloc_new wz _)]; rfl
        have HBV := Lib.hid (HBK.out.trans (hbV.mono HBK.out.size))
        have HVE := Lib.hid hV2.symm
        have HGE := Lib.hid hG.symm
        have K0 := Lib.hid k0
        have K1 := Lib.hid k1
        clear hbV hV2 hG k0 k1
        go_wp2_with fail
        rw [HVE.out, HGE.out]
        have q0 := cell_regrown K0.out
        have q1 := cell_regrown K1.out
        have f1 : ∀ d os, _ := fun d os => Calls.regrown_of (pmm_any X Y HX.out HY.out (Sort.grow (redrawn V2 d) os) ((HMV.out.below HBV.out).below (below_regrown V2 d os)))
        have f2 : ∀ d os, _ := fun d os => Calls.regrown_of (rmm_any X Y HX.out HY.out (Sort.grow (redrawn V2 d) os))
        have f3 : ∀ d os, _ := fun d os => Calls.regrown_of (pmw_any X Y HX.out HY.out (Sort.grow (redrawn V2 d) os) ((HMV.out.below HBV.out).below (below_regrown V2 d os)))
        have f4 : ∀ d os, _ := fun d os => Calls.regrown_of (rmw_any X Y HX.out HY.out (Sort.grow (redrawn V2 d) os))
        clear hc0 hc1
        refine wp_region_quiet_below (by kernel_rfl) (by kernel_rfl) ?_
        repeat (go_big_quiet_step (with_reducible first | exact f1 _ _ | exact f2 _ _ | exact f3 _ _ | exact f4 _ _))
        refine wpQuiet_nil ?_
        intro _ hw'
        obtain ⟨⟨dq, osq⟩, hw''⟩ := hw'
        subst hw''
        have HBR := Lib.hid (HBV.out.trans ((below_regrown V2 dq osq).mono HBV.out.size))
        clear q0 q1 f1 f2 f3 f4
        go_wp2_with fail
        go_roundw
        case rel => exact ⟨k + 1, by omega, by go_num, HBR.out⟩
        case measure => simp [intOf]; omega
      · have ek : k = 12 := by omega
        subst ek
        have hd : decide (((12 : Nat) : Int) < 12) = false := by decide
        go_wp2_with (go_at_call 10; (with_reducible refine (hawake_any _ (HMV.out.below HBK.out)).mono ?_); rintro e z1 ⟨rfl, hz1⟩; have HZ := Lib.hid (below_next HBK.out hz1); clear hz1)
        go_ret
        exact ⟨rfl, HV.out.trans (HZ.out.mono HV.out.size)⟩

end Go.Proofs.YtoogfipmdkneoaaDoor
