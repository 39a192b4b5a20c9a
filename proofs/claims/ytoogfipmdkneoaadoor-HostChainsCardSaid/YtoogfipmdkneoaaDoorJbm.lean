/-
  The walk of the law HostChains: for every three rows of bytes it returns true, and leaves all that was there as it was.
  A slice of bytes that can be read is no longer than its capacity.
-/
import Derived.Test.YtoogfipmdkneoaaDoorJbk
import Derived.Deep.RegionWith
import Derived.Deep.CutRange
import Derived.Deep.DeepCutAuto
import Derived.Test.YtoogfipmdkneoaaDoorJaz
namespace Go.Proofs.YtoogfipmdkneoaaDoor
open Go.RowKit

theorem chain_cases {f : List UInt8 → List UInt8 → Bool} (hf : ∀ {x y z}, f x y = true → f y z = true → f x z = true) (x y z : List UInt8) :
    f x y = false ∨ (f x y = true ∧ f y z = false) ∨ (f x y = true ∧ f y z = true ∧ f x z = true) := by
  cases h1 : f x y with
  | false => exact .inl rfl
  | true =>
    cases h2 : f y z with
    | false => exact .inr (.inl ⟨rfl, rfl⟩)
    | true => exact .inr (.inr ⟨rfl, rfl, hf h1 h2⟩)
theorem row_one (W : World) (R : List (List UInt8)) (k : Nat) (hk : k < R.length) :
    (W.alloc (.cells (R.map fun p => Value.string (strOf p)).toArray 9)).cell? ⟨W.heap.size, k, none⟩ = some (.string (strOf (R.getD k []))) := by
  rw [cell_of_row _ _ k _ _ _ (heap_alloc_new W _)]
  simp [hk]
theorem mem_one {l : List (List UInt8)} {k : Nat} (h : k < l.length) : l.getD k [] ∈ l := by
  rw [List.getD_eq_getElem?_getD, List.getElem?_eq_getElem h]
  exact List.getElem_mem h
theorem blies_take {w : World} {a : Option Addr} {l : List UInt8} (h : BLies w a l) (k : Nat) : BLies w a (l.take k) := by
  rcases h with rfl | ⟨b, o, rfl, hc⟩
  · exact .inl (by simp)
  · refine .inr ⟨b, o, rfl, fun i hi => ?_⟩
    rw [List.getElem_take]
    exact hc i (by rw [List.length_take] at hi; omega)
theorem dns_cut (a : Option Addr) (l : List UInt8) (k cap : Nat) (w : World) (hl : BLies w a l) (hk : k ≤ l.length) (hlen : l.length ≤ 9223372036854775807) :
    Calls Tryd.prog 12 #[.slice a k cap] w fun e w' => ∃ s : List UInt8, e = .returned (.string (strOf s)) ∧ s.length ≤ 16 ∧ Below w.heap.size w w' := by
  have := dns_any a (l.take k) cap w (blies_take hl k) (by rw [List.length_take]; omega)
  rwa [show (l.take k).length = k by rw [List.length_take]; omega] at this
theorem two_of (l m : List UInt8) : (¬ 1 < l.length) ∨ (1 < l.length ∧ ¬ m.length < 2) ∨ (1 < l.length ∧ m.length < 2) := by omega

set_option maxRecDepth 100000 in
set_option maxHeartbeats 16000000 in
theorem chlaw (a0 a1 a2 : Option Addr) (l m n : List UInt8) (c0 c1 c2 : Nat) (w : World) (hmx : Mx w) (hl : BLies w a0 l) (hm : BLies w a1 m) (hn : BLies w a2 n)
    (hll : l.length ≤ 9223372036854775807) (hml : m.length ≤ 9223372036854775807) (hnl : n.length ≤ 9223372036854775807) (hcap : l.length ≤ c0) :
    Calls Tryd.prog 9 #[.slice a0 l.length c0, .slice a1 m.length c1, .slice a2 n.length c2] w fun e w' => e = .returned (.bool true) ∧ Below w.heap.size w w' := by
  have HMX := Lib.hid hmx
  clear hmx
  have HL := Lib.hid hl
  have HM := Lib.hid hm
  have HN := Lib.hid hn
  have HLL := Lib.hid hll
  have HML := Lib.hid hml
  have HNL := Lib.hid hnl
  have HCAP := Lib.hid hcap
  clear hl hm hn hll hml hnl hcap
  go_enter Tryd.func9, Tryd.ntmps9
  go_upto_region 2 with (first
    | (go_at_call 12; (with_reducible refine (dns_any a0 l c0 _ HL.out HLL.out).mono ?_); rintro e w1 ⟨A, rfl, hA, hb1⟩; have HW1 := Lib.hid hb1; have HA := Lib.hid (show A.length ≤ 1000 by omega); clear hb1 hA)
    | (go_at_call 12; (with_reducible refine (dns_any a1 m c1 _ (HM.out.below HW1.out) HML.out).mono ?_); rintro e w2 ⟨B0, rfl, hX, hb2⟩; have HW2 := Lib.hid (below_next HW1.out hb2); have HB0 := Lib.hid (show B0.length ≤ 1000 by omega); clear hb2 hX)
    | (go_at_call 12; (with_reducible refine (dns_any a2 n c2 _ (HN.out.below HW2.out) HNL.out).mono ?_); rintro e w3 ⟨C0, rfl, hY, hb3⟩; have HW3 := Lib.hid (below_next HW2.out hb3); have HC0 := Lib.hid (show C0.length ≤ 1000 by omega); clear hb3 hY))
  obtain ⟨q, hq⟩ : ∃ q, q = decide (1 < l.length ∧ m.length < 2) := ⟨_, rfl⟩
  have HQ := Lib.hid hq
  clear hq
  go_cut [29] (fun s29 wx => s29 = .bool q ∧ wx = w3)
  case first =>
    rcases two_of l m with h | ⟨h, g⟩ | ⟨h, g⟩
    · have d1 : decide ((1 : Int) < (l.length : Int)) = false := decide_eq_false (by omega)
      have HQ2 := Lib.hid (show q = false by rw [HQ.out]; exact decide_eq_false (by omega))
      clear h
      go_wp2_with fail
      go_meet
      exact ⟨by rw [HQ2.out], rfl⟩
    · have d1 : decide ((1 : Int) < (l.length : Int)) = true := decide_eq_true (by omega)
      have d2 : decide ((m.length : Int) < 2) = false := decide_eq_false (by omega)
      have HQ2 := Lib.hid (show q = false by rw [HQ.out]; exact decide_eq_false (by omega))
      clear h g
      go_wp2_with fail
      go_meet
      exact ⟨by rw [HQ2.out], rfl⟩
    · have d1 : decide ((1 : Int) < (l.length : Int)) = true := decide_eq_true (by omega)
      have d2 : decide ((m.length : Int) < 2) = true := decide_eq_true (by omega)
      have HQ2 := Lib.hid (show q = true by rw [HQ.out]; exact decide_eq_true (by omega))
      clear h g
      go_wp2_with fail
      go_meet
      exact ⟨by rw [HQ2.out], rfl⟩
  case rest =>
    obtain ⟨rfl, hwc⟩ := hcut
    subst hwc
    go_upto_if 29 with (fail)
    go_cut [8, 9] (fun s8 s9 wx => ∃ B C : List UInt8, s8 = .string (strOf B) ∧ s9 = .string (strOf C) ∧ B.length ≤ 1000 ∧ C.length ≤ 1000 ∧ Below w.heap.size w wx)
    case first =>
      cases q
      · go_wp2_with fail
        go_meet
        exact ⟨B0, C0, rfl, rfl, HB0.out, HC0.out, HW3.out⟩
      · have hq2 := of_decide_eq_true HQ.out.symm
        have h1 := hq2.1
        obtain ⟨b, o, rfl, hc⟩ := HL.out.resolve_left (fun e => by rw [e] at h1; simp at h1)
        have HD := HW3
        have hcp := HCAP.out
        have hm1 : min (l.length : Int) 2 = 2 := by omega
        have hm2 : decide ((l.length : Int) < 2) = false := decide_eq_false (by omega)
        have g1 : 1 ≤ c0 := by omega
        have g2 : 2 ≤ c0 := by omega
        clear hc hq2
        have H1 := Lib.hid h1
        go_wp2_with fail
        go_region_with (first
          | (go_at_call 12; (with_reducible refine (dns_cut _ l 2 c0 _ (by first | exact HL.out.below HD.out | exact HL.out.below HD.out.drew) (by have := H1.out; omega) HLL.out).mono ?_); rintro e w4 ⟨B, rfl, hB, hb4⟩; have HT := HD; have HD := Lib.hid (by first | exact below_next HT.out hb4 | exact below_next HT.out.drew hb4); have HB := Lib.hid (show B.length ≤ 1000 by omega); clear hb4 hB HT)
          | (go_at_call 12; (with_reducible refine (dns_cut _ l 1 c0 _ (by first | exact HL.out.below HD.out | exact HL.out.below HD.out.drew) (by have := H1.out; omega) HLL.out).mono ?_); rintro e w5 ⟨C, rfl, hC, hb5⟩; have HT := HD; have HD := Lib.hid (by first | exact below_next HT.out hb5 | exact below_next HT.out.drew hb5); have HC := Lib.hid (show C.length ≤ 1000 by omega); clear hb5 hC HT))
        all_goals go_wp2_with fail
        all_goals go_meet
        all_goals exact ⟨B, C, rfl, rfl, HB.out, HC.out, HD.out⟩
    case rest =>
      obtain ⟨B, C, rfl, rfl, hB, hC, hD⟩ := hcut
      have HB := Lib.hid hB
      have HC := Lib.hid hC
      have HD := Lib.hid hD
      clear hB hC hD HW1 HW2 HW3 HB0 HC0 HQ
      have HA5 := Lib.hid (show A.length ≤ 100000 by have := HA.out; omega)
      have HB5 := Lib.hid (show B.length ≤ 100000 by have := HB.out; omega)
      have HC5 := Lib.hid (show C.length ≤ 100000 by have := HC.out; omega)
      have catA1 := fun w => pre_of [97, 110, 110, 64] A (by have := HA.out; simp; omega) w; rw [show strOf [97, 110, 110, 64] = ⟨#[97, 110, 110, 64]⟩ from rfl] at catA1; have LcatA1 := Lib.hid (show ([97, 110, 110, 64] ++ A).length ≤ 100000 by have := HA.out; simp; omega); generalize [97, 110, 110, 64] ++ A = XcatA1 at catA1 LcatA1
      have catA2 := fun w => pre_of [46] A (by have := HA.out; simp; omega) w; rw [show strOf [46] = ⟨#[46]⟩ from rfl] at catA2; have LcatA2 := Lib.hid (show ([46] ++ A).length ≤ 100000 by have := HA.out; simp; omega); generalize [46] ++ A = XcatA2 at catA2 LcatA2
      have catB1 := fun w => pre_of [97, 110, 110, 64] B (by have := HB.out; simp; omega) w; rw [show strOf [97, 110, 110, 64] = ⟨#[97, 110, 110, 64]⟩ from rfl] at catB1; have LcatB1 := Lib.hid (show ([97, 110, 110, 64] ++ B).length ≤ 100000 by have := HB.out; simp; omega); generalize [97, 110, 110, 64] ++ B = XcatB1 at catB1 LcatB1
      have catB2 := fun w => pre_of [46] B (by have := HB.out; simp; omega) w; rw [show strOf [46] = ⟨#[46]⟩ from rfl] at catB2; have LcatB2 := Lib.hid (show ([46] ++ B).length ≤ 100000 by have := HB.out; simp; omega); generalize [46] ++ B = XcatB2 at catB2 LcatB2
      have catC1 := fun w => pre_of [97, 110, 110, 64] C (by have := HC.out; simp; omega) w; rw [show strOf [97, 110, 110, 64] = ⟨#[97, 110, 110, 64]⟩ from rfl] at catC1; have LcatC1 := Lib.hid (show ([97, 110, 110, 64] ++ C).length ≤ 100000 by have := HC.out; simp; omega); generalize [97, 110, 110, 64] ++ C = XcatC1 at catC1 LcatC1
      have catC2 := fun w => pre_of [46] C (by have := HC.out; simp; omega) w; rw [show strOf [46] = ⟨#[46]⟩ from rfl] at catC2; have LcatC2 := Lib.hid (show ([46] ++ C).length ≤ 100000 by have := HC.out; simp; omega); generalize [46] ++ C = XcatC2 at catC2 LcatC2
      rcases chain_cases (f := dnsWithinB) dns_chain A B C with b1 | ⟨b1, b2⟩ | ⟨b1, b2, b3⟩
      all_goals
        have F1 := Lib.hid (fun w => pwithin_is b1 HA5.out HB5.out w)
        try have F2 := Lib.hid (fun w => pwithin_is b2 HB5.out HC5.out w)
        try have F3 := Lib.hid (fun w => pwithin_is b3 HA5.out HC5.out w)
        clear b1
        try clear b2
        try clear b3
        go_wp2_with (first
          | (go_at_call 26; (with_reducible refine (F1.out _).mono ?_); rintro e ww ⟨rfl, hb11⟩; have HT11 := HD; have HD := Lib.hid (below_next HT11.out hb11); clear hb11 HT11)
          | (go_at_call 26; (with_reducible refine (F2.out _).mono ?_); rintro e ww ⟨rfl, hb12⟩; have HT12 := HD; have HD := Lib.hid (below_next HT12.out hb12); clear hb12 HT12)
          | (go_at_call 26; (with_reducible refine (F3.out _).mono ?_); rintro e ww ⟨rfl, hb13⟩; have HT13 := HD; have HD := Lib.hid (below_next HT13.out hb13); clear hb13 HT13))
        obtain ⟨R1, hR1⟩ : ∃ R : List (List UInt8), R = [XcatA1, A, XcatA2] := ⟨_, rfl⟩
        have hcell : ∀ k, k < 3 → (ww.alloc (.cells #[.string (strOf XcatA1), .string (strOf A), .string (strOf XcatA2)] 9)).cell? ⟨ww.heap.size, k, none⟩ = some (.string (strOf (R1.getD k []))) := fun k hk => by
          rw [hR1]
          exact row_one ww [XcatA1, A, XcatA2] k hk
        have HLR1 := Lib.hid (show ∀ X ∈ R1, X.length ≤ 100000 by
          intro X hX
          rw [hR1] at hX
          simp only [List.mem_cons, List.not_mem_nil, or_false] at hX
          rcases hX with rfl | rfl | rfl
          · exact LcatA1.out
          · exact HA5.out
          · exact LcatA2.out)
        have HNR1 := Lib.hid (show R1.length = 3 by rw [hR1]; rfl)
        have HV1 := Lib.hid (show Below w.heap.size w (ww.alloc (.cells #[.string (strOf XcatA1), .string (strOf A), .string (strOf XcatA2)] 9)) from HD.out.alloc HD.out.size _)
        have hgV1 : ww.heap.size < (ww.alloc (.cells #[.string (strOf XcatA1), .string (strOf A), .string (strOf XcatA2)] 9)).heap.size := by simp
        clear hR1
        generalize ww.alloc (.cells #[.string (strOf XcatA1), .string (strOf A), .string (strOf XcatA2)] 9) = V1 at hcell HV1 hgV1  ⊢
        obtain ⟨g1, hg1⟩ : ∃ g, g = ww.heap.size := ⟨_, rfl⟩
        rw [← hg1] at hcell hgV1 ⊢
        have HCV1 := Lib.hid hcell
        have HGV1 := Lib.hid hgV1
        clear hcell hgV1 hg1
        go_loopw [60] (fun i wr => ∃ k : Nat, k ≤ 3 ∧ i = .int .i64 (k : Int) ∧ Below V1.heap.size V1 wr) (fun i _ => 3 - (intOf i).toNat)
        case atStart => exact ⟨0, Nat.zero_le _, rfl, Below.refl _ _⟩
        case round =>
          obtain ⟨wz1, hwz⟩ : ∃ wz, wz = wr := ⟨_, rfl⟩
          subst hwz
          obtain ⟨k1, hk1, rfl, hb⟩ := hrel
          have HBK1 := Lib.hid hb
          clear hb
          by_cases hltk1 : k1 < 3
          · have hdk1 : decide ((k1 : Int) < 3) = true := decide_eq_true (by omega)
            have hck1 := (HBK1.out.cell (p := ⟨g1, k1, none⟩) HGV1.out).trans (HCV1.out k1 hltk1)
            have hlen := HLR1.out _ (mem_one (l := R1) (k := k1) (by rw [HNR1.out]; exact hltk1))
            generalize R1.getD k1 [] = X at hck1 hlen
            have HX := Lib.hid hlen
            have HLTk1 := Lib.hid hltk1
            clear hlen
            have HE1 := Lib.hid (HV1.out.trans (HBK1.out.mono HV1.out.size))
            go_wp2_with fail
            clear hdk1 hck1 hltk1
            obtain ⟨R2, hR2⟩ : ∃ R : List (List UInt8), R = [XcatB1, B, XcatB2] := ⟨_, rfl⟩
            have hcell : ∀ k, k < 3 → (wz1.alloc (.cells #[.string (strOf XcatB1), .string (strOf B), .string (strOf XcatB2)] 9)).cell? ⟨wz1.heap.size, k, none⟩ = some (.string (strOf (R2.getD k []))) := fun k hk => by
              rw [hR2]
              exact row_one wz1 [XcatB1, B, XcatB2] k hk
            have HLR2 := Lib.hid (show ∀ X ∈ R2, X.length ≤ 100000 by
              intro X hX
              rw [hR2] at hX
              simp only [List.mem_cons, List.not_mem_nil, or_false] at hX
              rcases hX with rfl | rfl | rfl
              · exact LcatB1.out
              · exact HB5.out
              · exact LcatB2.out)
            have HNR2 := Lib.hid (show R2.length = 3 by rw [hR2]; rfl)
            have HV2 := Lib.hid (show Below w.heap.size w (wz1.alloc (.cells #[.string (strOf XcatB1), .string (strOf B), .string (strOf XcatB2)] 9)) from HE1.out.alloc HE1.out.size _)
            have hgV2 : wz1.heap.size < (wz1.alloc (.cells #[.string (strOf XcatB1), .string (strOf B), .string (strOf XcatB2)] 9)).heap.size := by simp
            clear hR2
            have HF2 := Lib.hid (show Below V1.heap.size V1 (wz1.alloc (.cells #[.string (strOf XcatB1), .string (strOf B), .string (strOf XcatB2)] 9)) from HBK1.out.alloc HBK1.out.size _)
            generalize wz1.alloc (.cells #[.string (strOf XcatB1), .string (strOf B), .string (strOf XcatB2)] 9) = V2 at hcell HV2 hgV2 HF2 ⊢
            obtain ⟨g2, hg2⟩ : ∃ g, g = wz1.heap.size := ⟨_, rfl⟩
            rw [← hg2] at hcell hgV2 ⊢
            have HCV2 := Lib.hid hcell
            have HGV2 := Lib.hid hgV2
            clear hcell hgV2 hg2
            go_loopw [71] (fun i wr => ∃ k : Nat, k ≤ 3 ∧ i = .int .i64 (k : Int) ∧ Below V2.heap.size V2 wr) (fun i _ => 3 - (intOf i).toNat)
            case atStart => exact ⟨0, Nat.zero_le _, rfl, Below.refl _ _⟩
            case round =>
              obtain ⟨wz2, hwz⟩ : ∃ wz, wz = wr := ⟨_, rfl⟩
              subst hwz
              obtain ⟨k2, hk2, rfl, hb⟩ := hrel
              have HBK2 := Lib.hid hb
              clear hb
              by_cases hltk2 : k2 < 3
              · have hdk2 : decide ((k2 : Int) < 3) = true := decide_eq_true (by omega)
                have hck2 := (HBK2.out.cell (p := ⟨g2, k2, none⟩) HGV2.out).trans (HCV2.out k2 hltk2)
                have hlen := HLR2.out _ (mem_one (l := R2) (k := k2) (by rw [HNR2.out]; exact hltk2))
                generalize R2.getD k2 [] = Y at hck2 hlen
                have HY := Lib.hid hlen
                have HLTk2 := Lib.hid hltk2
                clear hlen
                have HE2 := Lib.hid (HV2.out.trans (HBK2.out.mono HV2.out.size))
                go_wp2_with fail
                clear hdk2 hck2 hltk2
                obtain ⟨R3, hR3⟩ : ∃ R : List (List UInt8), R = [XcatC1, C, XcatC2] := ⟨_, rfl⟩
                have hcell : ∀ k, k < 3 → (wz2.alloc (.cells #[.string (strOf XcatC1), .string (strOf C), .string (strOf XcatC2)] 9)).cell? ⟨wz2.heap.size, k, none⟩ = some (.string (strOf (R3.getD k []))) := fun k hk => by
                  rw [hR3]
                  exact row_one wz2 [XcatC1, C, XcatC2] k hk
                have HLR3 := Lib.hid (show ∀ X ∈ R3, X.length ≤ 100000 by
                  intro X hX
                  rw [hR3] at hX
                  simp only [List.mem_cons, List.not_mem_nil, or_false] at hX
                  rcases hX with rfl | rfl | rfl
                  · exact LcatC1.out
                  · exact HC5.out
                  · exact LcatC2.out)
                have HNR3 := Lib.hid (show R3.length = 3 by rw [hR3]; rfl)
                have HV3 := Lib.hid (show Below w.heap.size w (wz2.alloc (.cells #[.string (strOf XcatC1), .string (strOf C), .string (strOf XcatC2)] 9)) from HE2.out.alloc HE2.out.size _)
                have hgV3 : wz2.heap.size < (wz2.alloc (.cells #[.string (strOf XcatC1), .string (strOf C), .string (strOf XcatC2)] 9)).heap.size := by simp
                clear hR3
                have HF3 := Lib.hid (show Below V2.heap.size V2 (wz2.alloc (.cells #[.string (strOf XcatC1), .string (strOf C), .string (strOf XcatC2)] 9)) from HBK2.out.alloc HBK2.out.size _)
                generalize wz2.alloc (.cells #[.string (strOf XcatC1), .string (strOf C), .string (strOf XcatC2)] 9) = V3 at hcell HV3 hgV3 HF3 ⊢
                obtain ⟨g3, hg3⟩ : ∃ g, g = wz2.heap.size := ⟨_, rfl⟩
                rw [← hg3] at hcell hgV3 ⊢
                have HCV3 := Lib.hid hcell
                have HGV3 := Lib.hid hgV3
                clear hcell hgV3 hg3
                go_loopw [82] (fun i wr => ∃ k : Nat, k ≤ 3 ∧ i = .int .i64 (k : Int) ∧ Below V3.heap.size V3 wr) (fun i _ => 3 - (intOf i).toNat)
                case atStart => exact ⟨0, Nat.zero_le _, rfl, Below.refl _ _⟩
                case round =>
                  obtain ⟨wz3, hwz⟩ : ∃ wz, wz = wr := ⟨_, rfl⟩
                  subst hwz
                  obtain ⟨k3, hk3, rfl, hb⟩ := hrel
                  have HBK3 := Lib.hid hb
                  clear hb
                  by_cases hltk3 : k3 < 3
                  · have hdk3 : decide ((k3 : Int) < 3) = true := decide_eq_true (by omega)
                    have hck3 := (HBK3.out.cell (p := ⟨g3, k3, none⟩) HGV3.out).trans (HCV3.out k3 hltk3)
                    have hlen := HLR3.out _ (mem_one (l := R3) (k := k3) (by rw [HNR3.out]; exact hltk3))
                    generalize R3.getD k3 [] = Z at hck3 hlen
                    have HZ := Lib.hid hlen
                    have HLTk3 := Lib.hid hltk3
                    clear hlen
                    have HDV := Lib.hid HBK3.out
                    have HMV := Lib.hid (HMX.out.below HV3.out)
                    rcases chain_cases (f := mailWithinB) mail_chain X Y Z with b1 | ⟨b1, b2⟩ | ⟨b1, b2, b3⟩
                    all_goals
                      have G1 := Lib.hid (fun w hm => pmw_is b1 HX.out HY.out w hm)
                      try have G2 := Lib.hid (fun w hm => pmw_is b2 HY.out HZ.out w hm)
                      try have G3 := Lib.hid (fun w hm => pmw_is b3 HX.out HZ.out w hm)
                      clear b1
                      try clear b2
                      try clear b3
                      go_wp2_with (first
                        | (go_at_call 30; (with_reducible refine (G1.out _ (HMV.out.below HDV.out)).mono ?_); rintro e ww3 ⟨rfl, hb21⟩; have HT21 := HDV; have HDV := Lib.hid (HT21.out.trans (hb21.mono HT21.out.size)); clear hb21 HT21)
                        | (go_at_call 30; (with_reducible refine (G2.out _ (HMV.out.below HDV.out)).mono ?_); rintro e ww3 ⟨rfl, hb22⟩; have HT22 := HDV; have HDV := Lib.hid (HT22.out.trans (hb22.mono HT22.out.size)); clear hb22 HT22)
                        | (go_at_call 30; (with_reducible refine (G3.out _ (HMV.out.below HDV.out)).mono ?_); rintro e ww3 ⟨rfl, hb23⟩; have HT23 := HDV; have HDV := Lib.hid (HT23.out.trans (hb23.mono HT23.out.size)); clear hb23 HT23))
                      go_roundw
                      case rel => exact ⟨k3 + 1, by have := HLTk3.out; omega, by go_num, HDV.out⟩
                      case measure => have := HLTk3.out; simp [intOf]; omega
                  · have ek : k3 = 3 := by omega
                    subst ek
                    have hd3 : decide (((3 : Nat) : Int) < 3) = false := by decide
                    have HZ3 := Lib.hid (HF3.out.trans (HBK3.out.mono HF3.out.size))
                    have HZ2 := HZ3
                    go_wp2_with fail
                    go_roundw
                    case rel => exact ⟨k2 + 1, by have := HLTk2.out; omega, by go_num, HZ2.out⟩
                    case measure => have := HLTk2.out; simp [intOf]; omega
              · have ek : k2 = 3 := by omega
                subst ek
                have hd3 : decide (((3 : Nat) : Int) < 3) = false := by decide
                have HZ2 := Lib.hid (HF2.out.trans (HBK2.out.mono HF2.out.size))
                have HZ1 := HZ2
                go_wp2_with fail
                go_roundw
                case rel => exact ⟨k1 + 1, by have := HLTk1.out; omega, by go_num, HZ1.out⟩
                case measure => have := HLTk1.out; simp [intOf]; omega
          · have ek : k1 = 3 := by omega
            subst ek
            have hd3 : decide (((3 : Nat) : Int) < 3) = false := by decide
            have HZD := Lib.hid (HV1.out.trans (HBK1.out.mono HV1.out.size))
            go_wp2_with (go_at_call 10; (with_reducible refine (hawake_any _ (HMX.out.below HZD.out)).mono ?_); rintro e w9 ⟨rfl, hb9⟩; have HY9 := Lib.hid (below_next HZD.out hb9); clear hb9)
            go_ret
            exact ⟨rfl, HY9.out⟩
end Go.Proofs.YtoogfipmdkneoaaDoor
namespace Go.Proofs.YtoogfipmdkneoaaDoor
open Go.ChangeShapes Go.WideShapes Go.ChangeAt Go.RowKit Go.ChangeMaps

theorem open_cap {H : Type} {enc : TypeId × Value → H} {W : World} {a0 : Option Addr} {len cap : Nat} {d : DataW H} {p : List MemPlace}
    (h : DataW.Trod enc Tryd.prog W 0 (fun _ => true) true 22 (.slice a0 len cap) d p) : len ≤ cap := by
  obtain ⟨fuel, hf⟩ := h
  have cb : Tryd.prog.cellsOf 5 = 1 := by kernel_rfl
  rcases open_ints Tryd.underlying22 Tryd.underlying5 cb hf with ⟨hcs, _⟩ | ⟨a, len', cap', zs, hcs, _, hl, hcm, hz, _, hcell, hwz⟩
  · simp [Value.cells] at hcs
    obtain ⟨rfl, rfl, rfl⟩ := hcs
    exact Nat.le_refl _
  · simp [Value.cells] at hcs
    obtain ⟨rfl, rfl, rfl⟩ := hcs
    exact hl
end Go.Proofs.YtoogfipmdkneoaaDoor
