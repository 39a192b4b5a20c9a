/-
  The walk of the law HostNested: for every five rows of bytes and two numbers it returns true, and leaves all that was there as it was.
-/
import Derived.Test.YtoogfipmdkneoaaDoorJbi
import Derived.Deep.CutRange
namespace Go.Proofs.YtoogfipmdkneoaaDoor
open Go.RowKit

theorem nest_cases {f : List UInt8 → List UInt8 → Bool} (hf : ∀ {s x y}, f s x = true → f s y = true → f x y = true ∨ f y x = true) (s x y : List UInt8) :
    f s x = false ∨ (f s x = true ∧ f s y = false) ∨ (f s x = true ∧ f s y = true ∧ f x y = true) ∨ (f s x = true ∧ f s y = true ∧ f x y = false ∧ f y x = true) := by
  cases h1 : f s x with
  | false => exact .inl rfl
  | true =>
    cases h2 : f s y with
    | false => exact .inr (.inl ⟨rfl, rfl⟩)
    | true =>
      cases h3 : f x y with
      | true => exact .inr (.inr (.inl ⟨rfl, rfl, rfl⟩))
      | false => exact .inr (.inr (.inr ⟨rfl, rfl, rfl, (hf h1 h2).resolve_left (by rw [h3]; simp)⟩))
theorem pwithin_is {a b : List UInt8} {c : Bool} (h : dnsWithinB a b = c) (ha : a.length ≤ 100000) (hb : b.length ≤ 100000) (w : World) :
    Calls Tryd.prog 26 #[.string (strOf a), .string (strOf b)] w fun e w' => e = .returned (.bool c) ∧ Below w.heap.size w w' := by
  have := pwithin_any a b ha hb w
  rwa [h] at this
theorem pmw_is {a b : List UInt8} {c : Bool} (h : mailWithinB a b = c) (ha : a.length ≤ 100000) (hb : b.length ≤ 100000) (w : World) (hm : Mx w) :
    Calls Tryd.prog 30 #[.string (strOf a), .string (strOf b)] w fun e w' => e = .returned (.bool c) ∧ Below w.heap.size w w' := by
  have := pmw_any a b ha hb w hm
  rwa [h] at this
theorem paw_is {a b : List UInt8} {c : Bool} (h : addrWithinB a b = c) (ha : a.length ≤ 100000) (hb : b.length ≤ 100000) (w : World) :
    Calls Tryd.prog 37 #[.string (strOf a), .string (strOf b)] w fun e w' => e = .returned (.bool c) ∧ Below w.heap.size w w' := by
  have := paw_any a b ha hb w
  rwa [h] at this
theorem two_or (a b : Nat) : 16 < a ∨ (¬ 16 < a ∧ 16 < b) ∨ (¬ 16 < a ∧ ¬ 16 < b) := by omega


set_option maxRecDepth 100000 in
set_option maxHeartbeats 16000000 in
theorem nelaw (a0 a1 a2 a3 a4 : Option Addr) (l m n a b : List UInt8) (c0 c1 c2 c3 c4 n0 n1 : Nat) (w : World) (hmx : Mx w) (hl : BLies w a0 l) (hm : BLies w a1 m) (hn : BLies w a2 n) (ha : BLies w a3 a) (hb : BLies w a4 b)
    (hll : l.length ≤ 9223372036854775807) (hml : m.length ≤ 9223372036854775807) (hnl : n.length ≤ 9223372036854775807) (hal : a.length ≤ 9223372036854775807) (hbl : b.length ≤ 9223372036854775807) (h0 : n0 < 256) (h1 : n1 < 256) :
    Calls Tryd.prog 8 #[.slice a0 l.length c0, .slice a1 m.length c1, .slice a2 n.length c2, .slice a3 a.length c3, .slice a4 b.length c4, .int .u8 (n0 : Int), .int .u8 (n1 : Int)] w fun e w' => e = .returned (.bool true) ∧ Below w.heap.size w w' := by
  have HMX := Lib.hid hmx
  clear hmx
  have HL := Lib.hid hl
  have HM := Lib.hid hm
  have HN := Lib.hid hn
  have HA := Lib.hid ha
  have HB := Lib.hid hb
  have HLL := Lib.hid hll
  have HML := Lib.hid hml
  have HNL := Lib.hid hnl
  have HN0 := Lib.hid h0
  have HN1 := Lib.hid h1
  clear hl hm hn ha hb hll hml hnl h0 h1
  rcases two_or a.length b.length with h | ⟨h, g⟩ | ⟨h, g⟩
  · have d1 : decide ((16 : Int) < (a.length : Int)) = true := decide_eq_true (by omega)
    clear h hal hbl
    go_enter Tryd.func8, Tryd.ntmps8
    go_wp2_with (go_at_call 10; (with_reducible refine (hawake_any _ (HMX.out)).mono ?_); rintro e w1 ⟨rfl, hb1⟩; have HB1 := Lib.hid hb1; clear hb1)
    go_ret
    exact ⟨rfl, HB1.out⟩
  · have d1 : decide ((16 : Int) < (a.length : Int)) = false := decide_eq_false (by omega)
    have d2 : decide ((16 : Int) < (b.length : Int)) = true := decide_eq_true (by omega)
    clear h hal hbl g
    go_enter Tryd.func8, Tryd.ntmps8
    go_wp2_with (go_at_call 10; (with_reducible refine (hawake_any _ (HMX.out)).mono ?_); rintro e w1 ⟨rfl, hb1⟩; have HB1 := Lib.hid hb1; clear hb1)
    go_ret
    exact ⟨rfl, HB1.out⟩
  · have d1 : decide ((16 : Int) < (a.length : Int)) = false := decide_eq_false (by omega)
    have d2 : decide ((16 : Int) < (b.length : Int)) = false := decide_eq_false (by omega)
    have HA6 := Lib.hid (show a.length ≤ 16 by omega)
    have HB6 := Lib.hid (show b.length ≤ 16 by omega)
    clear h g hal hbl
    go_enter Tryd.func8, Tryd.ntmps8
    go_upto_region 4 with (first
      | (go_at_call 12; (with_reducible refine (dns_any a0 l c0 _ HL.out HLL.out).mono ?_); rintro e w1 ⟨S, rfl, hS, hb1⟩; have HW1 := Lib.hid hb1; have HS := Lib.hid (show S.length ≤ 1000 by omega); clear hb1 hS)
      | (go_at_call 12; (with_reducible refine (dns_any a1 m c1 _ (HM.out.below HW1.out) HML.out).mono ?_); rintro e w2 ⟨X, rfl, hX, hb2⟩; have HW2 := Lib.hid (below_next HW1.out hb2); have HX := Lib.hid (show X.length ≤ 1000 by omega); clear hb2 hX)
      | (go_at_call 12; (with_reducible refine (dns_any a2 n c2 _ (HN.out.below HW2.out) HNL.out).mono ?_); rintro e w3 ⟨Y, rfl, hY, hb3⟩; have HW3 := Lib.hid (below_next HW2.out hb3); have HY := Lib.hid (show Y.length ≤ 1000 by omega); clear hb3 hY))
    have HS5 := Lib.hid (show S.length ≤ 100000 by have := HS.out; omega)
    have HX5 := Lib.hid (show X.length ≤ 100000 by have := HX.out; omega)
    have HY5 := Lib.hid (show Y.length ≤ 100000 by have := HY.out; omega)
    have cat1 := fun w => pre_of [46] X (by have := HX.out; simp; omega) w; rw [show strOf [46] = ⟨#[46]⟩ from rfl] at cat1; have HC1 := Lib.hid (show ([46] ++ X).length ≤ 100000 by have := HX.out; simp; omega); generalize [46] ++ X = DX at cat1 HC1
    have cat2 := fun w => pre_of [46] Y (by have := HY.out; simp; omega) w; rw [show strOf [46] = ⟨#[46]⟩ from rfl] at cat2; have HC2 := Lib.hid (show ([46] ++ Y).length ≤ 100000 by have := HY.out; simp; omega); generalize [46] ++ Y = DY at cat2 HC2
    have cat3 := fun w => pre_of [97, 110, 110, 64] X (by have := HX.out; simp; omega) w; rw [show strOf [97, 110, 110, 64] = ⟨#[97, 110, 110, 64]⟩ from rfl] at cat3; have HC3 := Lib.hid (show ([97, 110, 110, 64] ++ X).length ≤ 100000 by have := HX.out; simp; omega); generalize [97, 110, 110, 64] ++ X = AX at cat3 HC3
    have cat4 := fun w => pre_of [97, 110, 110, 64] S (by have := HS.out; simp; omega) w; rw [show strOf [97, 110, 110, 64] = ⟨#[97, 110, 110, 64]⟩ from rfl] at cat4; have HC4 := Lib.hid (show ([97, 110, 110, 64] ++ S).length ≤ 100000 by have := HS.out; simp; omega); generalize [97, 110, 110, 64] ++ S = AS at cat4 HC4
    have HD := HW3
    clear d1 d2
    rcases nest_cases (f := dnsWithinB) dns_nested S X Y with b1 | ⟨b1, b2⟩ | ⟨b1, b2, b3⟩ | ⟨b1, b2, b3, b4⟩
    all_goals
      have F1 := Lib.hid (fun w => pwithin_is b1 HS5.out HX5.out w)
      try have F2 := Lib.hid (fun w => pwithin_is b2 HS5.out HY5.out w)
      try have F3 := Lib.hid (fun w => pwithin_is b3 HX5.out HY5.out w)
      try have F4 := Lib.hid (fun w => pwithin_is b4 HY5.out HX5.out w)
      clear b1
      try clear b2
      try clear b3
      try clear b4
      go_wp2_with (first
        | (go_at_call 26; (with_reducible refine (F1.out _).mono ?_); rintro e ww ⟨rfl, hb11⟩; have HT11 := HD; have HD := Lib.hid (below_next HT11.out hb11); clear hb11 HT11)
        | (go_at_call 26; (with_reducible refine (F2.out _).mono ?_); rintro e ww ⟨rfl, hb12⟩; have HT12 := HD; have HD := Lib.hid (below_next HT12.out hb12); clear hb12 HT12)
        | (go_at_call 26; (with_reducible refine (F3.out _).mono ?_); rintro e ww ⟨rfl, hb13⟩; have HT13 := HD; have HD := Lib.hid (below_next HT13.out hb13); clear hb13 HT13)
        | (go_at_call 26; (with_reducible refine (F4.out _).mono ?_); rintro e ww ⟨rfl, hb14⟩; have HT14 := HD; have HD := Lib.hid (below_next HT14.out hb14); clear hb14 HT14))
      obtain ⟨R, hR⟩ : ∃ R : List (List UInt8 × List UInt8), R = [(X, Y), (DX, Y), (X, DY), (DX, DY), (AX, DY), (AX, Y)] := ⟨_, rfl⟩
      have hcell : ∀ k, k < 6 → (ww.alloc (.cells #[.string (strOf X), .string (strOf Y), .string (strOf DX), .string (strOf Y), .string (strOf X), .string (strOf DY), .string (strOf DX), .string (strOf DY), .string (strOf AX), .string (strOf DY), .string (strOf AX), .string (strOf Y)] 29)).cell? ⟨ww.heap.size, k * 2, none⟩ = some (.string (strOf (R.getD k ([], [])).1)) ∧ (ww.alloc (.cells #[.string (strOf X), .string (strOf Y), .string (strOf DX), .string (strOf Y), .string (strOf X), .string (strOf DY), .string (strOf DX), .string (strOf DY), .string (strOf AX), .string (strOf DY), .string (strOf AX), .string (strOf Y)] 29)).cell? ⟨ww.heap.size, k * 2 + 1, none⟩ = some (.string (strOf (R.getD k ([], [])).2)) := fun k hk => by
        rw [hR]
        exact row_two ww [(X, Y), (DX, Y), (X, DY), (DX, DY), (AX, DY), (AX, Y)] 29 k hk
      have HRL := Lib.hid (show ∀ X ∈ R, X.1.length ≤ 100000 ∧ X.2.length ≤ 100000 by
        intro X hX
        rw [hR] at hX
        simp only [List.mem_cons, List.not_mem_nil, or_false] at hX

        rcases hX with rfl | rfl | rfl | rfl | rfl | rfl
        · exact ⟨HX5.out, HY5.out⟩
        · exact ⟨HC1.out, HY5.out⟩
        · exact ⟨HX5.out, HC2.out⟩
        · exact ⟨HC1.out, HC2.out⟩
        · exact ⟨HC3.out, HC2.out⟩
        · exact ⟨HC3.out, HY5.out⟩)
      have HRN := Lib.hid (show R.length = 6 by rw [hR]; rfl)
      have HV := Lib.hid (show Below w.heap.size w (ww.alloc (.cells #[.string (strOf X), .string (strOf Y), .string (strOf DX), .string (strOf Y), .string (strOf X), .string (strOf DY), .string (strOf DX), .string (strOf DY), .string (strOf AX), .string (strOf DY), .string (strOf AX), .string (strOf Y)] 29)) from HD.out.alloc HD.out.size _)
      have hgV : ww.heap.size < (ww.alloc (.cells #[.string (strOf X), .string (strOf Y), .string (strOf DX), .string (strOf Y), .string (strOf X), .string (strOf DY), .string (strOf DX), .string (strOf DY), .string (strOf AX), .string (strOf DY), .string (strOf AX), .string (strOf Y)] 29)).heap.size := by simp
      clear hR
      generalize ww.alloc (.cells #[.string (strOf X), .string (strOf Y), .string (strOf DX), .string (strOf Y), .string (strOf X), .string (strOf DY), .string (strOf DX), .string (strOf DY), .string (strOf AX), .string (strOf DY), .string (strOf AX), .string (strOf Y)] 29) = V at hcell HV hgV ⊢
      have HMV := Lib.hid (HMX.out.below HV.out)
      obtain ⟨g, hg⟩ : ∃ g, g = ww.heap.size := ⟨_, rfl⟩
      rw [← hg] at hcell hgV ⊢
      have HC := Lib.hid hcell
      have HG := Lib.hid hgV
      clear hcell hgV hg
      go_loopw [85] (fun i wr => ∃ k : Nat, k ≤ 6 ∧ i = .int .i64 (k : Int) ∧ Below V.heap.size V wr) (fun i _ => 6 - (intOf i).toNat)
      case atStart => exact ⟨0, Nat.zero_le _, rfl, Below.refl _ _⟩
      case round =>
        obtain ⟨wz, hwz⟩ : ∃ wz, wz = wr := ⟨_, rfl⟩
        subst hwz
        obtain ⟨k, hk, rfl, hb⟩ := hrel
        have HBK := Lib.hid hb
        clear hb
        by_cases hlt : k < 6
        · have hd : decide ((k : Int) < 6) = true := decide_eq_true (by omega)
          have hc0 := (HBK.out.cell (p := ⟨g, k * 2, none⟩) HG.out).trans (HC.out k hlt).1
          have hc1 := (HBK.out.cell (p := ⟨g, k * 2 + 1, none⟩) HG.out).trans (HC.out k hlt).2
          have hlen := HRL.out _ (mem_pair (l := R) (k := k) (by rw [HRN.out]; exact hlt))
          generalize R.getD k ([], []) = XY at hc0 hc1 hlen
          obtain ⟨X, Y⟩ := XY
          simp only at hc0 hc1 hlen
          have HX := Lib.hid hlen.1
          have HY := Lib.hid hlen.2
          clear hlen
          have q0 : (wz.alloc (.cells #[.string (strOf X), .string (strOf Y)] 29)).cell? ⟨wz.heap.size, 0, none⟩ = some (.string (strOf X)) := by
            rw [cell_of_row _ _ 0 _ _ _ (heap_alloc_new wz _)]; rfl
          have q1 : (wz.alloc (.cells #[.string (strOf X), .string (strOf Y)] 29)).cell? ⟨wz.heap.size, 1, none⟩ = some (.string (strOf Y)) := by
            rw [cell_of_row _ _ 1 _ _ _ (heap_alloc_new wz _)]; rfl
          have HDV := Lib.hid (show Below V.heap.size V (wz.alloc (.cells #[.string (strOf X), .string (strOf Y)] 29)) from HBK.out.alloc HBK.out.size _)
          rcases nest_cases (f := mailWithinB) mail_nested AS X Y with b1 | ⟨b1, b2⟩ | ⟨b1, b2, b3⟩ | ⟨b1, b2, b3, b4⟩
          all_goals
            have G1 := Lib.hid (fun w hm => pmw_is b1 HC4.out HX.out w hm)
            try have G2 := Lib.hid (fun w hm => pmw_is b2 HC4.out HY.out w hm)
            try have G3 := Lib.hid (fun w hm => pmw_is b3 HX.out HY.out w hm)
            try have G4 := Lib.hid (fun w hm => pmw_is b4 HY.out HX.out w hm)
            clear b1
            try clear b2
            try clear b3
            try clear b4
            go_wp2_with (first
              | (go_at_call 30; (with_reducible refine (G1.out _ (HMV.out.below HDV.out)).mono ?_); rintro e ww ⟨rfl, hb21⟩; have HT21 := HDV; have HDV := Lib.hid (HT21.out.trans (hb21.mono HT21.out.size)); have r0 := (hb21.cell (p := ⟨wz.heap.size, 0, none⟩) (World.block_lt_of_cell? _ _ q0)).trans q0; have r1 := (hb21.cell (p := ⟨wz.heap.size, 1, none⟩) (World.block_lt_of_cell? _ _ q1)).trans q1; clear q0 q1; have q0 := r0; have q1 := r1; clear r0 r1 hb21 HT21)
              | (go_at_call 30; (with_reducible refine (G2.out _ (HMV.out.below HDV.out)).mono ?_); rintro e ww ⟨rfl, hb22⟩; have HT22 := HDV; have HDV := Lib.hid (HT22.out.trans (hb22.mono HT22.out.size)); have r0 := (hb22.cell (p := ⟨wz.heap.size, 0, none⟩) (World.block_lt_of_cell? _ _ q0)).trans q0; have r1 := (hb22.cell (p := ⟨wz.heap.size, 1, none⟩) (World.block_lt_of_cell? _ _ q1)).trans q1; clear q0 q1; have q0 := r0; have q1 := r1; clear r0 r1 hb22 HT22)
              | (go_at_call 30; (with_reducible refine (G3.out _ (HMV.out.below HDV.out)).mono ?_); rintro e ww ⟨rfl, hb23⟩; have HT23 := HDV; have HDV := Lib.hid (HT23.out.trans (hb23.mono HT23.out.size)); have r0 := (hb23.cell (p := ⟨wz.heap.size, 0, none⟩) (World.block_lt_of_cell? _ _ q0)).trans q0; have r1 := (hb23.cell (p := ⟨wz.heap.size, 1, none⟩) (World.block_lt_of_cell? _ _ q1)).trans q1; clear q0 q1; have q0 := r0; have q1 := r1; clear r0 r1 hb23 HT23)
              | (go_at_call 30; (with_reducible refine (G4.out _ (HMV.out.below HDV.out)).mono ?_); rintro e ww ⟨rfl, hb24⟩; have HT24 := HDV; have HDV := Lib.hid (HT24.out.trans (hb24.mono HT24.out.size)); have r0 := (hb24.cell (p := ⟨wz.heap.size, 0, none⟩) (World.block_lt_of_cell? _ _ q0)).trans q0; have r1 := (hb24.cell (p := ⟨wz.heap.size, 1, none⟩) (World.block_lt_of_cell? _ _ q1)).trans q1; clear q0 q1; have q0 := r0; have q1 := r1; clear r0 r1 hb24 HT24))
            go_roundw
            case rel => exact ⟨k + 1, by omega, by go_num, HDV.out⟩
            case measure => simp [intOf]; omega
        · have ek : k = 6 := by omega
          subst ek
          have hd : decide (((6 : Nat) : Int) < 6) = false := by decide
          have HZ := Lib.hid (HV.out.trans (HBK.out.mono HV.out.size))
          go_upto_region 14 with (first
            | (go_at_call 32; (with_reducible refine (net4_any a3 a c3 n0 _ (HA.out.below HZ.out) HA6.out HN0.out).mono ?_); rintro e z1 ⟨rfl, hz1⟩; have HZ1 := Lib.hid (below_next HZ.out hz1); clear hz1)
            | (go_at_call 32; (with_reducible refine (net4_any a3 a c3 n1 _ (HA.out.below HZ1.out) HA6.out HN1.out).mono ?_); rintro e z2 ⟨rfl, hz2⟩; have HZ2 := Lib.hid (below_next HZ1.out hz2); clear hz2)
            | (go_at_call 32; (with_reducible refine (net4_any a4 b c4 n1 _ (HB.out.below HZ2.out) HB6.out HN1.out).mono ?_); rintro e z3 ⟨rfl, hz3⟩; have HZ3 := Lib.hid (below_next HZ2.out hz3); clear hz3))
          have hbo := net_both (a := a) (k := n0 % 33) (l := n1 % 33) (n := 4) (.inl rfl)
          have hth := net_third (a := a) (b := b) (k := n0 % 33) (l := n1 % 33) (n := 4) (.inl rfl)
          have l1 := net_len a (n0 % 33) 4
          have l2 := net_len a (n1 % 33) 4
          have l3 := net_len b (n1 % 33) 4
          generalize netB a (n0 % 33) 4 = N1 at hbo hth l1 ⊢
          generalize netB a (n1 % 33) 4 = N2 at hbo l2 ⊢
          generalize netB b (n1 % 33) 4 = N3 at hth l3 ⊢
          have hhd := fun w => head_of N1 4 (by omega) 4 rfl w
          have M1 := Lib.hid (show N1.length ≤ 100000 by omega)
          have M2 := Lib.hid (show N2.length ≤ 100000 by omega)
          have M3 := Lib.hid (show N3.length ≤ 100000 by omega)
          have M4 := Lib.hid (show (N1.take 4).length ≤ 100000 by rw [List.length_take]; omega)
          generalize N1.take 4 = N4 at hth hhd M4
          clear l1 l2 l3 hd
          have HZD := HZ3
          have hc1 : addrWithinB N1 N2 = true ∨ (addrWithinB N1 N2 = false ∧ addrWithinB N2 N1 = true) := by
            cases h : addrWithinB N1 N2 with
            | true => exact .inl rfl
            | false => exact .inr ⟨rfl, hbo.resolve_left (by rw [h]; simp)⟩
          have hc2 : addrWithinB N4 N3 = false ∨ (addrWithinB N4 N3 = true ∧ addrWithinB N1 N3 = true) ∨ (addrWithinB N4 N3 = true ∧ addrWithinB N1 N3 = false ∧ addrWithinB N3 N1 = true) := by
            cases h : addrWithinB N4 N3 with
            | false => exact .inl rfl
            | true =>
              cases h2 : addrWithinB N1 N3 with
              | true => exact .inr (.inl ⟨rfl, rfl⟩)
              | false => exact .inr (.inr ⟨rfl, rfl, (hth h).resolve_left (by rw [h2]; simp)⟩)
          clear hbo hth
          rcases hc1 with b1 | ⟨b1, b2⟩ <;> rcases hc2 with b3 | ⟨b3, b4⟩ | ⟨b3, b4, b5⟩
          all_goals
            have G1 := Lib.hid (fun w => paw_is b1 M1.out M2.out w)
            try have G2 := Lib.hid (fun w => paw_is b2 M2.out M1.out w)
            have G3 := Lib.hid (fun w => paw_is b3 M4.out M3.out w)
            try have G4 := Lib.hid (fun w => paw_is b4 M1.out M3.out w)
            try have G5 := Lib.hid (fun w => paw_is b5 M3.out M1.out w)
            clear b1 b3
            try clear b2
            try clear b4
            try clear b5
            go_wp2_with (first
              | (go_at_call 10; (with_reducible refine (hawake_any _ (HMX.out.below HZD.out)).mono ?_); rintro e ww ⟨rfl, hb9⟩; have HT9 := HZD; have HZD := Lib.hid (below_next HT9.out hb9); clear hb9 HT9)
              | (go_at_call 37; (with_reducible refine (G1.out _).mono ?_); rintro e ww ⟨rfl, hb31⟩; have HT31 := HZD; have HZD := Lib.hid (below_next HT31.out hb31); clear hb31 HT31)
              | (go_at_call 37; (with_reducible refine (G2.out _).mono ?_); rintro e ww ⟨rfl, hb32⟩; have HT32 := HZD; have HZD := Lib.hid (below_next HT32.out hb32); clear hb32 HT32)
              | (go_at_call 37; (with_reducible refine (G3.out _).mono ?_); rintro e ww ⟨rfl, hb33⟩; have HT33 := HZD; have HZD := Lib.hid (below_next HT33.out hb33); clear hb33 HT33)
              | (go_at_call 37; (with_reducible refine (G4.out _).mono ?_); rintro e ww ⟨rfl, hb34⟩; have HT34 := HZD; have HZD := Lib.hid (below_next HT34.out hb34); clear hb34 HT34)
              | (go_at_call 37; (with_reducible refine (G5.out _).mono ?_); rintro e ww ⟨rfl, hb35⟩; have HT35 := HZD; have HZD := Lib.hid (below_next HT35.out hb35); clear hb35 HT35))
            go_ret
            exact ⟨rfl, HZD.out⟩
end Go.Proofs.YtoogfipmdkneoaaDoor
