/-
  The walk of the law HostAddress: for every two texts, four rows of bytes and numbers and a bool it returns true, and leaves all that was there as it was.
-/
import Derived.Test.YtoogfipmdkneoaaDoorJbd
import Derived.Test.YtoogfipmdkneoaaDoorJbh
import Derived.BigRegion
namespace Go.Proofs.YtoogfipmdkneoaaDoor
open Go.RowKit

def netN (b : Bool) : Nat := if b then 16 else 4
theorem netN_or (b : Bool) : netN b = 4 ∨ netN b = 16 := by
  cases b
  · exact .inl rfl
  · exact .inr rfl
theorem net_any (a0 : Option Addr) (A : List UInt8) (cap bt : Nat) (b : Bool) (w : World) (hA : BLies w a0 A) (hl : A.length ≤ 16) (hbt : bt < 256) :
    Calls Tryd.prog 32 #[.slice a0 A.length cap, .int .u8 (bt : Int), .bool b] w fun e w' => e = .returned (.string (strOf (netB A (bt % (8 * netN b + 1)) (netN b)))) ∧ Below w.heap.size w w' := by
  cases b
  · exact net4_any a0 A cap bt w hA hl hbt
  · exact net16_any a0 A cap bt w hA hl hbt
theorem blies_text {w : World} {a0 : Option Addr} {l : List UInt8} (cap : Nat) (h : BLies w a0 l) : (convert 22 9 (.slice a0 l.length cap)).run Tryd.prog w = .ok (.string (strOf l)) w := by
  rcases h with rfl | ⟨g, o, rfl, hc⟩
  · cases a0 with
    | none =>
      rw [List.length_nil, run_convert_bytes_string w _ _ _ _ 0 cap Tryd.underlying22 Tryd.underlying5 Tryd.underlying9]
      rfl
    | some ad => exact run_convert_bytes_back w _ _ _ ad cap [] Tryd.underlying22 Tryd.underlying5 Tryd.underlying9 (fun j hj => absurd hj (Nat.not_lt_zero _))
  · refine run_convert_bytes_back w _ _ _ ⟨g, o, none⟩ cap l Tryd.underlying22 Tryd.underlying5 Tryd.underlying9 (fun j hj => ?_)
    have hadd : (⟨g, o, none⟩ : Addr).add j = ⟨g, o + j, none⟩ := by unfold Addr.add; split <;> simp_all
    rw [hadd, hc j hj]
    rfl


theorem four_or (a b c d : Nat) : 60 < a ∨ (¬ 60 < a ∧ 60 < b) ∨ (¬ 60 < a ∧ ¬ 60 < b ∧ 16 < c) ∨ (¬ 60 < a ∧ ¬ 60 < b ∧ ¬ 16 < c ∧ 16 < d) ∨ (¬ 60 < a ∧ ¬ 60 < b ∧ ¬ 16 < c ∧ ¬ 16 < d) := by omega
set_option maxRecDepth 100000 in
set_option maxHeartbeats 4000000 in
theorem adlaw (s t : ByteArray) (a0 a1 : Option Addr) (l m : List UInt8) (c0 c1 n0 n1 : Nat) (b : Bool) (w : World) (hmx : Mx w) (hl : BLies w a0 l) (hm : BLies w a1 m) (hll : l.length ≤ 9223372036854775807) (hml : m.length ≤ 9223372036854775807) (h0 : n0 < 256) (h1 : n1 < 256) :
    Calls Tryd.prog 7 #[.string s, .string t, .slice a0 l.length c0, .slice a1 m.length c1, .int .u8 (n0 : Int), .int .u8 (n1 : Int), .bool b] w fun e w' => e = .returned (.bool true) ∧ Below w.heap.size w w' := by
  have HMX := Lib.hid hmx
  clear hmx
  obtain ⟨S, rfl⟩ : ∃ S, s = strOf S := ⟨_, strOf_of rfl⟩
  obtain ⟨T, rfl⟩ : ∃ T, t = strOf T := ⟨_, strOf_of rfl⟩
  have e0 := strOf_size S
  have e1 := strOf_size T
  have HL := Lib.hid hl
  have HM := Lib.hid hm
  have HN0 := Lib.hid h0
  have HN1 := Lib.hid h1
  clear hl hm h0 h1
  rcases four_or S.length T.length l.length m.length with h | ⟨h, g⟩ | ⟨h, g, f⟩ | ⟨h, g, f, k⟩ | ⟨h, g, f, k⟩
  · have d1 : decide ((60 : Int) < (S.length : Int)) = true := decide_eq_true (by omega)
    clear h hll hml
    go_enter Tryd.func7, Tryd.ntmps7
    go_wp2_with (go_at_call 10; (with_reducible refine (hawake_any _ (HMX.out)).mono ?_); rintro e w1 ⟨rfl, hb1⟩; have HB1 := Lib.hid hb1; clear hb1)
    go_ret
    exact ⟨rfl, HB1.out⟩
  · have d1 : decide ((60 : Int) < (S.length : Int)) = false := decide_eq_false (by omega)
    have d2 : decide ((60 : Int) < (T.length : Int)) = true := decide_eq_true (by omega)
    clear h g hll hml
    go_enter Tryd.func7, Tryd.ntmps7
    go_wp2_with (go_at_call 10; (with_reducible refine (hawake_any _ (HMX.out)).mono ?_); rintro e w1 ⟨rfl, hb1⟩; have HB1 := Lib.hid hb1; clear hb1)
    go_ret
    exact ⟨rfl, HB1.out⟩
  · have d1 : decide ((60 : Int) < (S.length : Int)) = false := decide_eq_false (by omega)
    have d2 : decide ((60 : Int) < (T.length : Int)) = false := decide_eq_false (by omega)
    have d3 : decide ((16 : Int) < (l.length : Int)) = true := decide_eq_true (by omega)
    clear h g f hll hml
    go_enter Tryd.func7, Tryd.ntmps7
    go_wp2_with (go_at_call 10; (with_reducible refine (hawake_any _ (HMX.out)).mono ?_); rintro e w1 ⟨rfl, hb1⟩; have HB1 := Lib.hid hb1; clear hb1)
    go_ret
    exact ⟨rfl, HB1.out⟩
  · have d1 : decide ((60 : Int) < (S.length : Int)) = false := decide_eq_false (by omega)
    have d2 : decide ((60 : Int) < (T.length : Int)) = false := decide_eq_false (by omega)
    have d3 : decide ((16 : Int) < (l.length : Int)) = false := decide_eq_false (by omega)
    have d4 : decide ((16 : Int) < (m.length : Int)) = true := decide_eq_true (by omega)
    clear h g f k hll hml
    go_enter Tryd.func7, Tryd.ntmps7
    go_wp2_with (go_at_call 10; (with_reducible refine (hawake_any _ (HMX.out)).mono ?_); rintro e w1 ⟨rfl, hb1⟩; have HB1 := Lib.hid hb1; clear hb1)
    go_ret
    exact ⟨rfl, HB1.out⟩
  · have d1 : decide ((60 : Int) < (S.length : Int)) = false := decide_eq_false (by omega)
    have d2 : decide ((60 : Int) < (T.length : Int)) = false := decide_eq_false (by omega)
    have d3 : decide ((16 : Int) < (l.length : Int)) = false := decide_eq_false (by omega)
    have d4 : decide ((16 : Int) < (m.length : Int)) = false := decide_eq_false (by omega)
    have HS := Lib.hid (show S.length ≤ 100000 by omega)
    have HT := Lib.hid (show T.length ≤ 100000 by omega)
    have HL6 := Lib.hid (show l.length ≤ 16 by omega)
    have HM6 := Lib.hid (show m.length ≤ 16 by omega)
    clear h g f k hll hml
    go_enter Tryd.func7, Tryd.ntmps7
    go_wp2_with (first
      | (go_at_call 32; (with_reducible refine (net_any a0 l c0 n0 b _ HL.out HL6.out HN0.out).mono ?_); rintro e w1 ⟨rfl, hb1⟩; have HW1 := Lib.hid hb1; clear hb1)
      | (go_at_call 32; (with_reducible refine (net_any a0 l c0 n1 b _ (HL.out.below HW1.out) HL6.out HN1.out).mono ?_); rintro e w2 ⟨rfl, hb2⟩; have HW2 := Lib.hid (below_next HW1.out hb2); clear hb2)
      | (go_at_call 32; (with_reducible refine (net_any a1 m c1 n1 b _ (HM.out.below HW2.out) HM6.out HN1.out).mono ?_); rintro e w3 ⟨rfl, hb3⟩; have HW3 := Lib.hid (below_next HW2.out hb3); clear hb3))
    have HXR := Lib.hid (net_range (a := l) (k := n0 % (8 * netN b + 1)) (netN_or b))
    have hxl := net_len l (n0 % (8 * netN b + 1)) (netN b)
    have hyl := net_len l (n1 % (8 * netN b + 1)) (netN b)
    have hzl := net_len m (n1 % (8 * netN b + 1)) (netN b)
    have hnn := netN_or b
    generalize netB l (n0 % (8 * netN b + 1)) (netN b) = X at HXR hxl ⊢
    generalize netB l (n1 % (8 * netN b + 1)) (netN b) = Y at hyl ⊢
    generalize netB m (n1 % (8 * netN b + 1)) (netN b) = Z at hzl ⊢
    have e2 := strOf_size X
    obtain ⟨n, hn⟩ : ∃ n, n = X.length := ⟨_, rfl⟩
    obtain ⟨h, hh⟩ : ∃ h, h = n / 2 := ⟨_, rfl⟩
    rw [← hn] at e2
    have hq : (n : Int) / 2 = (h : Int) := by omega
    have hhd := fun w => head_of X h (by omega) (h : Int) rfl w
    have HXL := Lib.hid (show X.length ≤ 100000 by omega)
    have HYL := Lib.hid (show Y.length ≤ 100000 by omega)
    have HZL := Lib.hid (show Z.length ≤ 100000 by omega)
    have HHL := Lib.hid (show (X.take h).length ≤ 100000 by rw [List.length_take]; omega)
    have HML := Lib.hid (show m.length ≤ 100000 by have := HM6.out; omega)
    generalize X.take h = H at hhd HHL
    have hb3 : BLies w3 a1 m := HM.out.below HW3.out
    have hcv := blies_text (w := w3.drew) c1 hb3
    have hb16 : h ≤ 16 := by omega
    have hn32 : n ≤ 32 := by omega
    have hwr : IntKind.i64.wrap (h : Int) = (h : Int) := by rw [wrap_i64]; omega
    clear hxl hyl hzl hnn hn hh hb3
    go_wp2_with fail
    go_region
    clear hcv hhd hwr hq d1 d2 d3 d4
    go_wp2_with fail
    have HPR := Lib.hid (fun w => show Calls Tryd.prog 35 #[.string (strOf X)] w fun e w' => e = .returned (.bool true) ∧ Below w.heap.size w w' by
      have := prange_any X HXL.out w
      rwa [HXR.out] at this)
    obtain ⟨R, hR⟩ : ∃ R : List (List UInt8 × List UInt8), R = [(S, T), (X, Y), (Y, X), (X, Z), (H, Y), (m, X), (S, X), (X, T)] := ⟨_, rfl⟩
    have hcell : ∀ k, k < 8 → ((w3.alloc (.cells #[.string (strOf S), .string (strOf T), .string (strOf X), .string (strOf Y), .string (strOf Y), .string (strOf X), .string (strOf X), .string (strOf Z), .string (strOf H), .string (strOf Y), .string (strOf m), .string (strOf X), .string (strOf S), .string (strOf X), .string (strOf X), .string (strOf T)] 29)).drew).cell? ⟨w3.heap.size, k * 2, none⟩ = some (.string (strOf (R.getD k ([], [])).1)) ∧ ((w3.alloc (.cells #[.string (strOf S), .string (strOf T), .string (strOf X), .string (strOf Y), .string (strOf Y), .string (strOf X), .string (strOf X), .string (strOf Z), .string (strOf H), .string (strOf Y), .string (strOf m), .string (strOf X), .string (strOf S), .string (strOf X), .string (strOf X), .string (strOf T)] 29)).drew).cell? ⟨w3.heap.size, k * 2 + 1, none⟩ = some (.string (strOf (R.getD k ([], [])).2)) := fun k hk => by
      rw [hR]
      exact row_two w3 [(S, T), (X, Y), (Y, X), (X, Z), (H, Y), (m, X), (S, X), (X, T)] 29 k hk
    have HRL := Lib.hid (show ∀ X ∈ R, X.1.length ≤ 100000 ∧ X.2.length ≤ 100000 by
      intro X hX
      rw [hR] at hX
      simp only [List.mem_cons, List.not_mem_nil, or_false] at hX
      rcases hX with rfl | rfl | rfl | rfl | rfl | rfl | rfl | rfl
      · exact ⟨HS.out, HT.out⟩
      · exact ⟨HXL.out, HYL.out⟩
      · exact ⟨HYL.out, HXL.out⟩
      · exact ⟨HXL.out, HZL.out⟩
      · exact ⟨HHL.out, HYL.out⟩
      · exact ⟨HML.out, HXL.out⟩
      · exact ⟨HS.out, HXL.out⟩
      · exact ⟨HXL.out, HT.out⟩)
    have HRN := Lib.hid (show R.length = 8 by rw [hR]; rfl)
    have HV := Lib.hid (show Below w.heap.size w ((w3.alloc (.cells #[.string (strOf S), .string (strOf T), .string (strOf X), .string (strOf Y), .string (strOf Y), .string (strOf X), .string (strOf X), .string (strOf Z), .string (strOf H), .string (strOf Y), .string (strOf m), .string (strOf X), .string (strOf S), .string (strOf X), .string (strOf X), .string (strOf T)] 29)).drew) from (HW3.out.alloc HW3.out.size _).drew)
    have hgV : w3.heap.size < ((w3.alloc (.cells #[.string (strOf S), .string (strOf T), .string (strOf X), .string (strOf Y), .string (strOf Y), .string (strOf X), .string (strOf X), .string (strOf Z), .string (strOf H), .string (strOf Y), .string (strOf m), .string (strOf X), .string (strOf S), .string (strOf X), .string (strOf X), .string (strOf T)] 29)).drew).heap.size := by simp
    clear hR
    generalize (w3.alloc (.cells #[.string (strOf S), .string (strOf T), .string (strOf X), .string (strOf Y), .string (strOf Y), .string (strOf X), .string (strOf X), .string (strOf Z), .string (strOf H), .string (strOf Y), .string (strOf m), .string (strOf X), .string (strOf S), .string (strOf X), .string (strOf X), .string (strOf T)] 29)).drew = V at hcell HV hgV ⊢
    have HMV := Lib.hid (HMX.out.below HV.out)
    obtain ⟨g, hg⟩ : ∃ g, g = w3.heap.size := ⟨_, rfl⟩
    rw [← hg] at hcell hgV ⊢
    have HC := Lib.hid hcell
    have HG := Lib.hid hgV
    clear hcell hgV hg
    go_loopw [82] (fun i wr => ∃ k : Nat, k ≤ 8 ∧ i = .int .i64 (k : Int) ∧ Below V.heap.size V wr) (fun i _ => 8 - (intOf i).toNat)
    case atStart => exact ⟨0, Nat.zero_le _, rfl, Below.refl _ _⟩
    case round =>
      obtain ⟨wz, hwz⟩ : ∃ wz, wz = wr := ⟨_, rfl⟩
      subst hwz
      obtain ⟨k, hk, rfl, hb⟩ := hrel
      have HBK := Lib.hid hb
      clear hb
      by_cases hlt : k < 8
      · have hd : decide ((k : Int) < 8) = true := decide_eq_true (by omega)
        have hc0 := (HBK.out.cell (p := ⟨g, k * 2, none⟩) HG.out).trans (HC.out k hlt).1
        have hc1 := (HBK.out.cell (p := ⟨g, k * 2 + 1, none⟩) HG.out).trans (HC.out k hlt).2
        have hlen := HRL.out _ (mem_pair (l := R) (k := k) (by rw [HRN.out]; exact hlt))
        generalize R.getD k ([], []) = XY at hc0 hc1 hlen
        obtain ⟨X, Y⟩ := XY
        simp only at hc0 hc1 hlen
        have HX := Lib.hid hlen.1
        have HY := Lib.hid hlen.2
        clear hlen
        obtain ⟨G, hG⟩ : ∃ G, G = wz.heap.size := ⟨_, rfl⟩
        obtain ⟨V2, hV2⟩ : ∃ V2, V2 = wz.alloc (.cells #[.string (strOf X), .string (strOf Y)] 29) := ⟨_, rfl⟩
        have hbV : Below wz.heap.size wz V2 := by rw [hV2]; exact belowNew wz _
        have k0 : V2.cell? ⟨G, 0, none⟩ = some (.string (strOf X)) := by
          rw [hV2, hG, cell_of_row _ _ 0 _ _ _ (heap_alloc_new wz _)]; rfl
        have k1 : V2.cell? ⟨G, 1, none⟩ = some (.string (strOf Y)) := by
          rw [hV2, hG, cell_of_row _ _ 1 _ _ _ (heap_alloc_new wz _)]; rfl
        have HBV := Lib.hid (HBK.out.trans (hbV.mono HBK.out.size))
        have HVE := Lib.hid hV2.symm
        have HGE := Lib.hid hG.symm
        have K0 := Lib.hid k0
        have K1 := Lib.hid k1
        clear hbV hV2 hG k0 k1
        go_wp2_with fail
        rw [HVE.out, HGE.out]
        have q0 := cell_regrown K0.out
        have q1 := cell_regrown K1.out
        have f1 : ∀ d os, _ := fun d os => Calls.regrown_of (paddr_any X HX.out (Sort.grow (redrawn V2 d) os))
        have f2 : ∀ d os, _ := fun d os => Calls.regrown_of (raddr_any X (Sort.grow (redrawn V2 d) os))
        have f3 : ∀ d os, _ := fun d os => Calls.regrown_of (prange_any X HX.out (Sort.grow (redrawn V2 d) os))
        have f4 : ∀ d os, _ := fun d os => Calls.regrown_of (rrange_any X (Sort.grow (redrawn V2 d) os))
        have f5 : ∀ d os, _ := fun d os => Calls.regrown_of (paw_any X Y HX.out HY.out (Sort.grow (redrawn V2 d) os))
        have f6 : ∀ d os, _ := fun d os => Calls.regrown_of (raw_any X Y (Sort.grow (redrawn V2 d) os))
        clear hc0 hc1
        refine wp_region_quiet_below (by kernel_rfl) (by kernel_rfl) ?_
        repeat (go_big_quiet_step (with_reducible first | exact f1 _ _ | exact f2 _ _ | exact f3 _ _ | exact f4 _ _ | exact f5 _ _ | exact f6 _ _))
        refine wpQuiet_nil ?_
        intro _ hw'
        obtain ⟨⟨dq, osq⟩, hw''⟩ := hw'
        subst hw''
        have HBR := Lib.hid (HBV.out.trans ((below_regrown V2 dq osq).mono HBV.out.size))
        clear q0 q1 f1 f2 f3 f4 f5 f6
        go_wp2_with fail
        go_roundw
        case rel => exact ⟨k + 1, by omega, by go_num, HBR.out⟩
        case measure => simp [intOf]; omega
      · have ek : k = 8 := by omega
        subst ek
        have hd : decide (((8 : Nat) : Int) < 8) = false := by decide
        go_wp2_with (first
          | (go_at_call 10; (with_reducible refine (hawake_any _ (HMV.out.below HBK.out)).mono ?_); rintro e z1 ⟨rfl, hz1⟩; have HZ1 := Lib.hid (below_next HBK.out hz1); clear hz1)
          | (go_at_call 35; (with_reducible refine (HPR.out _).mono ?_); rintro e z2 ⟨rfl, hz2⟩; have HZ := Lib.hid (below_next HZ1.out hz2); clear hz2))
        go_ret
        exact ⟨rfl, HV.out.trans (HZ.out.mono HV.out.size)⟩
end Go.Proofs.YtoogfipmdkneoaaDoor
