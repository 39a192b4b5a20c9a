/-
  The walk of the law HostDNSMatch: for every two texts, every two slices of bytes and every bool it returns true, and leaves all that was there as it was.
-/
import Derived.Test.YtoogfipmdkneoaaDoorJaz
import Derived.Lib.QuietBelow
import Derived.BigQuiet
namespace Go.Proofs.YtoogfipmdkneoaaDoor
open Go.RowKit

theorem blies_next {w w' : World} {a : Option Addr} {l : List UInt8} (h : BLies w a l) (hb : Below w.heap.size w w') : BLies w' a l := h.below hb
theorem row_two (W : World) (R : List (List UInt8 × List UInt8)) (t : TypeId) (k : Nat) (hk : k < R.length) :
    (W.alloc (.cells (pairCells (R.map fun p => (strOf p.1, strOf p.2))).toArray t)).cell? ⟨W.heap.size, k * 2, none⟩ = some (.string (strOf (R.getD k ([], [])).1)) ∧ (W.alloc (.cells (pairCells (R.map fun p => (strOf p.1, strOf p.2))).toArray t)).cell? ⟨W.heap.size, k * 2 + 1, none⟩ = some (.string (strOf (R.getD k ([], [])).2)) := by
  have := row_pairs W (R.map fun p => (strOf p.1, strOf p.2)) t k (by simpa using hk)
  have e : (R.map fun p => (strOf p.1, strOf p.2)).getD k (⟨#[]⟩, ⟨#[]⟩) = (strOf (R.getD k ([], [])).1, strOf (R.getD k ([], [])).2) := by
    rw [List.getD_eq_getElem?_getD, List.getD_eq_getElem?_getD, List.getElem?_map, List.getElem?_eq_getElem hk]
    rfl
  rw [e] at this
  exact this
theorem mem_pair {l : List (List UInt8 × List UInt8)} {k : Nat} (h : k < l.length) : l.getD k ([], []) ∈ l := by
  rw [List.getD_eq_getElem?_getD, List.getElem?_eq_getElem h]
  exact List.getElem_mem h
theorem len_or (S T : List UInt8) : (200 < S.length) ∨ (¬ 200 < S.length ∧ 200 < T.length) ∨ (¬ 200 < S.length ∧ ¬ 200 < T.length) := by omega


set_option maxRecDepth 100000 in
set_option maxHeartbeats 4000000 in
theorem dmlaw_no (s t : ByteArray) (a0 a1 : Option Addr) (l m : List UInt8) (c0 c1 : Nat) (w : World) (hmx : Mx w) (hl : BLies w a0 l) (hm : BLies w a1 m) (hll : l.length ≤ 9223372036854775807) (hml : m.length ≤ 9223372036854775807) :
    Calls Tryd.prog 5 #[.string s, .string t, .slice a0 l.length c0, .slice a1 m.length c1, .bool false] w fun e w' => e = .returned (.bool true) ∧ Below w.heap.size w w' := by
  have HMX := Lib.hid hmx
  clear hmx
  obtain ⟨S, rfl⟩ : ∃ S, s = strOf S := ⟨_, strOf_of rfl⟩
  obtain ⟨T, rfl⟩ : ∃ T, t = strOf T := ⟨_, strOf_of rfl⟩
  have e0 := strOf_size S
  have e1 := strOf_size T
  have HL := Lib.hid hl
  have HM := Lib.hid hm
  have HLL := Lib.hid hll
  have HML := Lib.hid hml
  clear hl hm hll hml
  rcases len_or S T with h | ⟨h, h'⟩ | ⟨h, h'⟩
  · have d1 : decide ((200 : Int) < (S.length : Int)) = true := decide_eq_true (by omega)
    clear h
    go_enter Tryd.func5, Tryd.ntmps5
    go_wp2_with (go_at_call 10; (with_reducible refine (hawake_any _ (HMX.out)).mono ?_); rintro e w1 ⟨rfl, hb1⟩; have HB1 := Lib.hid hb1; clear hb1)
    go_ret
    exact ⟨rfl, HB1.out⟩
  · have d1 : decide ((200 : Int) < (S.length : Int)) = false := decide_eq_false (by omega)
    have d2 : decide ((200 : Int) < (T.length : Int)) = true := decide_eq_true (by omega)
    clear h h'
    go_enter Tryd.func5, Tryd.ntmps5
    go_wp2_with (go_at_call 10; (with_reducible refine (hawake_any _ (HMX.out)).mono ?_); rintro e w1 ⟨rfl, hb1⟩; have HB1 := Lib.hid hb1; clear hb1)
    go_ret
    exact ⟨rfl, HB1.out⟩
  · have d1 : decide ((200 : Int) < (S.length : Int)) = false := decide_eq_false (by omega)
    have d2 : decide ((200 : Int) < (T.length : Int)) = false := decide_eq_false (by omega)
    have HS := Lib.hid (show S.length ≤ 100000 by omega)
    have HT := Lib.hid (show T.length ≤ 100000 by omega)
    clear h h'
    go_enter Tryd.func5, Tryd.ntmps5
    go_wp2_with (first
      | (go_at_call 12; (with_reducible refine (dns_any a0 l c0 _ HL.out HLL.out).mono ?_); rintro e w1 ⟨A, rfl, hA, hb1⟩; have HW1 := Lib.hid hb1; have HA := Lib.hid hA; clear hb1 hA)
      | (go_at_call 12; (with_reducible refine (dns_any a1 m c1 _ (HM.out.below HW1.out) HML.out).mono ?_); rintro e w2 ⟨B, rfl, hB, hb2⟩; have HW2 := Lib.hid (below_next HW1.out hb2); have HB := Lib.hid hB; clear hb2 hB; have cat1 := fun w => pre_of [120, 46] B (by have := HB.out; simp; omega) w; rw [show strOf [120, 46] = ⟨#[120, 46]⟩ from rfl] at cat1; have HC1 := Lib.hid (show ([120, 46] ++ B).length ≤ 100000 by have := HB.out; simp; omega); generalize [120, 46] ++ B = Bx at cat1 HC1; have cat2 := fun w => pre_of [121, 46] B (by have := HB.out; simp; omega) w; rw [show strOf [121, 46] = ⟨#[121, 46]⟩ from rfl] at cat2; have HC2 := Lib.hid (show ([121, 46] ++ B).length ≤ 100000 by have := HB.out; simp; omega); generalize [121, 46] ++ B = By at cat2 HC2; have cat3 := fun w => pre_of [121] B (by have := HB.out; simp; omega) w; rw [show strOf [121] = ⟨#[121]⟩ from rfl] at cat3; have HC3 := Lib.hid (show ([121] ++ B).length ≤ 100000 by have := HB.out; simp; omega); generalize [121] ++ B = Bz at cat3 HC3)
      | (go_at_call 11; (with_reducible refine (pieces_any a0 l c0 _ (HL.out.below HW2.out) HLL.out).mono ?_); rintro e w3 ⟨P, rfl, hP, hb3⟩; have HW3 := Lib.hid (below_next HW2.out hb3); have HP := Lib.hid hP; clear hb3 hP)
      | (go_at_call 11; (with_reducible refine (pieces_any a1 m c1 _ (HM.out.below HW3.out) HML.out).mono ?_); rintro e w4 ⟨Q, rfl, hQ, hb4⟩; have HW4 := Lib.hid (below_next HW3.out hb4); have HQ := Lib.hid hQ; clear hb4 hQ)
      | (go_at_call 23; (with_reducible refine (low_any A (by have := HA.out; omega) _).mono ?_); rintro e w5 ⟨rfl, hb5⟩; have HW5 := Lib.hid (below_next HW4.out hb5); clear hb5))
    obtain ⟨R, hR⟩ : ∃ R : List (List UInt8 × List UInt8), R = [(S, T), (A, B), (B, A), (A, Bx), (By, B), (Bz, B), (A, []), ([], B), ([], []), (P, Q), (A, (lowL A))] := ⟨_, rfl⟩
    have hcell : ∀ k, k < 11 → (w5.alloc (.cells #[.string (strOf S), .string (strOf T), .string (strOf A), .string (strOf B), .string (strOf B), .string (strOf A), .string (strOf A), .string (strOf Bx), .string (strOf By), .string (strOf B), .string (strOf Bz), .string (strOf B), .string (strOf A), .string ⟨#[]⟩, .string ⟨#[]⟩, .string (strOf B), .string ⟨#[]⟩, .string ⟨#[]⟩, .string (strOf P), .string (strOf Q), .string (strOf A), .string (strOf (lowL A))] 29)).cell? ⟨w5.heap.size, k * 2, none⟩ = some (.string (strOf (R.getD k ([], [])).1)) ∧ (w5.alloc (.cells #[.string (strOf S), .string (strOf T), .string (strOf A), .string (strOf B), .string (strOf B), .string (strOf A), .string (strOf A), .string (strOf Bx), .string (strOf By), .string (strOf B), .string (strOf Bz), .string (strOf B), .string (strOf A), .string ⟨#[]⟩, .string ⟨#[]⟩, .string (strOf B), .string ⟨#[]⟩, .string ⟨#[]⟩, .string (strOf P), .string (strOf Q), .string (strOf A), .string (strOf (lowL A))] 29)).cell? ⟨w5.heap.size, k * 2 + 1, none⟩ = some (.string (strOf (R.getD k ([], [])).2)) := fun k hk => by
      rw [hR]
      exact row_two w5 [(S, T), (A, B), (B, A), (A, Bx), (By, B), (Bz, B), (A, []), ([], B), ([], []), (P, Q), (A, (lowL A))] 29 k hk
    have HRL := Lib.hid (show ∀ X ∈ R, X.1.length ≤ 100000 ∧ X.2.length ≤ 100000 by
      intro X hX
      rw [hR] at hX
      simp only [List.mem_cons, List.not_mem_nil, or_false] at hX
      have hA : A.length ≤ 100000 := by have := HA.out; omega
      have hB : B.length ≤ 100000 := by have := HB.out; omega
      have hP : P.length ≤ 100000 := by have := HP.out; omega
      have hQ : Q.length ≤ 100000 := by have := HQ.out; omega
      have hLA : (lowL A).length ≤ 100000 := by rw [lowL_length]; exact hA
      have hE : ([] : List UInt8).length ≤ 100000 := by simp
      rcases hX with rfl | rfl | rfl | rfl | rfl | rfl | rfl | rfl | rfl | rfl | rfl
      · exact ⟨HS.out, HT.out⟩
      · exact ⟨hA, hB⟩
      · exact ⟨hB, hA⟩
      · exact ⟨hA, HC1.out⟩
      · exact ⟨HC2.out, hB⟩
      · exact ⟨HC3.out, hB⟩
      · exact ⟨hA, hE⟩
      · exact ⟨hE, hB⟩
      · exact ⟨hE, hE⟩
      · exact ⟨hP, hQ⟩
      · exact ⟨hA, hLA⟩)
    have HRN := Lib.hid (show R.length = 11 by rw [hR]; rfl)
    have HV := Lib.hid (show Below w.heap.size w (w5.alloc (.cells #[.string (strOf S), .string (strOf T), .string (strOf A), .string (strOf B), .string (strOf B), .string (strOf A), .string (strOf A), .string (strOf Bx), .string (strOf By), .string (strOf B), .string (strOf Bz), .string (strOf B), .string (strOf A), .string ⟨#[]⟩, .string ⟨#[]⟩, .string (strOf B), .string ⟨#[]⟩, .string ⟨#[]⟩, .string (strOf P), .string (strOf Q), .string (strOf A), .string (strOf (lowL A))] 29)) from HW5.out.alloc HW5.out.size _)
    have hgV : w5.heap.size < (w5.alloc (.cells #[.string (strOf S), .string (strOf T), .string (strOf A), .string (strOf B), .string (strOf B), .string (strOf A), .string (strOf A), .string (strOf Bx), .string (strOf By), .string (strOf B), .string (strOf Bz), .string (strOf B), .string (strOf A), .string ⟨#[]⟩, .string ⟨#[]⟩, .string (strOf B), .string ⟨#[]⟩, .string ⟨#[]⟩, .string (strOf P), .string (strOf Q), .string (strOf A), .string (strOf (lowL A))] 29)).heap.size := by simp
    clear hR
    generalize w5.alloc (.cells #[.string (strOf S), .string (strOf T), .string (strOf A), .string (strOf B), .string (strOf B), .string (strOf A), .string (strOf A), .string (strOf Bx), .string (strOf By), .string (strOf B), .string (strOf Bz), .string (strOf B), .string (strOf A), .string ⟨#[]⟩, .string ⟨#[]⟩, .string (strOf B), .string ⟨#[]⟩, .string ⟨#[]⟩, .string (strOf P), .string (strOf Q), .string (strOf A), .string (strOf (lowL A))] 29) = V at hcell HV hgV ⊢
    have HMV := Lib.hid (HMX.out.below HV.out)
    obtain ⟨g, hg⟩ : ∃ g, g = w5.heap.size := ⟨_, rfl⟩
    rw [← hg] at hcell hgV ⊢
    have HC := Lib.hid hcell
    have HG := Lib.hid hgV
    clear hcell hgV hg
    go_loopw [68] (fun i wr => ∃ k : Nat, k ≤ 11 ∧ i = .int .i64 (k : Int) ∧ Below V.heap.size V wr) (fun i _ => 11 - (intOf i).toNat)
    case atStart => exact ⟨0, Nat.zero_le _, rfl, Below.refl _ _⟩
    case round =>
      obtain ⟨wz, hwz⟩ : ∃ wz, wz = wr := ⟨_, rfl⟩
      subst hwz
      obtain ⟨k, hk, rfl, hb⟩ := hrel
      have HBK := Lib.hid hb
      clear hb
      by_cases hlt : k < 11
      · have hd : decide ((k : Int) < 11) = true := decide_eq_true (by omega)
        have hc0 := (HBK.out.cell (p := ⟨g, k * 2, none⟩) HG.out).trans (HC.out k hlt).1
        have hc1 := (HBK.out.cell (p := ⟨g, k * 2 + 1, none⟩) HG.out).trans (HC.out k hlt).2
        have hlen := HRL.out _ (mem_pair (l := R) (k := k) (by rw [HRN.out]; exact hlt))
        generalize R.getD k ([], []) = XY at hc0 hc1 hlen
        obtain ⟨X, Y⟩ := XY
        simp only at hc0 hc1 hlen
        have HX := Lib.hid hlen.1
        have HY := Lib.hid hlen.2
        clear hlen
        obtain ⟨G, hG⟩ : ∃ G, G = wz.heap.size := ⟨_, rfl⟩
        obtain ⟨V2, hV2⟩ : ∃ V2, V2 = wz.alloc (.cells #[.string (strOf X), .string (strOf Y)] 29) := ⟨_, rfl⟩
        have hbV : Below wz.heap.size wz V2 := by rw [hV2]; exact belowNew wz _
        have k0 : V2.cell? ⟨G, 0, none⟩ = some (.string (strOf X)) := by
          rw [hV2, hG, cell_of_row _ _ 0 _ _ _ (heap_alloc_new wz _)]; rfl
        have k1 : V2.cell? ⟨G, 1, none⟩ = some (.string (strOf Y)) := by
          rw [hV2, hG, cell_of_row _ _ 1 _ _ _ (heap_alloc_new wz _)]; rfl
        have HBV := Lib.hid (HBK.out.trans (hbV.mono HBK.out.size))
        have HVE := Lib.hid hV2.symm
        have HGE := Lib.hid hG.symm
        have K0 := Lib.hid k0
        have K1 := Lib.hid k1
        clear hbV hV2 hG k0 k1
        go_wp2_with fail
        rw [HVE.out, HGE.out]
        have q0 := cell_regrown K0.out
        have q1 := cell_regrown K1.out
        have f1 : ∀ d os, _ := fun d os => Calls.regrown_of (pmatch_any X Y HX.out HY.out (Sort.grow (redrawn V2 d) os))
        have f2 : ∀ d os, _ := fun d os => Calls.regrown_of (rmatch_any X Y HX.out HY.out (Sort.grow (redrawn V2 d) os))
        have f3 : ∀ d os, _ := fun d os => Calls.regrown_of (pwithin_any X Y HX.out HY.out (Sort.grow (redrawn V2 d) os))
        have f4 : ∀ d os, _ := fun d os => Calls.regrown_of (rwithin_any X Y HX.out HY.out (Sort.grow (redrawn V2 d) os))
        clear hc0 hc1
        refine wp_region_quiet_below (by kernel_rfl) (by kernel_rfl) ?_
        repeat (go_big_quiet_step (with_reducible first | exact f1 _ _ | exact f2 _ _ | exact f3 _ _ | exact f4 _ _))
        refine wpQuiet_nil ?_
        intro _ hw'
        obtain ⟨⟨dq, osq⟩, hw''⟩ := hw'
        subst hw''
        have HBR := Lib.hid (HBV.out.trans ((below_regrown V2 dq osq).mono HBV.out.size))
        clear q0 q1 f1 f2 f3 f4
        go_wp2_with fail
        go_roundw
        case rel => exact ⟨k + 1, by omega, by go_num, HBR.out⟩
        case measure => simp [intOf]; omega
      · have ek : k = 11 := by omega
        subst ek
        have hd : decide (((11 : Nat) : Int) < 11) = false := by decide
        go_wp2_with (go_at_call 10; (with_reducible refine (hawake_any _ (HMV.out.below HBK.out)).mono ?_); rintro e z1 ⟨rfl, hz1⟩; have HZ := Lib.hid (below_next HBK.out hz1); clear hz1)
        go_ret
        exact ⟨rfl, HV.out.trans (HZ.out.mono HV.out.size)⟩


set_option maxRecDepth 100000 in
set_option maxHeartbeats 4000000 in
theorem dmlaw_yes (s t : ByteArray) (a0 a1 : Option Addr) (l m : List UInt8) (c0 c1 : Nat) (w : World) (hmx : Mx w) (hl : BLies w a0 l) (hm : BLies w a1 m) (hll : l.length ≤ 9223372036854775807) (hml : m.length ≤ 9223372036854775807) :
    Calls Tryd.prog 5 #[.string s, .string t, .slice a0 l.length c0, .slice a1 m.length c1, .bool true] w fun e w' => e = .returned (.bool true) ∧ Below w.heap.size w w' := by
  have HMX := Lib.hid hmx
  clear hmx
  obtain ⟨S, rfl⟩ : ∃ S, s = strOf S := ⟨_, strOf_of rfl⟩
  obtain ⟨T, rfl⟩ : ∃ T, t = strOf T := ⟨_, strOf_of rfl⟩
  have e0 := strOf_size S
  have e1 := strOf_size T
  have HL := Lib.hid hl
  have HM := Lib.hid hm
  have HLL := Lib.hid hll
  have HML := Lib.hid hml
  clear hl hm hll hml
  rcases len_or S T with h | ⟨h, h'⟩ | ⟨h, h'⟩
  · have d1 : decide ((200 : Int) < (S.length : Int)) = true := decide_eq_true (by omega)
    clear h
    go_enter Tryd.func5, Tryd.ntmps5
    go_wp2_with (go_at_call 10; (with_reducible refine (hawake_any _ (HMX.out)).mono ?_); rintro e w1 ⟨rfl, hb1⟩; have HB1 := Lib.hid hb1; clear hb1)
    go_ret
    exact ⟨rfl, HB1.out⟩
  · have d1 : decide ((200 : Int) < (S.length : Int)) = false := decide_eq_false (by omega)
    have d2 : decide ((200 : Int) < (T.length : Int)) = true := decide_eq_true (by omega)
    clear h h'
    go_enter Tryd.func5, Tryd.ntmps5
    go_wp2_with (go_at_call 10; (with_reducible refine (hawake_any _ (HMX.out)).mono ?_); rintro e w1 ⟨rfl, hb1⟩; have HB1 := Lib.hid hb1; clear hb1)
    go_ret
    exact ⟨rfl, HB1.out⟩
  · have d1 : decide ((200 : Int) < (S.length : Int)) = false := decide_eq_false (by omega)
    have d2 : decide ((200 : Int) < (T.length : Int)) = false := decide_eq_false (by omega)
    have HS := Lib.hid (show S.length ≤ 100000 by omega)
    have HT := Lib.hid (show T.length ≤ 100000 by omega)
    clear h h'
    go_enter Tryd.func5, Tryd.ntmps5
    go_wp2_with (first
      | (go_at_call 12; (with_reducible refine (dns_any a0 l c0 _ HL.out HLL.out).mono ?_); rintro e w1 ⟨A, rfl, hA, hb1⟩; have HW1 := Lib.hid hb1; have HA := Lib.hid hA; clear hb1 hA; have cat0 := fun w => pre_of [42, 46] A (by have := HA.out; simp; omega) w; rw [show strOf [42, 46] = ⟨#[42, 46]⟩ from rfl] at cat0; have HA0 := HA; have HA := Lib.hid (show ([42, 46] ++ A).length ≤ 18 by have := HA0.out; simp; omega); generalize [42, 46] ++ A = A2 at cat0 HA)
      | (go_at_call 12; (with_reducible refine (dns_any a1 m c1 _ (HM.out.below HW1.out) HML.out).mono ?_); rintro e w2 ⟨B, rfl, hB, hb2⟩; have HW2 := Lib.hid (below_next HW1.out hb2); have HB := Lib.hid hB; clear hb2 hB; have cat1 := fun w => pre_of [120, 46] B (by have := HB.out; simp; omega) w; rw [show strOf [120, 46] = ⟨#[120, 46]⟩ from rfl] at cat1; have HC1 := Lib.hid (show ([120, 46] ++ B).length ≤ 100000 by have := HB.out; simp; omega); generalize [120, 46] ++ B = Bx at cat1 HC1; have cat2 := fun w => pre_of [121, 46] B (by have := HB.out; simp; omega) w; rw [show strOf [121, 46] = ⟨#[121, 46]⟩ from rfl] at cat2; have HC2 := Lib.hid (show ([121, 46] ++ B).length ≤ 100000 by have := HB.out; simp; omega); generalize [121, 46] ++ B = By at cat2 HC2; have cat3 := fun w => pre_of [121] B (by have := HB.out; simp; omega) w; rw [show strOf [121] = ⟨#[121]⟩ from rfl] at cat3; have HC3 := Lib.hid (show ([121] ++ B).length ≤ 100000 by have := HB.out; simp; omega); generalize [121] ++ B = Bz at cat3 HC3)
      | (go_at_call 11; (with_reducible refine (pieces_any a0 l c0 _ (HL.out.below HW2.out) HLL.out).mono ?_); rintro e w3 ⟨P, rfl, hP, hb3⟩; have HW3 := Lib.hid (below_next HW2.out hb3); have HP := Lib.hid hP; clear hb3 hP)
      | (go_at_call 11; (with_reducible refine (pieces_any a1 m c1 _ (HM.out.below HW3.out) HML.out).mono ?_); rintro e w4 ⟨Q, rfl, hQ, hb4⟩; have HW4 := Lib.hid (below_next HW3.out hb4); have HQ := Lib.hid hQ; clear hb4 hQ)
      | (go_at_call 23; (with_reducible refine (low_any A2 (by have := HA.out; omega) _).mono ?_); rintro e w5 ⟨rfl, hb5⟩; have HW5 := Lib.hid (below_next HW4.out hb5); clear hb5))
    obtain ⟨R, hR⟩ : ∃ R : List (List UInt8 × List UInt8), R = [(S, T), (A2, B), (B, A2), (A2, Bx), (By, B), (Bz, B), (A2, []), ([], B), ([], []), (P, Q), (A2, (lowL A2))] := ⟨_, rfl⟩
    have hcell : ∀ k, k < 11 → (w5.alloc (.cells #[.string (strOf S), .string (strOf T), .string (strOf A2), .string (strOf B), .string (strOf B), .string (strOf A2), .string (strOf A2), .string (strOf Bx), .string (strOf By), .string (strOf B), .string (strOf Bz), .string (strOf B), .string (strOf A2), .string ⟨#[]⟩, .string ⟨#[]⟩, .string (strOf B), .string ⟨#[]⟩, .string ⟨#[]⟩, .string (strOf P), .string (strOf Q), .string (strOf A2), .string (strOf (lowL A2))] 29)).cell? ⟨w5.heap.size, k * 2, none⟩ = some (.string (strOf (R.getD k ([], [])).1)) ∧ (w5.alloc (.cells #[.string (strOf S), .string (strOf T), .string (strOf A2), .string (strOf B), .string (strOf B), .string (strOf A2), .string (strOf A2), .string (strOf Bx), .string (strOf By), .string (strOf B), .string (strOf Bz), .string (strOf B), .string (strOf A2), .string ⟨#[]⟩, .string ⟨#[]⟩, .string (strOf B), .string ⟨#[]⟩, .string ⟨#[]⟩, .string (strOf P), .string (strOf Q), .string (strOf A2), .string (strOf (lowL A2))] 29)).cell? ⟨w5.heap.size, k * 2 + 1, none⟩ = some (.string (strOf (R.getD k ([], [])).2)) := fun k hk => by
      rw [hR]
      exact row_two w5 [(S, T), (A2, B), (B, A2), (A2, Bx), (By, B), (Bz, B), (A2, []), ([], B), ([], []), (P, Q), (A2, (lowL A2))] 29 k hk
    have HRL := Lib.hid (show ∀ X ∈ R, X.1.length ≤ 100000 ∧ X.2.length ≤ 100000 by
      intro X hX
      rw [hR] at hX
      simp only [List.mem_cons, List.not_mem_nil, or_false] at hX
      have hA : A2.length ≤ 100000 := by have := HA.out; omega
      have hB : B.length ≤ 100000 := by have := HB.out; omega
      have hP : P.length ≤ 100000 := by have := HP.out; omega
      have hQ : Q.length ≤ 100000 := by have := HQ.out; omega
      have hLA : (lowL A2).length ≤ 100000 := by rw [lowL_length]; exact hA
      have hE : ([] : List UInt8).length ≤ 100000 := by simp
      rcases hX with rfl | rfl | rfl | rfl | rfl | rfl | rfl | rfl | rfl | rfl | rfl
      · exact ⟨HS.out, HT.out⟩
      · exact ⟨hA, hB⟩
      · exact ⟨hB, hA⟩
      · exact ⟨hA, HC1.out⟩
      · exact ⟨HC2.out, hB⟩
      · exact ⟨HC3.out, hB⟩
      · exact ⟨hA, hE⟩
      · exact ⟨hE, hB⟩
      · exact ⟨hE, hE⟩
      · exact ⟨hP, hQ⟩
      · exact ⟨hA, hLA⟩)
    have HRN := Lib.hid (show R.length = 11 by rw [hR]; rfl)
    have HV := Lib.hid (show Below w.heap.size w (w5.alloc (.cells #[.string (strOf S), .string (strOf T), .string (strOf A2), .string (strOf B), .string (strOf B), .string (strOf A2), .string (strOf A2), .string (strOf Bx), .string (strOf By), .string (strOf B), .string (strOf Bz), .string (strOf B), .string (strOf A2), .string ⟨#[]⟩, .string ⟨#[]⟩, .string (strOf B), .string ⟨#[]⟩, .string ⟨#[]⟩, .string (strOf P), .string (strOf Q), .string (strOf A2), .string (strOf (lowL A2))] 29)) from HW5.out.alloc HW5.out.size _)
    have hgV : w5.heap.size < (w5.alloc (.cells #[.string (strOf S), .string (strOf T), .string (strOf A2), .string (strOf B), .string (strOf B), .string (strOf A2), .string (strOf A2), .string (strOf Bx), .string (strOf By), .string (strOf B), .string (strOf Bz), .string (strOf B), .string (strOf A2), .string ⟨#[]⟩, .string ⟨#[]⟩, .string (strOf B), .string ⟨#[]⟩, .string ⟨#[]⟩, .string (strOf P), .string (strOf Q), .string (strOf A2), .string (strOf (lowL A2))] 29)).heap.size := by simp
    clear hR
    generalize w5.alloc (.cells #[.string (strOf S), .string (strOf T), .string (strOf A2), .string (strOf B), .string (strOf B), .string (strOf A2), .string (strOf A2), .string (strOf Bx), .string (strOf By), .string (strOf B), .string (strOf Bz), .string (strOf B), .string (strOf A2), .string ⟨#[]⟩, .string ⟨#[]⟩, .string (strOf B), .string ⟨#[]⟩, .string ⟨#[]⟩, .string (strOf P), .string (strOf Q), .string (strOf A2), .string (strOf (lowL A2))] 29) = V at hcell HV hgV ⊢
    have HMV := Lib.hid (HMX.out.below HV.out)
    obtain ⟨g, hg⟩ : ∃ g, g = w5.heap.size := ⟨_, rfl⟩
    rw [← hg] at hcell hgV ⊢
    have HC := Lib.hid hcell
    have HG := Lib.hid hgV
    clear hcell hgV hg
    go_loopw [68] (fun i wr => ∃ k : Nat, k ≤ 11 ∧ i = .int .i64 (k : Int) ∧ Below V.heap.size V wr) (fun i _ => 11 - (intOf i).toNat)
    case atStart => exact ⟨0, Nat.zero_le _, rfl, Below.refl _ _⟩
    case round =>
      obtain ⟨wz, hwz⟩ : ∃ wz, wz = wr := ⟨_, rfl⟩
      subst hwz
      obtain ⟨k, hk, rfl, hb⟩ := hrel
      have HBK := Lib.hid hb
      clear hb
      by_cases hlt : k < 11
      · have hd : decide ((k : Int) < 11) = true := decide_eq_true (by omega)
        have hc0 := (HBK.out.cell (p := ⟨g, k * 2, none⟩) HG.out).trans (HC.out k hlt).1
        have hc1 := (HBK.out.cell (p := ⟨g, k * 2 + 1, none⟩) HG.out).trans (HC.out k hlt).2
        have hlen := HRL.out _ (mem_pair (l := R) (k := k) (by rw [HRN.out]; exact hlt))
        generalize R.getD k ([], []) = XY at hc0 hc1 hlen
        obtain ⟨X, Y⟩ := XY
        simp only at hc0 hc1 hlen
        have HX := Lib.hid hlen.1
        have HY := Lib.hid hlen.2
        clear hlen
        obtain ⟨G, hG⟩ : ∃ G, G = wz.heap.size := ⟨_, rfl⟩
        obtain ⟨V2, hV2⟩ : ∃ V2, V2 = wz.alloc (.cells #[.string (strOf X), .string (strOf Y)] 29) := ⟨_, rfl⟩
        have hbV : Below wz.heap.size wz V2 := by rw [hV2]; exact belowNew wz _
        have k0 : V2.cell? ⟨G, 0, none⟩ = some (.string (strOf X)) := by
          rw [hV2, hG, cell_of_row _ _ 0 _ _ _ (heap_alloc_new wz _)]; rfl
        have k1 : V2.cell? ⟨G, 1, none⟩ = some (.string (strOf Y)) := by
          rw [hV2, hG, cell_of_row _ _ 1 _ _ _ (heap_alloc_new wz _)]; rfl
        have HBV := Lib.hid (HBK.out.trans (hbV.mono HBK.out.size))
        have HVE := Lib.hid hV2.symm
        have HGE := Lib.hid hG.symm
        have K0 := Lib.hid k0
        have K1 := Lib.hid k1
        clear hbV hV2 hG k0 k1
        go_wp2_with fail
        rw [HVE.out, HGE.out]
        have q0 := cell_regrown K0.out
        have q1 := cell_regrown K1.out
        have f1 : ∀ d os, _ := fun d os => Calls.regrown_of (pmatch_any X Y HX.out HY.out (Sort.grow (redrawn V2 d) os))
        have f2 : ∀ d os, _ := fun d os => Calls.regrown_of (rmatch_any X Y HX.out HY.out (Sort.grow (redrawn V2 d) os))
        have f3 : ∀ d os, _ := fun d os => Calls.regrown_of (pwithin_any X Y HX.out HY.out (Sort.grow (redrawn V2 d) os))
        have f4 : ∀ d os, _ := fun d os => Calls.regrown_of (rwithin_any X Y HX.out HY.out (Sort.grow (redrawn V2 d) os))
        clear hc0 hc1
        refine wp_region_quiet_below (by kernel_rfl) (by kernel_rfl) ?_
        repeat (go_big_quiet_step (with_reducible first | exact f1 _ _ | exact f2 _ _ | exact f3 _ _ | exact f4 _ _))
        refine wpQuiet_nil ?_
        intro _ hw'
        obtain ⟨⟨dq, osq⟩, hw''⟩ := hw'
        subst hw''
        have HBR := Lib.hid (HBV.out.trans ((below_regrown V2 dq osq).mono HBV.out.size))
        clear q0 q1 f1 f2 f3 f4
        go_wp2_with fail
        go_roundw
        case rel => exact ⟨k + 1, by omega, by go_num, HBR.out⟩
        case measure => simp [intOf]; omega
      · have ek : k = 11 := by omega
        subst ek
        have hd : decide (((11 : Nat) : Int) < 11) = false := by decide
        go_wp2_with (go_at_call 10; (with_reducible refine (hawake_any _ (HMV.out.below HBK.out)).mono ?_); rintro e z1 ⟨rfl, hz1⟩; have HZ := Lib.hid (below_next HBK.out hz1); clear hz1)
        go_ret
        exact ⟨rfl, HV.out.trans (HZ.out.mono HV.out.size)⟩

theorem dmlaw (s t : ByteArray) (a0 a1 : Option Addr) (l m : List UInt8) (c0 c1 : Nat) (b : Bool) (w : World) (hmx : Mx w) (hl : BLies w a0 l) (hm : BLies w a1 m) (hll : l.length ≤ 9223372036854775807) (hml : m.length ≤ 9223372036854775807) :
    Calls Tryd.prog 5 #[.string s, .string t, .slice a0 l.length c0, .slice a1 m.length c1, .bool b] w fun e w' => e = .returned (.bool true) ∧ Below w.heap.size w w' := by
  have HMX := Lib.hid hmx
  clear hmx
  cases b
  · exact dmlaw_no s t a0 a1 l m c0 c1 w HMX.out hl hm hll hml
  · exact dmlaw_yes s t a0 a1 l m c0 c1 w HMX.out hl hm hll hml
end Go.Proofs.YtoogfipmdkneoaaDoor
