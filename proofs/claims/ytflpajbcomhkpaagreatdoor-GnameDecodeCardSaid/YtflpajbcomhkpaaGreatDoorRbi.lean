/-
  The walk of the law GnameDecode: for every element and every slice of ints it returns true, and leaves all that was there as it was.
-/
import Derived.Test.YtflpajbcomhkpaaGreatDoorRbh
import Derived.Test.YtflpajbcomhkpaaGreatDoorRba
import Derived.Test.YtflpajbcomhkpaaGreatDoorRbf
namespace Go.Proofs.YtflpajbcomhkpaaGreatDoor
open Go.RowKit

/-- An element in a box. -/
def EBox (w : World) (g : Nat) (T : Int) (ct rw : ByteArray) : Prop := w.heap[g]? = some (.cells #[.int .i64 T, .string ct, .string rw] 23 (0, 0))
theorem EBox.below {w w' : World} {g : Nat} {T : Int} {ct rw : ByteArray} (h : EBox w g T ct rw) (hb : Below w.heap.size w w') : EBox w' g T ct rw := (hb.block g (Array.getElem?_eq_some_iff.1 h).1).trans h
theorem EBox.but {w w' : World} {g p : Nat} {T : Int} {ct rw : ByteArray} (h : EBox w g T ct rw) (hb : But p w w') (hp : g ≠ p) : EBox w' g T ct rw := (hb.block g (Array.getElem?_eq_some_iff.1 h).1 (by simpa using hp)).trans h

set_option maxRecDepth 100000 in
set_option maxHeartbeats 16000000 in
theorem gdeclaw (hPE : PEnc) (hPM : PMatch) (T : Int) (ct rw : ByteArray) (a : Option Addr) (cap : Nat) (zs : List Int) (w : World) (hl : ILies w a zs) (hz : zs.length ≤ 9223372036854775807) (hT : Tab w) (hP : Pow10 w) (hm : Mk w) :
    Calls Tryz.prog 3 #[.agg #[.int .i64 T, .string ct, .string rw], .slice a zs.length cap] w fun e w' => e = .returned (.bool true) ∧ Below w.heap.size w w' := by
  obtain ⟨W0, hW0⟩ : ∃ W0, W0 = w.alloc (.cells #[.int .i64 T, .string ct, .string rw] 23) := ⟨_, rfl⟩
  have hwr : w.alloc (.cells #[.int .i64 T, .string ct, .string rw] 23) = W0 := hW0.symm
  have hb0 : Below w.heap.size w W0 := by rw [hW0]; exact belowNew w _
  have hq0 : W0.heap[w.heap.size]? = some (.cells #[.int .i64 T, .string ct, .string rw] 23 (0, 0)) := by rw [hW0]; exact heap_alloc_new w _
  have HS0 := Lib.hid (show W0.heap.size = w.heap.size + 1 by rw [hW0]; simp)
  obtain ⟨c0, c1, c2, l0⟩ := three_facts hq0
  have HB0 := Lib.hid hb0
  have HE0 := Lib.hid (show EBox W0 w.heap.size T ct rw from hq0)
  have HAW := Lib.hid (fun V (hb : Below w.heap.size w V) => gawake_any hPE hPM V (hT.below hb) (hm.below hb))
  have HDC := Lib.hid (fun V (hb : Below w.heap.size w V) (T : Int) (ct rw : ByteArray) con (hc : ct.size ≤ 140000) => gdec_core T ct rw con V (by omega) (hT.below hb) (hP.below hb) (hm.below hb))
  have HNW := Lib.hid (new_any a cap zs W0 (hl.below hb0 (fun x hx hne => by
    rcases hl with h | ⟨b, o, rfl, h⟩
    · exact absurd h hne
    · obtain rfl := Option.some.inj hx
      cases zs with
      | nil => exact absurd rfl hne
      | cons z t => exact block_lt (h 0 (by simp)))) hz)
  clear hl hz hT hP hm hW0 hb0 hq0 hPE hPM
  by_cases h1 : 300 < ct.size
  · have hd1 : decide ((300 : Int) < (ct.size : Int)) = true := decide_eq_true (by omega)
    clear h1
    go_enter Tryz.func3, Tryz.ntmps3
    go_wp2_with (go_at_call 7; (with_reducible refine (HAW.out _ HB0.out).mono ?_); rintro e w1 ⟨rfl, hb9⟩; have HZ1 := Lib.hid (below_next HB0.out hb9); clear hb9)
    go_ret
    exact ⟨rfl, HZ1.out⟩
  have hd1 : decide ((300 : Int) < (ct.size : Int)) = false := decide_eq_false (by omega)
  by_cases h2 : 300 < rw.size
  · have hd2 : decide ((300 : Int) < (rw.size : Int)) = true := decide_eq_true (by omega)
    clear h1 h2
    go_enter Tryz.func3, Tryz.ntmps3
    go_wp2_with (go_at_call 7; (with_reducible refine (HAW.out _ HB0.out).mono ?_); rintro e w1 ⟨rfl, hb9⟩; have HZ1 := Lib.hid (below_next HB0.out hb9); clear hb9)
    go_ret
    exact ⟨rfl, HZ1.out⟩
  have hd2 : decide ((300 : Int) < (rw.size : Int)) = false := decide_eq_false (by omega)
  have HCT := Lib.hid (show ct.size ≤ 1000 by omega)
  clear h1 h2
  go_enter Tryz.func3, Tryz.ntmps3
  go_upto_region 4 with (go_at_call 8; (with_reducible refine HNW.out.mono ?_); rintro e w2 ⟨rfl, hd2, hb2⟩; have HD2 := Lib.hid hd2; have HB2 := Lib.hid hb2; clear hd2 hb2)
  obtain ⟨p, hp⟩ : ∃ p, p = W0.heap.size := ⟨_, rfl⟩
  have HP := Lib.hid hp
  rw [← hp] at HD2 ⊢
  have hp0 : w.heap.size < p := by have := HS0.out; omega
  have HE2 := Lib.hid (HE0.out.below HB2.out)
  have HBP2 := Lib.hid (below_next HB0.out HB2.out)
  have HSM := Lib.hid (some_any p a cap zs 0 w2 HD2.out (by omega))
  clear hp HNW HE0 HB2 HS0 c0 c1 c2 l0 hwr
  go_upto_region 5 with (go_at_call 9; (with_reducible refine HSM.out.mono ?_); rintro e w3 ⟨k, t, sq, n, j3, hu3, hm3, rfl, hso, hd3, hk3, hb3⟩; obtain ⟨aq, cq, rfl, hcs, _⟩ := hso.lies; clear hcs; have HG := Lib.hid (And.intro hu3 hm3); have HO3 := Lib.hid (hso.base (Nat.le_of_lt HD2.out.lt)); have HD3 := Lib.hid hd3; have HK3 := Lib.hid (show j3 ≤ 40 by omega); have HB3 := Lib.hid hb3; clear hu3 hm3 hso hd3 hk3 hb3)
  obtain ⟨V, hV⟩ : ∃ V, V = w3.alloc (.cells #[.int .i64 k, .string (strOf t), .slice aq n.length cq] 32) := ⟨_, rfl⟩
  obtain ⟨g, hg⟩ : ∃ g, g = w3.heap.size := ⟨_, rfl⟩
  have hbV : Below w3.heap.size w3 V := by rw [hV]; exact belowNew w3 _
  have hqg : V.heap[g]? = some (.cells #[.int .i64 k, .string (strOf t), .slice aq n.length cq] 32 (0, 0)) := by rw [hV, hg]; exact heap_alloc_new w3 _
  have hpg : p < g := by rw [hg]; exact HD3.out.lt
  rw [← hV, ← hg]
  obtain ⟨L, hL⟩ : ∃ L, L = n.length := ⟨_, rfl⟩
  rw [← hL] at hqg
  have HOV := Lib.hid (HO3.out.below hbV)
  have HDV := Lib.hid (HD3.out.below hbV)
  have HBV := Lib.hid (show But p w2 V from HB3.out.next (But.of hbV))
  have HEV := Lib.hid (HE2.out.but HBV.out (by omega))
  have HL := Lib.hid hL
  obtain ⟨x0, x1, x2, lg⟩ := three_facts hqg
  clear hL hV hg hbV hqg HSM HO3 HD3 HB3
  have HNX := Lib.hid (fun U (h : DeckAt U p a cap zs j3) => next2 p a cap zs j3 U h (by have := HK3.out; omega))
  go_cut [7] (fun s7 wx => ∃ (s : ByteArray) (kk : Nat), s7 = .string s ∧ s.size ≤ 660 ∧ DeckAt wx p a cap zs kk ∧ kk ≤ 41 ∧ But p w2 wx)
  case first =>
    go_region_held3 (fun w' => w'.cell? ⟨g, 0, none⟩ = some (.int .i64 k) ∧ w'.cell? ⟨g, 1, none⟩ = some (.string (strOf t)) ∧ w'.cell? ⟨g, 2, none⟩ = some (.slice aq L cq)) (first | exact ⟨by assumption, by assumption, by assumption⟩ | go_keep)
      (first
        | (go_at_call 11; (with_reducible refine (HNX.out _ (by first | exact HDV.out | exact deck_up HDV.out)).mono ?_); rintro e w5 ⟨r5, j5, hr5, rfl, hd5, hk5, hb5⟩; have hbx : But p V w5 := (by first | exact hb5 | exact ((But.refl p V).drew).next hb5); obtain ⟨con, f1, f2, f3, f4⟩ := eq_cases r5 hr5; have z0 := (cell_same (hbx.block _ lg (by simp; omega)) 0).trans x0; have z1 := (cell_same (hbx.block _ lg (by simp; omega)) 1).trans x1; have z2 := (cell_same (hbx.block _ lg (by simp; omega)) 2).trans x2; have HD5 := Lib.hid hd5; have HK5 := Lib.hid (show j5 ≤ 41 by have := HK3.out; omega); have HB5 := Lib.hid (HBV.out.next hbx); have HO5 := Lib.hid (HOV.out.apart HDV.out.1 (by decide) (by decide) hbx); clear hd5 hk5 hb5 hr5 hbx)
        | (go_at_call 10; (with_reducible refine (rencG_core aq cq L k t n _ w5 (own_lies4 HO5.out) HL.out (Nat.le_trans HG.out.1 (by omega)) (madeN_small HG.out.2)).mono ?_); rintro e w6 ⟨rfl, hb6⟩; have HD6 := Lib.hid (HD5.out.below hb6); have HB6 := Lib.hid (HB5.out.next (But.of hb6)); have q0 := (hb6.cell (block_lt z0)).trans z0; have q1 := (hb6.cell (block_lt z1)).trans z1; have q2 := (hb6.cell (block_lt z2)).trans z2; clear hb6))
    all_goals go_wp2_with fail
    all_goals go_meet
    all_goals exact ⟨_, j5, rfl, encG_small HG.out.1 HG.out.2, HD6.out, HK5.out, HB6.out⟩
  case rest =>
    obtain ⟨s, kk, rfl, hs, hd, hk, hb⟩ := hcut
    have HS := Lib.hid hs
    have HDC7 := Lib.hid hd
    have HKK := Lib.hid hk
    have HBC := Lib.hid hb
    clear hs hd hk hb x0 x1 x2 lg HEV HOV HDV HBV HL HG HNX HK3
    go_upto_region 7 with (first
      | (go_at_call 13; (with_reducible refine (rewrap_any p a cap zs kk s _ HDC7.out (by have := HKK.out; have := HS.out; omega)).mono ?_); rintro e w7 ⟨u7, j7, rfl, hu7, hd7, hk7, hb7⟩; have HU7 := Lib.hid (show u7.size ≤ 140000 by have := HS.out; omega); have HD7 := Lib.hid hd7; have HK7 := Lib.hid (show j7 ≤ 720 by have := HKK.out; have := HS.out; omega); have HB7 := Lib.hid (HBC.out.next hb7); obtain ⟨T7, ct7, rw7, E7, hz7, h7⟩ := rone_form u7 w7 (by have := HU7.out; omega); have HO7 := Lib.hid h7; have HZ7 := Lib.hid (show ct7.size ≤ 140000 by have := HU7.out; omega); clear hu7 hd7 hk7 hb7 hz7 h7)
      | (go_at_call 12; (with_reducible refine HO7.out.mono ?_); rintro e w8 ⟨rfl, hb8⟩; have HB8 := Lib.hid (HB7.out.next (But.of hb8)); have HD8 := Lib.hid (HD7.out.below hb8); clear hb8))
    obtain ⟨V7, hV7⟩ : ∃ V7, V7 = w8.alloc (.cells #[.int .i64 T7, .string ct7, .string rw7] 23) := ⟨_, rfl⟩
    obtain ⟨gx, hgx⟩ : ∃ gx, gx = w8.heap.size := ⟨_, rfl⟩
    have hbx : Below w8.heap.size w8 V7 := by rw [hV7]; exact belowNew w8 _
    have HX7 := Lib.hid (show EBox V7 gx T7 ct7 rw7 by rw [hV7, hgx]; exact heap_alloc_new w8 _)
    have hpx : p < gx := by rw [hgx]; exact HD8.out.lt
    have HBV7 := Lib.hid (HB8.out.next (But.of hbx))
    have HDV7 := Lib.hid (HD8.out.below hbx)
    rw [← hV7, ← hgx]
    clear hV7 hgx hbx HDC7 HD7 HB7 HD8 HB8 HO7 HU7
    go_upto_region 8 with (first
      | (go_at_call 14; (with_reducible refine (damage_all p a cap zs j7 s _ HDV7.out (by have := HK7.out; omega) (by have := HS.out; omega)).mono ?_); rintro e w10 ⟨u10, j10, rfl, hu10, hd10, hk10, hb10⟩; have HB10 := Lib.hid (HBV7.out.next hb10); have HX10 := Lib.hid (HX7.out.but hb10 (by omega)); obtain ⟨T10, ct10, rw10, E10, hz10, h10⟩ := rone_form u10 w10 (by have := HS.out; omega); have HO10 := Lib.hid h10; have HZ10 := Lib.hid (show ct10.size ≤ 1000 by have := HS.out; omega); clear hu10 hd10 hk10 hb10 hz10 h10)
      | (go_at_call 12; (with_reducible refine HO10.out.mono ?_); rintro e w11 ⟨rfl, hb11⟩; have HB11 := Lib.hid (HB10.out.next (But.of hb11)); have HX11 := Lib.hid (HX10.out.below hb11); clear hb11))
    obtain ⟨V8, hV8⟩ : ∃ V8, V8 = w11.alloc (.cells #[.int .i64 T10, .string ct10, .string rw10] 23) := ⟨_, rfl⟩
    obtain ⟨gy, hgy⟩ : ∃ gy, gy = w11.heap.size := ⟨_, rfl⟩
    have hby : Below w11.heap.size w11 V8 := by rw [hV8]; exact belowNew w11 _
    have HY8 := Lib.hid (show EBox V8 gy T10 ct10 rw10 by rw [hV8, hgy]; exact heap_alloc_new w11 _)
    have HX8 := Lib.hid (HX11.out.below hby)
    have HBV8 := Lib.hid (HB11.out.next (But.of hby))
    rw [← hV8, ← hgy]
    clear hV8 hgy hby HX7 HX10 HX11 HB10 HB11 HO10 HBV7 HDV7
    obtain ⟨T13, ct13, rw13, E13, hz13, h13⟩ := rone_form s V8 (by have := HS.out; omega)
    have HO13 := Lib.hid h13
    have HZ13 := Lib.hid (show ct13.size ≤ 1000 by have := HS.out; omega)
    clear hz13 h13
    go_upto_region 9 with (go_at_call 12; (with_reducible refine HO13.out.mono ?_); rintro e w13 ⟨rfl, hb13⟩; have HB13 := Lib.hid (HBV8.out.next (But.of hb13)); have HX13 := Lib.hid (HX8.out.below hb13); have HY13 := Lib.hid (HY8.out.below hb13); clear hb13)
    obtain ⟨V9, hV9⟩ : ∃ V9, V9 = w13.alloc (.cells #[.int .i64 T13, .string ct13, .string rw13] 23) := ⟨_, rfl⟩
    obtain ⟨gz, hgz⟩ : ∃ gz, gz = w13.heap.size := ⟨_, rfl⟩
    have hbz : Below w13.heap.size w13 V9 := by rw [hV9]; exact belowNew w13 _
    have HZ9 := Lib.hid (show EBox V9 gz T13 ct13 rw13 by rw [hV9, hgz]; exact heap_alloc_new w13 _)
    have HX9 := Lib.hid (HX13.out.below hbz)
    have HY9 := Lib.hid (HY13.out.below hbz)
    have HBV9 := Lib.hid (HB13.out.next (But.of hbz))
    have HR9 := Lib.hid (HE2.out.but HBV9.out (by omega))
    rw [← hV9, ← hgz]
    clear hV9 hgz hbz HX13 HY13 HX8 HY8 HB13 HO13 HBV8
    obtain ⟨x0, x1, x2, lx⟩ := three_facts HX9.out
    obtain ⟨y0, y1, y2, ly⟩ := three_facts HY9.out
    obtain ⟨z0, z1, z2, lz⟩ := three_facts HZ9.out
    obtain ⟨v0, v1, v2, lv⟩ := three_facts HR9.out
    go_upto_region 10 with fail
    obtain ⟨U, hU⟩ : ∃ U, U = V9.alloc (.cells #[.int .i64 T, .string ct, .string rw, .int .i64 T7, .string ct7, .string rw7, .int .i64 T10, .string ct10, .string rw10, .int .i64 T13, .string ct13, .string rw13] 23) := ⟨_, rfl⟩
    obtain ⟨G, hG⟩ : ∃ G, G = V9.heap.size := ⟨_, rfl⟩
    have hbU : Below V9.heap.size V9 U := by rw [hU]; exact belowNew V9 _
    have hc : ∀ j, U.cell? ⟨G, j, none⟩ = (#[.int .i64 T, .string ct, .string rw, .int .i64 T7, .string ct7, .string rw7, .int .i64 T10, .string ct10, .string rw10, .int .i64 T13, .string ct13, .string rw13] : Array Value)[j]? := fun j => by
      rw [hU, hG]
      exact cell_of_row _ _ j _ _ _ (heap_alloc_new V9 _)
    have HROW := Lib.hid (show ∀ i, i < 4 → ∃ (T1 : Int) (c1 r1 : ByteArray), U.cell? ⟨G, i * 3, none⟩ = some (.int .i64 T1) ∧ U.cell? ⟨G, i * 3 + 1, none⟩ = some (.string c1) ∧ U.cell? ⟨G, i * 3 + 2, none⟩ = some (.string r1) ∧ c1.size ≤ 140000 from fun i hi => by
      rcases (by omega : i = 0 ∨ i = 1 ∨ i = 2 ∨ i = 3) with rfl | rfl | rfl | rfl
      · exact ⟨_, _, _, hc 0, hc 1, hc 2, by have := HCT.out; omega⟩
      · exact ⟨_, _, _, hc 3, hc 4, hc 5, HZ7.out⟩
      · exact ⟨_, _, _, hc 6, hc 7, hc 8, by have := HZ10.out; omega⟩
      · exact ⟨_, _, _, hc 9, hc 10, hc 11, by have := HZ13.out; omega⟩)
    have HBU := Lib.hid (show Below w.heap.size w U from below_next (HBP2.out.trans ((HBV9.out.below (Nat.le_of_lt HD2.out.lt)).mono (by omega))) hbU)
    rw [← hU, ← hG]
    clear x0 x1 x2 lx y0 y1 y2 ly z0 z1 z2 lz v0 v1 v2 lv hU hG hbU hc HX9 HY9 HZ9 HR9 HBV9 HCT HZ7 HZ10 HZ13 HE2 HBC HKK HS HK7 HBP2 HD2 hpg hpx hp0
    go_loopw [71] (fun i wr => ∃ j : Nat, j ≤ 4 ∧ i = .int .i64 (j : Int) ∧ Below U.heap.size U wr) (fun i _ => 4 - (intOf i).toNat)
    case atStart => exact ⟨0, Nat.zero_le _, rfl, Below.refl _ _⟩
    case round =>
      obtain ⟨wz, hwz⟩ : ∃ wz, wz = wr := ⟨_, rfl⟩
      subst hwz
      obtain ⟨j, hj, rfl, hb⟩ := hrel
      have HBJ := Lib.hid hb
      clear hb
      by_cases hlt : j < 4
      · have hd : decide ((j : Int) < 4) = true := decide_eq_true (by omega)
        obtain ⟨T1, c1, r1, y0, y1, y2, hz1⟩ := HROW.out j hlt
        have e0 := (HBJ.out.cell (block_lt y0)).trans y0
        have e1 := (HBJ.out.cell (block_lt y1)).trans y1
        have e2 := (HBJ.out.cell (block_lt y2)).trans y2
        have HC1 := Lib.hid hz1
        clear y0 y1 y2 hz1
        obtain ⟨W2, hW2⟩ : ∃ W2, W2 = wz.alloc (.cells #[.int .i64 T1, .string c1, .string r1] 23) := ⟨_, rfl⟩
        obtain ⟨W3, hW3⟩ : ∃ W3, W3 = W2.alloc (.cells #[.bool false, .bool true] 4) := ⟨_, rfl⟩
        have hb2 : Below wz.heap.size wz W2 := by rw [hW2]; exact belowNew wz _
        have hb3 : Below W2.heap.size W2 W3 := by rw [hW3]; exact belowNew W2 _
        have hz2 : W2.heap.size = wz.heap.size + 1 := by rw [hW2]; simp
        have hq3 : W3.heap[wz.heap.size]? = some (.cells #[.int .i64 T1, .string c1, .string r1] 23 (0, 0)) := (hb3.block _ (by omega)).trans (by rw [hW2]; exact heap_alloc_new wz _)
        have hbl : ∀ i, i < 2 → W3.cell? ⟨wz.heap.size + 1, i, none⟩ = some (.bool (decide (i = 1))) := fun i hi => by
          have := bools_at W2 4 i hi
          rw [← hW3, hz2] at this
          exact this
        have HB3 := Lib.hid (below_next hb2 hb3)
        have HQ3 := Lib.hid hq3
        have HBL := Lib.hid hbl
        have lz3 : wz.heap.size + 1 < W3.heap.size := by rw [hW3]; simp; omega
        have HWE := hW2.symm
        have HWE3 := hW3.symm
        have HLT := Lib.hid hlt
        clear hb2 hb3 hq3 hbl hW2 hW3
        go_wp2_with fail
        clear e0 e1 e2 hd HWE HWE3 hz2 hlt
        go_loopw [77] (fun i wr => ∃ i1 : Nat, i1 ≤ 2 ∧ i = .int .i64 (i1 : Int) ∧ Below W3.heap.size W3 wr) (fun i _ => 2 - (intOf i).toNat)
        case atStart => exact ⟨0, Nat.zero_le _, rfl, Below.refl _ _⟩
        case round =>
          obtain ⟨wy, hwy⟩ : ∃ wy, wy = wr := ⟨_, rfl⟩
          subst hwy
          obtain ⟨i1, hi1, rfl, hb⟩ := hrel
          have HBI := Lib.hid hb
          clear hb
          by_cases hlt : i1 < 2
          · have hd : decide ((i1 : Int) < 2) = true := decide_eq_true (by omega)
            have hcb := (HBI.out.cell (p := ⟨wz.heap.size + 1, i1, none⟩) lz3).trans (HBL.out i1 hlt)
            generalize decide (i1 = 1) = con at hcb
            have HQY := Lib.hid ((HBI.out.block wz.heap.size (by omega)).trans HQ3.out)
            obtain ⟨f0, f1, f2, lq⟩ := three_facts HQY.out
            have HBW := Lib.hid (HB3.out.trans (HBI.out.mono HB3.out.size))
            have HB5 := Lib.hid (show Below w.heap.size w wy from below_next HBU.out (HBJ.out.trans (HBW.out.mono HBJ.out.size)))
            have P1 := Lib.hid (HDC.out wy HB5.out T1 c1 r1 con HC1.out)
            have P2 := Lib.hid (fun W => rdecG_core T1 c1 r1 con W (by have := HC1.out; omega))
            have hsm := decG_small (con := con) (T := T1) (ct := c1) (by have := HC1.out; omega)
            generalize decG con T1 c1 = R at P1 P2 hsm
            obtain ⟨E, q, u, n⟩ := R
            have HSN := Lib.hid hsm
            simp only at P1 P2 HSN
            have hee : ((E : Int) != (E : Int)) = false := by simp
            clear hsm
            go_upto_region 16 with (go_at_call 15; (with_reducible refine P1.out.mono ?_); rintro e y1 ⟨s1, rfl, hso, hb1⟩; obtain ⟨a1, x1, rfl, hcs, hrl⟩ := hso.lies; have HY1 := Lib.hid hb1; have HR1 := Lib.hid hrl; have HC1' := Lib.hid hcs; clear hso hrl hb1 hcs)
            obtain ⟨Y2, hY2⟩ : ∃ Y2, Y2 = y1.alloc (.cells #[.int .i64 q, .string (strOf u), .slice a1 n.length x1] 32) := ⟨_, rfl⟩
            obtain ⟨g1, hg1⟩ : ∃ g1, g1 = y1.heap.size := ⟨_, rfl⟩
            have hb2 : Below y1.heap.size y1 Y2 := by rw [hY2]; exact belowNew y1 _
            have HG1 := Lib.hid (show Y2.heap[g1]? = some (.cells #[.int .i64 q, .string (strOf u), .slice a1 n.length x1] 32 (0, 0)) by rw [hY2, hg1]; exact heap_alloc_new y1 _)
            have HY2 := Lib.hid (below_next HY1.out hb2)
            have HR2 := Lib.hid (HR1.out.below hb2)
            have HQ2 := Lib.hid ((HY2.out.block wz.heap.size lq).trans HQY.out)
            rw [← hY2, ← hg1]
            clear hY2 hg1 hb2 f0 f1 f2
            obtain ⟨f0, f1, f2, lq2⟩ := three_facts HQ2.out
            go_upto_region 17 with (go_at_call 16; (with_reducible refine (P2.out _).mono ?_); rintro e y3 ⟨s3, rfl, hso, hb3⟩; obtain ⟨a3, x3, rfl, hcs, hrl⟩ := hso.lies; have HY3 := Lib.hid (below_next HY2.out hb3); have HR3 := Lib.hid hrl; have HC3 := Lib.hid hcs; have HR23 := Lib.hid (HR2.out.below hb3); have HG3 := Lib.hid ((hb3.block g1 (Array.getElem?_eq_some_iff.1 HG1.out).1).trans HG1.out); clear hso hrl hb3 hcs)
            obtain ⟨Y4, hY4⟩ : ∃ Y4, Y4 = y3.alloc (.cells #[.int .i64 q, .string (strOf u), .slice a3 n.length x3] 32) := ⟨_, rfl⟩
            obtain ⟨g3, hg3⟩ : ∃ g3, g3 = y3.heap.size := ⟨_, rfl⟩
            have hb4 : Below y3.heap.size y3 Y4 := by rw [hY4]; exact belowNew y3 _
            have HG4 := Lib.hid (show Y4.heap[g3]? = some (.cells #[.int .i64 q, .string (strOf u), .slice a3 n.length x3] 32 (0, 0)) by rw [hY4, hg3]; exact heap_alloc_new y3 _)
            have HY4 := Lib.hid (below_next HY3.out hb4)
            have HG14 := Lib.hid ((hb4.block g1 (Array.getElem?_eq_some_iff.1 HG3.out).1).trans HG3.out)
            have HR4 := Lib.hid (HR3.out.below hb4)
            have HR14 := Lib.hid (HR23.out.below hb4)
            rw [← hY4, ← hg3]
            clear hY4 hg3 hb4 f0 f1 f2 lq2 lq HG1 HG3 HR1 HR2 HR3 HR23 HQ2
            obtain ⟨f0, f1, f2, _⟩ := three_facts HG14.out
            obtain ⟨h0, h1, h2, _⟩ := three_facts HG4.out
            obtain ⟨Y5, hY5⟩ : ∃ Y5, Y5 = Y4.alloc (.cells #[.int .i64 q, .string (strOf u), .slice a1 n.length x1] 32) := ⟨_, rfl⟩
            obtain ⟨Y6, hY6⟩ : ∃ Y6, Y6 = Y5.alloc (.cells #[.int .i64 q, .string (strOf u), .slice a3 n.length x3] 32) := ⟨_, rfl⟩
            have hb5 : Below Y4.heap.size Y4 Y5 := by rw [hY5]; exact belowNew Y4 _
            have hb6 : Below Y5.heap.size Y5 Y6 := by rw [hY6]; exact belowNew Y5 _
            have hs5 : Y5.heap.size = Y4.heap.size + 1 := by rw [hY5]; simp
            have hq5 : Y6.heap[Y4.heap.size]? = some (.cells #[.int .i64 q, .string (strOf u), .slice a1 n.length x1] 32 (0, 0)) := (hb6.block _ (by omega)).trans (by rw [hY5]; exact heap_alloc_new Y4 _)
            have hq6 : Y6.heap[Y4.heap.size + 1]? = some (.cells #[.int .i64 q, .string (strOf u), .slice a3 n.length x3] 32 (0, 0)) := by rw [← hs5, hY6]; exact heap_alloc_new Y5 _
            have HX := Lib.hid (exactG_core (some ⟨Y4.heap.size, 0, none⟩) (some ⟨Y4.heap.size + 1, 0, none⟩) 1 1 1 [(q, u, n)] Y6 (glies_one hq5 HC1'.out (HR14.out.below (below_next hb5 hb6))) (glies_one hq6 HC3.out (HR4.out.below (below_next hb5 hb6))) rfl (by decide) (fun i hi => by
              obtain rfl : i = 0 := by simp at hi; omega
              exact HSN.out))
            have HY6 := Lib.hid (below_next HY4.out (below_next hb5 hb6))
            have j0 := (hb5.cell (block_lt h0)).trans h0
            have j1 := (hb5.cell (block_lt h1)).trans h1
            have j2 := (hb5.cell (block_lt h2)).trans h2
            have HWE5 := hY5.symm
            have HWE6 := hY6.symm
            clear hb5 hb6 hq5 hq6 hY5 hY6 HG14 HG4 HR4 HR14 HQY
            go_wp2_with (go_at_call 17; (with_reducible refine HX.out.mono ?_); rintro e y7 ⟨rfl, hb7⟩; have HY7 := Lib.hid (below_next HY6.out hb7); clear hb7)
            go_roundw
            case rel => exact ⟨i1 + 1, by omega, by go_num, HBI.out.trans (HY7.out.mono HBI.out.size)⟩
            case measure => simp [intOf]; omega
          · have ei : i1 = 2 := by omega
            subst ei
            have hd : decide (((2 : Nat) : Int) < 2) = false := by decide
            have HZZ := Lib.hid (HBJ.out.trans ((HB3.out.trans (HBI.out.mono HB3.out.size)).mono HBJ.out.size))
            go_wp2_with fail
            go_roundw
            case rel => exact ⟨j + 1, by have := HLT.out; omega, by go_num, HZZ.out⟩
            case measure => have := HLT.out; simp [intOf]; omega
      · have ej : j = 4 := by omega
        subst ej
        have hd : decide (((4 : Nat) : Int) < 4) = false := by decide
        have HZD := Lib.hid (below_next HBU.out HBJ.out)
        go_wp2_with (go_at_call 7; (with_reducible refine (HAW.out _ HZD.out).mono ?_); rintro e w9 ⟨rfl, hb9⟩; have HY9 := Lib.hid (below_next HZD.out hb9); clear hb9)
        go_ret
        exact ⟨rfl, HY9.out⟩
end Go.Proofs.YtflpajbcomhkpaaGreatDoor
