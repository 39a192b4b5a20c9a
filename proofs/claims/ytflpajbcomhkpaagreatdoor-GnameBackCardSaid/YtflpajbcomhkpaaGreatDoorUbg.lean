/-
  The contracts of gname's taggedKind, decodeParts and Decode: the general name of an element, or the error.
  The contracts of the reference's nibble, Unhex and Hex: the string whose digits are the given ones, if there is one, and a string's digits; nothing that was there before the call has changed.
  The contracts of the program's hash.Hex and hash.Unhex.
-/
import Derived.Test.YtflpajbcomhkpaaGreatDoorUaz
import Derived.Test.YtflpajbcomhkpaaGreatDoorUbf
import Derived.Test.YtflpajbcomhkpaaGreatDoorUbd
import Derived.Test.YtflpajbcomhkpaaGreatDoorUak
import Derived.Test.YtflpajbcomhkpaaGreatDoorUae
import Derived.WalkSpells
import Derived.Test.YtflpajbcomhkpaaGreatDoorUaa
namespace Go.Proofs.YtflpajbcomhkpaaGreatDoor
open Go.RowKit

set_option maxRecDepth 100000 in
set_option maxHeartbeats 4000000 in
theorem gtag_any (T : Int) (w : World) (h : KdT w) :
    Calls Tryz.prog 80 #[.int .i64 T] w fun e w' => e = .returned (.int .i64 ((tgOf T : Nat) : Int)) ∧ Below w.heap.size w w' := by
  obtain ⟨c0, c1, c2, c3, c4, c5, c6, c7, c8, c9, c10, c11⟩ := h.cells
  obtain ⟨Z, hZ⟩ : ∃ Z, Z = tgOf T := ⟨_, rfl⟩
  have HZ := Lib.hid hZ
  rw [← hZ]
  clear h hZ
  go_enter Tryz.func80, Tryz.ntmps80
  go_wp2_with fail
  clear c0 c1 c2 c3 c4 c5 c6 c7 c8 c9 c10 c11
  go_loopw [6] (fun i wr => ∃ k : Nat, k ≤ 4 ∧ i = .int .i64 k ∧ (∀ j, j < k → kdG j ≠ T) ∧ Below w.heap.size w wr) (fun i _ => 4 - (intOf i).toNat)
  case atStart => exact ⟨0, by omega, rfl, fun j hj => absurd hj (Nat.not_lt_zero _), Below.refl _ _⟩
  case round =>
    obtain ⟨k, hk, rfl, hA, hb⟩ := hrel
    have HB := Lib.hid hb
    have HA := Lib.hid hA
    by_cases hlt : k < 4
    · have hd : decide ((k : Int) < 4) = true := by simp; omega
      have hix := index_kd k hlt
      obtain ⟨n, hn⟩ : ∃ n, n = kdG k := ⟨_, rfl⟩
      rw [← hn] at hix
      generalize kdN k = g at hix
      generalize kdW k = x at hix
      obtain ⟨W1, hW1⟩ : ∃ W1, W1 = wr.alloc (.cells #[.int .i64 g, .int .i64 n, .string x] 89) := ⟨_, rfl⟩
      have hwr1 : wr.alloc (.cells #[.int .i64 g, .int .i64 n, .string x] 89) = W1 := hW1.symm
      have hb1 : Below wr.heap.size wr W1 := by rw [hW1]; exact belowNew wr _
      have hq1 : W1.heap[wr.heap.size]? = some (.cells #[.int .i64 g, .int .i64 n, .string x] 89 (0, 0)) := by rw [hW1]; exact heap_alloc_new wr _
      obtain ⟨r0, r1, r2, l1⟩ := three_facts hq1
      have HB1 := Lib.hid (below_next hb hb1)
      clear hb hA hW1 hb1 hq1
      by_cases hx : n = T
      · have hbq : (n == T) = true := beq_iff_eq.2 hx
        have HF := Lib.hid (show Z = k by rw [HZ.out]; exact tg_hit k hlt (by rw [← hn]; exact hx))
        clear hn hx
        go_wp2_with fail
        go_ret
        exact ⟨by rw [HF.out]; rfl, HB1.out⟩
      · have hbq : (n == T) = false := beq_eq_false_iff_ne.2 hx
        have HF := Lib.hid (show ∀ j, j < k + 1 → kdG j ≠ T from fun j hj => by
          by_cases e : j = k
          · rw [e, ← hn]; exact hx
          · exact HA.out j (by omega))
        clear hn hx
        go_wp2_with fail
        go_roundw
        case rel => exact ⟨k + 1, by omega, by go_num, HF.out, HB1.out⟩
        case measure => simp [intOf]; omega
    · obtain rfl : k = 4 := by omega
      have hd : decide (((4 : Nat) : Int) < 4) = false := rfl
      have HF := Lib.hid (show Z = 4 by rw [HZ.out]; exact tg_miss HA.out)
      clear hb hA
      go_wp2_with fail
      go_ret
      exact ⟨by rw [HF.out]; rfl, HB.out⟩
theorem tgOf_no {T : Int} (h : T ≠ 129 ∧ T ≠ 130 ∧ T ≠ 135 ∧ T ≠ 164) : tgOf T = 4 := by
  unfold tgOf
  rw [if_neg h.1, if_neg h.2.1, if_neg h.2.2.2, if_neg h.2.2.1]
/-- A general name and an error number as a function hands them back. -/
def GRes (w : World) (G : Nat × Gn) (e : Ending) (w' : World) : Prop := ∃ s, e = .returned (.tuple #[.agg #[.int .i64 G.2.1, .string (strOf G.2.2.1), s], .int .i64 ((G.1 : Nat) : Int)]) ∧ OwnN w' w.heap.size s G.2.2.2 ∧ Below w.heap.size w w'
theorem gres_fin {w w9 : World} {r : Nat} {x y z : Value} {k : Int} {u : List UInt8} {aq : Option Addr} {cq : Nat} {n : Nm} {E : Nat} {R : Nat × Gn} (hrr : w.heap.size ≤ r) (h1 : w9.heap[r]? = some (.cells #[x, y, z] 32 (0, 0))) (h2 : OwnN w9 w.heap.size (.slice aq n.length cq) n) (h3 : Below w.heap.size w w9) (h4 : R = (E, (k, u, n))) :
    (((w9.setCell ⟨r, 0, none⟩ (.int .i64 k)).setCell ⟨r, 1, none⟩ (.string (strOf u))).setCell ⟨r, 2, none⟩ (.slice aq n.length cq)).heap[r]? = some (.cells #[.int .i64 k, .string (strOf u), .slice aq n.length cq] 32 (0, 0)) ∧
    GRes w R (.returned (.tuple #[.agg #[.int .i64 k, .string (strOf u), .slice aq n.length cq], .int .i64 ((E : Nat) : Int)])) (((w9.setCell ⟨r, 0, none⟩ (.int .i64 k)).setCell ⟨r, 1, none⟩ (.string (strOf u))).setCell ⟨r, 2, none⟩ (.slice aq n.length cq)) := by
  have hs := ((But.set r 0 w9 (.int .i64 k)).next (But.set r 1 _ (.string (strOf u)))).next (But.set r 2 _ (.slice aq n.length cq))
  subst h4
  exact ⟨at_set h1, _, rfl, h2.apart h1 (by decide) (by decide) hs, h3.trans ((hs.below (Nat.le_of_lt (Array.getElem?_eq_some_iff.1 h1).1)).mono hrr)⟩
/-- What an element says, before Check. -/
noncomputable def prtD (T : Int) (ct : ByteArray) : Nat × Gn := if tgOf T = 4 then (5, noG) else if tgOf T = 2 then ((decN ct).1, (4, [], (decN ct).2)) else (0, (T - 128, ct.data.toList, []))
theorem prtD_small {T : Int} {ct : ByteArray} (h : ct.size ≤ 150000) : (prtD T ct).2.2.1.length ≤ 150000 ∧ SmallN (prtD T ct).2.2.2 := by
  have h0 : SmallN [] := ⟨by decide, fun i hi => absurd hi (Nat.not_lt_zero _)⟩
  unfold prtD
  split
  · exact ⟨by decide, h0⟩
  · split
    · exact ⟨Nat.zero_le _, decN_small (by omega)⟩
    · exact ⟨h, h0⟩
/-- The answer out of a first error, a general name and a second error. -/
def genC (E0 : Nat) (g : Gn) (E1 : Nat) : Nat × Gn := if E0 ≠ 0 then (E0, noG) else if E1 ≠ 0 then (E1, noG) else (0, g)
theorem decG_txt {con : Bool} {k T : Int} {ct : ByteArray} (e : prtD T ct = (0, (k, ct.data.toList, []))) (e2 : decG con T ct = if chkG con k ct.data.toList [] = 0 then (0, (k, ct.data.toList, [])) else (chkG con k ct.data.toList [], noG)) : decG con T ct = genC (prtD T ct).1 (prtD T ct).2 (chkG con (prtD T ct).2.1 (prtD T ct).2.2.1 (prtD T ct).2.2.2) := by
  rw [e, e2]
  show _ = genC 0 (k, ct.data.toList, []) (chkG con k ct.data.toList [])
  unfold genC
  rw [if_neg (show ¬ (0 : Nat) ≠ 0 by simp)]
  by_cases h : chkG con k ct.data.toList [] = 0
  · rw [if_pos h, if_neg (fun q => q h)]
  · rw [if_neg h, if_pos h]
theorem decG_tail (con : Bool) (T : Int) (ct : ByteArray) : decG con T ct = genC (prtD T ct).1 (prtD T ct).2 (chkG con (prtD T ct).2.1 (prtD T ct).2.2.1 (prtD T ct).2.2.2) := by
  rcases tag_or T with rfl | rfl | rfl | rfl | h
  · exact decG_txt rfl (by unfold decG; rw [if_pos (by decide)])
  · exact decG_txt rfl (by unfold decG; rw [if_pos (by decide)])
  · exact decG_txt rfl (by unfold decG; rw [if_pos (by decide)])
  · have e : prtD 164 ct = ((decN ct).1, (4, [], (decN ct).2)) := rfl
    rw [e]; unfold decG genC
    rw [if_neg (by decide), if_pos rfl]
    by_cases h : (decN ct).1 = 0
    · have hz : chkN (decN ct).2 = 0 := (enc_dec (b := ct) (n := (decN ct).2) (by rw [← h])).1
      rw [if_pos h, if_neg (fun q => q h), if_neg]
      show ¬ chkG con 4 [] (decN ct).2 ≠ 0
      rw [chkG_dir, if_pos rfl, hz]; simp
    · rw [if_neg h, if_pos h]
  · have e : prtD T ct = (5, noG) := by unfold prtD; rw [if_pos (tgOf_no h)]
    rw [e]; unfold decG genC
    rw [if_neg (by omega), if_neg h.2.2.2, if_pos (by decide)]
set_option maxRecDepth 100000 in
set_option maxHeartbeats 8000000 in
theorem parts_dec (T : Int) (ct raw : ByteArray) (w : World) (hc : ct.size ≤ 150000) (hT : Tab w) (hP : Pow10 w) (hmk : Mk w) :
    Calls Tryz.prog 41 #[.agg #[.int .i64 T, .string ct, .string raw]] w fun e w' => GRes w (prtD T ct) e w' := by
  obtain ⟨W0, hW0⟩ : ∃ W0, W0 = (w.alloc (.cells #[.int .i64 T, .string ct, .string raw] 23)).alloc (.cells #[.int .i64 0, .string ⟨#[]⟩, .slice none 0 0] 32) := ⟨_, rfl⟩
  have hb0 : Below w.heap.size w W0 := by rw [hW0]; exact belowTwo w _ _
  obtain ⟨r, hr⟩ : ∃ r, r = w.heap.size + 1 := ⟨_, rfl⟩
  have hqe : W0.heap[w.heap.size]? = some (.cells #[.int .i64 T, .string ct, .string raw] 23 (0, 0)) := by
    rw [hW0]; exact ((belowNew _ _).block _ (by simp)).trans (heap_alloc_new w _)
  have hqr : W0.heap[r]? = some (.cells #[.int .i64 0, .string ⟨#[]⟩, .slice none 0 0] 32 (0, 0)) := by
    have h1 := heap_alloc_new (w.alloc (.cells #[.int .i64 T, .string ct, .string raw] 23)) (.cells #[.int .i64 0, .string ⟨#[]⟩, .slice none 0 0] 32)
    rw [show (w.alloc (.cells #[.int .i64 T, .string ct, .string raw] 23)).heap.size = r by rw [hr]; simp] at h1
    rw [hW0]; exact h1
  obtain ⟨c0, c1, c2, l0⟩ := three_facts hqe
  have HWR := Lib.hid hW0.symm
  have HB0 := Lib.hid hb0
  have HQE := Lib.hid hqe
  have HQR := Lib.hid hqr
  have hrr : w.heap.size ≤ r := by omega
  have HRE := Lib.hid hr
  have lr : r < W0.heap.size := (Array.getElem?_eq_some_iff.1 hqr).1
  have HK := Lib.hid (gtag_any T W0 (hmk.below hb0).2)
  have HD := Lib.hid (fun W (hb : Below w.heap.size w W) => decode_nm ct W (by omega) (hT.below hb) (hP.below hb))
  have HKC := Lib.hid (fun W (hb : Below w.heap.size w W) => (hmk.below hb).2.cells)
  obtain ⟨R, hR⟩ : ∃ R, R = prtD T ct := ⟨_, rfl⟩
  rw [← hR]
  have HR := Lib.hid hR
  have HSC := Lib.hid (strOf_of (b := ct) rfl)
  clear hW0 hb0 hqe hqr hc hr hR hT hP hmk
  rcases tag_or T with rfl | rfl | rfl | rfl | hT
  · have HV := Lib.hid (show R = (0, (1, ct.data.toList, [])) by rw [HR.out]; rfl)
    rw [show ((tgOf 129 : Nat) : Int) = 0 from rfl] at HK
    go_enter Tryz.func41, Tryz.ntmps41
    go_upto_region 1 with fail
    rw [HWR.out, ← HRE.out]
    go_upto_region 8 with (go_at_call 80; (with_reducible refine HK.out.mono ?_); rintro e w1 ⟨rfl, hb1⟩; have HB1 := Lib.hid (below_next HB0.out hb1); have d1 := (hb1.cell (p := ⟨w.heap.size, 1, none⟩) l0).trans c1; have HR1 := Lib.hid ((hb1.block r lr).trans HQR.out); obtain ⟨v0, v1, v2, i0, i1, i2, lv⟩ := at_facts HR1.out; obtain ⟨k0, k1, k2, k3, k4, k5, k6, k7, k8, k9, k10, k11⟩ := HKC.out _ HB1.out; clear hb1)
    go_region
    obtain ⟨q1, s9, e9, h9, b9⟩ := gres_fin (k := 1) (u := ct.data.toList) (aq := none) (cq := 0) (n := []) hrr HR1.out (OwnN.nil _ _) HB1.out HV.out
    rw [← HSC.out] at q1 e9 h9 b9
    go_wp2_with fail
    exact bodyPost_ret (gnRes2 rfl _ _ r _ _ _ rfl q1) rfl ⟨s9, by rw [← e9]; rfl, h9, b9.drew⟩
  · have HV := Lib.hid (show R = (0, (2, ct.data.toList, [])) by rw [HR.out]; rfl)
    rw [show ((tgOf 130 : Nat) : Int) = 1 from rfl] at HK
    go_enter Tryz.func41, Tryz.ntmps41
    go_upto_region 1 with fail
    rw [HWR.out, ← HRE.out]
    go_upto_region 8 with (go_at_call 80; (with_reducible refine HK.out.mono ?_); rintro e w1 ⟨rfl, hb1⟩; have HB1 := Lib.hid (below_next HB0.out hb1); have d1 := (hb1.cell (p := ⟨w.heap.size, 1, none⟩) l0).trans c1; have HR1 := Lib.hid ((hb1.block r lr).trans HQR.out); obtain ⟨v0, v1, v2, i0, i1, i2, lv⟩ := at_facts HR1.out; obtain ⟨k0, k1, k2, k3, k4, k5, k6, k7, k8, k9, k10, k11⟩ := HKC.out _ HB1.out; clear hb1)
    go_region
    obtain ⟨q1, s9, e9, h9, b9⟩ := gres_fin (k := 2) (u := ct.data.toList) (aq := none) (cq := 0) (n := []) hrr HR1.out (OwnN.nil _ _) HB1.out HV.out
    rw [← HSC.out] at q1 e9 h9 b9
    go_wp2_with fail
    exact bodyPost_ret (gnRes2 rfl _ _ r _ _ _ rfl q1) rfl ⟨s9, by rw [← e9]; rfl, h9, b9.drew⟩
  · have HV := Lib.hid (show R = (0, (7, ct.data.toList, [])) by rw [HR.out]; rfl)
    rw [show ((tgOf 135 : Nat) : Int) = 3 from rfl] at HK
    go_enter Tryz.func41, Tryz.ntmps41
    go_upto_region 1 with fail
    rw [HWR.out, ← HRE.out]
    go_upto_region 8 with (go_at_call 80; (with_reducible refine HK.out.mono ?_); rintro e w1 ⟨rfl, hb1⟩; have HB1 := Lib.hid (below_next HB0.out hb1); have d1 := (hb1.cell (p := ⟨w.heap.size, 1, none⟩) l0).trans c1; have HR1 := Lib.hid ((hb1.block r lr).trans HQR.out); obtain ⟨v0, v1, v2, i0, i1, i2, lv⟩ := at_facts HR1.out; obtain ⟨k0, k1, k2, k3, k4, k5, k6, k7, k8, k9, k10, k11⟩ := HKC.out _ HB1.out; clear hb1)
    go_region
    obtain ⟨q1, s9, e9, h9, b9⟩ := gres_fin (k := 7) (u := ct.data.toList) (aq := none) (cq := 0) (n := []) hrr HR1.out (OwnN.nil _ _) HB1.out HV.out
    rw [← HSC.out] at q1 e9 h9 b9
    go_wp2_with fail
    exact bodyPost_ret (gnRes2 rfl _ _ r _ _ _ rfl q1) rfl ⟨s9, by rw [← e9]; rfl, h9, b9.drew⟩
  · have HV := Lib.hid (show R = ((decN ct).1, (4, [], (decN ct).2)) by rw [HR.out]; rfl)
    rw [show ((tgOf 164 : Nat) : Int) = 2 from rfl] at HK
    generalize decN ct = G at HD HV
    obtain ⟨E, n⟩ := G
    go_enter Tryz.func41, Tryz.ntmps41
    go_upto_region 1 with fail
    rw [HWR.out, ← HRE.out]
    go_upto_region 7 with (first
      | (go_at_call 80; (with_reducible refine HK.out.mono ?_); rintro e w1 ⟨rfl, hb1⟩; have HB1 := Lib.hid (below_next HB0.out hb1); have d1 := (hb1.cell (p := ⟨w.heap.size, 1, none⟩) l0).trans c1; have HR1 := Lib.hid ((hb1.block r lr).trans HQR.out); obtain ⟨v0, v1, v2, i0, i1, i2, lv⟩ := at_facts HR1.out; obtain ⟨k0, k1, k2, k3, k4, k5, k6, k7, k8, k9, k10, k11⟩ := HKC.out _ HB1.out; clear hb1)
      | (go_at_call 81; (with_reducible refine (HD.out _ HB1.out).mono ?_); rintro e w2 ⟨v, rfl, ⟨s, rfl, hso⟩, hb2⟩; obtain ⟨aq, cq, rfl, hcs, hrl⟩ := hso.lies; have HB2 := Lib.hid (below_next HB1.out hb2); have HR2 := Lib.hid ((hb2.block r lv).trans HR1.out); have HO2 := Lib.hid (hso.base HB1.out.size); clear hcs hrl hso hb2 v0 v1 v2 i0 i1 i2))
    obtain ⟨W3, hW3⟩ : ∃ W3, W3 = w2.alloc (.cells #[.slice aq n.length cq] 30) := ⟨_, rfl⟩
    have hb3 : Below w2.heap.size w2 W3 := by rw [hW3]; exact belowNew w2 _
    have hq3 : W3.heap[w2.heap.size]? = some (.cells #[.slice aq n.length cq] 30 (0, 0)) := by rw [hW3]; exact heap_alloc_new w2 _
    rw [← hW3]
    have hr3 := (hb3.block r (Array.getElem?_eq_some_iff.1 HR2.out).1).trans HR2.out
    obtain ⟨v0, v1, v2, i0, i1, i2, _⟩ := at_facts hr3
    obtain ⟨n0, _, _⟩ := one_facts hq3
    obtain ⟨q1, s9, e9, h9, b9⟩ := gres_fin (k := 4) (u := []) hrr hr3 (HO2.out.below hb3) (below_next HB2.out hb3) HV.out
    clear hb3 hq3 hW3 hr3 k0 k1 k2 k3 k4 k5 k6 k7 k8 k9 k10 k11 c0 c1 c2 d1
    go_wp2_with fail
    exact bodyPost_ret (gnRes2 rfl _ _ r _ _ _ rfl q1) rfl ⟨s9, by rw [← e9]; rfl, h9, b9⟩
  · have HV := Lib.hid (show R = (5, noG) by rw [HR.out]; unfold prtD; rw [if_pos (tgOf_no hT)])
    rw [tgOf_no hT, show (((4 : Nat)) : Int) = 4 from rfl] at HK
    clear hT
    go_enter Tryz.func41, Tryz.ntmps41
    go_upto_region 1 with fail
    rw [HWR.out, ← HRE.out]
    go_wp2_with (go_at_call 80; (with_reducible refine HK.out.mono ?_); rintro e w1 ⟨rfl, hb1⟩; have HB1 := Lib.hid (below_next HB0.out hb1); have d1 := (hb1.cell (p := ⟨w.heap.size, 1, none⟩) l0).trans c1; have HR1 := Lib.hid ((hb1.block r lr).trans HQR.out); obtain ⟨v0, v1, v2, i0, i1, i2, lv⟩ := at_facts HR1.out; obtain ⟨k0, k1, k2, k3, k4, k5, k6, k7, k8, k9, k10, k11⟩ := HKC.out _ HB1.out; clear hb1)
    obtain ⟨q1, s9, e9, h9, b9⟩ := gres_fin (k := 0) (u := []) (aq := none) (cq := 0) (n := []) hrr HR1.out (OwnN.nil _ _) HB1.out HV.out
    exact bodyPost_ret (gnRes2 rfl _ _ r _ _ _ rfl q1) rfl ⟨s9, by rw [← e9]; rfl, h9, b9⟩
theorem genC_a {E0 E1 : Nat} {g : Gn} (h : E0 ≠ 0) : genC E0 g E1 = (E0, noG) := if_pos h
theorem genC_b {E1 : Nat} {g : Gn} (h : E1 ≠ 0) : genC 0 g E1 = (E1, noG) := by unfold genC; rw [if_neg (by simp), if_pos h]
theorem genC_c {g : Gn} : genC 0 g 0 = (0, g) := by unfold genC; rw [if_neg (by simp), if_neg (by simp)]
set_option maxRecDepth 100000 in
set_option maxHeartbeats 8000000 in
theorem gdec_core (T : Int) (ct raw : ByteArray) (con : Bool) (w : World) (hc : ct.size ≤ 150000) (hT : Tab w) (hP : Pow10 w) (hmk : Mk w) :
    Calls Tryz.prog 15 #[.agg #[.int .i64 T, .string ct, .string raw], .bool con] w fun e w' => GRes w (decG con T ct) e w' := by
  obtain ⟨W0, hW0⟩ : ∃ W0, W0 = (w.alloc (.cells #[.int .i64 T, .string ct, .string raw] 23)).alloc (.cells #[.int .i64 0, .string ⟨#[]⟩, .slice none 0 0] 32) := ⟨_, rfl⟩
  have hb0 : Below w.heap.size w W0 := by rw [hW0]; exact belowTwo w _ _
  obtain ⟨r, hr⟩ : ∃ r, r = w.heap.size + 1 := ⟨_, rfl⟩
  have hqe : W0.heap[w.heap.size]? = some (.cells #[.int .i64 T, .string ct, .string raw] 23 (0, 0)) := by
    rw [hW0]; exact ((belowNew _ _).block _ (by simp)).trans (heap_alloc_new w _)
  have hqr : W0.heap[r]? = some (.cells #[.int .i64 0, .string ⟨#[]⟩, .slice none 0 0] 32 (0, 0)) := by
    have h1 := heap_alloc_new (w.alloc (.cells #[.int .i64 T, .string ct, .string raw] 23)) (.cells #[.int .i64 0, .string ⟨#[]⟩, .slice none 0 0] 32)
    rw [show (w.alloc (.cells #[.int .i64 T, .string ct, .string raw] 23)).heap.size = r by rw [hr]; simp] at h1
    rw [hW0]; exact h1
  obtain ⟨c0, c1, c2, l0⟩ := three_facts hqe
  have HWR := Lib.hid hW0.symm
  have HB0 := Lib.hid hb0
  have HQE := Lib.hid hqe
  have HQR := Lib.hid hqr
  have hrr : w.heap.size ≤ r := by omega
  have HRE := Lib.hid hr
  have lr : r < W0.heap.size := (Array.getElem?_eq_some_iff.1 hqr).1
  have HD := Lib.hid (parts_dec T ct raw W0 hc (hT.below hb0) (hP.below hb0) (hmk.below hb0))
  have HCH := Lib.hid (fun W (hb : Below w.heap.size w W) aq cq (k : Int) (u : List UInt8) (n : Nm) (h : RLies W aq n) (hu : u.length ≤ 150000) (hs : SmallN n) => gchk_core aq cq n.length k u n con W h rfl hu hs (hT.below hb) (hmk.below hb))
  obtain ⟨R, hR⟩ : ∃ R, R = decG con T ct := ⟨_, rfl⟩
  rw [← hR]
  have hR2 := hR.trans (decG_tail con T ct)
  have hsm := prtD_small (T := T) hc
  generalize prtD T ct = P at HD hR2 hsm
  obtain ⟨E, k, u, n⟩ := P
  simp only at hR2 hsm
  have HSM := Lib.hid hsm
  have HR := Lib.hid hR2
  clear hW0 hb0 hqe hqr hc hr hR hT hP hmk hR2 hsm
  go_enter Tryz.func15, Tryz.ntmps15
  go_upto_region 1 with fail
  rw [HWR.out, ← HRE.out]
  go_upto_region 2 with (go_at_call 41; (with_reducible refine HD.out.mono ?_); rintro e w1 ⟨s, rfl, hso, hb1⟩; obtain ⟨aq, cq, rfl, hcs, hrl⟩ := hso.lies; have HB1 := Lib.hid (below_next HB0.out hb1); have HR1 := Lib.hid ((hb1.block r lr).trans HQR.out); have HO1 := Lib.hid (hso.base HB0.out.size); have HL1 := Lib.hid hrl; clear hcs hrl hso hb1)
  obtain ⟨W2, hW2⟩ : ∃ W2, W2 = w1.alloc (.cells #[.int .i64 k, .string (strOf u), .slice aq n.length cq] 32) := ⟨_, rfl⟩
  obtain ⟨g, hg⟩ : ∃ g, g = w1.heap.size := ⟨_, rfl⟩
  have hb2 : Below w1.heap.size w1 W2 := by rw [hW2]; exact belowNew w1 _
  have hq2 : W2.heap[g]? = some (.cells #[.int .i64 k, .string (strOf u), .slice aq n.length cq] 32 (0, 0)) := by rw [hW2, hg]; exact heap_alloc_new w1 _
  rw [← hW2, ← hg]
  have hr2 := (hb2.block r (Array.getElem?_eq_some_iff.1 HR1.out).1).trans HR1.out
  have hrg : r < g := by rw [hg]; exact (Array.getElem?_eq_some_iff.1 HR1.out).1
  obtain ⟨v0, v1, v2, i0, i1, i2, lv⟩ := at_facts hr2
  obtain ⟨g0, g1, g2, _, _, _, lg⟩ := at_facts hq2
  have HB2 := Lib.hid (below_next HB1.out hb2)
  have HG2 := Lib.hid hq2
  have HR2 := Lib.hid hr2
  have HO2 := Lib.hid (HO1.out.below hb2)
  have HL2 := Lib.hid (HL1.out.below hb2)
  clear hW2 hg hb2 hq2 hr2
  by_cases hz : E = 0
  · subst hz
    have HK := Lib.hid (HCH.out W2 HB2.out aq cq k u n HL2.out HSM.out.1 HSM.out.2)
    clear HCH
    generalize chkG con k u n = E1 at HK HR
    by_cases hz1 : E1 = 0
    · subst hz1
      have HV := Lib.hid (HR.out.trans genC_c)
      go_wp2_with (go_at_call 42; (with_reducible refine HK.out.mono ?_); rintro e w3 ⟨rfl, hb3⟩; have HB3 := Lib.hid (below_next HB2.out hb3); have HR3 := Lib.hid ((hb3.block r lv).trans HR2.out); have HG3 := Lib.hid ((hb3.block g lg).trans HG2.out); have HO3 := Lib.hid (HO2.out.below hb3); clear hb3 v0 v1 v2 i0 i1 i2 lv g0 g1 g2 lg; obtain ⟨v0, v1, v2, i0, i1, i2, lv⟩ := at_facts HR3.out; obtain ⟨g0, g1, g2, _, _, _, lg⟩ := at_facts HG3.out)
      obtain ⟨q1, s9, e9, h9, b9⟩ := gres_fin hrr HR3.out HO3.out HB3.out HV.out
      exact bodyPost_ret (gnRes2 rfl _ _ r _ _ _ rfl q1) rfl ⟨s9, by rw [← e9]; rfl, h9, b9⟩
    · have hz2 := errno_ne hz1
      have HV := Lib.hid (HR.out.trans (genC_b hz1))
      clear hz1
      go_wp2_with (go_at_call 42; (with_reducible refine HK.out.mono ?_); rintro e w3 ⟨rfl, hb3⟩; have HB3 := Lib.hid (below_next HB2.out hb3); have HR3 := Lib.hid ((hb3.block r lv).trans HR2.out); clear hb3 v0 v1 v2 i0 i1 i2 lv g0 g1 g2 lg; obtain ⟨v0, v1, v2, i0, i1, i2, lv⟩ := at_facts HR3.out)
      obtain ⟨q1, s9, e9, h9, b9⟩ := gres_fin (k := 0) (u := []) (aq := none) (cq := 0) (n := []) hrr HR3.out (OwnN.nil _ _) HB3.out HV.out
      exact bodyPost_ret (gnRes2 rfl _ _ r _ _ _ rfl q1) rfl ⟨s9, by rw [← e9]; rfl, h9, b9⟩
  · have hz2 := errno_ne hz
    have HV := Lib.hid (HR.out.trans (genC_a hz))
    clear hz HCH
    go_wp2_with fail
    obtain ⟨q1, s9, e9, h9, b9⟩ := gres_fin (k := 0) (u := []) (aq := none) (cq := 0) (n := []) hrr HR2.out (OwnN.nil _ _) HB2.out HV.out
    exact bodyPost_ret (gnRes2 rfl _ _ r _ _ _ rfl q1) rfl ⟨s9, by rw [← e9]; rfl, h9, b9⟩
end Go.Proofs.YtflpajbcomhkpaaGreatDoor
namespace Go.Proofs.YtflpajbcomhkpaaGreatDoor
open Go.RowKit

end Go.Proofs.YtflpajbcomhkpaaGreatDoor
namespace Go.Proofs.YtflpajbcomhkpaaGreatDoor
open Go.RowKit

set_option maxRecDepth 100000 in
set_option maxHeartbeats 1000000 in
theorem hex_any (s : ByteArray) (w : World) (hn : s.size ≤ 1099511627776) :
    Calls Tryz.prog 90 #[.string s] w fun e w' => e = .returned (.string ⟨(hexL s.data.toList).toArray⟩) ∧ Below w.heap.size w w' := by
  obtain ⟨i0, hi, hz0, hz1, hz2⟩ := info_parts byteInfo
  go_enter Tryz.func90, Tryz.ntmps90
  go_wp2_with (at_make; refine wpList_make_own _ rfl _ _ 55 rfl w.heap.size 5 i0 (.int .u8 0) 1 Tryz.underlying55 hi hz0 hz1 .i64 .i64 (2 * (s.size : Int)) (2 * s.size) rfl rfl (by omega) (by rw [hz2]; omega) (by unfold maxLen; omega) (Nat.le_refl _) ?_; intro w1 hown1 hgr1; have HO1 := Lib.hid hown1; have HG1 := Lib.hid hgr1; clear hown1 hgr1)
  go_loopw [3, 11] (fun v i wr => ∃ k : Nat, k ≤ s.size ∧ i = .int .i64 k ∧ OwnB 5 wr w.heap.size v (hexL (s.data.toList.take k)) ∧ Below w.heap.size w wr) (fun _ i _ => s.size - (intOf i).toNat)
  case atStart => exact ⟨0, Nat.zero_le _, rfl, HO1.out, (Below.refl _ _).grown HG1.out (Nat.le_refl _) (fun _ e => by cases e)⟩
  case round =>
    obtain ⟨k, hk, rfl, hown, hb⟩ := hrel
    have HO := Lib.hid hown
    have HB := Lib.hid hb
    clear hown hb
    by_cases hlt : k < s.size
    · have hd : decide ((k : Int) < (s.size : Int)) = true := by simp; omega
      obtain ⟨b, hbk⟩ : ∃ b, s[k] = b := ⟨_, rfl⟩
      obtain ⟨x, hx⟩ : ∃ x, x = b.toNat / 16 := ⟨_, rfl⟩
      obtain ⟨y, hy⟩ : ∃ y, y = b.toNat % 16 := ⟨_, rfl⟩
      have hq : ((b.toNat : Nat) : Int) / 16 = (x : Int) := by rw [hx]; rfl
      have hr : bits BinOp.and .u8 ((b.toNat : Nat) : Int) 15 = (y : Int) := by
        have := u8_and_nat b.toNat 15 b.toNat_lt (by omega)
        rw [nat_mask4] at this
        rw [hy]; exact this
      have h1 := digit_at x (by have := b.toNat_lt; omega)
      have h2 := digit_at y (by omega)
      have HX := Lib.hid hx
      have HY := Lib.hid hy
      clear hx hy
      go_wp2_with fail
      have hlen : (hexL (s.data.toList.take k)).length = 2 * k := by
        rw [hexL_length, List.length_take]
        have : s.data.toList.length = s.size := rfl
        omega
      have HLN := Lib.hid hlen
      clear hlen
      have hsb := HB.out.size
      go_region_law (refine step_append_own rfl (.tmp 14) (.tmp 25) 55 rfl w.heap.size 5 i0 (.int .u8 0) 1 Tryz.underlying55 hi hz0 hz1 hz2 rfl _ _ _ rfl ((HO.out.alloc _).drew) ⟨wr.heap.size, 0, none⟩ 2 2 [bcell (hexDigit x), bcell (hexDigit y)] rfl rfl (news_row wr #[bcell (hexDigit x), bcell (hexDigit y)] 5) (bcells_one [hexDigit x, hexDigit y]) (by rw [HLN.out]; unfold maxLen; omega) (by rw [HLN.out]; omega) (by simp; omega) ?_; intro v' w2 hown2 hgr2 _)
      all_goals
        have e1 : s.data.toList.take (k + 1) = s.data.toList.take k ++ [b] := by
          rw [List.take_succ_eq_append_getElem (by exact hlt)]
          congr 2
        have e2 : hexL (s.data.toList.take (k + 1)) = hexL (s.data.toList.take k) ++ [hexDigit x, hexDigit y] := by rw [e1, hexL_snoc, HX.out, HY.out]
        have hl2 : (hexL (s.data.toList.take (k + 1))).length = (hexL (s.data.toList.take k)).length + 2 := by rw [e2, List.length_append]; rfl
        have ho : OwnB 5 w2 w.heap.size v' (hexL (s.data.toList.take (k + 1))) := by
          unfold OwnB
          rw [hl2, e2, List.map_append]; exact hown2
        have hb2 : Below w.heap.size w w2 := OwnB.grown ((HO.out.alloc (.cells #[bcell (hexDigit x), bcell (hexDigit y)] 5)).drew) (Below.drew (Below.alloc HB.out hsb _)) hgr2 (by simp; omega) (Nat.le_refl _)
        have HO2 := Lib.hid ho
        have HB2 := Lib.hid hb2
        clear hown2 hgr2 e1 e2 hl2 ho hb2
        go_wp2_with fail
        go_roundw
        case rel => exact ⟨k + 1, by omega, by go_num, HO2.out, HB2.out⟩
        case measure => simp [intOf]; omega
    · have hconv := run_convert_own (P := Tryz.prog) (src := 55) (dst := 9) Tryz.underlying55 Tryz.underlying5 Tryz.underlying9 HO.out
      go_wp2_with fail
      go_ret
      refine ⟨?_, HB.out⟩
      have e : s.data.toList.take k = s.data.toList := List.take_of_length_le (by show s.size ≤ k; omega)
      rw [e]; rfl
set_option maxHeartbeats 400000 in
theorem digit_any (c : UInt8) (w : World) :
    Calls Tryz.prog 139 #[.int .u8 ((c.toNat : Nat) : Int)] w fun e w' => e = .returned (.tuple #[.int .u8 (((digV c.toNat).getD 0 : Nat) : Int), .bool (digV c.toNat).isSome]) ∧ w = w' := by
  obtain ⟨n, hn⟩ : ∃ n, n = c.toNat := ⟨_, rfl⟩
  have hlt : n < 256 := by rw [hn]; exact c.toNat_lt
  rw [← hn]
  clear hn
  obtain ⟨V, hV⟩ : ∃ V, V = digV n := ⟨_, rfl⟩
  rw [← hV]
  have HV := Lib.hid hV
  clear hV
  by_cases h1 : 48 ≤ n
  · have d1 : decide ((48 : Int) ≤ (n : Int)) = true := by simp; omega
    by_cases h2 : n ≤ 57
    · have d2 : decide ((n : Int) ≤ (57 : Int)) = true := by simp; omega
      go_enter Tryz.func139, Tryz.ntmps139
      go_wp2_with fail
      go_ret2
      rw [HV.out, digV_low ⟨h1, h2⟩]
      refine ⟨?_, rfl⟩
      show Ending.returned (.tuple #[.int .u8 ((n : Int) - 48), .bool true]) = Ending.returned (.tuple #[.int .u8 ((n - 48 : Nat) : Int), .bool true])
      rw [show (n : Int) - 48 = ((n - 48 : Nat) : Int) by omega]
    · have d2 : decide ((n : Int) ≤ (57 : Int)) = false := by simp; omega
      by_cases h3 : 97 ≤ n
      · have d3 : decide ((97 : Int) ≤ (n : Int)) = true := by simp; omega
        by_cases h4 : n ≤ 102
        · have d4 : decide ((n : Int) ≤ (102 : Int)) = true := by simp; omega
          go_enter Tryz.func139, Tryz.ntmps139
          go_wp2_with fail
          go_ret2
          rw [HV.out, digV_high ⟨h3, h4⟩]
          refine ⟨?_, rfl⟩
          show Ending.returned (.tuple #[.int .u8 ((n : Int) - 97 + 10), .bool true]) = Ending.returned (.tuple #[.int .u8 ((n - 87 : Nat) : Int), .bool true])
          rw [show (n : Int) - 97 + 10 = ((n - 87 : Nat) : Int) by omega]
        · have d4 : decide ((n : Int) ≤ (102 : Int)) = false := by simp; omega
          go_enter Tryz.func139, Tryz.ntmps139
          go_wp2_with fail
          go_ret2
          rw [HV.out, digV_no (by omega) (by omega)]
          exact ⟨rfl, rfl⟩
      · have d3 : decide ((97 : Int) ≤ (n : Int)) = false := by simp; omega
        go_enter Tryz.func139, Tryz.ntmps139
        go_wp2_with fail
        go_ret2
        rw [HV.out, digV_no (by omega) (by omega)]
        exact ⟨rfl, rfl⟩
  · have d1 : decide ((48 : Int) ≤ (n : Int)) = false := by simp; omega
    have d3 : decide ((97 : Int) ≤ (n : Int)) = false := by simp; omega
    go_enter Tryz.func139, Tryz.ntmps139
    go_wp2_with fail
    go_ret2
    rw [HV.out, digV_no (by omega) (by omega)]
    exact ⟨rfl, rfl⟩

theorem digit_some {c : UInt8} {v : Nat} (h : digV c.toNat = some v) (w : World) :
    Calls Tryz.prog 139 #[.int .u8 ((c.toNat : Nat) : Int)] w fun e w' => e = .returned (.tuple #[.int .u8 (v : Int), .bool true]) ∧ w = w' := by
  have := digit_any c w
  rwa [h] at this
theorem digit_none {c : UInt8} (h : digV c.toNat = none) (w : World) :
    Calls Tryz.prog 139 #[.int .u8 ((c.toNat : Nat) : Int)] w fun e w' => e = .returned (.tuple #[.int .u8 0, .bool false]) ∧ w = w' := by
  have := digit_any c w
  rwa [h] at this
set_option maxRecDepth 100000 in
theorem or_digits8 : ∀ a : Nat, a < 16 → ∀ b : Nat, b < 16 → bits BinOp.or .u8 ((a : Int) * 16) (b : Int) = ((16 * a + b : Nat) : Int) := by decide

set_option maxRecDepth 100000 in
set_option maxHeartbeats 1000000 in
theorem unhex_any (s : ByteArray) (w : World) (hn : s.size ≤ 1099511627776) :
    Calls Tryz.prog 97 #[.string s] w fun e w' => ∃ u ok, e = .returned (.tuple #[.string u, .bool ok]) ∧ Unh s.data.toList u ok ∧ Below w.heap.size w w' := by
  obtain ⟨i0, hi, hz0, hz1, hz2⟩ := info_parts byteInfo
  have hsl : s.data.toList.length = s.size := rfl
  have HSL := Lib.hid hsl
  clear hsl
  by_cases hpar : s.size % 2 = 1
  · have hr : (s.size : Int) % 2 = 1 := by omega
    go_enter Tryz.func97, Tryz.ntmps97
    go_wp2_with fail
    go_ret2
    exact ⟨_, _, rfl, unh_odd (by rw [HSL.out]; exact hpar), Below.refl _ _⟩
  · have hr : (s.size : Int) % 2 = 0 := by omega
    have HP := Lib.hid (show s.size % 2 = 0 by omega)
    clear hpar
    go_enter Tryz.func97, Tryz.ntmps97
    go_wp2_with (at_make; refine wpList_make_own _ rfl _ _ 55 rfl w.heap.size 5 i0 (.int .u8 0) 1 Tryz.underlying55 hi hz0 hz1 .i64 .i64 ((s.size : Int) / 2) (s.size / 2) rfl rfl (by omega) (by rw [hz2]; omega) (by unfold maxLen; omega) (Nat.le_refl _) ?_; intro w1 hown1 hgr1; have HO1 := Lib.hid hown1; have HG1 := Lib.hid hgr1; clear hown1 hgr1)
    go_loopw [4, 5] (fun v i wr => ∃ (j : Nat) (D : List UInt8), j ≤ s.size ∧ j % 2 = 0 ∧ i = .int .i64 j ∧ hexL D = s.data.toList.take j ∧ OwnB 5 wr w.heap.size v D ∧ Below w.heap.size w wr) (fun _ i _ => s.size - (intOf i).toNat)
    case atStart => exact ⟨0, [], Nat.zero_le _, rfl, rfl, rfl, HO1.out, (Below.refl _ _).grown HG1.out (Nat.le_refl _) (fun _ e => by cases e)⟩
    case round =>
      obtain ⟨j, D, hj, hj2, rfl, hD, hown, hb⟩ := hrel
      have HO := Lib.hid hown
      have HB := Lib.hid hb
      have HD := Lib.hid hD
      have hDl : 2 * D.length = j := by
        have := congrArg List.length hD
        rw [hexL_length, List.length_take, HSL.out] at this; omega
      clear hown hb hD
      by_cases hlt : j < s.size
      · have hd : decide ((j : Int) < (s.size : Int)) = true := by simp; omega
        have hlt1 : j + 1 < s.size := by have := HP.out; omega
        obtain ⟨c0, hc0⟩ : ∃ c, s[j] = c := ⟨_, rfl⟩
        obtain ⟨c1, hc1⟩ : ∃ c, s[j + 1] = c := ⟨_, rfl⟩
        have x0 := fun w => run_index_at (P := Tryz.prog) Tryz.underlying9 s j c0 hlt hc0 (j : Int) rfl w
        have x1 := fun w => run_index_at (P := Tryz.prog) Tryz.underlying9 s (j + 1) c1 hlt1 hc1 ((j : Int) + 1) (by omega) w
        have m0 : c0 ∈ s.data.toList := by rw [← hc0]; exact List.getElem_mem (show j < s.data.toList.length from hlt)
        have m1 : c1 ∈ s.data.toList := by rw [← hc1]; exact List.getElem_mem (show j + 1 < s.data.toList.length from hlt1)
        have HC0 := Lib.hid hc0
        have HC1 := Lib.hid hc1
        have M0 := Lib.hid m0
        have M1 := Lib.hid m1
        clear hc0 hc1 m0 m1
        cases ha : digV c0.toNat with
        | none =>
          have HA := Lib.hid ha
          clear ha
          go_wp2_with (first | (go_at_call 139; (with_reducible refine (digit_none HA.out _).mono ?_); rintro e w2 ⟨rfl, rfl⟩) | (go_at_call 139; (with_reducible refine (digit_any c1 _).mono ?_); rintro e w2 ⟨rfl, rfl⟩))
          go_ret2
          exact ⟨_, _, rfl, unh_bad M0.out HA.out, HB.out⟩
        | some a =>
          have HA := Lib.hid ha
          clear ha
          cases hb : digV c1.toNat with
          | none =>
            have HBB := Lib.hid hb
            clear hb
            go_wp2_with (first | (go_at_call 139; (with_reducible refine (digit_some HA.out _).mono ?_); rintro e w2 ⟨rfl, rfl⟩) | (go_at_call 139; (with_reducible refine (digit_none HBB.out _).mono ?_); rintro e w2 ⟨rfl, rfl⟩))
            go_ret2
            exact ⟨_, _, rfl, unh_bad M1.out HBB.out, HB.out⟩
          | some b =>
            have HBB := Lib.hid hb
            have ha16 := (digV_some HA.out).1
            have hb16 := (digV_some hb).1
            clear hb
            obtain ⟨y, hy⟩ : ∃ y : UInt8, y = UInt8.ofNat (16 * a + b) := ⟨_, rfl⟩
            have hyn : y.toNat = 16 * a + b := by rw [hy]; simp; omega
            have hor : bits BinOp.or .u8 ((a : Int) * 16) (b : Int) = ((y.toNat : Nat) : Int) := by rw [hyn]; exact or_digits8 a ha16 b hb16
            have HY := Lib.hid hy
            clear hy hyn
            have hsb := HB.out.size
            go_wp2_with (first | (go_at_call 139; (with_reducible refine (digit_some HA.out _).mono ?_); rintro e w2 ⟨rfl, rfl⟩) | (go_at_call 139; (with_reducible refine (digit_some HBB.out _).mono ?_); rintro e w2 ⟨rfl, rfl⟩) | (at_builtin; (refine wpList_append_own _ rfl (.tmp 45) (.tmp 50) 55 rfl w.heap.size 5 i0 (.int .u8 0) 1 1 Tryz.underlying55 hi hz0 hz1 hz2 rfl (by decide) _ _ _ rfl (HO.out.alloc _) ⟨wr.heap.size, 0, none⟩ 1 1 [bcell y] rfl rfl (news_row wr #[bcell y] 5) (bcells_one [y]) (by unfold maxLen; omega) (by omega) (by simp; omega) ?_); intro v' w2 hown2 hgr2 _; obtain ⟨P1, P2⟩ := out_round HO.out HB.out hown2 hgr2; have HP1 := Lib.hid P1; have HP2 := Lib.hid P2; clear hown2 hgr2 P1 P2))
            go_roundw
            case rel => exact ⟨j + 2, D ++ [y], by omega, by omega, by go_num, by rw [HY.out]; exact unh_step (s := s.data.toList) hlt1 HD.out HC0.out HC1.out HA.out HBB.out, HP1.out, HP2.out⟩
            case measure => simp [intOf]; omega
      · have ej : j = s.size := by omega
        subst ej
        have hd : decide ((s.size : Int) < (s.size : Int)) = false := by simp
        have hconv := run_convert_own (P := Tryz.prog) (src := 55) (dst := 9) Tryz.underlying55 Tryz.underlying5 Tryz.underlying9 HO.out
        go_wp2_with fail
        go_ret2
        refine ⟨_, _, rfl, Or.inl ⟨rfl, ?_⟩, HB.out⟩
        show hexL D = s.data.toList
        rw [HD.out]
        exact List.take_of_length_le (by rw [HSL.out]; exact Nat.le_refl _)
end Go.Proofs.YtflpajbcomhkpaaGreatDoor
