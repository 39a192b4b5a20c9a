/-
  The contracts of gname's taggedKind, decodeParts and Decode: the general name of an element, or the error.
  The contract of the reference's EncodeGeneral: the element of a general name.
  The contracts of the reference's ExactGenerals, for two rows of the same general names, and of the law's short.
  The contracts of the reference's SameGeneral, MatchGeneral and WithinGeneral.
  What the laws over gname want of the program's functions, each said as a proposition; and that the law's awake then returns true.
  The walk of the law GnameCheck: for every general name and every slice of ints it returns true, and leaves all that was there as it was.
  How long encodings of made general names are, and the reference's One. Nothing is claimed of the program here but what One returns.
-/
import Derived.Test.YtflpajbcomhkpaaGreatDoorRay
import Derived.Test.YtflpajbcomhkpaaGreatDoorRbg
import Derived.Test.YtflpajbcomhkpaaGreatDoorRbd
import Derived.Test.YtflpajbcomhkpaaGreatDoorRau
import Derived.Test.YtflpajbcomhkpaaGreatDoorRaj
import Derived.Lib.QuietBelow
import Derived.BigQuiet
import Derived.Test.YtflpajbcomhkpaaGreatDoorRal
import Derived.Test.YtflpajbcomhkpaaGreatDoorRak
import Derived.Test.YtflpajbcomhkpaaGreatDoorRav
import Derived.Test.YtflpajbcomhkpaaGreatDoorRad
import Derived.Test.YtflpajbcomhkpaaGreatDoorRba
import Derived.Test.YtflpajbcomhkpaaGreatDoorRbf
import Derived.Deep.CutRange
import Derived.Deep.DeepCutAuto
import Derived.Deep.RegionWith
namespace Go.Proofs.YtflpajbcomhkpaaGreatDoor
open Go.RowKit

set_option maxRecDepth 100000 in
set_option maxHeartbeats 4000000 in
theorem gtag_any (T : Int) (w : World) (h : KdT w) :
    Calls Tryz.prog 80 #[.int .i64 T] w fun e w' => e = .returned (.int .i64 ((tgOf T : Nat) : Int)) ∧ Below w.heap.size w w' := by
  obtain ⟨c0, c1, c2, c3, c4, c5, c6, c7, c8, c9, c10, c11⟩ := h.cells
  obtain ⟨Z, hZ⟩ : ∃ Z, Z = tgOf T := ⟨_, rfl⟩
  have HZ := Lib.hid hZ
  rw [← hZ]
  clear h hZ
  go_enter Tryz.func80, Tryz.ntmps80
  go_wp2_with fail
  clear c0 c1 c2 c3 c4 c5 c6 c7 c8 c9 c10 c11
  go_loopw [6] (fun i wr => ∃ k : Nat, k ≤ 4 ∧ i = .int .i64 k ∧ (∀ j, j < k → kdG j ≠ T) ∧ Below w.heap.size w wr) (fun i _ => 4 - (intOf i).toNat)
  case atStart => exact ⟨0, by omega, rfl, fun j hj => absurd hj (Nat.not_lt_zero _), Below.refl _ _⟩
  case round =>
    obtain ⟨k, hk, rfl, hA, hb⟩ := hrel
    have HB := Lib.hid hb
    have HA := Lib.hid hA
    by_cases hlt : k < 4
    · have hd : decide ((k : Int) < 4) = true := by simp; omega
      have hix := index_kd k hlt
      obtain ⟨n, hn⟩ : ∃ n, n = kdG k := ⟨_, rfl⟩
      rw [← hn] at hix
      generalize kdN k = g at hix
      generalize kdW k = x at hix
      obtain ⟨W1, hW1⟩ : ∃ W1, W1 = wr.alloc (.cells #[.int .i64 g, .int .i64 n, .string x] 89) := ⟨_, rfl⟩
      have hwr1 : wr.alloc (.cells #[.int .i64 g, .int .i64 n, .string x] 89) = W1 := hW1.symm
      have hb1 : Below wr.heap.size wr W1 := by rw [hW1]; exact belowNew wr _
      have hq1 : W1.heap[wr.heap.size]? = some (.cells #[.int .i64 g, .int .i64 n, .string x] 89 (0, 0)) := by rw [hW1]; exact heap_alloc_new wr _
      obtain ⟨r0, r1, r2, l1⟩ := three_facts hq1
      have HB1 := Lib.hid (below_next hb hb1)
      clear hb hA hW1 hb1 hq1
      by_cases hx : n = T
      · have hbq : (n == T) = true := beq_iff_eq.2 hx
        have HF := Lib.hid (show Z = k by rw [HZ.out]; exact tg_hit k hlt (by rw [← hn]; exact hx))
        clear hn hx
        go_wp2_with fail
        go_ret
        exact ⟨by rw [HF.out]; rfl, HB1.out⟩
      · have hbq : (n == T) = false := beq_eq_false_iff_ne.2 hx
        have HF := Lib.hid (show ∀ j, j < k + 1 → kdG j ≠ T from fun j hj => by
          by_cases e : j = k
          · rw [e, ← hn]; exact hx
          · exact HA.out j (by omega))
        clear hn hx
        go_wp2_with fail
        go_roundw
        case rel => exact ⟨k + 1, by omega, by go_num, HF.out, HB1.out⟩
        case measure => simp [intOf]; omega
    · obtain rfl : k = 4 := by omega
      have hd : decide (((4 : Nat) : Int) < 4) = false := rfl
      have HF := Lib.hid (show Z = 4 by rw [HZ.out]; exact tg_miss HA.out)
      clear hb hA
      go_wp2_with fail
      go_ret
      exact ⟨by rw [HF.out]; rfl, HB.out⟩
theorem tgOf_no {T : Int} (h : T ≠ 129 ∧ T ≠ 130 ∧ T ≠ 135 ∧ T ≠ 164) : tgOf T = 4 := by
  unfold tgOf
  rw [if_neg h.1, if_neg h.2.1, if_neg h.2.2.2, if_neg h.2.2.1]
/-- A general name and an error number as a function hands them back. -/
def GRes (w : World) (G : Nat × Gn) (e : Ending) (w' : World) : Prop := ∃ s, e = .returned (.tuple #[.agg #[.int .i64 G.2.1, .string (strOf G.2.2.1), s], .int .i64 ((G.1 : Nat) : Int)]) ∧ OwnN w' w.heap.size s G.2.2.2 ∧ Below w.heap.size w w'
theorem gres_fin {w w9 : World} {r : Nat} {x y z : Value} {k : Int} {u : List UInt8} {aq : Option Addr} {cq : Nat} {n : Nm} {E : Nat} {R : Nat × Gn} (hrr : w.heap.size ≤ r) (h1 : w9.heap[r]? = some (.cells #[x, y, z] 32 (0, 0))) (h2 : OwnN w9 w.heap.size (.slice aq n.length cq) n) (h3 : Below w.heap.size w w9) (h4 : R = (E, (k, u, n))) :
    (((w9.setCell ⟨r, 0, none⟩ (.int .i64 k)).setCell ⟨r, 1, none⟩ (.string (strOf u))).setCell ⟨r, 2, none⟩ (.slice aq n.length cq)).heap[r]? = some (.cells #[.int .i64 k, .string (strOf u), .slice aq n.length cq] 32 (0, 0)) ∧
    GRes w R (.returned (.tuple #[.agg #[.int .i64 k, .string (strOf u), .slice aq n.length cq], .int .i64 ((E : Nat) : Int)])) (((w9.setCell ⟨r, 0, none⟩ (.int .i64 k)).setCell ⟨r, 1, none⟩ (.string (strOf u))).setCell ⟨r, 2, none⟩ (.slice aq n.length cq)) := by
  have hs := ((But.set r 0 w9 (.int .i64 k)).next (But.set r 1 _ (.string (strOf u)))).next (But.set r 2 _ (.slice aq n.length cq))
  subst h4
  exact ⟨at_set h1, _, rfl, h2.apart h1 (by decide) (by decide) hs, h3.trans ((hs.below (Nat.le_of_lt (Array.getElem?_eq_some_iff.1 h1).1)).mono hrr)⟩
/-- What an element says, before Check. -/
noncomputable def prtD (T : Int) (ct : ByteArray) : Nat × Gn := if tgOf T = 4 then (5, noG) else if tgOf T = 2 then ((decN ct).1, (4, [], (decN ct).2)) else (0, (T - 128, ct.data.toList, []))
theorem prtD_small {T : Int} {ct : ByteArray} (h : ct.size ≤ 150000) : (prtD T ct).2.2.1.length ≤ 150000 ∧ SmallN (prtD T ct).2.2.2 := by
  have h0 : SmallN [] := ⟨by decide, fun i hi => absurd hi (Nat.not_lt_zero _)⟩
  unfold prtD
  split
  · exact ⟨by decide, h0⟩
  · split
    · exact ⟨Nat.zero_le _, decN_small (by omega)⟩
    · exact ⟨h, h0⟩
/-- The answer out of a first error, a general name and a second error. -/
def genC (E0 : Nat) (g : Gn) (E1 : Nat) : Nat × Gn := if E0 ≠ 0 then (E0, noG) else if E1 ≠ 0 then (E1, noG) else (0, g)
theorem decG_txt {con : Bool} {k T : Int} {ct : ByteArray} (e : prtD T ct = (0, (k, ct.data.toList, []))) (e2 : decG con T ct = if chkG con k ct.data.toList [] = 0 then (0, (k, ct.data.toList, [])) else (chkG con k ct.data.toList [], noG)) : decG con T ct = genC (prtD T ct).1 (prtD T ct).2 (chkG con (prtD T ct).2.1 (prtD T ct).2.2.1 (prtD T ct).2.2.2) := by
  rw [e, e2]
  show _ = genC 0 (k, ct.data.toList, []) (chkG con k ct.data.toList [])
  unfold genC
  rw [if_neg (show ¬ (0 : Nat) ≠ 0 by simp)]
  by_cases h : chkG con k ct.data.toList [] = 0
  · rw [if_pos h, if_neg (fun q => q h)]
  · rw [if_neg h, if_pos h]
theorem decG_tail (con : Bool) (T : Int) (ct : ByteArray) : decG con T ct = genC (prtD T ct).1 (prtD T ct).2 (chkG con (prtD T ct).2.1 (prtD T ct).2.2.1 (prtD T ct).2.2.2) := by
  rcases tag_or T with rfl | rfl | rfl | rfl | h
  · exact decG_txt rfl (by unfold decG; rw [if_pos (by decide)])
  · exact decG_txt rfl (by unfold decG; rw [if_pos (by decide)])
  · exact decG_txt rfl (by unfold decG; rw [if_pos (by decide)])
  · have e : prtD 164 ct = ((decN ct).1, (4, [], (decN ct).2)) := rfl
    rw [e]; unfold decG genC
    rw [if_neg (by decide), if_pos rfl]
    by_cases h : (decN ct).1 = 0
    · have hz : chkN (decN ct).2 = 0 := (enc_dec (b := ct) (n := (decN ct).2) (by rw [← h])).1
      rw [if_pos h, if_neg (fun q => q h), if_neg]
      show ¬ chkG con 4 [] (decN ct).2 ≠ 0
      rw [chkG_dir, if_pos rfl, hz]; simp
    · rw [if_neg h, if_pos h]
  · have e : prtD T ct = (5, noG) := by unfold prtD; rw [if_pos (tgOf_no h)]
    rw [e]; unfold decG genC
    rw [if_neg (by omega), if_neg h.2.2.2, if_pos (by decide)]
set_option maxRecDepth 100000 in
set_option maxHeartbeats 8000000 in
theorem parts_dec (T : Int) (ct raw : ByteArray) (w : World) (hc : ct.size ≤ 150000) (hT : Tab w) (hP : Pow10 w) (hmk : Mk w) :
    Calls Tryz.prog 41 #[.agg #[.int .i64 T, .string ct, .string raw]] w fun e w' => GRes w (prtD T ct) e w' := by
  obtain ⟨W0, hW0⟩ : ∃ W0, W0 = (w.alloc (.cells #[.int .i64 T, .string ct, .string raw] 23)).alloc (.cells #[.int .i64 0, .string ⟨#[]⟩, .slice none 0 0] 32) := ⟨_, rfl⟩
  have hb0 : Below w.heap.size w W0 := by rw [hW0]; exact belowTwo w _ _
  obtain ⟨r, hr⟩ : ∃ r, r = w.heap.size + 1 := ⟨_, rfl⟩
  have hqe : W0.heap[w.heap.size]? = some (.cells #[.int .i64 T, .string ct, .string raw] 23 (0, 0)) := by
    rw [hW0]; exact ((belowNew _ _).block _ (by simp)).trans (heap_alloc_new w _)
  have hqr : W0.heap[r]? = some (.cells #[.int .i64 0, .string ⟨#[]⟩, .slice none 0 0] 32 (0, 0)) := by
    have h1 := heap_alloc_new (w.alloc (.cells #[.int .i64 T, .string ct, .string raw] 23)) (.cells #[.int .i64 0, .string ⟨#[]⟩, .slice none 0 0] 32)
    rw [show (w.alloc (.cells #[.int .i64 T, .string ct, .string raw] 23)).heap.size = r by rw [hr]; simp] at h1
    rw [hW0]; exact h1
  obtain ⟨c0, c1, c2, l0⟩ := three_facts hqe
  have HWR := Lib.hid hW0.symm
  have HB0 := Lib.hid hb0
  have HQE := Lib.hid hqe
  have HQR := Lib.hid hqr
  have hrr : w.heap.size ≤ r := by omega
  have HRE := Lib.hid hr
  have lr : r < W0.heap.size := (Array.getElem?_eq_some_iff.1 hqr).1
  have HK := Lib.hid (gtag_any T W0 (hmk.below hb0).2)
  have HD := Lib.hid (fun W (hb : Below w.heap.size w W) => decode_nm ct W (by omega) (hT.below hb) (hP.below hb))
  have HKC := Lib.hid (fun W (hb : Below w.heap.size w W) => (hmk.below hb).2.cells)
  obtain ⟨R, hR⟩ : ∃ R, R = prtD T ct := ⟨_, rfl⟩
  rw [← hR]
  have HR := Lib.hid hR
  have HSC := Lib.hid (strOf_of (b := ct) rfl)
  clear hW0 hb0 hqe hqr hc hr hR hT hP hmk
  rcases tag_or T with rfl | rfl | rfl | rfl | hT
  · have HV := Lib.hid (show R = (0, (1, ct.data.toList, [])) by rw [HR.out]; rfl)
    rw [show ((tgOf 129 : Nat) : Int) = 0 from rfl] at HK
    go_enter Tryz.func41, Tryz.ntmps41
    go_upto_region 1 with fail
    rw [HWR.out, ← HRE.out]
    go_upto_region 8 with (go_at_call 80; (with_reducible refine HK.out.mono ?_); rintro e w1 ⟨rfl, hb1⟩; have HB1 := Lib.hid (below_next HB0.out hb1); have d1 := (hb1.cell (p := ⟨w.heap.size, 1, none⟩) l0).trans c1; have HR1 := Lib.hid ((hb1.block r lr).trans HQR.out); obtain ⟨v0, v1, v2, i0, i1, i2, lv⟩ := at_facts HR1.out; obtain ⟨k0, k1, k2, k3, k4, k5, k6, k7, k8, k9, k10, k11⟩ := HKC.out _ HB1.out; clear hb1)
    go_region
    obtain ⟨q1, s9, e9, h9, b9⟩ := gres_fin (k := 1) (u := ct.data.toList) (aq := none) (cq := 0) (n := []) hrr HR1.out (OwnN.nil _ _) HB1.out HV.out
    rw [← HSC.out] at q1 e9 h9 b9
    go_wp2_with fail
    exact bodyPost_ret (gnRes2 rfl _ _ r _ _ _ rfl q1) rfl ⟨s9, by rw [← e9]; rfl, h9, b9.drew⟩
  · have HV := Lib.hid (show R = (0, (2, ct.data.toList, [])) by rw [HR.out]; rfl)
    rw [show ((tgOf 130 : Nat) : Int) = 1 from rfl] at HK
    go_enter Tryz.func41, Tryz.ntmps41
    go_upto_region 1 with fail
    rw [HWR.out, ← HRE.out]
    go_upto_region 8 with (go_at_call 80; (with_reducible refine HK.out.mono ?_); rintro e w1 ⟨rfl, hb1⟩; have HB1 := Lib.hid (below_next HB0.out hb1); have d1 := (hb1.cell (p := ⟨w.heap.size, 1, none⟩) l0).trans c1; have HR1 := Lib.hid ((hb1.block r lr).trans HQR.out); obtain ⟨v0, v1, v2, i0, i1, i2, lv⟩ := at_facts HR1.out; obtain ⟨k0, k1, k2, k3, k4, k5, k6, k7, k8, k9, k10, k11⟩ := HKC.out _ HB1.out; clear hb1)
    go_region
    obtain ⟨q1, s9, e9, h9, b9⟩ := gres_fin (k := 2) (u := ct.data.toList) (aq := none) (cq := 0) (n := []) hrr HR1.out (OwnN.nil _ _) HB1.out HV.out
    rw [← HSC.out] at q1 e9 h9 b9
    go_wp2_with fail
    exact bodyPost_ret (gnRes2 rfl _ _ r _ _ _ rfl q1) rfl ⟨s9, by rw [← e9]; rfl, h9, b9.drew⟩
  · have HV := Lib.hid (show R = (0, (7, ct.data.toList, [])) by rw [HR.out]; rfl)
    rw [show ((tgOf 135 : Nat) : Int) = 3 from rfl] at HK
    go_enter Tryz.func41, Tryz.ntmps41
    go_upto_region 1 with fail
    rw [HWR.out, ← HRE.out]
    go_upto_region 8 with (go_at_call 80; (with_reducible refine HK.out.mono ?_); rintro e w1 ⟨rfl, hb1⟩; have HB1 := Lib.hid (below_next HB0.out hb1); have d1 := (hb1.cell (p := ⟨w.heap.size, 1, none⟩) l0).trans c1; have HR1 := Lib.hid ((hb1.block r lr).trans HQR.out); obtain ⟨v0, v1, v2, i0, i1, i2, lv⟩ := at_facts HR1.out; obtain ⟨k0, k1, k2, k3, k4, k5, k6, k7, k8, k9, k10, k11⟩ := HKC.out _ HB1.out; clear hb1)
    go_region
    obtain ⟨q1, s9, e9, h9, b9⟩ := gres_fin (k := 7) (u := ct.data.toList) (aq := none) (cq := 0) (n := []) hrr HR1.out (OwnN.nil _ _) HB1.out HV.out
    rw [← HSC.out] at q1 e9 h9 b9
    go_wp2_with fail
    exact bodyPost_ret (gnRes2 rfl _ _ r _ _ _ rfl q1) rfl ⟨s9, by rw [← e9]; rfl, h9, b9.drew⟩
  · have HV := Lib.hid (show R = ((decN ct).1, (4, [], (decN ct).2)) by rw [HR.out]; rfl)
    rw [show ((tgOf 164 : Nat) : Int) = 2 from rfl] at HK
    generalize decN ct = G at HD HV
    obtain ⟨E, n⟩ := G
    go_enter Tryz.func41, Tryz.ntmps41
    go_upto_region 1 with fail
    rw [HWR.out, ← HRE.out]
    go_upto_region 7 with (first
      | (go_at_call 80; (with_reducible refine HK.out.mono ?_); rintro e w1 ⟨rfl, hb1⟩; have HB1 := Lib.hid (below_next HB0.out hb1); have d1 := (hb1.cell (p := ⟨w.heap.size, 1, none⟩) l0).trans c1; have HR1 := Lib.hid ((hb1.block r lr).trans HQR.out); obtain ⟨v0, v1, v2, i0, i1, i2, lv⟩ := at_facts HR1.out; obtain ⟨k0, k1, k2, k3, k4, k5, k6, k7, k8, k9, k10, k11⟩ := HKC.out _ HB1.out; clear hb1)
      | (go_at_call 81; (with_reducible refine (HD.out _ HB1.out).mono ?_); rintro e w2 ⟨v, rfl, ⟨s, rfl, hso⟩, hb2⟩; obtain ⟨aq, cq, rfl, hcs, hrl⟩ := hso.lies; have HB2 := Lib.hid (below_next HB1.out hb2); have HR2 := Lib.hid ((hb2.block r lv).trans HR1.out); have HO2 := Lib.hid (hso.base HB1.out.size); clear hcs hrl hso hb2 v0 v1 v2 i0 i1 i2))
    obtain ⟨W3, hW3⟩ : ∃ W3, W3 = w2.alloc (.cells #[.slice aq n.length cq] 30) := ⟨_, rfl⟩
    have hb3 : Below w2.heap.size w2 W3 := by rw [hW3]; exact belowNew w2 _
    have hq3 : W3.heap[w2.heap.size]? = some (.cells #[.slice aq n.length cq] 30 (0, 0)) := by rw [hW3]; exact heap_alloc_new w2 _
    rw [← hW3]
    have hr3 := (hb3.block r (Array.getElem?_eq_some_iff.1 HR2.out).1).trans HR2.out
    obtain ⟨v0, v1, v2, i0, i1, i2, _⟩ := at_facts hr3
    obtain ⟨n0, _, _⟩ := one_facts hq3
    obtain ⟨q1, s9, e9, h9, b9⟩ := gres_fin (k := 4) (u := []) hrr hr3 (HO2.out.below hb3) (below_next HB2.out hb3) HV.out
    clear hb3 hq3 hW3 hr3 k0 k1 k2 k3 k4 k5 k6 k7 k8 k9 k10 k11 c0 c1 c2 d1
    go_wp2_with fail
    exact bodyPost_ret (gnRes2 rfl _ _ r _ _ _ rfl q1) rfl ⟨s9, by rw [← e9]; rfl, h9, b9⟩
  · have HV := Lib.hid (show R = (5, noG) by rw [HR.out]; unfold prtD; rw [if_pos (tgOf_no hT)])
    rw [tgOf_no hT, show (((4 : Nat)) : Int) = 4 from rfl] at HK
    clear hT
    go_enter Tryz.func41, Tryz.ntmps41
    go_upto_region 1 with fail
    rw [HWR.out, ← HRE.out]
    go_wp2_with (go_at_call 80; (with_reducible refine HK.out.mono ?_); rintro e w1 ⟨rfl, hb1⟩; have HB1 := Lib.hid (below_next HB0.out hb1); have d1 := (hb1.cell (p := ⟨w.heap.size, 1, none⟩) l0).trans c1; have HR1 := Lib.hid ((hb1.block r lr).trans HQR.out); obtain ⟨v0, v1, v2, i0, i1, i2, lv⟩ := at_facts HR1.out; obtain ⟨k0, k1, k2, k3, k4, k5, k6, k7, k8, k9, k10, k11⟩ := HKC.out _ HB1.out; clear hb1)
    obtain ⟨q1, s9, e9, h9, b9⟩ := gres_fin (k := 0) (u := []) (aq := none) (cq := 0) (n := []) hrr HR1.out (OwnN.nil _ _) HB1.out HV.out
    exact bodyPost_ret (gnRes2 rfl _ _ r _ _ _ rfl q1) rfl ⟨s9, by rw [← e9]; rfl, h9, b9⟩
theorem genC_a {E0 E1 : Nat} {g : Gn} (h : E0 ≠ 0) : genC E0 g E1 = (E0, noG) := if_pos h
theorem genC_b {E1 : Nat} {g : Gn} (h : E1 ≠ 0) : genC 0 g E1 = (E1, noG) := by unfold genC; rw [if_neg (by simp), if_pos h]
theorem genC_c {g : Gn} : genC 0 g 0 = (0, g) := by unfold genC; rw [if_neg (by simp), if_neg (by simp)]
set_option maxRecDepth 100000 in
set_option maxHeartbeats 8000000 in
theorem gdec_core (T : Int) (ct raw : ByteArray) (con : Bool) (w : World) (hc : ct.size ≤ 150000) (hT : Tab w) (hP : Pow10 w) (hmk : Mk w) :
    Calls Tryz.prog 15 #[.agg #[.int .i64 T, .string ct, .string raw], .bool con] w fun e w' => GRes w (decG con T ct) e w' := by
  obtain ⟨W0, hW0⟩ : ∃ W0, W0 = (w.alloc (.cells #[.int .i64 T, .string ct, .string raw] 23)).alloc (.cells #[.int .i64 0, .string ⟨#[]⟩, .slice none 0 0] 32) := ⟨_, rfl⟩
  have hb0 : Below w.heap.size w W0 := by rw [hW0]; exact belowTwo w _ _
  obtain ⟨r, hr⟩ : ∃ r, r = w.heap.size + 1 := ⟨_, rfl⟩
  have hqe : W0.heap[w.heap.size]? = some (.cells #[.int .i64 T, .string ct, .string raw] 23 (0, 0)) := by
    rw [hW0]; exact ((belowNew _ _).block _ (by simp)).trans (heap_alloc_new w _)
  have hqr : W0.heap[r]? = some (.cells #[.int .i64 0, .string ⟨#[]⟩, .slice none 0 0] 32 (0, 0)) := by
    have h1 := heap_alloc_new (w.alloc (.cells #[.int .i64 T, .string ct, .string raw] 23)) (.cells #[.int .i64 0, .string ⟨#[]⟩, .slice none 0 0] 32)
    rw [show (w.alloc (.cells #[.int .i64 T, .string ct, .string raw] 23)).heap.size = r by rw [hr]; simp] at h1
    rw [hW0]; exact h1
  obtain ⟨c0, c1, c2, l0⟩ := three_facts hqe
  have HWR := Lib.hid hW0.symm
  have HB0 := Lib.hid hb0
  have HQE := Lib.hid hqe
  have HQR := Lib.hid hqr
  have hrr : w.heap.size ≤ r := by omega
  have HRE := Lib.hid hr
  have lr : r < W0.heap.size := (Array.getElem?_eq_some_iff.1 hqr).1
  have HD := Lib.hid (parts_dec T ct raw W0 hc (hT.below hb0) (hP.below hb0) (hmk.below hb0))
  have HCH := Lib.hid (fun W (hb : Below w.heap.size w W) aq cq (k : Int) (u : List UInt8) (n : Nm) (h : RLies W aq n) (hu : u.length ≤ 150000) (hs : SmallN n) => gchk_core aq cq n.length k u n con W h rfl hu hs (hT.below hb) (hmk.below hb))
  obtain ⟨R, hR⟩ : ∃ R, R = decG con T ct := ⟨_, rfl⟩
  rw [← hR]
  have hR2 := hR.trans (decG_tail con T ct)
  have hsm := prtD_small (T := T) hc
  generalize prtD T ct = P at HD hR2 hsm
  obtain ⟨E, k, u, n⟩ := P
  simp only at hR2 hsm
  have HSM := Lib.hid hsm
  have HR := Lib.hid hR2
  clear hW0 hb0 hqe hqr hc hr hR hT hP hmk hR2 hsm
  go_enter Tryz.func15, Tryz.ntmps15
  go_upto_region 1 with fail
  rw [HWR.out, ← HRE.out]
  go_upto_region 2 with (go_at_call 41; (with_reducible refine HD.out.mono ?_); rintro e w1 ⟨s, rfl, hso, hb1⟩; obtain ⟨aq, cq, rfl, hcs, hrl⟩ := hso.lies; have HB1 := Lib.hid (below_next HB0.out hb1); have HR1 := Lib.hid ((hb1.block r lr).trans HQR.out); have HO1 := Lib.hid (hso.base HB0.out.size); have HL1 := Lib.hid hrl; clear hcs hrl hso hb1)
  obtain ⟨W2, hW2⟩ : ∃ W2, W2 = w1.alloc (.cells #[.int .i64 k, .string (strOf u), .slice aq n.length cq] 32) := ⟨_, rfl⟩
  obtain ⟨g, hg⟩ : ∃ g, g = w1.heap.size := ⟨_, rfl⟩
  have hb2 : Below w1.heap.size w1 W2 := by rw [hW2]; exact belowNew w1 _
  have hq2 : W2.heap[g]? = some (.cells #[.int .i64 k, .string (strOf u), .slice aq n.length cq] 32 (0, 0)) := by rw [hW2, hg]; exact heap_alloc_new w1 _
  rw [← hW2, ← hg]
  have hr2 := (hb2.block r (Array.getElem?_eq_some_iff.1 HR1.out).1).trans HR1.out
  have hrg : r < g := by rw [hg]; exact (Array.getElem?_eq_some_iff.1 HR1.out).1
  obtain ⟨v0, v1, v2, i0, i1, i2, lv⟩ := at_facts hr2
  obtain ⟨g0, g1, g2, _, _, _, lg⟩ := at_facts hq2
  have HB2 := Lib.hid (below_next HB1.out hb2)
  have HG2 := Lib.hid hq2
  have HR2 := Lib.hid hr2
  have HO2 := Lib.hid (HO1.out.below hb2)
  have HL2 := Lib.hid (HL1.out.below hb2)
  clear hW2 hg hb2 hq2 hr2
  by_cases hz : E = 0
  · subst hz
    have HK := Lib.hid (HCH.out W2 HB2.out aq cq k u n HL2.out HSM.out.1 HSM.out.2)
    clear HCH
    generalize chkG con k u n = E1 at HK HR
    by_cases hz1 : E1 = 0
    · subst hz1
      have HV := Lib.hid (HR.out.trans genC_c)
      go_wp2_with (go_at_call 42; (with_reducible refine HK.out.mono ?_); rintro e w3 ⟨rfl, hb3⟩; have HB3 := Lib.hid (below_next HB2.out hb3); have HR3 := Lib.hid ((hb3.block r lv).trans HR2.out); have HG3 := Lib.hid ((hb3.block g lg).trans HG2.out); have HO3 := Lib.hid (HO2.out.below hb3); clear hb3 v0 v1 v2 i0 i1 i2 lv g0 g1 g2 lg; obtain ⟨v0, v1, v2, i0, i1, i2, lv⟩ := at_facts HR3.out; obtain ⟨g0, g1, g2, _, _, _, lg⟩ := at_facts HG3.out)
      obtain ⟨q1, s9, e9, h9, b9⟩ := gres_fin hrr HR3.out HO3.out HB3.out HV.out
      exact bodyPost_ret (gnRes2 rfl _ _ r _ _ _ rfl q1) rfl ⟨s9, by rw [← e9]; rfl, h9, b9⟩
    · have hz2 := errno_ne hz1
      have HV := Lib.hid (HR.out.trans (genC_b hz1))
      clear hz1
      go_wp2_with (go_at_call 42; (with_reducible refine HK.out.mono ?_); rintro e w3 ⟨rfl, hb3⟩; have HB3 := Lib.hid (below_next HB2.out hb3); have HR3 := Lib.hid ((hb3.block r lv).trans HR2.out); clear hb3 v0 v1 v2 i0 i1 i2 lv g0 g1 g2 lg; obtain ⟨v0, v1, v2, i0, i1, i2, lv⟩ := at_facts HR3.out)
      obtain ⟨q1, s9, e9, h9, b9⟩ := gres_fin (k := 0) (u := []) (aq := none) (cq := 0) (n := []) hrr HR3.out (OwnN.nil _ _) HB3.out HV.out
      exact bodyPost_ret (gnRes2 rfl _ _ r _ _ _ rfl q1) rfl ⟨s9, by rw [← e9]; rfl, h9, b9⟩
  · have hz2 := errno_ne hz
    have HV := Lib.hid (HR.out.trans (genC_a hz))
    clear hz HCH
    go_wp2_with fail
    obtain ⟨q1, s9, e9, h9, b9⟩ := gres_fin (k := 0) (u := []) (aq := none) (cq := 0) (n := []) hrr HR2.out (OwnN.nil _ _) HB2.out HV.out
    exact bodyPost_ret (gnRes2 rfl _ _ r _ _ _ rfl q1) rfl ⟨s9, by rw [← e9]; rfl, h9, b9⟩
end Go.Proofs.YtflpajbcomhkpaaGreatDoor
namespace Go.Proofs.YtflpajbcomhkpaaGreatDoor
open Go.RowKit

theorem encG_zero {con : Bool} {k : Int} {t : List UInt8} {n : Nm} (h : chkG con k t n = 0) : (k = 4 ∧ t = [] ∧ chkN n = 0) ∨ (k ≠ 4 ∧ okT k con t = true ∧ n = [] ∧ (k = 1 ∨ k = 2 ∨ k = 7)) := by
  unfold chkG at h
  split at h
  · rename_i h4
    split at h
    · rename_i h0; exact .inl ⟨h4, h0, h⟩
    · cases h
  · rename_i h4
    split at h
    · rename_i h0
      refine .inr ⟨h4, h0.1, h0.2, ?_⟩
      rcases kind_or k with rfl | rfl | rfl | rfl | hk
      · exact .inl rfl
      · exact .inr (.inl rfl)
      · exact absurd rfl h4
      · exact .inr (.inr rfl)
      · have := okT_no hk con t; rw [this] at h0; cases h0.1
    · cases h

set_option maxRecDepth 100000 in
set_option maxHeartbeats 4000000 in
theorem rencG_core (a0 : Option Addr) (c m : Nat) (k : Int) (t : List UInt8) (n : Nm) (con : Bool) (w : World) (h : RLies w a0 n) (hn : m = n.length) (ht : t.length ≤ 150000) (hs : SmallN n) :
    Calls Tryz.prog 10 #[.agg #[.int .i64 k, .string (strOf t), .slice a0 m c], .bool con] w fun e w' => e = .returned (.tuple #[.string (encG con k t n), .int .i64 ((chkG con k t n : Nat) : Int)]) ∧ Below w.heap.size w w' := by
  obtain ⟨W0, hW0⟩ : ∃ W0, W0 = w.alloc (.cells #[.int .i64 k, .string (strOf t), .slice a0 m c] 32) := ⟨_, rfl⟩
  have hwr : w.alloc (.cells #[.int .i64 k, .string (strOf t), .slice a0 m c] 32) = W0 := hW0.symm
  have hb0 : Below w.heap.size w W0 := by rw [hW0]; exact belowNew w _
  have hq0 : W0.heap[w.heap.size]? = some (.cells #[.int .i64 k, .string (strOf t), .slice a0 m c] 32 (0, 0)) := by rw [hW0]; exact heap_alloc_new w _
  obtain ⟨c0, c1, c2, l0⟩ := three_facts hq0
  have HB0 := Lib.hid hb0
  have HTL := Lib.hid ht
  have HC := Lib.hid (rchkG_core a0 c m k t n con W0 (h.below hb0) hn ht hs)
  have HN := Lib.hid (fun W (hb : Below w.heap.size w W) => rencode_core a0 c m n W (h.below hb) hn hs)
  obtain ⟨E, hE⟩ : ∃ E, E = chkG con k t n := ⟨_, rfl⟩
  obtain ⟨V, hV⟩ : ∃ V, V = encG con k t n := ⟨_, rfl⟩
  rw [← hE] at HC ⊢
  rw [← hV]
  clear h hn ht hs hW0 hb0 hq0
  by_cases hz : E = 0
  · subst hz
    rcases encG_zero hE.symm with ⟨rfl, rfl, hk⟩ | ⟨h4, _, _, hk⟩
    · have HV := Lib.hid (show V = wr1 164 (encN n) by rw [hV]; unfold encG; rw [← hE, if_pos rfl, if_pos rfl])
      have he : encV n = encN n := by unfold encV; rw [if_pos hk]
      have HW1 := Lib.hid (fun g W h => rw1 164 g (encN n) W h (Nat.le_trans (wrapStr_size _ _) (by decide)))
      rw [← HV.out] at HW1
      rw [he, hk] at HN
      clear he hk hE hV HV
      go_enter Tryz.func10, Tryz.ntmps10
      go_wp2_with (first
        | (go_at_call 35; (with_reducible refine HC.out.mono ?_); rintro e w1 ⟨rfl, hb1⟩; have HB1 := Lib.hid (below_next HB0.out hb1); have d0 := (hb1.cell (p := ⟨w.heap.size, 0, none⟩) l0).trans c0; have d2 := (hb1.cell (p := ⟨w.heap.size, 2, none⟩) l0).trans c2; have l1 := Nat.lt_of_lt_of_le l0 hb1.size; clear hb1)
        | (go_at_call 36; (with_reducible refine (HN.out _ HB1.out).mono ?_); rintro e w2 ⟨rfl, hb2⟩; have HB2 := Lib.hid (below_next HB1.out hb2); have e0 := (hb2.cell (p := ⟨w.heap.size, 0, none⟩) l1).trans d0; clear hb2)
        | (go_at_call 37; (with_reducible refine (HW1.out _ _ (bx1 _ _ _)).mono ?_); rintro e w5 ⟨rfl, hb5⟩; have HB5 := Lib.hid (below_next HB2.out (below_next (belowNew _ _) hb5)); clear hb5))
      go_ret2
      exact ⟨rfl, HB5.out⟩
    · have HV := Lib.hid (show V = wr1 (128 + k) (strOf t) by rw [hV]; unfold encG; rw [← hE, if_pos rfl, if_neg h4])
      clear hE hV h4 HN
      rcases hk with rfl | rfl | rfl
      · have HW1 := Lib.hid (fun g W h => rw1 129 g (strOf t) W h (by rw [strOf_size]; exact Nat.le_trans HTL.out (by decide)))
        rw [← show V = wr1 129 (strOf t) from HV.out] at HW1
        clear HV
        go_enter Tryz.func10, Tryz.ntmps10
        go_wp2_with (first
          | (go_at_call 35; (with_reducible refine HC.out.mono ?_); rintro e w1 ⟨rfl, hb1⟩; have HB1 := Lib.hid (below_next HB0.out hb1); have d0 := (hb1.cell (p := ⟨w.heap.size, 0, none⟩) l0).trans c0; have d1 := (hb1.cell (p := ⟨w.heap.size, 1, none⟩) l0).trans c1; clear hb1)
          | (go_at_call 37; (with_reducible refine (HW1.out _ _ (bx1 _ _ _)).mono ?_); rintro e w5 ⟨rfl, hb5⟩; have HB5 := Lib.hid (below_next HB1.out (below_next (belowNew _ _) hb5)); clear hb5))
        go_ret2
        exact ⟨rfl, HB5.out⟩
      · have HW1 := Lib.hid (fun g W h => rw1 130 g (strOf t) W h (by rw [strOf_size]; exact Nat.le_trans HTL.out (by decide)))
        rw [← show V = wr1 130 (strOf t) from HV.out] at HW1
        clear HV
        go_enter Tryz.func10, Tryz.ntmps10
        go_wp2_with (first
          | (go_at_call 35; (with_reducible refine HC.out.mono ?_); rintro e w1 ⟨rfl, hb1⟩; have HB1 := Lib.hid (below_next HB0.out hb1); have d0 := (hb1.cell (p := ⟨w.heap.size, 0, none⟩) l0).trans c0; have d1 := (hb1.cell (p := ⟨w.heap.size, 1, none⟩) l0).trans c1; clear hb1)
          | (go_at_call 37; (with_reducible refine (HW1.out _ _ (bx1 _ _ _)).mono ?_); rintro e w5 ⟨rfl, hb5⟩; have HB5 := Lib.hid (below_next HB1.out (below_next (belowNew _ _) hb5)); clear hb5))
        go_ret2
        exact ⟨rfl, HB5.out⟩
      · have HW1 := Lib.hid (fun g W h => rw1 135 g (strOf t) W h (by rw [strOf_size]; exact Nat.le_trans HTL.out (by decide)))
        rw [← show V = wr1 135 (strOf t) from HV.out] at HW1
        clear HV
        go_enter Tryz.func10, Tryz.ntmps10
        go_wp2_with (first
          | (go_at_call 35; (with_reducible refine HC.out.mono ?_); rintro e w1 ⟨rfl, hb1⟩; have HB1 := Lib.hid (below_next HB0.out hb1); have d0 := (hb1.cell (p := ⟨w.heap.size, 0, none⟩) l0).trans c0; have d1 := (hb1.cell (p := ⟨w.heap.size, 1, none⟩) l0).trans c1; clear hb1)
          | (go_at_call 37; (with_reducible refine (HW1.out _ _ (bx1 _ _ _)).mono ?_); rintro e w5 ⟨rfl, hb5⟩; have HB5 := Lib.hid (below_next HB1.out (below_next (belowNew _ _) hb5)); clear hb5))
        go_ret2
        exact ⟨rfl, HB5.out⟩
  · have hz1 := errno_ne hz
    have HV := Lib.hid (show V = ⟨#[]⟩ by rw [hV]; unfold encG; rw [← hE, if_neg hz])
    clear hE hV HN
    rw [HV.out]
    go_enter Tryz.func10, Tryz.ntmps10
    go_wp2_with (go_at_call 35; (with_reducible refine HC.out.mono ?_); rintro e w1 ⟨rfl, hb1⟩; have HB1 := Lib.hid (below_next HB0.out hb1); clear hb1)
    go_ret2
    exact ⟨rfl, HB1.out⟩
end Go.Proofs.YtflpajbcomhkpaaGreatDoor
namespace Go.Proofs.YtflpajbcomhkpaaGreatDoor
open Go.RowKit

set_option maxRecDepth 100000 in
set_option maxHeartbeats 4000000 in
theorem exactG_core (a0 b0 : Option Addr) (c d m : Nat) (l : List Gn) (w : World) (h1 : GLies w a0 l) (h2 : GLies w b0 l) (hn : m = l.length) (hm : m ≤ 1000000) (hq : ∀ i, i < l.length → SmallN (l.getD i noG).2.2) :
    Calls Tryz.prog 17 #[.slice a0 m c, .slice b0 m d] w fun e w' => e = .returned (.bool true) ∧ Below w.heap.size w w' := by
  have H1 := Lib.hid h1
  have H2 := Lib.hid h2
  have HN := Lib.hid hn
  have HQ := Lib.hid hq
  clear h1 h2 hn hq
  go_enter Tryz.func17, Tryz.ntmps17
  go_wp2_with fail
  go_loopw [13] (fun i wr => ∃ k : Nat, k ≤ m ∧ i = .int .i64 k ∧ Below w.heap.size w wr) (fun i _ => m - (intOf i).toNat)
  case atStart => exact ⟨0, Nat.zero_le _, rfl, Below.refl _ _⟩
  case round =>
    obtain ⟨wz, hwz⟩ : ∃ wz, wz = wr := ⟨_, rfl⟩
    subst hwz
    obtain ⟨k, hk, rfl, hb⟩ := hrel
    have HB := Lib.hid hb
    clear hb
    by_cases hlt : k < m
    · have hd : decide ((k : Int) < (m : Int)) = true := by simp; omega
      obtain ⟨b, o, rfl, hb, e0, e1, a1, c1, e2, hc1, hL1⟩ := (H1.out.below HB.out).at k (by rw [← HN.out]; exact hlt)
      obtain ⟨b', o', rfl, hb', e0', e1', a1', c1', e2', hc1', hL1'⟩ := (H2.out.below HB.out).at k (by rw [← HN.out]; exact hlt)
      have hs := HQ.out k (by rw [← HN.out]; exact hlt)
      generalize l.getD k noG = G at e0 e1 e2 hL1 hc1 e0' e1' e2' hL1' hc1' hs
      obtain ⟨q, t, n⟩ := G
      simp only at e0 e1 e2 hL1 hc1 e0' e1' e2' hL1' hc1' hs
      obtain ⟨N, hNn⟩ : ∃ N, N = n.length := ⟨_, rfl⟩
      rw [← hNn] at e2 e2'
      have HX := Lib.hid (fun W (hb : Below wz.heap.size wz W) => exact_core a1 a1' c1 c1' N n W (hL1.below hb) (hL1'.below hb) hNn hs)
      clear hb hb' hL1 hL1' hc1 hc1' hs hNn
      have f1 : ∀ d os, _ := fun d os => Calls.regrown_of (HX.out (Sort.grow (redrawn wz d) os) (below_regrown wz d os))
      have g0 := cell_regrown e0
      have g1 := cell_regrown e1
      have g2 := cell_regrown e2
      have g0' := cell_regrown e0'
      have g1' := cell_regrown e1'
      have g2' := cell_regrown e2'
      clear e0 e1 e2 e0' e1' e2'
      go_wp2_with fail
      refine wp_region_quiet_below (by kernel_rfl) (by kernel_rfl) ?_
      repeat (go_big_quiet_step (with_reducible first | exact f1 _ _))
      refine wpQuiet_nil ?_
      intro _ hw'
      obtain ⟨⟨dq, osq⟩, hw''⟩ := hw'
      subst hw''
      have HBR := Lib.hid (HB.out.trans ((below_regrown wz dq osq).mono HB.out.size))
      clear f1 g0 g1 g2 g0' g1' g2'
      go_wp2_with fail
      go_roundw
      case rel => exact ⟨k + 1, by omega, by go_num, HBR.out⟩
      case measure => simp [intOf]; omega
    · have hd : decide ((k : Int) < (m : Int)) = false := by simp; omega
      obtain rfl : k = m := by omega
      go_wp2_with fail
      go_ret
      exact ⟨rfl, HB.out⟩
end Go.Proofs.YtflpajbcomhkpaaGreatDoor
namespace Go.Proofs.YtflpajbcomhkpaaGreatDoor
open Go.RowKit


theorem box_two (w : World) (x0 x1 x2 y0 y1 y2 : Value) (T : TypeId) :
    ((w.alloc (.cells #[x0, x1, x2] T)).alloc (.cells #[y0, y1, y2] T)).cell? ⟨w.heap.size, 0, none⟩ = some x0 ∧ ((w.alloc (.cells #[x0, x1, x2] T)).alloc (.cells #[y0, y1, y2] T)).cell? ⟨w.heap.size, 1, none⟩ = some x1 ∧ ((w.alloc (.cells #[x0, x1, x2] T)).alloc (.cells #[y0, y1, y2] T)).cell? ⟨w.heap.size, 2, none⟩ = some x2 ∧
    ((w.alloc (.cells #[x0, x1, x2] T)).alloc (.cells #[y0, y1, y2] T)).cell? ⟨w.heap.size + 1, 0, none⟩ = some y0 ∧ ((w.alloc (.cells #[x0, x1, x2] T)).alloc (.cells #[y0, y1, y2] T)).cell? ⟨w.heap.size + 1, 1, none⟩ = some y1 ∧ ((w.alloc (.cells #[x0, x1, x2] T)).alloc (.cells #[y0, y1, y2] T)).cell? ⟨w.heap.size + 1, 2, none⟩ = some y2 ∧
    w.heap.size + 1 < ((w.alloc (.cells #[x0, x1, x2] T)).alloc (.cells #[y0, y1, y2] T)).heap.size := by
  have h1 := heap_alloc_new (w.alloc (.cells #[x0, x1, x2] T)) (.cells #[y0, y1, y2] T)
  rw [show (w.alloc (.cells #[x0, x1, x2] T)).heap.size = w.heap.size + 1 by simp] at h1
  obtain ⟨f0, f1, f2, f3⟩ := three_facts h1
  obtain ⟨g0, g1, g2, g3⟩ := three_facts (heap_alloc_new w (.cells #[x0, x1, x2] T))
  exact ⟨(World.cell?_alloc_old _ _ _ (Nat.ne_of_lt g3)).trans g0, (World.cell?_alloc_old _ _ _ (Nat.ne_of_lt g3)).trans g1, (World.cell?_alloc_old _ _ _ (Nat.ne_of_lt g3)).trans g2, f0, f1, f2, f3⟩

end Go.Proofs.YtflpajbcomhkpaaGreatDoor
namespace Go.Proofs.YtflpajbcomhkpaaGreatDoor
open Go.RowKit

def PEnc : Prop := ∀ (a0 : Option Addr) (c m : Nat) (k : Int) (t : List UInt8) (n : Nm) (con : Bool) (w : World), RLies w a0 n → m = n.length → t.length ≤ 150000 → SmallN n → Tab w → Mk w →
  Calls Tryz.prog 30 #[.agg #[.int .i64 k, .string (strOf t), .slice a0 m c], .bool con] w fun e w' => e = .returned (.tuple #[.string (encG con k t n), .int .i64 ((chkG con k t n : Nat) : Int)]) ∧ Below w.heap.size w w'
def PMatch : Prop := ∀ (a0 b0 : Option Addr) (c d n m : Nat) (k l : Int) (t u : List UInt8) (r s : Nm) (w : World), RLies w a0 r → RLies w b0 s → n = r.length → m = s.length → n ≤ c → t.length ≤ 150000 → u.length ≤ 150000 → SmallN r → SmallN s → Mk w →
  Calls Tryz.prog 33 #[.agg #[.int .i64 k, .string (strOf t), .slice a0 n c], .agg #[.int .i64 l, .string (strOf u), .slice b0 m d]] w fun e w' => e = .returned (.bool (matchG k t r l u s)) ∧ Below w.heap.size w w'
theorem smallN_nil : SmallN [] := ⟨by decide, fun i hi => absurd hi (Nat.not_lt_zero _)⟩
set_option maxRecDepth 100000 in
theorem enc_ex : chkG false 2 [97, 46, 98] [] = 0 ∧ encG false 2 [97, 46, 98] [] = ⟨#[130, 3, 97, 46, 98]⟩ := by
  have h : chkG false 2 [97, 46, 98] [] = 0 := by
    rw [chkG_not (by decide), if_pos ⟨by rw [okT_2]; decide +kernel, rfl⟩]
  refine ⟨h, ?_⟩
  unfold encG
  rw [if_pos h, if_neg (by decide)]
  decide +kernel
set_option maxRecDepth 100000 in
theorem match_ex : matchG 2 [42, 46, 101, 120, 97, 109, 112, 108, 101, 46, 111, 114, 103] [] 2 [119, 119, 119, 46, 101, 120, 97, 109, 112, 108, 101, 46, 111, 114, 103] [] = true := by
  unfold matchG
  rw [if_pos ⟨rfl, rfl⟩]
  decide +kernel
set_option maxRecDepth 100000 in
set_option maxHeartbeats 1000000 in
theorem gawake_any (hE : PEnc) (hM : PMatch) (w : World) (hT : Tab w) (hm : Mk w) :
    Calls Tryz.prog 7 #[] w fun e w' => e = .returned (.bool true) ∧ Below w.heap.size w w' := by
  have H1 := Lib.hid (show Calls Tryz.prog 30 #[.agg #[.int .i64 2, .string ⟨#[97, 46, 98]⟩, .slice none 0 0], .bool false] w fun e w' => e = .returned (.tuple #[.string ⟨#[130, 3, 97, 46, 98]⟩, .int .i64 0]) ∧ Below w.heap.size w w' by
    have := hE none 0 0 2 [97, 46, 98] [] false w (RLies.nil _ _) rfl (by decide) smallN_nil hT hm
    rw [enc_ex.1, enc_ex.2] at this
    exact this)
  have H2 := Lib.hid (fun W (hb : Below w.heap.size w W) => show Calls Tryz.prog 33 #[.agg #[.int .i64 2, .string ⟨#[42, 46, 101, 120, 97, 109, 112, 108, 101, 46, 111, 114, 103]⟩, .slice none 0 0], .agg #[.int .i64 2, .string ⟨#[119, 119, 119, 46, 101, 120, 97, 109, 112, 108, 101, 46, 111, 114, 103]⟩, .slice none 0 0]] W fun e w' => e = .returned (.bool true) ∧ Below W.heap.size W w' by
    have := hM none none 0 0 0 0 2 2 [42, 46, 101, 120, 97, 109, 112, 108, 101, 46, 111, 114, 103] [119, 119, 119, 46, 101, 120, 97, 109, 112, 108, 101, 46, 111, 114, 103] [] [] W (RLies.nil _ _) (RLies.nil _ _) rfl rfl (Nat.le_refl _) (by decide) (by decide) smallN_nil smallN_nil (hm.below hb)
    rw [match_ex] at this
    exact this)
  have heq : ((⟨#[130, 3, 97, 46, 98]⟩ : ByteArray).toList == [130, 3, 97, 46, 98]) = true := beq_iff_eq.2 (toList_of [130, 3, 97, 46, 98])
  clear hE hM hT hm
  go_enter Tryz.func7, Tryz.ntmps7
  go_wp2_with (first
    | (go_at_call 30; (with_reducible refine H1.out.mono ?_); rintro e w1 ⟨rfl, hb1⟩; have HB1 := Lib.hid hb1; clear hb1)
    | (go_at_call 33; (with_reducible refine (H2.out _ HB1.out).mono ?_); rintro e w2 ⟨rfl, hb2⟩; have HB2 := Lib.hid (below_next HB1.out hb2); clear hb2))
  go_ret
  exact ⟨rfl, HB2.out⟩
end Go.Proofs.YtflpajbcomhkpaaGreatDoor
namespace Go.Proofs.YtflpajbcomhkpaaGreatDoor
open Go.RowKit

theorem ShG.small {g : Gn} (h : ShG g) : SmallN g.2.2 := ShN.small h.2
theorem madeN_small {n : Nm} (h : MadeN n) : SmallN n := small_of_sp (spN_of_made h) (by omega)
theorem bools_at (W : World) (T : TypeId) (j : Nat) (hj : j < 2) : (W.alloc (.cells #[.bool false, .bool true] T)).cell? ⟨W.heap.size, j, none⟩ = some (.bool (decide (j = 1))) := by
  rw [cell_of_row _ _ j _ _ _ (heap_alloc_new W _)]
  obtain rfl | rfl : j = 0 ∨ j = 1 := by omega <;> rfl
  · rfl
  · rfl

end Go.Proofs.YtflpajbcomhkpaaGreatDoor
namespace Go.Proofs.YtflpajbcomhkpaaGreatDoor
open Go.RowKit

theorem one_form (b : ByteArray) : ∃ (T : Int) (ct rw : ByteArray) (E : Int), oneVal b = .tuple #[.agg #[.int .i64 T, .string ct, .string rw], .int .i64 E] ∧ ct.size ≤ b.size := by
  by_cases h : oneErr b = 0
  · exact ⟨(rdTag b : Nat), rdContent b, rdRaw b, 0, by unfold oneVal; rw [if_pos h]; rfl, Nat.le_of_lt (rdContent_size (oneErr_rd h))⟩
  · exact ⟨0, ⟨#[]⟩, ⟨#[]⟩, ((oneErr b : Nat) : Int), by unfold oneVal; rw [if_neg h]; rfl, Nat.zero_le _⟩
theorem rone_form (b : ByteArray) (w : World) (hs : b.size ≤ 1099511627776) : ∃ (T : Int) (ct rw : ByteArray) (E : Int), ct.size ≤ b.size ∧ Calls Tryz.prog 12 #[.string b] w fun e w' => e = .returned (.tuple #[.agg #[.int .i64 T, .string ct, .string rw], .int .i64 E]) ∧ Below w.heap.size w w' := by
  obtain ⟨T, ct, rw, E, h, hz⟩ := one_form b
  exact ⟨T, ct, rw, E, hz, by rw [← h]; exact rone_any b w hs⟩
theorem encG_small {con : Bool} {k : Int} {t : List UInt8} {n : Nm} (ht : t.length ≤ 64) (hn : MadeN n) : (encG con k t n).size ≤ 660 := by
  unfold encG
  split
  · rename_i h
    split
    · rename_i h4
      subst h4
      rw [chkG_dir] at h
      have hz : chkN n = 0 := by
        by_cases h0 : t = []
        · rwa [if_pos h0] at h
        · rw [if_neg h0] at h; cases h
      have h1 := encV_le (spN_of_made hn)
      rw [show encV n = encN n by unfold encV; rw [if_pos hz]] at h1
      have h2 := wrapStr_le 164 (encN n).data.toList
      have e : (encN n).data.toList.length = (encN n).size := rfl
      show (wrapStr 164 (encN n).data.toList).size ≤ 660
      omega
    · have h2 := wrapStr_le (128 + k) (strOf t).data.toList
      have e : (strOf t).data.toList.length = t.length := by rw [strOf_list]
      show (wrapStr (128 + k) (strOf t).data.toList).size ≤ 660
      omega
  · exact Nat.zero_le _
theorem decG_small {con : Bool} {T : Int} {ct : ByteArray} (h : ct.size ≤ 150000) : SmallN (decG con T ct).2.2.2 := by
  have h0 : SmallN [] := ⟨by decide, fun i hi => absurd hi (Nat.not_lt_zero _)⟩
  unfold decG
  split
  · split <;> exact h0
  · split
    · split
      · exact decN_small (by omega)
      · exact h0
    · exact h0
theorem eq_cases (r : Nat) (h : r < 2) : ∃ con : Bool, ((r : Int) == 1) = con ∧ (r == 1) = con ∧ decide ((r : Int) = 1) = con ∧ decide (r = 1) = con := by
  obtain rfl | rfl : r = 0 ∨ r = 1 := by omega
  · exact ⟨false, rfl, rfl, rfl, rfl⟩
  · exact ⟨true, rfl, rfl, rfl, rfl⟩

end Go.Proofs.YtflpajbcomhkpaaGreatDoor
