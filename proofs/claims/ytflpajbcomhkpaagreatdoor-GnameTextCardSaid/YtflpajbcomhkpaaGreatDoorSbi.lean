/-
  The contracts of gname's cutWord, parseRest, checkEither and Parse: the general name that a text denotes, or the error.
  The contracts of the reference's Escape and Unescape; nothing that was there before the call has changed.
-/
import Derived.Test.YtflpajbcomhkpaaGreatDoorSbg
import Derived.Test.YtflpajbcomhkpaaGreatDoorSbh
import Derived.Test.YtflpajbcomhkpaaGreatDoorSaz
import Derived.Test.YtflpajbcomhkpaaGreatDoorSam
import Derived.Test.YtflpajbcomhkpaaGreatDoorSbe
namespace Go.Proofs.YtflpajbcomhkpaaGreatDoor
open Go.RowKit

def wdL (k : Nat) : List UInt8 := [[109, 97, 105, 108, 58], [100, 110, 115, 58], [100, 105, 114, 58], [105, 112, 58]].getD k []
theorem kdW_wd (k : Nat) (hk : k < 4) : kdW k = strOf (wdL k) := by
  rcases (by omega : k = 0 ∨ k = 1 ∨ k = 2 ∨ k = 3) with rfl | rfl | rfl | rfl <;> rfl
/-- The place of the word with which a text begins, and what is behind it. -/
def cutW (L : List UInt8) : Nat × List UInt8 :=
  if (wdL 0).isPrefixOf L = true then (0, L.drop 5) else if (wdL 1).isPrefixOf L = true then (1, L.drop 4) else if (wdL 2).isPrefixOf L = true then (2, L.drop 4) else if (wdL 3).isPrefixOf L = true then (3, L.drop 3) else (4, [])
theorem cutW_hit {L : List UInt8} (k : Nat) (hk : k < 4) (h1 : ∀ j, j < k → (wdL j).isPrefixOf L ≠ true) (h2 : (wdL k).isPrefixOf L = true) : cutW L = (k, L.drop (wdL k).length) := by
  unfold cutW
  rcases (by omega : k = 0 ∨ k = 1 ∨ k = 2 ∨ k = 3) with rfl | rfl | rfl | rfl
  · rw [if_pos h2]; rfl
  · rw [if_neg (h1 0 (by omega)), if_pos h2]; rfl
  · rw [if_neg (h1 0 (by omega)), if_neg (h1 1 (by omega)), if_pos h2]; rfl
  · rw [if_neg (h1 0 (by omega)), if_neg (h1 1 (by omega)), if_neg (h1 2 (by omega)), if_pos h2]; rfl
theorem cutW_miss {L : List UInt8} (h : ∀ j, j < 4 → (wdL j).isPrefixOf L ≠ true) : cutW L = (4, []) := by
  unfold cutW
  rw [if_neg (h 0 (by omega)), if_neg (h 1 (by omega)), if_neg (h 2 (by omega)), if_neg (h 3 (by omega))]
theorem cutW_len (L : List UInt8) : (cutW L).2.length ≤ L.length := by
  unfold cutW
  split
  · show (L.drop 5).length ≤ _; rw [List.length_drop]; omega
  · split
    · show (L.drop 4).length ≤ _; rw [List.length_drop]; omega
    · split
      · show (L.drop 4).length ≤ _; rw [List.length_drop]; omega
      · split
        · show (L.drop 3).length ≤ _; rw [List.length_drop]; omega
        · exact Nat.zero_le _
theorem pcutp_any (L p : List UInt8) (w : World) : Calls Tryz.prog 94 #[.string (strOf L), .string (strOf p)] w fun e w' => e = .returned (.tuple #[.string (strOf (if p.isPrefixOf L = true then L.drop p.length else L)), .bool (p.isPrefixOf L)]) ∧ w' = w := by
  have h := Any.strings_CutPrefix lays103 (strOf L) (strOf p) w
  have e1 : Lib.hasPrefix (strOf L).data.toList (strOf p).data.toList = p.isPrefixOf L := by rw [strOf_list, strOf_list]; rfl
  have e2 : Lib.trimPrefix (strOf L).data.toList (strOf p).data.toList = if p.isPrefixOf L = true then L.drop p.length else L := by unfold Lib.trimPrefix; rw [e1, strOf_list, strOf_list]
  rw [e1, e2] at h
  exact h
set_option maxRecDepth 100000 in
set_option maxHeartbeats 4000000 in
theorem cutw_any (L : List UInt8) (w : World) (h : KdT w) :
    Calls Tryz.prog 55 #[.string (strOf L)] w fun e w' => e = .returned (.tuple #[.int .i64 (((cutW L).1 : Nat) : Int), .string (strOf (cutW L).2)]) ∧ Below w.heap.size w w' := by
  obtain ⟨c0, c1, c2, c3, c4, c5, c6, c7, c8, c9, c10, c11⟩ := h.cells
  obtain ⟨Z, hZ⟩ : ∃ Z, Z = cutW L := ⟨_, rfl⟩
  have HZ := Lib.hid hZ
  rw [← hZ]
  clear h hZ
  go_enter Tryz.func55, Tryz.ntmps55
  go_wp2_with fail
  clear c0 c1 c2 c3 c4 c5 c6 c7 c8 c9 c10 c11
  go_loopw [9] (fun i wr => ∃ k : Nat, k ≤ 4 ∧ i = .int .i64 k ∧ (∀ j, j < k → (wdL j).isPrefixOf L ≠ true) ∧ Below w.heap.size w wr) (fun i _ => 4 - (intOf i).toNat)
  case atStart => exact ⟨0, by omega, rfl, fun j hj => absurd hj (Nat.not_lt_zero _), Below.refl _ _⟩
  case round =>
    obtain ⟨k, hk, rfl, hA, hb⟩ := hrel
    have HB := Lib.hid hb
    have HA := Lib.hid hA
    by_cases hlt : k < 4
    · have hd : decide ((k : Int) < 4) = true := by simp; omega
      have hix := index_kd k hlt
      rw [kdW_wd k hlt] at hix
      have hcp := pcutp_any L (wdL k)
      have HH := Lib.hid (fun h2 => cutW_hit k hlt hA h2)
      generalize kdN k = n at hix
      generalize kdG k = g at hix
      have HWK := Lib.hid (show ∀ j, j < k + 1 → (wdL j).isPrefixOf L = true → j = k from fun j hj hp => by
        by_cases e : j = k
        · exact e
        · exact absurd hp (hA j (by omega)))
      obtain ⟨W1, hW1⟩ : ∃ W1, W1 = wr.alloc (.cells #[.int .i64 n, .int .i64 g, .string (strOf (wdL k))] 89) := ⟨_, rfl⟩
      have hwr1 : wr.alloc (.cells #[.int .i64 n, .int .i64 g, .string (strOf (wdL k))] 89) = W1 := hW1.symm
      have hb1 : Below wr.heap.size wr W1 := by rw [hW1]; exact belowNew wr _
      have hq1 : W1.heap[wr.heap.size]? = some (.cells #[.int .i64 n, .int .i64 g, .string (strOf (wdL k))] 89 (0, 0)) := by rw [hW1]; exact heap_alloc_new wr _
      obtain ⟨r0, r1, r2, l1⟩ := three_facts hq1
      have HB1 := Lib.hid (below_next hb hb1)
      clear hb hA hW1 hb1 hq1
      cases hp : (wdL k).isPrefixOf L with
      | true =>
        have HF := Lib.hid (show Z = (k, L.drop (wdL k).length) by rw [HZ.out]; exact HH.out hp)
        have HC := Lib.hid (fun W => hcp W)
        rw [hp] at HC
        rw [if_pos rfl] at HC
        clear hcp hp HWK HH
        generalize L.drop (wdL k).length = S at HC HF
        go_wp2_with (go_at_call 94; (with_reducible refine (HC.out _).mono ?_); rintro e w2 ⟨rfl, rfl⟩)
        go_ret2
        exact ⟨by rw [HF.out]; rfl, HB1.out⟩
      | false =>
        have HF := Lib.hid (show ∀ j, j < k + 1 → (wdL j).isPrefixOf L ≠ true from fun j hj hq => by
          have e := HWK.out j hj hq
          subst e
          rw [hp] at hq; cases hq)
        have HC := Lib.hid (fun W => hcp W)
        rw [hp] at HC
        clear hcp hp HWK HH
        go_wp2_with (go_at_call 94; (with_reducible refine (HC.out _).mono ?_); rintro e w2 ⟨rfl, rfl⟩)
        go_roundw
        case rel => exact ⟨k + 1, by omega, by go_num, HF.out, HB1.out⟩
        case measure => simp [intOf]; omega
    · obtain rfl : k = 4 := by omega
      have hd : decide (((4 : Nat) : Int) < 4) = false := rfl
      have HF := Lib.hid (show Z = (4, []) by rw [HZ.out]; exact cutW_miss HA.out)
      clear hb hA
      go_wp2_with fail
      go_ret2
      exact ⟨by rw [HF.out]; rfl, HB.out⟩
theorem prsV_small2 {x : ByteArray} (hx : x.size ≤ 150000) : SmallN (prsV x) := by
  unfold prsV
  split
  · cases h : prsN x with
    | none => exact ⟨Nat.zero_le _, fun i hi => absurd hi (Nat.not_lt_zero _)⟩
    | some n => exact prsN_small h hx
  · exact ⟨Nat.zero_le _, fun i hi => absurd hi (Nat.not_lt_zero _)⟩
/-- What Unescape and Unhex answer, as functions. -/
noncomputable def uneF (s : List UInt8) : ByteArray × Bool := @dite _ (∃ l, escL l = s) (Classical.propDecidable _) (fun h => (⟨(Classical.choose h).toArray⟩, true)) (fun _ => (⟨#[]⟩, false))
noncomputable def unhF (s : List UInt8) : ByteArray × Bool := @dite _ (∃ l, hexL l = s) (Classical.propDecidable _) (fun h => (⟨(Classical.choose h).toArray⟩, true)) (fun _ => (⟨#[]⟩, false))
theorem uneF_eq {s : List UInt8} {u : ByteArray} {ok : Bool} (h : Une s u ok) : uneF s = (u, ok) := by
  unfold uneF
  rcases h with ⟨rfl, h⟩ | ⟨rfl, rfl, h⟩
  · have hx : ∃ l, escL l = s := ⟨_, h⟩
    rw [dif_pos hx]
    have := escL_inj ((Classical.choose_spec hx).trans h.symm)
    rw [this]
  · rw [dif_neg (fun ⟨l, k⟩ => h l k)]
theorem unhF_eq {s : List UInt8} {u : ByteArray} {ok : Bool} (h : Unh s u ok) : unhF s = (u, ok) := by
  unfold unhF
  rcases h with ⟨rfl, h⟩ | ⟨rfl, rfl, h⟩
  · have hx : ∃ l, hexL l = s := ⟨_, h⟩
    rw [dif_pos hx]
    have := hexL_inj ((Classical.choose_spec hx).trans h.symm)
    rw [this]
  · rw [dif_neg (fun ⟨l, k⟩ => h l k)]
theorem uneF_size (s : List UInt8) : (uneF s).1.size ≤ s.length := by
  unfold uneF
  split
  · rename_i h
    have h1 := escL_ge (Classical.choose h)
    rw [Classical.choose_spec h] at h1
    show (Classical.choose h).toArray.size ≤ _
    rw [List.size_toArray]; exact h1
  · exact Nat.zero_le _
theorem unhF_size (s : List UInt8) : (unhF s).1.size ≤ s.length := by
  unfold unhF
  split
  · rename_i h
    have h1 := hexL_length (Classical.choose h)
    rw [Classical.choose_spec h] at h1
    show (Classical.choose h).toArray.size ≤ _
    rw [List.size_toArray]; omega
  · exact Nat.zero_le _
/-- What is written behind a word, before Check. -/
noncomputable def prtP (k : Nat) (s : List UInt8) : Nat × Gn :=
  if k = 0 then (if (uneF s).2 = true then (0, (1, (uneF s).1.data.toList, [])) else (32, noG)) else if k = 1 then (if (uneF s).2 = true then (0, (2, (uneF s).1.data.toList, [])) else (32, noG))
  else if k = 2 then (prsErr (strOf s), (4, [], prsV (strOf s))) else if k = 3 then (if (unhF s).2 = true then (0, (7, (unhF s).1.data.toList, [])) else (32, noG)) else (32, noG)
theorem prtP_small {k : Nat} {s : List UInt8} (h : s.length ≤ 150000) : (prtP k s).2.2.1.length ≤ 150000 ∧ SmallN (prtP k s).2.2.2 := by
  have h0 : SmallN [] := ⟨by decide, fun i hi => absurd hi (Nat.not_lt_zero _)⟩
  have h1 := uneF_size s
  have h2 := unhF_size s
  have h3 : (uneF s).1.data.toList.length = (uneF s).1.size := rfl
  have h4 : (unhF s).1.data.toList.length = (unhF s).1.size := rfl
  unfold prtP
  split
  · split
    · exact ⟨by show (uneF s).1.data.toList.length ≤ _; omega, h0⟩
    · exact ⟨Nat.zero_le _, h0⟩
  · split
    · split
      · exact ⟨by show (uneF s).1.data.toList.length ≤ _; omega, h0⟩
      · exact ⟨Nat.zero_le _, h0⟩
    · split
      · exact ⟨Nat.zero_le _, prsV_small2 (x := strOf s) (by rw [strOf_size]; exact h)⟩
      · split
        · split
          · exact ⟨by show (unhF s).1.data.toList.length ≤ _; omega, h0⟩
          · exact ⟨Nat.zero_le _, h0⟩
        · exact ⟨Nat.zero_le _, h0⟩
set_option maxRecDepth 100000 in
set_option maxHeartbeats 8000000 in
theorem prest_any (k : Nat) (s : List UInt8) (hk : k ≤ 4) (w : World) (hs : s.length ≤ 150000) (hT : Tab w) (hS : ShT w) (hK : KdT w) :
    Calls Tryz.prog 56 #[.int .i64 (k : Int), .string (strOf s)] w fun e w' => GRes w (prtP k s) e w' := by
  obtain ⟨W0, hW0⟩ : ∃ W0, W0 = w.alloc (.cells #[.int .i64 0, .string ⟨#[]⟩, .slice none 0 0] 32) := ⟨_, rfl⟩
  have hb0 : Below w.heap.size w W0 := by rw [hW0]; exact belowNew w _
  obtain ⟨r, hr⟩ : ∃ r, r = w.heap.size := ⟨_, rfl⟩
  have hqr : W0.heap[r]? = some (.cells #[.int .i64 0, .string ⟨#[]⟩, .slice none 0 0] 32 (0, 0)) := by rw [hW0, hr]; exact heap_alloc_new w _
  have HWR := Lib.hid hW0.symm
  have HB0 := Lib.hid hb0
  have HQR := Lib.hid hqr
  have hrr : w.heap.size ≤ r := by omega
  have HRE := Lib.hid hr
  have lr : r < W0.heap.size := (Array.getElem?_eq_some_iff.1 hqr).1
  obtain ⟨v0, v1, v2, i0, i1, i2, lv⟩ := at_facts hqr
  have HP := Lib.hid (parse_any (strOf s) W0 (by rw [strOf_size]; exact hs) (hT.below hb0) (hS.below hb0))
  have HU := Lib.hid (une_any (strOf s) W0 (by rw [strOf_size]; omega))
  have HH := Lib.hid (unhex_any (strOf s) W0 (by rw [strOf_size]; omega))
  have HKC := Lib.hid (fun W (hb : Below w.heap.size w W) => (hK.below hb).cells)
  rw [strOf_list] at HU HH
  obtain ⟨R, hR⟩ : ∃ R, R = prtP k s := ⟨_, rfl⟩
  rw [← hR]
  have HR := Lib.hid hR
  clear hW0 hb0 hqr hs hr hR hT hS hK
  rcases (by omega : k = 0 ∨ k = 1 ∨ k = 2 ∨ k = 3 ∨ k = 4) with rfl | rfl | rfl | rfl | rfl
  · have HV0 := Lib.hid (show R = if (uneF s).2 = true then (0, (1, (uneF s).1.data.toList, [])) else (32, noG) by rw [HR.out]; unfold prtP; rw [if_pos rfl])
    go_enter Tryz.func56, Tryz.ntmps56
    go_upto_region 1 with fail
    rw [HWR.out, ← HRE.out]
    go_upto_region 12 with (go_at_call 96; (with_reducible refine HU.out.mono ?_); rintro e w1 ⟨u, ok, rfl, hun, hb1⟩; have HB1 := Lib.hid (below_next HB0.out hb1); have HR1 := Lib.hid ((hb1.block r lr).trans HQR.out); have HUN := Lib.hid (uneF_eq hun); clear hb1 hun v0 v1 v2 i0 i1 i2 lv; obtain ⟨v0, v1, v2, i0, i1, i2, lv⟩ := at_facts HR1.out)
    cases ok with
    | true =>
      have HV := Lib.hid (show R = (0, (1, u.data.toList, [])) by rw [HV0.out, HUN.out]; rfl)
      obtain ⟨k0, k1, k2, k3, k4, k5, k6, k7, k8, k9, k10, k11⟩ := HKC.out _ HB1.out
      obtain ⟨q1, s9, e9, h9, b9⟩ := gres_fin (k := 1) (u := u.data.toList) (aq := none) (cq := 0) (n := []) hrr HR1.out (OwnN.nil _ _) HB1.out HV.out
      rw [← strOf_of (b := u) rfl] at q1 e9 h9 b9
      go_wp2_with fail
      exact bodyPost_ret (gnRes2 rfl _ _ r _ _ _ rfl q1) rfl ⟨s9, by rw [← e9]; rfl, h9, b9⟩
    | false =>
      have HV := Lib.hid (show R = (32, noG) by rw [HV0.out, HUN.out]; rfl)
      obtain ⟨q1, s9, e9, h9, b9⟩ := gres_fin (k := 0) (u := []) (aq := none) (cq := 0) (n := []) hrr HR1.out (OwnN.nil _ _) HB1.out HV.out
      go_wp2_with fail
      exact bodyPost_ret (gnRes2 rfl _ _ r _ _ _ rfl q1) rfl ⟨s9, by rw [← e9]; rfl, h9, b9⟩
  · have HV0 := Lib.hid (show R = if (uneF s).2 = true then (0, (2, (uneF s).1.data.toList, [])) else (32, noG) by rw [HR.out]; unfold prtP; rw [if_neg (by decide), if_pos rfl])
    go_enter Tryz.func56, Tryz.ntmps56
    go_upto_region 1 with fail
    rw [HWR.out, ← HRE.out]
    go_upto_region 12 with (go_at_call 96; (with_reducible refine HU.out.mono ?_); rintro e w1 ⟨u, ok, rfl, hun, hb1⟩; have HB1 := Lib.hid (below_next HB0.out hb1); have HR1 := Lib.hid ((hb1.block r lr).trans HQR.out); have HUN := Lib.hid (uneF_eq hun); clear hb1 hun v0 v1 v2 i0 i1 i2 lv; obtain ⟨v0, v1, v2, i0, i1, i2, lv⟩ := at_facts HR1.out)
    cases ok with
    | true =>
      have HV := Lib.hid (show R = (0, (2, u.data.toList, [])) by rw [HV0.out, HUN.out]; rfl)
      obtain ⟨k0, k1, k2, k3, k4, k5, k6, k7, k8, k9, k10, k11⟩ := HKC.out _ HB1.out
      obtain ⟨q1, s9, e9, h9, b9⟩ := gres_fin (k := 2) (u := u.data.toList) (aq := none) (cq := 0) (n := []) hrr HR1.out (OwnN.nil _ _) HB1.out HV.out
      rw [← strOf_of (b := u) rfl] at q1 e9 h9 b9
      go_wp2_with fail
      exact bodyPost_ret (gnRes2 rfl _ _ r _ _ _ rfl q1) rfl ⟨s9, by rw [← e9]; rfl, h9, b9⟩
    | false =>
      have HV := Lib.hid (show R = (32, noG) by rw [HV0.out, HUN.out]; rfl)
      obtain ⟨q1, s9, e9, h9, b9⟩ := gres_fin (k := 0) (u := []) (aq := none) (cq := 0) (n := []) hrr HR1.out (OwnN.nil _ _) HB1.out HV.out
      go_wp2_with fail
      exact bodyPost_ret (gnRes2 rfl _ _ r _ _ _ rfl q1) rfl ⟨s9, by rw [← e9]; rfl, h9, b9⟩
  · have HV := Lib.hid (show R = (prsErr (strOf s), (4, [], prsV (strOf s))) by rw [HR.out]; unfold prtP; rw [if_neg (by decide), if_neg (by decide), if_pos rfl])
    generalize prsErr (strOf s) = E at HP HV
    generalize prsV (strOf s) = n at HP HV
    go_enter Tryz.func56, Tryz.ntmps56
    go_upto_region 1 with fail
    rw [HWR.out, ← HRE.out]
    go_upto_region 6 with (go_at_call 95; (with_reducible refine HP.out.mono ?_); rintro e w2 ⟨v, rfl, ⟨s2, rfl, hso⟩, hb2⟩; obtain ⟨aq, cq, rfl, hcs, hrl⟩ := hso.lies; have HB2 := Lib.hid (below_next HB0.out hb2); have HR2 := Lib.hid ((hb2.block r lv).trans HQR.out); have HO2 := Lib.hid (hso.base HB0.out.size); clear hcs hrl hso hb2 v0 v1 v2 i0 i1 i2)
    obtain ⟨W3, hW3⟩ : ∃ W3, W3 = w2.alloc (.cells #[.slice aq n.length cq] 30) := ⟨_, rfl⟩
    have hb3 : Below w2.heap.size w2 W3 := by rw [hW3]; exact belowNew w2 _
    have hq3 : W3.heap[w2.heap.size]? = some (.cells #[.slice aq n.length cq] 30 (0, 0)) := by rw [hW3]; exact heap_alloc_new w2 _
    rw [← hW3]
    have hr3 := (hb3.block r (Array.getElem?_eq_some_iff.1 HR2.out).1).trans HR2.out
    obtain ⟨v0, v1, v2, i0, i1, i2, _⟩ := at_facts hr3
    obtain ⟨n0, _, _⟩ := one_facts hq3
    obtain ⟨q1, s9, e9, h9, b9⟩ := gres_fin (k := 4) (u := []) hrr hr3 (HO2.out.below hb3) (below_next HB2.out hb3) HV.out
    clear hb3 hq3 hW3 hr3
    go_wp2_with fail
    exact bodyPost_ret (gnRes2 rfl _ _ r _ _ _ rfl q1) rfl ⟨s9, by rw [← e9]; rfl, h9, b9⟩
  · have HV0 := Lib.hid (show R = if (unhF s).2 = true then (0, (7, (unhF s).1.data.toList, [])) else (32, noG) by rw [HR.out]; unfold prtP; rw [if_neg (by decide), if_neg (by decide), if_neg (by decide), if_pos rfl])
    go_enter Tryz.func56, Tryz.ntmps56
    go_upto_region 1 with fail
    rw [HWR.out, ← HRE.out]
    go_upto_region 12 with (go_at_call 97; (with_reducible refine HH.out.mono ?_); rintro e w1 ⟨u, ok, rfl, hun, hb1⟩; have HB1 := Lib.hid (below_next HB0.out hb1); have HR1 := Lib.hid ((hb1.block r lr).trans HQR.out); have HUN := Lib.hid (unhF_eq hun); clear hb1 hun v0 v1 v2 i0 i1 i2 lv; obtain ⟨v0, v1, v2, i0, i1, i2, lv⟩ := at_facts HR1.out)
    cases ok with
    | true =>
      have HV := Lib.hid (show R = (0, (7, u.data.toList, [])) by rw [HV0.out, HUN.out]; rfl)
      obtain ⟨k0, k1, k2, k3, k4, k5, k6, k7, k8, k9, k10, k11⟩ := HKC.out _ HB1.out
      obtain ⟨q1, s9, e9, h9, b9⟩ := gres_fin (k := 7) (u := u.data.toList) (aq := none) (cq := 0) (n := []) hrr HR1.out (OwnN.nil _ _) HB1.out HV.out
      rw [← strOf_of (b := u) rfl] at q1 e9 h9 b9
      go_wp2_with fail
      exact bodyPost_ret (gnRes2 rfl _ _ r _ _ _ rfl q1) rfl ⟨s9, by rw [← e9]; rfl, h9, b9⟩
    | false =>
      have HV := Lib.hid (show R = (32, noG) by rw [HV0.out, HUN.out]; rfl)
      obtain ⟨q1, s9, e9, h9, b9⟩ := gres_fin (k := 0) (u := []) (aq := none) (cq := 0) (n := []) hrr HR1.out (OwnN.nil _ _) HB1.out HV.out
      go_wp2_with fail
      exact bodyPost_ret (gnRes2 rfl _ _ r _ _ _ rfl q1) rfl ⟨s9, by rw [← e9]; rfl, h9, b9⟩
  · have HV := Lib.hid (show R = (32, noG) by rw [HR.out]; unfold prtP; rw [if_neg (by decide), if_neg (by decide), if_neg (by decide), if_neg (by decide)])
    go_enter Tryz.func56, Tryz.ntmps56
    go_upto_region 1 with fail
    rw [HWR.out, ← HRE.out]
    obtain ⟨q1, s9, e9, h9, b9⟩ := gres_fin (k := 0) (u := []) (aq := none) (cq := 0) (n := []) hrr HQR.out (OwnN.nil _ _) HB0.out HV.out
    go_wp2_with fail
    exact bodyPost_ret (gnRes2 rfl _ _ r _ _ _ rfl q1) rfl ⟨s9, by rw [← e9]; rfl, h9, b9⟩
/-- The error of a general name that may be a base. -/
noncomputable def eitG (k : Int) (t : List UInt8) (n : Nm) : Nat := if chkG false k t n ≠ 0 ∧ chkG true k t n = 0 then 0 else chkG false k t n
set_option maxRecDepth 100000 in
set_option maxHeartbeats 4000000 in
theorem either_core (a0 : Option Addr) (c m : Nat) (k : Int) (t : List UInt8) (n : Nm) (w : World) (h : RLies w a0 n) (hn : m = n.length) (ht : t.length ≤ 150000) (hs : SmallN n) (hT : Tab w) (hmk : Mk w) :
    Calls Tryz.prog 57 #[.agg #[.int .i64 k, .string (strOf t), .slice a0 m c]] w fun e w' => e = .returned (.int .i64 ((eitG k t n : Nat) : Int)) ∧ Below w.heap.size w w' := by
  obtain ⟨W0, hW0⟩ : ∃ W0, W0 = w.alloc (.cells #[.int .i64 k, .string (strOf t), .slice a0 m c] 32) := ⟨_, rfl⟩
  have hwr : w.alloc (.cells #[.int .i64 k, .string (strOf t), .slice a0 m c] 32) = W0 := hW0.symm
  have hb0 : Below w.heap.size w W0 := by rw [hW0]; exact belowNew w _
  have hq0 : W0.heap[w.heap.size]? = some (.cells #[.int .i64 k, .string (strOf t), .slice a0 m c] 32 (0, 0)) := by rw [hW0]; exact heap_alloc_new w _
  obtain ⟨c0, c1, c2, l0⟩ := three_facts hq0
  have HB0 := Lib.hid hb0
  have H1 := Lib.hid (gchk_core a0 c m k t n false W0 (h.below hb0) hn ht hs (hT.below hb0) (hmk.below hb0))
  have H2 := Lib.hid (fun W (hb : Below w.heap.size w W) => gchk_core a0 c m k t n true W (h.below hb) hn ht hs (hT.below hb) (hmk.below hb))
  obtain ⟨R, hR⟩ : ∃ R, R = eitG k t n := ⟨_, rfl⟩
  rw [← hR]
  unfold eitG at hR
  generalize chkG false k t n = E1 at H1 hR
  generalize chkG true k t n = E2 at H2 hR
  clear h hn ht hs hT hmk hW0 hb0 hq0
  by_cases z1 : E1 = 0
  · have HV := Lib.hid (show R = 0 by rw [hR, if_neg (fun q => q.1 z1), z1])
    subst z1
    clear hR
    go_enter Tryz.func57, Tryz.ntmps57
    go_wp2_with (go_at_call 42; (with_reducible refine H1.out.mono ?_); rintro e w1 ⟨rfl, hb1⟩; have HB1 := Lib.hid (below_next HB0.out hb1); have d0 := (hb1.cell (p := ⟨w.heap.size, 0, none⟩) l0).trans c0; have d1 := (hb1.cell (p := ⟨w.heap.size, 1, none⟩) l0).trans c1; have d2 := (hb1.cell (p := ⟨w.heap.size, 2, none⟩) l0).trans c2; clear hb1)
    go_ret
    exact ⟨by rw [HV.out]; rfl, HB1.out⟩
  have n1 := errno_ne z1
  have n1' : (E1 != 0) = true := bne_iff_ne.2 z1
  by_cases z2 : E2 = 0
  · have HV := Lib.hid (show R = 0 by rw [hR, if_pos ⟨z1, z2⟩])
    subst z2
    clear hR z1
    go_enter Tryz.func57, Tryz.ntmps57
    go_wp2_with (first
      | (go_at_call 42; (with_reducible refine H1.out.mono ?_); rintro e w1 ⟨rfl, hb1⟩; have HB1 := Lib.hid (below_next HB0.out hb1); have d0 := (hb1.cell (p := ⟨w.heap.size, 0, none⟩) l0).trans c0; have d1 := (hb1.cell (p := ⟨w.heap.size, 1, none⟩) l0).trans c1; have d2 := (hb1.cell (p := ⟨w.heap.size, 2, none⟩) l0).trans c2; clear hb1)
      | (go_at_call 42; (with_reducible refine (H2.out _ HB1.out).mono ?_); rintro e w2 ⟨rfl, hb2⟩; have HB2 := Lib.hid (below_next HB1.out hb2); clear hb2))
    go_ret
    exact ⟨by rw [HV.out]; rfl, HB2.out⟩
  · have HV := Lib.hid (show R = E1 by rw [hR, if_neg (fun q => z2 q.2)])
    have n2 : ((E2 : Int) == 0) = false := beq_eq_false_iff_ne.2 (by omega)
    have n3 : (E2 == 0) = false := beq_eq_false_iff_ne.2 z2
    clear hR z1 z2
    go_enter Tryz.func57, Tryz.ntmps57
    go_wp2_with (first
      | (go_at_call 42; (with_reducible refine H1.out.mono ?_); rintro e w1 ⟨rfl, hb1⟩; have HB1 := Lib.hid (below_next HB0.out hb1); have d0 := (hb1.cell (p := ⟨w.heap.size, 0, none⟩) l0).trans c0; have d1 := (hb1.cell (p := ⟨w.heap.size, 1, none⟩) l0).trans c1; have d2 := (hb1.cell (p := ⟨w.heap.size, 2, none⟩) l0).trans c2; clear hb1)
      | (go_at_call 42; (with_reducible refine (H2.out _ HB1.out).mono ?_); rintro e w2 ⟨rfl, hb2⟩; have HB2 := Lib.hid (below_next HB1.out hb2); clear hb2))
    go_ret
    exact ⟨by rw [HV.out]; rfl, HB2.out⟩
/-- What Parse answers. -/
noncomputable def parG (s : List UInt8) : Nat × Gn := genC (prtP (cutW s).1 (cutW s).2).1 (prtP (cutW s).1 (cutW s).2).2 (eitG (prtP (cutW s).1 (cutW s).2).2.1 (prtP (cutW s).1 (cutW s).2).2.2.1 (prtP (cutW s).1 (cutW s).2).2.2.2)
theorem cutW_le (L : List UInt8) : (cutW L).1 ≤ 4 := by
  unfold cutW
  split
  · exact Nat.zero_le _
  · split
    · show 1 ≤ 4; omega
    · split
      · show 2 ≤ 4; omega
      · split
        · show 3 ≤ 4; omega
        · exact Nat.le_refl _
set_option maxRecDepth 100000 in
set_option maxHeartbeats 8000000 in
theorem gpar_core (s : List UInt8) (w : World) (hs : s.length ≤ 150000) (hT : Tab w) (hS : ShT w) (hmk : Mk w) :
    Calls Tryz.prog 27 #[.string (strOf s)] w fun e w' => GRes w (parG s) e w' := by
  obtain ⟨W0, hW0⟩ : ∃ W0, W0 = w.alloc (.cells #[.int .i64 0, .string ⟨#[]⟩, .slice none 0 0] 32) := ⟨_, rfl⟩
  have hb0 : Below w.heap.size w W0 := by rw [hW0]; exact belowNew w _
  obtain ⟨r, hr⟩ : ∃ r, r = w.heap.size := ⟨_, rfl⟩
  have hqr : W0.heap[r]? = some (.cells #[.int .i64 0, .string ⟨#[]⟩, .slice none 0 0] 32 (0, 0)) := by rw [hW0, hr]; exact heap_alloc_new w _
  have HWR := Lib.hid hW0.symm
  have HB0 := Lib.hid hb0
  have HQR := Lib.hid hqr
  have hrr : w.heap.size ≤ r := by omega
  have HRE := Lib.hid hr
  have lr : r < W0.heap.size := (Array.getElem?_eq_some_iff.1 hqr).1
  have HCW := Lib.hid (cutw_any s W0 (hmk.below hb0).2)
  have hcl := Nat.le_trans (cutW_len s) hs
  have hck := cutW_le s
  obtain ⟨R, hR⟩ : ∃ R, R = parG s := ⟨_, rfl⟩
  rw [← hR]
  unfold parG at hR
  generalize cutW s = C at HCW hcl hck hR
  obtain ⟨kk, x⟩ := C
  simp only at HCW hcl hck hR
  have HPR := Lib.hid (fun W (hb : Below w.heap.size w W) => prest_any kk x hck W hcl (hT.below hb) (hS.below hb) (hmk.below hb).2)
  have hsm := prtP_small (k := kk) hcl
  have HCH := Lib.hid (fun W (hb : Below w.heap.size w W) aq cq (k : Int) (u : List UInt8) (n : Nm) (h : RLies W aq n) (hu : u.length ≤ 150000) (hs : SmallN n) => either_core aq cq n.length k u n W h rfl hu hs (hT.below hb) (hmk.below hb))
  generalize prtP kk x = P at HPR hR hsm
  obtain ⟨E, k, u, n⟩ := P
  simp only at hR hsm
  have HSM := Lib.hid hsm
  have HR := Lib.hid hR
  clear hW0 hb0 hqr hs hr hR hT hS hmk hsm hcl hck
  go_enter Tryz.func27, Tryz.ntmps27
  go_upto_region 1 with fail
  rw [HWR.out, ← HRE.out]
  go_upto_region 3 with (first
    | (go_at_call 55; (with_reducible refine HCW.out.mono ?_); rintro e w7 ⟨rfl, hb7⟩; have HB7 := Lib.hid (below_next HB0.out hb7); have HR7 := Lib.hid ((hb7.block r lr).trans HQR.out); have HL7 := Lib.hid (Nat.lt_of_lt_of_le lr hb7.size); clear hb7)
    | (go_at_call 56; (with_reducible refine (HPR.out _ HB7.out).mono ?_); rintro e w1 ⟨s1, rfl, hso, hb1⟩; obtain ⟨aq, cq, rfl, hcs, hrl⟩ := hso.lies; have HB1 := Lib.hid (below_next HB7.out hb1); have HR1 := Lib.hid ((hb1.block r HL7.out).trans HR7.out); have HO1 := Lib.hid (hso.base HB7.out.size); have HL1 := Lib.hid hrl; clear hcs hrl hso hb1))
  obtain ⟨W2, hW2⟩ : ∃ W2, W2 = w1.alloc (.cells #[.int .i64 k, .string (strOf u), .slice aq n.length cq] 32) := ⟨_, rfl⟩
  obtain ⟨g, hg⟩ : ∃ g, g = w1.heap.size := ⟨_, rfl⟩
  have hb2 : Below w1.heap.size w1 W2 := by rw [hW2]; exact belowNew w1 _
  have hq2 : W2.heap[g]? = some (.cells #[.int .i64 k, .string (strOf u), .slice aq n.length cq] 32 (0, 0)) := by rw [hW2, hg]; exact heap_alloc_new w1 _
  rw [← hW2, ← hg]
  have hr2 := (hb2.block r (Array.getElem?_eq_some_iff.1 HR1.out).1).trans HR1.out
  have hrg : r < g := by rw [hg]; exact (Array.getElem?_eq_some_iff.1 HR1.out).1
  obtain ⟨v0, v1, v2, i0, i1, i2, lv⟩ := at_facts hr2
  obtain ⟨g0, g1, g2, _, _, _, lg⟩ := at_facts hq2
  have HB2 := Lib.hid (below_next HB1.out hb2)
  have HG2 := Lib.hid hq2
  have HR2 := Lib.hid hr2
  have HO2 := Lib.hid (HO1.out.below hb2)
  have HL2 := Lib.hid (HL1.out.below hb2)
  clear hW2 hg hb2 hq2 hr2
  by_cases hz : E = 0
  · subst hz
    have HK := Lib.hid (HCH.out W2 HB2.out aq cq k u n HL2.out HSM.out.1 HSM.out.2)
    clear HCH
    generalize eitG k u n = E1 at HK HR
    by_cases hz1 : E1 = 0
    · subst hz1
      have HV := Lib.hid (HR.out.trans genC_c)
      go_wp2_with (go_at_call 57; (with_reducible refine HK.out.mono ?_); rintro e w3 ⟨rfl, hb3⟩; have HB3 := Lib.hid (below_next HB2.out hb3); have HR3 := Lib.hid ((hb3.block r lv).trans HR2.out); have HG3 := Lib.hid ((hb3.block g lg).trans HG2.out); have HO3 := Lib.hid (HO2.out.below hb3); clear hb3 v0 v1 v2 i0 i1 i2 lv g0 g1 g2 lg; obtain ⟨v0, v1, v2, i0, i1, i2, lv⟩ := at_facts HR3.out; obtain ⟨g0, g1, g2, _, _, _, lg⟩ := at_facts HG3.out)
      obtain ⟨q1, s9, e9, h9, b9⟩ := gres_fin hrr HR3.out HO3.out HB3.out HV.out
      exact bodyPost_ret (gnRes2 rfl _ _ r _ _ _ rfl q1) rfl ⟨s9, by rw [← e9]; rfl, h9, b9⟩
    · have hz2 := errno_ne hz1
      have HV := Lib.hid (HR.out.trans (genC_b hz1))
      clear hz1
      go_wp2_with (go_at_call 57; (with_reducible refine HK.out.mono ?_); rintro e w3 ⟨rfl, hb3⟩; have HB3 := Lib.hid (below_next HB2.out hb3); have HR3 := Lib.hid ((hb3.block r lv).trans HR2.out); clear hb3 v0 v1 v2 i0 i1 i2 lv g0 g1 g2 lg; obtain ⟨v0, v1, v2, i0, i1, i2, lv⟩ := at_facts HR3.out)
      obtain ⟨q1, s9, e9, h9, b9⟩ := gres_fin (k := 0) (u := []) (aq := none) (cq := 0) (n := []) hrr HR3.out (OwnN.nil _ _) HB3.out HV.out
      exact bodyPost_ret (gnRes2 rfl _ _ r _ _ _ rfl q1) rfl ⟨s9, by rw [← e9]; rfl, h9, b9⟩
  · have hz2 := errno_ne hz
    have HV := Lib.hid (HR.out.trans (genC_a hz))
    clear hz HCH
    go_wp2_with fail
    obtain ⟨q1, s9, e9, h9, b9⟩ := gres_fin (k := 0) (u := []) (aq := none) (cq := 0) (n := []) hrr HR2.out (OwnN.nil _ _) HB2.out HV.out
    exact bodyPost_ret (gnRes2 rfl _ _ r _ _ _ rfl q1) rfl ⟨s9, by rw [← e9]; rfl, h9, b9⟩
end Go.Proofs.YtflpajbcomhkpaaGreatDoor
namespace Go.Proofs.YtflpajbcomhkpaaGreatDoor
open Go.RowKit

theorem slice_one (s : ByteArray) (k : Nat) (c : UInt8) (hc : s.data.toList[k]? = some c) (hk : k < s.size) (w : World) :
    (Instr.slice 9 (.string s) (some (.int .i64 (k : Int))) (some (.int .i64 ((k : Int) + 1))) none).run Tryz.prog w = .ok (.string (strOf [c])) w := by
  have := slice_two s k (k + 1) (by omega) (by omega) (k : Int) ((k : Int) + 1) rfl (by omega) w
  rw [show k + 1 - k = 1 by omega, drop_cons hc] at this
  exact this

set_option maxRecDepth 100000 in
set_option maxHeartbeats 2000000 in
theorem resc_any (s : ByteArray) (w : World) (hn : s.size ≤ 1099511627776) :
    Calls Tryz.prog 52 #[.string s] w fun e w' => e = .returned (.string (escS s)) ∧ Below w.heap.size w w' := by
  go_enter Tryz.func52, Tryz.ntmps52
  go_wp2_with fail
  go_loopw [3, 4] (fun v i wr => ∃ (k : Nat) (O : ByteArray), k ≤ s.size ∧ i = .int .i64 k ∧ v = .string O ∧ O = strOf (escL (s.data.toList.take k)) ∧ Below w.heap.size w wr) (fun _ i _ => s.size - (intOf i).toNat)
  case atStart => exact ⟨0, ⟨#[]⟩, Nat.zero_le _, rfl, rfl, rfl, Below.refl _ _⟩
  case round =>
    obtain ⟨k, O, hk, rfl, rfl, hO, hb⟩ := hrel
    have HB := Lib.hid hb
    have hOl : O.size ≤ 3 * k := by
      have := escL_len (s.data.toList.take k)
      rw [take_len s hk] at this
      rw [hO, strOf_size]; exact this
    have HO := Lib.hid hO
    clear hb hO
    by_cases hlt : k < s.size
    · have hd : decide ((k : Int) < (s.size : Int)) = true := by simp; omega
      obtain ⟨c, hc, hcn⟩ := u8at_list s k hlt
      have hix := fun w => run_index_u8 (P := Tryz.prog) Tryz.underlying9 s k hlt (k : Int) rfl w
      rw [hcn] at hix
      have hsl := fun w => slice_one s k c hc hlt w
      have HS := Lib.hid (show escL (s.data.toList.take (k + 1)) = escL (s.data.toList.take k) ++ escB c by rw [take_snoc hc, escL_snoc])
      clear hc hcn
      cases hp : plainB c with
      | true =>
        have HP := Lib.hid (fun w => plain_is hp w)
        have hcat := cat_any O (strOf [c]) (by rw [strOf_size]; simp; omega)
        have HN := Lib.hid (show O ++ strOf [c] = strOf (escL (s.data.toList.take (k + 1))) by rw [HO.out, str_cat, HS.out, escB_plain hp])
        clear hp
        go_wp2_with (go_at_call 92; (with_reducible refine (HP.out _).mono ?_); rintro e w3 ⟨rfl, rfl⟩)
        go_roundw
        case rel => exact ⟨k + 1, O ++ strOf [c], by omega, by go_num, rfl, HN.out, HB.out⟩
        case measure => simp [intOf]; omega
      | false =>
        have HP := Lib.hid (fun w => plain_is hp w)
        have HH := Lib.hid (fun w => refhex_any (strOf [c]) w (by rw [strOf_size]; simp))
        rw [strOf_list] at HH
        have HN := Lib.hid (show O ++ ((⟨#[92]⟩ : ByteArray) ++ ⟨(hexL [c]).toArray⟩) = strOf (escL (s.data.toList.take (k + 1))) by
          rw [HO.out, show (⟨#[92]⟩ : ByteArray) = strOf [92] from rfl, show (⟨(hexL [c]).toArray⟩ : ByteArray) = strOf (hexL [c]) from rfl, str_cat, str_cat, HS.out, escB_other hp]
          rfl)
        obtain ⟨X, hX⟩ : ∃ X : ByteArray, X = ⟨(hexL [c]).toArray⟩ := ⟨_, rfl⟩
        have hXz : X.size = 2 := by rw [hX]; rfl
        rw [← hX] at HH HN
        have hcat1 := cat_any ⟨#[92]⟩ X (by rw [hXz]; show 1 + 2 ≤ _; omega)
        have hz1 : ((⟨#[92]⟩ : ByteArray) ++ X).size = 3 := by rw [ByteArray.size_append, hXz]; rfl
        generalize (⟨#[92]⟩ : ByteArray) ++ X = Y at hcat1 HN hz1
        have hcat2 := cat_any O Y (by omega)
        clear hp hX
        go_wp2_with (first
          | (go_at_call 92; (with_reducible refine (HP.out _).mono ?_); rintro e w3 ⟨rfl, rfl⟩)
          | (go_at_call 53; (with_reducible refine (HH.out _).mono ?_); rintro e w4 ⟨rfl, hb4⟩; have HB4 := Lib.hid (below_next HB.out hb4); clear hb4))
        go_roundw
        case rel => exact ⟨k + 1, O ++ Y, by omega, by go_num, rfl, HN.out, HB4.out⟩
        case measure => simp [intOf]; omega
    · have ek : k = s.size := by omega
      subst ek
      have hd : decide ((s.size : Int) < (s.size : Int)) = false := by simp
      have HR := Lib.hid (show O = escS s by rw [HO.out, take_all s (Nat.le_refl _)]; rfl)
      go_wp2_with fail
      go_ret
      exact ⟨by rw [← HR.out]; rfl, HB.out⟩

theorem unh_yes {H l : List UInt8} (h : hexL l = H) (w : World) (hn : H.length ≤ 1099511627776) :
    Calls Tryz.prog 59 #[.string (strOf H)] w fun e w' => e = .returned (.tuple #[.string (strOf l), .bool true]) ∧ Below w.heap.size w w' :=
  (refunhex_any (strOf H) w hn).mono fun _ _ ⟨u, ok, h1, h2, h3⟩ => by
    rcases h2 with ⟨rfl, h4⟩ | ⟨_, _, h4⟩
    · rw [strOf_list] at h4
      have : u.data.toList = l := hexL_inj (h4.trans h.symm)
      rw [strOf_of this] at h1
      exact ⟨h1, h3⟩
    · exact absurd h (h4 l)
theorem unh_no {H : List UInt8} (h : ∀ l, hexL l ≠ H) (w : World) (hn : H.length ≤ 1099511627776) :
    Calls Tryz.prog 59 #[.string (strOf H)] w fun e w' => e = .returned (.tuple #[.string ⟨#[]⟩, .bool false]) ∧ Below w.heap.size w w' :=
  (refunhex_any (strOf H) w hn).mono fun _ _ ⟨u, ok, h1, h2, h3⟩ => by
    rcases h2 with ⟨_, h4⟩ | ⟨rfl, rfl, _⟩
    · rw [strOf_list] at h4; exact absurd h4 (h _)
    · exact ⟨h1, h3⟩
theorem hex_or (H : List UInt8) : (∃ l, hexL l = H) ∨ ∀ l, hexL l ≠ H := (Classical.em _).imp id fun h a k => h ⟨a, k⟩

set_option maxRecDepth 100000 in
set_option maxHeartbeats 4000000 in
theorem rune_any (s : ByteArray) (w : World) (hn : s.size ≤ 100000000000) :
    Calls Tryz.prog 58 #[.string s] w fun e w' => ∃ u ok, e = .returned (.tuple #[.string u, .bool ok]) ∧ Une s.data.toList u ok ∧ Below w.heap.size w w' := by
  have HSL := Lib.hid (show s.data.toList.length = s.size from rfl)
  go_enter Tryz.func58, Tryz.ntmps58
  go_wp2_with fail
  go_loopw [4, 5] (fun v i wr => ∃ (k : Nat) (O : ByteArray), k ≤ s.size ∧ i = .int .i64 k ∧ v = .string O ∧ O.size ≤ k ∧ Way s.data.toList k O.data.toList ∧ Below w.heap.size w wr) (fun _ i _ => s.size - (intOf i).toNat)
  case atStart => exact ⟨0, ⟨#[]⟩, Nat.zero_le _, rfl, rfl, Nat.le_refl _, Way.start _, Below.refl _ _⟩
  case round =>
    obtain ⟨k, O, hk, rfl, rfl, hOk, hW, hb⟩ := hrel
    have HB := Lib.hid hb
    have HW := Lib.hid hW
    clear hb hW
    by_cases hlt : k < s.size
    · have hd : decide ((k : Int) < (s.size : Int)) = true := by simp; omega
      obtain ⟨c, hc, hcn⟩ := u8at_list s k hlt
      have hix := fun w => run_index_u8 (P := Tryz.prog) Tryz.underlying9 s k hlt (k : Int) rfl w
      rw [hcn] at hix
      have hsl := fun w => slice_one s k c hc hlt w
      have HC := Lib.hid hc
      clear hc hcn
      by_cases h92 : c = 92
      · have hq : (((c.toNat : Nat) : Int) != 92) = false := by rw [h92]; rfl
        have HC92 := Lib.hid (show s.data.toList[k]? = some 92 by rw [HC.out, h92])
        clear hsl h92
        by_cases h3 : s.size < k + 3
        · have d3 : decide ((s.size : Int) - (k : Int) < 3) = true := by simp; omega
          have HN := Lib.hid (HW.out.short HC92.out (by rw [HSL.out]; exact h3))
          clear h3
          go_wp2_with fail
          go_ret2
          exact ⟨_, _, rfl, .inr ⟨rfl, rfl, HN.out⟩, HB.out⟩
        · have d3 : decide ((s.size : Int) - (k : Int) < 3) = false := by simp; omega
          have hk3 : k + 3 ≤ s.size := by omega
          have hsl : ∀ w, (Instr.slice 9 (.string s) (some (.int .i64 ((k : Int) + 1))) (some (.int .i64 ((k : Int) + 3))) none).run Tryz.prog w = .ok (.string (strOf ((s.data.toList.drop (k + 1)).take 2))) w := fun w => by
            have := slice_two s (k + 1) (k + 3) (by omega) hk3 ((k : Int) + 1) ((k : Int) + 3) (by omega) (by omega) w
            rwa [show k + 3 - (k + 1) = 2 by omega] at this
          have hl : ((s.data.toList.drop (k + 1)).take 2).length ≤ 2 := by rw [List.length_take]; omega
          have HWN := Lib.hid (fun (u : ByteArray) h => HW.out.next (u := u) HC92.out h)
          have HWO := Lib.hid (fun h => HW.out.no HC92.out h)
          generalize (s.data.toList.drop (k + 1)).take 2 = H at hsl hl HWN HWO
          clear h3
          rcases hex_or H with ⟨l, h⟩ | h
          · have HU := Lib.hid (fun w => unh_yes h w (by omega))
            have hll : l.length ≤ 1 := by
              have := congrArg List.length h
              rw [hexL_length] at this; omega
            have HN := Lib.hid (HWN.out (strOf l) (by rw [strOf_list]; exact h))
            have hcat := cat_any O (strOf l) (by rw [strOf_size]; omega)
            have HZ := Lib.hid (show (O ++ strOf l).size ≤ k + 3 by rw [ByteArray.size_append, strOf_size]; omega)
            clear h
            go_wp2_with (go_at_call 59; (with_reducible refine (HU.out _).mono ?_); rintro e w4 ⟨rfl, hb4⟩; have HB4 := Lib.hid (below_next HB.out hb4); clear hb4)
            go_roundw
            case rel => exact ⟨k + 3, O ++ strOf l, hk3, by go_num, rfl, HZ.out, by rw [str_add]; exact HN.out, HB4.out⟩
            case measure => simp [intOf]; omega
          · have HU := Lib.hid (fun w => unh_no h w (by omega))
            have HN := Lib.hid (HWO.out h)
            clear h
            go_wp2_with (go_at_call 59; (with_reducible refine (HU.out _).mono ?_); rintro e w4 ⟨rfl, hb4⟩; have HB4 := Lib.hid (below_next HB.out hb4); clear hb4)
            go_ret2
            exact ⟨_, _, rfl, .inr ⟨rfl, rfl, HN.out⟩, HB4.out⟩
      · have h92n : ¬ c.toNat = 92 := fun h => h92 (UInt8.toNat_inj.1 h)
        have hq : (((c.toNat : Nat) : Int) != 92) = true := by simp; omega
        have HN := Lib.hid (HW.out.one HC.out h92)
        have hcat := cat_any O (strOf [c]) (by rw [strOf_size]; simp; omega)
        have HZ := Lib.hid (show (O ++ strOf [c]).size ≤ k + 1 by rw [ByteArray.size_append, strOf_size]; simp; omega)
        clear h92 h92n
        go_wp2_with fail
        go_roundw
        case rel => exact ⟨k + 1, O ++ strOf [c], by omega, by go_num, rfl, HZ.out, by rw [str_add]; exact HN.out, HB.out⟩
        case measure => simp [intOf]; omega
    · have ek : k = s.size := by omega
      subst ek
      have hd : decide ((s.size : Int) < (s.size : Int)) = false := by simp
      have HE := Lib.hid (fun w => resc_any O w (by omega))
      have hll := HSL.out
      by_cases h : escL O.data.toList = s.data.toList
      · have HH := Lib.hid h
        have he : escS O = s := by unfold escS; rw [h]; exact (strOf_of rfl).symm
        rw [he] at HE
        have hq1 : (s.toList == s.toList) = true := by simp
        have hq2 : (s.toList != s.toList) = false := by simp
        clear h he hll
        go_wp2_with (go_at_call 52; (with_reducible refine (HE.out _).mono ?_); rintro e w4 ⟨rfl, hb4⟩; have HB4 := Lib.hid (below_next HB.out hb4); clear hb4)
        go_ret2
        exact ⟨_, _, rfl, .inl ⟨rfl, HH.out⟩, HB4.out⟩
      · have HN := Lib.hid (HW.out.last (by omega) h)
        have hne : ¬ (escS O).toList = s.toList := fun e => h (by
          have := toList_inj.1 e
          rw [← this]; rfl)
        generalize escS O = E at HE hne
        have hq1 : (E.toList == s.toList) = false := by simpa using hne
        have hq2 : (E.toList != s.toList) = true := by simpa using hne
        clear h hne hll
        go_wp2_with (go_at_call 52; (with_reducible refine (HE.out _).mono ?_); rintro e w4 ⟨rfl, hb4⟩; have HB4 := Lib.hid (below_next HB.out hb4); clear hb4)
        go_ret2
        exact ⟨_, _, rfl, .inr ⟨rfl, rfl, HN.out⟩, HB4.out⟩
end Go.Proofs.YtflpajbcomhkpaaGreatDoor
