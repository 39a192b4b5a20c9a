/-
  The contract of the reference's ParseGeneral: the same answer as that of gname's Parse.
-/
import Derived.Test.YtflpajbcomhkpaaGreatDoorSbi
import Derived.Test.YtflpajbcomhkpaaGreatDoorSbg
import Derived.Test.YtflpajbcomhkpaaGreatDoorSbj
import Derived.Test.YtflpajbcomhkpaaGreatDoorSbh
namespace Go.Proofs.YtflpajbcomhkpaaGreatDoor
open Go.RowKit

theorem pre_colon : ∀ (wd A B : List UInt8), (58 : UInt8) ∉ wd → (58 : UInt8) ∉ A → ((wd ++ [58]).isPrefixOf (A ++ 58 :: B) = true ↔ wd = A)
  | [], [], B, _, _ => by simp
  | [], a :: A, B, _, h2 => by
    constructor
    · intro h
      have : (58 : UInt8) = a := by simpa using h
      exact absurd (this ▸ List.mem_cons_self) h2
    · intro h; cases h
  | x :: wd, [], B, h1, _ => by
    constructor
    · intro h
      have : x = (58 : UInt8) := by
        have h' : (x == (58 : UInt8) && (wd ++ [58]).isPrefixOf B) = true := h
        rw [Bool.and_eq_true] at h'
        exact beq_iff_eq.1 h'.1
      exact absurd (this ▸ List.mem_cons_self) h1
    · intro h; cases h
  | x :: wd, a :: A, B, h1, h2 => by
    have ih := pre_colon wd A B (fun h => h1 (List.mem_cons_of_mem _ h)) (fun h => h2 (List.mem_cons_of_mem _ h))
    have e : ((x :: wd ++ [58]).isPrefixOf (a :: A ++ 58 :: B)) = (x == a && (wd ++ [58]).isPrefixOf (A ++ 58 :: B)) := rfl
    rw [e, Bool.and_eq_true, ih, List.cons.injEq, beq_iff_eq]
theorem pre_none : ∀ (wd L : List UInt8), (58 : UInt8) ∉ L → (wd ++ [58]).isPrefixOf L ≠ true
  | [], [], _ => by simp
  | [], a :: L, h => fun k => by
    have : (58 : UInt8) = a := by simpa using k
    exact h (this ▸ List.mem_cons_self)
  | x :: wd, [], _ => by simp
  | x :: wd, a :: L, h => fun k => by
    have e : ((x :: wd ++ [58]).isPrefixOf (a :: L)) = (x == a && (wd ++ [58]).isPrefixOf L) := rfl
    rw [e, Bool.and_eq_true] at k
    exact pre_none wd L (fun q => h (List.mem_cons_of_mem _ q)) k.2
theorem cutW_none {L : List UInt8} (h : (58 : UInt8) ∉ L) : cutW L = (4, []) := cutW_miss (fun j hj => by
  rcases (by omega : j = 0 ∨ j = 1 ∨ j = 2 ∨ j = 3) with rfl | rfl | rfl | rfl
  · exact pre_none [109, 97, 105, 108] L h
  · exact pre_none [100, 110, 115] L h
  · exact pre_none [100, 105, 114] L h
  · exact pre_none [105, 112] L h)
/-- The place of a word in front of the first colon. -/
def wdK (A : List UInt8) : Nat := if A = [109, 97, 105, 108] then 0 else if A = [100, 110, 115] then 1 else if A = [100, 105, 114] then 2 else if A = [105, 112] then 3 else 4
theorem cutW_colon {A B : List UInt8} (h : (58 : UInt8) ∉ A) : cutW (A ++ 58 :: B) = if wdK A = 4 then (4, []) else (wdK A, B) := by
  have p0 : (wdL 0).isPrefixOf (A ++ 58 :: B) = true ↔ [109, 97, 105, 108] = A := pre_colon [109, 97, 105, 108] A B (by decide) h
  have p1 : (wdL 1).isPrefixOf (A ++ 58 :: B) = true ↔ [100, 110, 115] = A := pre_colon [100, 110, 115] A B (by decide) h
  have p2 : (wdL 2).isPrefixOf (A ++ 58 :: B) = true ↔ [100, 105, 114] = A := pre_colon [100, 105, 114] A B (by decide) h
  have p3 : (wdL 3).isPrefixOf (A ++ 58 :: B) = true ↔ [105, 112] = A := pre_colon [105, 112] A B (by decide) h
  unfold cutW wdK
  by_cases h0 : A = [109, 97, 105, 108]
  · subst h0
    rw [if_pos (p0.2 rfl), if_pos rfl, if_neg (by decide)]; rfl
  · rw [if_neg (fun q => h0 (p0.1 q).symm), if_neg h0]
    by_cases h1 : A = [100, 110, 115]
    · subst h1
      rw [if_pos (p1.2 rfl), if_pos rfl, if_neg (by decide)]; rfl
    · rw [if_neg (fun q => h1 (p1.1 q).symm), if_neg h1]
      by_cases h2 : A = [100, 105, 114]
      · subst h2
        rw [if_pos (p2.2 rfl), if_pos rfl, if_neg (by decide)]; rfl
      · rw [if_neg (fun q => h2 (p2.1 q).symm), if_neg h2]
        by_cases h3 : A = [105, 112]
        · subst h3
          rw [if_pos (p3.2 rfl), if_pos rfl, if_neg (by decide)]; rfl
        · rw [if_neg (fun q => h3 (p3.1 q).symm), if_neg h3, if_pos rfl]
theorem parG_at {s : List UInt8} {k : Nat} {x : List UInt8} (h : cutW s = (k, x)) : parG s = genC (prtP k x).1 (prtP k x).2 (eitG (prtP k x).2.1 (prtP k x).2.2.1 (prtP k x).2.2.2) := by unfold parG; rw [h]
theorem prtP_4 (x : List UInt8) : prtP 4 x = (32, noG) := by unfold prtP; rw [if_neg (by decide), if_neg (by decide), if_neg (by decide), if_neg (by decide)]
theorem parG_4 {s x : List UInt8} (h : cutW s = (4, x)) : parG s = (32, noG) := by rw [parG_at h, prtP_4]; exact genC_a (by decide)
theorem parG_2 {s x : List UInt8} (h : cutW s = (2, x)) : parG s = if prsErr (strOf x) ≠ 0 then (prsErr (strOf x), noG) else (0, (4, [], prsV (strOf x))) := by
  have e : prtP 2 x = (prsErr (strOf x), (4, [], prsV (strOf x))) := by unfold prtP; rw [if_neg (by decide), if_neg (by decide), if_pos rfl]
  rw [parG_at h, e]
  by_cases hz : prsErr (strOf x) ≠ 0
  · rw [if_pos hz]; exact genC_a hz
  · rw [if_neg hz]
    have h0 : prsErr (strOf x) = 0 := Classical.not_not.1 hz
    have hc : chkN (prsV (strOf x)) = 0 := by
      unfold prsV
      rw [if_pos h0]
      unfold prsErr at h0
      cases hp : prsN (strOf x) with
      | none => rw [hp] at h0; cases h0
      | some n => rw [hp] at h0; exact h0
    have hg : eitG 4 [] (prsV (strOf x)) = 0 := by
      unfold eitG
      rw [if_neg (fun q => q.1 (by rw [chkG_dir, if_pos rfl]; exact hc)), chkG_dir, if_pos rfl]; exact hc
    show genC (prsErr (strOf x)) (4, [], prsV (strOf x)) (eitG 4 [] (prsV (strOf x))) = _
    rw [h0, hg]; exact genC_c
theorem parG_bad {s x : List UInt8} {k : Nat} {g : Gn} (h : cutW s = (k, x)) (hp : prtP k x = (32, g)) : parG s = (32, noG) := by rw [parG_at h, hp]; exact genC_a (show (32 : Nat) ≠ 0 by decide)
theorem parG_good {s x : List UInt8} {k : Nat} {g : Gn} (h : cutW s = (k, x)) (hp : prtP k x = (0, g)) : parG s = genC 0 g (eitG g.1 g.2.1 g.2.2) := by rw [parG_at h, hp]
set_option maxRecDepth 100000 in
set_option maxHeartbeats 16000000 in
theorem rpar_core (L : List UInt8) (w : World) (hs : L.length ≤ 150000) :
    Calls Tryz.prog 28 #[.string (strOf L)] w fun e w' => GRes w (parG L) e w' := by
  obtain ⟨r, hr⟩ : ∃ r, r = w.heap.size := ⟨_, rfl⟩
  obtain ⟨W0, hW0⟩ : ∃ W0, W0 = (w.alloc (.cells #[.int .i64 0, .string ⟨#[]⟩, .slice none 0 0] 32)).alloc (.cells #[.int .i64 0, .string ⟨#[]⟩, .slice none 0 0] 32) := ⟨_, rfl⟩
  have hb0 : Below w.heap.size w W0 := by rw [hW0]; exact belowTwo w _ _
  have hqr : W0.heap[r]? = some (.cells #[.int .i64 0, .string ⟨#[]⟩, .slice none 0 0] 32 (0, 0)) := by rw [hW0, hr]; exact ((belowNew _ _).block _ (by simp)).trans (heap_alloc_new w _)
  have hqn : W0.heap[r + 1]? = some (.cells #[.int .i64 0, .string ⟨#[]⟩, .slice none 0 0] 32 (0, 0)) := by
    have h1 := heap_alloc_new (w.alloc (.cells #[.int .i64 0, .string ⟨#[]⟩, .slice none 0 0] 32)) (.cells #[.int .i64 0, .string ⟨#[]⟩, .slice none 0 0] 32)
    rw [show (w.alloc (.cells #[.int .i64 0, .string ⟨#[]⟩, .slice none 0 0] 32)).heap.size = r + 1 by rw [hr]; simp] at h1
    rw [hW0]; exact h1
  have hz0 : W0.heap.size = r + 2 := by rw [hW0, hr]; simp
  have HWR := Lib.hid hW0.symm
  have HB0 := Lib.hid hb0
  have HQR := Lib.hid hqr
  have HQN := Lib.hid hqn
  have hrr : w.heap.size ≤ r := by omega
  have HRE := Lib.hid hr
  have HZ0 := Lib.hid hz0
  have es := strOf_size L
  obtain ⟨R, hR⟩ : ∃ R, R = parG L := ⟨_, rfl⟩
  rw [← hR]
  have HR := Lib.hid hR
  clear hW0 hb0 hqr hqn hr hR hz0
  go_enter Tryz.func28, Tryz.ntmps28
  go_upto_region 2 with fail
  rw [HWR.out, ← HRE.out]
  go_wp2_with fail
  go_loopw [5] (fun i wr => ∃ k : Nat, k ≤ L.length ∧ i = .int .i64 (k : Int) ∧ (58 : UInt8) ∉ L.take k ∧ wr = W0) (fun i _ => L.length - (intOf i).toNat)
  case atStart => exact ⟨0, Nat.zero_le _, rfl, by simp, rfl⟩
  case round =>
    obtain ⟨k, hk, rfl, hA, rfl⟩ := hrel
    have HA := Lib.hid hA
    clear hA
    by_cases hlt : k < L.length
    case neg =>
      obtain rfl : k = L.length := by omega
      have hd : decide ((L.length : Int) < (L.length : Int)) = false := by simp
      have HV := Lib.hid (show R = (32, noG) by rw [HR.out]; exact parG_4 (cutW_none (by have := HA.out; rwa [List.take_length] at this)))
      obtain ⟨v0, v1, v2, i0, i1, i2, lv⟩ := at_facts HQR.out
      obtain ⟨n0, n1, n2, _, _, _, ln⟩ := at_facts HQN.out
      have hee : ((L.length : Int) == (L.length : Int)) = true := by simp
      obtain ⟨q1, s9, e9, h9, b9⟩ := gres_fin (k := 0) (u := []) (aq := none) (cq := 0) (n := []) hrr HQR.out (OwnN.nil _ _) HB0.out HV.out
      go_wp2_with fail
      exact bodyPost_ret (gnRes2 rfl _ _ r _ _ _ rfl q1) rfl ⟨s9, by rw [← e9]; rfl, h9, b9⟩
    have hd : decide ((k : Int) < (L.length : Int)) = true := by simp; omega
    obtain ⟨c, hc, hcn⟩ := u8at_list (strOf L) k (by rw [es]; exact hlt)
    have hix := run_index_u8 (P := Tryz.prog) Tryz.underlying9 (strOf L) k (by rw [es]; exact hlt) (k : Int) rfl
    rw [hcn] at hix
    rw [strOf_list] at hc
    have HCC := Lib.hid hc
    clear hc hcn
    by_cases h58 : c.toNat = 58
    case neg =>
      have hb1 : (((c.toNat : Nat) : Int) != 58) = true := bne_iff_ne.2 (by omega)
      have hb2 : (c.toNat != 58) = true := bne_iff_ne.2 h58
      have HN := Lib.hid (show (58 : UInt8) ∉ L.take (k + 1) by
        have hk' := List.getElem?_eq_some_iff.1 HCC.out
        rw [List.take_add_one, HCC.out]
        intro hm
        rcases List.mem_append.1 hm with hm | hm
        · exact HA.out hm
        · have : (58 : UInt8) = c := by simpa using hm
          exact h58 (by rw [← this]; rfl))
      generalize c.toNat = cc at hix hb1 hb2
      clear h58
      go_wp2_with fail
      go_roundw
      case rel => exact ⟨k + 1, by omega, by go_num, HN.out, by first | exact trivial | rfl⟩
      case measure => simp [intOf]; omega
    have hb1 : (((c.toNat : Nat) : Int) != 58) = false := by rw [h58]; rfl
    have hb2 : (c.toNat != 58) = false := by rw [h58]; rfl
    have hne : ((k : Int) == (L.length : Int)) = false := beq_eq_false_iff_ne.2 (by omega)
    have hne2 : (k == L.length) = false := beq_eq_false_iff_ne.2 (by omega)
    have HLE := Lib.hid (show L = L.take k ++ 58 :: L.drop (k + 1) by
      have hc58 : c = 58 := by apply UInt8.toNat_inj.1; rw [h58]; rfl
      have h1 := List.getElem?_eq_some_iff.1 HCC.out
      obtain ⟨h2, h3⟩ := h1
      rw [← hc58, ← h3, List.getElem_cons_drop, List.take_append_drop])
    have hsA := head_of L k (by omega) (k : Int) rfl
    have hsB := tail_of L (k + 1) (by omega) ((k : Int) + 1) (by omega)
    have HCW := Lib.hid (show cutW L = if wdK (L.take k) = 4 then (4, []) else (wdK (L.take k), L.drop (k + 1)) by
      have h := cutW_colon (A := L.take k) (B := L.drop (k + 1)) HA.out
      rwa [← HLE.out] at h)
    have hBl : (L.drop (k + 1)).length ≤ 150000 := by rw [List.length_drop]; omega
    generalize c.toNat = cc at hix hb1 hb2 h58
    generalize L.take k = A at hsA HCW
    generalize L.drop (k + 1) = B at hsB HCW hBl
    obtain ⟨S, hS⟩ : ∃ S, S = strOf A := ⟨_, rfl⟩
    rw [← hS] at hsA
    have hbe : ∀ X : List UInt8, (S.toList == X) = decide (A = X) := fun X => by
      rw [hS, toList_of]
      by_cases e : A = X
      · rw [decide_eq_true e]; exact beq_iff_eq.2 e
      · rw [decide_eq_false e]; exact beq_eq_false_iff_ne.2 e
    have m1 := hbe [109, 97, 105, 108]
    have m2 := hbe [100, 110, 115]
    have m3 := hbe [105, 112]
    have m4 := hbe [100, 105, 114]
    have HBL := Lib.hid hBl
    clear hbe hS h58 HA HCC HLE hBl
    have hzz := HZ0.out
    obtain ⟨v0, v1, v2, i0, i1, i2, lv⟩ := at_facts HQR.out
    obtain ⟨n0, n1, n2, _, _, _, ln⟩ := at_facts HQN.out
    go_upto_region 8 with fail
    clear v0 v1 v2 i0 i1 i2 lv n0 n1 n2 ln
    obtain ⟨W1, hW1⟩ : ∃ W1, W1 = wr.alloc (.cells #[.int .i64 0, .string ⟨#[]⟩, .slice none 0 0] 32) := ⟨_, rfl⟩
    rw [← hW1]
    have hb1w : Below wr.heap.size wr W1 := by rw [hW1]; exact belowNew wr _
    have HG1 := Lib.hid (show W1.heap[r + 2]? = some (.cells #[.int .i64 0, .string ⟨#[]⟩, .slice none 0 0] 32 (0, 0)) by rw [hW1, ← HZ0.out]; exact heap_alloc_new wr _)
    have HR1 := Lib.hid ((hb1w.block r (Array.getElem?_eq_some_iff.1 HQR.out).1).trans HQR.out)
    have HN1 := Lib.hid ((hb1w.block (r + 1) (Array.getElem?_eq_some_iff.1 HQN.out).1).trans HQN.out)
    have HB1 := Lib.hid (below_next HB0.out hb1w)
    clear hW1 hb1w
    obtain ⟨v0, v1, v2, i0, i1, i2, lv⟩ := at_facts HR1.out
    obtain ⟨n0, n1, n2, _, _, _, ln⟩ := at_facts HN1.out
    obtain ⟨g0, g1, g2, t0, t1, t2, lg⟩ := at_facts HG1.out
    by_cases hA0 : A = [109, 97, 105, 108]
    · have HCI := Lib.hid (show cutW L = (0, B) by rw [HCW.out, show wdK A = 0 by subst hA0; rfl]; rfl)
      rw [hA0] at m1 m2 m3 m4
      have m1' := m1.trans (show decide (([109, 97, 105, 108] : List UInt8) = [109, 97, 105, 108]) = true by decide)
      have m2' := m2.trans (show decide (([109, 97, 105, 108] : List UInt8) = [100, 110, 115]) = false by decide)
      have m3' := m3.trans (show decide (([109, 97, 105, 108] : List UInt8) = [105, 112]) = false by decide)
      have m4' := m4.trans (show decide (([109, 97, 105, 108] : List UInt8) = [100, 105, 114]) = false by decide)
      clear m1 m2 m3 m4 HCW hA0
      have hs1 := But.set (r + 2) 0 W1 (.int .i64 1)
      obtain ⟨W2, hW2⟩ : ∃ W2, W2 = W1.setCell ⟨r + 2, 0, none⟩ (.int .i64 1) := ⟨_, rfl⟩
      have HG2 := Lib.hid (show W2.heap[r + 2]? = some (.cells #[.int .i64 1, .string ⟨#[]⟩, .slice none 0 0] 32 (0, 0)) by rw [hW2]; exact gset0 HG1.out)
      rw [← hW2] at hs1
      have HR2 := Lib.hid ((hs1.block r lv (by simp)).trans HR1.out)
      have HN2 := Lib.hid ((hs1.block (r + 1) ln (by simp)).trans HN1.out)
      have HB2 := Lib.hid (show Below w.heap.size w W2 from HB1.out.trans ((hs1.below (Nat.le_of_lt lg)).mono (by omega)))
      have HW2 := Lib.hid hW2.symm
      have HU := Lib.hid (rune_any (strOf B) W2 (by rw [strOf_size]; have := HBL.out; omega))
      rw [strOf_list] at HU
      clear hs1 hW2
      go_upto_region 12 with fail
      rw [HW2.out]
      clear v0 v1 v2 i0 i1 i2 lv n0 n1 n2 ln g0 g1 g2 t0 t1 t2 lg
      obtain ⟨v0, v1, v2, i0, i1, i2, lv⟩ := at_facts HR2.out
      obtain ⟨n0, n1, n2, _, _, _, ln⟩ := at_facts HN2.out
      obtain ⟨g0, g1, g2, t0, t1, t2, lg⟩ := at_facts HG2.out
      go_upto_region 24 with (go_at_call 58; (with_reducible refine HU.out.mono ?_); rintro e w3 ⟨u, ok, rfl, hun, hb3⟩; have HUN := Lib.hid (uneF_eq hun); have HR3 := Lib.hid ((hb3.block r lv).trans HR2.out); have HN3 := Lib.hid ((hb3.block (r + 1) ln).trans HN2.out); have HG3 := Lib.hid ((hb3.block (r + 2) lg).trans HG2.out); have HB3 := Lib.hid (below_next HB2.out hb3); clear hun hb3 v0 v1 v2 i0 i1 i2 lv n0 n1 n2 ln g0 g1 g2 t0 t1 t2 lg; obtain ⟨v0, v1, v2, i0, i1, i2, lv⟩ := at_facts HR3.out; obtain ⟨n0, n1, n2, _, _, _, ln⟩ := at_facts HN3.out; obtain ⟨g0, g1, g2, t0, t1, t2, lg⟩ := at_facts HG3.out)
      have hs4 := But.set (r + 2) 1 w3 (.string u)
      obtain ⟨W4, hW4⟩ : ∃ W4, W4 = w3.setCell ⟨r + 2, 1, none⟩ (.string u) := ⟨_, rfl⟩
      have HG4 := Lib.hid (show W4.heap[r + 2]? = some (.cells #[.int .i64 1, .string u, .slice none 0 0] 32 (0, 0)) by rw [hW4]; exact gset1 HG3.out)
      rw [← hW4] at hs4
      have HR4 := Lib.hid ((hs4.block r lv (by simp)).trans HR3.out)
      have HN4 := Lib.hid ((hs4.block (r + 1) ln (by simp)).trans HN3.out)
      have HB4 := Lib.hid (show Below w.heap.size w W4 from HB3.out.trans ((hs4.below (Nat.le_of_lt lg)).mono (by omega)))
      rw [← hW4]
      clear hs4 hW4 v0 v1 v2 i0 i1 i2 lv n0 n1 n2 ln g0 g1 g2 t0 t1 t2 lg
      obtain ⟨v0, v1, v2, i0, i1, i2, lv⟩ := at_facts HR4.out
      obtain ⟨n0, n1, n2, _, _, _, ln⟩ := at_facts HN4.out
      obtain ⟨g0, g1, g2, t0, t1, t2, lg⟩ := at_facts HG4.out
      have HUS := Lib.hid (show u.size ≤ 150000 by have h1 := uneF_size B; rw [HUN.out] at h1; exact Nat.le_trans h1 HBL.out)
      cases ok with
      | false =>
        have HV := Lib.hid (show R = (32, noG) by rw [HR.out]; exact parG_bad (g := noG) HCI.out (by unfold prtP; rw [if_pos rfl, HUN.out, if_neg (by simp)]))
        obtain ⟨q1, s9, e9, h9, b9⟩ := gres_fin (k := 0) (u := []) (aq := none) (cq := 0) (n := []) hrr HR4.out (OwnN.nil _ _) HB4.out HV.out
        go_wp2_with fail
        exact bodyPost_ret (gnRes2 rfl _ _ r _ _ _ rfl q1) rfl ⟨s9, by rw [← e9]; rfl, h9, b9⟩
      | true =>
        obtain ⟨t, rfl⟩ : ∃ t, u = strOf t := ⟨_, strOf_of rfl⟩
        have HVG := Lib.hid (show R = genC 0 (1, t, []) (eitG 1 t []) by rw [HR.out]; exact parG_good (g := (1, t, [])) HCI.out (by unfold prtP; rw [if_pos rfl, HUN.out, if_pos rfl]; show (0, (_, (strOf t).data.toList, _)) = _; rw [strOf_list]))
        have HTL := Lib.hid (show t.length ≤ 150000 by have := HUS.out; rwa [strOf_size] at this)
        have H1 := Lib.hid (rchkG_core none 0 0 1 t [] false W4 (RLies.nil _ _) rfl HTL.out ⟨by decide, fun i hi => absurd hi (Nat.not_lt_zero _)⟩)
        have H2 := Lib.hid (fun W => rchkG_core none 0 0 1 t [] true W (RLies.nil _ _) rfl HTL.out ⟨by decide, fun i hi => absurd hi (Nat.not_lt_zero _)⟩)
        have hvg := HVG.out
        unfold eitG at hvg
        generalize chkG false 1 t [] = E1 at H1 hvg
        generalize chkG true 1 t [] = E2 at H2 hvg
        have FIN : ∀ (w9 : World) (E : Nat) (g : Gn), True := fun _ _ _ => trivial
        clear FIN
        by_cases z1 : E1 = 0
        · subst z1
          have HV := Lib.hid (show R = (0, (1, t, [])) by rw [hvg, if_neg (fun q => q.1 rfl)]; exact genC_c)
          clear hvg
          go_wp2_with (go_at_call 35; (with_reducible refine H1.out.mono ?_); rintro e w5 ⟨rfl, hb5⟩; have HB5 := Lib.hid (below_next HB4.out hb5); have HR5 := Lib.hid ((hb5.block r lv).trans HR4.out); have HG5 := Lib.hid ((hb5.block (r + 2) lg).trans HG4.out); clear hb5 v0 v1 v2 i0 i1 i2 lv g0 g1 g2 t0 t1 t2 lg; obtain ⟨v0, v1, v2, i0, i1, i2, lv⟩ := at_facts HR5.out; obtain ⟨g0, g1, g2, t0, t1, t2, lg⟩ := at_facts HG5.out)
          obtain ⟨q1, s9, e9, h9, b9⟩ := gres_fin (k := 1) (u := t) (aq := none) (cq := 0) (n := []) hrr HR5.out (OwnN.nil _ _) HB5.out HV.out
          exact bodyPost_ret (gnRes2 rfl _ _ r _ _ _ rfl q1) rfl ⟨s9, by rw [← e9]; rfl, h9, b9⟩
        have y1 := errno_ne z1
        have y1' : (E1 != 0) = true := bne_iff_ne.2 z1
        by_cases z2 : E2 = 0
        · subst z2
          have HV := Lib.hid (show R = (0, (1, t, [])) by rw [hvg, if_pos ⟨z1, rfl⟩]; exact genC_c)
          clear hvg z1
          go_wp2_with (first
            | (go_at_call 35; (with_reducible refine H1.out.mono ?_); rintro e w5 ⟨rfl, hb5⟩; have HB5 := Lib.hid (below_next HB4.out hb5); have HR5 := Lib.hid ((hb5.block r lv).trans HR4.out); have HG5 := Lib.hid ((hb5.block (r + 2) lg).trans HG4.out); clear hb5 v0 v1 v2 i0 i1 i2 lv g0 g1 g2 t0 t1 t2 lg; obtain ⟨v0, v1, v2, i0, i1, i2, lv⟩ := at_facts HR5.out; obtain ⟨g0, g1, g2, t0, t1, t2, lg⟩ := at_facts HG5.out)
            | (go_at_call 35; (with_reducible refine (H2.out _).mono ?_); rintro e w6 ⟨rfl, hb6⟩; have HB6 := Lib.hid (below_next HB5.out hb6); have HR6 := Lib.hid ((hb6.block r lv).trans HR5.out); have HG6 := Lib.hid ((hb6.block (r + 2) lg).trans HG5.out); clear hb6 v0 v1 v2 i0 i1 i2 lv g0 g1 g2 t0 t1 t2 lg; obtain ⟨v0, v1, v2, i0, i1, i2, lv⟩ := at_facts HR6.out; obtain ⟨g0, g1, g2, t0, t1, t2, lg⟩ := at_facts HG6.out))
          obtain ⟨q1, s9, e9, h9, b9⟩ := gres_fin (k := 1) (u := t) (aq := none) (cq := 0) (n := []) hrr HR6.out (OwnN.nil _ _) HB6.out HV.out
          exact bodyPost_ret (gnRes2 rfl _ _ r _ _ _ rfl q1) rfl ⟨s9, by rw [← e9]; rfl, h9, b9⟩
        have y2 := errno_ne z2
        have y2' : (E2 != 0) = true := bne_iff_ne.2 z2
        have HV := Lib.hid (show R = (E1, noG) by rw [hvg, if_neg (fun q => z2 q.2)]; exact genC_b z1)
        clear hvg z1 z2
        go_wp2_with (first
          | (go_at_call 35; (with_reducible refine H1.out.mono ?_); rintro e w5 ⟨rfl, hb5⟩; have HB5 := Lib.hid (below_next HB4.out hb5); have HR5 := Lib.hid ((hb5.block r lv).trans HR4.out); have HG5 := Lib.hid ((hb5.block (r + 2) lg).trans HG4.out); have HN5 := Lib.hid ((hb5.block (r + 1) ln).trans HN4.out); clear hb5 v0 v1 v2 i0 i1 i2 lv g0 g1 g2 t0 t1 t2 lg n0 n1 n2 ln; obtain ⟨v0, v1, v2, i0, i1, i2, lv⟩ := at_facts HR5.out; obtain ⟨n0, n1, n2, _, _, _, ln⟩ := at_facts HN5.out; obtain ⟨g0, g1, g2, t0, t1, t2, lg⟩ := at_facts HG5.out)
          | (go_at_call 35; (with_reducible refine (H2.out _).mono ?_); rintro e w6 ⟨rfl, hb6⟩; have HB6 := Lib.hid (below_next HB5.out hb6); have HR6 := Lib.hid ((hb6.block r lv).trans HR5.out); have HN6 := Lib.hid ((hb6.block (r + 1) ln).trans HN5.out); clear hb6 v0 v1 v2 i0 i1 i2 lv g0 g1 g2 t0 t1 t2 lg n0 n1 n2 ln; obtain ⟨v0, v1, v2, i0, i1, i2, lv⟩ := at_facts HR6.out; obtain ⟨n0, n1, n2, _, _, _, ln⟩ := at_facts HN6.out))
        obtain ⟨q1, s9, e9, h9, b9⟩ := gres_fin (k := 0) (u := []) (aq := none) (cq := 0) (n := []) hrr HR6.out (OwnN.nil _ _) HB6.out HV.out
        exact bodyPost_ret (gnRes2 rfl _ _ r _ _ _ rfl q1) rfl ⟨s9, by rw [← e9]; rfl, h9, b9⟩
    by_cases hA1 : A = [100, 110, 115]
    · have HCI := Lib.hid (show cutW L = (1, B) by rw [HCW.out, show wdK A = 1 by subst hA1; rfl]; rfl)
      rw [hA1] at m1 m2 m3 m4
      have m1' := m1.trans (show decide (([100, 110, 115] : List UInt8) = [109, 97, 105, 108]) = false by decide)
      have m2' := m2.trans (show decide (([100, 110, 115] : List UInt8) = [100, 110, 115]) = true by decide)
      have m3' := m3.trans (show decide (([100, 110, 115] : List UInt8) = [105, 112]) = false by decide)
      have m4' := m4.trans (show decide (([100, 110, 115] : List UInt8) = [100, 105, 114]) = false by decide)
      clear m1 m2 m3 m4 HCW hA1
      have hs1 := But.set (r + 2) 0 W1 (.int .i64 2)
      obtain ⟨W2, hW2⟩ : ∃ W2, W2 = W1.setCell ⟨r + 2, 0, none⟩ (.int .i64 2) := ⟨_, rfl⟩
      have HG2 := Lib.hid (show W2.heap[r + 2]? = some (.cells #[.int .i64 2, .string ⟨#[]⟩, .slice none 0 0] 32 (0, 0)) by rw [hW2]; exact gset0 HG1.out)
      rw [← hW2] at hs1
      have HR2 := Lib.hid ((hs1.block r lv (by simp)).trans HR1.out)
      have HN2 := Lib.hid ((hs1.block (r + 1) ln (by simp)).trans HN1.out)
      have HB2 := Lib.hid (show Below w.heap.size w W2 from HB1.out.trans ((hs1.below (Nat.le_of_lt lg)).mono (by omega)))
      have HW2 := Lib.hid hW2.symm
      have HU := Lib.hid (rune_any (strOf B) W2 (by rw [strOf_size]; have := HBL.out; omega))
      rw [strOf_list] at HU
      clear hs1 hW2
      go_upto_region 15 with fail
      rw [HW2.out]
      clear v0 v1 v2 i0 i1 i2 lv n0 n1 n2 ln g0 g1 g2 t0 t1 t2 lg
      obtain ⟨v0, v1, v2, i0, i1, i2, lv⟩ := at_facts HR2.out
      obtain ⟨n0, n1, n2, _, _, _, ln⟩ := at_facts HN2.out
      obtain ⟨g0, g1, g2, t0, t1, t2, lg⟩ := at_facts HG2.out
      go_upto_region 24 with (go_at_call 58; (with_reducible refine HU.out.mono ?_); rintro e w3 ⟨u, ok, rfl, hun, hb3⟩; have HUN := Lib.hid (uneF_eq hun); have HR3 := Lib.hid ((hb3.block r lv).trans HR2.out); have HN3 := Lib.hid ((hb3.block (r + 1) ln).trans HN2.out); have HG3 := Lib.hid ((hb3.block (r + 2) lg).trans HG2.out); have HB3 := Lib.hid (below_next HB2.out hb3); clear hun hb3 v0 v1 v2 i0 i1 i2 lv n0 n1 n2 ln g0 g1 g2 t0 t1 t2 lg; obtain ⟨v0, v1, v2, i0, i1, i2, lv⟩ := at_facts HR3.out; obtain ⟨n0, n1, n2, _, _, _, ln⟩ := at_facts HN3.out; obtain ⟨g0, g1, g2, t0, t1, t2, lg⟩ := at_facts HG3.out)
      have hs4 := But.set (r + 2) 1 w3 (.string u)
      obtain ⟨W4, hW4⟩ : ∃ W4, W4 = w3.setCell ⟨r + 2, 1, none⟩ (.string u) := ⟨_, rfl⟩
      have HG4 := Lib.hid (show W4.heap[r + 2]? = some (.cells #[.int .i64 2, .string u, .slice none 0 0] 32 (0, 0)) by rw [hW4]; exact gset1 HG3.out)
      rw [← hW4] at hs4
      have HR4 := Lib.hid ((hs4.block r lv (by simp)).trans HR3.out)
      have HN4 := Lib.hid ((hs4.block (r + 1) ln (by simp)).trans HN3.out)
      have HB4 := Lib.hid (show Below w.heap.size w W4 from HB3.out.trans ((hs4.below (Nat.le_of_lt lg)).mono (by omega)))
      rw [← hW4]
      clear hs4 hW4 v0 v1 v2 i0 i1 i2 lv n0 n1 n2 ln g0 g1 g2 t0 t1 t2 lg
      obtain ⟨v0, v1, v2, i0, i1, i2, lv⟩ := at_facts HR4.out
      obtain ⟨n0, n1, n2, _, _, _, ln⟩ := at_facts HN4.out
      obtain ⟨g0, g1, g2, t0, t1, t2, lg⟩ := at_facts HG4.out
      have HUS := Lib.hid (show u.size ≤ 150000 by have h1 := uneF_size B; rw [HUN.out] at h1; exact Nat.le_trans h1 HBL.out)
      cases ok with
      | false =>
        have HV := Lib.hid (show R = (32, noG) by rw [HR.out]; exact parG_bad (g := noG) HCI.out (by unfold prtP; rw [if_neg (by decide), if_pos rfl, HUN.out, if_neg (by simp)]))
        obtain ⟨q1, s9, e9, h9, b9⟩ := gres_fin (k := 0) (u := []) (aq := none) (cq := 0) (n := []) hrr HR4.out (OwnN.nil _ _) HB4.out HV.out
        go_wp2_with fail
        exact bodyPost_ret (gnRes2 rfl _ _ r _ _ _ rfl q1) rfl ⟨s9, by rw [← e9]; rfl, h9, b9⟩
      | true =>
        obtain ⟨t, rfl⟩ : ∃ t, u = strOf t := ⟨_, strOf_of rfl⟩
        have HVG := Lib.hid (show R = genC 0 (2, t, []) (eitG 2 t []) by rw [HR.out]; exact parG_good (g := (2, t, [])) HCI.out (by unfold prtP; rw [if_neg (by decide), if_pos rfl, HUN.out, if_pos rfl]; show (0, (_, (strOf t).data.toList, _)) = _; rw [strOf_list]))
        have HTL := Lib.hid (show t.length ≤ 150000 by have := HUS.out; rwa [strOf_size] at this)
        have H1 := Lib.hid (rchkG_core none 0 0 2 t [] false W4 (RLies.nil _ _) rfl HTL.out ⟨by decide, fun i hi => absurd hi (Nat.not_lt_zero _)⟩)
        have H2 := Lib.hid (fun W => rchkG_core none 0 0 2 t [] true W (RLies.nil _ _) rfl HTL.out ⟨by decide, fun i hi => absurd hi (Nat.not_lt_zero _)⟩)
        have hvg := HVG.out
        unfold eitG at hvg
        generalize chkG false 2 t [] = E1 at H1 hvg
        generalize chkG true 2 t [] = E2 at H2 hvg
        have FIN : ∀ (w9 : World) (E : Nat) (g : Gn), True := fun _ _ _ => trivial
        clear FIN
        by_cases z1 : E1 = 0
        · subst z1
          have HV := Lib.hid (show R = (0, (2, t, [])) by rw [hvg, if_neg (fun q => q.1 rfl)]; exact genC_c)
          clear hvg
          go_wp2_with (go_at_call 35; (with_reducible refine H1.out.mono ?_); rintro e w5 ⟨rfl, hb5⟩; have HB5 := Lib.hid (below_next HB4.out hb5); have HR5 := Lib.hid ((hb5.block r lv).trans HR4.out); have HG5 := Lib.hid ((hb5.block (r + 2) lg).trans HG4.out); clear hb5 v0 v1 v2 i0 i1 i2 lv g0 g1 g2 t0 t1 t2 lg; obtain ⟨v0, v1, v2, i0, i1, i2, lv⟩ := at_facts HR5.out; obtain ⟨g0, g1, g2, t0, t1, t2, lg⟩ := at_facts HG5.out)
          obtain ⟨q1, s9, e9, h9, b9⟩ := gres_fin (k := 2) (u := t) (aq := none) (cq := 0) (n := []) hrr HR5.out (OwnN.nil _ _) HB5.out HV.out
          exact bodyPost_ret (gnRes2 rfl _ _ r _ _ _ rfl q1) rfl ⟨s9, by rw [← e9]; rfl, h9, b9⟩
        have y1 := errno_ne z1
        have y1' : (E1 != 0) = true := bne_iff_ne.2 z1
        by_cases z2 : E2 = 0
        · subst z2
          have HV := Lib.hid (show R = (0, (2, t, [])) by rw [hvg, if_pos ⟨z1, rfl⟩]; exact genC_c)
          clear hvg z1
          go_wp2_with (first
            | (go_at_call 35; (with_reducible refine H1.out.mono ?_); rintro e w5 ⟨rfl, hb5⟩; have HB5 := Lib.hid (below_next HB4.out hb5); have HR5 := Lib.hid ((hb5.block r lv).trans HR4.out); have HG5 := Lib.hid ((hb5.block (r + 2) lg).trans HG4.out); clear hb5 v0 v1 v2 i0 i1 i2 lv g0 g1 g2 t0 t1 t2 lg; obtain ⟨v0, v1, v2, i0, i1, i2, lv⟩ := at_facts HR5.out; obtain ⟨g0, g1, g2, t0, t1, t2, lg⟩ := at_facts HG5.out)
            | (go_at_call 35; (with_reducible refine (H2.out _).mono ?_); rintro e w6 ⟨rfl, hb6⟩; have HB6 := Lib.hid (below_next HB5.out hb6); have HR6 := Lib.hid ((hb6.block r lv).trans HR5.out); have HG6 := Lib.hid ((hb6.block (r + 2) lg).trans HG5.out); clear hb6 v0 v1 v2 i0 i1 i2 lv g0 g1 g2 t0 t1 t2 lg; obtain ⟨v0, v1, v2, i0, i1, i2, lv⟩ := at_facts HR6.out; obtain ⟨g0, g1, g2, t0, t1, t2, lg⟩ := at_facts HG6.out))
          obtain ⟨q1, s9, e9, h9, b9⟩ := gres_fin (k := 2) (u := t) (aq := none) (cq := 0) (n := []) hrr HR6.out (OwnN.nil _ _) HB6.out HV.out
          exact bodyPost_ret (gnRes2 rfl _ _ r _ _ _ rfl q1) rfl ⟨s9, by rw [← e9]; rfl, h9, b9⟩
        have y2 := errno_ne z2
        have y2' : (E2 != 0) = true := bne_iff_ne.2 z2
        have HV := Lib.hid (show R = (E1, noG) by rw [hvg, if_neg (fun q => z2 q.2)]; exact genC_b z1)
        clear hvg z1 z2
        go_wp2_with (first
          | (go_at_call 35; (with_reducible refine H1.out.mono ?_); rintro e w5 ⟨rfl, hb5⟩; have HB5 := Lib.hid (below_next HB4.out hb5); have HR5 := Lib.hid ((hb5.block r lv).trans HR4.out); have HG5 := Lib.hid ((hb5.block (r + 2) lg).trans HG4.out); have HN5 := Lib.hid ((hb5.block (r + 1) ln).trans HN4.out); clear hb5 v0 v1 v2 i0 i1 i2 lv g0 g1 g2 t0 t1 t2 lg n0 n1 n2 ln; obtain ⟨v0, v1, v2, i0, i1, i2, lv⟩ := at_facts HR5.out; obtain ⟨n0, n1, n2, _, _, _, ln⟩ := at_facts HN5.out; obtain ⟨g0, g1, g2, t0, t1, t2, lg⟩ := at_facts HG5.out)
          | (go_at_call 35; (with_reducible refine (H2.out _).mono ?_); rintro e w6 ⟨rfl, hb6⟩; have HB6 := Lib.hid (below_next HB5.out hb6); have HR6 := Lib.hid ((hb6.block r lv).trans HR5.out); have HN6 := Lib.hid ((hb6.block (r + 1) ln).trans HN5.out); clear hb6 v0 v1 v2 i0 i1 i2 lv g0 g1 g2 t0 t1 t2 lg n0 n1 n2 ln; obtain ⟨v0, v1, v2, i0, i1, i2, lv⟩ := at_facts HR6.out; obtain ⟨n0, n1, n2, _, _, _, ln⟩ := at_facts HN6.out))
        obtain ⟨q1, s9, e9, h9, b9⟩ := gres_fin (k := 0) (u := []) (aq := none) (cq := 0) (n := []) hrr HR6.out (OwnN.nil _ _) HB6.out HV.out
        exact bodyPost_ret (gnRes2 rfl _ _ r _ _ _ rfl q1) rfl ⟨s9, by rw [← e9]; rfl, h9, b9⟩
    by_cases hA3 : A = [105, 112]
    · have HCI := Lib.hid (show cutW L = (3, B) by rw [HCW.out, show wdK A = 3 by subst hA3; rfl]; rfl)
      rw [hA3] at m1 m2 m3 m4
      have m1' := m1.trans (show decide (([105, 112] : List UInt8) = [109, 97, 105, 108]) = false by decide)
      have m2' := m2.trans (show decide (([105, 112] : List UInt8) = [100, 110, 115]) = false by decide)
      have m3' := m3.trans (show decide (([105, 112] : List UInt8) = [105, 112]) = true by decide)
      have m4' := m4.trans (show decide (([105, 112] : List UInt8) = [100, 105, 114]) = false by decide)
      clear m1 m2 m3 m4 HCW hA3
      have hs1 := But.set (r + 2) 0 W1 (.int .i64 7)
      obtain ⟨W2, hW2⟩ : ∃ W2, W2 = W1.setCell ⟨r + 2, 0, none⟩ (.int .i64 7) := ⟨_, rfl⟩
      have HG2 := Lib.hid (show W2.heap[r + 2]? = some (.cells #[.int .i64 7, .string ⟨#[]⟩, .slice none 0 0] 32 (0, 0)) by rw [hW2]; exact gset0 HG1.out)
      rw [← hW2] at hs1
      have HR2 := Lib.hid ((hs1.block r lv (by simp)).trans HR1.out)
      have HN2 := Lib.hid ((hs1.block (r + 1) ln (by simp)).trans HN1.out)
      have HB2 := Lib.hid (show Below w.heap.size w W2 from HB1.out.trans ((hs1.below (Nat.le_of_lt lg)).mono (by omega)))
      have HW2 := Lib.hid hW2.symm
      have HU := Lib.hid (refunhex_any (strOf B) W2 (by rw [strOf_size]; have := HBL.out; omega))
      rw [strOf_list] at HU
      clear hs1 hW2
      go_upto_region 18 with fail
      rw [HW2.out]
      clear v0 v1 v2 i0 i1 i2 lv n0 n1 n2 ln g0 g1 g2 t0 t1 t2 lg
      obtain ⟨v0, v1, v2, i0, i1, i2, lv⟩ := at_facts HR2.out
      obtain ⟨n0, n1, n2, _, _, _, ln⟩ := at_facts HN2.out
      obtain ⟨g0, g1, g2, t0, t1, t2, lg⟩ := at_facts HG2.out
      go_upto_region 24 with (go_at_call 59; (with_reducible refine HU.out.mono ?_); rintro e w3 ⟨u, ok, rfl, hun, hb3⟩; have HUN := Lib.hid (unhF_eq hun); have HR3 := Lib.hid ((hb3.block r lv).trans HR2.out); have HN3 := Lib.hid ((hb3.block (r + 1) ln).trans HN2.out); have HG3 := Lib.hid ((hb3.block (r + 2) lg).trans HG2.out); have HB3 := Lib.hid (below_next HB2.out hb3); clear hun hb3 v0 v1 v2 i0 i1 i2 lv n0 n1 n2 ln g0 g1 g2 t0 t1 t2 lg; obtain ⟨v0, v1, v2, i0, i1, i2, lv⟩ := at_facts HR3.out; obtain ⟨n0, n1, n2, _, _, _, ln⟩ := at_facts HN3.out; obtain ⟨g0, g1, g2, t0, t1, t2, lg⟩ := at_facts HG3.out)
      have hs4 := But.set (r + 2) 1 w3 (.string u)
      obtain ⟨W4, hW4⟩ : ∃ W4, W4 = w3.setCell ⟨r + 2, 1, none⟩ (.string u) := ⟨_, rfl⟩
      have HG4 := Lib.hid (show W4.heap[r + 2]? = some (.cells #[.int .i64 7, .string u, .slice none 0 0] 32 (0, 0)) by rw [hW4]; exact gset1 HG3.out)
      rw [← hW4] at hs4
      have HR4 := Lib.hid ((hs4.block r lv (by simp)).trans HR3.out)
      have HN4 := Lib.hid ((hs4.block (r + 1) ln (by simp)).trans HN3.out)
      have HB4 := Lib.hid (show Below w.heap.size w W4 from HB3.out.trans ((hs4.below (Nat.le_of_lt lg)).mono (by omega)))
      rw [← hW4]
      clear hs4 hW4 v0 v1 v2 i0 i1 i2 lv n0 n1 n2 ln g0 g1 g2 t0 t1 t2 lg
      obtain ⟨v0, v1, v2, i0, i1, i2, lv⟩ := at_facts HR4.out
      obtain ⟨n0, n1, n2, _, _, _, ln⟩ := at_facts HN4.out
      obtain ⟨g0, g1, g2, t0, t1, t2, lg⟩ := at_facts HG4.out
      have HUS := Lib.hid (show u.size ≤ 150000 by have h1 := unhF_size B; rw [HUN.out] at h1; exact Nat.le_trans h1 HBL.out)
      cases ok with
      | false =>
        have HV := Lib.hid (show R = (32, noG) by rw [HR.out]; exact parG_bad (g := noG) HCI.out (by unfold prtP; rw [if_neg (by decide), if_neg (by decide), if_neg (by decide), if_pos rfl, HUN.out, if_neg (by simp)]))
        obtain ⟨q1, s9, e9, h9, b9⟩ := gres_fin (k := 0) (u := []) (aq := none) (cq := 0) (n := []) hrr HR4.out (OwnN.nil _ _) HB4.out HV.out
        go_wp2_with fail
        exact bodyPost_ret (gnRes2 rfl _ _ r _ _ _ rfl q1) rfl ⟨s9, by rw [← e9]; rfl, h9, b9⟩
      | true =>
        obtain ⟨t, rfl⟩ : ∃ t, u = strOf t := ⟨_, strOf_of rfl⟩
        have HVG := Lib.hid (show R = genC 0 (7, t, []) (eitG 7 t []) by rw [HR.out]; exact parG_good (g := (7, t, [])) HCI.out (by unfold prtP; rw [if_neg (by decide), if_neg (by decide), if_neg (by decide), if_pos rfl, HUN.out, if_pos rfl]; show (0, (_, (strOf t).data.toList, _)) = _; rw [strOf_list]))
        have HTL := Lib.hid (show t.length ≤ 150000 by have := HUS.out; rwa [strOf_size] at this)
        have H1 := Lib.hid (rchkG_core none 0 0 7 t [] false W4 (RLies.nil _ _) rfl HTL.out ⟨by decide, fun i hi => absurd hi (Nat.not_lt_zero _)⟩)
        have H2 := Lib.hid (fun W => rchkG_core none 0 0 7 t [] true W (RLies.nil _ _) rfl HTL.out ⟨by decide, fun i hi => absurd hi (Nat.not_lt_zero _)⟩)
        have hvg := HVG.out
        unfold eitG at hvg
        generalize chkG false 7 t [] = E1 at H1 hvg
        generalize chkG true 7 t [] = E2 at H2 hvg
        have FIN : ∀ (w9 : World) (E : Nat) (g : Gn), True := fun _ _ _ => trivial
        clear FIN
        by_cases z1 : E1 = 0
        · subst z1
          have HV := Lib.hid (show R = (0, (7, t, [])) by rw [hvg, if_neg (fun q => q.1 rfl)]; exact genC_c)
          clear hvg
          go_wp2_with (go_at_call 35; (with_reducible refine H1.out.mono ?_); rintro e w5 ⟨rfl, hb5⟩; have HB5 := Lib.hid (below_next HB4.out hb5); have HR5 := Lib.hid ((hb5.block r lv).trans HR4.out); have HG5 := Lib.hid ((hb5.block (r + 2) lg).trans HG4.out); clear hb5 v0 v1 v2 i0 i1 i2 lv g0 g1 g2 t0 t1 t2 lg; obtain ⟨v0, v1, v2, i0, i1, i2, lv⟩ := at_facts HR5.out; obtain ⟨g0, g1, g2, t0, t1, t2, lg⟩ := at_facts HG5.out)
          obtain ⟨q1, s9, e9, h9, b9⟩ := gres_fin (k := 7) (u := t) (aq := none) (cq := 0) (n := []) hrr HR5.out (OwnN.nil _ _) HB5.out HV.out
          exact bodyPost_ret (gnRes2 rfl _ _ r _ _ _ rfl q1) rfl ⟨s9, by rw [← e9]; rfl, h9, b9⟩
        have y1 := errno_ne z1
        have y1' : (E1 != 0) = true := bne_iff_ne.2 z1
        by_cases z2 : E2 = 0
        · subst z2
          have HV := Lib.hid (show R = (0, (7, t, [])) by rw [hvg, if_pos ⟨z1, rfl⟩]; exact genC_c)
          clear hvg z1
          go_wp2_with (first
            | (go_at_call 35; (with_reducible refine H1.out.mono ?_); rintro e w5 ⟨rfl, hb5⟩; have HB5 := Lib.hid (below_next HB4.out hb5); have HR5 := Lib.hid ((hb5.block r lv).trans HR4.out); have HG5 := Lib.hid ((hb5.block (r + 2) lg).trans HG4.out); clear hb5 v0 v1 v2 i0 i1 i2 lv g0 g1 g2 t0 t1 t2 lg; obtain ⟨v0, v1, v2, i0, i1, i2, lv⟩ := at_facts HR5.out; obtain ⟨g0, g1, g2, t0, t1, t2, lg⟩ := at_facts HG5.out)
            | (go_at_call 35; (with_reducible refine (H2.out _).mono ?_); rintro e w6 ⟨rfl, hb6⟩; have HB6 := Lib.hid (below_next HB5.out hb6); have HR6 := Lib.hid ((hb6.block r lv).trans HR5.out); have HG6 := Lib.hid ((hb6.block (r + 2) lg).trans HG5.out); clear hb6 v0 v1 v2 i0 i1 i2 lv g0 g1 g2 t0 t1 t2 lg; obtain ⟨v0, v1, v2, i0, i1, i2, lv⟩ := at_facts HR6.out; obtain ⟨g0, g1, g2, t0, t1, t2, lg⟩ := at_facts HG6.out))
          obtain ⟨q1, s9, e9, h9, b9⟩ := gres_fin (k := 7) (u := t) (aq := none) (cq := 0) (n := []) hrr HR6.out (OwnN.nil _ _) HB6.out HV.out
          exact bodyPost_ret (gnRes2 rfl _ _ r _ _ _ rfl q1) rfl ⟨s9, by rw [← e9]; rfl, h9, b9⟩
        have y2 := errno_ne z2
        have y2' : (E2 != 0) = true := bne_iff_ne.2 z2
        have HV := Lib.hid (show R = (E1, noG) by rw [hvg, if_neg (fun q => z2 q.2)]; exact genC_b z1)
        clear hvg z1 z2
        go_wp2_with (first
          | (go_at_call 35; (with_reducible refine H1.out.mono ?_); rintro e w5 ⟨rfl, hb5⟩; have HB5 := Lib.hid (below_next HB4.out hb5); have HR5 := Lib.hid ((hb5.block r lv).trans HR4.out); have HG5 := Lib.hid ((hb5.block (r + 2) lg).trans HG4.out); have HN5 := Lib.hid ((hb5.block (r + 1) ln).trans HN4.out); clear hb5 v0 v1 v2 i0 i1 i2 lv g0 g1 g2 t0 t1 t2 lg n0 n1 n2 ln; obtain ⟨v0, v1, v2, i0, i1, i2, lv⟩ := at_facts HR5.out; obtain ⟨n0, n1, n2, _, _, _, ln⟩ := at_facts HN5.out; obtain ⟨g0, g1, g2, t0, t1, t2, lg⟩ := at_facts HG5.out)
          | (go_at_call 35; (with_reducible refine (H2.out _).mono ?_); rintro e w6 ⟨rfl, hb6⟩; have HB6 := Lib.hid (below_next HB5.out hb6); have HR6 := Lib.hid ((hb6.block r lv).trans HR5.out); have HN6 := Lib.hid ((hb6.block (r + 1) ln).trans HN5.out); clear hb6 v0 v1 v2 i0 i1 i2 lv g0 g1 g2 t0 t1 t2 lg n0 n1 n2 ln; obtain ⟨v0, v1, v2, i0, i1, i2, lv⟩ := at_facts HR6.out; obtain ⟨n0, n1, n2, _, _, _, ln⟩ := at_facts HN6.out))
        obtain ⟨q1, s9, e9, h9, b9⟩ := gres_fin (k := 0) (u := []) (aq := none) (cq := 0) (n := []) hrr HR6.out (OwnN.nil _ _) HB6.out HV.out
        exact bodyPost_ret (gnRes2 rfl _ _ r _ _ _ rfl q1) rfl ⟨s9, by rw [← e9]; rfl, h9, b9⟩
    by_cases hA2 : A = [100, 105, 114]
    · have HCI := Lib.hid (show cutW L = (2, B) by rw [HCW.out, show wdK A = 2 by subst hA2; rfl]; rfl)
      rw [hA2] at m1 m2 m3 m4
      have m1' := m1.trans (show decide (([100, 105, 114] : List UInt8) = [109, 97, 105, 108]) = false by decide)
      have m2' := m2.trans (show decide (([100, 105, 114] : List UInt8) = [100, 110, 115]) = false by decide)
      have m3' := m3.trans (show decide (([100, 105, 114] : List UInt8) = [105, 112]) = false by decide)
      have m4' := m4.trans (show decide (([100, 105, 114] : List UInt8) = [100, 105, 114]) = true by decide)
      clear m1 m2 m3 m4 HCW hA2
      have HP := Lib.hid (rpars_any (strOf B) W1 (by rw [strOf_size]; exact HBL.out))
      have HV0 := Lib.hid (show R = if prsErr (strOf B) ≠ 0 then (prsErr (strOf B), noG) else (0, (4, [], prsV (strOf B))) by rw [HR.out]; exact parG_2 HCI.out)
      generalize prsErr (strOf B) = E at HP HV0
      generalize prsV (strOf B) = n at HP HV0
      go_upto_region 21 with (go_at_call 60; (with_reducible refine HP.out.mono ?_); rintro e w2 ⟨v, rfl, ⟨s2, rfl, hso⟩, hb2⟩; obtain ⟨aq, cq, rfl, hcs, hrl⟩ := hso.lies; have HB2 := Lib.hid (below_next HB1.out hb2); have HR2 := Lib.hid ((hb2.block r lv).trans HR1.out); have HN2 := Lib.hid ((hb2.block (r + 1) ln).trans HN1.out); have HO2 := Lib.hid (hso.base HB1.out.size); clear hcs hrl hso hb2 v0 v1 v2 i0 i1 i2 lv n0 n1 n2 ln g0 g1 g2 t0 t1 t2 lg)
      obtain ⟨W3, hW3⟩ : ∃ W3, W3 = w2.alloc (.cells #[.slice aq n.length cq] 30) := ⟨_, rfl⟩
      have hb3 : Below w2.heap.size w2 W3 := by rw [hW3]; exact belowNew w2 _
      have hq3 : W3.heap[w2.heap.size]? = some (.cells #[.slice aq n.length cq] 30 (0, 0)) := by rw [hW3]; exact heap_alloc_new w2 _
      rw [← hW3]
      have hr3 := (hb3.block r (Array.getElem?_eq_some_iff.1 HR2.out).1).trans HR2.out
      have hn3 := (hb3.block (r + 1) (Array.getElem?_eq_some_iff.1 HN2.out).1).trans HN2.out
      obtain ⟨v0, v1, v2, i0, i1, i2, lv⟩ := at_facts hr3
      obtain ⟨n0, n1, n2, _, _, _, ln⟩ := at_facts hn3
      obtain ⟨x0, _, _⟩ := one_facts hq3
      by_cases hz : E = 0
      · subst hz
        have HV := Lib.hid (show R = (0, (4, [], n)) by rw [HV0.out, if_neg (by simp)])
        obtain ⟨q1, s9, e9, h9, b9⟩ := gres_fin (k := 4) (u := []) hrr hr3 (HO2.out.below hb3) (below_next HB2.out hb3) HV.out
        clear hb3 hq3 hW3 hr3 hn3
        go_wp2_with fail
        exact bodyPost_ret (gnRes2 rfl _ _ r _ _ _ rfl q1) rfl ⟨s9, by rw [← e9]; rfl, h9, b9⟩
      · have hz1 := errno_ne hz
        have HV := Lib.hid (show R = (E, noG) by rw [HV0.out, if_pos hz])
        obtain ⟨q1, s9, e9, h9, b9⟩ := gres_fin (k := 0) (u := []) (aq := none) (cq := 0) (n := []) hrr hr3 (OwnN.nil _ _) (below_next HB2.out hb3) HV.out
        clear hb3 hq3 hW3 hr3 hn3 hz
        go_wp2_with fail
        exact bodyPost_ret (gnRes2 rfl _ _ r _ _ _ rfl q1) rfl ⟨s9, by rw [← e9]; rfl, h9, b9⟩
    · have HV := Lib.hid (show R = (32, noG) by rw [HR.out]; exact parG_4 (x := []) (by rw [HCW.out, show wdK A = 4 by unfold wdK; rw [if_neg hA0, if_neg hA1, if_neg hA2, if_neg hA3]]; rfl))
      have m1' := m1.trans (decide_eq_false hA0)
      have m2' := m2.trans (decide_eq_false hA1)
      have m3' := m3.trans (decide_eq_false hA3)
      have m4' := m4.trans (decide_eq_false hA2)
      clear m1 m2 m3 m4 HCW hA0 hA1 hA2 hA3
      obtain ⟨q1, s9, e9, h9, b9⟩ := gres_fin (k := 0) (u := []) (aq := none) (cq := 0) (n := []) hrr HR1.out (OwnN.nil _ _) HB1.out HV.out
      go_wp2_with fail
      exact bodyPost_ret (gnRes2 rfl _ _ r _ _ _ rfl q1) rfl ⟨s9, by rw [← e9]; rfl, h9, b9⟩
end Go.Proofs.YtflpajbcomhkpaaGreatDoor
