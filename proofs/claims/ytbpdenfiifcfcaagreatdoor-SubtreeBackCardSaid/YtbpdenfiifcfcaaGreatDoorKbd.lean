/-
  What is encoded is decoded, apart from the order of attributes; what is decoded is encoded as it was. Nothing is claimed of the program here.
  The contract of the reference's DecodeGeneral: the general name of an element, or the error.
-/
import Derived.Test.YtbpdenfiifcfcaaGreatDoorKbc
import Derived.Test.YtbpdenfiifcfcaaGreatDoorKax
import Derived.Test.YtbpdenfiifcfcaaGreatDoorKay
import Derived.Test.YtbpdenfiifcfcaaGreatDoorKbb
namespace Go.Proofs.YtbpdenfiifcfcaaGreatDoor
open Go.RowKit

theorem size_of_list {c : ByteArray} {l : List UInt8} (h : c.data.toList = l) : c.size = l.length := by rw [← h]; rfl
/-- The elements of an attribute. -/
noncomputable def elOid (a : At) : El := (6, oidS a.1, wr1 6 (oidS a.1))
def elVal (a : At) : El := (a.2.1.toNat, a.2.2, wr1 a.2.1 a.2.2)
noncomputable def inA (a : At) : ByteArray := ⟨((wr1 6 (oidS a.1)).data.toList ++ (wr1 a.2.1 a.2.2).data.toList).toArray⟩
noncomputable def elA (a : At) : El := (48, inA a, encA a)
theorem okA_kind {a : At} (h : okA a) : ∃ k : Nat, a.2.1 = (k : Int) ∧ (k = 12 ∨ k = 19 ∨ k = 22) := by
  rcases valid_kind h.2.2.1 with e | e | e
  · exact ⟨12, e, .inl rfl⟩
  · exact ⟨19, e, .inr (.inl rfl)⟩
  · exact ⟨22, e, .inr (.inr rfl)⟩
theorem elOid_ok (a : At) : OkE (elOid a) := ⟨by show 6 < 256; omega, by show 6 % 32 ≠ 31; omega, by show (oidS a.1).size ≤ _; have := oidS_size a.1; omega, rfl⟩
theorem elVal_ok {a : At} (h : okA a) : OkE (elVal a) := by
  obtain ⟨k, e, hk⟩ := okA_kind h
  have hs := h.2.2.2
  have e2 : a.2.1.toNat = k := by omega
  refine ⟨by show a.2.1.toNat < 256; omega, by show a.2.1.toNat % 32 ≠ 31; omega, by show a.2.2.size ≤ _; omega, ?_⟩
  show wr1 a.2.1 a.2.2 = wr1 ((a.2.1.toNat : Nat) : Int) a.2.2
  rw [e2, e]
theorem inA_size {a : At} (h : okA a) : (inA a).size ≤ 131 := by
  have h1 := wrapStr_le 6 (oidS a.1).data.toList
  have h2 := wrapStr_le a.2.1 a.2.2.data.toList
  have h3 := oidS_size a.1
  have h4 := h.2.2.2
  have e1 : (oidS a.1).data.toList.length = (oidS a.1).size := rfl
  have e2 : a.2.2.data.toList.length = a.2.2.size := rfl
  have e3 : (wr1 6 (oidS a.1)).data.toList.length = (wr1 6 (oidS a.1)).size := rfl
  have e4 : (wr1 a.2.1 a.2.2).data.toList.length = (wr1 a.2.1 a.2.2).size := rfl
  have e5 : (inA a).size = ((wr1 6 (oidS a.1)).data.toList ++ (wr1 a.2.1 a.2.2).data.toList).length := rfl
  rw [e5, List.length_append, e3, e4]
  unfold wr1
  omega
theorem elA_ok {a : At} (h : okA a) : OkE (elA a) := ⟨by show 48 < 256; omega, by show 48 % 32 ≠ 31; omega, by show (inA a).size ≤ _; have := inA_size h; omega, rfl⟩
theorem decA_elA {a : At} (h : okA a) : decA (elA a) = (0, a) := by
  have hl : lst (inA a) = ([elOid a, elVal a], 0) := lst_els _ (fun e he => by
    rcases List.mem_cons.1 he with rfl | he
    · exact elOid_ok a
    · obtain rfl := List.mem_singleton.1 he
      exact elVal_ok h) _ (by unfold raws elOid elVal inA; simp)
  unfold decA
  have e1 : (elA a).1 = 48 := rfl
  have e2 : (elA a).2.1 = inA a := rfl
  rw [e1, e2, hl, if_neg (by omega), if_neg (by simp)]
  obtain ⟨k, e, hk⟩ := okA_kind h
  have e3 : a.2.1.toNat = k := by omega
  have hT : strTag (elVal a).1 = true := by
    show strTag a.2.1.toNat = true
    rw [e3]
    rcases hk with rfl | rfl | rfl <;> rfl
  simp only [decL]
  have e4 : (elOid a).1 = 6 := rfl
  have e5 : oidD (elOid a).2.1 = some a.1 := oid_there h.1
  rw [e4, if_neg (by omega), e5, hT]
  simp only []
  rw [if_neg (by simp), if_neg (by simp)]
  have e6 : (((elVal a).1 : Nat) : Int) = a.2.1 := by show ((a.2.1.toNat : Nat) : Int) = _; omega
  rw [e6]
  rfl
theorem decAs_elA : ∀ {r : List At}, (∀ a ∈ r, okA a) → decAs (r.map elA) = (0, r)
  | [], _ => rfl
  | a :: r, h => by
    have h1 := decA_elA (h a List.mem_cons_self)
    have h2 := decAs_elA (r := r) (fun x hx => h x (List.mem_cons_of_mem _ hx))
    rw [List.map_cons, decAs, h1, h2]
    simp

/-! ### Relative names -/
noncomputable def sortR (r : List At) : List At := r.mergeSort fun x y => decide ((encA x).data.toList ≤ (encA y).data.toList)
theorem sortR_perm (r : List At) : (sortR r).Perm r := List.mergeSort_perm _ _
theorem lists_sortR (r : List At) : lists ((sortR r).map encA) = ordL (lists (r.map encA)) := by
  unfold lists ordL sortR
  rw [List.map_map, List.map_map, List.map_mergeSort]
  intro a _ b _
  rfl
theorem raws_elA (r : List At) : raws (r.map elA) = lists (r.map encA) := by
  unfold raws lists
  rw [List.map_map, List.map_map]
  rfl
noncomputable def inR (r : List At) : ByteArray := ⟨(ordL (lists (r.map encA))).flatten.toArray⟩
noncomputable def elR (r : List At) : El := (49, inR r, encR r)
theorem inR_size {r : List At} (h : chkR r = 0) : (inR r).size ≤ 548 := by
  obtain ⟨_, h2, h3, _⟩ := (chkR_iff r).1 h
  have e1 : (inR r).size = (ordL (lists (r.map encA))).flatten.length := rfl
  rw [e1, ordL_flat_length, lists_flat]
  have hc := cat_lenM 137 (r.map encA) (fun s hs => by
    obtain ⟨a, ha, rfl⟩ := List.mem_map.1 hs
    have q1 := wrapStr_le 48 (inA a).data.toList
    have q2 := inA_size (h3 a ha)
    have q3 : (inA a).data.toList.length = (inA a).size := rfl
    show (wrapStr 48 (inA a).data.toList).size ≤ 137
    omega)
  rw [List.length_map] at hc
  omega
theorem elR_ok {r : List At} (h : chkR r = 0) : OkE (elR r) := ⟨by show 49 < 256; omega, by show 49 % 32 ≠ 31; omega, by show (inR r).size ≤ _; have := inR_size h; omega, rfl⟩
theorem decR_elR {r : List At} (h : chkR r = 0) : decR (elR r) = (0, sortR r) := by
  obtain ⟨_, _, h3, _⟩ := (chkR_iff r).1 h
  have h4 : ∀ a ∈ sortR r, okA a := fun a ha => h3 a ((sortR_perm r).mem_iff.1 ha)
  have hr : raws ((sortR r).map elA) = ordL (lists (r.map encA)) := by rw [raws_elA, lists_sortR]
  have hl : lst (inR r) = ((sortR r).map elA, 0) := lst_els _ (fun e he => by
    obtain ⟨a, ha, rfl⟩ := List.mem_map.1 he
    exact elA_ok (h4 a ha)) _ (by rw [hr]; rfl)
  have hasc : ascB ((sortR r).map elA) = true := (ascB_iff (b := true) ⟨fun _ => asc_of hr (ordL_sorted _), fun _ => rfl⟩).symm
  unfold decR
  have e1 : (elR r).1 = 49 := rfl
  have e2 : (elR r).2.1 = inR r := rfl
  rw [e1, e2, hl, if_neg (by omega), if_neg (by simp)]
  simp only []
  rw [hasc, if_neg (by simp), decAs_elA h4]
theorem decRs_elR : ∀ {n : Nm}, (∀ r ∈ n, chkR r = 0) → decRs (n.map elR) = (0, n.map sortR)
  | [], _ => rfl
  | r :: n, h => by
    have h1 := decR_elR (h r List.mem_cons_self)
    have h2 := decRs_elR (n := n) (fun x hx => h x (List.mem_cons_of_mem _ hx))
    rw [List.map_cons, decRs, h1, h2]
    simp

/-! ### Names -/
theorem one_of_lst {b : ByteArray} {e : El} (h : lst b = ([e], 0)) : oneErr b = 0 ∧ rdElem b = e := by
  by_cases h0 : b.size = 0
  · rw [lst_nil h0] at h; cases (Prod.mk.inj h).1
  · by_cases he : rdErr b = 0
    · rw [lst_step h0 he] at h
      by_cases hr : (lst (rdRest b)).2 = 0
      · rw [if_pos hr] at h
        obtain ⟨h1, h2⟩ := List.cons.inj (Prod.mk.inj h).1
        obtain ⟨_, h3⟩ := els_lst _ (rdRest b) [] (Nat.le_refl _) (by rw [← hr, ← h2])
        have h4 : (rdRest b).size = 0 := size_of_list h3
        exact ⟨by unfold oneErr; rw [if_neg (fun k => k he), if_neg (fun k => k h4)], h1⟩
      · rw [if_neg hr] at h; exact absurd (Prod.mk.inj h).2 hr
    · rw [lst_bad h0 he] at h; exact absurd (Prod.mk.inj h).2 he
noncomputable def inN (n : Nm) : ByteArray := ⟨(cat_t (n.map encR)).toArray⟩
theorem raws_elR (n : Nm) : (raws (n.map elR)).flatten = cat_t (n.map encR) := by
  rw [← flat_cat]
  unfold raws lists
  rw [List.map_map, List.map_map]
  rfl
theorem inN_size {n : Nm} (h : chkN n = 0) : (inN n).size ≤ 4432 := by
  obtain ⟨h2, h3⟩ := (chkN_iff n).1 h
  have e1 : (inN n).size = (cat_t (n.map encR)).length := rfl
  rw [e1]
  have hc := cat_lenM 554 (n.map encR) (fun s hs => by
    obtain ⟨r, hr, rfl⟩ := List.mem_map.1 hs
    have q1 := wrapStr_le 49 (inR r).data.toList
    have q2 := inR_size (h3 r hr)
    have q3 : (inR r).data.toList.length = (inR r).size := rfl
    show (wrapStr 49 (inR r).data.toList).size ≤ 554
    omega)
  rw [List.length_map] at hc
  omega
theorem chkN_sort {n : Nm} (h : chkN n = 0) : chkN (n.map sortR) = 0 := by
  obtain ⟨h2, h3⟩ := (chkN_iff n).1 h
  refine (chkN_iff _).2 ⟨by rw [List.length_map]; exact h2, fun r hr => ?_⟩
  obtain ⟨s, hs, rfl⟩ := List.mem_map.1 hr
  exact chkR_perm (sortR_perm s).symm (h3 s hs)
theorem encN_wr (n : Nm) : encN n = wr1 ((48 : Nat) : Int) (inN n) := rfl
theorem lst_inN {n : Nm} (h : chkN n = 0) : lst (inN n) = (n.map elR, 0) := by
  obtain ⟨_, h3⟩ := (chkN_iff n).1 h
  exact lst_els _ (fun e hm => by
    obtain ⟨r, hr, rfl⟩ := List.mem_map.1 hm
    exact elR_ok (h3 r hr)) _ (by rw [raws_elR]; rfl)
theorem read_one {b c : ByteArray} (hc : c.size ≤ 131072) (hb : b = wr1 ((48 : Nat) : Int) c) : oneErr b = 0 ∧ rdTag b = 48 ∧ rdContent b = c := by
  have hok : OkE (48, c, b) := ⟨by show 48 < 256; omega, by show 48 % 32 ≠ 31; omega, hc, hb⟩
  obtain ⟨h1, he⟩ := one_of_lst (lst_els [(48, c, b)] (fun e hm => by rw [List.mem_singleton.1 hm]; exact hok) b (by unfold raws; simp))
  unfold rdElem at he
  obtain ⟨e1, e2⟩ := Prod.mk.inj he
  obtain ⟨e3, _⟩ := Prod.mk.inj e2
  exact ⟨h1, e1, e3⟩
/-- What is encoded is decoded, apart from the order of attributes. -/
theorem dec_enc {n : Nm} (h : chkN n = 0) : decN (encN n) = (0, n.map sortR) := by
  obtain ⟨h2, h3⟩ := (chkN_iff n).1 h
  obtain ⟨h1, e1, e2⟩ := read_one (b := encN n) (c := inN n) (by have := inN_size h; omega) (encN_wr n)
  have hl := lst_inN h
  have hs := decRs_elR h3
  have hz := chkN_sort h
  generalize encN n = b at h1 e1 e2
  generalize inN n = c at e2 hl
  have h0 : decN0 b = (0, n.map sortR) := by
    unfold decN0
    rw [h1, e1, e2, hl, if_neg (by omega), if_neg (by omega), if_neg (by simp), hs]
  unfold decN
  rw [h0, if_neg (by simp), if_neg (by rw [hz]; omega)]

theorem asc_pair {l : List El} {L : List (List UInt8)} (hL : l.map (fun e => e.2.2.data.toList) = L) (h : ascP l l.length) : L.Pairwise (fun a b => ¬ b < a) := by
  have hl : L.length = l.length := by rw [← hL, List.length_map]
  have g : ∀ j (hj : j < L.length), rawAt l j = L[j] := fun j hj => by
    unfold rawAt
    rw [List.getD_eq_getElem?_getD, List.getElem?_eq_getElem (by omega)]
    simp only [← hL, List.getElem_map, Option.getD_some]
  have hs : ∀ d i, i + d < l.length → ¬ rawAt l (i + d) < rawAt l i := by
    intro d
    induction d with
    | zero => intro i _; exact List.lt_irrefl _
    | succ d ih =>
      intro i hi
      have h1 := ih i (by omega)
      have h2 := h (i + (d + 1)) (by omega) hi
      rw [show i + (d + 1) - 1 = i + d by omega] at h2
      exact List.not_lt.2 (List.le_trans (List.not_lt.1 h1) (List.not_lt.1 h2))
  refine List.pairwise_iff_getElem.2 fun i j hi hj hij => ?_
  rw [← g i hi, ← g j hj]
  have := hs (j - i) i (by omega)
  rwa [show i + (j - i) = j by omega] at this
theorem decA_back {e : El} {a : At} (he : OkE e) (h : decA e = (0, a)) : encA a = e.2.2 := by
  unfold decA at h
  by_cases h1 : e.1 ≠ 48
  · rw [if_pos h1] at h; cases (Prod.mk.inj h).1
  · rw [if_neg h1] at h
    by_cases h2 : (lst e.2.1).2 ≠ 0
    · rw [if_pos h2] at h; exact absurd (Prod.mk.inj h).1 h2
    · rw [if_neg h2] at h
      have h2' : (lst e.2.1).2 = 0 := by omega
      obtain ⟨k1, k2⟩ := els_lst _ e.2.1 (lst e.2.1).1 (Nat.le_refl _) (by rw [← h2'])
      cases hl : (lst e.2.1).1 with
      | nil => rw [hl] at h; simp only [decL] at h; cases (Prod.mk.inj h).1
      | cons x r =>
        rw [hl] at h k1 k2
        simp only [decL] at h
        by_cases h3 : x.1 ≠ 6
        · rw [if_pos h3] at h; cases (Prod.mk.inj h).1
        · rw [if_neg h3] at h
          cases ho : oidD x.2.1 with
          | none => rw [ho] at h; cases (Prod.mk.inj h).1
          | some id =>
            rw [ho] at h
            simp only [] at h
            cases r with
            | nil => cases (Prod.mk.inj h).1
            | cons y q =>
              simp only [] at h
              by_cases h4 : strTag y.1 = false
              · rw [if_pos h4] at h; cases (Prod.mk.inj h).1
              · rw [if_neg h4] at h
                by_cases h5 : q ≠ []
                · rw [if_pos h5] at h; cases (Prod.mk.inj h).1
                · rw [if_neg h5] at h
                  have h5' : q = [] := by simpa using h5
                  subst h5'
                  obtain rfl := (Prod.mk.inj h).2
                  have x1 := k1 x List.mem_cons_self
                  have y1 := k1 y (List.mem_cons_of_mem _ List.mem_cons_self)
                  have hx6 : x.1 = 6 := by omega
                  have h48 : e.1 = 48 := by omega
                  rw [he.2.2.2, h48]
                  show wrapStr 48 _ = wrapStr 48 _
                  congr 1
                  rw [k2, (oid_back ho).1]
                  have xr := x1.2.2.2
                  rw [hx6] at xr
                  have yr := y1.2.2.2
                  show (wr1 6 x.2.1).data.toList ++ (wr1 (y.1 : Int) y.2.1).data.toList = _
                  unfold raws
                  simp [xr, yr]
theorem decAs_back : ∀ {l : List El} {r : List At}, (∀ e ∈ l, OkE e) → decAs l = (0, r) → r.map encA = l.map (·.2.2)
  | [], r, _, h => by
    obtain rfl := (Prod.mk.inj h).2.symm
    rfl
  | e :: l, r, hk, h => by
    unfold decAs at h
    by_cases h1 : (decA e).1 ≠ 0
    · rw [if_pos h1] at h; exact absurd (Prod.mk.inj h).1 h1
    · rw [if_neg h1] at h
      by_cases h2 : (decAs l).1 ≠ 0
      · rw [if_pos h2] at h; exact absurd (Prod.mk.inj h).1 h2
      · rw [if_neg h2] at h
        obtain rfl := (Prod.mk.inj h).2.symm
        have a1 := decA_back (a := (decA e).2) (hk e List.mem_cons_self) (by rw [← show (decA e).1 = 0 by omega])
        have a2 := decAs_back (r := (decAs l).2) (fun x hx => hk x (List.mem_cons_of_mem _ hx)) (by rw [← show (decAs l).1 = 0 by omega])
        rw [List.map_cons, List.map_cons, a1, a2]
theorem decR_back {e : El} {r : List At} (he : OkE e) (h : decR e = (0, r)) : encR r = e.2.2 := by
  unfold decR at h
  by_cases h1 : e.1 ≠ 49
  · rw [if_pos h1] at h; cases (Prod.mk.inj h).1
  · rw [if_neg h1] at h
    by_cases h2 : (lst e.2.1).2 ≠ 0
    · rw [if_pos h2] at h; exact absurd (Prod.mk.inj h).1 h2
    · rw [if_neg h2] at h
      have h2' : (lst e.2.1).2 = 0 := by omega
      obtain ⟨k1, k2⟩ := els_lst _ e.2.1 (lst e.2.1).1 (Nat.le_refl _) (by rw [← h2'])
      by_cases h3 : ascB (lst e.2.1).1 = false
      · rw [if_pos h3] at h; cases (Prod.mk.inj h).1
      · rw [if_neg h3] at h
        have ha : ascP (lst e.2.1).1 (lst e.2.1).1.length := by
          have : ascB (lst e.2.1).1 = true := by simpa using h3
          unfold ascB at this
          exact @of_decide_eq_true _ (Classical.propDecidable _) this
        have hm := decAs_back k1 h
        have hL : lists (r.map encA) = raws (lst e.2.1).1 := by unfold lists raws; rw [hm, List.map_map]; rfl
        have hs : lists (r.map encA) = ordL (lists (r.map encA)) := sorted_one (by rw [hL]; exact asc_pair rfl ha) (List.Perm.refl _)
        have h49 : e.1 = 49 := by omega
        rw [he.2.2.2, h49]
        show wrapStr 49 _ = wrapStr 49 _
        congr 1
        rw [k2, ← hL]
        show (ordL (lists (r.map encA))).flatten = _
        rw [← hs]
theorem decRs_back : ∀ {l : List El} {n : Nm}, (∀ e ∈ l, OkE e) → decRs l = (0, n) → n.map encR = l.map (·.2.2)
  | [], r, _, h => by
    obtain rfl := (Prod.mk.inj h).2.symm
    rfl
  | e :: l, r, hk, h => by
    unfold decRs at h
    by_cases h1 : (decR e).1 ≠ 0
    · rw [if_pos h1] at h; exact absurd (Prod.mk.inj h).1 h1
    · rw [if_neg h1] at h
      by_cases h2 : (decRs l).1 ≠ 0
      · rw [if_pos h2] at h; exact absurd (Prod.mk.inj h).1 h2
      · rw [if_neg h2] at h
        obtain rfl := (Prod.mk.inj h).2.symm
        have a1 := decR_back (r := (decR e).2) (hk e List.mem_cons_self) (by rw [← show (decR e).1 = 0 by omega])
        have a2 := decRs_back (n := (decRs l).2) (fun x hx => hk x (List.mem_cons_of_mem _ hx)) (by rw [← show (decRs l).1 = 0 by omega])
        rw [List.map_cons, List.map_cons, a1, a2]
/-- What is decoded is encoded as it was. -/
theorem enc_dec {b : ByteArray} {n : Nm} (h : decN b = (0, n)) : chkN n = 0 ∧ encN n = b := by
  unfold decN at h
  by_cases h1 : (decN0 b).1 ≠ 0
  · rw [if_pos h1] at h; exact absurd (Prod.mk.inj h).1 h1
  · rw [if_neg h1] at h
    by_cases h2 : chkN (decN0 b).2 ≠ 0
    · rw [if_pos h2] at h; exact absurd (Prod.mk.inj h).1 h2
    · rw [if_neg h2] at h
      obtain rfl := (Prod.mk.inj h).2.symm
      refine ⟨by omega, ?_⟩
      clear h h2
      have h1' : (decN0 b).1 = 0 := by omega
      obtain ⟨n, hn⟩ : ∃ n, n = (decN0 b).2 := ⟨_, rfl⟩
      have h : decN0 b = (0, n) := by rw [← h1', hn]
      rw [← hn]
      clear hn h1 h1'
      unfold decN0 at h
      by_cases h1 : oneErr b ≠ 0
      · rw [if_pos h1] at h; exact absurd (Prod.mk.inj h).1 h1
      · rw [if_neg h1] at h
        by_cases h2 : rdTag b ≠ 48
        · rw [if_pos h2] at h; cases (Prod.mk.inj h).1
        · rw [if_neg h2] at h
          by_cases h3 : (lst (rdContent b)).2 ≠ 0
          · rw [if_pos h3] at h; exact absurd (Prod.mk.inj h).1 h3
          · rw [if_neg h3] at h
            obtain ⟨k1, k2⟩ := els_lst _ (rdContent b) (lst (rdContent b)).1 (Nat.le_refl _) (by rw [← show (lst (rdContent b)).2 = 0 by omega])
            have hm := decRs_back k1 h
            obtain ⟨w1, w2⟩ := wrap_one (b := b) (by omega)
            have he := oneErr_rd (show oneErr b = 0 by omega)
            obtain ⟨p1, _⟩ := rd_parts he
            have h48 : rdTag b = 48 := by omega
            have p2 := p1.2.2.2
            have p3 : rdRaw b = wr1 ((rdTag b : Nat) : Int) (rdContent b) := p2
            rw [w2, h48] at p3
            rw [p3]
            show wrapStr 48 _ = wrapStr 48 _
            congr 1
            rw [k2, ← flat_cat]
            congr 1
            unfold lists raws
            rw [hm, List.map_map]
            rfl
end Go.Proofs.YtbpdenfiifcfcaaGreatDoor
namespace Go.Proofs.YtbpdenfiifcfcaaGreatDoor
open Go.RowKit

noncomputable def decG (con : Bool) (tag : Int) (ct : ByteArray) : Nat × Gn :=
  if tag = 129 ∨ tag = 130 ∨ tag = 135 then (if chkG con (tag - 128) ct.data.toList [] = 0 then (0, (tag - 128, ct.data.toList, [])) else (chkG con (tag - 128) ct.data.toList [], noG))
  else if tag = 164 then (if (decN ct).1 = 0 then (0, (4, [], (decN ct).2)) else ((decN ct).1, noG)) else (5, noG)
theorem gnRes2 {fn : Func} {p u : Tmp} (h : fn.results = #[.cell p 29, .tmp u]) (tmps : Array Value) (w : World) (g : Nat) (x y z : Value)
    (hp : tmps.getD p undef = .pointer (some ⟨g, 0, none⟩)) (hg : w.heap[g]? = some (.cells #[x, y, z] 29 (0, 0))) :
    (results fn tmps).run Tryz.prog w = .ok (.tuple #[.agg #[x, y, z], tmps.getD u undef]) w :=
  results_cell_row2 h tmps w g 29 #[x, y, z] (0, 0) _ hp hg Tryz.underlying29 rfl gnSize
theorem tag_or (T : Int) : T = 129 ∨ T = 130 ∨ T = 135 ∨ T = 164 ∨ (T ≠ 129 ∧ T ≠ 130 ∧ T ≠ 135 ∧ T ≠ 164) := by omega

end Go.Proofs.YtbpdenfiifcfcaaGreatDoor
