/-
  The contract of Decode: the name whose encoding bytes are, or the error.
  What is accepted is what is written: an element that is read depends on its own bytes alone, and is what Wrap writes for its parts; what Wrap writes is read. Nothing is claimed of the program here.
  What is accepted is what is written, as lists of bytes. Nothing is claimed of the program here.
  What Wrap writes is read, whatever stands behind it; what One accepts is what Wrap writes. Nothing is claimed of the program here.
  The contract of Few of certpathmade: whether a list of strings is small enough for a law.
-/
import Derived.Test.YtfpfgdbfigdooaaGreatDoorEbe
import Derived.Test.YtfpfgdbfigdooaaGreatDoorEaj
import Derived.Test.YtfpfgdbfigdooaaGreatDoorEaz
import Derived.Test.YtfpfgdbfigdooaaGreatDoorEar
import Derived.Test.YtfpfgdbfigdooaaGreatDoorEau
import Derived.Test.YtfpfgdbfigdooaaGreatDoorEaq
namespace Go.Proofs.YtfpfgdbfigdooaaGreatDoor
open Go.RowKit

theorem oidD_size {c id : ByteArray} (h : oidD c = some id) : id.size ≤ 1000 := by
  by_cases hx : ∃ a, Dec c.data.toList a
  · obtain ⟨a, ha⟩ := hx
    rw [oidD_yes ha] at h
    obtain rfl := Option.some.inj h
    rw [strOf_size]
    obtain ⟨_, h2, h5⟩ := ha.1
    have h5 := h5.1
    have := txt_len a h5
    omega
  · rw [oidD_no (fun a k => hx ⟨a, k⟩)] at h; cases h
theorem decL_small {l : List El} {K M : Nat} (hm : ∀ e ∈ l, e.2.1.size ≤ K) (h : K ≤ M) (hM : 1000 ≤ M) : (decL l).2.1.size ≤ M ∧ (decL l).2.2.2.size ≤ M := by
  have hz : noAt.1.size ≤ M ∧ noAt.2.2.size ≤ M := ⟨Nat.zero_le _, Nat.zero_le _⟩
  cases l with
  | nil => exact hz
  | cons x r =>
    by_cases hx : x.1 = 6
    case neg => simp only [decL]; rw [if_pos hx]; exact hz
    cases hd : oidD x.2.1 with
    | none => simp only [decL, hd]; rw [if_neg (by simpa using hx)]; exact hz
    | some id =>
      cases r with
      | nil => simp only [decL, hd]; rw [if_neg (by simpa using hx)]; exact hz
      | cons y q =>
        simp only [decL, hd]
        rw [if_neg (by simpa using hx)]
        by_cases hs : strTag y.1 = false
        · rw [if_pos hs]; exact hz
        · rw [if_neg hs]
          by_cases hq : q = []
          · rw [if_neg (by simpa using hq)]
            exact ⟨Nat.le_trans (oidD_size hd) hM, Nat.le_trans (hm y (List.mem_cons_of_mem _ List.mem_cons_self)) h⟩
          · rw [if_pos hq]; exact hz
theorem decA_small {e : El} {M : Nat} (h : e.2.1.size ≤ M) (hM : 1000 ≤ M) : (decA e).2.1.size ≤ M ∧ (decA e).2.2.2.size ≤ M := by
  have hz : noAt.1.size ≤ M ∧ noAt.2.2.size ≤ M := ⟨Nat.zero_le _, Nat.zero_le _⟩
  have hm := lst_mem _ e.2.1 (Nat.le_refl _)
  unfold decA
  split
  · exact hz
  · split
    · exact hz
    · exact decL_small hm h hM
theorem decAs_small : ∀ {l : List El} {M : Nat}, 1000 ≤ M → (∀ e ∈ l, e.2.1.size ≤ M) → (decAs l).2.length ≤ l.length ∧ ∀ i, i < (decAs l).2.length → ((decAs l).2.getD i noAt).1.size ≤ M ∧ ((decAs l).2.getD i noAt).2.2.size ≤ M
  | [], M, hM, h => ⟨Nat.le_refl _, fun i hi => absurd hi (Nat.not_lt_zero _)⟩
  | e :: r, M, hM, h => by
    obtain ⟨h1, h2⟩ := decAs_small hM (fun x hx => h x (List.mem_cons_of_mem _ hx))
    unfold decAs
    split
    · exact ⟨Nat.zero_le _, fun i hi => absurd hi (Nat.not_lt_zero _)⟩
    · split
      · exact ⟨Nat.zero_le _, fun i hi => absurd hi (Nat.not_lt_zero _)⟩
      · refine ⟨by simp; omega, fun i hi => ?_⟩
        cases i with
        | zero => exact decA_small (h e List.mem_cons_self) hM
        | succ i => exact h2 i (by simpa using hi)
theorem decR_small {e : El} {M : Nat} (hM : 1000 ≤ M) (h : e.2.1.size ≤ M) (hM2 : M ≤ 1000000) : SmallR (decR e).2 := by
  have hz : SmallR [] := ⟨by simp, fun i hi => absurd hi (Nat.not_lt_zero _)⟩
  have hl := lst_length e.2.1 _ (Nat.le_refl _)
  have hm := lst_mem _ e.2.1 (Nat.le_refl _)
  unfold decR
  split
  · exact hz
  · split
    · exact hz
    · split
      · exact hz
      · obtain ⟨h1, h2⟩ := decAs_small hM (fun x hx => Nat.le_trans (hm x hx) h)
        exact ⟨by omega, fun i hi => ⟨Nat.le_trans (h2 i hi).1 hM2, Nat.le_trans (h2 i hi).2 hM2⟩⟩
theorem decRs_small : ∀ {l : List El} {M : Nat}, 1000 ≤ M → M ≤ 1000000 → (∀ e ∈ l, e.2.1.size ≤ M) → (decRs l).2.length ≤ l.length ∧ ∀ i, i < (decRs l).2.length → SmallR ((decRs l).2.getD i [])
  | [], M, hM, hM2, h => ⟨Nat.le_refl _, fun i hi => absurd hi (Nat.not_lt_zero _)⟩
  | e :: r, M, hM, hM2, h => by
    obtain ⟨h1, h2⟩ := decRs_small hM hM2 (fun x hx => h x (List.mem_cons_of_mem _ hx))
    unfold decRs
    split
    · exact ⟨Nat.zero_le _, fun i hi => absurd hi (Nat.not_lt_zero _)⟩
    · split
      · exact ⟨Nat.zero_le _, fun i hi => absurd hi (Nat.not_lt_zero _)⟩
      · refine ⟨by simp; omega, fun i hi => ?_⟩
        cases i with
        | zero => exact decR_small hM (h e List.mem_cons_self) hM2
        | succ i => exact h2 i (by simpa using hi)
theorem decN0_small {b : ByteArray} (hb : b.size ≤ 1000000) : SmallN (decN0 b).2 := by
  have hz : SmallN [] := ⟨by simp, fun i hi => absurd hi (Nat.not_lt_zero _)⟩
  unfold decN0
  split
  · exact hz
  · rename_i h1
    have hc := rdContent_size (oneErr_rd (by simpa using h1))
    split
    · exact hz
    · split
      · exact hz
      · have hl := lst_length (rdContent b) _ (Nat.le_refl _)
        have hm := lst_mem _ (rdContent b) (Nat.le_refl _)
        obtain ⟨h2, h3⟩ := decRs_small (M := 1000000) (by omega) (by omega) (fun x hx => Nat.le_trans (hm x hx) (by omega))
        exact ⟨by omega, h3⟩
theorem decN_small {b : ByteArray} (hb : b.size ≤ 1000000) : SmallN (decN b).2 := by
  have hz : SmallN [] := ⟨by simp, fun i hi => absurd hi (Nat.not_lt_zero _)⟩
  unfold decN
  split
  · exact hz
  · split
    · exact hz
    · exact decN0_small hb

set_option maxRecDepth 100000 in
set_option maxHeartbeats 4000000 in
theorem decode_nm (x : ByteArray) (w : World) (hx : x.size ≤ 1000000) (hT : Tab w) (hP : Pow10 w) :
    Calls Tryz.prog 20 #[.string x] w fun e w' => ∃ v, e = .returned (.tuple #[v, .int .i64 (((decN x).1 : Nat) : Int)]) ∧ OwnV w' w.heap.size v (decN x).2 ∧ Below w.heap.size w w' := by
  obtain ⟨W0, hW0⟩ : ∃ W0, W0 = w.alloc (.cells #[.slice none 0 0] 24) := ⟨_, rfl⟩
  have hwr : w.alloc (.cells #[.slice none 0 0] 24) = W0 := hW0.symm
  have hb0 : Below w.heap.size w W0 := by rw [hW0]; exact belowNew w _
  have hq0 : W0.heap[w.heap.size]? = some (.cells #[.slice none 0 0] 24 (0, 0)) := by rw [hW0]; exact heap_alloc_new w _
  have hz : W0.heap.size = w.heap.size + 1 := by rw [hW0]; simp
  have HB0 := Lib.hid hb0
  have HQ0 := Lib.hid hq0
  have HZ := Lib.hid hz
  have HT := Lib.hid (hT.below hb0)
  have HPP := Lib.hid (decnm0_any x W0 (by omega) (hP.below hb0))
  have HSM := Lib.hid (decN0_small hx)
  obtain ⟨E, V, hEV⟩ : ∃ E V, decN x = (E, V) := ⟨_, _, rfl⟩
  have HRES := Lib.hid (show (E, V) = if (decN0 x).1 ≠ 0 then ((decN0 x).1, []) else if chkN (decN0 x).2 ≠ 0 then (chkN (decN0 x).2, []) else (0, (decN0 x).2) from hEV.symm)
  rw [hEV]
  generalize decN0 x = r at HPP HSM HRES
  obtain ⟨er, n⟩ := r
  simp only at HPP HSM HRES
  clear hEV hb0 hq0 hz hT hP hW0
  by_cases hz0 : er = 0
  case neg =>
    obtain ⟨rfl, rfl⟩ : E = er ∧ V = [] := by have := HRES.out; rw [if_pos hz0] at this; simpa using this
    have hz1 := errno_ne hz0
    have hz2 : ((E : Int) == 0) = false := by simp; omega
    clear hz0
    go_enter Tryz.func20, Tryz.ntmps20
    go_wp2_with (go_at_call 42; (with_reducible refine HPP.out.mono ?_); rintro e w1 ⟨v, rfl, ho, hb1⟩; obtain ⟨s, rfl, hs⟩ := ho; obtain ⟨av, cv, rfl, _, _⟩ := hs.lies; have hq := (hb1.block _ (one_facts HQ0.out).2.2).trans HQ0.out; have HQ := Lib.hid hq; obtain ⟨r0, g0, hlt0⟩ := one_facts hq; have HB1 := Lib.hid (below_next HB0.out hb1); clear hb1 hq hs)
    exact bodyPost_ret (nmRes rfl _ _ w _ rfl (((belowNew _ _).block _ (Array.getElem?_eq_some_iff.1 (one_set HQ.out)).1).trans (one_set HQ.out))) rfl ⟨_, rfl, ⟨_, rfl, OwnN.nil _ _⟩, below_next (HB1.out.setCell (p := ⟨w.heap.size, 0, none⟩) (Nat.le_refl _) _) (belowNew _ _)⟩
  subst hz0
  have HCK := Lib.hid (fun (av : Option Addr) (cv : Nat) W (h : RLies W av n) (hT : Tab W) => chk_core av cv n.length n W h rfl HSM.out hT)
  obtain ⟨C, hC⟩ : ∃ C, C = chkN n := ⟨_, rfl⟩
  have HRE := Lib.hid (show (E, V) = if C ≠ 0 then (C, []) else (0, n) by have := HRES.out; rw [if_neg (by simp), ← hC] at this; exact this)
  rw [← hC] at HCK
  clear HRES hC
  have hee : (((0 : Nat) : Int) == 0) = true := rfl
  by_cases hz0 : C = 0
  · obtain ⟨rfl, rfl⟩ : E = 0 ∧ V = n := by have := HRE.out; rw [if_neg (by simpa using hz0)] at this; simpa using this
    subst hz0
    go_enter Tryz.func20, Tryz.ntmps20
    go_wp2_with (first
      | (go_at_call 42; (with_reducible refine HPP.out.mono ?_); rintro e w1 ⟨v, rfl, ho, hb1⟩; obtain ⟨s, rfl, hs⟩ := ho; obtain ⟨av, cv, rfl, _, hrl⟩ := hs.lies; have HRL := Lib.hid hrl; have HOW := Lib.hid hs; have hq := (hb1.block _ (one_facts HQ0.out).2.2).trans HQ0.out; have HQ := Lib.hid hq; have HB1 := Lib.hid (below_next HB0.out hb1); have HTB := Lib.hid (HT.out.below hb1); clear hb1 hq hs hrl)
      | (go_at_call 16; (with_reducible refine (HCK.out _ _ _ (HRL.out.below (belowNew w1 _)) (HTB.out.below (belowNew w1 _))).mono ?_); rintro e w2 ⟨rfl, hb2⟩; have hq := ((below_next (belowNew w1 _) hb2).block _ (one_facts HQ.out).2.2).trans HQ.out; have HQ2 := Lib.hid hq; obtain ⟨r0, g0, hlt0⟩ := one_facts hq; have hq1 := (hb2.block _ (by simp)).trans (heap_alloc_new w1 _); obtain ⟨m0, n0, hlt1⟩ := one_facts hq1; have HB2 := Lib.hid (below_next (belowNew w1 _) hb2); clear hb2 hq hq1))
    exact bodyPost_ret (nmRes rfl _ _ w _ rfl (one_set HQ2.out)) rfl ⟨_, rfl, ⟨_, rfl, ((HOW.out.below HB2.out).but (p := w.heap.size) (But.set _ _ _ _) (by have := HZ.out; omega)).base (by have := HZ.out; omega)⟩, (below_next HB1.out HB2.out).setCell (p := ⟨w.heap.size, 0, none⟩) (Nat.le_refl _) _⟩
  · obtain ⟨rfl, rfl⟩ : E = C ∧ V = [] := by have := HRE.out; rw [if_pos hz0] at this; simpa using this
    have hz1 := errno_ne hz0
    clear hz0
    go_enter Tryz.func20, Tryz.ntmps20
    go_wp2_with (first
      | (go_at_call 42; (with_reducible refine HPP.out.mono ?_); rintro e w1 ⟨v, rfl, ho, hb1⟩; obtain ⟨s, rfl, hs⟩ := ho; obtain ⟨av, cv, rfl, _, hrl⟩ := hs.lies; have HRL := Lib.hid hrl; have hq := (hb1.block _ (one_facts HQ0.out).2.2).trans HQ0.out; have HQ := Lib.hid hq; have HB1 := Lib.hid (below_next HB0.out hb1); have HTB := Lib.hid (HT.out.below hb1); clear hb1 hq hs hrl)
      | (go_at_call 16; (with_reducible refine (HCK.out _ _ _ (HRL.out.below (belowNew w1 _)) (HTB.out.below (belowNew w1 _))).mono ?_); rintro e w2 ⟨rfl, hb2⟩; have hq := ((below_next (belowNew w1 _) hb2).block _ (one_facts HQ.out).2.2).trans HQ.out; have HQ2 := Lib.hid hq; obtain ⟨r0, g0, hlt0⟩ := one_facts hq; have HB2 := Lib.hid (below_next (belowNew w1 _) hb2); clear hb2 hq))
    exact bodyPost_ret (nmRes rfl _ _ w _ rfl (one_set HQ2.out)) rfl ⟨_, rfl, ⟨_, rfl, OwnN.nil _ _⟩, (below_next HB1.out HB2.out).setCell (p := ⟨w.heap.size, 0, none⟩) (Nat.le_refl _) _⟩
end Go.Proofs.YtfpfgdbfigdooaaGreatDoor
namespace Go.Proofs.YtfpfgdbfigdooaaGreatDoor
open Go.RowKit

theorem be_congr {b p : ByteArray} (o k : Nat) (h : ∀ i, i < k → u8at b (o + i) = u8at p (o + i)) : be b o k = be p o k := by
  induction k with
  | zero => rfl
  | succ k ih => simp only [be]; rw [ih (fun i hi => h i (by omega)), h k (by omega)]
theorem lnAt_pre {b p : ByteArray} (h : (lnAt p 1).2.2 = 0) (hs : p.size ≤ b.size) (hu : ∀ i, i < p.size → u8at b i = u8at p i) : lnAt b 1 = lnAt p 1 := by
  revert h
  unfold lnAt
  by_cases h1 : p.size ≤ 1
  · rw [if_pos h1]; intro h; cases h
  · rw [if_neg h1, if_neg (show ¬ b.size ≤ 1 by omega), hu 1 (by omega)]
    by_cases h2 : u8at p 1 < 128
    · rw [if_pos h2, if_pos h2]; intro _; rfl
    · rw [if_neg h2, if_neg h2]
      by_cases h3 : u8at p 1 = 128 ∨ 131 < u8at p 1
      · rw [if_pos h3]; intro h; cases h
      · rw [if_neg h3, if_neg h3]
        by_cases h4 : p.size < 1 + 1 + (u8at p 1 - 128)
        · rw [if_pos h4]; intro h; cases h
        · rw [if_neg h4, if_neg (show ¬ b.size < 1 + 1 + (u8at p 1 - 128) by omega), be_congr (b := b) (p := p) (1 + 1) (u8at p 1 - 128) (fun i hi => hu _ (by omega))]
          intro _; rfl
theorem rd_cases {b : ByteArray} (h : rdErr b = 0) : b.size ≠ 0 ∧ u8at b 0 % 32 ≠ 31 ∧ (lnAt b 1).2.2 = 0 ∧ 1 + (lnAt b 1).2.1 + (lnAt b 1).1 ≤ b.size ∧ rd b = (0, 1 + (lnAt b 1).2.1, (lnAt b 1).1) := by
  unfold rdErr rd at h
  unfold rd
  by_cases h0 : b.size = 0
  · rw [if_pos h0] at h; cases h
  · rw [if_neg h0] at h ⊢
    by_cases h1 : u8at b 0 % 32 = 31
    · rw [if_pos h1] at h; cases h
    · rw [if_neg h1] at h ⊢
      by_cases h2 : (lnAt b 1).2.2 = 0
      · rw [if_neg (fun x => x h2)] at h ⊢
        by_cases h3 : b.size < 1 + (lnAt b 1).2.1 + (lnAt b 1).1
        · rw [if_pos h3] at h; cases h
        · rw [if_neg h3]
          exact ⟨h0, h1, h2, by omega, rfl⟩
      · rw [if_pos h2] at h; exact absurd h h2
theorem rd_mk {b : ByteArray} (h0 : b.size ≠ 0) (h1 : u8at b 0 % 32 ≠ 31) (h2 : (lnAt b 1).2.2 = 0) (h3 : 1 + (lnAt b 1).2.1 + (lnAt b 1).1 ≤ b.size) : rd b = (0, 1 + (lnAt b 1).2.1, (lnAt b 1).1) := by
  unfold rd
  rw [if_neg h0, if_neg h1, if_neg (fun x => x h2), if_neg (by omega)]
theorem rd_pre {b p : ByteArray} (h : rdErr p = 0) (hs : p.size ≤ b.size) (hu : ∀ i, i < p.size → u8at b i = u8at p i) : rd b = rd p := by
  obtain ⟨h0, h1, h2, h3, h4⟩ := rd_cases h
  have e := lnAt_pre h2 hs hu
  rw [h4, ← e]
  exact rd_mk (by omega) (by rw [hu 0 (by omega)]; exact h1) (by rw [e]; exact h2) (by rw [e]; omega)
theorem oneErr_size {b : ByteArray} (h : oneErr b = 0) : (rd b).2.1 + (rd b).2.2 = b.size := by
  have h1 := oneErr_rd h
  obtain ⟨_, _, h2, _, _⟩ := rd_ok h1
  unfold oneErr at h
  rw [if_neg (fun x => x h1)] at h
  by_cases h3 : (rdRest b).size = 0
  · unfold rdRest at h3
    rw [ByteArray.size_extract] at h3
    omega
  · rw [if_pos h3] at h; cases h
theorem u8at_take (b : ByteArray) (j i : Nat) (h : i < j) : u8at (b.extract 0 j) i = u8at b i := by
  unfold u8at
  congr 1
  rw [List.getD_eq_getElem?_getD, List.getD_eq_getElem?_getD]
  congr 1
  rw [ByteArray.data_extract, Array.toList_extract, List.extract_eq_take_drop, List.getElem?_take, if_pos (by omega), List.getElem?_drop, Nat.zero_add]
/-- No element is a proper beginning of another one. -/
theorem no_prefix {b : ByteArray} {j : Nat} (hj : j < b.size) (h : oneErr b = 0) : oneErr (b.extract 0 j) ≠ 0 := by
  intro h1
  have hs : (b.extract 0 j).size = j := by rw [ByteArray.size_extract]; omega
  have e := rd_pre (oneErr_rd h1) (by omega : (b.extract 0 j).size ≤ b.size) (fun i hi => (u8at_take b j i (by omega)).symm)
  have h2 := oneErr_size h
  have h3 := oneErr_size h1
  rw [← e, hs] at h3
  omega
end Go.Proofs.YtfpfgdbfigdooaaGreatDoor
namespace Go.Proofs.YtfpfgdbfigdooaaGreatDoor
open Go.RowKit

theorem u8at_list_t {b : ByteArray} {L : List UInt8} (h : b.data.toList = L) (i : Nat) : u8at b i = (L.getD i 0).toNat := by unfold u8at; rw [h]
theorem size_list {b : ByteArray} {L : List UInt8} (h : b.data.toList = L) : b.size = L.length := by rw [← h]; rfl
theorem data_extract (b : ByteArray) (i j : Nat) : (b.extract i j).data.toList = (b.data.toList.drop i).take (j - i) := by
  rw [ByteArray.data_extract, Array.toList_extract, List.extract_eq_take_drop]
theorem lst_ge {L : List UInt8} (k : Nat) (h : k + 1 ≤ L.length) : ∃ x r, L = x :: r ∧ k ≤ r.length := by
  cases L with
  | nil => exact absurd h (Nat.not_succ_le_zero _)
  | cons x r => exact ⟨x, r, rfl, by simpa using h⟩

/-- The header that was read is the one that is written. -/
theorem head_back {b : ByteArray} (h : rdErr b = 0) : b.data.toList = UInt8.ofNat (rdTag b) :: (lenO (rd b).2.2 ++ b.data.toList.drop (rd b).2.1) := by
  obtain ⟨h0, h1, h2, h3, h4⟩ := rd_cases h
  obtain ⟨L, hL⟩ : ∃ L, b.data.toList = L := ⟨_, rfl⟩
  have hu := u8at_list_t hL
  have hsz := size_list hL
  rw [h4, hL]
  unfold rdTag
  simp only
  revert h2 h3
  unfold lnAt
  by_cases c1 : b.size ≤ 1
  · rw [if_pos c1]; intro x; cases x
  · rw [if_neg c1]
    by_cases c2 : u8at b 1 < 128
    · rw [if_pos c2]
      intro _ h3
      simp only at h3 ⊢
      obtain ⟨x0, r0, rfl, g0⟩ := lst_ge (L := L) 1 (by omega)
      obtain ⟨x1, r1, rfl, g1⟩ := lst_ge (L := r0) 0 (by omega)
      have e0 : u8at b 0 = x0.toNat := hu 0
      have e1 : u8at b 1 = x1.toNat := hu 1
      rw [e1] at c2 ⊢
      rw [e0]
      have e2 : lenO x1.toNat = [x1] := by unfold lenO; rw [if_pos (lsz1 c2), UInt8.ofNat_toNat]
      rw [e2, UInt8.ofNat_toNat]
      rfl
    · rw [if_neg c2]
      by_cases c3 : u8at b 1 = 128 ∨ 131 < u8at b 1
      · rw [if_pos c3]; intro x; cases x
      · rw [if_neg c3]
        by_cases c4 : b.size < 1 + 1 + (u8at b 1 - 128)
        · rw [if_pos c4]; intro x; cases x
        · rw [if_neg c4]
          by_cases c5 : be b (1 + 1) (u8at b 1 - 128) < least (u8at b 1 - 128) ∨ 131072 < be b (1 + 1) (u8at b 1 - 128)
          · rw [if_pos c5]; intro x; cases x
          · rw [if_neg c5]
            intro _ h3
            simp only at h3 ⊢
            have hn := be_lt b (1 + 1) (u8at b 1 - 128)
            obtain ⟨k, hk⟩ : ∃ k, k = u8at b 1 - 128 := ⟨_, rfl⟩
            rw [← hk] at c4 c5 hn ⊢
            obtain ⟨x0, r0, rfl, g0⟩ := lst_ge (L := L) 1 (by omega)
            obtain ⟨x1, r1, rfl, g1⟩ := lst_ge (L := r0) 0 (by omega)
            have e0 : u8at b 0 = x0.toNat := hu 0
            have e1 : u8at b 1 = x1.toNat := hu 1
            have hl : r1.length + 2 = b.size := by rw [hsz]; rfl
            rw [e0, UInt8.ofNat_toNat]
            rcases (by omega : k = 1 ∨ k = 2 ∨ k = 3) with rfl | rfl | rfl
            · obtain ⟨x2, r2, rfl, g2⟩ := lst_ge (L := r1) 0 (by omega)
              have e2 : u8at b 2 = x2.toNat := hu 2
              have ev : be b (1 + 1) 1 = x2.toNat := by show 256 * 0 + u8at b 2 = _; omega
              rw [ev] at c5 hn ⊢
              rw [least_one] at c5
              have hz : lsz x2.toNat = 2 := lsz2 (by omega) (by omega)
              have e3 : lenO x2.toNat = [x1, x2] := by
                unfold lenO
                rw [if_neg (by omega), hz]
                show [UInt8.ofNat 129, UInt8.ofNat (x2.toNat / 256 ^ 0)] = _
                rw [show (129 : Nat) = x1.toNat by omega, Nat.pow_zero, Nat.div_one, UInt8.ofNat_toNat, UInt8.ofNat_toNat]
              rw [e3]
              rfl
            · obtain ⟨x2, r2, rfl, g2⟩ := lst_ge (L := r1) 1 (by omega)
              obtain ⟨x3, r3, rfl, g3⟩ := lst_ge (L := r2) 0 (by omega)
              have e2 : u8at b 2 = x2.toNat := hu 2
              have e3 : u8at b 3 = x3.toNat := hu 3
              have l2 := x2.toNat_lt
              have l3 := x3.toNat_lt
              obtain ⟨v, hv⟩ : ∃ v, v = be b (1 + 1) 2 := ⟨_, rfl⟩
              have ev : v = 256 * x2.toNat + x3.toNat := by rw [hv]; show 256 * (256 * 0 + u8at b 2) + u8at b 3 = _; omega
              rw [← hv] at c5 hn ⊢
              rw [least_two] at c5
              have hz : lsz v = 3 := lsz3 (by omega) (by omega)
              have e4 : lenO v = [x1, x2, x3] := by
                unfold lenO
                rw [if_neg (by omega), hz]
                show [UInt8.ofNat 130, UInt8.ofNat (v / 256 ^ 1), UInt8.ofNat (v / 256 ^ 0)] = _
                have q1 : UInt8.ofNat (v / 256 ^ 1) = x2 := by rw [← UInt8.toNat_inj]; simp; omega
                have q2 : UInt8.ofNat (v / 256 ^ 0) = x3 := by rw [← UInt8.toNat_inj]; simp; omega
                rw [show (130 : Nat) = x1.toNat by omega, UInt8.ofNat_toNat, q1, q2]
              rw [e4]
              rfl
            · obtain ⟨x2, r2, rfl, g2⟩ := lst_ge (L := r1) 2 (by omega)
              obtain ⟨x3, r3, rfl, g3⟩ := lst_ge (L := r2) 1 (by omega)
              obtain ⟨x4, r4, rfl, g4⟩ := lst_ge (L := r3) 0 (by omega)
              have e2 : u8at b 2 = x2.toNat := hu 2
              have e3 : u8at b 3 = x3.toNat := hu 3
              have e4 : u8at b 4 = x4.toNat := hu 4
              have l2 := x2.toNat_lt
              have l3 := x3.toNat_lt
              have l4 := x4.toNat_lt
              obtain ⟨v, hv⟩ : ∃ v, v = be b (1 + 1) 3 := ⟨_, rfl⟩
              have ev : v = 256 * (256 * x2.toNat + x3.toNat) + x4.toNat := by rw [hv]; show 256 * (256 * (256 * 0 + u8at b 2) + u8at b 3) + u8at b 4 = _; omega
              rw [← hv] at c5 hn ⊢
              rw [least_three] at c5
              have hz : lsz v = 4 := lsz4 (by omega)
              have e5 : lenO v = [x1, x2, x3, x4] := by
                unfold lenO
                rw [if_neg (by omega), hz]
                show [UInt8.ofNat 131, UInt8.ofNat (v / 256 ^ 2), UInt8.ofNat (v / 256 ^ 1), UInt8.ofNat (v / 256 ^ 0)] = _
                have q1 : UInt8.ofNat (v / 256 ^ 2) = x2 := by rw [← UInt8.toNat_inj]; simp; omega
                have q2 : UInt8.ofNat (v / 256 ^ 1) = x3 := by rw [← UInt8.toNat_inj]; simp; omega
                have q3 : UInt8.ofNat (v / 256 ^ 0) = x4 := by rw [← UInt8.toNat_inj]; simp; omega
                rw [show (131 : Nat) = x1.toNat by omega, UInt8.ofNat_toNat, q1, q2, q3]
              rw [e5]
              rfl
end Go.Proofs.YtfpfgdbfigdooaaGreatDoor
namespace Go.Proofs.YtfpfgdbfigdooaaGreatDoor
open Go.RowKit

theorem rd_len_le {b : ByteArray} (h : rdErr b = 0) : (rd b).2.2 ≤ 131072 := by
  obtain ⟨_, _, h2, _, h4⟩ := rd_cases h
  rw [h4]
  simp only
  revert h2
  unfold lnAt
  repeat' split
  all_goals first | exact fun x => absurd x (by decide) | (intro _; simp only; omega)
theorem ofNat_small {n : Nat} (h : n < 256) : (UInt8.ofNat n).toNat = n := by simp; omega

/-- What Wrap has written is read, whatever stands behind it. -/
theorem rd_wrap {b : ByteArray} {t : Nat} {c d : List UInt8} (ht : t < 256) (h1 : t % 32 ≠ 31) (hc : c.length ≤ 131072) (hb : b.data.toList = wrapL t c ++ d) : rd b = (0, 1 + lsz c.length, c.length) := by
  have hu := u8at_list_t hb
  have hsz := size_list hb
  have hw : wrapL t c ++ d = UInt8.ofNat t :: (lenO c.length ++ (c ++ d)) := by unfold wrapL; simp
  rw [hw] at hu hsz
  have e0 : u8at b 0 = t := by rw [hu 0]; exact ofNat_small ht
  have hl : b.size = 1 + lsz c.length + c.length + d.length := by rw [hsz]; simp [lenO_length]; omega
  have hz := lsz_le c.length
  obtain ⟨n, hn⟩ : ∃ n, n = c.length := ⟨_, rfl⟩
  rw [← hn] at hc hu hl hz ⊢
  have key : lnAt b 1 = (n, lsz n, 0) := by
    unfold lnAt
    rw [if_neg (show ¬ b.size ≤ 1 by omega)]
    have hcs := lsz_cases n
    by_cases c1 : lsz n = 1
    · have e1 : u8at b 1 = n := by
        rw [hu 1]; unfold lenO; rw [if_pos c1]; exact ofNat_small (by omega)
      rw [e1, if_pos (by omega), c1]
    · have e1 : u8at b 1 = 127 + lsz n := by
        rw [hu 1]; unfold lenO; rw [if_neg c1]; exact ofNat_small (by omega)
      obtain ⟨k, hk⟩ : ∃ k, lsz n = 1 + k := ⟨lsz n - 1, by omega⟩
      have e2 : 127 + lsz n - 128 = k := by omega
      have eo : lenO n = UInt8.ofNat (127 + lsz n) :: octs n k := by unfold lenO; rw [if_neg c1, show lsz n - 1 = k by omega]
      have hle := least_ok (v := n) (k := k) (by omega) (by omega) hk
      have ev : be b (1 + 1) k = n := by
        rw [eo] at hu
        rcases (by omega : k = 1 ∨ k = 2 ∨ k = 3) with rfl | rfl | rfl
        · have a2 : u8at b 2 = n % 256 := by rw [hu 2]; show (UInt8.ofNat (n / 256 ^ 0)).toNat = _; simp
          show 256 * 0 + u8at b 2 = n
          omega
        · have a2 : u8at b 2 = n / 256 % 256 := by rw [hu 2]; show (UInt8.ofNat (n / 256 ^ 1)).toNat = _; simp
          have a3 : u8at b 3 = n % 256 := by rw [hu 3]; show (UInt8.ofNat (n / 256 ^ 0)).toNat = _; simp
          show 256 * (256 * 0 + u8at b 2) + u8at b 3 = n
          omega
        · have a2 : u8at b 2 = n / 65536 % 256 := by rw [hu 2]; show (UInt8.ofNat (n / 256 ^ 2)).toNat = _; simp
          have a3 : u8at b 3 = n / 256 % 256 := by rw [hu 3]; show (UInt8.ofNat (n / 256 ^ 1)).toNat = _; simp
          have a4 : u8at b 4 = n % 256 := by rw [hu 4]; show (UInt8.ofNat (n / 256 ^ 0)).toNat = _; simp
          show 256 * (256 * (256 * 0 + u8at b 2) + u8at b 3) + u8at b 4 = n
          omega
      rw [e1, if_neg (by omega), if_neg (by omega), e2, if_neg (by omega), ev, if_neg (by omega), hk]
  rw [rd_mk (b := b) (by omega) (by rw [e0]; exact h1) (by rw [key]) (by rw [key]; simp only; omega), key]

theorem take_wrap (t : Nat) (c d : List UInt8) : (wrapL t c ++ d).take (1 + lsz c.length + c.length) = wrapL t c := by
  have : (wrapL t c).length = 1 + lsz c.length + c.length := by unfold wrapL; simp [lenO_length]; omega
  rw [List.take_append_of_le_length (by omega), List.take_of_length_le (by omega)]
theorem drop_wrap (t : Nat) (c d : List UInt8) : (wrapL t c ++ d).drop (1 + lsz c.length + c.length) = d := by
  have : (wrapL t c).length = 1 + lsz c.length + c.length := by unfold wrapL; simp [lenO_length]; omega
  rw [← this, List.drop_left]
theorem mid_wrap (t : Nat) (c d : List UInt8) : ((wrapL t c ++ d).drop (1 + lsz c.length)).take c.length = c := by
  have h : wrapL t c ++ d = (UInt8.ofNat t :: lenO c.length) ++ (c ++ d) := by unfold wrapL; simp
  have h2 : (UInt8.ofNat t :: lenO c.length).length = 1 + lsz c.length := by simp [lenO_length]; omega
  rw [h, ← h2, List.drop_left, List.take_left]
theorem ext_list_t {a b : ByteArray} (h : a.data.toList = b.data.toList) : a = b := ByteArray.ext (Array.toList_inj.1 h)

/-- .. so that the element has these parts. -/
theorem read_wrap {b : ByteArray} {t : Nat} {c d : List UInt8} (ht : t < 256) (h1 : t % 32 ≠ 31) (hc : c.length ≤ 131072) (hb : b.data.toList = wrapL t c ++ d) :
    rdVal b = .tuple #[.agg #[.int .i64 ((t : Nat) : Int), .string ⟨c.toArray⟩, .string ⟨(wrapL t c).toArray⟩], .string ⟨d.toArray⟩, .int .i64 0] := by
  have h := rd_wrap ht h1 hc hb
  have he : rdErr b = 0 := by unfold rdErr; rw [h]
  have hsz : b.size = 1 + lsz c.length + c.length + d.length := by rw [size_list hb]; unfold wrapL; simp [lenO_length]; omega
  have e0 : rdTag b = t := by
    unfold rdTag
    rw [u8at_list_t hb 0]
    exact ofNat_small ht
  have e1 : rdContent b = ⟨c.toArray⟩ := by
    apply ext_list_t
    unfold rdContent
    rw [data_extract, h, hb]
    simp only
    rw [show 1 + lsz c.length + c.length - (1 + lsz c.length) = c.length by omega, mid_wrap]
  have e2 : rdRaw b = ⟨(wrapL t c).toArray⟩ := by
    apply ext_list_t
    unfold rdRaw
    rw [data_extract, h, hb]
    simp only [List.drop_zero, Nat.sub_zero]
    exact take_wrap t c d
  have e3 : rdRest b = ⟨d.toArray⟩ := by
    apply ext_list_t
    unfold rdRest
    rw [data_extract, h, hb]
    simp only
    rw [drop_wrap]
    exact List.take_of_length_le (by omega)
  rw [rdVal_good he, e0, e1, e2, e3]

/-- What One accepts is what Wrap writes for its parts. -/
theorem wrap_one {b : ByteArray} (h : oneErr b = 0) : wrapVal ((rdTag b : Nat) : Int) (cat_t [rdContent b]) = .tuple #[.string b, .int .i64 0] ∧ rdRaw b = b := by
  have he := oneErr_rd h
  have hs := oneErr_size h
  have hlen := rd_len_le he
  obtain ⟨_, h1, _, _, _⟩ := rd_cases he
  have hd : (rdContent b).data.toList = b.data.toList.drop (rd b).2.1 := by
    unfold rdContent
    rw [data_extract]
    refine List.take_of_length_le ?_
    rw [List.length_drop]
    show b.size - _ ≤ _
    omega
  have hc : cat_t [rdContent b] = b.data.toList.drop (rd b).2.1 := by simp [cat_t, hd]
  have hn : (b.data.toList.drop (rd b).2.1).length = (rd b).2.2 := by
    rw [List.length_drop]
    show b.size - _ = _
    omega
  have ht := rdTag_lt b
  constructor
  · have e : wrapErr ((rdTag b : Nat) : Int) (cat_t [rdContent b]).length = 0 := by
      rw [hc, hn]
      unfold wrapErr
      rw [if_neg (by unfold rdTag at ht ⊢; omega), if_neg (by omega)]
    unfold wrapVal wrapStr
    rw [e, if_pos rfl, hc]
    have e2 : wrapL ((rdTag b : Nat) : Int).toNat (b.data.toList.drop (rd b).2.1) = b.data.toList := by
      unfold wrapL
      rw [hn]
      exact (head_back he).symm
    rw [e2]
    rfl
  · apply ext_list_t
    unfold rdRaw
    rw [data_extract, hs, List.drop_zero, Nat.sub_zero]
    exact List.take_of_length_le (Nat.le_refl _)
end Go.Proofs.YtfpfgdbfigdooaaGreatDoor
namespace Go.Proofs.YtfpfgdbfigdooaaGreatDoor
open Go.RowKit

def fewB (ss : List ByteArray) (n m : Nat) : Bool := decide (ss.length ≤ n) && ss.all fun s => decide (s.size ≤ m)

theorem few_cat {n m : Nat} : ∀ {ss : List ByteArray}, fewB ss n m = true → ss.length ≤ n ∧ (cat_t ss).length ≤ ss.length * m := by
  intro ss h
  simp only [fewB, Bool.and_eq_true, decide_eq_true_eq, List.all_eq_true] at h
  refine ⟨h.1, ?_⟩
  have h2 := h.2
  clear h
  induction ss with
  | nil => simp [cat_t]
  | cons a t ih =>
    have := ih fun x hx => h2 x (List.mem_cons_of_mem _ hx)
    have h1 : a.data.toList.length ≤ m := h2 a List.mem_cons_self
    have : cat_t (a :: t) = a.data.toList ++ cat_t t := by simp [cat_t]
    rw [this, List.length_append, List.length_cons, Nat.add_mul]; omega
end Go.Proofs.YtfpfgdbfigdooaaGreatDoor
