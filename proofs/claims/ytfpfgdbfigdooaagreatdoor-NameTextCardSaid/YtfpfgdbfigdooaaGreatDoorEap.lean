/-
  The contract of Parse: the name that a text denotes, or the error.
  The contract of the law's function awake: the chapter's example answers as written.
  The contract of oid.appendNumber: the digits of a number in base 128 are added to the bytes that the caller has.
-/
import Derived.Test.YtfpfgdbfigdooaaGreatDoorEam
import Derived.Test.YtfpfgdbfigdooaaGreatDoorEal
import Derived.Test.YtfpfgdbfigdooaaGreatDoorEai
namespace Go.Proofs.YtfpfgdbfigdooaaGreatDoor
open Go.RowKit

/-- What Parse answers. -/
noncomputable def prsErr (x : ByteArray) : Nat := match prsN x with | none => 32 | some n => chkN n
noncomputable def prsV (x : ByteArray) : Nm := if prsErr x = 0 then (prsN x).getD [] else []
theorem allO_mem {β γ : Type} {f : β → Option γ} : ∀ {l : List β} {m : List γ}, allO f l = some m → m.length = l.length ∧ ∀ i (h : i < m.length), ∃ x ∈ l, f x = some m[i]
  | [], m, h => by
    obtain rfl : [] = m := by simpa [allO] using h
    exact ⟨rfl, fun i hi => absurd hi (Nat.not_lt_zero _)⟩
  | x :: r, m, h => by
    unfold allO at h
    cases hx : f x with
    | none => rw [hx] at h; cases h
    | some y =>
      rw [hx] at h
      cases hr : allO f r with
      | none => rw [hr] at h; cases h
      | some l =>
        rw [hr] at h
        obtain rfl : y :: l = m := by simpa using h
        obtain ⟨h1, h2⟩ := allO_mem hr
        refine ⟨by simp [h1], fun i hi => ?_⟩
        cases i with
        | zero => exact ⟨x, by simp, hx⟩
        | succ i =>
          obtain ⟨z, hz, e⟩ := h2 i (by simpa using hi)
          exact ⟨z, by simp [hz], by simpa using e⟩
theorem prsA_small {x : ByteArray} {a : At} (h : prsA x = some a) (hx : x.size ≤ 100000) : SmallA a := by
  unfold prsA at h
  rcases index_cases x.data.toList 61 with ⟨hi, _⟩ | ⟨i, hi, hl⟩
  · rw [if_pos hi] at h; cases h
  · rw [hi, if_neg (by omega)] at h
    obtain ⟨wd, hwd⟩ : ∃ wd, wd = x.extract 0 (i : Int).toNat := ⟨_, rfl⟩
    obtain ⟨rs, hrs⟩ : ∃ rs, rs = x.extract ((i : Int).toNat + 1) x.size := ⟨_, rfl⟩
    have hw2 : wd.size ≤ 100000 := by rw [hwd, ByteArray.size_extract]; omega
    have hr2 : rs.size ≤ 100000 := by rw [hrs, ByteArray.size_extract]; omega
    rw [← hwd, ← hrs] at h
    obtain ⟨⟨id, kn⟩, hty⟩ : ∃ p, typ wd = p := ⟨_, rfl⟩
    have hts := typ_size wd
    rw [hty] at h hts
    cases hu : uneO rs.data.toList with
    | none => rw [hu] at h; cases kn <;> cases h
    | some v =>
      have hvs : v.size ≤ rs.size := uneO_size hu
      rw [hu] at h
      cases kn with
      | false => cases h
      | true =>
        obtain rfl : (id, kindV id v, v) = a := by simpa using h
        exact ⟨by show id.size ≤ _; have : id.size ≤ wd.size + 40 := hts; omega, by show v.size ≤ _; omega⟩
theorem pieces_mem {c : UInt8} {x s : ByteArray} (h : s ∈ pcsS c x) : s.size ≤ x.size := by
  obtain ⟨k, hk, rfl⟩ := List.mem_iff_getElem.1 h
  have := pieces_size c x k hk
  rwa [List.getD_eq_getElem?_getD, List.getElem?_eq_getElem hk] at this
theorem getD_mem {α : Type} {l : List α} {i : Nat} (h : i < l.length) (d : α) : l.getD i d = l[i] := by rw [List.getD_eq_getElem?_getD, List.getElem?_eq_getElem h]; rfl
theorem prsR_small {x : ByteArray} {r : List At} (h : prsR x = some r) (hx : x.size ≤ 100000) : SmallR r := by
  obtain ⟨h1, h2⟩ := allO_mem h
  have hcl := count_le x 43
  refine ⟨by rw [h1, pcsS_len]; omega, fun i hi => ?_⟩
  obtain ⟨s, hs, e⟩ := h2 i hi
  rw [getD_mem hi]
  exact prsA_small e (Nat.le_trans (pieces_mem hs) hx)
theorem prsN_small {x : ByteArray} {n : Nm} (h : prsN x = some n) (hx : x.size ≤ 100000) : SmallN n := by
  unfold prsN at h
  by_cases h0 : x.size = 0
  · rw [if_pos h0] at h
    obtain rfl := Option.some.inj h
    exact ⟨by simp, fun i hi => absurd hi (Nat.not_lt_zero _)⟩
  · rw [if_neg h0] at h
    obtain ⟨h1, h2⟩ := allO_mem h
    have hcl := count_le x 44
    refine ⟨by rw [h1, pcsS_len]; omega, fun i hi => ?_⟩
    obtain ⟨s, hs, e⟩ := h2 i hi
    rw [getD_mem hi]
    exact prsR_small e (Nat.le_trans (pieces_mem hs) hx)

set_option maxRecDepth 100000 in
set_option maxHeartbeats 4000000 in
theorem parse_any (x : ByteArray) (w : World) (hx : x.size ≤ 100000) (hT : Tab w) (hS : ShT w) :
    Calls Tryz.prog 29 #[.string x] w fun e w' => ∃ v, e = .returned (.tuple #[v, .int .i64 ((prsErr x : Nat) : Int)]) ∧ OwnV w' w.heap.size v (prsV x) ∧ Below w.heap.size w w' := by
  obtain ⟨W0, hW0⟩ : ∃ W0, W0 = w.alloc (.cells #[.slice none 0 0] 24) := ⟨_, rfl⟩
  have hwr : w.alloc (.cells #[.slice none 0 0] 24) = W0 := hW0.symm
  have hb0 : Below w.heap.size w W0 := by rw [hW0]; exact belowNew w _
  have hq0 : W0.heap[w.heap.size]? = some (.cells #[.slice none 0 0] 24 (0, 0)) := by rw [hW0]; exact heap_alloc_new w _
  have hz : W0.heap.size = w.heap.size + 1 := by rw [hW0]; simp
  have HB0 := Lib.hid hb0
  have HQ0 := Lib.hid hq0
  have HZ := Lib.hid hz
  have HT := Lib.hid (hT.below hb0)
  have HP := prsN_any x W0 hx (hT.below hb0) (hS.below hb0)
  obtain ⟨E, hE⟩ : ∃ E, E = prsErr x := ⟨_, rfl⟩
  obtain ⟨V, hV⟩ : ∃ V, V = prsV x := ⟨_, rfl⟩
  rw [← hE, ← hV]
  cases hp : prsN x with
  | none =>
    have e1 : E = 32 := by rw [hE]; unfold prsErr; rw [hp]
    have e2 : V = [] := by rw [hV]; unfold prsV; rw [← hE, e1]; rfl
    rw [hp] at HP
    have HPP := Lib.hid HP
    subst e1 e2
    clear hE hV hp HP hb0 hq0 hz hT hS hW0
    go_enter Tryz.func29, Tryz.ntmps29
    go_wp2_with (go_at_call 56; (with_reducible refine HPP.out.mono ?_); rintro e w1 ⟨v, rfl, ho, hb1⟩; obtain ⟨s, rfl, hs⟩ := ho; obtain ⟨av, cv, rfl, _, _⟩ := hs.lies; have hq := (hb1.block _ (one_facts HQ0.out).2.2).trans HQ0.out; have HQ := Lib.hid hq; obtain ⟨r0, g0, hlt0⟩ := one_facts hq; have HB1 := Lib.hid (below_next HB0.out hb1); clear hb1 hq hs)
    have hlt2 : w.heap.size < (w1.setCell ⟨w.heap.size, 0, none⟩ (.slice none 0 0)).heap.size := by simpa [World.setCell] using hlt0
    exact bodyPost_ret (nmRes rfl _ _ w _ rfl (((belowNew _ _).block _ hlt2).trans (one_set HQ.out))) rfl ⟨_, rfl, ⟨_, rfl, OwnN.nil _ _⟩, (HB1.out.setCell (p := ⟨w.heap.size, 0, none⟩) (Nat.le_refl _) _).alloc (Nat.le_of_lt hlt2) _⟩
  | some n =>
    have e1 : E = chkN n := by rw [hE]; unfold prsErr; rw [hp]
    have e2 : V = if E = 0 then n else [] := by rw [hV]; unfold prsV; rw [← hE, hp]; rfl
    have HSM := Lib.hid (prsN_small hp hx)
    rw [hp] at HP
    have HPP := Lib.hid HP
    have HCK := Lib.hid (fun (av : Option Addr) (cv : Nat) W (h : RLies W av n) (hT : Tab W) => chk_core av cv n.length n W h rfl HSM.out hT)
    rw [← e1] at HCK
    by_cases hz0 : E = 0
    · rw [if_pos hz0] at e2
      subst e2
      subst hz0
      clear hE hV hp HP hb0 hq0 hz hT hS hW0 e1
      go_enter Tryz.func29, Tryz.ntmps29
      go_wp2_with (first
        | (go_at_call 56; (with_reducible refine HPP.out.mono ?_); rintro e w1 ⟨v, rfl, ho, hb1⟩; obtain ⟨s, rfl, hs⟩ := ho; obtain ⟨av, cv, rfl, _, hrl⟩ := hs.lies; have HRL := Lib.hid hrl; have HOW := Lib.hid hs; have hq := (hb1.block _ (one_facts HQ0.out).2.2).trans HQ0.out; have HQ := Lib.hid hq; have HB1 := Lib.hid (below_next HB0.out hb1); have HTB := Lib.hid (HT.out.below hb1); clear hb1 hq hs hrl)
        | (go_at_call 16; (with_reducible refine (HCK.out _ _ _ (HRL.out.below (belowNew w1 _)) (HTB.out.below (belowNew w1 _))).mono ?_); rintro e w2 ⟨rfl, hb2⟩; have hq := ((below_next (belowNew w1 _) hb2).block _ (one_facts HQ.out).2.2).trans HQ.out; have HQ2 := Lib.hid hq; obtain ⟨r0, g0, hlt0⟩ := one_facts hq; have hq1 := (hb2.block _ (by simp)).trans (heap_alloc_new w1 _); obtain ⟨m0, n0, hlt1⟩ := one_facts hq1; have HB2 := Lib.hid (below_next (belowNew w1 _) hb2); clear hb2 hq hq1))
      exact bodyPost_ret (nmRes rfl _ _ w _ rfl (one_set HQ2.out)) rfl ⟨_, rfl, ⟨_, rfl, ((HOW.out.below HB2.out).but (p := w.heap.size) (But.set _ _ _ _) (by have := HZ.out; omega)).base (by have := HZ.out; omega)⟩, (below_next HB1.out HB2.out).setCell (p := ⟨w.heap.size, 0, none⟩) (Nat.le_refl _) _⟩
    · rw [if_neg hz0] at e2
      subst e2
      have hz1 := errno_ne hz0
      clear hE hV hp HP hb0 hq0 hz hT hS hW0 e1
      go_enter Tryz.func29, Tryz.ntmps29
      go_wp2_with (first
        | (go_at_call 56; (with_reducible refine HPP.out.mono ?_); rintro e w1 ⟨v, rfl, ho, hb1⟩; obtain ⟨s, rfl, hs⟩ := ho; obtain ⟨av, cv, rfl, _, hrl⟩ := hs.lies; have HRL := Lib.hid hrl; have hq := (hb1.block _ (one_facts HQ0.out).2.2).trans HQ0.out; have HQ := Lib.hid hq; have HB1 := Lib.hid (below_next HB0.out hb1); have HTB := Lib.hid (HT.out.below hb1); clear hb1 hq hs hrl)
        | (go_at_call 16; (with_reducible refine (HCK.out _ _ _ (HRL.out.below (belowNew w1 _)) (HTB.out.below (belowNew w1 _))).mono ?_); rintro e w2 ⟨rfl, hb2⟩; have hq := ((below_next (belowNew w1 _) hb2).block _ (one_facts HQ.out).2.2).trans HQ.out; have HQ2 := Lib.hid hq; obtain ⟨r0, g0, hlt0⟩ := one_facts hq; have HB2 := Lib.hid (below_next (belowNew w1 _) hb2); clear hb2 hq))
      exact bodyPost_ret (nmRes rfl _ _ w _ rfl (one_set HQ2.out)) rfl ⟨_, rfl, ⟨_, rfl, OwnN.nil _ _⟩, (below_next HB1.out HB2.out).setCell (p := ⟨w.heap.size, 0, none⟩) (Nat.le_refl _) _⟩
end Go.Proofs.YtfpfgdbfigdooaaGreatDoor
namespace Go.Proofs.YtfpfgdbfigdooaaGreatDoor
open Go.RowKit

theorem dd1 {n : Nat} (h : n < 10) : Lib.decDigits n = [UInt8.ofNat (48 + n)] := Lib.decDigits_one h
theorem dd2 {n : Nat} (h1 : ¬ n < 10) (h2 : n < 100) : Lib.decDigits n = [UInt8.ofNat (48 + n / 10), UInt8.ofNat (48 + n % 10)] := Lib.decDigits_two h1 h2
theorem oid_cn : Oid [50, 46, 53, 46, 52, 46, 51] [2, 5, 4, 3] := by
  refine ⟨⟨by decide, by decide, by decide, by decide, by decide⟩, ?_⟩
  simp only [cat, fdot]
  rw [dd1 (n := 2) (by omega), dd1 (n := 5) (by omega), dd1 (n := 4) (by omega), dd1 (n := 3) (by omega)]
  rfl
theorem oid_o : Oid [50, 46, 53, 46, 52, 46, 49, 48] [2, 5, 4, 10] := by
  refine ⟨⟨by decide, by decide, by decide, by decide, by decide⟩, ?_⟩
  simp only [cat, fdot]
  rw [dd1 (n := 2) (by omega), dd1 (n := 5) (by omega), dd1 (n := 4) (by omega), dd2 (n := 10) (by omega) (by omega)]
  rfl
def cnB : ByteArray := ⟨#[50, 46, 53, 46, 52, 46, 51]⟩
def oB : ByteArray := ⟨#[50, 46, 53, 46, 52, 46, 49, 48]⟩
theorem prsA_eq {x wd rs v id : ByteArray} {i : Nat} (hi : Lib.indexByte x.data.toList 61 = (i : Int)) (h1 : x.extract 0 i = wd) (h2 : x.extract (i + 1) x.size = rs) (ht : typ wd = (id, true)) (hv : escL v.data.toList = rs.data.toList) :
    prsA x = some (id, kindV id v, v) := by
  unfold prsA
  rw [hi, if_neg (by omega)]
  show (match typ (x.extract 0 i), uneO (x.extract (i + 1) x.size).data.toList with | (id, true), some v => some (id, kindV id v, v) | _, _ => none) = _
  rw [h1, h2, ht, une_some hv]
theorem typ_cn : typ ⟨#[67, 78]⟩ = (cnB, true) := typ_hit 0 (by omega) (fun j hj => absurd hj (Nat.not_lt_zero _)) rfl
theorem typ_o : typ ⟨#[79]⟩ = (oB, true) := typ_hit 3 (by omega) (by decide) rfl
theorem prs_a1 : prsA ⟨#[67, 78, 61, 87, 101, 98, 32, 83, 101, 114, 118, 101, 114]⟩ = some (cnB, 19, ⟨#[87, 101, 98, 32, 83, 101, 114, 118, 101, 114]⟩) := by
  have h := prsA_eq (x := ⟨#[67, 78, 61, 87, 101, 98, 32, 83, 101, 114, 118, 101, 114]⟩) (wd := ⟨#[67, 78]⟩) (rs := ⟨#[87, 101, 98, 32, 83, 101, 114, 118, 101, 114]⟩) (v := ⟨#[87, 101, 98, 32, 83, 101, 114, 118, 101, 114]⟩) (i := 2) (by decide +kernel) (by decide +kernel) (by decide +kernel) typ_cn (by decide +kernel)
  rw [show kindV cnB ⟨#[87, 101, 98, 32, 83, 101, 114, 118, 101, 114]⟩ = 19 by decide +kernel] at h
  exact h
theorem prs_a2 : prsA ⟨#[79, 61, 69, 120, 97, 109, 112, 108, 101]⟩ = some (oB, 19, ⟨#[69, 120, 97, 109, 112, 108, 101]⟩) := by
  have h := prsA_eq (x := ⟨#[79, 61, 69, 120, 97, 109, 112, 108, 101]⟩) (wd := ⟨#[79]⟩) (rs := ⟨#[69, 120, 97, 109, 112, 108, 101]⟩) (v := ⟨#[69, 120, 97, 109, 112, 108, 101]⟩) (i := 1) (by decide +kernel) (by decide +kernel) (by decide +kernel) typ_o (by decide +kernel)
  rw [show kindV oB ⟨#[69, 120, 97, 109, 112, 108, 101]⟩ = 19 by decide +kernel] at h
  exact h
theorem prs_b1 : prsA ⟨#[67, 78, 61, 119, 101, 98, 32, 32, 115, 101, 114, 118, 101, 114]⟩ = some (cnB, 19, ⟨#[119, 101, 98, 32, 32, 115, 101, 114, 118, 101, 114]⟩) := by
  have h := prsA_eq (x := ⟨#[67, 78, 61, 119, 101, 98, 32, 32, 115, 101, 114, 118, 101, 114]⟩) (wd := ⟨#[67, 78]⟩) (rs := ⟨#[119, 101, 98, 32, 32, 115, 101, 114, 118, 101, 114]⟩) (v := ⟨#[119, 101, 98, 32, 32, 115, 101, 114, 118, 101, 114]⟩) (i := 2) (by decide +kernel) (by decide +kernel) (by decide +kernel) typ_cn (by decide +kernel)
  rw [show kindV cnB ⟨#[119, 101, 98, 32, 32, 115, 101, 114, 118, 101, 114]⟩ = 19 by decide +kernel] at h
  exact h
theorem prs_b2 : prsA ⟨#[79, 61, 69, 88, 65, 77, 80, 76, 69]⟩ = some (oB, 19, ⟨#[69, 88, 65, 77, 80, 76, 69]⟩) := by
  have h := prsA_eq (x := ⟨#[79, 61, 69, 88, 65, 77, 80, 76, 69]⟩) (wd := ⟨#[79]⟩) (rs := ⟨#[69, 88, 65, 77, 80, 76, 69]⟩) (v := ⟨#[69, 88, 65, 77, 80, 76, 69]⟩) (i := 1) (by decide +kernel) (by decide +kernel) (by decide +kernel) typ_o (by decide +kernel)
  rw [show kindV oB ⟨#[69, 88, 65, 77, 80, 76, 69]⟩ = 19 by decide +kernel] at h
  exact h
def nm_a : Nm := [[(cnB, 19, ⟨#[87, 101, 98, 32, 83, 101, 114, 118, 101, 114]⟩)], [(oB, 19, ⟨#[69, 120, 97, 109, 112, 108, 101]⟩)]]
theorem prsN_a : prsN ⟨#[67, 78, 61, 87, 101, 98, 32, 83, 101, 114, 118, 101, 114, 44, 79, 61, 69, 120, 97, 109, 112, 108, 101]⟩ = some nm_a := by
  unfold prsN
  rw [if_neg (by decide), show pcsS 44 ⟨#[67, 78, 61, 87, 101, 98, 32, 83, 101, 114, 118, 101, 114, 44, 79, 61, 69, 120, 97, 109, 112, 108, 101]⟩ = [⟨#[67, 78, 61, 87, 101, 98, 32, 83, 101, 114, 118, 101, 114]⟩, ⟨#[79, 61, 69, 120, 97, 109, 112, 108, 101]⟩] by decide +kernel]
  unfold allO allO allO
  rw [show prsR ⟨#[67, 78, 61, 87, 101, 98, 32, 83, 101, 114, 118, 101, 114]⟩ = some [(cnB, 19, ⟨#[87, 101, 98, 32, 83, 101, 114, 118, 101, 114]⟩)] by unfold prsR; rw [show pcsS 43 ⟨#[67, 78, 61, 87, 101, 98, 32, 83, 101, 114, 118, 101, 114]⟩ = [⟨#[67, 78, 61, 87, 101, 98, 32, 83, 101, 114, 118, 101, 114]⟩] by decide +kernel]; unfold allO allO; rw [prs_a1]]
  rw [show prsR ⟨#[79, 61, 69, 120, 97, 109, 112, 108, 101]⟩ = some [(oB, 19, ⟨#[69, 120, 97, 109, 112, 108, 101]⟩)] by unfold prsR; rw [show pcsS 43 ⟨#[79, 61, 69, 120, 97, 109, 112, 108, 101]⟩ = [⟨#[79, 61, 69, 120, 97, 109, 112, 108, 101]⟩] by decide +kernel]; unfold allO allO; rw [prs_a2]]
  rfl
theorem chk_a : chkN nm_a = 0 := by
  have h1 : chkR [(cnB, 19, (⟨#[87, 101, 98, 32, 83, 101, 114, 118, 101, 114]⟩ : ByteArray))] = 0 := by
    unfold chkR chkL
    have e : chkA [] (cnB, 19, (⟨#[87, 101, 98, 32, 83, 101, 114, 118, 101, 114]⟩ : ByteArray)) = 0 := by
      unfold chkA
      rw [show oidB cnB = true from oidB_yes oid_cn]
      decide +kernel
    rw [e]; rfl
  have h2 : chkR [(oB, 19, (⟨#[69, 120, 97, 109, 112, 108, 101]⟩ : ByteArray))] = 0 := by
    unfold chkR chkL
    have e : chkA [] (oB, 19, (⟨#[69, 120, 97, 109, 112, 108, 101]⟩ : ByteArray)) = 0 := by
      unfold chkA
      rw [show oidB oB = true from oidB_yes oid_o]
      decide +kernel
    rw [e]; rfl
  show chkRs nm_a = 0
  unfold nm_a chkRs
  rw [h1]
  show chkRs [_] = 0
  unfold chkRs
  rw [h2]
  rfl
theorem parse_a (w : World) (hT : Tab w) (hS : ShT w) :
    Calls Tryz.prog 29 #[.string ⟨#[67, 78, 61, 87, 101, 98, 32, 83, 101, 114, 118, 101, 114, 44, 79, 61, 69, 120, 97, 109, 112, 108, 101]⟩] w fun e w' => ∃ a c, e = .returned (.tuple #[.agg #[.slice a 2 c], .int .i64 0]) ∧ RLies w' a nm_a ∧ Below w.heap.size w w' := by
  have h := parse_any ⟨#[67, 78, 61, 87, 101, 98, 32, 83, 101, 114, 118, 101, 114, 44, 79, 61, 69, 120, 97, 109, 112, 108, 101]⟩ w (by decide) hT hS
  have e1 : prsErr ⟨#[67, 78, 61, 87, 101, 98, 32, 83, 101, 114, 118, 101, 114, 44, 79, 61, 69, 120, 97, 109, 112, 108, 101]⟩ = 0 := by unfold prsErr; rw [prsN_a]; exact chk_a
  have e2 : prsV ⟨#[67, 78, 61, 87, 101, 98, 32, 83, 101, 114, 118, 101, 114, 44, 79, 61, 69, 120, 97, 109, 112, 108, 101]⟩ = nm_a := by unfold prsV; rw [e1, prsN_a]; rfl
  rw [e1, e2] at h
  refine h.mono ?_
  rintro e w' ⟨v, rfl, ⟨s, rfl, ho⟩, hb⟩
  obtain ⟨a, c, rfl, _, hl⟩ := ho.lies
  exact ⟨a, c, rfl, hl, hb⟩
theorem small_a : SmallN nm_a := by
  refine ⟨by decide, fun i hi => ?_⟩
  have hi2 : i < 2 := hi
  rcases (by omega : i = 0 ∨ i = 1) with rfl | rfl
  · exact ⟨by decide, fun j hj => by
      have hj1 : j < 1 := hj
      obtain rfl : j = 0 := by omega
      exact ⟨by decide, by decide⟩⟩
  · exact ⟨by decide, fun j hj => by
      have hj1 : j < 1 := hj
      obtain rfl : j = 0 := by omega
      exact ⟨by decide, by decide⟩⟩
def nm_b : Nm := [[(cnB, 19, ⟨#[119, 101, 98, 32, 32, 115, 101, 114, 118, 101, 114]⟩)], [(oB, 19, ⟨#[69, 88, 65, 77, 80, 76, 69]⟩)]]
theorem prsN_b : prsN ⟨#[67, 78, 61, 119, 101, 98, 32, 32, 115, 101, 114, 118, 101, 114, 44, 79, 61, 69, 88, 65, 77, 80, 76, 69]⟩ = some nm_b := by
  unfold prsN
  rw [if_neg (by decide), show pcsS 44 ⟨#[67, 78, 61, 119, 101, 98, 32, 32, 115, 101, 114, 118, 101, 114, 44, 79, 61, 69, 88, 65, 77, 80, 76, 69]⟩ = [⟨#[67, 78, 61, 119, 101, 98, 32, 32, 115, 101, 114, 118, 101, 114]⟩, ⟨#[79, 61, 69, 88, 65, 77, 80, 76, 69]⟩] by decide +kernel]
  unfold allO allO allO
  rw [show prsR ⟨#[67, 78, 61, 119, 101, 98, 32, 32, 115, 101, 114, 118, 101, 114]⟩ = some [(cnB, 19, ⟨#[119, 101, 98, 32, 32, 115, 101, 114, 118, 101, 114]⟩)] by unfold prsR; rw [show pcsS 43 ⟨#[67, 78, 61, 119, 101, 98, 32, 32, 115, 101, 114, 118, 101, 114]⟩ = [⟨#[67, 78, 61, 119, 101, 98, 32, 32, 115, 101, 114, 118, 101, 114]⟩] by decide +kernel]; unfold allO allO; rw [prs_b1]]
  rw [show prsR ⟨#[79, 61, 69, 88, 65, 77, 80, 76, 69]⟩ = some [(oB, 19, ⟨#[69, 88, 65, 77, 80, 76, 69]⟩)] by unfold prsR; rw [show pcsS 43 ⟨#[79, 61, 69, 88, 65, 77, 80, 76, 69]⟩ = [⟨#[79, 61, 69, 88, 65, 77, 80, 76, 69]⟩] by decide +kernel]; unfold allO allO; rw [prs_b2]]
  rfl
theorem chk_b : chkN nm_b = 0 := by
  have h1 : chkR [(cnB, 19, (⟨#[119, 101, 98, 32, 32, 115, 101, 114, 118, 101, 114]⟩ : ByteArray))] = 0 := by
    unfold chkR chkL
    have e : chkA [] (cnB, 19, (⟨#[119, 101, 98, 32, 32, 115, 101, 114, 118, 101, 114]⟩ : ByteArray)) = 0 := by
      unfold chkA
      rw [show oidB cnB = true from oidB_yes oid_cn]
      decide +kernel
    rw [e]; rfl
  have h2 : chkR [(oB, 19, (⟨#[69, 88, 65, 77, 80, 76, 69]⟩ : ByteArray))] = 0 := by
    unfold chkR chkL
    have e : chkA [] (oB, 19, (⟨#[69, 88, 65, 77, 80, 76, 69]⟩ : ByteArray)) = 0 := by
      unfold chkA
      rw [show oidB oB = true from oidB_yes oid_o]
      decide +kernel
    rw [e]; rfl
  show chkRs nm_b = 0
  unfold nm_b chkRs
  rw [h1]
  show chkRs [_] = 0
  unfold chkRs
  rw [h2]
  rfl
theorem parse_b (w : World) (hT : Tab w) (hS : ShT w) :
    Calls Tryz.prog 29 #[.string ⟨#[67, 78, 61, 119, 101, 98, 32, 32, 115, 101, 114, 118, 101, 114, 44, 79, 61, 69, 88, 65, 77, 80, 76, 69]⟩] w fun e w' => ∃ a c, e = .returned (.tuple #[.agg #[.slice a 2 c], .int .i64 0]) ∧ RLies w' a nm_b ∧ Below w.heap.size w w' := by
  have h := parse_any ⟨#[67, 78, 61, 119, 101, 98, 32, 32, 115, 101, 114, 118, 101, 114, 44, 79, 61, 69, 88, 65, 77, 80, 76, 69]⟩ w (by decide) hT hS
  have e1 : prsErr ⟨#[67, 78, 61, 119, 101, 98, 32, 32, 115, 101, 114, 118, 101, 114, 44, 79, 61, 69, 88, 65, 77, 80, 76, 69]⟩ = 0 := by unfold prsErr; rw [prsN_b]; exact chk_b
  have e2 : prsV ⟨#[67, 78, 61, 119, 101, 98, 32, 32, 115, 101, 114, 118, 101, 114, 44, 79, 61, 69, 88, 65, 77, 80, 76, 69]⟩ = nm_b := by unfold prsV; rw [e1, prsN_b]; rfl
  rw [e1, e2] at h
  refine h.mono ?_
  rintro e w' ⟨v, rfl, ⟨s, rfl, ho⟩, hb⟩
  obtain ⟨a, c, rfl, _, hl⟩ := ho.lies
  exact ⟨a, c, rfl, hl, hb⟩
theorem small_b : SmallN nm_b := by
  refine ⟨by decide, fun i hi => ?_⟩
  have hi2 : i < 2 := hi
  rcases (by omega : i = 0 ∨ i = 1) with rfl | rfl
  · exact ⟨by decide, fun j hj => by
      have hj1 : j < 1 := hj
      obtain rfl : j = 0 := by omega
      exact ⟨by decide, by decide⟩⟩
  · exact ⟨by decide, fun j hj => by
      have hj1 : j < 1 := hj
      obtain rfl : j = 0 := by omega
      exact ⟨by decide, by decide⟩⟩
theorem match_ab : decide (MatchN nm_a nm_b) = true := by decide +kernel
theorem match_a0 : decide (MatchN nm_a []) = false := by decide +kernel
theorem small_nil : SmallN [] := ⟨by decide, fun i hi => absurd hi (Nat.not_lt_zero _)⟩

set_option maxRecDepth 100000 in
set_option maxHeartbeats 4000000 in
theorem awake_any (w : World) (hT : Tab w) (hS : ShT w) :
    Calls Tryz.prog 9 #[] w fun e w' => e = .returned (.bool true) ∧ Below w.heap.size w w' := by
  have HT := Lib.hid hT
  have HS := Lib.hid hS
  have HM1 := Lib.hid (fun (a b : Option Addr) (c d : Nat) (W : World) (h1 : RLies W a nm_a) (h2 : RLies W b nm_b) => match_core a b c d 2 2 nm_a nm_b W h1 h2 rfl rfl small_a small_b)
  have HM2 := Lib.hid (fun (a : Option Addr) (c : Nat) (W : World) (h1 : RLies W a nm_a) => match_core a none c 0 2 0 nm_a [] W h1 (RLies.nil W none) rfl rfl small_a small_nil)
  rw [match_ab] at HM1
  rw [match_a0] at HM2
  clear hT hS
  go_enter Tryz.func9, Tryz.ntmps9
  go_wp2_with (first
    | (go_at_call 29; (with_reducible refine (parse_a w HT.out HS.out).mono ?_); rintro e w1 ⟨a1, c1, rfl, hl1, hb1⟩; have HL1 := Lib.hid (hl1.below (belowNew w1 (.cells #[.slice a1 2 c1] 24))); have HB1 := Lib.hid (below_next hb1 (belowNew w1 (.cells #[.slice a1 2 c1] 24))); have HC1 := Lib.hid (heap_alloc_new w1 (.cells #[.slice a1 2 c1] 24)); clear hl1 hb1)
    | (go_at_call 29; (with_reducible refine (parse_b _ (HT.out.below HB1.out) (HS.out.below HB1.out)).mono ?_); rintro e w2 ⟨a2, c2, rfl, hl2, hb2⟩; have HB2 := Lib.hid (below_next hb2 (belowNew w2 (.cells #[.slice a2 2 c2] 24))); have HL2 := Lib.hid (hl2.below (belowNew w2 (.cells #[.slice a2 2 c2] 24))); have HL1 := Lib.hid (HL1.out.below HB2.out); have hc1 := (hb2.block _ (by simp)).trans HC1.out; obtain ⟨m0, n0, hlt1⟩ := one_facts hc1; have HBB := Lib.hid (below_next HB1.out HB2.out); clear hl2 hb2)
    | (go_at_call 30; (with_reducible refine (HM1.out _ _ _ _ _ HL1.out HL2.out).mono ?_); rintro e w3 ⟨rfl, hb3⟩; have HB3 := Lib.hid hb3; have q0 := (hb3.cell (p := ⟨w1.heap.size, 0, none⟩) (by simp; omega)).trans (((belowNew w2 (.cells #[.slice a2 2 c2] 24)).cell (p := ⟨w1.heap.size, 0, none⟩) hlt1).trans m0); clear hb3)
    | (go_at_call 30; (with_reducible refine (HM2.out _ _ _ (HL1.out.below HB3.out)).mono ?_); rintro e w4 ⟨rfl, hb4⟩; have HB4 := Lib.hid hb4; clear hb4))
  go_ret
  exact ⟨rfl, below_next HBB.out (below_next HB3.out HB4.out)⟩
end Go.Proofs.YtfpfgdbfigdooaaGreatDoor
namespace Go.Proofs.YtfpfgdbfigdooaaGreatDoor
open Go.RowKit

theorem blen_pos {x : Nat} (h0 : x ≠ 0) (h : x < 18446744073709551616) : 1 ≤ Lib.bitLen x := by
  rw [Lib.bitLen_half x h0 h]; omega
theorem blen_iff {x k : Nat} (h : x < 18446744073709551616) (hk : k ≤ 64) : Lib.bitLen x ≤ k ↔ x < 2 ^ k := by
  constructor
  · intro hl
    rcases Nat.lt_or_ge x (2 ^ k) with h1 | h1
    · exact h1
    · exfalso
      rw [Lib.bitLen_shift k x h1 h] at hl
      have hp : 0 < 2 ^ k := Nat.two_pow_pos k
      have h2 : 1 ≤ x / 2 ^ k := (Nat.one_le_div_iff hp).2 h1
      have h3 : x / 2 ^ k ≤ x := Nat.div_le_self _ _
      have := blen_pos (x := x / 2 ^ k) (by omega) (by omega)
      omega
  · exact Lib.bitLen_le x k hk
/-- How many digits in base 128 stand before the last one. -/
def ahead7 (n : Nat) : Nat := (Lib.bitLen n - 1) / 7
theorem ahead7_lt (n : Nat) (h : n < 34359738368) : n / 128 ^ (ahead7 n + 1) = 0 := by
  have e : (128 : Nat) ^ (ahead7 n + 1) = 2 ^ (7 * (ahead7 n + 1)) := by rw [Nat.pow_mul]
  rw [e]
  refine Nat.div_eq_of_lt ?_
  have hle : Lib.bitLen n ≤ 7 * (ahead7 n + 1) := by unfold ahead7; omega
  have h35 : Lib.bitLen n ≤ 35 := (blen_iff (by omega) (by omega)).2 (by omega)
  exact (blen_iff (by omega) (by unfold ahead7; omega)).1 hle
theorem ahead7_pos (n j : Nat) (h : n < 34359738368) (h1 : 1 ≤ j) (h2 : j ≤ ahead7 n) : n / 128 ^ j ≠ 0 := by
  have e : (128 : Nat) ^ j = 2 ^ (7 * j) := by rw [Nat.pow_mul]
  rw [e]
  intro h0
  have hp : 0 < 2 ^ (7 * j) := Nat.two_pow_pos _
  have hlt : n < 2 ^ (7 * j) := (Nat.div_eq_zero_iff_lt hp).1 h0
  have h35 : Lib.bitLen n ≤ 35 := (blen_iff (by omega) (by omega)).2 (by omega)
  unfold ahead7 at h2
  have := (blen_iff (k := 7 * j) (by omega) (by omega)).2 hlt
  omega
theorem ahead7_le (n : Nat) (h : n < 34359738368) : ahead7 n ≤ 4 := by
  have h35 : Lib.bitLen n ≤ 35 := (blen_iff (by omega) (by omega)).2 (by omega)
  unfold ahead7; omega
theorem or_128 : ∀ x : Nat, x < 256 → bits BinOp.or .u8 ((x : Nat) : Int) 128 = (((UInt8.ofNat (128 + x % 128)).toNat : Nat) : Int) := by decide +kernel
theorem andNot_128 : ∀ x : Nat, x < 256 → bits BinOp.andNot .u8 ((x : Nat) : Int) 128 = (((UInt8.ofNat (x % 128)).toNat : Nat) : Int) := by decide +kernel

theorem hd7_len_mono : ∀ (k a b : Nat), a ≤ b → b < 128 ^ k → (hd7 a).length ≤ (hd7 b).length
  | 0, a, b, h, hk => by
    simp at hk
    obtain rfl : a = 0 := by omega
    rw [hd7_zero]; simp
  | k + 1, a, b, h, hk => by
    by_cases ha : a = 0
    · rw [ha, hd7_zero]; simp
    · rw [hd7_pos ha, hd7_pos (show b ≠ 0 by omega)]
      have := hd7_len_mono k (a / 128) (b / 128) (by omega) (by rw [Nat.pow_succ] at hk; omega)
      simp; exact this
theorem hd7_len_le (b m : Nat) : (hd7 (b / m)).length ≤ (hd7 b).length :=
  hd7_len_mono b (b / m) b (Nat.div_le_self _ _) (Nat.lt_pow_self (by omega))
theorem app_round {w wr w2 : World} {v v' : Value} {D : List UInt8} {y : UInt8} {X : Obj} {B n : Nat} (hn : n = (D ++ [y]).length) (hown : OwnB 5 wr B v D) (hb : Below B w wr) (hsz : w.heap.size ≤ wr.heap.size) (hB : B ≤ w.heap.size)
    (hown2 : w2.ownsRow B 5 1 v' n (D.map bcell ++ [bcell y])) (hgr2 : (wr.alloc X).grownBy w2 v.ownBlock) : OwnB 5 w2 B v' (D ++ [y]) ∧ Below B w w2 ∧ w.heap.size ≤ w2.heap.size := by
  have hb2 : Below B w w2 := (Below.alloc hb (by omega) X).grown hgr2 (by simp; omega) (fun k e => (World.ownsRow.lt hown k e).1)
  refine ⟨?_, hb2, hb2.size⟩
  unfold OwnB
  rw [List.map_append, ← hn]; exact hown2

set_option maxRecDepth 100000 in
set_option maxHeartbeats 1000000 in
theorem app_any (v : Value) (l : List UInt8) (n B : Nat) (w : World) (hn : n < 34359738368) (ho : OwnB 5 w B v l) (hB : B ≤ w.heap.size) (hl : l.length ≤ 1099511627) :
    Calls Tryz.prog 131 #[v, .int .i64 ((n : Nat) : Int)] w fun e w' => ∃ v', e = .returned v' ∧ OwnB 5 w' B v' (l ++ e128 n) ∧ Below B w w' := by
  obtain ⟨i0, hi, hz0, hz1, hz2⟩ := info_parts byteInfo
  have HO0 := Lib.hid ho
  obtain ⟨L, hL⟩ : ∃ L, L = Lib.bitLen n := ⟨_, rfl⟩
  obtain ⟨q, hq⟩ : ∃ q, q = ahead7 n := ⟨_, rfl⟩
  have hqL : q = (L - 1) / 7 := by rw [hq, hL]; rfl
  have hq4 : q ≤ 4 := by rw [hq]; exact ahead7_le n hn
  have hL35 : L ≤ 35 := by rw [hL]; exact (blen_iff (by omega) (by omega)).2 (by omega)
  have HBL := Lib.hid (fun w => blen_any n w (by omega))
  rw [← hL] at HBL
  have HQ := Lib.hid hq
  have HQL := Lib.hid hqL
  clear hL hq hqL ho
  go_enter Tryz.func131, Tryz.ntmps131
  go_wp2_with (go_at_call 78; (with_reducible refine (HBL.out _).mono ?_); rintro e w1 ⟨rfl, rfl⟩)
  clear hL35
  go_loopw [0, 6] (fun u k wr => ∃ (j : Nat) (D : List UInt8), j ≤ q ∧ k = .int .i64 (j : Int) ∧ D = hd7 (n / 128 ^ (j + 1)) ∧ OwnB 5 wr B u (l ++ D) ∧ Below B w1 wr ∧ w1.heap.size ≤ wr.heap.size) (fun _ k _ => (intOf k).toNat)
  case atStart => exact ⟨q, [], Nat.le_refl _, by congr 1; have := HQL.out; omega, by rw [HQ.out, ahead7_lt n hn, hd7_zero], by rw [List.append_nil]; exact HO0.out, Below.refl _ _, Nat.le_refl _⟩
  case round =>
    obtain ⟨j, D, hj, rfl, hD, ho, hb, hsz⟩ := hrel
    have HO := Lib.hid ho
    have HB := Lib.hid hb
    have HD := Lib.hid hD
    have hDl : D.length ≤ 5 := by
      have := e128_len n hn
      have e : (hd7 (n / 128 ^ (j + 1))).length ≤ (hd7 (n / 128)).length := by
        rw [Nat.pow_succ, Nat.mul_comm, ← Nat.div_div_eq_div_mul]
        exact hd7_len_le (n / 128) (128 ^ j)
      rw [e128, List.length_append, List.length_singleton] at this
      rw [hD]; omega
    clear ho hb hD
    by_cases hlt : 0 < j
    · have d1 : decide ((0 : Int) < (j : Int)) = true := by simp; omega
      obtain ⟨x, hx⟩ : ∃ x, x = n / 2 ^ (7 * j) % 256 := ⟨_, rfl⟩
      have hx256 : x < 256 := by rw [hx]; omega
      have hxi : (n : Int) / 2 ^ (7 * j) % 256 = (x : Int) := by rw [hx]; simp
      have hor := or_128 x hx256
      obtain ⟨y, hy⟩ : ∃ y : UInt8, y = UInt8.ofNat (128 + x % 128) := ⟨_, rfl⟩
      rw [← hy] at hor
      have HN := Lib.hid (show hd7 (n / 128 ^ j) = D ++ [y] by
        rw [hd7_pos (ahead7_pos n j hn hlt (by rw [← HQ.out]; exact hj)), Nat.div_div_eq_div_mul, ← Nat.pow_succ, ← HD.out, hy, hx]
        have e : (2 : Nat) ^ (7 * j) = 128 ^ j := by rw [Nat.pow_mul]
        rw [e]
        generalize n / 128 ^ j = m
        congr 3
        omega)
      clear hx hy
      go_wp2_with (at_builtin; (refine wpList_append_own _ rfl (.tmp 18) (.tmp 25) 61 rfl B 5 i0 (.int .u8 0) 1 1 Tryz.underlying61 hi hz0 hz1 hz2 rfl (by decide) _ _ _ rfl (HO.out.alloc _) ⟨wr.heap.size, 0, none⟩ 1 1 [bcell y] rfl rfl (news_row wr #[bcell y] 5) (bcells_one [y]) (by simp; unfold maxLen; omega) (by simp; omega) (by simp; omega) ?_); intro v' w2 hown2 hgr2 _; obtain ⟨P1, P2, P3⟩ := app_round (by simp; omega) HO.out HB.out hsz hB hown2 hgr2; have HP1 := Lib.hid P1; have HP2 := Lib.hid P2; have HP3 := Lib.hid P3; clear hown2 hgr2 P1 P2 P3)
      go_roundw
      case rel => exact ⟨j - 1, D ++ [y], by omega, by congr 1; omega, by rw [← HN.out, show j - 1 + 1 = j by omega], by rw [← List.append_assoc]; exact HP1.out, HP2.out, HP3.out⟩
      case measure => simp [intOf]; omega
    · obtain rfl : j = 0 := by omega
      have d1 : decide ((0 : Int) < ((0 : Nat) : Int)) = false := rfl
      obtain ⟨x, hx⟩ : ∃ x, x = n % 256 := ⟨_, rfl⟩
      have hx256 : x < 256 := by rw [hx]; omega
      have hxi : (n : Int) % 256 = (x : Int) := by rw [hx]; omega
      have hor := andNot_128 x hx256
      obtain ⟨y, hy⟩ : ∃ y : UInt8, y = UInt8.ofNat (x % 128) := ⟨_, rfl⟩
      rw [← hy] at hor
      have HN := Lib.hid (show e128 n = D ++ [y] by
        rw [e128, HD.out, hy, hx, Nat.zero_add, Nat.pow_one]
        congr 3
        omega)
      clear hx hy
      go_wp2_with (at_builtin; (refine wpList_append_own _ rfl (.tmp 27) (.tmp 31) 61 rfl B 5 i0 (.int .u8 0) 1 1 Tryz.underlying61 hi hz0 hz1 hz2 rfl (by decide) _ _ _ rfl (HO.out.alloc _) ⟨wr.heap.size, 0, none⟩ 1 1 [bcell y] rfl rfl (news_row wr #[bcell y] 5) (bcells_one [y]) (by simp; unfold maxLen; omega) (by simp; omega) (by simp; omega) ?_); intro v' w2 hown2 hgr2 _; obtain ⟨P1, P2, P3⟩ := app_round (by simp; omega) HO.out HB.out hsz hB hown2 hgr2; have HP1 := Lib.hid P1; have HP2 := Lib.hid P2; have HP3 := Lib.hid P3; clear hown2 hgr2 P1 P2 P3)
      go_ret
      exact ⟨_, rfl, by rw [HN.out, ← List.append_assoc]; exact HP1.out, HP2.out⟩
end Go.Proofs.YtfpfgdbfigdooaaGreatDoor
