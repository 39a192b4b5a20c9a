/-
  The contract of Parse: the name that a text denotes, or the error.
-/
import Derived.Test.YtfpfgdbfigdooaaGreatDoorCav
namespace Go.Proofs.YtfpfgdbfigdooaaGreatDoor
open Go.RowKit

/-- What Parse answers. -/
noncomputable def prsErr (x : ByteArray) : Nat := match prsN x with | none => 32 | some n => chkN n
noncomputable def prsV (x : ByteArray) : Nm := if prsErr x = 0 then (prsN x).getD [] else []
theorem allO_mem {β γ : Type} {f : β → Option γ} : ∀ {l : List β} {m : List γ}, allO f l = some m → m.length = l.length ∧ ∀ i (h : i < m.length), ∃ x ∈ l, f x = some m[i]
  | [], m, h => by
    obtain rfl : [] = m := by simpa [allO] using h
    exact ⟨rfl, fun i hi => absurd hi (Nat.not_lt_zero _)⟩
  | x :: r, m, h => by
    unfold allO at h
    cases hx : f x with
    | none => rw [hx] at h; cases h
    | some y =>
      rw [hx] at h
      cases hr : allO f r with
      | none => rw [hr] at h; cases h
      | some l =>
        rw [hr] at h
        obtain rfl : y :: l = m := by simpa using h
        obtain ⟨h1, h2⟩ := allO_mem hr
        refine ⟨by simp [h1], fun i hi => ?_⟩
        cases i with
        | zero => exact ⟨x, by simp, hx⟩
        | succ i =>
          obtain ⟨z, hz, e⟩ := h2 i (by simpa using hi)
          exact ⟨z, by simp [hz], by simpa using e⟩
theorem prsA_small {x : ByteArray} {a : At} (h : prsA x = some a) (hx : x.size ≤ 100000) : SmallA a := by
  unfold prsA at h
  rcases index_cases x.data.toList 61 with ⟨hi, _⟩ | ⟨i, hi, hl⟩
  · rw [if_pos hi] at h; cases h
  · rw [hi, if_neg (by omega)] at h
    obtain ⟨wd, hwd⟩ : ∃ wd, wd = x.extract 0 (i : Int).toNat := ⟨_, rfl⟩
    obtain ⟨rs, hrs⟩ : ∃ rs, rs = x.extract ((i : Int).toNat + 1) x.size := ⟨_, rfl⟩
    have hw2 : wd.size ≤ 100000 := by rw [hwd, ByteArray.size_extract]; omega
    have hr2 : rs.size ≤ 100000 := by rw [hrs, ByteArray.size_extract]; omega
    rw [← hwd, ← hrs] at h
    obtain ⟨⟨id, kn⟩, hty⟩ : ∃ p, typ wd = p := ⟨_, rfl⟩
    have hts := typ_size wd
    rw [hty] at h hts
    cases hu : uneO rs.data.toList with
    | none => rw [hu] at h; cases kn <;> cases h
    | some v =>
      have hvs : v.size ≤ rs.size := uneO_size hu
      rw [hu] at h
      cases kn with
      | false => cases h
      | true =>
        obtain rfl : (id, kindV id v, v) = a := by simpa using h
        exact ⟨by show id.size ≤ _; have : id.size ≤ wd.size + 40 := hts; omega, by show v.size ≤ _; omega⟩
theorem pieces_mem {c : UInt8} {x s : ByteArray} (h : s ∈ pcsS c x) : s.size ≤ x.size := by
  obtain ⟨k, hk, rfl⟩ := List.mem_iff_getElem.1 h
  have := pieces_size c x k hk
  rwa [List.getD_eq_getElem?_getD, List.getElem?_eq_getElem hk] at this
theorem getD_mem {α : Type} {l : List α} {i : Nat} (h : i < l.length) (d : α) : l.getD i d = l[i] := by rw [List.getD_eq_getElem?_getD, List.getElem?_eq_getElem h]; rfl
theorem prsR_small {x : ByteArray} {r : List At} (h : prsR x = some r) (hx : x.size ≤ 100000) : SmallR r := by
  obtain ⟨h1, h2⟩ := allO_mem h
  have hcl := count_le x 43
  refine ⟨by rw [h1, pcsS_len]; omega, fun i hi => ?_⟩
  obtain ⟨s, hs, e⟩ := h2 i hi
  rw [getD_mem hi]
  exact prsA_small e (Nat.le_trans (pieces_mem hs) hx)
theorem prsN_small {x : ByteArray} {n : Nm} (h : prsN x = some n) (hx : x.size ≤ 100000) : SmallN n := by
  unfold prsN at h
  by_cases h0 : x.size = 0
  · rw [if_pos h0] at h
    obtain rfl := Option.some.inj h
    exact ⟨by simp, fun i hi => absurd hi (Nat.not_lt_zero _)⟩
  · rw [if_neg h0] at h
    obtain ⟨h1, h2⟩ := allO_mem h
    have hcl := count_le x 44
    refine ⟨by rw [h1, pcsS_len]; omega, fun i hi => ?_⟩
    obtain ⟨s, hs, e⟩ := h2 i hi
    rw [getD_mem hi]
    exact prsR_small e (Nat.le_trans (pieces_mem hs) hx)

set_option maxRecDepth 100000 in
set_option maxHeartbeats 4000000 in
theorem parse_any (x : ByteArray) (w : World) (hx : x.size ≤ 100000) (hT : Tab w) (hS : ShT w) :
    Calls Tryz.prog 29 #[.string x] w fun e w' => ∃ v, e = .returned (.tuple #[v, .int .i64 ((prsErr x : Nat) : Int)]) ∧ OwnV w' w.heap.size v (prsV x) ∧ Below w.heap.size w w' := by
  obtain ⟨W0, hW0⟩ : ∃ W0, W0 = w.alloc (.cells #[.slice none 0 0] 24) := ⟨_, rfl⟩
  have hwr : w.alloc (.cells #[.slice none 0 0] 24) = W0 := hW0.symm
  have hb0 : Below w.heap.size w W0 := by rw [hW0]; exact belowNew w _
  have hq0 : W0.heap[w.heap.size]? = some (.cells #[.slice none 0 0] 24 (0, 0)) := by rw [hW0]; exact heap_alloc_new w _
  have hz : W0.heap.size = w.heap.size + 1 := by rw [hW0]; simp
  have HB0 := Lib.hid hb0
  have HQ0 := Lib.hid hq0
  have HZ := Lib.hid hz
  have HT := Lib.hid (hT.below hb0)
  have HP := prsN_any x W0 hx (hT.below hb0) (hS.below hb0)
  obtain ⟨E, hE⟩ : ∃ E, E = prsErr x := ⟨_, rfl⟩
  obtain ⟨V, hV⟩ : ∃ V, V = prsV x := ⟨_, rfl⟩
  rw [← hE, ← hV]
  cases hp : prsN x with
  | none =>
    have e1 : E = 32 := by rw [hE]; unfold prsErr; rw [hp]
    have e2 : V = [] := by rw [hV]; unfold prsV; rw [← hE, e1]; rfl
    rw [hp] at HP
    have HPP := Lib.hid HP
    subst e1 e2
    clear hE hV hp HP hb0 hq0 hz hT hS hW0
    go_enter Tryz.func29, Tryz.ntmps29
    go_wp2_with (go_at_call 56; (with_reducible refine HPP.out.mono ?_); rintro e w1 ⟨v, rfl, ho, hb1⟩; obtain ⟨s, rfl, hs⟩ := ho; obtain ⟨av, cv, rfl, _, _⟩ := hs.lies; have hq := (hb1.block _ (one_facts HQ0.out).2.2).trans HQ0.out; have HQ := Lib.hid hq; obtain ⟨r0, g0, hlt0⟩ := one_facts hq; have HB1 := Lib.hid (below_next HB0.out hb1); clear hb1 hq hs)
    have hlt2 : w.heap.size < (w1.setCell ⟨w.heap.size, 0, none⟩ (.slice none 0 0)).heap.size := by simpa [World.setCell] using hlt0
    exact bodyPost_ret (nmRes rfl _ _ w _ rfl (((belowNew _ _).block _ hlt2).trans (one_set HQ.out))) rfl ⟨_, rfl, ⟨_, rfl, OwnN.nil _ _⟩, (HB1.out.setCell (p := ⟨w.heap.size, 0, none⟩) (Nat.le_refl _) _).alloc (Nat.le_of_lt hlt2) _⟩
  | some n =>
    have e1 : E = chkN n := by rw [hE]; unfold prsErr; rw [hp]
    have e2 : V = if E = 0 then n else [] := by rw [hV]; unfold prsV; rw [← hE, hp]; rfl
    have HSM := Lib.hid (prsN_small hp hx)
    rw [hp] at HP
    have HPP := Lib.hid HP
    have HCK := Lib.hid (fun (av : Option Addr) (cv : Nat) W (h : RLies W av n) (hT : Tab W) => chk_core av cv n.length n W h rfl HSM.out hT)
    rw [← e1] at HCK
    by_cases hz0 : E = 0
    · rw [if_pos hz0] at e2
      subst e2
      subst hz0
      clear hE hV hp HP hb0 hq0 hz hT hS hW0 e1
      go_enter Tryz.func29, Tryz.ntmps29
      go_wp2_with (first
        | (go_at_call 56; (with_reducible refine HPP.out.mono ?_); rintro e w1 ⟨v, rfl, ho, hb1⟩; obtain ⟨s, rfl, hs⟩ := ho; obtain ⟨av, cv, rfl, _, hrl⟩ := hs.lies; have HRL := Lib.hid hrl; have HOW := Lib.hid hs; have hq := (hb1.block _ (one_facts HQ0.out).2.2).trans HQ0.out; have HQ := Lib.hid hq; have HB1 := Lib.hid (below_next HB0.out hb1); have HTB := Lib.hid (HT.out.below hb1); clear hb1 hq hs hrl)
        | (go_at_call 16; (with_reducible refine (HCK.out _ _ _ (HRL.out.below (belowNew w1 _)) (HTB.out.below (belowNew w1 _))).mono ?_); rintro e w2 ⟨rfl, hb2⟩; have hq := ((below_next (belowNew w1 _) hb2).block _ (one_facts HQ.out).2.2).trans HQ.out; have HQ2 := Lib.hid hq; obtain ⟨r0, g0, hlt0⟩ := one_facts hq; have hq1 := (hb2.block _ (by simp)).trans (heap_alloc_new w1 _); obtain ⟨m0, n0, hlt1⟩ := one_facts hq1; have HB2 := Lib.hid (below_next (belowNew w1 _) hb2); clear hb2 hq hq1))
      exact bodyPost_ret (nmRes rfl _ _ w _ rfl (one_set HQ2.out)) rfl ⟨_, rfl, ⟨_, rfl, ((HOW.out.below HB2.out).but (p := w.heap.size) (But.set _ _ _ _) (by have := HZ.out; omega)).base (by have := HZ.out; omega)⟩, (below_next HB1.out HB2.out).setCell (p := ⟨w.heap.size, 0, none⟩) (Nat.le_refl _) _⟩
    · rw [if_neg hz0] at e2
      subst e2
      have hz1 := errno_ne hz0
      clear hE hV hp HP hb0 hq0 hz hT hS hW0 e1
      go_enter Tryz.func29, Tryz.ntmps29
      go_wp2_with (first
        | (go_at_call 56; (with_reducible refine HPP.out.mono ?_); rintro e w1 ⟨v, rfl, ho, hb1⟩; obtain ⟨s, rfl, hs⟩ := ho; obtain ⟨av, cv, rfl, _, hrl⟩ := hs.lies; have HRL := Lib.hid hrl; have hq := (hb1.block _ (one_facts HQ0.out).2.2).trans HQ0.out; have HQ := Lib.hid hq; have HB1 := Lib.hid (below_next HB0.out hb1); have HTB := Lib.hid (HT.out.below hb1); clear hb1 hq hs hrl)
        | (go_at_call 16; (with_reducible refine (HCK.out _ _ _ (HRL.out.below (belowNew w1 _)) (HTB.out.below (belowNew w1 _))).mono ?_); rintro e w2 ⟨rfl, hb2⟩; have hq := ((below_next (belowNew w1 _) hb2).block _ (one_facts HQ.out).2.2).trans HQ.out; have HQ2 := Lib.hid hq; obtain ⟨r0, g0, hlt0⟩ := one_facts hq; have HB2 := Lib.hid (below_next (belowNew w1 _) hb2); clear hb2 hq))
      exact bodyPost_ret (nmRes rfl _ _ w _ rfl (one_set HQ2.out)) rfl ⟨_, rfl, ⟨_, rfl, OwnN.nil _ _⟩, (below_next HB1.out HB2.out).setCell (p := ⟨w.heap.size, 0, none⟩) (Nat.le_refl _) _⟩
end Go.Proofs.YtfpfgdbfigdooaaGreatDoor
