/-
  The contract of Decode: the name whose encoding bytes are, or the error.
  The contracts of the reference's Open, Need, End and attribute.
  The contract of the reference's attribute: the same as decodeAttribute's.
  The contract of the reference's DecodeName.
  The contract of the law's function awake: the chapter's example answers as written.
  Names that a law holds in blocks of its own; the calls of Match and awake in a region that draws.
  The contracts of certpathmade's New and Next: a deck in a block of the caller's own; a number from 0 to n - 1.
  The contract of certpathmade's Damage: a string that is at most one byte longer; nothing below the deck has changed.
  The contracts of certpathmade's Damage and replaced, with the deck kept.
  The contract of certpathmade's replaced.
  The contract of certpathmade's Rewrap.
  The size of what a made name's encoding is; Damage of any string.
  What is accepted is what is written: an element that is read depends on its own bytes alone, and is what Wrap writes for its parts; what Wrap writes is read. Nothing is claimed of the program here.
-/
import Derived.Test.YtbpdenfiifcfcaaGreatDoorKba
import Derived.Test.YtbpdenfiifcfcaaGreatDoorKag
import Derived.Test.YtbpdenfiifcfcaaGreatDoorKay
import Derived.Test.YtbpdenfiifcfcaaGreatDoorKaz
import Derived.Test.YtbpdenfiifcfcaaGreatDoorKaq
import Derived.Test.YtbpdenfiifcfcaaGreatDoorKak
import Derived.Test.YtbpdenfiifcfcaaGreatDoorKai
import Derived.Test.YtbpdenfiifcfcaaGreatDoorKax
import Derived.Test.YtbpdenfiifcfcaaGreatDoorKan
import Derived.Deep.DeepCutAuto
import Derived.Deep.RegionHeld3
import Derived.Lib.QuietBelow
import Derived.BigQuiet
import Derived.Test.YtbpdenfiifcfcaaGreatDoorKah
import Derived.Test.YtbpdenfiifcfcaaGreatDoorKao
import Derived.Test.YtbpdenfiifcfcaaGreatDoorKaj
import Derived.Test.YtbpdenfiifcfcaaGreatDoorKal
namespace Go.Proofs.YtbpdenfiifcfcaaGreatDoor
open Go.RowKit

theorem oidD_size {c id : ByteArray} (h : oidD c = some id) : id.size ≤ 1000 := by
  by_cases hx : ∃ a, Dec c.data.toList a
  · obtain ⟨a, ha⟩ := hx
    rw [oidD_yes ha] at h
    obtain rfl := Option.some.inj h
    rw [strOf_size]
    obtain ⟨_, h2, h5⟩ := ha.1
    have h5 := h5.1
    have := txt_len a h5
    omega
  · rw [oidD_no (fun a k => hx ⟨a, k⟩)] at h; cases h
theorem decL_small {l : List El} {K M : Nat} (hm : ∀ e ∈ l, e.2.1.size ≤ K) (h : K ≤ M) (hM : 1000 ≤ M) : (decL l).2.1.size ≤ M ∧ (decL l).2.2.2.size ≤ M := by
  have hz : noAt.1.size ≤ M ∧ noAt.2.2.size ≤ M := ⟨Nat.zero_le _, Nat.zero_le _⟩
  cases l with
  | nil => exact hz
  | cons x r =>
    by_cases hx : x.1 = 6
    case neg => simp only [decL]; rw [if_pos hx]; exact hz
    cases hd : oidD x.2.1 with
    | none => simp only [decL, hd]; rw [if_neg (by simpa using hx)]; exact hz
    | some id =>
      cases r with
      | nil => simp only [decL, hd]; rw [if_neg (by simpa using hx)]; exact hz
      | cons y q =>
        simp only [decL, hd]
        rw [if_neg (by simpa using hx)]
        by_cases hs : strTag y.1 = false
        · rw [if_pos hs]; exact hz
        · rw [if_neg hs]
          by_cases hq : q = []
          · rw [if_neg (by simpa using hq)]
            exact ⟨Nat.le_trans (oidD_size hd) hM, Nat.le_trans (hm y (List.mem_cons_of_mem _ List.mem_cons_self)) h⟩
          · rw [if_pos hq]; exact hz
theorem decA_small {e : El} {M : Nat} (h : e.2.1.size ≤ M) (hM : 1000 ≤ M) : (decA e).2.1.size ≤ M ∧ (decA e).2.2.2.size ≤ M := by
  have hz : noAt.1.size ≤ M ∧ noAt.2.2.size ≤ M := ⟨Nat.zero_le _, Nat.zero_le _⟩
  have hm := lst_mem _ e.2.1 (Nat.le_refl _)
  unfold decA
  split
  · exact hz
  · split
    · exact hz
    · exact decL_small hm h hM
theorem decAs_small : ∀ {l : List El} {M : Nat}, 1000 ≤ M → (∀ e ∈ l, e.2.1.size ≤ M) → (decAs l).2.length ≤ l.length ∧ ∀ i, i < (decAs l).2.length → ((decAs l).2.getD i noAt).1.size ≤ M ∧ ((decAs l).2.getD i noAt).2.2.size ≤ M
  | [], M, hM, h => ⟨Nat.le_refl _, fun i hi => absurd hi (Nat.not_lt_zero _)⟩
  | e :: r, M, hM, h => by
    obtain ⟨h1, h2⟩ := decAs_small hM (fun x hx => h x (List.mem_cons_of_mem _ hx))
    unfold decAs
    split
    · exact ⟨Nat.zero_le _, fun i hi => absurd hi (Nat.not_lt_zero _)⟩
    · split
      · exact ⟨Nat.zero_le _, fun i hi => absurd hi (Nat.not_lt_zero _)⟩
      · refine ⟨by simp; omega, fun i hi => ?_⟩
        cases i with
        | zero => exact decA_small (h e List.mem_cons_self) hM
        | succ i => exact h2 i (by simpa using hi)
theorem decR_small {e : El} {M : Nat} (hM : 1000 ≤ M) (h : e.2.1.size ≤ M) (hM2 : M ≤ 1000000) : SmallR (decR e).2 := by
  have hz : SmallR [] := ⟨by simp, fun i hi => absurd hi (Nat.not_lt_zero _)⟩
  have hl := lst_length e.2.1 _ (Nat.le_refl _)
  have hm := lst_mem _ e.2.1 (Nat.le_refl _)
  unfold decR
  split
  · exact hz
  · split
    · exact hz
    · split
      · exact hz
      · obtain ⟨h1, h2⟩ := decAs_small hM (fun x hx => Nat.le_trans (hm x hx) h)
        exact ⟨by omega, fun i hi => ⟨Nat.le_trans (h2 i hi).1 hM2, Nat.le_trans (h2 i hi).2 hM2⟩⟩
theorem decRs_small : ∀ {l : List El} {M : Nat}, 1000 ≤ M → M ≤ 1000000 → (∀ e ∈ l, e.2.1.size ≤ M) → (decRs l).2.length ≤ l.length ∧ ∀ i, i < (decRs l).2.length → SmallR ((decRs l).2.getD i [])
  | [], M, hM, hM2, h => ⟨Nat.le_refl _, fun i hi => absurd hi (Nat.not_lt_zero _)⟩
  | e :: r, M, hM, hM2, h => by
    obtain ⟨h1, h2⟩ := decRs_small hM hM2 (fun x hx => h x (List.mem_cons_of_mem _ hx))
    unfold decRs
    split
    · exact ⟨Nat.zero_le _, fun i hi => absurd hi (Nat.not_lt_zero _)⟩
    · split
      · exact ⟨Nat.zero_le _, fun i hi => absurd hi (Nat.not_lt_zero _)⟩
      · refine ⟨by simp; omega, fun i hi => ?_⟩
        cases i with
        | zero => exact decR_small hM (h e List.mem_cons_self) hM2
        | succ i => exact h2 i (by simpa using hi)
theorem decN0_small {b : ByteArray} (hb : b.size ≤ 1000000) : SmallN (decN0 b).2 := by
  have hz : SmallN [] := ⟨by simp, fun i hi => absurd hi (Nat.not_lt_zero _)⟩
  unfold decN0
  split
  · exact hz
  · rename_i h1
    have hc := rdContent_size (oneErr_rd (by simpa using h1))
    split
    · exact hz
    · split
      · exact hz
      · have hl := lst_length (rdContent b) _ (Nat.le_refl _)
        have hm := lst_mem _ (rdContent b) (Nat.le_refl _)
        obtain ⟨h2, h3⟩ := decRs_small (M := 1000000) (by omega) (by omega) (fun x hx => Nat.le_trans (hm x hx) (by omega))
        exact ⟨by omega, h3⟩
theorem decN_small {b : ByteArray} (hb : b.size ≤ 1000000) : SmallN (decN b).2 := by
  have hz : SmallN [] := ⟨by simp, fun i hi => absurd hi (Nat.not_lt_zero _)⟩
  unfold decN
  split
  · exact hz
  · split
    · exact hz
    · exact decN0_small hb

set_option maxRecDepth 100000 in
set_option maxHeartbeats 4000000 in
theorem decode_nm (x : ByteArray) (w : World) (hx : x.size ≤ 1000000) (hT : Tab w) (hP : Pow10 w) :
    Calls Tryz.prog 161 #[.string x] w fun e w' => ∃ v, e = .returned (.tuple #[v, .int .i64 (((decN x).1 : Nat) : Int)]) ∧ OwnV w' w.heap.size v (decN x).2 ∧ Below w.heap.size w w' := by
  obtain ⟨W0, hW0⟩ : ∃ W0, W0 = w.alloc (.cells #[.slice none 0 0] 27) := ⟨_, rfl⟩
  have hwr : w.alloc (.cells #[.slice none 0 0] 27) = W0 := hW0.symm
  have hb0 : Below w.heap.size w W0 := by rw [hW0]; exact belowNew w _
  have hq0 : W0.heap[w.heap.size]? = some (.cells #[.slice none 0 0] 27 (0, 0)) := by rw [hW0]; exact heap_alloc_new w _
  have hz : W0.heap.size = w.heap.size + 1 := by rw [hW0]; simp
  have HB0 := Lib.hid hb0
  have HQ0 := Lib.hid hq0
  have HZ := Lib.hid hz
  have HT := Lib.hid (hT.below hb0)
  have HPP := Lib.hid (decnm0_any x W0 (by omega) (hP.below hb0))
  have HSM := Lib.hid (decN0_small hx)
  obtain ⟨E, V, hEV⟩ : ∃ E V, decN x = (E, V) := ⟨_, _, rfl⟩
  have HRES := Lib.hid (show (E, V) = if (decN0 x).1 ≠ 0 then ((decN0 x).1, []) else if chkN (decN0 x).2 ≠ 0 then (chkN (decN0 x).2, []) else (0, (decN0 x).2) from hEV.symm)
  rw [hEV]
  generalize decN0 x = r at HPP HSM HRES
  obtain ⟨er, n⟩ := r
  simp only at HPP HSM HRES
  clear hEV hb0 hq0 hz hT hP hW0
  by_cases hz0 : er = 0
  case neg =>
    obtain ⟨rfl, rfl⟩ : E = er ∧ V = [] := by have := HRES.out; rw [if_pos hz0] at this; simpa using this
    have hz1 := errno_ne hz0
    have hz2 : ((E : Int) == 0) = false := by simp; omega
    clear hz0
    go_enter Tryz.func161, Tryz.ntmps161
    go_wp2_with (go_at_call 187; (with_reducible refine HPP.out.mono ?_); rintro e w1 ⟨v, rfl, ho, hb1⟩; obtain ⟨s, rfl, hs⟩ := ho; obtain ⟨av, cv, rfl, _, _⟩ := hs.lies; have hq := (hb1.block _ (one_facts HQ0.out).2.2).trans HQ0.out; have HQ := Lib.hid hq; obtain ⟨r0, g0, hlt0⟩ := one_facts hq; have HB1 := Lib.hid (below_next HB0.out hb1); clear hb1 hq hs)
    exact bodyPost_ret (nmRes rfl _ _ w _ rfl (((belowNew _ _).block _ (Array.getElem?_eq_some_iff.1 (one_set HQ.out)).1).trans (one_set HQ.out))) rfl ⟨_, rfl, ⟨_, rfl, OwnN.nil _ _⟩, below_next (HB1.out.setCell (p := ⟨w.heap.size, 0, none⟩) (Nat.le_refl _) _) (belowNew _ _)⟩
  subst hz0
  have HCK := Lib.hid (fun (av : Option Addr) (cv : Nat) W (h : RLies W av n) (hT : Tab W) => chk_core av cv n.length n W h rfl HSM.out hT)
  obtain ⟨C, hC⟩ : ∃ C, C = chkN n := ⟨_, rfl⟩
  have HRE := Lib.hid (show (E, V) = if C ≠ 0 then (C, []) else (0, n) by have := HRES.out; rw [if_neg (by simp), ← hC] at this; exact this)
  rw [← hC] at HCK
  clear HRES hC
  have hee : (((0 : Nat) : Int) == 0) = true := rfl
  by_cases hz0 : C = 0
  · obtain ⟨rfl, rfl⟩ : E = 0 ∧ V = n := by have := HRE.out; rw [if_neg (by simpa using hz0)] at this; simpa using this
    subst hz0
    go_enter Tryz.func161, Tryz.ntmps161
    go_wp2_with (first
      | (go_at_call 187; (with_reducible refine HPP.out.mono ?_); rintro e w1 ⟨v, rfl, ho, hb1⟩; obtain ⟨s, rfl, hs⟩ := ho; obtain ⟨av, cv, rfl, _, hrl⟩ := hs.lies; have HRL := Lib.hid hrl; have HOW := Lib.hid hs; have hq := (hb1.block _ (one_facts HQ0.out).2.2).trans HQ0.out; have HQ := Lib.hid hq; have HB1 := Lib.hid (below_next HB0.out hb1); have HTB := Lib.hid (HT.out.below hb1); clear hb1 hq hs hrl)
      | (go_at_call 85; (with_reducible refine (HCK.out _ _ _ (HRL.out.below (belowNew w1 _)) (HTB.out.below (belowNew w1 _))).mono ?_); rintro e w2 ⟨rfl, hb2⟩; have hq := ((below_next (belowNew w1 _) hb2).block _ (one_facts HQ.out).2.2).trans HQ.out; have HQ2 := Lib.hid hq; obtain ⟨r0, g0, hlt0⟩ := one_facts hq; have hq1 := (hb2.block _ (by simp)).trans (heap_alloc_new w1 _); obtain ⟨m0, n0, hlt1⟩ := one_facts hq1; have HB2 := Lib.hid (below_next (belowNew w1 _) hb2); clear hb2 hq hq1))
    exact bodyPost_ret (nmRes rfl _ _ w _ rfl (one_set HQ2.out)) rfl ⟨_, rfl, ⟨_, rfl, ((HOW.out.below HB2.out).but (p := w.heap.size) (But.set _ _ _ _) (by have := HZ.out; omega)).base (by have := HZ.out; omega)⟩, (below_next HB1.out HB2.out).setCell (p := ⟨w.heap.size, 0, none⟩) (Nat.le_refl _) _⟩
  · obtain ⟨rfl, rfl⟩ : E = C ∧ V = [] := by have := HRE.out; rw [if_pos hz0] at this; simpa using this
    have hz1 := errno_ne hz0
    clear hz0
    go_enter Tryz.func161, Tryz.ntmps161
    go_wp2_with (first
      | (go_at_call 187; (with_reducible refine HPP.out.mono ?_); rintro e w1 ⟨v, rfl, ho, hb1⟩; obtain ⟨s, rfl, hs⟩ := ho; obtain ⟨av, cv, rfl, _, hrl⟩ := hs.lies; have HRL := Lib.hid hrl; have hq := (hb1.block _ (one_facts HQ0.out).2.2).trans HQ0.out; have HQ := Lib.hid hq; have HB1 := Lib.hid (below_next HB0.out hb1); have HTB := Lib.hid (HT.out.below hb1); clear hb1 hq hs hrl)
      | (go_at_call 85; (with_reducible refine (HCK.out _ _ _ (HRL.out.below (belowNew w1 _)) (HTB.out.below (belowNew w1 _))).mono ?_); rintro e w2 ⟨rfl, hb2⟩; have hq := ((below_next (belowNew w1 _) hb2).block _ (one_facts HQ.out).2.2).trans HQ.out; have HQ2 := Lib.hid hq; obtain ⟨r0, g0, hlt0⟩ := one_facts hq; have HB2 := Lib.hid (below_next (belowNew w1 _) hb2); clear hb2 hq))
    exact bodyPost_ret (nmRes rfl _ _ w _ rfl (one_set HQ2.out)) rfl ⟨_, rfl, ⟨_, rfl, OwnN.nil _ _⟩, (below_next HB1.out HB2.out).setCell (p := ⟨w.heap.size, 0, none⟩) (Nat.le_refl _) _⟩
end Go.Proofs.YtbpdenfiifcfcaaGreatDoor
namespace Go.Proofs.YtbpdenfiifcfcaaGreatDoor
open Go.RowKit

theorem fi_facts {w : World} {g : Nat} {x y : Value} {t : TypeId} (h : w.heap[g]? = some (.cells #[x, y] t (0, 0))) :
    w.cell? ⟨g, 0, none⟩ = some x ∧ w.cell? ⟨g, 1, none⟩ = some y ∧ w.frozen? ⟨g, 0, none⟩ = false ∧ w.frozen? ⟨g, 1, none⟩ = false ∧ g < w.heap.size := by
  refine ⟨?_, ?_, Lib.frozen_of_heap h 0, Lib.frozen_of_heap h 1, (Array.getElem?_eq_some_iff.1 h).1⟩
  · rw [Lib.cell_of_heap h]; rfl
  · rw [Lib.cell_of_heap h]; rfl
theorem fi_set {w : World} {g : Nat} {x y a b : Value} {t : TypeId} (h : w.heap[g]? = some (.cells #[x, y] t (0, 0))) :
    ((w.setCell ⟨g, 0, none⟩ a).setCell ⟨g, 1, none⟩ b).heap[g]? = some (.cells #[a, b] t (0, 0)) := by
  simp [World.setCell, Array.getElem?_modify, h]
/-- What Open answers. -/
def opnE (x : El) (T : Nat) : Nat := if x.1 ≠ T then 5 else (lst x.2.1).2
def opnL (x : El) (T : Nat) : List El := if x.1 ≠ T then [] else (lst x.2.1).1
end Go.Proofs.YtbpdenfiifcfcaaGreatDoor
namespace Go.Proofs.YtbpdenfiifcfcaaGreatDoor
open Go.RowKit

theorem opn_len (x : El) (T : Nat) : (opnL x T).length ≤ x.2.1.size := by
  unfold opnL
  split
  · exact Nat.zero_le _
  · exact lst_length _ _ (Nat.le_refl _)

end Go.Proofs.YtbpdenfiifcfcaaGreatDoor
namespace Go.Proofs.YtbpdenfiifcfcaaGreatDoor
open Go.RowKit

end Go.Proofs.YtbpdenfiifcfcaaGreatDoor
namespace Go.Proofs.YtbpdenfiifcfcaaGreatDoor
open Go.RowKit

theorem dd1 {n : Nat} (h : n < 10) : Lib.decDigits n = [UInt8.ofNat (48 + n)] := Lib.decDigits_one h
theorem dd2 {n : Nat} (h1 : ¬ n < 10) (h2 : n < 100) : Lib.decDigits n = [UInt8.ofNat (48 + n / 10), UInt8.ofNat (48 + n % 10)] := Lib.decDigits_two h1 h2
theorem oid_cn : Oid [50, 46, 53, 46, 52, 46, 51] [2, 5, 4, 3] := by
  refine ⟨⟨by decide, by decide, by decide, by decide, by decide⟩, ?_⟩
  simp only [cat, fdot]
  rw [dd1 (n := 2) (by omega), dd1 (n := 5) (by omega), dd1 (n := 4) (by omega), dd1 (n := 3) (by omega)]
  rfl
theorem oid_o : Oid [50, 46, 53, 46, 52, 46, 49, 48] [2, 5, 4, 10] := by
  refine ⟨⟨by decide, by decide, by decide, by decide, by decide⟩, ?_⟩
  simp only [cat, fdot]
  rw [dd1 (n := 2) (by omega), dd1 (n := 5) (by omega), dd1 (n := 4) (by omega), dd2 (n := 10) (by omega) (by omega)]
  rfl
end Go.Proofs.YtbpdenfiifcfcaaGreatDoor
namespace Go.Proofs.YtbpdenfiifcfcaaGreatDoor
open Go.RowKit

/-- A name of a call's own, in block q. -/
def Held (w : World) (q lo : Nat) (n : Nm) : Prop := ∃ s, w.heap[q]? = some (.cells #[s] 27 (0, 0)) ∧ OwnN w lo s n
theorem Held.but {w w' : World} {p q lo : Nat} {n : Nm} (h : Held w q lo n) (hb : But p w w') (hq : p ≠ q) (hl : p < lo) : Held w' q lo n := by
  obtain ⟨s, h1, h2⟩ := h
  exact ⟨s, (hb.block q (Array.getElem?_eq_some_iff.1 h1).1 (by simp; omega)).trans h1, h2.but hb hl⟩
theorem spN_of_made {n : Nm} (h : MadeN n) : SpN 20 n := by
  refine ⟨h.1, fun r hr => ⟨(h.2 r hr).1.1, fun x hx => ?_⟩⟩
  have hm := (h.2 r hr).1.2.1 x hx
  have hall : ∀ y ∈ madeL, y.1.size ≤ 100 ∧ y.2.2.size ≤ 20 := by decide
  exact hall x hm
theorem small_of_sp {L : Nat} {n : Nm} (h : SpN L n) (hL : L ≤ 1000) : SmallN n := by
  refine ⟨Nat.le_trans h.1 (by omega), fun i hi => ?_⟩
  have hr := h.2 _ (getD_memS n i hi [])
  refine ⟨Nat.le_trans hr.1 (by omega), fun j hj => ?_⟩
  have hx := hr.2 _ (getD_memS _ j hj noAt)
  exact ⟨Nat.le_trans hx.1 (by omega), Nat.le_trans hx.2 (by omega)⟩

/-- A name that can be read: its slice lies in block q. -/
def HoldAt (V : World) (q : Nat) (a : Option Addr) (N c : Nat) (n : Nm) : Prop := V.cell? ⟨q, 0, none⟩ = some (.slice a N c) ∧ N = n.length ∧ N ≤ c ∧ RLies V a n ∧ SmallN n
theorem Held.open {w : World} {q lo L : Nat} {n : Nm} (h : Held w q lo n) (hs : SpN L n) (hL : L ≤ 1000) : ∃ a N c, HoldAt w q a N c n := by
  obtain ⟨s, h1, h2⟩ := h
  obtain ⟨a, c, rfl, hc, hl⟩ := h2.lies
  exact ⟨a, n.length, c, (one_facts h1).1, rfl, hc, hl, small_of_sp hs hL⟩
theorem HoldAt.below {w w' : World} {q N c : Nat} {a : Option Addr} {n : Nm} (h : HoldAt w q a N c n) (hb : Below w.heap.size w w') : HoldAt w' q a N c n :=
  ⟨(hb.cell (p := ⟨q, 0, none⟩) (block_lt h.1)).trans h.1, h.2.1, h.2.2.1, h.2.2.2.1.below hb, h.2.2.2.2⟩
end Go.Proofs.YtbpdenfiifcfcaaGreatDoor
namespace Go.Proofs.YtbpdenfiifcfcaaGreatDoor
open Go.RowKit

end Go.Proofs.YtbpdenfiifcfcaaGreatDoor
namespace Go.Proofs.YtbpdenfiifcfcaaGreatDoor
open Go.RowKit

end Go.Proofs.YtbpdenfiifcfcaaGreatDoor
namespace Go.Proofs.YtbpdenfiifcfcaaGreatDoor
open Go.RowKit

end Go.Proofs.YtbpdenfiifcfcaaGreatDoor
namespace Go.Proofs.YtbpdenfiifcfcaaGreatDoor
open Go.RowKit

end Go.Proofs.YtbpdenfiifcfcaaGreatDoor
namespace Go.Proofs.YtbpdenfiifcfcaaGreatDoor
open Go.RowKit

end Go.Proofs.YtbpdenfiifcfcaaGreatDoor
namespace Go.Proofs.YtbpdenfiifcfcaaGreatDoor
open Go.RowKit

theorem wrapStr_le (T : Int) (c : List UInt8) : (wrapStr T c).size ≤ c.length + 6 := by
  unfold wrapStr
  split
  · show (wrapL T.toNat c).toArray.size ≤ _
    unfold wrapL
    simp only [List.size_toArray, List.length_cons, List.length_append, lenO_length]
    have : lsz c.length ≤ 4 := by unfold lsz; split <;> (try split) <;> (try split) <;> omega
    omega
  · exact Nat.zero_le _
theorem encA_le (x : At) (h : x.2.2.size ≤ 30) : (encA x).size ≤ 103 := by
  have h1 := wrapStr_le 6 (oidS x.1).data.toList
  have h2 := wrapStr_le x.2.1 x.2.2.data.toList
  have h3 := wrapStr_le 48 ((wr1 6 (oidS x.1)).data.toList ++ (wr1 x.2.1 x.2.2).data.toList)
  have h4 := oidS_size x.1
  have e1 : (oidS x.1).data.toList.length = (oidS x.1).size := rfl
  have e2 : x.2.2.data.toList.length = x.2.2.size := rfl
  have e3 : (wr1 6 (oidS x.1)).data.toList.length = (wrapStr 6 (oidS x.1).data.toList).size := rfl
  have e4 : (wr1 x.2.1 x.2.2).data.toList.length = (wrapStr x.2.1 x.2.2.data.toList).size := rfl
  rw [List.length_append] at h3
  show (wrapStr 48 ((wr1 6 (oidS x.1)).data.toList ++ (wr1 x.2.1 x.2.2).data.toList)).size ≤ 103
  omega
theorem cat_lenM (M : Nat) : ∀ (ss : List ByteArray), (∀ s ∈ ss, s.size ≤ M) → (cat_t ss).length ≤ M * ss.length
  | [], _ => by simp [cat_t]
  | s :: r, h => by
    have h1 : s.data.toList.length ≤ M := h s List.mem_cons_self
    have h2 := cat_lenM M r (fun x hx => h x (List.mem_cons_of_mem _ hx))
    have e : cat_t (s :: r) = s.data.toList ++ cat_t r := rfl
    rw [e, List.length_append, List.length_cons, Nat.mul_succ]
    omega
theorem lists_flat : ∀ (ss : List ByteArray), (lists ss).flatten.length = (cat_t ss).length
  | [] => rfl
  | s :: r => by
    have e : cat_t (s :: r) = s.data.toList ++ cat_t r := rfl
    have e2 : (lists (s :: r)).flatten = s.data.toList ++ (lists r).flatten := rfl
    rw [e, e2, List.length_append, List.length_append, lists_flat r]
theorem encR_le {r : List At} (hl : r.length ≤ 2) (h : ∀ x ∈ r, x.2.2.size ≤ 30) : (encR r).size ≤ 212 := by
  have h1 := wrapStr_le 49 (ordL (lists (r.map encA))).flatten
  rw [ordL_flat_length, lists_flat] at h1
  have h2 := cat_lenM 103 (r.map encA) (fun s hs => by obtain ⟨a, ha, rfl⟩ := List.mem_map.1 hs; exact encA_le a (h a ha))
  rw [List.length_map] at h2
  show (wrapStr 49 (ordL (lists (r.map encA))).flatten).size ≤ 212
  omega
theorem encV_le {n : Nm} (h : SpN 20 n) : (encV n).size ≤ 650 := by
  unfold encV
  split
  · have h1 := wrapStr_le 48 (cat_t (n.map encR))
    have h2 := cat_lenM 212 (n.map encR) (fun s hs => by obtain ⟨a, ha, rfl⟩ := List.mem_map.1 hs; exact encR_le (h.2 a ha).1 (fun x hx => Nat.le_trans ((h.2 a ha).2 x hx).2 (by omega)))
    rw [List.length_map] at h2
    have := h.1
    show (wrapStr 48 (cat_t (n.map encR))).size ≤ 650
    omega
  · exact Nat.zero_le _
end Go.Proofs.YtbpdenfiifcfcaaGreatDoor
namespace Go.Proofs.YtbpdenfiifcfcaaGreatDoor
open Go.RowKit

theorem rd_cases {b : ByteArray} (h : rdErr b = 0) : b.size ≠ 0 ∧ u8at b 0 % 32 ≠ 31 ∧ (lnAt b 1).2.2 = 0 ∧ 1 + (lnAt b 1).2.1 + (lnAt b 1).1 ≤ b.size ∧ rd b = (0, 1 + (lnAt b 1).2.1, (lnAt b 1).1) := by
  unfold rdErr rd at h
  unfold rd
  by_cases h0 : b.size = 0
  · rw [if_pos h0] at h; cases h
  · rw [if_neg h0] at h ⊢
    by_cases h1 : u8at b 0 % 32 = 31
    · rw [if_pos h1] at h; cases h
    · rw [if_neg h1] at h ⊢
      by_cases h2 : (lnAt b 1).2.2 = 0
      · rw [if_neg (fun x => x h2)] at h ⊢
        by_cases h3 : b.size < 1 + (lnAt b 1).2.1 + (lnAt b 1).1
        · rw [if_pos h3] at h; cases h
        · rw [if_neg h3]
          exact ⟨h0, h1, h2, by omega, rfl⟩
      · rw [if_pos h2] at h; exact absurd h h2
theorem rd_mk {b : ByteArray} (h0 : b.size ≠ 0) (h1 : u8at b 0 % 32 ≠ 31) (h2 : (lnAt b 1).2.2 = 0) (h3 : 1 + (lnAt b 1).2.1 + (lnAt b 1).1 ≤ b.size) : rd b = (0, 1 + (lnAt b 1).2.1, (lnAt b 1).1) := by
  unfold rd
  rw [if_neg h0, if_neg h1, if_neg (fun x => x h2), if_neg (by omega)]
theorem oneErr_size {b : ByteArray} (h : oneErr b = 0) : (rd b).2.1 + (rd b).2.2 = b.size := by
  have h1 := oneErr_rd h
  obtain ⟨_, _, h2, _, _⟩ := rd_ok h1
  unfold oneErr at h
  rw [if_neg (fun x => x h1)] at h
  by_cases h3 : (rdRest b).size = 0
  · unfold rdRest at h3
    rw [ByteArray.size_extract] at h3
    omega
  · rw [if_pos h3] at h; cases h
end Go.Proofs.YtbpdenfiifcfcaaGreatDoor
