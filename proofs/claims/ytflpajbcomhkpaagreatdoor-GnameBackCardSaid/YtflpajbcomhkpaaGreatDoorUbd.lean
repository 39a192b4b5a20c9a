/-
  The contracts of decodeName and Decode: the name that bytes say, or the error.
  The contract of Decode: the name whose encoding bytes are, or the error.
  The contracts of the reference's Open, Need, End and attribute.
  The contract of the reference's attribute: the same as decodeAttribute's.
  The contract of the reference's DecodeName.
  The contract of the law's function awake: the chapter's example answers as written.
  Names that a law holds in blocks of its own; the calls of Match and awake in a region that draws.
  The contracts of certpathmade's New and Next: a deck in a block of the caller's own; a number from 0 to n - 1.
  The contract of certpathmade's Damage: a string that is at most one byte longer; nothing below the deck has changed.
  The contracts of certpathmade's Damage and replaced, with the deck kept.
  The contract of certpathmade's replaced.
  The contract of certpathmade's Rewrap.
  The size of what a made name's encoding is; Damage of any string.
  What is accepted is what is written: an element that is read depends on its own bytes alone, and is what Wrap writes for its parts; what Wrap writes is read. Nothing is claimed of the program here.
-/
import Derived.Test.YtflpajbcomhkpaaGreatDoorUbc
import Derived.Test.YtflpajbcomhkpaaGreatDoorUai
import Derived.Test.YtflpajbcomhkpaaGreatDoorUbb
import Derived.Test.YtflpajbcomhkpaaGreatDoorUav
import Derived.Test.YtflpajbcomhkpaaGreatDoorUao
import Derived.Test.YtflpajbcomhkpaaGreatDoorUaj
import Derived.Test.YtflpajbcomhkpaaGreatDoorUaz
import Derived.Test.YtflpajbcomhkpaaGreatDoorUar
import Derived.Deep.DeepCutAuto
import Derived.Deep.RegionHeld3
import Derived.Lib.QuietBelow
import Derived.BigQuiet
import Derived.Test.YtflpajbcomhkpaaGreatDoorUas
import Derived.Test.YtflpajbcomhkpaaGreatDoorUat
import Derived.Test.YtflpajbcomhkpaaGreatDoorUau
import Derived.Test.YtflpajbcomhkpaaGreatDoorUan
import Derived.Test.YtflpajbcomhkpaaGreatDoorUap
namespace Go.Proofs.YtflpajbcomhkpaaGreatDoor
open Go.RowKit

theorem decRs_err : ∀ {l : List El}, (decRs l).1 ≠ 0 → (decRs l).2 = []
  | [], h => absurd rfl h
  | e :: r, h => by
    unfold decRs at h ⊢
    by_cases h1 : (decR e).1 ≠ 0
    · rw [if_pos h1]
    · rw [if_neg h1] at h ⊢
      by_cases h2 : (decRs r).1 ≠ 0
      · rw [if_pos h2]
      · rw [if_neg h2] at h; exact absurd rfl h
theorem decRs_step {l : List El} {k : Nat} (h : k < l.length) (h0 : (decR (l.getD k noEle)).1 = 0) (D : Nm) : aheadA D (decRs (l.drop k)) = aheadA (D ++ [(decR (l.getD k noEle)).2]) (decRs (l.drop (k + 1))) := by
  rw [dropD l k h noEle]
  show aheadA D (if (decR (l.getD k noEle)).1 ≠ 0 then _ else _) = _
  rw [if_neg (by simpa using h0)]
  by_cases h2 : (decRs (l.drop (k + 1))).1 ≠ 0
  · rw [if_pos h2]; unfold aheadA; rw [if_pos h2, if_pos h2]
  · rw [if_neg h2]; unfold aheadA; rw [if_neg (by simp), if_neg h2]; simp
theorem decRs_bad {l : List El} {k : Nat} (h : k < l.length) (h0 : (decR (l.getD k noEle)).1 ≠ 0) (D : Nm) : aheadA D (decRs (l.drop k)) = ((decR (l.getD k noEle)).1, []) := by
  rw [dropD l k h noEle]
  show aheadA D (if (decR (l.getD k noEle)).1 ≠ 0 then _ else _) = _
  rw [if_pos h0]; unfold aheadA; rw [if_pos h0]
theorem decRs_end {l : List El} {k : Nat} (h : l.length ≤ k) (D : Nm) : aheadA D (decRs (l.drop k)) = (0, D) := by
  rw [List.drop_eq_nil_of_le h]; simp [aheadA, decRs]

/-! ### A row of rows that is filled one by one -/
def rowV (n : Nat) (L : List Value) : Array Value := (L ++ List.replicate (n - L.length) (Value.slice none 0 0)).toArray
theorem rowV_size (n : Nat) (L : List Value) (h : L.length ≤ n) : (rowV n L).size = n := by simp [rowV]; omega
theorem rowV_snoc (n : Nat) (L : List Value) (v : Value) (k : Nat) (hk : k = L.length) (h : k < n) : (rowV n L).setIfInBounds k v = rowV n (L ++ [v]) := by
  obtain ⟨m, hm⟩ : ∃ m, n - L.length = m + 1 := ⟨n - L.length - 1, by omega⟩
  have hm2 : n - (L ++ [v]).length = m := by simp; omega
  unfold rowV
  rw [hm2, hm, List.replicate_succ, List.setIfInBounds_toArray, set_mid _ _ _ _ _ hk]
  simp
theorem rowV_put {w : World} {g n k : Nat} {L : List Value} {v : Value} {T : TypeId} (h : w.heap[g]? = some (.cells (rowV n L) T (0, 0))) (hk : k = L.length) (hn : k < n) :
    (w.setCell ⟨g, k, none⟩ v).heap[g]? = some (.cells (rowV n (L ++ [v])) T (0, 0)) := by
  rw [← rowV_snoc n L v k hk hn]
  simp [World.setCell, Array.getElem?_modify, h]
theorem rowV_cells {w : World} {g n k : Nat} {L : List Value} {T : TypeId} (h : w.heap[g]? = some (.cells (rowV n L) T (0, 0))) (hl : L.length ≤ n) (hn : k < n) : (∃ v, w.cell? ⟨g, k, none⟩ = some v) ∧ w.frozen? ⟨g, k, none⟩ = false := by
  refine ⟨⟨(rowV n L)[k]'(by rw [rowV_size n L hl]; omega), ?_⟩, Lib.frozen_of_heap h _⟩
  rw [Lib.cell_of_heap h, Array.getElem?_eq_getElem]
theorem rds_make (n : Nat) (hn : n ≤ 1099511627) (W : World) : (Instr.makeSlice 28 (.int .i64 (n : Int)) (.int .i64 (n : Int))).run Tryz.prog W = .ok (.slice (some ⟨W.heap.size, 0, none⟩) n n) (W.alloc (.cells (rowV n []) 101)) := by
  obtain ⟨i0, hi, hz0, hz1, hz2⟩ := info_parts rdInfo
  have hr := run_make (P := Tryz.prog) W 28 101 i0 (.slice none 0 0) Tryz.underlying28 hi hz0 .i64 .i64 (n : Int) (n : Int) (by omega) (Int.le_refl _) (by rw [hz2]; omega) (by omega)
  rw [hr]
  have e2 : madeCells (Value.slice none 0 0).cells ((n : Int).toNat * i0.size) = rowV n [] := by
    rw [hz1]
    apply Array.ext
    · simp [madeCells, Value.cells, rowV]
    · intro i h1 h2
      simp [madeCells, Value.cells, rowV, Nat.mod_one]
  rw [e2]
  simp
theorem rowV_own {w : World} {B g n : Nat} {L : List Value} {N : Nm} (h : w.heap[g]? = some (.cells (rowV n L) 101 (0, 0))) (hB : B ≤ g) (hl : L.length = n) (hN : N.length = n) (hn : n ≤ 1099511627) (ho : ∀ i, i < n → OwnA w B (L.getD i (.slice none 0 0)) (N.getD i [])) :
    OwnN w B (.slice (some ⟨g, 0, none⟩) n n) N := by
  subst hN
  have e : rowV N.length L = L.toArray := by unfold rowV; rw [hl]; simp
  rw [e] at h
  refine ⟨L, hl, ⟨by rw [hl, Nat.mul_one], .inr ⟨g, N.length, _, rfl, hB, h, Nat.le_refl _, ?_, ?_, ?_⟩⟩, ho⟩
  · unfold maxLen; omega
  · simp [hl]
  · exact List.take_of_length_le (by simp [hl])

theorem gsnoc_eq {α : Type} (l : List α) (a d : α) {k : Nat} (h : l.length = k) : (l ++ [a]).getD k d = a := by
  subst h; simp
theorem gsnoc_lt {α : Type} (l : List α) (a d : α) (i : Nat) (h : i < l.length) : (l ++ [a]).getD i d = l.getD i d := by
  rw [List.getD_eq_getElem?_getD, List.getElem?_append_left h, ← List.getD_eq_getElem?_getD]
set_option maxRecDepth 100000 in
set_option maxHeartbeats 8000000 in
theorem decnm0_any (b : ByteArray) (w : World) (hx : b.size ≤ 1099511627) (hP : Pow10 w) :
    Calls Tryz.prog 122 #[.string b] w fun e w' => ∃ v, e = .returned (.tuple #[v, .int .i64 (((decN0 b).1 : Nat) : Int)]) ∧ OwnV w' w.heap.size v (decN0 b).2 ∧ Below w.heap.size w w' := by
  obtain ⟨E, A, hEA⟩ : ∃ E A, decN0 b = (E, A) := ⟨_, _, rfl⟩
  have HRES := Lib.hid (show (E, A) = decN0 b from hEA.symm)
  rw [hEA]
  clear hEA
  unfold decN0 at HRES
  obtain ⟨W0, hW0⟩ : ∃ W0, W0 = w.alloc (.cells #[.slice none 0 0] 30) := ⟨_, rfl⟩
  have hb0 : Below w.heap.size w W0 := by rw [hW0]; exact belowNew w _
  have q0 : W0.heap[w.heap.size]? = some (.cells #[.slice none 0 0] 30 (0, 0)) := by rw [hW0]; exact heap_alloc_new w _
  have hz0 : W0.heap.size = w.heap.size + 1 := by rw [hW0]; simp
  have HWE := Lib.hid hW0.symm
  have HB0 := Lib.hid hb0
  have HQ0 := Lib.hid q0
  have HP0 := Lib.hid (hP.below hb0)
  have HON := Lib.hid (one_any b W0 (by omega))
  unfold oneVal at HON
  clear hW0 hb0 q0 hP
  go_enter Tryz.func122, Tryz.ntmps122
  go_wp2_with fail
  rw [HWE.out]
  by_cases h1 : oneErr b = 0
  case neg =>
    obtain ⟨hE, rfl⟩ : E = oneErr b ∧ A = [] := by have := HRES.out; rw [if_pos h1] at this; simpa using this
    rw [if_neg h1] at HON
    have hz1 := errno_ne h1
    unfold noEl at HON
    rw [← hE] at HON hz1
    clear h1 hE HRES
    refine HON.out.mono ?_
    rintro e w1 ⟨rfl, hb1⟩
    have hr := (hb1.block w.heap.size (by omega)).trans HQ0.out
    have bz := belowNew w1 (.cells #[.int .i64 0, .string ⟨#[]⟩, .string ⟨#[]⟩] 23)
    have hr2 := (bz.block w.heap.size (Array.getElem?_eq_some_iff.1 hr).1).trans hr
    have HR := Lib.hid hr2
    have HBF := Lib.hid (below_next (below_next HB0.out hb1) bz)
    obtain ⟨s0, f0, sl⟩ := one_facts hr2
    clear hb1 hr bz hr2
    go_wp2_with fail
    exact bodyPost_ret (nmRes rfl _ _ w _ rfl (one_set HR.out)) rfl ⟨_, rfl, ⟨_, rfl, OwnN.nil _ _⟩, HBF.out.setCell (p := ⟨w.heap.size, 0, none⟩) (Nat.le_refl _) _⟩
  rw [if_pos h1] at HON
  unfold elV at HON
  have hre := HRES.out
  rw [if_neg (by simpa using h1)] at hre
  have HRE := Lib.hid hre
  clear hre
  have hrc := rdContent_size (oneErr_rd h1)
  generalize rdTag b = t at HON HRE
  generalize rdContent b = ct at HON HRE hrc
  generalize rdRaw b = rw0 at HON
  clear HRES h1
  refine HON.out.mono ?_
  rintro e w1 ⟨rfl, hb1⟩
  obtain ⟨W1, hW1⟩ : ∃ W1, W1 = w1.alloc (.cells #[.int .i64 ((t : Nat) : Int), .string ct, .string rw0] 23) := ⟨_, rfl⟩
  have hbb : Below w1.heap.size w1 W1 := by rw [hW1]; exact belowNew w1 _
  obtain ⟨e0, e1, e2, _, _, _, el⟩ := at_facts (show W1.heap[w1.heap.size]? = _ from by rw [hW1]; exact heap_alloc_new w1 _)
  have HR1 := Lib.hid ((hbb.block w.heap.size (by have := hb1.size; omega)).trans ((hb1.block w.heap.size (by omega)).trans HQ0.out))
  have HB1 := Lib.hid (below_next (below_next HB0.out hb1) hbb)
  have HP1 := Lib.hid ((HP0.out.below hb1).below hbb)
  have hwe1 := hW1.symm
  obtain ⟨s0, f0, sl⟩ := one_facts HR1.out
  clear hb1 hbb hW1
  by_cases ht : t = 48
  case neg =>
    obtain ⟨rfl, rfl⟩ : E = 5 ∧ A = [] := by have := HRE.out; rw [if_pos ht] at this; simpa using this
    have hd : ((t : Int) != 48) = true := by simp; omega
    clear ht
    go_wp2_with fail
    exact bodyPost_ret (nmRes rfl _ _ w _ rfl (one_set HR1.out)) rfl ⟨_, rfl, ⟨_, rfl, OwnN.nil _ _⟩, HB1.out.setCell (p := ⟨w.heap.size, 0, none⟩) (Nat.le_refl _) _⟩
  have hd : ((t : Int) != 48) = false := by rw [ht]; rfl
  have hre := HRE.out
  rw [if_neg (by simpa using ht)] at hre
  have HRE2 := Lib.hid hre
  clear hre
  have HLS := Lib.hid (list_any ct W1 (by omega))
  have HMEM := Lib.hid (fun z (hz : z ∈ (lst ct).1) => Nat.le_trans (lst_mem _ ct (Nat.le_refl _) z hz) (show ct.size ≤ 1099511627 by omega))
  have hlen := lst_length ct _ (Nat.le_refl _)
  generalize lst ct = LE at HLS HMEM hlen HRE2
  obtain ⟨l, er⟩ := LE
  simp only at HLS HMEM hlen HRE2
  clear HRE ht s0 f0 sl
  go_wp2_with fail
  refine HLS.out.mono ?_
  rintro e w2 ⟨v2, rfl, ho2, hb2⟩
  obtain ⟨a, c, rfl, hlc, hel, hbk⟩ := ElAt.of ho2
  obtain ⟨n, hn⟩ : ∃ n, n = l.length := ⟨_, rfl⟩
  rw [← hn] at hlc hlen ⊢
  have HN := Lib.hid hn
  have hnz : n ≤ 1099511627 := by omega
  have HEL := Lib.hid hel
  have hwW1 : w.heap.size < W1.heap.size := (Array.getElem?_eq_some_iff.1 HR1.out).1
  have HR2 := Lib.hid ((hb2.block w.heap.size hwW1).trans HR1.out)
  have HB2 := Lib.hid (below_next HB1.out hb2)
  have HP2 := Lib.hid (HP1.out.below hb2)
  obtain ⟨s0, f0, sl⟩ := one_facts HR2.out
  clear ho2 hel hbk hb2 hn e0 e1 e2 el hwe1
  by_cases hz : er = 0
  case neg =>
    obtain ⟨rfl, rfl⟩ : E = er ∧ A = [] := by have := HRE2.out; rw [if_pos hz] at this; simpa using this
    have hz1 := errno_ne hz
    clear hz
    go_wp2_with fail
    exact bodyPost_ret (nmRes rfl _ _ w _ rfl (one_set HR2.out)) rfl ⟨_, rfl, ⟨_, rfl, OwnN.nil _ _⟩, HB2.out.setCell (p := ⟨w.heap.size, 0, none⟩) (Nat.le_refl _) _⟩
  subst hz
  have HRA := Lib.hid (show (E, A) = aheadA [] (decRs (l.drop 0)) by
    have := HRE2.out
    rw [if_neg (by simp)] at this
    rw [this, List.drop_zero, aheadA_nil decRs_err])
  clear HRE2
  have hmk := rds_make n (by omega)
  obtain ⟨g, hg⟩ : ∃ g, g = w2.heap.size := ⟨_, rfl⟩
  obtain ⟨W3, hW3⟩ : ∃ W3, W3 = (w2.alloc (.cells (rowV n []) 101)).alloc (.cells #[.slice (some ⟨w2.heap.size, 0, none⟩) n n] 30) := ⟨_, rfl⟩
  have hq3 : W3.heap[g]? = some (.cells (rowV n []) 101 (0, 0)) := by rw [hW3, hg]; exact ((belowNew _ _).block _ (by simp)).trans (heap_alloc_new w2 _)
  have hn3 : W3.heap[g + 1]? = some (.cells #[.slice (some ⟨g, 0, none⟩) n n] 30 (0, 0)) := by
    have := heap_alloc_new (w2.alloc (.cells (rowV n []) 101)) (.cells #[.slice (some ⟨w2.heap.size, 0, none⟩) n n] 30)
    rw [← hW3] at this
    rw [hg]
    simpa using this
  have hb3 : Below w2.heap.size w2 W3 := by rw [hW3]; exact belowTwo w2 _ _
  have HQ3 := Lib.hid hq3
  have HN3 := Lib.hid hn3
  have HR3 := Lib.hid ((hb3.block w.heap.size sl).trans HR2.out)
  have HB3 := Lib.hid (below_next HB2.out hb3)
  have HBG := Lib.hid (show Below g w2 W3 by rw [hg]; exact hb3)
  have HW3 := Lib.hid hW3.symm
  have HG := Lib.hid hg
  have hwg : w.heap.size < g := by rw [hg]; exact sl
  have hgW : g + 1 < W3.heap.size := (Array.getElem?_eq_some_iff.1 hn3).1
  clear hq3 hb3 hW3 hg hn3 s0 f0
  go_wp2_with fail
  rw [HW3.out, ← HG.out]
  clear hmk sl
  go_loopw [39] (fun i wr => ∃ (k : Nat) (D : Nm) (L : List Value), k ≤ n ∧ i = .int .i64 (k : Int) ∧ D.length = k ∧ L.length = k ∧ (E, A) = aheadA D (decRs (l.drop k)) ∧ wr.heap[g]? = some (.cells (rowV n L) 101 (0, 0)) ∧ (∀ i, i < k → OwnA wr W3.heap.size (L.getD i (.slice none 0 0)) (D.getD i [])) ∧ But g W3 wr) (fun i _ => n - (intOf i).toNat)
  case atStart => exact ⟨0, [], [], Nat.zero_le _, rfl, rfl, rfl, HRA.out, HQ3.out, fun i hi => absurd hi (Nat.not_lt_zero _), But.refl _ _⟩
  case round =>
    obtain ⟨k, D, L, hk, rfl, hDk, hLk, hA, hq, how, hb⟩ := hrel
    have HQ := Lib.hid hq
    have HB := Lib.hid hb
    have HA := Lib.hid hA
    have HDK := Lib.hid hDk
    have HLK := Lib.hid hLk
    have HOW := Lib.hid how
    have HBW := Lib.hid (show Below w.heap.size w wr from HB3.out.trans ((hb.below (by omega)).mono (by omega)))
    have HRR := Lib.hid ((hb.block w.heap.size (by omega) (by simp; omega)).trans HR3.out)
    have hnn := (hb.block (g + 1) hgW (by simp)).trans HN3.out
    have HNN := Lib.hid hnn
    have hgl : g < wr.heap.size := (Array.getElem?_eq_some_iff.1 hq).1
    have hgl1 : g + 1 < wr.heap.size := (Array.getElem?_eq_some_iff.1 hnn).1
    clear hq hb hA hDk hLk how hnn
    by_cases hlt : k < n
    · have hd' : decide ((k : Int) < (n : Int)) = true := by simp; omega
      obtain ⟨b3, o, rfl, hcl⟩ := HEL.out.resolve_left (fun e => by have := HN.out; rw [e] at this; simp at this; omega)
      obtain ⟨x0, x1, x2⟩ := hcl k (by rw [← HN.out]; exact hlt)
      have hwx : Below g w2 wr := HBG.out.trans (HB.out.below (by omega))
      have hbg : b3 < g := by rw [HG.out]; exact block_lt x0
      have c0 := (hwx.cell (p := ⟨b3, o + k * 3, none⟩) hbg).trans x0
      have c1 := (hwx.cell (p := ⟨b3, o + k * 3 + 1, none⟩) hbg).trans x1
      have c2 := (hwx.cell (p := ⟨b3, o + k * 3 + 2, none⟩) hbg).trans x2
      have hki : (k : Int) < (n : Int) := by omega
      have hmz := HMEM.out (l.getD k noEle) (by rw [List.getD_eq_getElem?_getD, List.getElem?_eq_getElem (by rw [← HN.out]; exact hlt)]; exact List.getElem_mem _)
      have HST := Lib.hid (fun h0 => decRs_step (l := l) (k := k) (by rw [← HN.out]; exact hlt) h0 D)
      have HBD := Lib.hid (fun h0 => decRs_bad (l := l) (k := k) (by rw [← HN.out]; exact hlt) h0 D)
      generalize l.getD k noEle = y at c0 c1 c2 hmz HST HBD
      have HPW := Lib.hid (show Pow10 wr from HP2.out.below (by rw [← HG.out]; exact hwx))
      obtain ⟨yt, yc, yr⟩ := y
      have HDA := Lib.hid (fun W h => decrel_any (yt, yc, yr) W hmz h)
      unfold elV at HDA
      obtain ⟨eA, aA, hda⟩ : ∃ eA aA, decR (yt, yc, yr) = (eA, aA) := ⟨_, _, rfl⟩
      rw [hda] at HST HBD HDA
      simp only at c0 c1 c2 HDA HST HBD
      obtain ⟨W4, hW4⟩ : ∃ W4, W4 = wr.alloc (.cells #[.int .i64 ((yt : Nat) : Int), .string yc, .string yr] 23) := ⟨_, rfl⟩
      have hb4 : Below wr.heap.size wr W4 := by rw [hW4]; exact belowNew wr _
      obtain ⟨t0, t1, t2, _, _, _, tl⟩ := at_facts (show W4.heap[wr.heap.size]? = _ from by rw [hW4]; exact heap_alloc_new wr _)
      have HWE4 := Lib.hid hW4.symm
      have m0 := (hb4.cell (p := ⟨g + 1, 0, none⟩) hgl1).trans (one_facts HNN.out).1
      have HB4 := Lib.hid hb4
      have HPW4 := Lib.hid (HPW.out.below hb4)
      obtain ⟨q, hq⟩ : ∃ q, q = wr.heap.size := ⟨_, rfl⟩
      rw [← hq] at t0 t1 t2 tl hgl hgl1
      have HQQ := Lib.hid hq
      have hlg1 : g + 1 < W4.heap.size := block_lt m0
      have hgq : ¬ g = q := by omega
      have hgq' : ¬ q = g := by omega
      clear x0 x1 x2 hcl hmz hda hwx hW4 hb4 hq
      go_wp2_with fail
      rw [HWE4.out, ← HQQ.out]
      clear c0 c1 c2
      go_region_held3 (fun w' => w'.cell? ⟨g + 1, 0, none⟩ = some (.slice (some ⟨g, 0, none⟩) n n) ∧ w'.cell? ⟨q, 0, none⟩ = some (.int .i64 ((yt : Nat) : Int)) ∧ w'.cell? ⟨q, 1, none⟩ = some (.string yc) ∧ w'.cell? ⟨q, 2, none⟩ = some (.string yr)) (first | exact ⟨by assumption, by assumption, by assumption, by assumption⟩ | go_keep)
        (first
          | (go_at_call 159; (with_reducible refine (HDA.out _ (by first | exact HPW4.out | exact HPW4.out.below (Below.refl _ _).drew)).mono ?_); rintro e w5 ⟨v5, rfl, ho5, hb5⟩; have hb5' : Below W4.heap.size W4 w5 := (by first | exact hb5 | exact (Below.refl _ _).drew.trans hb5); obtain ⟨a5, c5, rfl, _, _⟩ := ho5.lies; have m0' := (hb5'.cell (p := ⟨g + 1, 0, none⟩) hlg1).trans m0; have t0' := (hb5'.cell (p := ⟨q, 0, none⟩) tl).trans t0; have t1' := (hb5'.cell (p := ⟨q, 1, none⟩) tl).trans t1; have t2' := (hb5'.cell (p := ⟨q, 2, none⟩) tl).trans t2; have hbn : Below wr.heap.size wr w5 := below_next HB4.out hb5'; have hq5 := (hbn.block g (Array.getElem?_eq_some_iff.1 HQ.out).1).trans HQ.out; obtain ⟨⟨u0, n0⟩, z0⟩ := rowV_cells hq5 (by have := HLK.out; omega) hlt; have HQ5 := Lib.hid hq5; have HBN := Lib.hid hbn; have HO5 := Lib.hid (show OwnA w5 W3.heap.size (.slice a5 aA.length c5) aA from OwnA.base ho5 (by have h1 := HB.out.size; have h2 := HB4.out.size; simp only [World.drew] ; omega)); clear hb5 hb5' hbn hq5 ho5))
      all_goals
        by_cases hz : eA = 0
        · subst hz
          have HF := Lib.hid (show (E, A) = aheadA (D ++ [aA]) (decRs (l.drop (k + 1))) from HA.out.trans (HST.out rfl))
          have HOX := Lib.hid (show ∀ i, i < k + 1 → OwnA (w5.setCell ⟨g, k, none⟩ (.slice a5 aA.length c5)) W3.heap.size ((L ++ [Value.slice a5 aA.length c5]).getD i (.slice none 0 0)) ((D ++ [aA]).getD i []) from fun i hi => by
            by_cases e : i = k
            · subst e
              rw [gsnoc_eq _ _ _ HLK.out, gsnoc_eq _ _ _ HDK.out]
              exact HO5.out.but (p := g) (But.set g _ w5 _) (by omega)
            · rw [gsnoc_lt _ _ _ _ (by rw [HLK.out]; omega), gsnoc_lt _ _ _ _ (by rw [HDK.out]; omega)]
              exact ((HOW.out i (by omega)).below HBN.out).but (p := g) (But.set g _ w5 _) (by omega))
          have HBX := Lib.hid ((HB.out.next (But.of HBN.out)).next (But.set g k w5 (.slice a5 aA.length c5)))
          clear m0' t0' t1' t2' m0 t0 t1 t2
          go_wp2_with fail
          go_roundw
          case rel => exact ⟨k + 1, D ++ [aA], L ++ [Value.slice a5 aA.length c5], by omega, by go_num, by rw [List.length_append, HDK.out]; rfl, by rw [List.length_append, HLK.out]; rfl, HF.out, rowV_put (L := L) HQ5.out HLK.out.symm hlt, HOX.out, HBX.out⟩
          case measure => simp [intOf]; omega
        · obtain ⟨rfl, rfl⟩ : E = eA ∧ A = [] := by have := HA.out.trans (HBD.out hz); simpa using this
          have hz1 := errno_ne hz
          have hr5 := (HBN.out.block w.heap.size (Array.getElem?_eq_some_iff.1 HRR.out).1).trans HRR.out
          have HRX := Lib.hid (((But.set g k w5 (.slice a5 aA.length c5)).block w.heap.size (Array.getElem?_eq_some_iff.1 hr5).1 (by simp; omega)).trans hr5)
          obtain ⟨r0, r1, r2⟩ := one_facts hr5
          have hwg1 : ¬ w.heap.size = g := by omega
          have hwg2 : ¬ g = w.heap.size := by omega
          have HBX := Lib.hid (below_next HBW.out HBN.out)
          clear hz hr5 m0' t0' t1' t2' m0 t0 t1 t2
          go_wp2_with fail
          exact bodyPost_ret (nmRes rfl _ _ w _ rfl (one_set HRX.out)) rfl ⟨_, rfl, ⟨_, rfl, OwnN.nil _ _⟩, (HBX.out.setCell (p := ⟨g, k, none⟩) (Nat.le_of_lt hwg) _).setCell (p := ⟨w.heap.size, 0, none⟩) (Nat.le_refl _) _⟩
    · have hd' : decide ((k : Int) < (n : Int)) = false := by simp; omega
      obtain ⟨rfl, rfl⟩ : E = 0 ∧ A = D := by have := HA.out; rw [decRs_end (by rw [← HN.out]; omega)] at this; simpa using this
      obtain ⟨r0, r1, r2⟩ := one_facts HRR.out
      obtain ⟨m0, _, _⟩ := one_facts HNN.out
      have hk' : k = n := by omega
      have HOV := Lib.hid (show OwnN wr g (.slice (some ⟨g, 0, none⟩) n n) A from rowV_own HQ.out (Nat.le_refl _) (by rw [HLK.out]; exact hk') (by rw [HDK.out]; exact hk') hnz (fun i hi => (HOW.out i (by omega)).base (by omega)))
      clear hk'
      go_wp2_with fail
      exact bodyPost_ret (nmRes rfl _ _ w _ rfl (one_set HRR.out)) rfl ⟨_, rfl, ⟨_, rfl, (HOV.out.but (p := w.heap.size) (But.set _ _ _ _) hwg).base (Nat.le_of_lt hwg)⟩, HBW.out.setCell (p := ⟨w.heap.size, 0, none⟩) (Nat.le_refl _) _⟩
end Go.Proofs.YtflpajbcomhkpaaGreatDoor
namespace Go.Proofs.YtflpajbcomhkpaaGreatDoor
open Go.RowKit

theorem oidD_size {c id : ByteArray} (h : oidD c = some id) : id.size ≤ 1000 := by
  by_cases hx : ∃ a, Dec c.data.toList a
  · obtain ⟨a, ha⟩ := hx
    rw [oidD_yes ha] at h
    obtain rfl := Option.some.inj h
    rw [strOf_size]
    obtain ⟨_, h2, h5⟩ := ha.1
    have h5 := h5.1
    have := txt_len a h5
    omega
  · rw [oidD_no (fun a k => hx ⟨a, k⟩)] at h; cases h
theorem decL_small {l : List El} {K M : Nat} (hm : ∀ e ∈ l, e.2.1.size ≤ K) (h : K ≤ M) (hM : 1000 ≤ M) : (decL l).2.1.size ≤ M ∧ (decL l).2.2.2.size ≤ M := by
  have hz : noAt.1.size ≤ M ∧ noAt.2.2.size ≤ M := ⟨Nat.zero_le _, Nat.zero_le _⟩
  cases l with
  | nil => exact hz
  | cons x r =>
    by_cases hx : x.1 = 6
    case neg => simp only [decL]; rw [if_pos hx]; exact hz
    cases hd : oidD x.2.1 with
    | none => simp only [decL, hd]; rw [if_neg (by simpa using hx)]; exact hz
    | some id =>
      cases r with
      | nil => simp only [decL, hd]; rw [if_neg (by simpa using hx)]; exact hz
      | cons y q =>
        simp only [decL, hd]
        rw [if_neg (by simpa using hx)]
        by_cases hs : strTag y.1 = false
        · rw [if_pos hs]; exact hz
        · rw [if_neg hs]
          by_cases hq : q = []
          · rw [if_neg (by simpa using hq)]
            exact ⟨Nat.le_trans (oidD_size hd) hM, Nat.le_trans (hm y (List.mem_cons_of_mem _ List.mem_cons_self)) h⟩
          · rw [if_pos hq]; exact hz
theorem decA_small {e : El} {M : Nat} (h : e.2.1.size ≤ M) (hM : 1000 ≤ M) : (decA e).2.1.size ≤ M ∧ (decA e).2.2.2.size ≤ M := by
  have hz : noAt.1.size ≤ M ∧ noAt.2.2.size ≤ M := ⟨Nat.zero_le _, Nat.zero_le _⟩
  have hm := lst_mem _ e.2.1 (Nat.le_refl _)
  unfold decA
  split
  · exact hz
  · split
    · exact hz
    · exact decL_small hm h hM
theorem decAs_small : ∀ {l : List El} {M : Nat}, 1000 ≤ M → (∀ e ∈ l, e.2.1.size ≤ M) → (decAs l).2.length ≤ l.length ∧ ∀ i, i < (decAs l).2.length → ((decAs l).2.getD i noAt).1.size ≤ M ∧ ((decAs l).2.getD i noAt).2.2.size ≤ M
  | [], M, hM, h => ⟨Nat.le_refl _, fun i hi => absurd hi (Nat.not_lt_zero _)⟩
  | e :: r, M, hM, h => by
    obtain ⟨h1, h2⟩ := decAs_small hM (fun x hx => h x (List.mem_cons_of_mem _ hx))
    unfold decAs
    split
    · exact ⟨Nat.zero_le _, fun i hi => absurd hi (Nat.not_lt_zero _)⟩
    · split
      · exact ⟨Nat.zero_le _, fun i hi => absurd hi (Nat.not_lt_zero _)⟩
      · refine ⟨by simp; omega, fun i hi => ?_⟩
        cases i with
        | zero => exact decA_small (h e List.mem_cons_self) hM
        | succ i => exact h2 i (by simpa using hi)
theorem decR_small {e : El} {M : Nat} (hM : 1000 ≤ M) (h : e.2.1.size ≤ M) (hM2 : M ≤ 1000000) : SmallR (decR e).2 := by
  have hz : SmallR [] := ⟨by simp, fun i hi => absurd hi (Nat.not_lt_zero _)⟩
  have hl := lst_length e.2.1 _ (Nat.le_refl _)
  have hm := lst_mem _ e.2.1 (Nat.le_refl _)
  unfold decR
  split
  · exact hz
  · split
    · exact hz
    · split
      · exact hz
      · obtain ⟨h1, h2⟩ := decAs_small hM (fun x hx => Nat.le_trans (hm x hx) h)
        exact ⟨by omega, fun i hi => ⟨Nat.le_trans (h2 i hi).1 hM2, Nat.le_trans (h2 i hi).2 hM2⟩⟩
theorem decRs_small : ∀ {l : List El} {M : Nat}, 1000 ≤ M → M ≤ 1000000 → (∀ e ∈ l, e.2.1.size ≤ M) → (decRs l).2.length ≤ l.length ∧ ∀ i, i < (decRs l).2.length → SmallR ((decRs l).2.getD i [])
  | [], M, hM, hM2, h => ⟨Nat.le_refl _, fun i hi => absurd hi (Nat.not_lt_zero _)⟩
  | e :: r, M, hM, hM2, h => by
    obtain ⟨h1, h2⟩ := decRs_small hM hM2 (fun x hx => h x (List.mem_cons_of_mem _ hx))
    unfold decRs
    split
    · exact ⟨Nat.zero_le _, fun i hi => absurd hi (Nat.not_lt_zero _)⟩
    · split
      · exact ⟨Nat.zero_le _, fun i hi => absurd hi (Nat.not_lt_zero _)⟩
      · refine ⟨by simp; omega, fun i hi => ?_⟩
        cases i with
        | zero => exact decR_small hM (h e List.mem_cons_self) hM2
        | succ i => exact h2 i (by simpa using hi)
theorem decN0_small {b : ByteArray} (hb : b.size ≤ 1000000) : SmallN (decN0 b).2 := by
  have hz : SmallN [] := ⟨by simp, fun i hi => absurd hi (Nat.not_lt_zero _)⟩
  unfold decN0
  split
  · exact hz
  · rename_i h1
    have hc := rdContent_size (oneErr_rd (by simpa using h1))
    split
    · exact hz
    · split
      · exact hz
      · have hl := lst_length (rdContent b) _ (Nat.le_refl _)
        have hm := lst_mem _ (rdContent b) (Nat.le_refl _)
        obtain ⟨h2, h3⟩ := decRs_small (M := 1000000) (by omega) (by omega) (fun x hx => Nat.le_trans (hm x hx) (by omega))
        exact ⟨by omega, h3⟩
theorem decN_small {b : ByteArray} (hb : b.size ≤ 1000000) : SmallN (decN b).2 := by
  have hz : SmallN [] := ⟨by simp, fun i hi => absurd hi (Nat.not_lt_zero _)⟩
  unfold decN
  split
  · exact hz
  · split
    · exact hz
    · exact decN0_small hb

set_option maxRecDepth 100000 in
set_option maxHeartbeats 4000000 in
theorem decode_nm (x : ByteArray) (w : World) (hx : x.size ≤ 1000000) (hT : Tab w) (hP : Pow10 w) :
    Calls Tryz.prog 81 #[.string x] w fun e w' => ∃ v, e = .returned (.tuple #[v, .int .i64 (((decN x).1 : Nat) : Int)]) ∧ OwnV w' w.heap.size v (decN x).2 ∧ Below w.heap.size w w' := by
  obtain ⟨W0, hW0⟩ : ∃ W0, W0 = w.alloc (.cells #[.slice none 0 0] 30) := ⟨_, rfl⟩
  have hwr : w.alloc (.cells #[.slice none 0 0] 30) = W0 := hW0.symm
  have hb0 : Below w.heap.size w W0 := by rw [hW0]; exact belowNew w _
  have hq0 : W0.heap[w.heap.size]? = some (.cells #[.slice none 0 0] 30 (0, 0)) := by rw [hW0]; exact heap_alloc_new w _
  have hz : W0.heap.size = w.heap.size + 1 := by rw [hW0]; simp
  have HB0 := Lib.hid hb0
  have HQ0 := Lib.hid hq0
  have HZ := Lib.hid hz
  have HT := Lib.hid (hT.below hb0)
  have HPP := Lib.hid (decnm0_any x W0 (by omega) (hP.below hb0))
  have HSM := Lib.hid (decN0_small hx)
  obtain ⟨E, V, hEV⟩ : ∃ E V, decN x = (E, V) := ⟨_, _, rfl⟩
  have HRES := Lib.hid (show (E, V) = if (decN0 x).1 ≠ 0 then ((decN0 x).1, []) else if chkN (decN0 x).2 ≠ 0 then (chkN (decN0 x).2, []) else (0, (decN0 x).2) from hEV.symm)
  rw [hEV]
  generalize decN0 x = r at HPP HSM HRES
  obtain ⟨er, n⟩ := r
  simp only at HPP HSM HRES
  clear hEV hb0 hq0 hz hT hP hW0
  by_cases hz0 : er = 0
  case neg =>
    obtain ⟨rfl, rfl⟩ : E = er ∧ V = [] := by have := HRES.out; rw [if_pos hz0] at this; simpa using this
    have hz1 := errno_ne hz0
    have hz2 : ((E : Int) == 0) = false := by simp; omega
    clear hz0
    go_enter Tryz.func81, Tryz.ntmps81
    go_wp2_with (go_at_call 122; (with_reducible refine HPP.out.mono ?_); rintro e w1 ⟨v, rfl, ho, hb1⟩; obtain ⟨s, rfl, hs⟩ := ho; obtain ⟨av, cv, rfl, _, _⟩ := hs.lies; have hq := (hb1.block _ (one_facts HQ0.out).2.2).trans HQ0.out; have HQ := Lib.hid hq; obtain ⟨r0, g0, hlt0⟩ := one_facts hq; have HB1 := Lib.hid (below_next HB0.out hb1); clear hb1 hq hs)
    exact bodyPost_ret (nmRes rfl _ _ w _ rfl (((belowNew _ _).block _ (Array.getElem?_eq_some_iff.1 (one_set HQ.out)).1).trans (one_set HQ.out))) rfl ⟨_, rfl, ⟨_, rfl, OwnN.nil _ _⟩, below_next (HB1.out.setCell (p := ⟨w.heap.size, 0, none⟩) (Nat.le_refl _) _) (belowNew _ _)⟩
  subst hz0
  have HCK := Lib.hid (fun (av : Option Addr) (cv : Nat) W (h : RLies W av n) (hT : Tab W) => chk_core av cv n.length n W h rfl HSM.out hT)
  obtain ⟨C, hC⟩ : ∃ C, C = chkN n := ⟨_, rfl⟩
  have HRE := Lib.hid (show (E, V) = if C ≠ 0 then (C, []) else (0, n) by have := HRES.out; rw [if_neg (by simp), ← hC] at this; exact this)
  rw [← hC] at HCK
  clear HRES hC
  have hee : (((0 : Nat) : Int) == 0) = true := rfl
  by_cases hz0 : C = 0
  · obtain ⟨rfl, rfl⟩ : E = 0 ∧ V = n := by have := HRE.out; rw [if_neg (by simpa using hz0)] at this; simpa using this
    subst hz0
    go_enter Tryz.func81, Tryz.ntmps81
    go_wp2_with (first
      | (go_at_call 122; (with_reducible refine HPP.out.mono ?_); rintro e w1 ⟨v, rfl, ho, hb1⟩; obtain ⟨s, rfl, hs⟩ := ho; obtain ⟨av, cv, rfl, _, hrl⟩ := hs.lies; have HRL := Lib.hid hrl; have HOW := Lib.hid hs; have hq := (hb1.block _ (one_facts HQ0.out).2.2).trans HQ0.out; have HQ := Lib.hid hq; have HB1 := Lib.hid (below_next HB0.out hb1); have HTB := Lib.hid (HT.out.below hb1); clear hb1 hq hs hrl)
      | (go_at_call 83; (with_reducible refine (HCK.out _ _ _ (HRL.out.below (belowNew w1 _)) (HTB.out.below (belowNew w1 _))).mono ?_); rintro e w2 ⟨rfl, hb2⟩; have hq := ((below_next (belowNew w1 _) hb2).block _ (one_facts HQ.out).2.2).trans HQ.out; have HQ2 := Lib.hid hq; obtain ⟨r0, g0, hlt0⟩ := one_facts hq; have hq1 := (hb2.block _ (by simp)).trans (heap_alloc_new w1 _); obtain ⟨m0, n0, hlt1⟩ := one_facts hq1; have HB2 := Lib.hid (below_next (belowNew w1 _) hb2); clear hb2 hq hq1))
    exact bodyPost_ret (nmRes rfl _ _ w _ rfl (one_set HQ2.out)) rfl ⟨_, rfl, ⟨_, rfl, ((HOW.out.below HB2.out).but (p := w.heap.size) (But.set _ _ _ _) (by have := HZ.out; omega)).base (by have := HZ.out; omega)⟩, (below_next HB1.out HB2.out).setCell (p := ⟨w.heap.size, 0, none⟩) (Nat.le_refl _) _⟩
  · obtain ⟨rfl, rfl⟩ : E = C ∧ V = [] := by have := HRE.out; rw [if_pos hz0] at this; simpa using this
    have hz1 := errno_ne hz0
    clear hz0
    go_enter Tryz.func81, Tryz.ntmps81
    go_wp2_with (first
      | (go_at_call 122; (with_reducible refine HPP.out.mono ?_); rintro e w1 ⟨v, rfl, ho, hb1⟩; obtain ⟨s, rfl, hs⟩ := ho; obtain ⟨av, cv, rfl, _, hrl⟩ := hs.lies; have HRL := Lib.hid hrl; have hq := (hb1.block _ (one_facts HQ0.out).2.2).trans HQ0.out; have HQ := Lib.hid hq; have HB1 := Lib.hid (below_next HB0.out hb1); have HTB := Lib.hid (HT.out.below hb1); clear hb1 hq hs hrl)
      | (go_at_call 83; (with_reducible refine (HCK.out _ _ _ (HRL.out.below (belowNew w1 _)) (HTB.out.below (belowNew w1 _))).mono ?_); rintro e w2 ⟨rfl, hb2⟩; have hq := ((below_next (belowNew w1 _) hb2).block _ (one_facts HQ.out).2.2).trans HQ.out; have HQ2 := Lib.hid hq; obtain ⟨r0, g0, hlt0⟩ := one_facts hq; have HB2 := Lib.hid (below_next (belowNew w1 _) hb2); clear hb2 hq))
    exact bodyPost_ret (nmRes rfl _ _ w _ rfl (one_set HQ2.out)) rfl ⟨_, rfl, ⟨_, rfl, OwnN.nil _ _⟩, (below_next HB1.out HB2.out).setCell (p := ⟨w.heap.size, 0, none⟩) (Nat.le_refl _) _⟩
end Go.Proofs.YtflpajbcomhkpaaGreatDoor
namespace Go.Proofs.YtflpajbcomhkpaaGreatDoor
open Go.RowKit

end Go.Proofs.YtflpajbcomhkpaaGreatDoor
namespace Go.Proofs.YtflpajbcomhkpaaGreatDoor
open Go.RowKit

end Go.Proofs.YtflpajbcomhkpaaGreatDoor
namespace Go.Proofs.YtflpajbcomhkpaaGreatDoor
open Go.RowKit

end Go.Proofs.YtflpajbcomhkpaaGreatDoor
namespace Go.Proofs.YtflpajbcomhkpaaGreatDoor
open Go.RowKit

theorem dd1 {n : Nat} (h : n < 10) : Lib.decDigits n = [UInt8.ofNat (48 + n)] := Lib.decDigits_one h
theorem dd2 {n : Nat} (h1 : ¬ n < 10) (h2 : n < 100) : Lib.decDigits n = [UInt8.ofNat (48 + n / 10), UInt8.ofNat (48 + n % 10)] := Lib.decDigits_two h1 h2
theorem oid_cn : Oid [50, 46, 53, 46, 52, 46, 51] [2, 5, 4, 3] := by
  refine ⟨⟨by decide, by decide, by decide, by decide, by decide⟩, ?_⟩
  simp only [cat, fdot]
  rw [dd1 (n := 2) (by omega), dd1 (n := 5) (by omega), dd1 (n := 4) (by omega), dd1 (n := 3) (by omega)]
  rfl
theorem oid_o : Oid [50, 46, 53, 46, 52, 46, 49, 48] [2, 5, 4, 10] := by
  refine ⟨⟨by decide, by decide, by decide, by decide, by decide⟩, ?_⟩
  simp only [cat, fdot]
  rw [dd1 (n := 2) (by omega), dd1 (n := 5) (by omega), dd1 (n := 4) (by omega), dd2 (n := 10) (by omega) (by omega)]
  rfl
end Go.Proofs.YtflpajbcomhkpaaGreatDoor
namespace Go.Proofs.YtflpajbcomhkpaaGreatDoor
open Go.RowKit

/-- A name of a call's own, in block q. -/
def Held (w : World) (q lo : Nat) (n : Nm) : Prop := ∃ s, w.heap[q]? = some (.cells #[s] 30 (0, 0)) ∧ OwnN w lo s n
theorem Held.but {w w' : World} {p q lo : Nat} {n : Nm} (h : Held w q lo n) (hb : But p w w') (hq : p ≠ q) (hl : p < lo) : Held w' q lo n := by
  obtain ⟨s, h1, h2⟩ := h
  exact ⟨s, (hb.block q (Array.getElem?_eq_some_iff.1 h1).1 (by simp; omega)).trans h1, h2.but hb hl⟩
theorem deck_up {w : World} {p : Nat} {a : Option Addr} {cap : Nat} {zs : List Int} {k : Nat} (h : DeckAt w p a cap zs k) : DeckAt w.drew p a cap zs k := h.below (Below.refl _ w).drew
theorem spN_of_made {n : Nm} (h : MadeN n) : SpN 20 n := by
  refine ⟨h.1, fun r hr => ⟨(h.2 r hr).1.1, fun x hx => ?_⟩⟩
  have hm := (h.2 r hr).1.2.1 x hx
  have hall : ∀ y ∈ madeL, y.1.size ≤ 100 ∧ y.2.2.size ≤ 20 := by decide
  exact hall x hm
theorem small_of_sp {L : Nat} {n : Nm} (h : SpN L n) (hL : L ≤ 1000) : SmallN n := by
  refine ⟨Nat.le_trans h.1 (by omega), fun i hi => ?_⟩
  have hr := h.2 _ (getD_memS n i hi [])
  refine ⟨Nat.le_trans hr.1 (by omega), fun j hj => ?_⟩
  have hx := hr.2 _ (getD_memS _ j hj noAt)
  exact ⟨Nat.le_trans hx.1 (by omega), Nat.le_trans hx.2 (by omega)⟩

/-- A name that can be read: its slice lies in block q. -/
def HoldAt (V : World) (q : Nat) (a : Option Addr) (N c : Nat) (n : Nm) : Prop := V.cell? ⟨q, 0, none⟩ = some (.slice a N c) ∧ N = n.length ∧ N ≤ c ∧ RLies V a n ∧ SmallN n
theorem Held.open {w : World} {q lo L : Nat} {n : Nm} (h : Held w q lo n) (hs : SpN L n) (hL : L ≤ 1000) : ∃ a N c, HoldAt w q a N c n := by
  obtain ⟨s, h1, h2⟩ := h
  obtain ⟨a, c, rfl, hc, hl⟩ := h2.lies
  exact ⟨a, n.length, c, (one_facts h1).1, rfl, hc, hl, small_of_sp hs hL⟩
theorem HoldAt.below {w w' : World} {q N c : Nat} {a : Option Addr} {n : Nm} (h : HoldAt w q a N c n) (hb : Below w.heap.size w w') : HoldAt w' q a N c n :=
  ⟨(hb.cell (p := ⟨q, 0, none⟩) (block_lt h.1)).trans h.1, h.2.1, h.2.2.1, h.2.2.2.1.below hb, h.2.2.2.2⟩
end Go.Proofs.YtflpajbcomhkpaaGreatDoor
namespace Go.Proofs.YtflpajbcomhkpaaGreatDoor
open Go.RowKit

end Go.Proofs.YtflpajbcomhkpaaGreatDoor
namespace Go.Proofs.YtflpajbcomhkpaaGreatDoor
open Go.RowKit

end Go.Proofs.YtflpajbcomhkpaaGreatDoor
namespace Go.Proofs.YtflpajbcomhkpaaGreatDoor
open Go.RowKit

end Go.Proofs.YtflpajbcomhkpaaGreatDoor
namespace Go.Proofs.YtflpajbcomhkpaaGreatDoor
open Go.RowKit

end Go.Proofs.YtflpajbcomhkpaaGreatDoor
namespace Go.Proofs.YtflpajbcomhkpaaGreatDoor
open Go.RowKit

end Go.Proofs.YtflpajbcomhkpaaGreatDoor
namespace Go.Proofs.YtflpajbcomhkpaaGreatDoor
open Go.RowKit

theorem wrapStr_le (T : Int) (c : List UInt8) : (wrapStr T c).size ≤ c.length + 6 := by
  unfold wrapStr
  split
  · show (wrapL T.toNat c).toArray.size ≤ _
    unfold wrapL
    simp only [List.size_toArray, List.length_cons, List.length_append, lenO_length]
    have : lsz c.length ≤ 4 := by unfold lsz; split <;> (try split) <;> (try split) <;> omega
    omega
  · exact Nat.zero_le _
theorem encA_le (x : At) (h : x.2.2.size ≤ 30) : (encA x).size ≤ 103 := by
  have h1 := wrapStr_le 6 (oidS x.1).data.toList
  have h2 := wrapStr_le x.2.1 x.2.2.data.toList
  have h3 := wrapStr_le 48 ((wr1 6 (oidS x.1)).data.toList ++ (wr1 x.2.1 x.2.2).data.toList)
  have h4 := oidS_size x.1
  have e1 : (oidS x.1).data.toList.length = (oidS x.1).size := rfl
  have e2 : x.2.2.data.toList.length = x.2.2.size := rfl
  have e3 : (wr1 6 (oidS x.1)).data.toList.length = (wrapStr 6 (oidS x.1).data.toList).size := rfl
  have e4 : (wr1 x.2.1 x.2.2).data.toList.length = (wrapStr x.2.1 x.2.2.data.toList).size := rfl
  rw [List.length_append] at h3
  show (wrapStr 48 ((wr1 6 (oidS x.1)).data.toList ++ (wr1 x.2.1 x.2.2).data.toList)).size ≤ 103
  omega
theorem cat_lenM (M : Nat) : ∀ (ss : List ByteArray), (∀ s ∈ ss, s.size ≤ M) → (cat_t ss).length ≤ M * ss.length
  | [], _ => by simp [cat_t]
  | s :: r, h => by
    have h1 : s.data.toList.length ≤ M := h s List.mem_cons_self
    have h2 := cat_lenM M r (fun x hx => h x (List.mem_cons_of_mem _ hx))
    have e : cat_t (s :: r) = s.data.toList ++ cat_t r := rfl
    rw [e, List.length_append, List.length_cons, Nat.mul_succ]
    omega
theorem lists_flat : ∀ (ss : List ByteArray), (lists ss).flatten.length = (cat_t ss).length
  | [] => rfl
  | s :: r => by
    have e : cat_t (s :: r) = s.data.toList ++ cat_t r := rfl
    have e2 : (lists (s :: r)).flatten = s.data.toList ++ (lists r).flatten := rfl
    rw [e, e2, List.length_append, List.length_append, lists_flat r]
theorem encR_le {r : List At} (hl : r.length ≤ 2) (h : ∀ x ∈ r, x.2.2.size ≤ 30) : (encR r).size ≤ 212 := by
  have h1 := wrapStr_le 49 (ordL (lists (r.map encA))).flatten
  rw [ordL_flat_length, lists_flat] at h1
  have h2 := cat_lenM 103 (r.map encA) (fun s hs => by obtain ⟨a, ha, rfl⟩ := List.mem_map.1 hs; exact encA_le a (h a ha))
  rw [List.length_map] at h2
  show (wrapStr 49 (ordL (lists (r.map encA))).flatten).size ≤ 212
  omega
theorem encV_le {n : Nm} (h : SpN 20 n) : (encV n).size ≤ 650 := by
  unfold encV
  split
  · have h1 := wrapStr_le 48 (cat_t (n.map encR))
    have h2 := cat_lenM 212 (n.map encR) (fun s hs => by obtain ⟨a, ha, rfl⟩ := List.mem_map.1 hs; exact encR_le (h.2 a ha).1 (fun x hx => Nat.le_trans ((h.2 a ha).2 x hx).2 (by omega)))
    rw [List.length_map] at h2
    have := h.1
    show (wrapStr 48 (cat_t (n.map encR))).size ≤ 650
    omega
  · exact Nat.zero_le _
end Go.Proofs.YtflpajbcomhkpaaGreatDoor
namespace Go.Proofs.YtflpajbcomhkpaaGreatDoor
open Go.RowKit

theorem rd_cases {b : ByteArray} (h : rdErr b = 0) : b.size ≠ 0 ∧ u8at b 0 % 32 ≠ 31 ∧ (lnAt b 1).2.2 = 0 ∧ 1 + (lnAt b 1).2.1 + (lnAt b 1).1 ≤ b.size ∧ rd b = (0, 1 + (lnAt b 1).2.1, (lnAt b 1).1) := by
  unfold rdErr rd at h
  unfold rd
  by_cases h0 : b.size = 0
  · rw [if_pos h0] at h; cases h
  · rw [if_neg h0] at h ⊢
    by_cases h1 : u8at b 0 % 32 = 31
    · rw [if_pos h1] at h; cases h
    · rw [if_neg h1] at h ⊢
      by_cases h2 : (lnAt b 1).2.2 = 0
      · rw [if_neg (fun x => x h2)] at h ⊢
        by_cases h3 : b.size < 1 + (lnAt b 1).2.1 + (lnAt b 1).1
        · rw [if_pos h3] at h; cases h
        · rw [if_neg h3]
          exact ⟨h0, h1, h2, by omega, rfl⟩
      · rw [if_pos h2] at h; exact absurd h h2
theorem rd_mk {b : ByteArray} (h0 : b.size ≠ 0) (h1 : u8at b 0 % 32 ≠ 31) (h2 : (lnAt b 1).2.2 = 0) (h3 : 1 + (lnAt b 1).2.1 + (lnAt b 1).1 ≤ b.size) : rd b = (0, 1 + (lnAt b 1).2.1, (lnAt b 1).1) := by
  unfold rd
  rw [if_neg h0, if_neg h1, if_neg (fun x => x h2), if_neg (by omega)]
theorem oneErr_size {b : ByteArray} (h : oneErr b = 0) : (rd b).2.1 + (rd b).2.2 = b.size := by
  have h1 := oneErr_rd h
  obtain ⟨_, _, h2, _, _⟩ := rd_ok h1
  unfold oneErr at h
  rw [if_neg (fun x => x h1)] at h
  by_cases h3 : (rdRest b).size = 0
  · unfold rdRest at h3
    rw [ByteArray.size_extract] at h3
    omega
  · rw [if_pos h3] at h; cases h
end Go.Proofs.YtflpajbcomhkpaaGreatDoor
