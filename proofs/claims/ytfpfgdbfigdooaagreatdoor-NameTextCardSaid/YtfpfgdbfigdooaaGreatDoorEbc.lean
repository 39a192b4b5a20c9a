/-
  The contract of decodeRelative: the attributes of an element, or the first error.
  The contract of certpathmade's Rewrap.
-/
import Derived.Test.YtfpfgdbfigdooaaGreatDoorEbb
import Derived.Test.YtfpfgdbfigdooaaGreatDoorEay
namespace Go.Proofs.YtfpfgdbfigdooaaGreatDoor
open Go.RowKit

/-- What was read so far, ahead of what is left. -/
def aheadA {β : Type} (D : List β) (p : Nat × List β) : Nat × List β := if p.1 ≠ 0 then (p.1, []) else (0, D ++ p.2)
theorem aheadA_nil {β : Type} {p : Nat × List β} (h : p.1 ≠ 0 → p.2 = []) : aheadA [] p = p := by
  obtain ⟨e, r⟩ := p
  unfold aheadA
  by_cases he : e = 0
  · subst he; simp
  · have h2 := h he
    simp only at h2
    subst h2
    simp [he]
theorem decAs_err : ∀ {l : List El}, (decAs l).1 ≠ 0 → (decAs l).2 = []
  | [], h => absurd rfl h
  | e :: r, h => by
    unfold decAs at h ⊢
    by_cases h1 : (decA e).1 ≠ 0
    · rw [if_pos h1]
    · rw [if_neg h1] at h ⊢
      by_cases h2 : (decAs r).1 ≠ 0
      · rw [if_pos h2]
      · rw [if_neg h2] at h; exact absurd rfl h
abbrev noEle : El := (0, ⟨#[]⟩, ⟨#[]⟩)
theorem decAs_step {l : List El} {k : Nat} (h : k < l.length) (h0 : (decA (l.getD k noEle)).1 = 0) (D : List At) : aheadA D (decAs (l.drop k)) = aheadA (D ++ [(decA (l.getD k noEle)).2]) (decAs (l.drop (k + 1))) := by
  rw [dropD l k h noEle]
  show aheadA D (if (decA (l.getD k noEle)).1 ≠ 0 then _ else _) = _
  rw [if_neg (by simpa using h0)]
  by_cases h2 : (decAs (l.drop (k + 1))).1 ≠ 0
  · rw [if_pos h2]; unfold aheadA; rw [if_pos h2, if_pos h2]
  · rw [if_neg h2]; unfold aheadA; rw [if_neg (by simp), if_neg h2]; simp
theorem decAs_bad {l : List El} {k : Nat} (h : k < l.length) (h0 : (decA (l.getD k noEle)).1 ≠ 0) (D : List At) : aheadA D (decAs (l.drop k)) = ((decA (l.getD k noEle)).1, []) := by
  rw [dropD l k h noEle]
  show aheadA D (if (decA (l.getD k noEle)).1 ≠ 0 then _ else _) = _
  rw [if_pos h0]; unfold aheadA; rw [if_pos h0]
theorem decAs_end {l : List El} {k : Nat} (h : l.length ≤ k) (D : List At) : aheadA D (decAs (l.drop k)) = (0, D) := by
  rw [List.drop_eq_nil_of_le h]; simp [aheadA, decAs]

/-! ### A row of attributes that is filled one by one -/
def rowA (n : Nat) (L : List At) : Array Value := (atsCells (L ++ List.replicate (n - L.length) noAt)).toArray
theorem set_mid {α : Type} (A B : List α) (x y : α) (k : Nat) (h : k = A.length) : (A ++ x :: B).set k y = A ++ y :: B := by subst h; simp
theorem rowA_snoc (n : Nat) (L : List At) (a : At) (k : Nat) (hk : k = L.length) (h : k < n) :
    (((rowA n L).setIfInBounds (k * 3) (.string a.1)).setIfInBounds (k * 3 + 1) (.int .i64 a.2.1)).setIfInBounds (k * 3 + 2) (.string a.2.2) = rowA n (L ++ [a]) := by
  obtain ⟨m, hm⟩ : ∃ m, n - L.length = m + 1 := ⟨n - L.length - 1, by omega⟩
  have hm2 : n - (L ++ [a]).length = m := by simp; omega
  have e1 : atsCells (L ++ List.replicate (n - L.length) noAt) = atsCells L ++ (.string ⟨#[]⟩ :: .int .i64 0 :: .string ⟨#[]⟩ :: atsCells (List.replicate m noAt)) := by
    rw [hm, List.replicate_succ, atsCells_append]; rfl
  have e2 : atsCells ((L ++ [a]) ++ List.replicate (n - (L ++ [a]).length) noAt) = atsCells L ++ (.string a.1 :: .int .i64 a.2.1 :: .string a.2.2 :: atsCells (List.replicate m noAt)) := by
    rw [hm2, atsCells_append, atsCells_append, List.append_assoc]; rfl
  have hl : k * 3 = (atsCells L).length := by rw [atsCells_length, hk]
  unfold rowA
  rw [e1, e2]
  simp only [List.setIfInBounds_toArray]
  congr 1
  rw [set_mid _ _ _ _ _ hl]
  have h2 := set_mid (atsCells L ++ [.string a.1]) (.string ⟨#[]⟩ :: atsCells (List.replicate m noAt)) (Value.int .i64 0) (.int .i64 a.2.1) (k * 3 + 1) (by simp [hl])
  simp only [List.append_assoc, List.singleton_append] at h2
  rw [h2]
  have h3 := set_mid (atsCells L ++ [.string a.1, .int .i64 a.2.1]) (atsCells (List.replicate m noAt)) (Value.string ⟨#[]⟩) (.string a.2.2) (k * 3 + 2) (by simp [hl])
  simpa using h3
theorem rowA_size (n : Nat) (L : List At) (h : L.length ≤ n) : (rowA n L).size = n * 3 := by
  unfold rowA
  rw [List.size_toArray, atsCells_length]
  simp; omega
theorem rowA_put {w : World} {g n k : Nat} {L : List At} {a : At} {T : TypeId} (h : w.heap[g]? = some (.cells (rowA n L) T (0, 0))) (hk : k = L.length) (hn : k < n) :
    (((w.setCell ⟨g, k * 3, none⟩ (.string a.1)).setCell ⟨g, k * 3 + 1, none⟩ (.int .i64 a.2.1)).setCell ⟨g, k * 3 + 2, none⟩ (.string a.2.2)).heap[g]? = some (.cells (rowA n (L ++ [a])) T (0, 0)) := by
  rw [← rowA_snoc n L a k hk hn]
  simp [World.setCell, Array.getElem?_modify, h]
theorem rowA_cells {w : World} {g n k : Nat} {L : List At} {T : TypeId} (h : w.heap[g]? = some (.cells (rowA n L) T (0, 0))) (hl : L.length ≤ n) (hn : k < n) (j : Nat) (hj : j < 3) : (∃ v, w.cell? ⟨g, k * 3 + j, none⟩ = some v) ∧ w.frozen? ⟨g, k * 3 + j, none⟩ = false := by
  refine ⟨⟨(rowA n L)[k * 3 + j]'(by rw [rowA_size n L hl]; omega), ?_⟩, Lib.frozen_of_heap h _⟩
  rw [Lib.cell_of_heap h, Array.getElem?_eq_getElem]
theorem ats_make (n : Nat) (hn : n ≤ 1099511627) (W : World) : (Instr.makeSlice 33 (.int .i64 (n : Int)) (.int .i64 (n : Int))).run Tryz.prog W = .ok (.slice (some ⟨W.heap.size, 0, none⟩) n n) (W.alloc (.cells (rowA n []) 27)) := by
  obtain ⟨i0, hi, hz0, hz1, hz2⟩ := info_parts atInfo
  have hr := run_make (P := Tryz.prog) W 33 27 i0 (.agg #[.string ⟨#[]⟩, .int .i64 0, .string ⟨#[]⟩]) Tryz.underlying33 hi hz0 .i64 .i64 (n : Int) (n : Int) (by omega) (Int.le_refl _) (by rw [hz2]; omega) (by omega)
  rw [hr]
  have e2 : madeCells (Value.agg #[.string ⟨#[]⟩, .int .i64 0, .string ⟨#[]⟩]).cells ((n : Int).toNat * i0.size) = rowA n [] := by
    rw [hz1]
    apply Array.ext
    · rw [rowA_size n [] (by simp)]; simp [madeCells]
    · intro i h1 h2
      rw [rowA_size n [] (by simp)] at h2
      have e : i = i / 3 * 3 + i % 3 := by omega
      have hc := ats_at (List.replicate n noAt) (i / 3) (by simp; omega) (i % 3) (by omega)
      have hc2 : (rowA n [])[i]? = (atCells noAt)[i % 3]? := by
        unfold rowA
        rw [List.getElem?_toArray]
        have : ([] : List At) ++ List.replicate (n - ([] : List At).length) noAt = List.replicate n noAt := by simp
        rw [this]
        conv => lhs; rw [e]
        rw [hc, List.getD_eq_getElem?_getD, List.getElem?_replicate]
        split <;> rfl
      have h3 : i % 3 < 3 := by omega
      rw [Array.getElem?_eq_getElem (by rw [rowA_size n [] (by simp)]; exact h2)] at hc2
      simp only [madeCells, Value.cells]
      rcases (by omega : i % 3 = 0 ∨ i % 3 = 1 ∨ i % 3 = 2) with h | h | h <;> rw [h] at hc2 <;> simp [h] <;> exact (Option.some.inj hc2).symm
  rw [e2]
  simp
theorem rowA_own {w : World} {B g n : Nat} {L : List At} (h : w.heap[g]? = some (.cells (rowA n L) 27 (0, 0))) (hB : B ≤ g) (hl : L.length = n) (hn : n ≤ 1099511627) : OwnA w B (.slice (some ⟨g, 0, none⟩) n n) L := by
  subst hl
  have e : rowA L.length L = (atsCells L).toArray := by unfold rowA; simp
  rw [e] at h
  refine ⟨atsCells_length L, .inr ⟨g, L.length, _, rfl, hB, h, Nat.le_refl _, ?_, ?_, ?_⟩⟩
  · unfold maxLen; omega
  · rw [List.size_toArray, atsCells_length]
  · exact List.take_of_length_le (by simp [atsCells_length])
end Go.Proofs.YtfpfgdbfigdooaaGreatDoor
namespace Go.Proofs.YtfpfgdbfigdooaaGreatDoor
open Go.RowKit

theorem rdContent_two {b : ByteArray} (h : rdErr b = 0) : (rdContent b).size + 2 ≤ b.size := by
  obtain ⟨h1, _, h2, _, _⟩ := rd_ok h
  unfold rdContent
  rw [ByteArray.size_extract]
  omega
theorem lst_raw : ∀ (n : Nat) (b : ByteArray), b.size ≤ n → ∀ e ∈ (lst b).1, e.2.2.size ≤ b.size
  | 0, b, h, e, he => by rw [lst_nil (by omega)] at he; cases he
  | n + 1, b, h, e, he => by
    by_cases h0 : b.size = 0
    · rw [lst_nil h0] at he; cases he
    · by_cases hr : rdErr b = 0
      · rw [lst_step h0 hr] at he
        have h1 := rdRest_size hr
        split at he
        · rcases List.mem_cons.1 he with rfl | he
          · show (rdRaw b).size ≤ b.size
            unfold rdRaw
            rw [ByteArray.size_extract]; omega
          · have := lst_raw n (rdRest b) (by omega) e he
            omega
        · cases he
      · rw [lst_bad h0 hr] at he; cases he
def Rewraps (N : Nat) : Prop := ∀ (p : Nat) (a : Option Addr) (cap : Nat) (zs : List Int) (k : Nat) (s : ByteArray) (w : World), s.size ≤ N → DeckAt w p a cap zs k → k + s.size ≤ 970 →
    Calls Tryz.prog 19 #[.pointer (some ⟨p, 0, none⟩), .string s] w fun e w' => ∃ (u : ByteArray) (k' : Nat), e = .returned (.string u) ∧ u.size ≤ s.size + 131080 ∧ DeckAt w' p a cap zs k' ∧ k' ≤ k + s.size + 6 ∧ But p w w'
set_option maxRecDepth 100000 in
set_option maxHeartbeats 4000000 in
theorem rewrap_step (N : Nat) (IH : N ≠ 0 → Rewraps (N - 1)) : Rewraps N := by
  unfold Rewraps at IH
  intro p a cap zs k s w hN h hk
  have HD := Lib.hid h
  have HS := Lib.hid hk
  have HIH := Lib.hid IH
  have hp := h.lt
  have HRP := Lib.hid (fun k s w h h1 h2 => replaced_any p a cap zs k s w h h1 h2)
  have HON := Lib.hid (rone_any s w (by omega))
  unfold oneVal at HON
  clear h IH
  go_enter Tryz.func19, Tryz.ntmps19
  go_wp2_with fail
  by_cases h1 : oneErr s = 0
  case neg =>
    rw [if_neg h1] at HON
    have hz1 := errno_ne h1
    unfold noEl at HON
    clear h1
    refine HON.out.mono ?_
    rintro e w1 ⟨rfl, hb1⟩
    have HB1 := Lib.hid (below_next hb1 (belowNew w1 (.cells #[.int .i64 0, .string ⟨#[]⟩, .string ⟨#[]⟩] 63)))
    clear hb1
    go_wp2_with (go_at_call 40; (with_reducible refine (HRP.out k s _ (HD.out.below HB1.out) (by have := HS.out; omega) (by have := HS.out; omega)).mono ?_); rintro e w5 ⟨u, k5, rfl, hu, hd5, hk5, hb5⟩; have HD5 := Lib.hid hd5; have HB5 := Lib.hid hb5; clear hb5 hd5)
    go_ret
    exact ⟨_, _, rfl, hu, HD5.out, by omega, (But.of HB1.out).next HB5.out⟩
  rw [if_pos h1] at HON
  unfold elV at HON
  have hrc := rdContent_two (oneErr_rd h1)
  generalize rdTag s = t at HON
  generalize rdContent s = ct at HON hrc
  generalize rdRaw s = rw0 at HON
  have HLS := Lib.hid (fun W => rlist_any ct W (by omega))
  have HRAW := Lib.hid (fun z (hz : z ∈ (lst ct).1) => lst_raw _ ct (Nat.le_refl _) z hz)
  have hlen := lst_length ct _ (Nat.le_refl _)
  generalize lst ct = LE at HLS HRAW hlen
  obtain ⟨l, er⟩ := LE
  simp only at HLS HRAW hlen
  clear h1
  refine HON.out.mono ?_
  rintro e w1 ⟨rfl, hb1⟩
  obtain ⟨g, hg⟩ : ∃ g, g = w1.heap.size := ⟨_, rfl⟩
  obtain ⟨W1, hW1⟩ : ∃ W1, W1 = w1.alloc (.cells #[.int .i64 ((t : Nat) : Int), .string ct, .string rw0] 63) := ⟨_, rfl⟩
  have hbb : Below w1.heap.size w1 W1 := by rw [hW1]; exact belowNew w1 _
  have q0 : W1.heap[g]? = some (.cells #[.int .i64 ((t : Nat) : Int), .string ct, .string rw0] 63 (0, 0)) := by rw [hW1, hg]; exact heap_alloc_new w1 _
  obtain ⟨e0, e1, e2, _, _, _, el⟩ := at_facts q0
  have HQ := Lib.hid q0
  have HB1 := Lib.hid (below_next hb1 hbb)
  have HD1 := Lib.hid (HD.out.below HB1.out)
  have hpg : p < g := by have := hb1.size; omega
  have HG := Lib.hid hg
  have HWE1 := Lib.hid hW1.symm
  clear hb1 hbb hW1 hg q0
  go_upto_region 2 with fail
  rw [HWE1.out, ← HG.out]
  go_wp2_with (go_at_call 40; (with_reducible refine (HRP.out k s _ HD1.out (by have := HS.out; omega) (by have := HS.out; omega)).mono ?_); rintro e w5 ⟨u, k5, rfl, hu, hd5, hk5, hb5⟩; have HD5 := Lib.hid hd5; have HB5 := Lib.hid hb5; clear hb5 hd5)
  · go_ret
    exact ⟨_, _, rfl, hu, HD5.out, by omega, (But.of HB1.out).next HB5.out⟩
  refine (HLS.out W1).mono ?_
  rintro e w2 ⟨v2, rfl, ho2, hb2⟩
  obtain ⟨a2, c2, rfl, hlc, hel, _⟩ := ElAt.of ho2
  obtain ⟨m, hm⟩ : ∃ m, m = l.length := ⟨_, rfl⟩
  rw [← hm] at hlc hlen ⊢
  have HM := Lib.hid hm
  have HEL := Lib.hid hel
  have HB2 := Lib.hid (below_next HB1.out hb2)
  have HD2 := Lib.hid (HD1.out.below hb2)
  have hq2 := (hb2.block g el).trans HQ.out
  have HQ2 := Lib.hid hq2
  obtain ⟨f0, f1, f2, _, _, _, fl⟩ := at_facts hq2
  clear ho2 hel hm hb2 hq2 e0 e1 e2 el
  by_cases hz : er = 0
  case neg =>
    have hzz := errno_ne hz
    clear hz
    go_wp2_with (go_at_call 40; (with_reducible refine (HRP.out k s _ HD2.out (by have := HS.out; omega) (by have := HS.out; omega)).mono ?_); rintro e w5 ⟨u, k5, rfl, hu, hd5, hk5, hb5⟩; have HD5 := Lib.hid hd5; have HB5 := Lib.hid hb5; clear hb5 hd5)
    go_ret
    exact ⟨_, _, rfl, hu, HD5.out, by omega, (But.of HB2.out).next HB5.out⟩
  subst hz
  by_cases hm0 : m = 0
  · subst hm0
    go_wp2_with (go_at_call 40; (with_reducible refine (HRP.out k s _ HD2.out (by have := HS.out; omega) (by have := HS.out; omega)).mono ?_); rintro e w5 ⟨u, k5, rfl, hu, hd5, hk5, hb5⟩; have HD5 := Lib.hid hd5; have HB5 := Lib.hid hb5; clear hb5 hd5)
    go_ret
    exact ⟨_, _, rfl, hu, HD5.out, by omega, (But.of HB2.out).next HB5.out⟩
  have hme : ((m : Int) == 0) = false := by simp; omega
  go_wp2_with (first
    | (go_at_call 12; (with_reducible refine (next_intN p a cap zs k m (m : Int) _ HD2.out (by have := HS.out; omega) (by omega) (by omega) rfl).mono ?_); rintro e w3 ⟨r3, k3, hr3, rfl, hd3, hk3, hb3⟩; have HD3 := Lib.hid hd3; have HK3 := Lib.hid hk3; have HB3 := Lib.hid hb3; clear hd3 hk3 hb3)
    | (go_at_call 12; (with_reducible refine (next_intN p a cap zs k3 8 8 _ HD3.out (by have := HK3.out; have := HS.out; omega) (by omega) (by omega) rfl).mono ?_); rintro e w4 ⟨r4, k4, hr4, rfl, hd4, hk4, hb4⟩; have HD4 := Lib.hid hd4; have HK4 := Lib.hid hk4; have HB4 := Lib.hid hb4; clear hd4 hk4 hb4))
  have hB24 : But p w2 w4 := HB3.out.next HB4.out
  have HQ4 := Lib.hid ((hB24.block g fl (by simp; omega)).trans HQ2.out)
  have HEL4 := Lib.hid (show ElAt w4 a2 l from HEL.out.but hB24 (fun x hx hl => by have := (‹∀ (x : Addr), a2 = some x → l ≠ [] → W1.heap.size ≤ x.block ∧ x.block < w2.heap.size› x hx hl).1; have := HQ.out; have := (Array.getElem?_eq_some_iff.1 HQ.out).1; omega))
  have HB4' := Lib.hid (show But p w w4 from (But.of HB2.out).next hB24)
  have HKK := Lib.hid (show k4 ≤ k + 2 by have := HK3.out; have := HK4.out; omega)
  have hp4 : p < w4.heap.size := HD4.out.lt
  clear f0 f1 f2 fl hB24
  go_loopw [9, 54] (fun c i wr => ∃ (j kk : Nat) (C : ByteArray), j ≤ m ∧ c = .string C ∧ i = .int .i64 (j : Int) ∧ C.size ≤ j * 140000 ∧ DeckAt wr p a cap zs kk ∧ (j ≤ r3 → kk ≤ k + 2) ∧ kk ≤ k + s.size + 6 ∧ But p w4 wr) (fun _ i _ => m - (intOf i).toNat)
  case atStart => exact ⟨0, k4, ⟨#[]⟩, Nat.zero_le _, rfl, rfl, Nat.zero_le _, HD4.out, fun _ => HKK.out, by have := HKK.out; omega, But.refl _ _⟩
  case round =>
    obtain ⟨wo, hwo⟩ : ∃ wo, wo = wr := ⟨_, rfl⟩
    subst hwo
    obtain ⟨j, kk, C, hj, rfl, rfl, hC, hdk, hkr, hkk, hb⟩ := hrel
    have HDK := Lib.hid hdk
    have HKR := Lib.hid hkr
    have HCZ := Lib.hid hC
    have HB := Lib.hid hb
    have HKT := Lib.hid hkk
    have hq := (hb.block g (Array.getElem?_eq_some_iff.1 HQ4.out).1 (by simp; omega)).trans HQ4.out
    have HQ5 := Lib.hid hq
    obtain ⟨f0, f1, f2, _, _, _, fl⟩ := at_facts hq
    clear hC hdk hkr hkk hb hq
    by_cases hlt : j < m
    · have hd : decide ((j : Int) < (m : Int)) = true := by simp; omega
      obtain ⟨b, o, rfl, hcl⟩ := HEL4.out.resolve_left (fun e => by have := HM.out; rw [e] at this; simp at this; omega)
      obtain ⟨x0, x1, x2⟩ := hcl j (by rw [← HM.out]; exact hlt)
      have hbp : b ≠ p := by
        have := (‹∀ (x : Addr), some (⟨b, o, none⟩ : Addr) = some x → l ≠ [] → W1.heap.size ≤ x.block ∧ x.block < w2.heap.size› _ rfl (fun e => by have := HM.out; rw [e] at this; simp at this; omega)).1
        have := (Array.getElem?_eq_some_iff.1 HQ.out).1
        simp at *
        omega
      have c0 := HB.out.cell x0 (by simpa using hbp)
      have c1 := HB.out.cell x1 (by simpa using hbp)
      have c2' := HB.out.cell x2 (by simpa using hbp)
      have hki : (j : Int) < (m : Int) := by omega
      have hmz := HRAW.out (l.getD j noEle) (by rw [List.getD_eq_getElem?_getD, List.getElem?_eq_getElem (by rw [← HM.out]; exact hlt)]; exact List.getElem_mem _)
      rw [show ((0 : Nat), (⟨#[]⟩ : ByteArray), (⟨#[]⟩ : ByteArray)) = noEle from rfl] at c0 c1 c2'
      generalize l.getD j noEle = y at c0 c1 c2' hmz
      obtain ⟨yt, yc, yr⟩ := y
      simp only at c0 c1 c2' hmz
      have HMZ := Lib.hid (show yr.size + 2 ≤ s.size by omega)
      have HSN := Lib.hid hN
      obtain ⟨q, hq⟩ : ∃ q, q = wo.heap.size := ⟨_, rfl⟩
      obtain ⟨W5, hW5⟩ : ∃ W5, W5 = wo.alloc (.cells #[.int .i64 ((yt : Nat) : Int), .string yc, .string yr] 63) := ⟨_, rfl⟩
      have hb5 : Below wo.heap.size wo W5 := by rw [hW5]; exact belowNew wo _
      obtain ⟨t0, t1, t2, _, _, _, tl⟩ := at_facts (show W5.heap[q]? = _ from by rw [hW5, hq]; exact heap_alloc_new wo _)
      have HD5 := Lib.hid (HDK.out.below hb5)
      have HB5 := Lib.hid (HB.out.next (But.of hb5))
      have HWE5 := Lib.hid hW5.symm
      have HQQ := Lib.hid hq
      clear hcl x0 x1 x2 hmz hq hW5 hb5 f0 f1 f2 fl hbp
      go_upto_region 14 with fail
      rw [HWE5.out, ← HQQ.out]
      clear c0 c1 c2'
      have hCz : C.size ≤ 136000000 := by have := HCZ.out; have := HS.out; omega
      have hyz : yr.size ≤ 1000 := by have := HMZ.out; have := HS.out; omega
      by_cases hjr : j = r3
      · have hne : ((j : Int) != (r3 : Int)) = false := by simp; omega
        have HKJ := Lib.hid (HKR.out (by omega))
        go_wp2_with (first
          | (go_at_call 40; (with_reducible refine (HRP.out kk yr _ HD5.out (by have := HKJ.out; have := HS.out; omega) (by have := HMZ.out; have := HS.out; omega)).mono ?_); rintro e w7 ⟨u, k7, rfl, hu, hd7, hk7, hb7⟩; have hu9 : u.size ≤ 133000 := (by omega); have HD7 := Lib.hid hd7; have HK7 := Lib.hid hk7; have HB7 := Lib.hid hb7; clear hu hb7 hd7 hk7)
          | (go_at_call 19; (with_reducible refine (HIH.out (by have := HMZ.out; have := HSN.out; omega) p a cap zs kk yr _ (by have := HMZ.out; have := HSN.out; omega) HD5.out (by have := HKJ.out; have := HMZ.out; have := HS.out; omega)).mono ?_); rintro e w7 ⟨u, k7, rfl, hu, hd7, hk7, hb7⟩; have hu9 : u.size ≤ 133000 := (by omega); have HD7 := Lib.hid hd7; have HK7 := Lib.hid hk7; have HB7 := Lib.hid hb7; clear hu hb7 hd7 hk7))
        · go_roundw
          case rel => exact ⟨j + 1, kk, C ++ (yr ++ yr), by omega, rfl, by go_num, by rw [ByteArray.size_append, ByteArray.size_append]; have := HCZ.out; omega, HD5.out, fun h => absurd h (by omega), HKT.out, HB5.out⟩
          case measure => simp [intOf]; omega
        · go_roundw
          case rel => exact ⟨j + 1, kk, C, by omega, rfl, by go_num, Nat.le_trans HCZ.out (Nat.mul_le_mul_right _ (Nat.le_succ j)), HD5.out, fun h => absurd h (by omega), HKT.out, HB5.out⟩
          case measure => simp [intOf]; omega
        · go_roundw
          case rel => exact ⟨j + 1, k7, C ++ u, by omega, rfl, by go_num, by rw [ByteArray.size_append]; have := HCZ.out; omega, HD7.out, fun h => absurd h (by omega), by have := HK7.out; have := HKJ.out; omega, HB5.out.next HB7.out⟩
          case measure => simp [intOf]; omega
        · go_roundw
          case rel => exact ⟨j + 1, k7, C ++ u, by omega, rfl, by go_num, by rw [ByteArray.size_append]; have := HCZ.out; omega, HD7.out, fun h => absurd h (by omega), by have := HK7.out; have := HKJ.out; have := HMZ.out; omega, HB5.out.next HB7.out⟩
          case measure => simp [intOf]; omega
      · have hne : ((j : Int) != (r3 : Int)) = true := by simp; omega
        go_wp2_with fail
        go_roundw
        case rel => exact ⟨j + 1, kk, C ++ yr, by omega, rfl, by go_num, by rw [ByteArray.size_append]; have := HCZ.out; have := HMZ.out; have := HS.out; omega, HD5.out, fun h => HKR.out (by omega), HKT.out, HB5.out⟩
        case measure => simp [intOf]; omega
    · have hd : decide ((j : Int) < (m : Int)) = false := by simp; omega
      have HW := Lib.hid (fun T g W h => rw1 T g C W h (by have := HCZ.out; have := HS.out; omega))
      go_wp2_with (go_at_call 34; (with_reducible refine (HW.out _ _ _ (bx1 _ _ _)).mono ?_); rintro e w8 ⟨rfl, hb8⟩; have HB8 := Lib.hid hb8; clear hb8)
      go_ret
      exact ⟨_, _, rfl, Nat.le_trans (wr1_size _ _) (by omega), (HDK.out.below (belowNew _ _)).below HB8.out, HKT.out, ((HB4'.out.next HB.out).next (But.of (belowNew _ _))).next (But.of HB8.out)⟩
theorem rewrap_all : ∀ N, Rewraps N
  | 0 => rewrap_step 0 (fun h => absurd rfl h)
  | N + 1 => rewrap_step (N + 1) (fun _ => rewrap_all N)
theorem rewrap_any (p : Nat) (a : Option Addr) (cap : Nat) (zs : List Int) (k : Nat) (s : ByteArray) (w : World) (h : DeckAt w p a cap zs k) (hk : k + s.size ≤ 970) :
    Calls Tryz.prog 19 #[.pointer (some ⟨p, 0, none⟩), .string s] w fun e w' => ∃ (u : ByteArray) (k' : Nat), e = .returned (.string u) ∧ u.size ≤ s.size + 131080 ∧ DeckAt w' p a cap zs k' ∧ k' ≤ k + s.size + 6 ∧ But p w w' :=
  rewrap_all s.size p a cap zs k s w (Nat.le_refl _) h hk
end Go.Proofs.YtfpfgdbfigdooaaGreatDoor
