/-
  The contract of certpathmade's Rewrap.
  Nothing is left of this text.
  Nothing is left of this text.
  The contracts of the reference's Split and short: the pieces of a text; the short types and their object identifiers.
  The contracts of the reference's attributes and EncodeName: the same element.
  Nothing is left of this text.
  Nothing is left of this text.
  What is accepted is what is written: an element that is read depends on its own bytes alone, and is what Wrap writes for its parts; what Wrap writes is read. Nothing is claimed of the program here.
  What is accepted is what is written, as lists of bytes. Nothing is claimed of the program here.
-/
import Derived.Test.YtpmlkofceidnjaaDoorAan
import Derived.Test.YtpmlkofceidnjaaDoorAaf
import Derived.Test.YtpmlkofceidnjaaDoorAae
import Derived.Test.YtpmlkofceidnjaaDoorAam
import Derived.Test.YtpmlkofceidnjaaDoorAag
import Derived.Test.YtpmlkofceidnjaaDoorAal
namespace Go.Proofs.YtpmlkofceidnjaaDoor
open Go.RowKit

theorem rdContent_two {b : ByteArray} (h : rdErr b = 0) : (rdContent b).size + 2 ≤ b.size := by
  obtain ⟨h1, _, h2, _, _⟩ := rd_ok h
  unfold rdContent
  rw [ByteArray.size_extract]
  omega
theorem lst_raw : ∀ (n : Nat) (b : ByteArray), b.size ≤ n → ∀ e ∈ (lst b).1, e.2.2.size ≤ b.size
  | 0, b, h, e, he => by rw [lst_nil (by omega)] at he; cases he
  | n + 1, b, h, e, he => by
    by_cases h0 : b.size = 0
    · rw [lst_nil h0] at he; cases he
    · by_cases hr : rdErr b = 0
      · rw [lst_step h0 hr] at he
        have h1 := rdRest_size hr
        split at he
        · rcases List.mem_cons.1 he with rfl | he
          · show (rdRaw b).size ≤ b.size
            unfold rdRaw
            rw [ByteArray.size_extract]; omega
          · have := lst_raw n (rdRest b) (by omega) e he
            omega
        · cases he
      · rw [lst_bad h0 hr] at he; cases he
def Rewraps (N : Nat) : Prop := ∀ (p : Nat) (a : Option Addr) (cap : Nat) (zs : List Int) (k : Nat) (s : ByteArray) (w : World), s.size ≤ N → DeckAt w p a cap zs k → k + s.size ≤ 29970 →
    Calls Tryd.prog 8 #[.pointer (some ⟨p, 0, none⟩), .string s] w fun e w' => ∃ (u : ByteArray) (k' : Nat), e = .returned (.string u) ∧ u.size ≤ s.size + 131080 ∧ DeckAt w' p a cap zs k' ∧ k' ≤ k + s.size + 6 ∧ But p w w'
set_option maxRecDepth 100000 in
set_option maxHeartbeats 4000000 in
theorem rewrap_step (N : Nat) (IH : N ≠ 0 → Rewraps (N - 1)) : Rewraps N := by
  unfold Rewraps at IH
  intro p a cap zs k s w hN h hk
  have HD := Lib.hid h
  have HS := Lib.hid hk
  have HIH := Lib.hid IH
  have hp := h.lt
  have HRP := Lib.hid (fun k s w h h1 h2 => replaced_any p a cap zs k s w h h1 h2)
  have HON := Lib.hid (rone_any s w (by omega))
  unfold oneVal at HON
  clear h IH
  go_enter Tryd.func8, Tryd.ntmps8
  go_wp2_with fail
  by_cases h1 : oneErr s = 0
  case neg =>
    rw [if_neg h1] at HON
    have hz1 := errno_ne h1
    unfold noEl at HON
    clear h1
    refine HON.out.mono ?_
    rintro e w1 ⟨rfl, hb1⟩
    have HB1 := Lib.hid (below_next hb1 (belowNew w1 (.cells #[.int .i64 0, .string ⟨#[]⟩, .string ⟨#[]⟩] 46)))
    clear hb1
    go_wp2_with (go_at_call 21; (with_reducible refine (HRP.out k s _ (HD.out.below HB1.out) (by have := HS.out; omega) (by have := HS.out; omega)).mono ?_); rintro e w5 ⟨u, k5, rfl, hu, hd5, hk5, hb5⟩; have HD5 := Lib.hid hd5; have HB5 := Lib.hid hb5; clear hb5 hd5)
    go_ret
    exact ⟨_, _, rfl, hu, HD5.out, by omega, (But.of HB1.out).next HB5.out⟩
  rw [if_pos h1] at HON
  unfold elV at HON
  have hrc := rdContent_two (oneErr_rd h1)
  generalize rdTag s = t at HON
  generalize rdContent s = ct at HON hrc
  generalize rdRaw s = rw0 at HON
  have HLS := Lib.hid (fun W => rlist_any ct W (by omega))
  have HRAW := Lib.hid (fun z (hz : z ∈ (lst ct).1) => lst_raw _ ct (Nat.le_refl _) z hz)
  have hlen := lst_length ct _ (Nat.le_refl _)
  generalize lst ct = LE at HLS HRAW hlen
  obtain ⟨l, er⟩ := LE
  simp only at HLS HRAW hlen
  clear h1
  refine HON.out.mono ?_
  rintro e w1 ⟨rfl, hb1⟩
  obtain ⟨g, hg⟩ : ∃ g, g = w1.heap.size := ⟨_, rfl⟩
  obtain ⟨W1, hW1⟩ : ∃ W1, W1 = w1.alloc (.cells #[.int .i64 ((t : Nat) : Int), .string ct, .string rw0] 46) := ⟨_, rfl⟩
  have hbb : Below w1.heap.size w1 W1 := by rw [hW1]; exact belowNew w1 _
  have q0 : W1.heap[g]? = some (.cells #[.int .i64 ((t : Nat) : Int), .string ct, .string rw0] 46 (0, 0)) := by rw [hW1, hg]; exact heap_alloc_new w1 _
  obtain ⟨e0, e1, e2, _, _, _, el⟩ := at_facts q0
  have HQ := Lib.hid q0
  have HB1 := Lib.hid (below_next hb1 hbb)
  have HD1 := Lib.hid (HD.out.below HB1.out)
  have hpg : p < g := by have := hb1.size; omega
  have HG := Lib.hid hg
  have HWE1 := Lib.hid hW1.symm
  clear hb1 hbb hW1 hg q0
  go_upto_region 2 with fail
  rw [HWE1.out, ← HG.out]
  go_wp2_with (go_at_call 21; (with_reducible refine (HRP.out k s _ HD1.out (by have := HS.out; omega) (by have := HS.out; omega)).mono ?_); rintro e w5 ⟨u, k5, rfl, hu, hd5, hk5, hb5⟩; have HD5 := Lib.hid hd5; have HB5 := Lib.hid hb5; clear hb5 hd5)
  · go_ret
    exact ⟨_, _, rfl, hu, HD5.out, by omega, (But.of HB1.out).next HB5.out⟩
  refine (HLS.out W1).mono ?_
  rintro e w2 ⟨v2, rfl, ho2, hb2⟩
  obtain ⟨a2, c2, rfl, hlc, hel, _⟩ := ElAt.of ho2
  obtain ⟨m, hm⟩ : ∃ m, m = l.length := ⟨_, rfl⟩
  rw [← hm] at hlc hlen ⊢
  have HM := Lib.hid hm
  have HEL := Lib.hid hel
  have HB2 := Lib.hid (below_next HB1.out hb2)
  have HD2 := Lib.hid (HD1.out.below hb2)
  have hq2 := (hb2.block g el).trans HQ.out
  have HQ2 := Lib.hid hq2
  obtain ⟨f0, f1, f2, _, _, _, fl⟩ := at_facts hq2
  clear ho2 hel hm hb2 hq2 e0 e1 e2 el
  by_cases hz : er = 0
  case neg =>
    have hzz := errno_ne hz
    clear hz
    go_wp2_with (go_at_call 21; (with_reducible refine (HRP.out k s _ HD2.out (by have := HS.out; omega) (by have := HS.out; omega)).mono ?_); rintro e w5 ⟨u, k5, rfl, hu, hd5, hk5, hb5⟩; have HD5 := Lib.hid hd5; have HB5 := Lib.hid hb5; clear hb5 hd5)
    go_ret
    exact ⟨_, _, rfl, hu, HD5.out, by omega, (But.of HB2.out).next HB5.out⟩
  subst hz
  by_cases hm0 : m = 0
  · subst hm0
    go_wp2_with (go_at_call 21; (with_reducible refine (HRP.out k s _ HD2.out (by have := HS.out; omega) (by have := HS.out; omega)).mono ?_); rintro e w5 ⟨u, k5, rfl, hu, hd5, hk5, hb5⟩; have HD5 := Lib.hid hd5; have HB5 := Lib.hid hb5; clear hb5 hd5)
    go_ret
    exact ⟨_, _, rfl, hu, HD5.out, by omega, (But.of HB2.out).next HB5.out⟩
  have hme : ((m : Int) == 0) = false := by simp; omega
  go_wp2_with (first
    | (go_at_call 11; (with_reducible refine (next_intN p a cap zs k m (m : Int) _ HD2.out (by have := HS.out; omega) (by omega) (by omega) rfl).mono ?_); rintro e w3 ⟨r3, k3, hr3, rfl, hd3, hk3, hb3⟩; have HD3 := Lib.hid hd3; have HK3 := Lib.hid hk3; have HB3 := Lib.hid hb3; clear hd3 hk3 hb3)
    | (go_at_call 11; (with_reducible refine (next_intN p a cap zs k3 8 8 _ HD3.out (by have := HK3.out; have := HS.out; omega) (by omega) (by omega) rfl).mono ?_); rintro e w4 ⟨r4, k4, hr4, rfl, hd4, hk4, hb4⟩; have HD4 := Lib.hid hd4; have HK4 := Lib.hid hk4; have HB4 := Lib.hid hb4; clear hd4 hk4 hb4))
  have hB24 : But p w2 w4 := HB3.out.next HB4.out
  have HQ4 := Lib.hid ((hB24.block g fl (by simp; omega)).trans HQ2.out)
  have HEL4 := Lib.hid (show ElAt w4 a2 l from HEL.out.but hB24 (fun x hx hl => by have := (‹∀ (x : Addr), a2 = some x → l ≠ [] → W1.heap.size ≤ x.block ∧ x.block < w2.heap.size› x hx hl).1; have := HQ.out; have := (Array.getElem?_eq_some_iff.1 HQ.out).1; omega))
  have HB4' := Lib.hid (show But p w w4 from (But.of HB2.out).next hB24)
  have HKK := Lib.hid (show k4 ≤ k + 2 by have := HK3.out; have := HK4.out; omega)
  have hp4 : p < w4.heap.size := HD4.out.lt
  clear f0 f1 f2 fl hB24
  go_loopw [9, 54] (fun c i wr => ∃ (j kk : Nat) (C : ByteArray), j ≤ m ∧ c = .string C ∧ i = .int .i64 (j : Int) ∧ C.size ≤ j * 170000 ∧ DeckAt wr p a cap zs kk ∧ (j ≤ r3 → kk ≤ k + 2) ∧ kk ≤ k + s.size + 6 ∧ But p w4 wr) (fun _ i _ => m - (intOf i).toNat)
  case atStart => exact ⟨0, k4, ⟨#[]⟩, Nat.zero_le _, rfl, rfl, Nat.zero_le _, HD4.out, fun _ => HKK.out, by have := HKK.out; omega, But.refl _ _⟩
  case round =>
    obtain ⟨wo, hwo⟩ : ∃ wo, wo = wr := ⟨_, rfl⟩
    subst hwo
    obtain ⟨j, kk, C, hj, rfl, rfl, hC, hdk, hkr, hkk, hb⟩ := hrel
    have HDK := Lib.hid hdk
    have HKR := Lib.hid hkr
    have HCZ := Lib.hid hC
    have HB := Lib.hid hb
    have HKT := Lib.hid hkk
    have hq := (hb.block g (Array.getElem?_eq_some_iff.1 HQ4.out).1 (by simp; omega)).trans HQ4.out
    have HQ5 := Lib.hid hq
    obtain ⟨f0, f1, f2, _, _, _, fl⟩ := at_facts hq
    clear hC hdk hkr hkk hb hq
    by_cases hlt : j < m
    · have hd : decide ((j : Int) < (m : Int)) = true := by simp; omega
      obtain ⟨b, o, rfl, hcl⟩ := HEL4.out.resolve_left (fun e => by have := HM.out; rw [e] at this; simp at this; omega)
      obtain ⟨x0, x1, x2⟩ := hcl j (by rw [← HM.out]; exact hlt)
      have hbp : b ≠ p := by
        have := (‹∀ (x : Addr), some (⟨b, o, none⟩ : Addr) = some x → l ≠ [] → W1.heap.size ≤ x.block ∧ x.block < w2.heap.size› _ rfl (fun e => by have := HM.out; rw [e] at this; simp at this; omega)).1
        have := (Array.getElem?_eq_some_iff.1 HQ.out).1
        simp at *
        omega
      have c0 := HB.out.cell x0 (by simpa using hbp)
      have c1 := HB.out.cell x1 (by simpa using hbp)
      have c2' := HB.out.cell x2 (by simpa using hbp)
      have hki : (j : Int) < (m : Int) := by omega
      have hmz := HRAW.out (l.getD j noEle) (by rw [List.getD_eq_getElem?_getD, List.getElem?_eq_getElem (by rw [← HM.out]; exact hlt)]; exact List.getElem_mem _)
      rw [show ((0 : Nat), (⟨#[]⟩ : ByteArray), (⟨#[]⟩ : ByteArray)) = noEle from rfl] at c0 c1 c2'
      generalize l.getD j noEle = y at c0 c1 c2' hmz
      obtain ⟨yt, yc, yr⟩ := y
      simp only at c0 c1 c2' hmz
      have HMZ := Lib.hid (show yr.size + 2 ≤ s.size by omega)
      have HSN := Lib.hid hN
      obtain ⟨q, hq⟩ : ∃ q, q = wo.heap.size := ⟨_, rfl⟩
      obtain ⟨W5, hW5⟩ : ∃ W5, W5 = wo.alloc (.cells #[.int .i64 ((yt : Nat) : Int), .string yc, .string yr] 46) := ⟨_, rfl⟩
      have hb5 : Below wo.heap.size wo W5 := by rw [hW5]; exact belowNew wo _
      obtain ⟨t0, t1, t2, _, _, _, tl⟩ := at_facts (show W5.heap[q]? = _ from by rw [hW5, hq]; exact heap_alloc_new wo _)
      have HD5 := Lib.hid (HDK.out.below hb5)
      have HB5 := Lib.hid (HB.out.next (But.of hb5))
      have HWE5 := Lib.hid hW5.symm
      have HQQ := Lib.hid hq
      clear hcl x0 x1 x2 hmz hq hW5 hb5 f0 f1 f2 fl hbp
      go_upto_region 14 with fail
      rw [HWE5.out, ← HQQ.out]
      clear c0 c1 c2'
      have hCz : C.size ≤ 6000000000 := by have := HCZ.out; have := HS.out; omega
      have hyz : yr.size ≤ 30000 := by have := HMZ.out; have := HS.out; omega
      by_cases hjr : j = r3
      · have hne : ((j : Int) != (r3 : Int)) = false := by simp; omega
        have HKJ := Lib.hid (HKR.out (by omega))
        go_wp2_with (first
          | (go_at_call 21; (with_reducible refine (HRP.out kk yr _ HD5.out (by have := HKJ.out; have := HS.out; omega) (by have := HMZ.out; have := HS.out; omega)).mono ?_); rintro e w7 ⟨u, k7, rfl, hu, hd7, hk7, hb7⟩; have hu9 : u.size ≤ 165000 := (by omega); have HD7 := Lib.hid hd7; have HK7 := Lib.hid hk7; have HB7 := Lib.hid hb7; clear hu hb7 hd7 hk7)
          | (go_at_call 8; (with_reducible refine (HIH.out (by have := HMZ.out; have := HSN.out; omega) p a cap zs kk yr _ (by have := HMZ.out; have := HSN.out; omega) HD5.out (by have := HKJ.out; have := HMZ.out; have := HS.out; omega)).mono ?_); rintro e w7 ⟨u, k7, rfl, hu, hd7, hk7, hb7⟩; have hu9 : u.size ≤ 165000 := (by omega); have HD7 := Lib.hid hd7; have HK7 := Lib.hid hk7; have HB7 := Lib.hid hb7; clear hu hb7 hd7 hk7))
        · go_roundw
          case rel => exact ⟨j + 1, kk, C ++ (yr ++ yr), by omega, rfl, by go_num, by rw [ByteArray.size_append, ByteArray.size_append]; have := HCZ.out; omega, HD5.out, fun h => absurd h (by omega), HKT.out, HB5.out⟩
          case measure => simp [intOf]; omega
        · go_roundw
          case rel => exact ⟨j + 1, kk, C, by omega, rfl, by go_num, Nat.le_trans HCZ.out (Nat.mul_le_mul_right _ (Nat.le_succ j)), HD5.out, fun h => absurd h (by omega), HKT.out, HB5.out⟩
          case measure => simp [intOf]; omega
        · go_roundw
          case rel => exact ⟨j + 1, k7, C ++ u, by omega, rfl, by go_num, by rw [ByteArray.size_append]; have := HCZ.out; omega, HD7.out, fun h => absurd h (by omega), by have := HK7.out; have := HKJ.out; omega, HB5.out.next HB7.out⟩
          case measure => simp [intOf]; omega
        · go_roundw
          case rel => exact ⟨j + 1, k7, C ++ u, by omega, rfl, by go_num, by rw [ByteArray.size_append]; have := HCZ.out; omega, HD7.out, fun h => absurd h (by omega), by have := HK7.out; have := HKJ.out; have := HMZ.out; omega, HB5.out.next HB7.out⟩
          case measure => simp [intOf]; omega
      · have hne : ((j : Int) != (r3 : Int)) = true := by simp; omega
        go_wp2_with fail
        go_roundw
        case rel => exact ⟨j + 1, kk, C ++ yr, by omega, rfl, by go_num, by rw [ByteArray.size_append]; have := HCZ.out; have := HMZ.out; have := HS.out; omega, HD5.out, fun h => HKR.out (by omega), HKT.out, HB5.out⟩
        case measure => simp [intOf]; omega
    · have hd : decide ((j : Int) < (m : Int)) = false := by simp; omega
      have HW := Lib.hid (fun T g W h => rw1 T g C W h (by have := HCZ.out; have := HS.out; omega))
      go_wp2_with (go_at_call 23; (with_reducible refine (HW.out _ _ _ (bx1 _ _ _)).mono ?_); rintro e w8 ⟨rfl, hb8⟩; have HB8 := Lib.hid hb8; clear hb8)
      go_ret
      exact ⟨_, _, rfl, Nat.le_trans (wr1_size _ _) (by omega), (HDK.out.below (belowNew _ _)).below HB8.out, HKT.out, ((HB4'.out.next HB.out).next (But.of (belowNew _ _))).next (But.of HB8.out)⟩
theorem rewrap_all : ∀ N, Rewraps N
  | 0 => rewrap_step 0 (fun h => absurd rfl h)
  | N + 1 => rewrap_step (N + 1) (fun _ => rewrap_all N)
theorem rewrap_any (p : Nat) (a : Option Addr) (cap : Nat) (zs : List Int) (k : Nat) (s : ByteArray) (w : World) (h : DeckAt w p a cap zs k) (hk : k + s.size ≤ 29970) :
    Calls Tryd.prog 8 #[.pointer (some ⟨p, 0, none⟩), .string s] w fun e w' => ∃ (u : ByteArray) (k' : Nat), e = .returned (.string u) ∧ u.size ≤ s.size + 131080 ∧ DeckAt w' p a cap zs k' ∧ k' ≤ k + s.size + 6 ∧ But p w w' :=
  rewrap_all s.size p a cap zs k s w (Nat.le_refl _) h hk
end Go.Proofs.YtpmlkofceidnjaaDoor


namespace Go.Proofs.YtpmlkofceidnjaaDoor
open Go.RowKit

/-- The slice value v, of memory from block B on, holds the texts ss. -/
def OwnT (w : World) (B : Nat) (v : Value) (ss : List ByteArray) : Prop := w.ownsRow B 9 1 v ss.length (ss.map Value.string)
theorem OwnT.cells {w : World} {B N : Nat} {v : Value} {ss : List ByteArray} (h : OwnT w B v ss) (hN : N = ss.length) (h0 : ss ≠ []) :
    ∃ g cp, v = .slice (some ⟨g, 0, none⟩) N cp ∧ g < w.heap.size ∧ B ≤ g ∧ N ≤ cp ∧ ∀ j, j < N → w.cell? ⟨g, j, none⟩ = some (.string (ss.getD j ⟨#[]⟩)) := by
  subst hN
  rcases h.2 with ⟨_, h1⟩ | ⟨g, cap, cur, rfl, hB, hg, hn, _, hcs, htk⟩
  · exact absurd (List.eq_nil_of_length_eq_zero h1) h0
  · refine ⟨g, cap, rfl, (Array.getElem?_eq_some_iff.1 hg).1, hB, hn, fun j hj => ?_⟩
    rw [cell_of_row w g j _ _ _ hg]
    have : (cur.toList.take (ss.length * 1))[j]? = some (.string ss[j]) := by rw [htk]; simp [hj]
    rw [List.getElem?_take_of_lt (by omega)] at this
    rw [List.getD_eq_getElem?_getD, List.getElem?_eq_getElem hj]
    simpa using this
end Go.Proofs.YtpmlkofceidnjaaDoor
namespace Go.Proofs.YtpmlkofceidnjaaDoor
open Go.RowKit

theorem OwnT.reads {w : World} {B : Nat} {v : Value} {ss : List ByteArray} (h : OwnT w B v ss) : Reads w v ss := by
  rcases h.2 with ⟨hv, h0⟩ | ⟨g, cap, cur, hv, hB, hg, hn, _, hcs, htk⟩
  · exact ⟨none, 0, by rw [hv, h0], .inl (List.eq_nil_of_length_eq_zero h0)⟩
  · refine ⟨_, cap, hv, .inr ⟨g, 0, rfl, fun j hj => ?_⟩⟩
    rw [cell_of_row w g _ _ _ _ hg]
    have : (cur.toList.take (ss.length * 1))[j]? = some (.string ss[j]) := by rw [htk]; simp [hj]
    rw [List.getElem?_take_of_lt (by omega)] at this
    rw [List.getD_eq_getElem?_getD, List.getElem?_eq_getElem hj, Nat.zero_add]
    simpa using this
end Go.Proofs.YtpmlkofceidnjaaDoor


namespace Go.Proofs.YtpmlkofceidnjaaDoor
open Go.RowKit

theorem rd_cases {b : ByteArray} (h : rdErr b = 0) : b.size ≠ 0 ∧ u8at b 0 % 32 ≠ 31 ∧ (lnAt b 1).2.2 = 0 ∧ 1 + (lnAt b 1).2.1 + (lnAt b 1).1 ≤ b.size ∧ rd b = (0, 1 + (lnAt b 1).2.1, (lnAt b 1).1) := by
  unfold rdErr rd at h
  unfold rd
  by_cases h0 : b.size = 0
  · rw [if_pos h0] at h; cases h
  · rw [if_neg h0] at h ⊢
    by_cases h1 : u8at b 0 % 32 = 31
    · rw [if_pos h1] at h; cases h
    · rw [if_neg h1] at h ⊢
      by_cases h2 : (lnAt b 1).2.2 = 0
      · rw [if_neg (fun x => x h2)] at h ⊢
        by_cases h3 : b.size < 1 + (lnAt b 1).2.1 + (lnAt b 1).1
        · rw [if_pos h3] at h; cases h
        · rw [if_neg h3]
          exact ⟨h0, h1, h2, by omega, rfl⟩
      · rw [if_pos h2] at h; exact absurd h h2
theorem rd_mk {b : ByteArray} (h0 : b.size ≠ 0) (h1 : u8at b 0 % 32 ≠ 31) (h2 : (lnAt b 1).2.2 = 0) (h3 : 1 + (lnAt b 1).2.1 + (lnAt b 1).1 ≤ b.size) : rd b = (0, 1 + (lnAt b 1).2.1, (lnAt b 1).1) := by
  unfold rd
  rw [if_neg h0, if_neg h1, if_neg (fun x => x h2), if_neg (by omega)]
theorem oneErr_size {b : ByteArray} (h : oneErr b = 0) : (rd b).2.1 + (rd b).2.2 = b.size := by
  have h1 := oneErr_rd h
  obtain ⟨_, _, h2, _, _⟩ := rd_ok h1
  unfold oneErr at h
  rw [if_neg (fun x => x h1)] at h
  by_cases h3 : (rdRest b).size = 0
  · unfold rdRest at h3
    rw [ByteArray.size_extract] at h3
    omega
  · rw [if_pos h3] at h; cases h
end Go.Proofs.YtpmlkofceidnjaaDoor
namespace Go.Proofs.YtpmlkofceidnjaaDoor
open Go.RowKit

theorem u8at_list_t {b : ByteArray} {L : List UInt8} (h : b.data.toList = L) (i : Nat) : u8at b i = (L.getD i 0).toNat := by unfold u8at; rw [h]
theorem size_list {b : ByteArray} {L : List UInt8} (h : b.data.toList = L) : b.size = L.length := by rw [← h]; rfl
theorem data_extract (b : ByteArray) (i j : Nat) : (b.extract i j).data.toList = (b.data.toList.drop i).take (j - i) := by
  rw [ByteArray.data_extract, Array.toList_extract, List.extract_eq_take_drop]
theorem lst_ge {L : List UInt8} (k : Nat) (h : k + 1 ≤ L.length) : ∃ x r, L = x :: r ∧ k ≤ r.length := by
  cases L with
  | nil => exact absurd h (Nat.not_succ_le_zero _)
  | cons x r => exact ⟨x, r, rfl, by simpa using h⟩

/-- The header that was read is the one that is written. -/
theorem head_back {b : ByteArray} (h : rdErr b = 0) : b.data.toList = UInt8.ofNat (rdTag b) :: (lenO (rd b).2.2 ++ b.data.toList.drop (rd b).2.1) := by
  obtain ⟨h0, h1, h2, h3, h4⟩ := rd_cases h
  obtain ⟨L, hL⟩ : ∃ L, b.data.toList = L := ⟨_, rfl⟩
  have hu := u8at_list_t hL
  have hsz := size_list hL
  rw [h4, hL]
  unfold rdTag
  simp only
  revert h2 h3
  unfold lnAt
  by_cases c1 : b.size ≤ 1
  · rw [if_pos c1]; intro x; cases x
  · rw [if_neg c1]
    by_cases c2 : u8at b 1 < 128
    · rw [if_pos c2]
      intro _ h3
      simp only at h3 ⊢
      obtain ⟨x0, r0, rfl, g0⟩ := lst_ge (L := L) 1 (by omega)
      obtain ⟨x1, r1, rfl, g1⟩ := lst_ge (L := r0) 0 (by omega)
      have e0 : u8at b 0 = x0.toNat := hu 0
      have e1 : u8at b 1 = x1.toNat := hu 1
      rw [e1] at c2 ⊢
      rw [e0]
      have e2 : lenO x1.toNat = [x1] := by unfold lenO; rw [if_pos (lsz1 c2), UInt8.ofNat_toNat]
      rw [e2, UInt8.ofNat_toNat]
      rfl
    · rw [if_neg c2]
      by_cases c3 : u8at b 1 = 128 ∨ 131 < u8at b 1
      · rw [if_pos c3]; intro x; cases x
      · rw [if_neg c3]
        by_cases c4 : b.size < 1 + 1 + (u8at b 1 - 128)
        · rw [if_pos c4]; intro x; cases x
        · rw [if_neg c4]
          by_cases c5 : be b (1 + 1) (u8at b 1 - 128) < least (u8at b 1 - 128) ∨ 131072 < be b (1 + 1) (u8at b 1 - 128)
          · rw [if_pos c5]; intro x; cases x
          · rw [if_neg c5]
            intro _ h3
            simp only at h3 ⊢
            have hn := be_lt b (1 + 1) (u8at b 1 - 128)
            obtain ⟨k, hk⟩ : ∃ k, k = u8at b 1 - 128 := ⟨_, rfl⟩
            rw [← hk] at c4 c5 hn ⊢
            obtain ⟨x0, r0, rfl, g0⟩ := lst_ge (L := L) 1 (by omega)
            obtain ⟨x1, r1, rfl, g1⟩ := lst_ge (L := r0) 0 (by omega)
            have e0 : u8at b 0 = x0.toNat := hu 0
            have e1 : u8at b 1 = x1.toNat := hu 1
            have hl : r1.length + 2 = b.size := by rw [hsz]; rfl
            rw [e0, UInt8.ofNat_toNat]
            rcases (by omega : k = 1 ∨ k = 2 ∨ k = 3) with rfl | rfl | rfl
            · obtain ⟨x2, r2, rfl, g2⟩ := lst_ge (L := r1) 0 (by omega)
              have e2 : u8at b 2 = x2.toNat := hu 2
              have ev : be b (1 + 1) 1 = x2.toNat := by show 256 * 0 + u8at b 2 = _; omega
              rw [ev] at c5 hn ⊢
              rw [least_one] at c5
              have hz : lsz x2.toNat = 2 := lsz2 (by omega) (by omega)
              have e3 : lenO x2.toNat = [x1, x2] := by
                unfold lenO
                rw [if_neg (by omega), hz]
                show [UInt8.ofNat 129, UInt8.ofNat (x2.toNat / 256 ^ 0)] = _
                rw [show (129 : Nat) = x1.toNat by omega, Nat.pow_zero, Nat.div_one, UInt8.ofNat_toNat, UInt8.ofNat_toNat]
              rw [e3]
              rfl
            · obtain ⟨x2, r2, rfl, g2⟩ := lst_ge (L := r1) 1 (by omega)
              obtain ⟨x3, r3, rfl, g3⟩ := lst_ge (L := r2) 0 (by omega)
              have e2 : u8at b 2 = x2.toNat := hu 2
              have e3 : u8at b 3 = x3.toNat := hu 3
              have l2 := x2.toNat_lt
              have l3 := x3.toNat_lt
              obtain ⟨v, hv⟩ : ∃ v, v = be b (1 + 1) 2 := ⟨_, rfl⟩
              have ev : v = 256 * x2.toNat + x3.toNat := by rw [hv]; show 256 * (256 * 0 + u8at b 2) + u8at b 3 = _; omega
              rw [← hv] at c5 hn ⊢
              rw [least_two] at c5
              have hz : lsz v = 3 := lsz3 (by omega) (by omega)
              have e4 : lenO v = [x1, x2, x3] := by
                unfold lenO
                rw [if_neg (by omega), hz]
                show [UInt8.ofNat 130, UInt8.ofNat (v / 256 ^ 1), UInt8.ofNat (v / 256 ^ 0)] = _
                have q1 : UInt8.ofNat (v / 256 ^ 1) = x2 := by rw [← UInt8.toNat_inj]; simp; omega
                have q2 : UInt8.ofNat (v / 256 ^ 0) = x3 := by rw [← UInt8.toNat_inj]; simp; omega
                rw [show (130 : Nat) = x1.toNat by omega, UInt8.ofNat_toNat, q1, q2]
              rw [e4]
              rfl
            · obtain ⟨x2, r2, rfl, g2⟩ := lst_ge (L := r1) 2 (by omega)
              obtain ⟨x3, r3, rfl, g3⟩ := lst_ge (L := r2) 1 (by omega)
              obtain ⟨x4, r4, rfl, g4⟩ := lst_ge (L := r3) 0 (by omega)
              have e2 : u8at b 2 = x2.toNat := hu 2
              have e3 : u8at b 3 = x3.toNat := hu 3
              have e4 : u8at b 4 = x4.toNat := hu 4
              have l2 := x2.toNat_lt
              have l3 := x3.toNat_lt
              have l4 := x4.toNat_lt
              obtain ⟨v, hv⟩ : ∃ v, v = be b (1 + 1) 3 := ⟨_, rfl⟩
              have ev : v = 256 * (256 * x2.toNat + x3.toNat) + x4.toNat := by rw [hv]; show 256 * (256 * (256 * 0 + u8at b 2) + u8at b 3) + u8at b 4 = _; omega
              rw [← hv] at c5 hn ⊢
              rw [least_three] at c5
              have hz : lsz v = 4 := lsz4 (by omega)
              have e5 : lenO v = [x1, x2, x3, x4] := by
                unfold lenO
                rw [if_neg (by omega), hz]
                show [UInt8.ofNat 131, UInt8.ofNat (v / 256 ^ 2), UInt8.ofNat (v / 256 ^ 1), UInt8.ofNat (v / 256 ^ 0)] = _
                have q1 : UInt8.ofNat (v / 256 ^ 2) = x2 := by rw [← UInt8.toNat_inj]; simp; omega
                have q2 : UInt8.ofNat (v / 256 ^ 1) = x3 := by rw [← UInt8.toNat_inj]; simp; omega
                have q3 : UInt8.ofNat (v / 256 ^ 0) = x4 := by rw [← UInt8.toNat_inj]; simp; omega
                rw [show (131 : Nat) = x1.toNat by omega, UInt8.ofNat_toNat, q1, q2, q3]
              rw [e5]
              rfl
end Go.Proofs.YtpmlkofceidnjaaDoor
