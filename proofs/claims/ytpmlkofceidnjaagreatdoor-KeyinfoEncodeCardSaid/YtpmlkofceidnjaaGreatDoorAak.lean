/-
  The contract of certpathmade's Rewrap.
  Nothing is left of this text.
  Nothing is left of this text.
  The contracts of the reference's Split and short: the pieces of a text; the short types and their object identifiers.
  The contracts of the reference's attributes and EncodeName: the same element.
  Nothing is left of this text.
  The size of what a made name's encoding is; Damage of any string.
  What is accepted is what is written: an element that is read depends on its own bytes alone, and is what Wrap writes for its parts; what Wrap writes is read. Nothing is claimed of the program here.
  What is accepted is what is written, as lists of bytes. Nothing is claimed of the program here.
  What Wrap writes is read, whatever stands behind it; what One accepts is what Wrap writes. Nothing is claimed of the program here.
  Nothing is left of this text.
  Elements that Wrap writes, in ascending order, one after the other: List reads them back, and they ascend.
  Nothing is left of this text.
  Elements, and what is read of them; attributes, relative names and names, and their encodings: each determines the other. Nothing is claimed of the program here.
  What is encoded is decoded, apart from the order of attributes; what is decoded is encoded as it was. Nothing is claimed of the program here.
  One-time signatures without a program: the digits of a digest, the steps of a chain, and that of the digits of two digests neither row is at most the other. Nothing is claimed of the program here.
  One-time signatures without a program: keys, signatures and what a signature leads to, over any hash of one size. Nothing is claimed of the program here.
  Trees of one-time keys without a program: nodes, siblings, the way from a leaf to the root. Nothing is claimed of the program here.
  Plain mathematics, no program: SHA-256 as functions on 32-bit words and lists of bytes, and the words as the integers that the model's slots hold.
  Nothing is claimed of the program here.
-/
import Derived.Test.YtpmlkofceidnjaaGreatDoorAaj
import Derived.Test.YtpmlkofceidnjaaGreatDoorAae
import Derived.Test.YtpmlkofceidnjaaGreatDoorAad
import Derived.Test.YtpmlkofceidnjaaGreatDoorAai
import Derived.Test.YtpmlkofceidnjaaGreatDoorAah
import Derived.Test.YtpmlkofceidnjaaGreatDoorAaa
import Derived.WalkKit
namespace Go.Proofs.YtpmlkofceidnjaaGreatDoor
open Go.RowKit

theorem rdContent_two {b : ByteArray} (h : rdErr b = 0) : (rdContent b).size + 2 ≤ b.size := by
  obtain ⟨h1, _, h2, _, _⟩ := rd_ok h
  unfold rdContent
  rw [ByteArray.size_extract]
  omega
theorem lst_raw : ∀ (n : Nat) (b : ByteArray), b.size ≤ n → ∀ e ∈ (lst b).1, e.2.2.size ≤ b.size
  | 0, b, h, e, he => by rw [lst_nil (by omega)] at he; cases he
  | n + 1, b, h, e, he => by
    by_cases h0 : b.size = 0
    · rw [lst_nil h0] at he; cases he
    · by_cases hr : rdErr b = 0
      · rw [lst_step h0 hr] at he
        have h1 := rdRest_size hr
        split at he
        · rcases List.mem_cons.1 he with rfl | he
          · show (rdRaw b).size ≤ b.size
            unfold rdRaw
            rw [ByteArray.size_extract]; omega
          · have := lst_raw n (rdRest b) (by omega) e he
            omega
        · cases he
      · rw [lst_bad h0 hr] at he; cases he
def Rewraps (N : Nat) : Prop := ∀ (p : Nat) (a : Option Addr) (cap : Nat) (zs : List Int) (k : Nat) (s : ByteArray) (w : World), s.size ≤ N → DeckAt w p a cap zs k → k + s.size ≤ 29970 →
    Calls Tryz.prog 15 #[.pointer (some ⟨p, 0, none⟩), .string s] w fun e w' => ∃ (u : ByteArray) (k' : Nat), e = .returned (.string u) ∧ u.size ≤ s.size + 131080 ∧ DeckAt w' p a cap zs k' ∧ k' ≤ k + s.size + 6 ∧ But p w w'
set_option maxRecDepth 100000 in
set_option maxHeartbeats 4000000 in
theorem rewrap_step (N : Nat) (IH : N ≠ 0 → Rewraps (N - 1)) : Rewraps N := by
  unfold Rewraps at IH
  intro p a cap zs k s w hN h hk
  have HD := Lib.hid h
  have HS := Lib.hid hk
  have HIH := Lib.hid IH
  have hp := h.lt
  have HRP := Lib.hid (fun k s w h h1 h2 => replaced_any p a cap zs k s w h h1 h2)
  have HON := Lib.hid (rone_any s w (by omega))
  unfold oneVal at HON
  clear h IH
  go_enter Tryz.func15, Tryz.ntmps15
  go_wp2_with fail
  by_cases h1 : oneErr s = 0
  case neg =>
    rw [if_neg h1] at HON
    have hz1 := errno_ne h1
    unfold noEl at HON
    clear h1
    refine HON.out.mono ?_
    rintro e w1 ⟨rfl, hb1⟩
    have HB1 := Lib.hid (below_next hb1 (belowNew w1 (.cells #[.int .i64 0, .string ⟨#[]⟩, .string ⟨#[]⟩] 42)))
    clear hb1
    go_wp2_with (go_at_call 34; (with_reducible refine (HRP.out k s _ (HD.out.below HB1.out) (by have := HS.out; omega) (by have := HS.out; omega)).mono ?_); rintro e w5 ⟨u, k5, rfl, hu, hd5, hk5, hb5⟩; have HD5 := Lib.hid hd5; have HB5 := Lib.hid hb5; clear hb5 hd5)
    go_ret
    exact ⟨_, _, rfl, hu, HD5.out, by omega, (But.of HB1.out).next HB5.out⟩
  rw [if_pos h1] at HON
  unfold elV at HON
  have hrc := rdContent_two (oneErr_rd h1)
  generalize rdTag s = t at HON
  generalize rdContent s = ct at HON hrc
  generalize rdRaw s = rw0 at HON
  have HLS := Lib.hid (fun W => rlist_any ct W (by omega))
  have HRAW := Lib.hid (fun z (hz : z ∈ (lst ct).1) => lst_raw _ ct (Nat.le_refl _) z hz)
  have hlen := lst_length ct _ (Nat.le_refl _)
  generalize lst ct = LE at HLS HRAW hlen
  obtain ⟨l, er⟩ := LE
  simp only at HLS HRAW hlen
  clear h1
  refine HON.out.mono ?_
  rintro e w1 ⟨rfl, hb1⟩
  obtain ⟨g, hg⟩ : ∃ g, g = w1.heap.size := ⟨_, rfl⟩
  obtain ⟨W1, hW1⟩ : ∃ W1, W1 = w1.alloc (.cells #[.int .i64 ((t : Nat) : Int), .string ct, .string rw0] 42) := ⟨_, rfl⟩
  have hbb : Below w1.heap.size w1 W1 := by rw [hW1]; exact belowNew w1 _
  have q0 : W1.heap[g]? = some (.cells #[.int .i64 ((t : Nat) : Int), .string ct, .string rw0] 42 (0, 0)) := by rw [hW1, hg]; exact heap_alloc_new w1 _
  obtain ⟨e0, e1, e2, _, _, _, el⟩ := at_facts q0
  have HQ := Lib.hid q0
  have HB1 := Lib.hid (below_next hb1 hbb)
  have HD1 := Lib.hid (HD.out.below HB1.out)
  have hpg : p < g := by have := hb1.size; omega
  have HG := Lib.hid hg
  have HWE1 := Lib.hid hW1.symm
  clear hb1 hbb hW1 hg q0
  go_upto_region 2 with fail
  rw [HWE1.out, ← HG.out]
  go_wp2_with (go_at_call 34; (with_reducible refine (HRP.out k s _ HD1.out (by have := HS.out; omega) (by have := HS.out; omega)).mono ?_); rintro e w5 ⟨u, k5, rfl, hu, hd5, hk5, hb5⟩; have HD5 := Lib.hid hd5; have HB5 := Lib.hid hb5; clear hb5 hd5)
  · go_ret
    exact ⟨_, _, rfl, hu, HD5.out, by omega, (But.of HB1.out).next HB5.out⟩
  refine (HLS.out W1).mono ?_
  rintro e w2 ⟨v2, rfl, ho2, hb2⟩
  obtain ⟨a2, c2, rfl, hlc, hel, _⟩ := ElAt.of ho2
  obtain ⟨m, hm⟩ : ∃ m, m = l.length := ⟨_, rfl⟩
  rw [← hm] at hlc hlen ⊢
  have HM := Lib.hid hm
  have HEL := Lib.hid hel
  have HB2 := Lib.hid (below_next HB1.out hb2)
  have HD2 := Lib.hid (HD1.out.below hb2)
  have hq2 := (hb2.block g el).trans HQ.out
  have HQ2 := Lib.hid hq2
  obtain ⟨f0, f1, f2, _, _, _, fl⟩ := at_facts hq2
  clear ho2 hel hm hb2 hq2 e0 e1 e2 el
  by_cases hz : er = 0
  case neg =>
    have hzz := errno_ne hz
    clear hz
    go_wp2_with (go_at_call 34; (with_reducible refine (HRP.out k s _ HD2.out (by have := HS.out; omega) (by have := HS.out; omega)).mono ?_); rintro e w5 ⟨u, k5, rfl, hu, hd5, hk5, hb5⟩; have HD5 := Lib.hid hd5; have HB5 := Lib.hid hb5; clear hb5 hd5)
    go_ret
    exact ⟨_, _, rfl, hu, HD5.out, by omega, (But.of HB2.out).next HB5.out⟩
  subst hz
  by_cases hm0 : m = 0
  · subst hm0
    go_wp2_with (go_at_call 34; (with_reducible refine (HRP.out k s _ HD2.out (by have := HS.out; omega) (by have := HS.out; omega)).mono ?_); rintro e w5 ⟨u, k5, rfl, hu, hd5, hk5, hb5⟩; have HD5 := Lib.hid hd5; have HB5 := Lib.hid hb5; clear hb5 hd5)
    go_ret
    exact ⟨_, _, rfl, hu, HD5.out, by omega, (But.of HB2.out).next HB5.out⟩
  have hme : ((m : Int) == 0) = false := by simp; omega
  go_wp2_with (first
    | (go_at_call 9; (with_reducible refine (next_intN p a cap zs k m (m : Int) _ HD2.out (by have := HS.out; omega) (by omega) (by omega) rfl).mono ?_); rintro e w3 ⟨r3, k3, hr3, rfl, hd3, hk3, hb3⟩; have HD3 := Lib.hid hd3; have HK3 := Lib.hid hk3; have HB3 := Lib.hid hb3; clear hd3 hk3 hb3)
    | (go_at_call 9; (with_reducible refine (next_intN p a cap zs k3 8 8 _ HD3.out (by have := HK3.out; have := HS.out; omega) (by omega) (by omega) rfl).mono ?_); rintro e w4 ⟨r4, k4, hr4, rfl, hd4, hk4, hb4⟩; have HD4 := Lib.hid hd4; have HK4 := Lib.hid hk4; have HB4 := Lib.hid hb4; clear hd4 hk4 hb4))
  have hB24 : But p w2 w4 := HB3.out.next HB4.out
  have HQ4 := Lib.hid ((hB24.block g fl (by simp; omega)).trans HQ2.out)
  have HEL4 := Lib.hid (show ElAt w4 a2 l from HEL.out.but hB24 (fun x hx hl => by have := (‹∀ (x : Addr), a2 = some x → l ≠ [] → W1.heap.size ≤ x.block ∧ x.block < w2.heap.size› x hx hl).1; have := HQ.out; have := (Array.getElem?_eq_some_iff.1 HQ.out).1; omega))
  have HB4' := Lib.hid (show But p w w4 from (But.of HB2.out).next hB24)
  have HKK := Lib.hid (show k4 ≤ k + 2 by have := HK3.out; have := HK4.out; omega)
  have hp4 : p < w4.heap.size := HD4.out.lt
  clear f0 f1 f2 fl hB24
  go_loopw [9, 54] (fun c i wr => ∃ (j kk : Nat) (C : ByteArray), j ≤ m ∧ c = .string C ∧ i = .int .i64 (j : Int) ∧ C.size ≤ j * 170000 ∧ DeckAt wr p a cap zs kk ∧ (j ≤ r3 → kk ≤ k + 2) ∧ kk ≤ k + s.size + 6 ∧ But p w4 wr) (fun _ i _ => m - (intOf i).toNat)
  case atStart => exact ⟨0, k4, ⟨#[]⟩, Nat.zero_le _, rfl, rfl, Nat.zero_le _, HD4.out, fun _ => HKK.out, by have := HKK.out; omega, But.refl _ _⟩
  case round =>
    obtain ⟨wo, hwo⟩ : ∃ wo, wo = wr := ⟨_, rfl⟩
    subst hwo
    obtain ⟨j, kk, C, hj, rfl, rfl, hC, hdk, hkr, hkk, hb⟩ := hrel
    have HDK := Lib.hid hdk
    have HKR := Lib.hid hkr
    have HCZ := Lib.hid hC
    have HB := Lib.hid hb
    have HKT := Lib.hid hkk
    have hq := (hb.block g (Array.getElem?_eq_some_iff.1 HQ4.out).1 (by simp; omega)).trans HQ4.out
    have HQ5 := Lib.hid hq
    obtain ⟨f0, f1, f2, _, _, _, fl⟩ := at_facts hq
    clear hC hdk hkr hkk hb hq
    by_cases hlt : j < m
    · have hd : decide ((j : Int) < (m : Int)) = true := by simp; omega
      obtain ⟨b, o, rfl, hcl⟩ := HEL4.out.resolve_left (fun e => by have := HM.out; rw [e] at this; simp at this; omega)
      obtain ⟨x0, x1, x2⟩ := hcl j (by rw [← HM.out]; exact hlt)
      have hbp : b ≠ p := by
        have := (‹∀ (x : Addr), some (⟨b, o, none⟩ : Addr) = some x → l ≠ [] → W1.heap.size ≤ x.block ∧ x.block < w2.heap.size› _ rfl (fun e => by have := HM.out; rw [e] at this; simp at this; omega)).1
        have := (Array.getElem?_eq_some_iff.1 HQ.out).1
        simp at *
        omega
      have c0 := HB.out.cell x0 (by simpa using hbp)
      have c1 := HB.out.cell x1 (by simpa using hbp)
      have c2' := HB.out.cell x2 (by simpa using hbp)
      have hki : (j : Int) < (m : Int) := by omega
      have hmz := HRAW.out (l.getD j noEle) (by rw [List.getD_eq_getElem?_getD, List.getElem?_eq_getElem (by rw [← HM.out]; exact hlt)]; exact List.getElem_mem _)
      rw [show ((0 : Nat), (⟨#[]⟩ : ByteArray), (⟨#[]⟩ : ByteArray)) = noEle from rfl] at c0 c1 c2'
      generalize l.getD j noEle = y at c0 c1 c2' hmz
      obtain ⟨yt, yc, yr⟩ := y
      simp only at c0 c1 c2' hmz
      have HMZ := Lib.hid (show yr.size + 2 ≤ s.size by omega)
      have HSN := Lib.hid hN
      obtain ⟨q, hq⟩ : ∃ q, q = wo.heap.size := ⟨_, rfl⟩
      obtain ⟨W5, hW5⟩ : ∃ W5, W5 = wo.alloc (.cells #[.int .i64 ((yt : Nat) : Int), .string yc, .string yr] 42) := ⟨_, rfl⟩
      have hb5 : Below wo.heap.size wo W5 := by rw [hW5]; exact belowNew wo _
      obtain ⟨t0, t1, t2, _, _, _, tl⟩ := at_facts (show W5.heap[q]? = _ from by rw [hW5, hq]; exact heap_alloc_new wo _)
      have HD5 := Lib.hid (HDK.out.below hb5)
      have HB5 := Lib.hid (HB.out.next (But.of hb5))
      have HWE5 := Lib.hid hW5.symm
      have HQQ := Lib.hid hq
      clear hcl x0 x1 x2 hmz hq hW5 hb5 f0 f1 f2 fl hbp
      go_upto_region 14 with fail
      rw [HWE5.out, ← HQQ.out]
      clear c0 c1 c2'
      have hCz : C.size ≤ 6000000000 := by have := HCZ.out; have := HS.out; omega
      have hyz : yr.size ≤ 30000 := by have := HMZ.out; have := HS.out; omega
      by_cases hjr : j = r3
      · have hne : ((j : Int) != (r3 : Int)) = false := by simp; omega
        have HKJ := Lib.hid (HKR.out (by omega))
        go_wp2_with (first
          | (go_at_call 34; (with_reducible refine (HRP.out kk yr _ HD5.out (by have := HKJ.out; have := HS.out; omega) (by have := HMZ.out; have := HS.out; omega)).mono ?_); rintro e w7 ⟨u, k7, rfl, hu, hd7, hk7, hb7⟩; have hu9 : u.size ≤ 165000 := (by omega); have HD7 := Lib.hid hd7; have HK7 := Lib.hid hk7; have HB7 := Lib.hid hb7; clear hu hb7 hd7 hk7)
          | (go_at_call 15; (with_reducible refine (HIH.out (by have := HMZ.out; have := HSN.out; omega) p a cap zs kk yr _ (by have := HMZ.out; have := HSN.out; omega) HD5.out (by have := HKJ.out; have := HMZ.out; have := HS.out; omega)).mono ?_); rintro e w7 ⟨u, k7, rfl, hu, hd7, hk7, hb7⟩; have hu9 : u.size ≤ 165000 := (by omega); have HD7 := Lib.hid hd7; have HK7 := Lib.hid hk7; have HB7 := Lib.hid hb7; clear hu hb7 hd7 hk7))
        · go_roundw
          case rel => exact ⟨j + 1, kk, C ++ (yr ++ yr), by omega, rfl, by go_num, by rw [ByteArray.size_append, ByteArray.size_append]; have := HCZ.out; omega, HD5.out, fun h => absurd h (by omega), HKT.out, HB5.out⟩
          case measure => simp [intOf]; omega
        · go_roundw
          case rel => exact ⟨j + 1, kk, C, by omega, rfl, by go_num, Nat.le_trans HCZ.out (Nat.mul_le_mul_right _ (Nat.le_succ j)), HD5.out, fun h => absurd h (by omega), HKT.out, HB5.out⟩
          case measure => simp [intOf]; omega
        · go_roundw
          case rel => exact ⟨j + 1, k7, C ++ u, by omega, rfl, by go_num, by rw [ByteArray.size_append]; have := HCZ.out; omega, HD7.out, fun h => absurd h (by omega), by have := HK7.out; have := HKJ.out; omega, HB5.out.next HB7.out⟩
          case measure => simp [intOf]; omega
        · go_roundw
          case rel => exact ⟨j + 1, k7, C ++ u, by omega, rfl, by go_num, by rw [ByteArray.size_append]; have := HCZ.out; omega, HD7.out, fun h => absurd h (by omega), by have := HK7.out; have := HKJ.out; have := HMZ.out; omega, HB5.out.next HB7.out⟩
          case measure => simp [intOf]; omega
      · have hne : ((j : Int) != (r3 : Int)) = true := by simp; omega
        go_wp2_with fail
        go_roundw
        case rel => exact ⟨j + 1, kk, C ++ yr, by omega, rfl, by go_num, by rw [ByteArray.size_append]; have := HCZ.out; have := HMZ.out; have := HS.out; omega, HD5.out, fun h => HKR.out (by omega), HKT.out, HB5.out⟩
        case measure => simp [intOf]; omega
    · have hd : decide ((j : Int) < (m : Int)) = false := by simp; omega
      have HW := Lib.hid (fun T g W h => rw1 T g C W h (by have := HCZ.out; have := HS.out; omega))
      go_wp2_with (go_at_call 30; (with_reducible refine (HW.out _ _ _ (bx1 _ _ _)).mono ?_); rintro e w8 ⟨rfl, hb8⟩; have HB8 := Lib.hid hb8; clear hb8)
      go_ret
      exact ⟨_, _, rfl, Nat.le_trans (wr1_size _ _) (by omega), (HDK.out.below (belowNew _ _)).below HB8.out, HKT.out, ((HB4'.out.next HB.out).next (But.of (belowNew _ _))).next (But.of HB8.out)⟩
theorem rewrap_all : ∀ N, Rewraps N
  | 0 => rewrap_step 0 (fun h => absurd rfl h)
  | N + 1 => rewrap_step (N + 1) (fun _ => rewrap_all N)
theorem rewrap_any (p : Nat) (a : Option Addr) (cap : Nat) (zs : List Int) (k : Nat) (s : ByteArray) (w : World) (h : DeckAt w p a cap zs k) (hk : k + s.size ≤ 29970) :
    Calls Tryz.prog 15 #[.pointer (some ⟨p, 0, none⟩), .string s] w fun e w' => ∃ (u : ByteArray) (k' : Nat), e = .returned (.string u) ∧ u.size ≤ s.size + 131080 ∧ DeckAt w' p a cap zs k' ∧ k' ≤ k + s.size + 6 ∧ But p w w' :=
  rewrap_all s.size p a cap zs k s w (Nat.le_refl _) h hk
end Go.Proofs.YtpmlkofceidnjaaGreatDoor


namespace Go.Proofs.YtpmlkofceidnjaaGreatDoor
open Go.RowKit

/-- The slice value v, of memory from block B on, holds the texts ss. -/
def OwnT (w : World) (B : Nat) (v : Value) (ss : List ByteArray) : Prop := w.ownsRow B 9 1 v ss.length (ss.map Value.string)
theorem OwnT.cells {w : World} {B N : Nat} {v : Value} {ss : List ByteArray} (h : OwnT w B v ss) (hN : N = ss.length) (h0 : ss ≠ []) :
    ∃ g cp, v = .slice (some ⟨g, 0, none⟩) N cp ∧ g < w.heap.size ∧ B ≤ g ∧ N ≤ cp ∧ ∀ j, j < N → w.cell? ⟨g, j, none⟩ = some (.string (ss.getD j ⟨#[]⟩)) := by
  subst hN
  rcases h.2 with ⟨_, h1⟩ | ⟨g, cap, cur, rfl, hB, hg, hn, _, hcs, htk⟩
  · exact absurd (List.eq_nil_of_length_eq_zero h1) h0
  · refine ⟨g, cap, rfl, (Array.getElem?_eq_some_iff.1 hg).1, hB, hn, fun j hj => ?_⟩
    rw [cell_of_row w g j _ _ _ hg]
    have : (cur.toList.take (ss.length * 1))[j]? = some (.string ss[j]) := by rw [htk]; simp [hj]
    rw [List.getElem?_take_of_lt (by omega)] at this
    rw [List.getD_eq_getElem?_getD, List.getElem?_eq_getElem hj]
    simpa using this
end Go.Proofs.YtpmlkofceidnjaaGreatDoor
namespace Go.Proofs.YtpmlkofceidnjaaGreatDoor
open Go.RowKit

theorem OwnT.reads {w : World} {B : Nat} {v : Value} {ss : List ByteArray} (h : OwnT w B v ss) : Reads w v ss := by
  rcases h.2 with ⟨hv, h0⟩ | ⟨g, cap, cur, hv, hB, hg, hn, _, hcs, htk⟩
  · exact ⟨none, 0, by rw [hv, h0], .inl (List.eq_nil_of_length_eq_zero h0)⟩
  · refine ⟨_, cap, hv, .inr ⟨g, 0, rfl, fun j hj => ?_⟩⟩
    rw [cell_of_row w g _ _ _ _ hg]
    have : (cur.toList.take (ss.length * 1))[j]? = some (.string ss[j]) := by rw [htk]; simp [hj]
    rw [List.getElem?_take_of_lt (by omega)] at this
    rw [List.getD_eq_getElem?_getD, List.getElem?_eq_getElem hj, Nat.zero_add]
    simpa using this
end Go.Proofs.YtpmlkofceidnjaaGreatDoor

namespace Go.Proofs.YtpmlkofceidnjaaGreatDoor
open Go.RowKit

set_option maxRecDepth 100000 in
set_option maxHeartbeats 2000000 in
theorem damage_all (p : Nat) (a : Option Addr) (cap : Nat) (zs : List Int) (k : Nat) (s : ByteArray) (w : World) (h : DeckAt w p a cap zs k) (hk : k ≤ 29990) (hs : s.size ≤ 1099511627000) :
    Calls Tryz.prog 10 #[.pointer (some ⟨p, 0, none⟩), .string s] w fun e w' => ∃ (u : ByteArray) (k' : Nat), e = .returned (.string u) ∧ u.size ≤ s.size + 1 ∧ DeckAt w' p a cap zs k' ∧ k' ≤ k + 3 ∧ But p w w' := by
  by_cases h0 : s.size = 0
  · obtain rfl := empty_of_size h0
    have HD := Lib.hid h
    clear h hk hs h0
    go_enter Tryz.func10, Tryz.ntmps10
    go_wp2_with fail
    go_ret
    exact ⟨_, _, rfl, Nat.zero_le _, HD.out, by omega, But.refl _ _⟩
  · exact damage_but p a cap zs k s w h hk h0 hs
end Go.Proofs.YtpmlkofceidnjaaGreatDoor
namespace Go.Proofs.YtpmlkofceidnjaaGreatDoor
open Go.RowKit

theorem rd_cases {b : ByteArray} (h : rdErr b = 0) : b.size ≠ 0 ∧ u8at b 0 % 32 ≠ 31 ∧ (lnAt b 1).2.2 = 0 ∧ 1 + (lnAt b 1).2.1 + (lnAt b 1).1 ≤ b.size ∧ rd b = (0, 1 + (lnAt b 1).2.1, (lnAt b 1).1) := by
  unfold rdErr rd at h
  unfold rd
  by_cases h0 : b.size = 0
  · rw [if_pos h0] at h; cases h
  · rw [if_neg h0] at h ⊢
    by_cases h1 : u8at b 0 % 32 = 31
    · rw [if_pos h1] at h; cases h
    · rw [if_neg h1] at h ⊢
      by_cases h2 : (lnAt b 1).2.2 = 0
      · rw [if_neg (fun x => x h2)] at h ⊢
        by_cases h3 : b.size < 1 + (lnAt b 1).2.1 + (lnAt b 1).1
        · rw [if_pos h3] at h; cases h
        · rw [if_neg h3]
          exact ⟨h0, h1, h2, by omega, rfl⟩
      · rw [if_pos h2] at h; exact absurd h h2
theorem rd_mk {b : ByteArray} (h0 : b.size ≠ 0) (h1 : u8at b 0 % 32 ≠ 31) (h2 : (lnAt b 1).2.2 = 0) (h3 : 1 + (lnAt b 1).2.1 + (lnAt b 1).1 ≤ b.size) : rd b = (0, 1 + (lnAt b 1).2.1, (lnAt b 1).1) := by
  unfold rd
  rw [if_neg h0, if_neg h1, if_neg (fun x => x h2), if_neg (by omega)]
end Go.Proofs.YtpmlkofceidnjaaGreatDoor
namespace Go.Proofs.YtpmlkofceidnjaaGreatDoor
open Go.RowKit

theorem u8at_list_t {b : ByteArray} {L : List UInt8} (h : b.data.toList = L) (i : Nat) : u8at b i = (L.getD i 0).toNat := by unfold u8at; rw [h]
theorem size_list {b : ByteArray} {L : List UInt8} (h : b.data.toList = L) : b.size = L.length := by rw [← h]; rfl
theorem data_extract (b : ByteArray) (i j : Nat) : (b.extract i j).data.toList = (b.data.toList.drop i).take (j - i) := by
  rw [ByteArray.data_extract, Array.toList_extract, List.extract_eq_take_drop]
theorem lst_ge {L : List UInt8} (k : Nat) (h : k + 1 ≤ L.length) : ∃ x r, L = x :: r ∧ k ≤ r.length := by
  cases L with
  | nil => exact absurd h (Nat.not_succ_le_zero _)
  | cons x r => exact ⟨x, r, rfl, by simpa using h⟩

/-- The header that was read is the one that is written. -/
theorem head_back {b : ByteArray} (h : rdErr b = 0) : b.data.toList = UInt8.ofNat (rdTag b) :: (lenO (rd b).2.2 ++ b.data.toList.drop (rd b).2.1) := by
  obtain ⟨h0, h1, h2, h3, h4⟩ := rd_cases h
  obtain ⟨L, hL⟩ : ∃ L, b.data.toList = L := ⟨_, rfl⟩
  have hu := u8at_list_t hL
  have hsz := size_list hL
  rw [h4, hL]
  unfold rdTag
  simp only
  revert h2 h3
  unfold lnAt
  by_cases c1 : b.size ≤ 1
  · rw [if_pos c1]; intro x; cases x
  · rw [if_neg c1]
    by_cases c2 : u8at b 1 < 128
    · rw [if_pos c2]
      intro _ h3
      simp only at h3 ⊢
      obtain ⟨x0, r0, rfl, g0⟩ := lst_ge (L := L) 1 (by omega)
      obtain ⟨x1, r1, rfl, g1⟩ := lst_ge (L := r0) 0 (by omega)
      have e0 : u8at b 0 = x0.toNat := hu 0
      have e1 : u8at b 1 = x1.toNat := hu 1
      rw [e1] at c2 ⊢
      rw [e0]
      have e2 : lenO x1.toNat = [x1] := by unfold lenO; rw [if_pos (lsz1 c2), UInt8.ofNat_toNat]
      rw [e2, UInt8.ofNat_toNat]
      rfl
    · rw [if_neg c2]
      by_cases c3 : u8at b 1 = 128 ∨ 131 < u8at b 1
      · rw [if_pos c3]; intro x; cases x
      · rw [if_neg c3]
        by_cases c4 : b.size < 1 + 1 + (u8at b 1 - 128)
        · rw [if_pos c4]; intro x; cases x
        · rw [if_neg c4]
          by_cases c5 : be b (1 + 1) (u8at b 1 - 128) < least (u8at b 1 - 128) ∨ 131072 < be b (1 + 1) (u8at b 1 - 128)
          · rw [if_pos c5]; intro x; cases x
          · rw [if_neg c5]
            intro _ h3
            simp only at h3 ⊢
            have hn := be_lt b (1 + 1) (u8at b 1 - 128)
            obtain ⟨k, hk⟩ : ∃ k, k = u8at b 1 - 128 := ⟨_, rfl⟩
            rw [← hk] at c4 c5 hn ⊢
            obtain ⟨x0, r0, rfl, g0⟩ := lst_ge (L := L) 1 (by omega)
            obtain ⟨x1, r1, rfl, g1⟩ := lst_ge (L := r0) 0 (by omega)
            have e0 : u8at b 0 = x0.toNat := hu 0
            have e1 : u8at b 1 = x1.toNat := hu 1
            have hl : r1.length + 2 = b.size := by rw [hsz]; rfl
            rw [e0, UInt8.ofNat_toNat]
            rcases (by omega : k = 1 ∨ k = 2 ∨ k = 3) with rfl | rfl | rfl
            · obtain ⟨x2, r2, rfl, g2⟩ := lst_ge (L := r1) 0 (by omega)
              have e2 : u8at b 2 = x2.toNat := hu 2
              have ev : be b (1 + 1) 1 = x2.toNat := by show 256 * 0 + u8at b 2 = _; omega
              rw [ev] at c5 hn ⊢
              rw [least_one] at c5
              have hz : lsz x2.toNat = 2 := lsz2 (by omega) (by omega)
              have e3 : lenO x2.toNat = [x1, x2] := by
                unfold lenO
                rw [if_neg (by omega), hz]
                show [UInt8.ofNat 129, UInt8.ofNat (x2.toNat / 256 ^ 0)] = _
                rw [show (129 : Nat) = x1.toNat by omega, Nat.pow_zero, Nat.div_one, UInt8.ofNat_toNat, UInt8.ofNat_toNat]
              rw [e3]
              rfl
            · obtain ⟨x2, r2, rfl, g2⟩ := lst_ge (L := r1) 1 (by omega)
              obtain ⟨x3, r3, rfl, g3⟩ := lst_ge (L := r2) 0 (by omega)
              have e2 : u8at b 2 = x2.toNat := hu 2
              have e3 : u8at b 3 = x3.toNat := hu 3
              have l2 := x2.toNat_lt
              have l3 := x3.toNat_lt
              obtain ⟨v, hv⟩ : ∃ v, v = be b (1 + 1) 2 := ⟨_, rfl⟩
              have ev : v = 256 * x2.toNat + x3.toNat := by rw [hv]; show 256 * (256 * 0 + u8at b 2) + u8at b 3 = _; omega
              rw [← hv] at c5 hn ⊢
              rw [least_two] at c5
              have hz : lsz v = 3 := lsz3 (by omega) (by omega)
              have e4 : lenO v = [x1, x2, x3] := by
                unfold lenO
                rw [if_neg (by omega), hz]
                show [UInt8.ofNat 130, UInt8.ofNat (v / 256 ^ 1), UInt8.ofNat (v / 256 ^ 0)] = _
                have q1 : UInt8.ofNat (v / 256 ^ 1) = x2 := by rw [← UInt8.toNat_inj]; simp; omega
                have q2 : UInt8.ofNat (v / 256 ^ 0) = x3 := by rw [← UInt8.toNat_inj]; simp; omega
                rw [show (130 : Nat) = x1.toNat by omega, UInt8.ofNat_toNat, q1, q2]
              rw [e4]
              rfl
            · obtain ⟨x2, r2, rfl, g2⟩ := lst_ge (L := r1) 2 (by omega)
              obtain ⟨x3, r3, rfl, g3⟩ := lst_ge (L := r2) 1 (by omega)
              obtain ⟨x4, r4, rfl, g4⟩ := lst_ge (L := r3) 0 (by omega)
              have e2 : u8at b 2 = x2.toNat := hu 2
              have e3 : u8at b 3 = x3.toNat := hu 3
              have e4 : u8at b 4 = x4.toNat := hu 4
              have l2 := x2.toNat_lt
              have l3 := x3.toNat_lt
              have l4 := x4.toNat_lt
              obtain ⟨v, hv⟩ : ∃ v, v = be b (1 + 1) 3 := ⟨_, rfl⟩
              have ev : v = 256 * (256 * x2.toNat + x3.toNat) + x4.toNat := by rw [hv]; show 256 * (256 * (256 * 0 + u8at b 2) + u8at b 3) + u8at b 4 = _; omega
              rw [← hv] at c5 hn ⊢
              rw [least_three] at c5
              have hz : lsz v = 4 := lsz4 (by omega)
              have e5 : lenO v = [x1, x2, x3, x4] := by
                unfold lenO
                rw [if_neg (by omega), hz]
                show [UInt8.ofNat 131, UInt8.ofNat (v / 256 ^ 2), UInt8.ofNat (v / 256 ^ 1), UInt8.ofNat (v / 256 ^ 0)] = _
                have q1 : UInt8.ofNat (v / 256 ^ 2) = x2 := by rw [← UInt8.toNat_inj]; simp; omega
                have q2 : UInt8.ofNat (v / 256 ^ 1) = x3 := by rw [← UInt8.toNat_inj]; simp; omega
                have q3 : UInt8.ofNat (v / 256 ^ 0) = x4 := by rw [← UInt8.toNat_inj]; simp; omega
                rw [show (131 : Nat) = x1.toNat by omega, UInt8.ofNat_toNat, q1, q2, q3]
              rw [e5]
              rfl
end Go.Proofs.YtpmlkofceidnjaaGreatDoor
namespace Go.Proofs.YtpmlkofceidnjaaGreatDoor
open Go.RowKit

theorem rd_len_le {b : ByteArray} (h : rdErr b = 0) : (rd b).2.2 ≤ 131072 := by
  obtain ⟨_, _, h2, _, h4⟩ := rd_cases h
  rw [h4]
  simp only
  revert h2
  unfold lnAt
  repeat' split
  all_goals first | exact fun x => absurd x (by decide) | (intro _; simp only; omega)
theorem ofNat_small {n : Nat} (h : n < 256) : (UInt8.ofNat n).toNat = n := by simp; omega

/-- What Wrap has written is read, whatever stands behind it. -/
theorem rd_wrap {b : ByteArray} {t : Nat} {c d : List UInt8} (ht : t < 256) (h1 : t % 32 ≠ 31) (hc : c.length ≤ 131072) (hb : b.data.toList = wrapL t c ++ d) : rd b = (0, 1 + lsz c.length, c.length) := by
  have hu := u8at_list_t hb
  have hsz := size_list hb
  have hw : wrapL t c ++ d = UInt8.ofNat t :: (lenO c.length ++ (c ++ d)) := by unfold wrapL; simp
  rw [hw] at hu hsz
  have e0 : u8at b 0 = t := by rw [hu 0]; exact ofNat_small ht
  have hl : b.size = 1 + lsz c.length + c.length + d.length := by rw [hsz]; simp [lenO_length]; omega
  have hz := lsz_le c.length
  obtain ⟨n, hn⟩ : ∃ n, n = c.length := ⟨_, rfl⟩
  rw [← hn] at hc hu hl hz ⊢
  have key : lnAt b 1 = (n, lsz n, 0) := by
    unfold lnAt
    rw [if_neg (show ¬ b.size ≤ 1 by omega)]
    have hcs := lsz_cases n
    by_cases c1 : lsz n = 1
    · have e1 : u8at b 1 = n := by
        rw [hu 1]; unfold lenO; rw [if_pos c1]; exact ofNat_small (by omega)
      rw [e1, if_pos (by omega), c1]
    · have e1 : u8at b 1 = 127 + lsz n := by
        rw [hu 1]; unfold lenO; rw [if_neg c1]; exact ofNat_small (by omega)
      obtain ⟨k, hk⟩ : ∃ k, lsz n = 1 + k := ⟨lsz n - 1, by omega⟩
      have e2 : 127 + lsz n - 128 = k := by omega
      have eo : lenO n = UInt8.ofNat (127 + lsz n) :: octs n k := by unfold lenO; rw [if_neg c1, show lsz n - 1 = k by omega]
      have hle := least_ok (v := n) (k := k) (by omega) (by omega) hk
      have ev : be b (1 + 1) k = n := by
        rw [eo] at hu
        rcases (by omega : k = 1 ∨ k = 2 ∨ k = 3) with rfl | rfl | rfl
        · have a2 : u8at b 2 = n % 256 := by rw [hu 2]; show (UInt8.ofNat (n / 256 ^ 0)).toNat = _; simp
          show 256 * 0 + u8at b 2 = n
          omega
        · have a2 : u8at b 2 = n / 256 % 256 := by rw [hu 2]; show (UInt8.ofNat (n / 256 ^ 1)).toNat = _; simp
          have a3 : u8at b 3 = n % 256 := by rw [hu 3]; show (UInt8.ofNat (n / 256 ^ 0)).toNat = _; simp
          show 256 * (256 * 0 + u8at b 2) + u8at b 3 = n
          omega
        · have a2 : u8at b 2 = n / 65536 % 256 := by rw [hu 2]; show (UInt8.ofNat (n / 256 ^ 2)).toNat = _; simp
          have a3 : u8at b 3 = n / 256 % 256 := by rw [hu 3]; show (UInt8.ofNat (n / 256 ^ 1)).toNat = _; simp
          have a4 : u8at b 4 = n % 256 := by rw [hu 4]; show (UInt8.ofNat (n / 256 ^ 0)).toNat = _; simp
          show 256 * (256 * (256 * 0 + u8at b 2) + u8at b 3) + u8at b 4 = n
          omega
      rw [e1, if_neg (by omega), if_neg (by omega), e2, if_neg (by omega), ev, if_neg (by omega), hk]
  rw [rd_mk (b := b) (by omega) (by rw [e0]; exact h1) (by rw [key]) (by rw [key]; simp only; omega), key]

theorem take_wrap (t : Nat) (c d : List UInt8) : (wrapL t c ++ d).take (1 + lsz c.length + c.length) = wrapL t c := by
  have : (wrapL t c).length = 1 + lsz c.length + c.length := by unfold wrapL; simp [lenO_length]; omega
  rw [List.take_append_of_le_length (by omega), List.take_of_length_le (by omega)]
theorem drop_wrap (t : Nat) (c d : List UInt8) : (wrapL t c ++ d).drop (1 + lsz c.length + c.length) = d := by
  have : (wrapL t c).length = 1 + lsz c.length + c.length := by unfold wrapL; simp [lenO_length]; omega
  rw [← this, List.drop_left]
theorem mid_wrap (t : Nat) (c d : List UInt8) : ((wrapL t c ++ d).drop (1 + lsz c.length)).take c.length = c := by
  have h : wrapL t c ++ d = (UInt8.ofNat t :: lenO c.length) ++ (c ++ d) := by unfold wrapL; simp
  have h2 : (UInt8.ofNat t :: lenO c.length).length = 1 + lsz c.length := by simp [lenO_length]; omega
  rw [h, ← h2, List.drop_left, List.take_left]
theorem ext_list_t {a b : ByteArray} (h : a.data.toList = b.data.toList) : a = b := ByteArray.ext (Array.toList_inj.1 h)

/-- .. so that the element has these parts. -/
theorem read_wrap {b : ByteArray} {t : Nat} {c d : List UInt8} (ht : t < 256) (h1 : t % 32 ≠ 31) (hc : c.length ≤ 131072) (hb : b.data.toList = wrapL t c ++ d) :
    rdVal b = .tuple #[.agg #[.int .i64 ((t : Nat) : Int), .string ⟨c.toArray⟩, .string ⟨(wrapL t c).toArray⟩], .string ⟨d.toArray⟩, .int .i64 0] := by
  have h := rd_wrap ht h1 hc hb
  have he : rdErr b = 0 := by unfold rdErr; rw [h]
  have hsz : b.size = 1 + lsz c.length + c.length + d.length := by rw [size_list hb]; unfold wrapL; simp [lenO_length]; omega
  have e0 : rdTag b = t := by
    unfold rdTag
    rw [u8at_list_t hb 0]
    exact ofNat_small ht
  have e1 : rdContent b = ⟨c.toArray⟩ := by
    apply ext_list_t
    unfold rdContent
    rw [data_extract, h, hb]
    simp only
    rw [show 1 + lsz c.length + c.length - (1 + lsz c.length) = c.length by omega, mid_wrap]
  have e2 : rdRaw b = ⟨(wrapL t c).toArray⟩ := by
    apply ext_list_t
    unfold rdRaw
    rw [data_extract, h, hb]
    simp only [List.drop_zero, Nat.sub_zero]
    exact take_wrap t c d
  have e3 : rdRest b = ⟨d.toArray⟩ := by
    apply ext_list_t
    unfold rdRest
    rw [data_extract, h, hb]
    simp only
    rw [drop_wrap]
    exact List.take_of_length_le (by omega)
  rw [rdVal_good he, e0, e1, e2, e3]

end Go.Proofs.YtpmlkofceidnjaaGreatDoor

namespace Go.Proofs.YtpmlkofceidnjaaGreatDoor
open Go.RowKit

/-- The element of OCTETS with the content s: its bytes, and what the law writes. -/
def encS (s : ByteArray) : ByteArray := ⟨(wrapL 4 s.data.toList).toArray⟩
def elS (s : ByteArray) : El := (4, s, encS s)
/-- Two values share no block. -/
def Apart (u v : Value) : Prop := ∀ g, u.ownBlock = some g → v.ownBlock = some g → False
theorem Apart.symm {u v : Value} (h : Apart u v) : Apart v u := fun g a b => h g b a
theorem own_keep {w w' : World} {B : Nat} {e : TypeId} {k n : Nat} {u v : Value} {xs : List Value} (hu : w.ownsRow B e k u n xs) (hg : w.grownBy w' v.ownBlock) (hd : Apart u v) : w'.ownsRow B e k u n xs := by
  refine World.ownsRow.kept hu hg ?_
  cases hb : u.ownBlock with
  | none => exact .inl rfl
  | some g => exact .inr fun e => hd g hb e.symm
theorem apart_step {w : World} {B : Nat} {e : TypeId} {k n : Nat} {u v v' : Value} {xs : List Value} (hu : w.ownsRow B e k u n xs) (hd : Apart u v) (hat : v'.ownBlock = v.ownBlock ∨ v'.ownBlock = some w.heap.size) : Apart u v' := by
  intro g h1 h2
  rcases hat with hat | hat
  · exact hd g h1 (by rw [← hat]; exact h2)
  · have h3 := (World.ownsRow.lt hu g h1).2
    rw [hat] at h2
    have := Option.some.inj h2
    omega
/-- The law's three slices. -/
def Tri (w wr : World) (v1 v2 v3 : Value) (L1 L2 : List ByteArray) (L3 : List El) : Prop :=
  OwnS_t wr w.heap.size v1 L1 ∧ OwnS_t wr w.heap.size v2 L2 ∧ OwnE wr w.heap.size v3 L3 ∧ Apart v1 v2 ∧ Apart v1 v3 ∧ Apart v2 v3 ∧ Below w.heap.size w wr
theorem Tri.nil (w : World) : Tri w w (.slice none 0 0) (.slice none 0 0) (.slice none 0 0) [] [] [] :=
  ⟨World.ownsRow_nil _ _ _ _, World.ownsRow_nil _ _ _ _, World.ownsRow_nil _ _ _ _, fun _ h => by simp [Value.ownBlock] at h, fun _ h => by simp [Value.ownBlock] at h, fun _ h => by simp [Value.ownBlock] at h, Below.refl _ _⟩
theorem Tri.below {w wr w' : World} {v1 v2 v3 : Value} {L1 L2 : List ByteArray} {L3 : List El} (h : Tri w wr v1 v2 v3 L1 L2 L3) (hb : Below wr.heap.size wr w') : Tri w w' v1 v2 v3 L1 L2 L3 := by
  obtain ⟨a, b, c, d, e, f, g⟩ := h
  exact ⟨own_below a hb, own_below b hb, own_below c hb, d, e, f, below_next_t g hb⟩
theorem Tri.alloc {w wr : World} {v1 v2 v3 : Value} {L1 L2 : List ByteArray} {L3 : List El} (h : Tri w wr v1 v2 v3 L1 L2 L3) (o : Obj) : Tri w (wr.alloc o) v1 v2 v3 L1 L2 L3 :=
  h.below (belowNew wr o)
theorem Tri.first {w wr w2 : World} {v1 v2 v3 v' : Value} {L1 L2 : List ByteArray} {L3 : List El} {s : ByteArray} (h : Tri w wr v1 v2 v3 L1 L2 L3)
    (ho : w2.ownsRow w.heap.size 9 1 v' (L1.length + 1) (L1.map Value.string ++ [Value.string s])) (hg : wr.grownBy w2 v1.ownBlock) (hat : v'.ownBlock = v1.ownBlock ∨ v'.ownBlock = some wr.heap.size) :
    Tri w w2 v' v2 v3 (L1 ++ [s]) L2 L3 := by
  obtain ⟨a, b, c, d, e, f, g⟩ := h
  refine ⟨?_, own_keep b hg d.symm, own_keep c hg e.symm, (apart_step b d.symm hat).symm, (apart_step c e.symm hat).symm, f, g.grown hg g.size (fun k e => (World.ownsRow.lt a k e).1)⟩
  unfold OwnS_t
  simpa using ho
theorem Tri.third {w wr w2 : World} {v1 v2 v3 v' : Value} {L1 L2 : List ByteArray} {L3 : List El} {x : El} (h : Tri w wr v1 v2 v3 L1 L2 L3)
    (ho : w2.ownsRow w.heap.size 42 3 v' (L3.length + 1) (elsCells L3 ++ elCells x)) (hg : wr.grownBy w2 v3.ownBlock) (hat : v'.ownBlock = v3.ownBlock ∨ v'.ownBlock = some wr.heap.size) :
    Tri w w2 v1 v2 v' L1 L2 (L3 ++ [x]) := by
  obtain ⟨a, b, c, d, e, f, g⟩ := h
  refine ⟨own_keep a hg e, own_keep b hg f, ?_, d, apart_step a e hat, apart_step b f hat, g.grown hg g.size (fun k e => (World.ownsRow.lt c k e).1)⟩
  unfold OwnE
  rw [List.length_append, elsCells_snoc]
  exact ho
theorem Tri.next {w wr : World} {v1 v2 v3 : Value} {D ss : List ByteArray} {s x : ByteArray} {k : Nat} (h : Tri w wr v1 v2 v3 (D ++ [s]) (D.map encS ++ [x]) (D.map elS ++ [(4, s, x)])) (hx : x = encS s) (hD : D = ss.take k) (hk : k < ss.length)
    (hs : s = ss.getD k ByteArray.empty) : Tri w wr v1 v2 v3 (ss.take (k + 1)) ((ss.take (k + 1)).map encS) ((ss.take (k + 1)).map elS) := by
  have e : ss.take (k + 1) = D ++ [s] := by
    rw [List.take_succ_eq_append_getElem hk, hs, hD]
    simp [hk]
  rw [e, List.map_append, List.map_append]
  subst hx
  exact h
theorem OwnS_t.reads {w : World} {B : Nat} {v : Value} {D : List ByteArray} (h : OwnS_t w B v D) : Reads w v D := h.lies

theorem OwnE.old {B : Nat} {w w' : World} {v : Value} {l : List El} (h : OwnE w B v l) (hb : Below w.heap.size w w') : OwnE w' B v l := own_below h hb
end Go.Proofs.YtpmlkofceidnjaaGreatDoor

namespace Go.Proofs.YtpmlkofceidnjaaGreatDoor
open Go.RowKit

/-! ### Elements -/
theorem wr1_list {t : Nat} {c : ByteArray} (ht : t < 256) (h1 : t % 32 ≠ 31) (hc : c.size ≤ 131072) : (wr1 ((t : Nat) : Int) c).data.toList = wrapL t c.data.toList := by
  have e : wrapErr ((t : Nat) : Int) c.data.toList.length = 0 := by
    have : c.data.toList.length = c.size := rfl
    unfold wrapErr
    rw [if_neg (by omega), if_neg (by omega)]
  unfold wr1 wrapStr
  rw [e, if_pos rfl]
  rfl
/-- An element as Wrap writes it. -/
def OkE (e : El) : Prop := e.1 < 256 ∧ e.1 % 32 ≠ 31 ∧ e.2.1.size ≤ 131072 ∧ e.2.2 = wr1 ((e.1 : Nat) : Int) e.2.1
def raws (L : List El) : List (List UInt8) := L.map fun e => e.2.2.data.toList
theorem lst_els : ∀ (L : List El), (∀ e ∈ L, OkE e) → ∀ b : ByteArray, b.data.toList = (raws L).flatten → lst b = (L, 0)
  | [], _, b, hb => lst_nil (by rw [size_list hb]; rfl)
  | e :: L, h, b, hb => by
    obtain ⟨t, c, r⟩ := e
    obtain ⟨ht, h1, hc, hr⟩ := h _ List.mem_cons_self
    simp only at ht h1 hc hr
    have hw := wr1_list ht h1 hc
    have hb2 : b.data.toList = wrapL t c.data.toList ++ (raws L).flatten := by
      rw [hb, raws, List.map_cons, List.flatten_cons, hr, hw]; rfl
    have hrd := rd_wrap ht h1 hc hb2
    have he : rdErr b = 0 := by unfold rdErr; rw [hrd]
    have hv := read_wrap ht h1 hc hb2
    rw [rdVal_good he] at hv
    have h0 : b.size ≠ 0 := by
      rw [size_list hb2]
      unfold wrapL
      simp
    simp only [Value.tuple.injEq, Array.mk.injEq, List.cons.injEq, Value.agg.injEq, Value.string.injEq, Value.int.injEq] at hv
    have e1 : rdTag b = t := by have := hv.1.1.2; omega
    have e2 : rdRaw b = r := by rw [hv.1.2.2.1, hr]; exact (ext_list_t (by rw [hw])).symm
    have e3 : rdContent b = c := by rw [hv.1.2.1]
    have e4 : rdRest b = ⟨(raws L).flatten.toArray⟩ := hv.2.1
    have i1 := lst_els L (fun x hx => h x (List.mem_cons_of_mem _ hx)) (rdRest b) (by rw [e4])
    rw [lst_step h0 he, i1, if_pos rfl]
    unfold rdElem
    rw [e1, e2, e3]
theorem rd_parts {b : ByteArray} (h : rdErr b = 0) : OkE (rdElem b) ∧ b.data.toList = (rdRaw b).data.toList ++ (rdRest b).data.toList := by
  have hh := head_back h
  obtain ⟨h2, h5, hs, hx, h0⟩ := rd_ok h
  have hlen := rd_len_le h
  have ht := rdTag_lt b
  obtain ⟨n, hn⟩ : ∃ n, n = (rd b).2.2 := ⟨_, rfl⟩
  obtain ⟨p, hp⟩ : ∃ p, p = (rd b).2.1 := ⟨_, rfl⟩
  have hraw : (rdRaw b).data.toList = b.data.toList.take (p + n) := by unfold rdRaw; rw [data_extract, ← hn, ← hp]; simp
  have hrest : (rdRest b).data.toList = b.data.toList.drop (p + n) := by
    unfold rdRest
    rw [data_extract, ← hn, ← hp]
    refine List.take_of_length_le ?_
    rw [List.length_drop]
    exact Nat.le_refl _
  have hcon : (rdContent b).data.toList = (b.data.toList.drop p).take n := by unfold rdContent; rw [data_extract, ← hn, ← hp]; congr 1; omega
  rw [← hn, ← hp] at hh
  rw [← hn] at hlen
  rw [← hn, ← hp] at hs
  obtain ⟨D, hD⟩ : ∃ D, D = b.data.toList.drop p := ⟨_, rfl⟩
  have hDl : D.length = b.size - p := by rw [hD, List.length_drop]; rfl
  rw [← hD] at hh hcon
  have hl := congrArg List.length hh
  have hlb : b.data.toList.length = b.size := rfl
  rw [hlb, List.length_cons, List.length_append, hDl] at hl
  have hc : (rdContent b).size = n := by
    have : (rdContent b).data.toList.length = (rdContent b).size := rfl
    rw [← this, hcon, List.length_take, hDl]
    omega
  refine ⟨⟨ht, hx, by show (rdContent b).size ≤ _; omega, ?_⟩, by rw [hraw, hrest, List.take_append_drop]⟩
  show rdRaw b = wr1 _ (rdContent b)
  apply ext_list_t
  show _ = (wr1 ((rdTag b : Nat) : Int) (rdContent b)).data.toList
  rw [wr1_list ht hx (by omega), hraw, hcon]
  have hcl : (D.take n).length = n := by rw [← hcon]; exact hc
  unfold wrapL
  rw [hcl]
  conv => lhs; rw [hh]
  rw [show p + n = (lenO n).length + n + 1 by omega, List.take_succ_cons, List.take_append]
  congr 1
  rw [List.take_of_length_le (by omega), show (lenO n).length + n - (lenO n).length = n by omega]
theorem els_lst (k : Nat) : ∀ (b : ByteArray) (L : List El), b.size ≤ k → lst b = (L, 0) → (∀ e ∈ L, OkE e) ∧ b.data.toList = (raws L).flatten := by
  induction k with
  | zero =>
    intro b L hk h
    have h0 : b.size = 0 := by omega
    rw [lst_nil h0] at h
    obtain rfl : L = [] := (Prod.mk.inj h).1.symm
    exact ⟨fun e he => (by cases he), List.length_eq_zero_iff.1 h0⟩
  | succ k ih =>
    intro b L hk h
    by_cases h0 : b.size = 0
    · rw [lst_nil h0] at h
      obtain rfl : L = [] := (Prod.mk.inj h).1.symm
      exact ⟨fun e he => (by cases he), List.length_eq_zero_iff.1 h0⟩
    · by_cases he : rdErr b = 0
      · obtain ⟨p1, p2⟩ := rd_parts he
        have hsz := rdRest_size he
        rw [lst_step h0 he] at h
        by_cases hr : (lst (rdRest b)).2 = 0
        · rw [if_pos hr] at h
          obtain rfl : L = rdElem b :: (lst (rdRest b)).1 := (Prod.mk.inj h).1.symm
          obtain ⟨M, hM⟩ : ∃ M, M = (lst (rdRest b)).1 := ⟨_, rfl⟩
          have h3 : lst (rdRest b) = (M, 0) := by rw [hM, ← hr]
          rw [← hM]
          obtain ⟨i1, i2⟩ := ih (rdRest b) M (by omega) h3
          refine ⟨fun e hm => ?_, ?_⟩
          · rcases List.mem_cons.1 hm with rfl | hm
            · exact p1
            · exact i1 e hm
          · rw [p2, i2]; rfl
        · rw [if_neg hr] at h
          exact absurd (Prod.mk.inj h).2 hr
      · rw [lst_bad h0 he] at h
        exact absurd (Prod.mk.inj h).2 he

/-! ### Attributes -/
/-! ### Object identifiers -/
theorem oid_there {s : ByteArray} (h : oidB s = true) : oidD (oidS s) = some s := by
  obtain ⟨a, ha⟩ := oidB_true h
  rw [oidS_yes ha, oidD_yes (a := a) ⟨ha.1, strOf_list _⟩]
  exact congrArg some (strOf_of (oid_txt ha)).symm
end Go.Proofs.YtpmlkofceidnjaaGreatDoor
namespace Go.Proofs.YtpmlkofceidnjaaGreatDoor
open Go.RowKit

theorem size_of_list {c : ByteArray} {l : List UInt8} (h : c.data.toList = l) : c.size = l.length := by rw [← h]; rfl
/-! ### Relative names -/
/-! ### Names -/
theorem one_of_lst {b : ByteArray} {e : El} (h : lst b = ([e], 0)) : oneErr b = 0 ∧ rdElem b = e := by
  by_cases h0 : b.size = 0
  · rw [lst_nil h0] at h; cases (Prod.mk.inj h).1
  · by_cases he : rdErr b = 0
    · rw [lst_step h0 he] at h
      by_cases hr : (lst (rdRest b)).2 = 0
      · rw [if_pos hr] at h
        obtain ⟨h1, h2⟩ := List.cons.inj (Prod.mk.inj h).1
        obtain ⟨_, h3⟩ := els_lst _ (rdRest b) [] (Nat.le_refl _) (by rw [← hr, ← h2])
        have h4 : (rdRest b).size = 0 := size_of_list h3
        exact ⟨by unfold oneErr; rw [if_neg (fun k => k he), if_neg (fun k => k h4)], h1⟩
      · rw [if_neg hr] at h; exact absurd (Prod.mk.inj h).2 hr
    · rw [lst_bad h0 he] at h; exact absurd (Prod.mk.inj h).2 he
theorem read_one {b c : ByteArray} (hc : c.size ≤ 131072) (hb : b = wr1 ((48 : Nat) : Int) c) : oneErr b = 0 ∧ rdTag b = 48 ∧ rdContent b = c := by
  have hok : OkE (48, c, b) := ⟨by show 48 < 256; omega, by show 48 % 32 ≠ 31; omega, hc, hb⟩
  obtain ⟨h1, he⟩ := one_of_lst (lst_els [(48, c, b)] (fun e hm => by rw [List.mem_singleton.1 hm]; exact hok) b (by unfold raws; simp))
  unfold rdElem at he
  obtain ⟨e1, e2⟩ := Prod.mk.inj he
  obtain ⟨e3, _⟩ := Prod.mk.inj e2
  exact ⟨h1, e1, e3⟩
end Go.Proofs.YtpmlkofceidnjaaGreatDoor
namespace Go.Proofs.YtpmlkofceidnjaaGreatDoor
open Go.RowKit

/-! ### Chains -/
/-- n steps from position p. -/
def stepsF (f : Nat → ByteArray → ByteArray) : Nat → Nat → ByteArray → ByteArray
  | _, 0, v => v
  | p, n + 1, v => stepsF f (p + 1) n (f p v)
end Go.Proofs.YtpmlkofceidnjaaGreatDoor
namespace Go.Proofs.YtpmlkofceidnjaaGreatDoor
open Go.RowKit

/-- A number as four bytes, as one byte. -/
def b4 (n : Nat) : List UInt8 := [UInt8.ofNat (n / 16777216 % 256), UInt8.ofNat (n / 65536 % 256), UInt8.ofNat (n / 256 % 256), UInt8.ofNat (n % 256)]
def b1 (n : Nat) : List UInt8 := [UInt8.ofNat (n % 256)]
/-- One step of a chain from position p. -/
def stepQ (H : List UInt8 → ByteArray) (id : List UInt8) (leaf c p : Nat) (v : ByteArray) : ByteArray := H (67 :: (id ++ b4 leaf ++ b1 c ++ b1 p ++ v.data.toList))
def secQ (H : List UInt8 → ByteArray) (seed : List UInt8) (leaf c : Nat) : ByteArray := H (83 :: (seed ++ b4 leaf ++ b1 c))
end Go.Proofs.YtpmlkofceidnjaaGreatDoor
namespace Go.Proofs.YtpmlkofceidnjaaGreatDoor
open Go.RowKit

def joinQ (H : List UInt8 → ByteArray) (id : List UInt8) (l i : Nat) (x y : ByteArray) : ByteArray := H (78 :: (id ++ b1 l ++ b4 i ++ x.data.toList ++ y.data.toList))
/-- Node i of level l over the leaves' keys. -/
def nodeQ (H : List UInt8 → ByteArray) (id : List UInt8) (g : Nat → ByteArray) : Nat → Nat → ByteArray
  | 0, i => g i
  | l + 1, i => joinQ H id l i (nodeQ H id g l (2 * i)) (nodeQ H id g l (2 * i + 1))
end Go.Proofs.YtpmlkofceidnjaaGreatDoor
namespace Go.Proofs.YtpmlkofceidnjaaGreatDoor

/-- A word as the integer that a slot of type uint32 holds. -/
def u32 (x : BitVec 32) : Int := (x.toNat : Int)

theorem u32_lo (x : BitVec 32) : 0 ≤ u32 x := by unfold u32; omega
theorem u32_hi (x : BitVec 32) : u32 x ≤ 4294967295 := by unfold u32; have := x.isLt; omega
theorem wrap_u32_emod (n : Int) : IntKind.u32.wrap n = n % 4294967296 := by simp [IntKind.wrap, IntKind.bits, IntKind.signed]
@[go_sem] theorem u32_and_bv (x y : BitVec 32) : bits .and .u32 (u32 x) (u32 y) = u32 (x &&& y) := by
  unfold u32; rw [u32_and_nat _ _ x.isLt y.isLt, BitVec.toNat_and]
@[go_sem] theorem u32_or_bv (x y : BitVec 32) : bits .or .u32 (u32 x) (u32 y) = u32 (x ||| y) := by
  unfold u32; rw [u32_or_nat _ _ x.isLt y.isLt, BitVec.toNat_or]
@[go_sem] theorem u32_xor_bv (x y : BitVec 32) : bits .xor .u32 (u32 x) (u32 y) = u32 (x ^^^ y) := by
  unfold u32; rw [u32_xor_nat _ _ x.isLt y.isLt, BitVec.toNat_xor]
@[go_sem] theorem u32_add_bv (x y : BitVec 32) : IntKind.u32.wrap (u32 x + u32 y) = u32 (x + y) := by
  unfold u32; rw [wrap_u32_emod, BitVec.toNat_add]; omega
@[go_sem] theorem u32_not_bv (x : BitVec 32) : bits .xor .u32 4294967295 (u32 x) = u32 (~~~x) := by
  have h : (4294967295 : Int) = u32 (BitVec.allOnes 32) := by decide
  rw [h, u32_xor_bv, BitVec.allOnes_xor]
@[go_sem] theorem u32_signed : IntKind.u32.signed = false := rfl
@[go_sem] theorem u32_max : IntKind.u32.max = 4294967295 := by decide
theorem u32_shr_bv (x : BitVec 32) (n : Nat) : u32 x / 2 ^ n = u32 (x >>> n) := by
  unfold u32; rw [BitVec.toNat_ushiftRight, Nat.shiftRight_eq_div_pow]; simp
theorem u32_shl_bv (x : BitVec 32) (n : Nat) : IntKind.u32.wrap (u32 x * 2 ^ n) = u32 (x <<< n) := by
  unfold u32; rw [wrap_u32_emod, BitVec.toNat_shiftLeft, Nat.shiftLeft_eq]
  simp

@[go_sem] theorem u32_shl8 (x : BitVec 32) : IntKind.u32.wrap (u32 x * (256 : Int)) = u32 (x <<< 8) := u32_shl_bv x 8
@[go_sem] theorem u32_shr3 (x : BitVec 32) : u32 x / (8 : Int) = u32 (x >>> 3) := u32_shr_bv x 3
@[go_sem] theorem u32_shr10 (x : BitVec 32) : u32 x / (1024 : Int) = u32 (x >>> 10) := u32_shr_bv x 10

/-- A rotation to the right. -/
def rotr (x : BitVec 32) (n : Nat) : BitVec 32 := x <<< (32 - n) ||| x >>> n
/-- A byte as a word. -/
def bw (b : UInt8) : BitVec 32 := BitVec.ofNat 32 b.toNat
theorem bw_u32 (b : UInt8) : ((b.toNat : Nat) : Int) = u32 (bw b) := by
  unfold u32 bw; rw [BitVec.toNat_ofNat]; have := b.toNat_lt; omega
@[go_sem] theorem wrap_byte (b : UInt8) : IntKind.u32.wrap ((b.toNat : Nat) : Int) = u32 (bw b) := by
  rw [wrap_u32_emod, ← bw_u32]; have := b.toNat_lt; omega
@[go_sem] theorem wrap_word (x : BitVec 32) : IntKind.u32.wrap (u32 x) = u32 x := by
  rw [wrap_u32_emod]; have := u32_lo x; have := u32_hi x; omega

/-- The element at a place; nought behind the end. -/
def at8 (l : List UInt8) (j : Nat) : UInt8 := l.getD j 0
def at32 (L : List (BitVec 32)) (j : Nat) : BitVec 32 := L.getD j 0#32

/-- The word that bytes make, the most significant one first. -/
def wordOf (l : List UInt8) : BitVec 32 := l.foldl (fun a c => a <<< 8 ||| bw c) 0#32
theorem wordOf_snoc (l : List UInt8) (c : UInt8) : wordOf (l ++ [c]) = wordOf l <<< 8 ||| bw c := by
  simp [wordOf]

/-- The state between two blocks, and the eight words within a block. -/
structure St where
  a : BitVec 32
  b : BitVec 32
  c : BitVec 32
  d : BitVec 32
  e : BitVec 32
  f : BitVec 32
  g : BitVec 32
  h : BitVec 32

def small0 (x : BitVec 32) : BitVec 32 := rotr x 7 ^^^ rotr x 18 ^^^ x >>> 3
def small1 (x : BitVec 32) : BitVec 32 := rotr x 17 ^^^ rotr x 19 ^^^ x >>> 10
def big0 (x : BitVec 32) : BitVec 32 := rotr x 2 ^^^ rotr x 13 ^^^ rotr x 22
def big1 (x : BitVec 32) : BitVec 32 := rotr x 6 ^^^ rotr x 11 ^^^ rotr x 25
def choose (e f g : BitVec 32) : BitVec 32 := e &&& f ^^^ ~~~e &&& g
def major (a b c : BitVec 32) : BitVec 32 := a &&& b ^^^ a &&& c ^^^ b &&& c

/-- The words that the rounds add: those of the block, then k further ones. -/
def newWord (L : List (BitVec 32)) (i : Nat) : BitVec 32 :=
  at32 L (i - 16) + small0 (at32 L (i - 15)) + at32 L (i - 7) + small1 (at32 L (i - 2))
def words16 (l : List UInt8) : List (BitVec 32) := (List.range 16).map fun j => wordOf ((l.drop (4 * j)).take 4)
/-- The first 16 words when k bytes have been read. -/
def partW (l : List UInt8) (k : Nat) : List (BitVec 32) := (List.range 16).map fun j => wordOf (((l.take k).drop (4 * j)).take 4)
theorem at32_partW (l : List UInt8) (k j : Nat) (hj : j < 16) : at32 (partW l k) j = wordOf (((l.take k).drop (4 * j)).take 4) := by simp [at32, partW, hj]
theorem at32_partW_out (l : List UInt8) (k j : Nat) (hj : 16 ≤ j) : at32 (partW l k) j = 0#32 := by simp [at32, partW, show ¬ j < 16 by omega]
theorem partW_zero (l : List UInt8) (j : Nat) : at32 (partW l 0) j = 0#32 := by
  by_cases h : j < 16
  · rw [at32_partW _ _ _ h]; simp [wordOf]
  · exact at32_partW_out _ _ _ (by omega)
theorem partW_full (l : List UInt8) (hl : l.length = 64) : partW l 64 = words16 l := by
  unfold partW words16; rw [List.take_of_length_le (by omega)]
theorem partW_step (l : List UInt8) (hl : l.length = 64) (k : Nat) (hk : k < 64) (j : Nat) :
    at32 (partW l (k + 1)) j = if j = k / 4 then at32 (partW l k) (k / 4) <<< 8 ||| bw (at8 l k) else at32 (partW l k) j := by
  have ht : l.take (k + 1) = l.take k ++ [at8 l k] := by
    rw [List.take_succ_eq_append_getElem (by omega)]; simp [at8, show k < l.length by omega]
  by_cases h : j < 16
  · rw [at32_partW _ _ _ h, ht]
    have hlen : (l.take k).length = k := by simp; omega
    by_cases e : j = k / 4
    · subst e
      rw [if_pos rfl, at32_partW _ _ _ h, ← wordOf_snoc, List.drop_append_of_le_length (by omega)]
      have h3 : (List.drop (4 * (k / 4)) (List.take k l)).length ≤ 3 := by simp; omega
      rw [List.take_of_length_le (l := List.drop (4 * (k / 4)) (List.take k l) ++ [at8 l k]) (by simp only [List.length_append, List.length_singleton]; omega),
        List.take_of_length_le (l := List.drop (4 * (k / 4)) (List.take k l)) (by omega)]
    · rw [if_neg e, at32_partW _ _ _ h]
      by_cases hlt : j < k / 4
      · rw [List.drop_append_of_le_length (by omega), List.take_append_of_le_length (by simp; omega)]
      · rw [List.drop_eq_nil_of_le (by simp; omega), List.drop_eq_nil_of_le (by omega)]
  · rw [at32_partW_out _ (k + 1) _ (by omega), if_neg (by omega), at32_partW_out _ k _ (by omega)]
def sched (l : List UInt8) : Nat → List (BitVec 32)
  | 0 => words16 l
  | k + 1 => sched l k ++ [newWord (sched l k) (16 + k)]
theorem at32_sched_step (l : List UInt8) (k j : Nat) : at32 (sched l (k + 1)) j = if j = 16 + k then newWord (sched l k) (16 + k) else at32 (sched l k) j := by
  have hl : ∀ k, (sched l k).length = 16 + k := fun k => by
    induction k with
    | zero => simp [sched, words16]
    | succ k ih => simp [sched, ih]; omega
  have h := hl k
  unfold at32
  rw [sched]
  by_cases e : j = 16 + k
  · subst e; rw [if_pos rfl]; simp [h]
  · rw [if_neg e]
    by_cases hlt : j < 16 + k
    · simp [List.getElem?_append, h, hlt]
    · rw [List.getD_eq_getElem?_getD, List.getD_eq_getElem?_getD, List.getElem?_append_right (by omega), List.getElem?_eq_none (by simp; omega), List.getElem?_eq_none (by omega)]
def kWords : List (BitVec 32) := [
  0x428a2f98, 0x71374491, 0xb5c0fbcf, 0xe9b5dba5, 0x3956c25b, 0x59f111f1, 0x923f82a4, 0xab1c5ed5,
  0xd807aa98, 0x12835b01, 0x243185be, 0x550c7dc3, 0x72be5d74, 0x80deb1fe, 0x9bdc06a7, 0xc19bf174,
  0xe49b69c1, 0xefbe4786, 0x0fc19dc6, 0x240ca1cc, 0x2de92c6f, 0x4a7484aa, 0x5cb0a9dc, 0x76f988da,
  0x983e5152, 0xa831c66d, 0xb00327c8, 0xbf597fc7, 0xc6e00bf3, 0xd5a79147, 0x06ca6351, 0x14292967,
  0x27b70a85, 0x2e1b2138, 0x4d2c6dfc, 0x53380d13, 0x650a7354, 0x766a0abb, 0x81c2c92e, 0x92722c85,
  0xa2bfe8a1, 0xa81a664b, 0xc24b8b70, 0xc76c51a3, 0xd192e819, 0xd6990624, 0xf40e3585, 0x106aa070,
  0x19a4c116, 0x1e376c08, 0x2748774c, 0x34b0bcb5, 0x391c0cb3, 0x4ed8aa4a, 0x5b9cca4f, 0x682e6ff3,
  0x748f82ee, 0x78a5636f, 0x84c87814, 0x8cc70208, 0x90befffa, 0xa4506ceb, 0xbef9a3f7, 0xc67178f2]
def iv : St := ⟨0x6a09e667, 0xbb67ae85, 0x3c6ef372, 0xa54ff53a, 0x510e527f, 0x9b05688c, 0x1f83d9ab, 0x5be0cd19⟩

/-- One round; n rounds; a block. -/
def step (k w : BitVec 32) (s : St) : St :=
  ⟨s.h + big1 s.e + choose s.e s.f s.g + k + w + (big0 s.a + major s.a s.b s.c), s.a, s.b, s.c, s.d + (s.h + big1 s.e + choose s.e s.f s.g + k + w), s.e, s.f, s.g⟩
def rounds (W : List (BitVec 32)) (s : St) : Nat → St
  | 0 => s
  | i + 1 => step (at32 kWords i) (at32 W i) (rounds W s i)
def addSt (s t : St) : St := ⟨s.a + t.a, s.b + t.b, s.c + t.c, s.d + t.d, s.e + t.e, s.f + t.f, s.g + t.g, s.h + t.h⟩
def compress (s : St) (l : List UInt8) : St := addSt s (rounds (sched l 48) s 64)

/-- The state behind n blocks of l. -/
def chain (l : List UInt8) : Nat → St
  | 0 => iv
  | n + 1 => compress (chain l n) ((l.drop (64 * n)).take 64)

/-- A word's bytes; a state's. -/
def wordBytes (x : BitVec 32) : List UInt8 := [UInt8.ofNat (x >>> 24).toNat, UInt8.ofNat (x >>> 16).toNat, UInt8.ofNat (x >>> 8).toNat, UInt8.ofNat x.toNat]
def stWords (s : St) : List (BitVec 32) := [s.a, s.b, s.c, s.d, s.e, s.f, s.g, s.h]
def stBytes (s : St) : List UInt8 := (stWords s).flatMap wordBytes

/-- The eight bytes of the number of bits. -/
def lenBytes (n : Nat) : List UInt8 := (List.range 8).map fun i => UInt8.ofNat (8 * n / 256 ^ (7 - i))
/-- What is put behind n bytes. -/
def padding (n : Nat) : List UInt8 := 0x80 :: (List.replicate ((119 - n % 64) % 64) 0 ++ lenBytes n)
theorem padding_length (n : Nat) : (padding n).length = 9 + (119 - n % 64) % 64 := by simp [padding, lenBytes]; omega
def padded (l : List UInt8) : List UInt8 := l ++ padding l.length
theorem padded_length (l : List UInt8) : (padded l).length % 64 = 0 := by
  simp only [padded, List.length_append, padding_length]; omega
/-- SHA-256. -/
def sha (l : List UInt8) : List UInt8 := stBytes (chain (padded l) ((padded l).length / 64))

/-! The bytes of the number of bits, put one by one from the last place of the block; the bytes of a state, by their places. -/
theorem byte_wrap (n : Nat) : IntKind.u8.wrap (n : Int) = (((UInt8.ofNat n).toNat : Nat) : Int) := by
  rw [UInt8.toNat_ofNat']; simp [IntKind.wrap, IntKind.bits, IntKind.signed]
theorem byte_wrap_u32 (x : BitVec 32) : IntKind.u8.wrap (u32 x) = (((UInt8.ofNat x.toNat).toNat : Nat) : Int) := byte_wrap x.toNat
def lenBlk (blk : List UInt8) (N k : Nat) : List UInt8 := blk.take (64 - k) ++ (lenBytes N).drop (8 - k)
theorem lenBlk_length (blk : List UInt8) (N k : Nat) (h : blk.length = 64) (hk : k ≤ 8) : (lenBlk blk N k).length = 64 := by simp [lenBlk, lenBytes, h]; omega
theorem lenBlk_zero (blk : List UInt8) (N : Nat) (h : blk.length = 64) : lenBlk blk N 0 = blk := by
  unfold lenBlk
  rw [List.take_of_length_le (by omega), List.drop_eq_nil_of_le (by simp [lenBytes]), List.append_nil]
theorem lenBlk_step (blk : List UInt8) (N k : Nat) (h : blk.length = 64) (hk : k < 8) (i : Nat) (hi : i < 64) :
    at8 (lenBlk blk N (k + 1)) i = if i = 63 - k then UInt8.ofNat (8 * N / 256 ^ k) else at8 (lenBlk blk N k) i := by
  unfold at8 lenBlk
  have hl : (lenBytes N).length = 8 := by simp [lenBytes]
  have h1 : (blk.take (64 - k)).length = 64 - k := by simp; omega
  have h2 : (blk.take (64 - (k + 1))).length = 63 - k := by simp; omega
  rw [List.getD_eq_getElem?_getD, List.getD_eq_getElem?_getD]
  by_cases e : i = 63 - k
  · subst e
    rw [if_pos rfl, List.getElem?_append_right (by omega), h2, Nat.sub_self, List.getElem?_drop]
    simp only [lenBytes, List.getElem?_map]
    rw [show 8 - (k + 1) + 0 = 7 - k by omega, List.getElem?_range (by omega)]
    simp only [Option.map_some, Option.getD_some]
    rw [show 7 - (7 - k) = k by omega]
  · rw [if_neg e]
    congr 1
    by_cases hlt : i < 63 - k
    · rw [List.getElem?_append_left (by omega), List.getElem?_append_left (by omega), List.getElem?_take_of_lt (by omega), List.getElem?_take_of_lt (by omega)]
    · rw [List.getElem?_append_right (by omega), List.getElem?_append_right (by omega), h1, h2, List.getElem?_drop, List.getElem?_drop]
      congr 1; omega
def digestAt (s : St) (i : Nat) : UInt8 := UInt8.ofNat (at32 (stWords s) (i / 4) >>> (8 * (3 - i % 4))).toNat
theorem stBytes_eq (s : St) : stBytes s = (List.range 32).map (digestAt s) := by
  simp only [stBytes, stWords, wordBytes, List.range_eq_range', List.flatMap_cons, List.flatMap_nil, List.cons_append, List.nil_append, List.append_nil]
  simp only [List.range', List.map_cons, List.map_nil, digestAt, at32, stWords]
  simp
theorem stBytes_length (s : St) : (stBytes s).length = 32 := by rw [stBytes_eq]; simp

end Go.Proofs.YtpmlkofceidnjaaGreatDoor
