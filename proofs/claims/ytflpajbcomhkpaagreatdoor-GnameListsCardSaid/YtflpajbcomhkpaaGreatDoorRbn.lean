/-
  The contract of the reference's DecodeList.
  The walk of the law GnameLists: for every list of general names, every slice of ints, every number and every string it returns true, and leaves all that was there as it was.
-/
import Derived.Test.YtflpajbcomhkpaaGreatDoorRbm
import Derived.Test.YtflpajbcomhkpaaGreatDoorRbg
import Derived.Test.YtflpajbcomhkpaaGreatDoorRbh
import Derived.Test.YtflpajbcomhkpaaGreatDoorRbf
namespace Go.Proofs.YtflpajbcomhkpaaGreatDoor
open Go.RowKit

set_option maxRecDepth 100000 in
set_option maxHeartbeats 8000000 in
theorem rdlist_core (b : ByteArray) (w : World) (hs : b.size ≤ 150000) :
    Calls Tryz.prog 23 #[.string b] w fun e w' => LRes w (dlst b) e w' := by
  have HL := Lib.hid (rlist_any b w (by omega))
  have HMM := Lib.hid (fun e (he : e ∈ (lst b).1) => Nat.le_trans (lst_mem _ b (Nat.le_refl _) e he) hs)
  obtain ⟨R, hR⟩ : ∃ R, R = dlst b := ⟨_, rfl⟩
  rw [← hR]
  unfold dlst at hR
  generalize lst b = LE at HL HMM hR
  obtain ⟨L, er⟩ := LE
  simp only at HL HMM hR
  have HR := Lib.hid hR
  clear hR
  obtain ⟨n, hn⟩ : ∃ n, n = L.length := ⟨_, rfl⟩
  have HN := Lib.hid hn
  by_cases her : er = 0
  case neg =>
    have hz1 := errno_ne her
    have hz2 : ((er : Int) == 0) = false := by simp; omega
    have HV := Lib.hid (show R = (er, []) by rw [HR.out, if_pos her])
    clear her hn
    go_enter Tryz.func23, Tryz.ntmps23
    go_wp2_with (go_at_call 40; (with_reducible refine HL.out.mono ?_); rintro e w1 ⟨v, rfl, ho, hb1⟩; obtain ⟨a1, c1, rfl, _⟩ := ElAt.of ho; have HB1 := Lib.hid hb1; clear ho hb1)
    go_ret2
    exact ⟨none, 0, by rw [HV.out]; rfl, by rw [HV.out]; exact .inl rfl, HB1.out⟩
  subst her

  have HV0 := Lib.hid (show R = if numE n ≠ 0 then (numE n, []) else decGs L by rw [HR.out, if_neg (by simp), ← HN.out])
  by_cases h0 : n = 0
  · have d0 : ((n : Int) == 0) = true := beq_iff_eq.2 (by omega)
    have d1 : (n == 0) = true := beq_iff_eq.2 h0
    have HV := Lib.hid (show R = (7, []) by rw [HV0.out, h0]; rfl)
    clear hn h0
    go_enter Tryz.func23, Tryz.ntmps23
    go_wp2_with (go_at_call 40; (with_reducible refine HL.out.mono ?_); rintro e w1 ⟨v, rfl, ho, hb1⟩; obtain ⟨a1, c1, rfl, hc1, hel, heb⟩ := ElAt.of ho; rw [← HN.out] at hc1 ⊢; have HEL := Lib.hid hel; have HEB := Lib.hid heb; clear heb; have HB1 := Lib.hid hb1; clear ho hb1 hel)
    go_ret2
    exact ⟨none, 0, by rw [HV.out]; rfl, by rw [HV.out]; exact .inl rfl, HB1.out⟩
  have d0 : ((n : Int) == 0) = false := beq_eq_false_iff_ne.2 (by omega)
  have d1 : (n == 0) = false := beq_eq_false_iff_ne.2 h0
  by_cases h1 : 16 < n
  · have e0 : decide ((16 : Int) < (n : Int)) = true := decide_eq_true (by omega)
    have e1 : decide (16 < n) = true := decide_eq_true h1
    have HV := Lib.hid (show R = (2, []) by rw [HV0.out]; unfold numE; rw [if_neg h0, if_pos h1]; rfl)
    clear hn h0 h1
    go_enter Tryz.func23, Tryz.ntmps23
    go_wp2_with (go_at_call 40; (with_reducible refine HL.out.mono ?_); rintro e w1 ⟨v, rfl, ho, hb1⟩; obtain ⟨a1, c1, rfl, hc1, hel, heb⟩ := ElAt.of ho; rw [← HN.out] at hc1 ⊢; have HEL := Lib.hid hel; have HEB := Lib.hid heb; clear heb; have HB1 := Lib.hid hb1; clear ho hb1 hel)
    go_ret2
    exact ⟨none, 0, by rw [HV.out]; rfl, by rw [HV.out]; exact .inl rfl, HB1.out⟩
  have e0 : decide ((16 : Int) < (n : Int)) = false := decide_eq_false (by omega)
  have e1 : decide (16 < n) = false := decide_eq_false h1
  have hm16 : n ≤ 16 := by omega
  have HV := Lib.hid (show R = decGs L by rw [HV0.out]; unfold numE; rw [if_neg h0, if_neg h1, if_neg (by simp)])
  obtain ⟨i0, hi, hz0, hz1, hz2⟩ := info_parts gInfo
  clear hn h0 h1
  go_enter Tryz.func23, Tryz.ntmps23
  go_wp2_with (go_at_call 40; (with_reducible refine HL.out.mono ?_); rintro e w1 ⟨v, rfl, ho, hb1⟩; obtain ⟨a1, c1, rfl, hc1, hel, heb⟩ := ElAt.of ho; rw [← HN.out] at hc1 ⊢; have HEL := Lib.hid hel; have HEB := Lib.hid heb; clear heb; have HB1 := Lib.hid hb1; clear ho hb1 hel)
  clear d0 d1 e0 e1
  go_loopw [6, 27] (fun v i wr => ∃ (k : Nat) (l : List Gn), k ≤ n ∧ i = .int .i64 (k : Int) ∧ l.length = k ∧ OwnG wr w1.heap.size v l ∧ R = aheadG l (decGs (L.drop k)) ∧ Below w1.heap.size w1 wr) (fun _ i _ => n - (intOf i).toNat)
  case atStart => exact ⟨0, [], Nat.zero_le _, rfl, rfl, OwnG.nil _ _, by rw [HV.out]; exact decGs_ahead L, Below.refl _ _⟩
  case round =>
    obtain ⟨wz, hwz⟩ : ∃ wz, wz = wr := ⟨_, rfl⟩
    subst hwz
    obtain ⟨k, l, hk, rfl, hlk, hg, hR, hb⟩ := hrel
    obtain ⟨av, cv, hv6, _, hgl⟩ := hg.lies
    have HGL := Lib.hid hgl
    have HB := Lib.hid hb
    have HW := Lib.hid (below_next HB1.out hb)
    have HG := Lib.hid hg
    have HRR := Lib.hid hR
    have HE := Lib.hid (HEL.out.below hb)
    have HLK := Lib.hid hlk
    subst hv6
    clear hb hg hR hlk hgl
    by_cases hlt : k < n
    · have hd : decide ((k : Int) < (n : Int)) = true := by simp; omega
      obtain ⟨x, o, rfl, hcl⟩ := HE.out.resolve_left (fun e => by have := HN.out; rw [e] at this; simp at this; omega)
      obtain ⟨x0, x1, x2⟩ := hcl k (by rw [← HN.out]; exact hlt)
      have hst := decGs_step L k (by rw [← HN.out]; exact hlt)
      have hmem := HMM.out (L.getD k noEl3) (by rw [List.getD_eq_getElem?_getD, List.getElem?_eq_getElem (by rw [← HN.out]; exact hlt)]; exact List.getElem_mem _)
      rw [show ((0 : Nat), (⟨#[]⟩ : ByteArray), (⟨#[]⟩ : ByteArray)) = noEl3 from rfl] at x0 x1 x2
      have hde : decEl (L.getD k noEl3) = decG false (((L.getD k noEl3).1 : Nat) : Int) (L.getD k noEl3).2.1 := rfl
      generalize L.getD k noEl3 = y at x0 x1 x2 hst hmem hde
      obtain ⟨yt, yc, yr⟩ := y
      simp only at x0 x1 x2 hmem hde
      obtain ⟨W2, hW2⟩ : ∃ W2, W2 = wz.alloc (.cells #[.int .i64 ((yt : Nat) : Int), .string yc, .string yr] 23) := ⟨_, rfl⟩
      have hb2 : Below wz.heap.size wz W2 := by rw [hW2]; exact belowNew wz _
      obtain ⟨g0, g1, g2, _⟩ := three_facts (w := W2) (g := wz.heap.size) (by rw [hW2]; exact heap_alloc_new wz _)
      have HB2 := Lib.hid (below_next HB.out hb2)
      have HW2 := Lib.hid (below_next HW.out hb2)
      have HG2 := Lib.hid (HG.out.below hb2)
      have HX := Lib.hid (rdecG_core ((yt : Nat) : Int) yc yr false W2 hmem)
      rw [← hde] at HX
      generalize decEl (yt, yc, yr) = Z at HX hst
      obtain ⟨E, q, t, m⟩ := Z
      simp only at hst HX
      have HWE := hW2.symm
      have HLT := Lib.hid hlt
      clear hcl hmem hde hW2 hb2
      have RA : ∀ (e : Ending) (w' : World), e = e → w' = w' := fun _ _ _ => rfl
      by_cases hz : E = 0
      · subst hz
        have HRN := Lib.hid (show R = aheadG (l ++ [(q, t, m)]) (decGs (L.drop (k + 1))) by rw [HRR.out, hst, if_neg (by simp)]; exact aheadG_go)
        clear hst RA
        go_upto_region 13 with (go_at_call 16; (with_reducible refine HX.out.mono ?_); rintro e w4 ⟨s4, rfl, hso, hb4⟩; obtain ⟨a4, c4, rfl, hcs, hrl⟩ := hso.lies; have HB4 := Lib.hid (below_next HB2.out hb4); have HW4 := Lib.hid (below_next HW2.out hb4); have HG4 := Lib.hid (HG2.out.below hb4); have HO4 := Lib.hid (hso.base HB2.out.size); clear hcs hrl hso hb4)
        obtain ⟨W5, hW5⟩ : ∃ W5, W5 = w4.alloc (.cells #[.int .i64 q, .string (strOf t), .slice a4 m.length c4] 32) := ⟨_, rfl⟩
        obtain ⟨g5, hg5⟩ : ∃ g5, g5 = w4.heap.size := ⟨_, rfl⟩
        have hb5 : Below w4.heap.size w4 W5 := by rw [hW5]; exact belowNew w4 _
        obtain ⟨f0, f1, f2, _⟩ := three_facts (w := W5) (g := g5) (by rw [hW5, hg5]; exact heap_alloc_new w4 _)
        have HB5 := Lib.hid (below_next HB4.out hb5)
        have HW5 := Lib.hid (below_next HW4.out hb5)
        have HO5 := Lib.hid (HO4.out.below hb5)
        obtain ⟨ss, hv1, hv2, hv3⟩ := HG4.out.below hb5
        have HV1 := Lib.hid hv1
        have HV2 := Lib.hid hv2
        have HV3 := Lib.hid hv3
        rw [← hW5, ← hg5]
        have hll : l.length ≤ 16 := by have := HLK.out; have := HLT.out; omega
        have hws := HB5.out.size
        clear hW5 hg5 hb5 hv1 hv2 hv3 x0 x1 x2 g0 g1 g2 HWE
        go_wp2_with (at_builtin; (refine wpList_append_own _ rfl (.tmp 39) (.tmp 41) 46 rfl w1.heap.size 32 i0 (.agg #[.int .i64 0, .string ⟨#[]⟩, .slice none 0 0]) 3 48 Tryz.underlying46 hi hz0 hz1 hz2 rfl (by decide) _ l.length (gsCells l ss) rfl (own_below HV2.out (belowNew _ _)) ⟨W5.heap.size, 0, none⟩ 1 1 (gCells (q, t, m) (.slice a4 m.length c4)) rfl rfl (fun j u h => news_row W5 #[.int .i64 q, .string (strOf t), .slice a4 m.length c4] 32 j u (by simpa [gCells] using h)) (gCells_one _ _ _ _) (by unfold maxLen; omega) (by omega) (by simp; omega) ?_); intro v' w6 hown6 hgr6 _; have P3 := OwnG.snoc HV1.out (own_below HV2.out (belowNew _ _)) (fun i hi => (HV3.out i hi).below (belowNew _ _)) (HO5.out.below (belowNew _ _)) hgr6 hown6; have P2 := (HB5.out.trans ((belowNew W5 _).mono HB5.out.size)).grown hgr6 (by have := HB5.out.size; simp; omega) (fun j e => (World.ownsRow.lt HV2.out j e).1); obtain ⟨a6, c6, hv6, _, _⟩ := P3.lies; rw [List.length_append, List.length_singleton] at hv6; subst hv6; have HP3 := Lib.hid P3; have HP2 := Lib.hid P2; clear P2 P3 hown6 hgr6)
        go_roundw
        case rel => exact ⟨k + 1, l ++ [(q, t, m)], by omega, by go_num, by rw [List.length_append, HLK.out]; rfl, HP3.out, HRN.out, HP2.out⟩
        case measure => simp [intOf]; omega
      · have hz1 := errno_ne hz
        have HF := Lib.hid (show R = (E, []) by rw [HRR.out, hst, if_pos hz]; exact aheadG_bad hz)
        clear hst hz RA
        go_wp2_with (go_at_call 16; (with_reducible refine HX.out.mono ?_); rintro e w4 ⟨s4, rfl, hso, hb4⟩; obtain ⟨a4, c4, rfl, hcs, hrl⟩ := hso.lies; have HW4 := Lib.hid (below_next HW2.out hb4); clear hcs hrl hso hb4)
        go_ret2
        exact ⟨none, 0, by rw [HF.out]; rfl, by rw [HF.out]; exact .inl rfl, below_next HW4.out (belowNew _ _)⟩
    · have hd : decide ((k : Int) < (n : Int)) = false := by simp; omega
      obtain rfl : k = n := by omega
      have HF := Lib.hid (show R = (0, l) by rw [HRR.out, List.drop_of_length_le (by rw [← HN.out]; exact Nat.le_refl _)]; unfold aheadG decGs; simp)
      go_wp2_with fail
      go_ret2
      exact ⟨av, cv, by rw [HF.out]; rfl, by rw [HF.out]; exact HGL.out, HW.out⟩
end Go.Proofs.YtflpajbcomhkpaaGreatDoor
namespace Go.Proofs.YtflpajbcomhkpaaGreatDoor
open Go.RowKit

theorem decGs_small : ∀ {L : List El}, (∀ e ∈ L, e.2.1.size ≤ 150000) → (decGs L).2.length ≤ L.length ∧ ∀ i, i < (decGs L).2.length → SmallN ((decGs L).2.getD i noG).2.2
  | [], _ => ⟨Nat.le_refl _, fun i hi => absurd hi (Nat.not_lt_zero _)⟩
  | e :: r, h => by
    obtain ⟨h1, h2⟩ := decGs_small (L := r) (fun x hx => h x (List.mem_cons_of_mem _ hx))
    have h3 := decEl_small (h e List.mem_cons_self)
    unfold decGs
    split
    · exact ⟨Nat.zero_le _, fun i hi => absurd hi (Nat.not_lt_zero _)⟩
    · split
      · exact ⟨Nat.zero_le _, fun i hi => absurd hi (Nat.not_lt_zero _)⟩
      · refine ⟨by simpa using h1, fun i hi => ?_⟩
        cases i with
        | zero => exact h3
        | succ i => exact h2 i (by simpa using hi)
theorem numE_zero {n : Nat} (h : numE n = 0) : n ≤ 16 := by
  unfold numE at h
  by_cases h0 : n = 0
  · omega
  · rw [if_neg h0] at h
    by_cases h1 : 16 < n
    · rw [if_pos h1] at h; cases h
    · omega
theorem dlst_small {b : ByteArray} (h : b.size ≤ 150000) : (dlst b).2.length ≤ 16 ∧ ∀ i, i < (dlst b).2.length → SmallN ((dlst b).2.getD i noG).2.2 := by
  unfold dlst
  split
  · exact ⟨Nat.zero_le _, fun i hi => absurd hi (Nat.not_lt_zero _)⟩
  · split
    · exact ⟨Nat.zero_le _, fun i hi => absurd hi (Nat.not_lt_zero _)⟩
    · rename_i h2
      have h3 := numE_zero (Classical.not_not.1 h2)
      obtain ⟨h4, h5⟩ := decGs_small (L := (lst b).1) (fun e he => Nat.le_trans (lst_mem _ b (Nat.le_refl _) e he) h)
      exact ⟨Nat.le_trans h4 h3, h5⟩
def MadeL (L : List Gn) : Prop := ∀ i, i < L.length → (L.getD i noG).2.1.length ≤ 64 ∧ MadeN (L.getD i noG).2.2
theorem MadeL.snoc {L : List Gn} {g : Gn} (h : MadeL L) (h1 : g.2.1.length ≤ 64) (h2 : MadeN g.2.2) : MadeL (L ++ [g]) := fun i hi => by
  by_cases hil : i < L.length
  · rw [getD_snoc_lt _ _ _ _ hil]; exact h i hil
  · rw [List.length_append, List.length_singleton] at hi
    obtain rfl : i = L.length := by omega
    rw [getD_snoc_eq]; exact ⟨h1, h2⟩
set_option maxRecDepth 100000 in
set_option maxHeartbeats 16000000 in
theorem glislaw (hPE : PEnc) (hPM : PMatch) (a0 : Option Addr) (c m : Nat) (l : List Gn) (a : Option Addr) (cap : Nat) (zs : List Int) (x : Nat) (b : ByteArray) (w : World) (h : GLies w a0 l) (hn : m = l.length) (hm : m ≤ 9223372036854775807) (hq : ∀ i, i < l.length → BigG (l.getD i noG))
    (hl : ILies w a zs) (hz : zs.length ≤ 9223372036854775807) (_ : x < 256) (hT : Tab w) (hP : Pow10 w) (hmk : Mk w) :
    Calls Tryz.prog 4 #[.slice a0 m c, .slice a zs.length cap, .int .u8 (x : Int), .string b] w fun e w' => e = .returned (.bool true) ∧ Below w.heap.size w w' := by
  have HS := Lib.hid (shorts_any a0 c m l w h hn hm hq)
  have HGL := Lib.hid (fun V (hb : Below w.heap.size w V) => h.below hb)
  have HAW := Lib.hid (fun V (hb : Below w.heap.size w V) => gawake_any hPE hPM V (hT.below hb) (hmk.below hb))
  have HEL := Lib.hid (fun V (hb : Below w.heap.size w V) a1 c1 N (L : List Gn) (hG : GLies V a1 L) (hN : N = L.length) (hs : ∀ i, i < L.length → (L.getD i noG).2.1.length ≤ 150000 ∧ SmallN (L.getD i noG).2.2) => gelist_core a1 c1 N L V hG hN hs (hT.below hb) (hmk.below hb))
  have HDL := Lib.hid (fun V (hb : Below w.heap.size w V) s (hs : s.size ≤ 150000) => gdlist_core s V hs (hT.below hb) (hP.below hb) (hmk.below hb))
  have HNW := Lib.hid (fun V (hb : Below w.heap.size w V) => new_any a cap zs V (hl.below hb (fun x hx hne => by
    rcases hl with h | ⟨b, o, rfl, h⟩
    · exact absurd h hne
    · obtain rfl := Option.some.inj hx
      cases zs with
      | nil => exact absurd rfl hne
      | cons z t => exact block_lt (h 0 (by simp)))) hz)
  have HN := Lib.hid hn
  have HR0 := Lib.hid (Below.refl w.heap.size w)
  obtain ⟨y, hy⟩ : ∃ y, y = x % 20 := ⟨_, rfl⟩
  have y1 : (x : Int) % 20 = (y : Int) := by omega
  have y20 : y < 20 := by omega
  clear h hn hm hq hl hz hT hP hmk hPE hPM hy
  go_enter Tryz.func4, Tryz.ntmps4
  go_wp2_with fail
  refine HS.out.mono ?_
  rintro e w1 ⟨hS, hb1⟩
  have HB1 := Lib.hid hb1
  clear hb1 HS
  rcases hS with ⟨rfl, hl20, hsh⟩ | rfl
  case inr =>
    go_wp2_with (go_at_call 7; (with_reducible refine (HAW.out _ HB1.out).mono ?_); rintro e w2 ⟨rfl, hb9⟩; have HZ1 := Lib.hid (below_next HB1.out hb9); clear hb9)
    go_ret
    exact ⟨rfl, HZ1.out⟩
  have HSH := Lib.hid hsh
  have HL20 := Lib.hid hl20
  clear hsh hl20
  by_cases h3 : 300 < b.size
  · have hd : decide ((300 : Int) < (b.size : Int)) = true := decide_eq_true (by omega)
    clear h3
    go_wp2_with (go_at_call 7; (with_reducible refine (HAW.out _ HB1.out).mono ?_); rintro e w2 ⟨rfl, hb9⟩; have HZ1 := Lib.hid (below_next HB1.out hb9); clear hb9)
    go_ret
    exact ⟨rfl, HZ1.out⟩
  have hd : decide ((300 : Int) < (b.size : Int)) = false := decide_eq_false (by omega)
  have HBZ := Lib.hid (show b.size ≤ 300 by omega)
  have HNW1 := Lib.hid (HNW.out w1 HB1.out)
  clear h3
  go_upto_region 4 with (go_at_call 8; (with_reducible refine HNW1.out.mono ?_); rintro e w3 ⟨rfl, hd3, hb3⟩; have HD3 := Lib.hid hd3; have HB3 := Lib.hid hb3; clear hd3 hb3)
  obtain ⟨p, hp⟩ : ∃ p, p = w1.heap.size := ⟨_, rfl⟩
  have HP := Lib.hid hp
  rw [← hp] at HD3 ⊢
  have HWP := Lib.hid (show w.heap.size ≤ p by rw [hp]; exact HB1.out.size)
  have HB13 := Lib.hid (below_next HB1.out HB3.out)
  obtain ⟨i0, hi, hz0, hz1, hz2⟩ := info_parts gInfo
  have hp3 := HD3.out.lt
  clear hp HNW HNW1 hd HB3
  go_wp2_with fail
  go_loopw [10, 11] (fun v i wr => ∃ (j kk : Nat) (L : List Gn), j ≤ y ∧ i = .int .i64 (j : Int) ∧ L.length = j ∧ OwnG wr w3.heap.size v L ∧ DeckAt wr p a cap zs kk ∧ kk ≤ 12 * j ∧ MadeL L ∧ But p w3 wr) (fun _ i _ => y - (intOf i).toNat)
  case atStart => exact ⟨0, 0, [], Nat.zero_le _, rfl, rfl, OwnG.nil _ _, HD3.out, Nat.zero_le _, fun i hi => absurd hi (Nat.not_lt_zero _), But.refl _ _⟩
  case round =>
    obtain ⟨wz, hwz⟩ : ∃ wz, wz = wr := ⟨_, rfl⟩
    subst hwz
    obtain ⟨j, kk, L, hj, rfl, hL, hg, hdk, hk, hml, hb⟩ := hrel
    obtain ⟨av, cv, hv6, hcv, hgl⟩ := hg.lies
    have HGV := Lib.hid hgl
    have HB := Lib.hid hb
    have HG := Lib.hid hg
    have HD := Lib.hid hdk
    have HK := Lib.hid hk
    have HL := Lib.hid hL
    have HML := Lib.hid hml
    have hsz := hb.size
    subst hv6
    clear hb hg hL hgl hdk hk hml hcv
    by_cases hlt : j < y
    · have hd : decide ((j : Int) < (y : Int)) = true := decide_eq_true (by omega)
      have HGE := Lib.hid (general_any p a cap zs kk wz HD.out (by have := HK.out; omega))
      have HJ := Lib.hid hlt
      have hll : L.length ≤ 20 := by have := HL.out; omega
      obtain ⟨ss, hv1, hv2, hv3⟩ := HG.out
      clear hlt
      go_wp2_with (first
        | (go_at_call 19; (with_reducible refine HGE.out.mono ?_); rintro e w4 ⟨q, t, sq, n, k4, hG, rfl, hso, hd4, hk4, hb4⟩; obtain ⟨aq, cq, rfl, hcs, _⟩ := hso.lies; clear hcs; have HGN := Lib.hid (gen_len hG); have hbn := belowNew w4 (.cells #[.int .i64 q, .string (strOf t), .slice aq n.length cq] 32); have HO4 := Lib.hid (hso.base hsz); have HD4 := Lib.hid hd4; have HK4 := Lib.hid (show k4 ≤ 12 * (j + 1) by have := HK.out; omega); have HB4 := Lib.hid (HB.out.next hb4); have HV1 := Lib.hid hv1; have HV2 := Lib.hid (own_apart hv2 HD.out.1 (by decide) hb4); have HV3 := Lib.hid (fun i hi => (hv3 i hi).apart HD.out.1 (by decide) (by decide) hb4); have hs4 := HB4.out.size; clear hG hso hd4 hk4 hb4)
        | (at_builtin; (refine wpList_append_own _ rfl (.tmp 47) (.tmp 50) 46 rfl w3.heap.size 32 i0 (.agg #[.int .i64 0, .string ⟨#[]⟩, .slice none 0 0]) 3 48 Tryz.underlying46 hi hz0 hz1 hz2 rfl (by decide) _ L.length (gsCells L ss) rfl (own_below HV2.out (belowNew _ _)) ⟨w4.heap.size, 0, none⟩ 1 1 (gCells (q, t, n) (.slice aq n.length cq)) rfl rfl (fun j u h => news_row w4 #[.int .i64 q, .string (strOf t), .slice aq n.length cq] 32 j u (by simpa [gCells] using h)) (gCells_one _ _ _ _) (by unfold maxLen; omega) (by omega) (by simp; omega) ?_); intro v' w6 hown6 hgr6 _; have P3 := OwnG.snoc HV1.out (own_below HV2.out (belowNew _ _)) (fun i hi => (HV3.out i hi).below (belowNew _ _)) (HO4.out.below (belowNew _ _)) hgr6 hown6; have P2 := but_row HB4.out (belowNew w4 _) HV2.out (Nat.le_refl _) hgr6; have P4 := (HD4.out.below (belowNew w4 _)).grown hgr6 (fun j e => Nat.lt_of_lt_of_le hp3 (World.ownsRow.lt HV2.out j e).1); obtain ⟨a6, c6, hv6, _, _⟩ := P3.lies; rw [List.length_append, List.length_singleton] at hv6; subst hv6; have HP3 := Lib.hid P3; have HP2 := Lib.hid P2; have HP4 := Lib.hid P4; clear P2 P3 P4 hown6 hgr6))
      go_roundw
      case rel => exact ⟨j + 1, k4, L ++ [(q, t, n)], by have := HJ.out; omega, by go_num, by rw [List.length_append, HL.out]; rfl, HP3.out, HP4.out, HK4.out, HML.out.snoc HGN.out.1 HGN.out.2, HP2.out⟩
      case measure => have := HJ.out; simp [intOf]; omega
    · have hd : decide ((j : Int) < (y : Int)) = false := decide_eq_false (by omega)
      have hL20 : L.length ≤ 19 := by have := HL.out; omega
      have HWZ := Lib.hid (show Below w.heap.size w wz from HB13.out.trans ((HB.out.below (Nat.le_of_lt hp3)).mono HWP.out))
      go_upto_region 10 with fail
      obtain ⟨U, hU⟩ : ∃ U, U = wz.alloc (.cells #[.slice a0 m c, .slice av L.length cv] 46) := ⟨_, rfl⟩
      obtain ⟨G, hG⟩ : ∃ G, G = wz.heap.size := ⟨_, rfl⟩
      have hbU : Below wz.heap.size wz U := by rw [hU]; exact belowNew wz _
      have hc : ∀ j, U.cell? ⟨G, j, none⟩ = (#[.slice a0 m c, .slice av L.length cv] : Array Value)[j]? := fun j => by
        rw [hU, hG]
        exact cell_of_row _ _ j _ _ _ (heap_alloc_new wz _)
      have HWU := Lib.hid (below_next HWZ.out hbU)
      have HROW := Lib.hid (show ∀ i, i < 2 → ∃ (a1 : Option Addr) (N c1 : Nat) (l1 : List Gn), U.cell? ⟨G, i, none⟩ = some (.slice a1 N c1) ∧ N = l1.length ∧ N ≤ 1000 ∧ GLies U a1 l1 ∧ ∀ i, i < l1.length → (l1.getD i noG).2.1.length ≤ 150000 ∧ SmallN (l1.getD i noG).2.2 from fun i hi => by
        obtain rfl | rfl : i = 0 ∨ i = 1 := by omega
        · exact ⟨a0, m, c, l, hc 0, HN.out, by have := HL20.out; have := HN.out; omega, HGL.out U HWU.out, fun i hi => ⟨Nat.le_trans (HSH.out i hi).1 (by omega), (HSH.out i hi).small⟩⟩
        · exact ⟨av, L.length, cv, L, hc 1, rfl, by omega, HGV.out.below hbU, fun i hi => ⟨Nat.le_trans (HML.out i hi).1 (by omega), madeN_small (HML.out i hi).2⟩⟩)
      have HDU := Lib.hid (HD.out.below hbU)
      have HGU := Lib.hid (HGV.out.below hbU)
      rw [← hU, ← hG]
      try rw [y1]
      have HKK := Lib.hid (show kk ≤ 240 by have := HK.out; omega)
      clear hU hG hbU hc HGL HSH HG HB HD HK HGV HB13
      go_loopw [56] (fun i wr => ∃ j : Nat, j ≤ 2 ∧ i = .int .i64 (j : Int) ∧ Below U.heap.size U wr) (fun i _ => 2 - (intOf i).toNat)
      case atStart => exact ⟨0, Nat.zero_le _, rfl, Below.refl _ _⟩
      case round =>
        obtain ⟨wy, hwy⟩ : ∃ wy, wy = wr := ⟨_, rfl⟩
        subst hwy
        obtain ⟨j2, hj2, rfl, hb⟩ := hrel
        have HBY := Lib.hid hb
        have HWY := Lib.hid (below_next HWU.out hb)
        clear hb
        by_cases hlt2 : j2 < 2
        · have hd2 : decide ((j2 : Int) < 2) = true := decide_eq_true (by omega)
          obtain ⟨a1, N, c1, l1, z0, hNn, hN1, hG1, hs1⟩ := HROW.out j2 hlt2
          have e0 := (HBY.out.cell (block_lt z0)).trans z0
          have P1 := Lib.hid (HEL.out wy HWY.out a1 c1 N l1 (hG1.below HBY.out) hNn hs1)
          have P2 := Lib.hid (fun W (hb : Below wy.heap.size wy W) => relist_core a1 c1 N l1 W ((hG1.below HBY.out).below hb) hNn (by omega) hs1)
          generalize listV l1 = R at P1 P2
          obtain ⟨S, E⟩ := R
          simp only at P1 P2
          have hss : (S.toList != S.toList) = false := by simp
          have hse : (S.toList == S.toList) = true := by simp
          have hee : ((E : Int) != (E : Int)) = false := by simp
          have HJ2 := Lib.hid hlt2
          clear z0 hG1 hs1 hNn hN1
          go_wp2_with (first
            | (go_at_call 20; (with_reducible refine P1.out.mono ?_); rintro e y1 ⟨rfl, hb1⟩; have HY1 := Lib.hid hb1; clear hb1)
            | (go_at_call 21; (with_reducible refine (P2.out _ HY1.out).mono ?_); rintro e y2 ⟨rfl, hb2⟩; have HY2 := Lib.hid (below_next HY1.out hb2); clear hb2))
          go_roundw
          case rel => exact ⟨j2 + 1, by have := HJ2.out; omega, by go_num, HBY.out.trans (HY2.out.mono HBY.out.size)⟩
          case measure => have := HJ2.out; simp [intOf]; omega
        · have ej : j2 = 2 := by omega
          subst ej
          try rw [show ((2 : Nat) : Int) = 2 from rfl]
          have hd2 : decide ((2 : Int) < 2) = false := by decide
          have HGY := Lib.hid (HGU.out.below HBY.out)
          have HDY := Lib.hid (HDU.out.below HBY.out)
          clear hlt2 hj2 HROW
          go_wp2_with fail
          go_loopw [18, 81] (fun u i wr => ∃ (k : Nat) (S : ByteArray), k ≤ L.length ∧ i = .int .i64 (k : Int) ∧ u = .string S ∧ S.size ≤ 660 * k ∧ Below wy.heap.size wy wr) (fun _ i _ => L.length - (intOf i).toNat)
          case atStart => exact ⟨0, ⟨#[]⟩, Nat.zero_le _, rfl, rfl, Nat.zero_le _, Below.refl _ _⟩
          case round =>
            obtain ⟨wx, hwx⟩ : ∃ wx, wx = wr := ⟨_, rfl⟩
            subst hwx
            obtain ⟨k, S, hk, rfl, rfl, hS, hb⟩ := hrel
            have HBX := Lib.hid hb
            have HSZ := Lib.hid hS
            clear hb hS
            by_cases hlt3 : k < L.length
            · have hd3 : decide ((k : Int) < (L.length : Int)) = true := decide_eq_true (by omega)
              obtain ⟨g, o, rfl, _, e0, e1, a1, c1, e2, hc1, hL1⟩ := (HGY.out.below HBX.out).at k hlt3
              have hml := HML.out k hlt3
              generalize L.getD k noG = Z at e0 e1 e2 hL1 hc1 hml
              obtain ⟨q, t, n⟩ := Z
              simp only at e0 e1 e2 hL1 hc1 hml
              obtain ⟨N, hNn⟩ : ∃ N, N = n.length := ⟨_, rfl⟩
              rw [← hNn] at e2
              obtain ⟨W2, hW2⟩ : ∃ W2, W2 = wx.alloc (.cells #[.int .i64 q, .string (strOf t), .slice a1 N c1] 32) := ⟨_, rfl⟩
              have hb2 : Below wx.heap.size wx W2 := by rw [hW2]; exact belowNew wx _
              obtain ⟨g0, g1, g2, _⟩ := three_facts (w := W2) (g := wx.heap.size) (by rw [hW2]; exact heap_alloc_new wx _)
              have HB2 := Lib.hid (below_next HBX.out hb2)
              have HX := Lib.hid (rencG_core a1 c1 N q t n false W2 (hL1.below hb2) hNn (by omega) (madeN_small hml.2))
              have hes := encG_small (con := false) (k := q) hml.1 hml.2
              generalize encG false q t n = Y at HX hes
              generalize chkG false q t n = E at HX
              have hcat : ∀ w, (Op.stringOp .add S Y).run Tryz.prog w = .ok (.string (S ++ Y)) w := fun w => cat_any S Y (by have := HSZ.out; omega) w
              have HSS := Lib.hid (show (S ++ Y).size ≤ 660 * (k + 1) by rw [ByteArray.size_append]; have := HSZ.out; omega)
              generalize S ++ Y = S2 at hcat HSS
              have HWE := hW2.symm
              have HK3 := Lib.hid hlt3
              clear hL1 hc1 hml hNn hb2 hW2 hes
              go_wp2_with (go_at_call 10; (with_reducible refine HX.out.mono ?_); rintro e w4 ⟨rfl, hb4⟩; have HB4 := Lib.hid (below_next HB2.out hb4); clear hb4)
              go_roundw
              case rel => exact ⟨k + 1, S2, by have := HK3.out; omega, by go_num, rfl, HSS.out, HB4.out⟩
              case measure => have := HK3.out; simp [intOf]; omega
            · have hd3 : decide ((k : Int) < (L.length : Int)) = false := decide_eq_false (by omega)
              have HSX := Lib.hid (show S.size ≤ 20000 by have := HSZ.out; omega)
              have HDX := Lib.hid (HDY.out.below HBX.out)
              have HWX := Lib.hid (below_next HWY.out HBX.out)
              go_upto_region 25 with (go_at_call 14; (with_reducible refine (damage_all p a cap zs kk S _ HDX.out (by have := HKK.out; omega) (by have := HSX.out; omega)).mono ?_); rintro e w5 ⟨s5, k5, rfl, hs5, hd5, hk5, hb5⟩; have HZ5 := Lib.hid (show s5.size ≤ 20001 by have := HSX.out; omega); have HB5 := Lib.hid (show Below w.heap.size w w5 from HWX.out.trans ((hb5.below (Nat.le_of_lt HDX.out.lt)).mono HWP.out)); clear hs5 hd5 hk5 hb5)
              obtain ⟨V, hV⟩ : ∃ V, V = w5.alloc (.cells #[.string b, .string S, .string s5] 9) := ⟨_, rfl⟩
              obtain ⟨H, hH⟩ : ∃ H, H = w5.heap.size := ⟨_, rfl⟩
              have hbV : Below w5.heap.size w5 V := by rw [hV]; exact belowNew w5 _
              have hc : ∀ j, V.cell? ⟨H, j, none⟩ = (#[.string b, .string S, .string s5] : Array Value)[j]? := fun j => by
                rw [hV, hH]
                exact cell_of_row _ _ j _ _ _ (heap_alloc_new w5 _)
              have HSTR := Lib.hid (show ∀ i, i < 3 → ∃ s : ByteArray, V.cell? ⟨H, i, none⟩ = some (.string s) ∧ s.size ≤ 150000 from fun i hi => by
                rcases (by omega : i = 0 ∨ i = 1 ∨ i = 2) with rfl | rfl | rfl
                · exact ⟨b, hc 0, by have := HBZ.out; omega⟩
                · exact ⟨S, hc 1, by have := HSX.out; omega⟩
                · exact ⟨s5, hc 2, by have := HZ5.out; omega⟩)
              have HWV := Lib.hid (below_next HB5.out hbV)
              rw [← hV, ← hH]
              clear hV hH hbV hc HDX HDY HGY HSX HZ5 HB5 HWX HBX HSZ
              go_loopw [101] (fun i wr => ∃ j : Nat, j ≤ 3 ∧ i = .int .i64 (j : Int) ∧ Below V.heap.size V wr) (fun i _ => 3 - (intOf i).toNat)
              case atStart => exact ⟨0, Nat.zero_le _, rfl, Below.refl _ _⟩
              case round =>
                obtain ⟨wu, hwu⟩ : ∃ wu, wu = wr := ⟨_, rfl⟩
                subst hwu
                obtain ⟨j4, hj4, rfl, hb⟩ := hrel
                have HBU := Lib.hid hb
                have HWW := Lib.hid (below_next HWV.out hb)
                clear hb
                by_cases hlt4 : j4 < 3
                · have hd4 : decide ((j4 : Int) < 3) = true := decide_eq_true (by omega)
                  obtain ⟨s, z0, hsz⟩ := HSTR.out j4 hlt4
                  have e0 := (HBU.out.cell (block_lt z0)).trans z0
                  have P1 := Lib.hid (HDL.out wu HWW.out s hsz)
                  have P2 := Lib.hid (fun W => rdlist_core s W hsz)
                  have hsm := dlst_small hsz
                  generalize dlst s = Z at P1 P2 hsm
                  obtain ⟨E, M⟩ := Z
                  simp only at hsm
                  have HSN := Lib.hid hsm
                  have hee : ((E : Int) != (E : Int)) = false := by simp
                  have HJ4 := Lib.hid hlt4
                  clear z0 hsz hsm
                  go_wp2_with (first
                    | (go_at_call 22; (with_reducible refine P1.out.mono ?_); rintro e y1 ⟨a1, c1, rfl, hg1, hb1⟩; have HY1 := Lib.hid hb1; have HG1 := Lib.hid hg1; clear hb1 hg1)
                    | (go_at_call 23; (with_reducible refine (P2.out _).mono ?_); rintro e y2 ⟨a2, c2, rfl, hg2, hb2⟩; have HY2 := Lib.hid (below_next HY1.out hb2); have HG2 := Lib.hid hg2; have HG12 := Lib.hid (HG1.out.below hb2); clear hb2 hg2)
                    | (go_at_call 17; (with_reducible refine (exactG_core a1 a2 c1 c2 M.length M _ HG12.out HG2.out rfl (by have := HSN.out.1; omega) HSN.out.2).mono ?_); rintro e y3 ⟨rfl, hb3⟩; have HY3 := Lib.hid (below_next HY2.out hb3); clear hb3))
                  go_roundw
                  case rel => exact ⟨j4 + 1, by have := HJ4.out; omega, by go_num, HBU.out.trans (HY3.out.mono HBU.out.size)⟩
                  case measure => have := HJ4.out; simp [intOf]; omega
                · have ej : j4 = 3 := by omega
                  subst ej
                  have hd4 : decide (((3 : Nat) : Int) < 3) = false := by decide
                  go_wp2_with (go_at_call 7; (with_reducible refine (HAW.out _ HWW.out).mono ?_); rintro e w9 ⟨rfl, hb9⟩; have HZ9 := Lib.hid (below_next HWW.out hb9); clear hb9)
                  go_ret
                  exact ⟨rfl, HZ9.out⟩
end Go.Proofs.YtflpajbcomhkpaaGreatDoor
