/-
  The contracts of gname's checkNumber, EncodeList and DecodeList.
-/
import Derived.Test.YtflpajbcomhkpaaGreatDoorUbg
import Derived.Test.YtflpajbcomhkpaaGreatDoorUbi
import Derived.Test.YtflpajbcomhkpaaGreatDoorUap
import Derived.Test.YtflpajbcomhkpaaGreatDoorUbf
namespace Go.Proofs.YtflpajbcomhkpaaGreatDoor
open Go.RowKit

def numE (n : Nat) : Nat := if n = 0 then 7 else if 16 < n then 2 else 0
set_option maxHeartbeats 1000000 in
theorem number_any (n : Nat) (w : World) : Calls Tryz.prog 46 #[.int .i64 (n : Int)] w fun e w' => e = .returned (.int .i64 ((numE n : Nat) : Int)) ∧ w' = w := by
  by_cases h0 : n = 0
  · subst h0
    rw [show numE 0 = 7 from rfl]
    go_enter Tryz.func46, Tryz.ntmps46
    go_wp2_with fail
    go_ret
    exact ⟨rfl, rfl⟩
  have d0 : ((n : Int) == 0) = false := beq_eq_false_iff_ne.2 (by omega)
  have d1 : (n == 0) = false := beq_eq_false_iff_ne.2 h0
  by_cases h1 : 16 < n
  · have e0 : decide ((16 : Int) < (n : Int)) = true := decide_eq_true (by omega)
    have e1 : decide (16 < n) = true := decide_eq_true h1
    rw [show numE n = 2 by unfold numE; rw [if_neg h0, if_pos h1]]
    clear h0 h1
    go_enter Tryz.func46, Tryz.ntmps46
    go_wp2_with fail
    go_ret
    exact ⟨rfl, rfl⟩
  · have e0 : decide ((16 : Int) < (n : Int)) = false := decide_eq_false (by omega)
    have e1 : decide (16 < n) = false := decide_eq_false h1
    rw [show numE n = 0 by unfold numE; rw [if_neg h0, if_neg h1]]
    clear h0 h1
    go_enter Tryz.func46, Tryz.ntmps46
    go_wp2_with fail
    go_ret
    exact ⟨rfl, rfl⟩
theorem Bld.below {B b : Nat} {l : List UInt8} {w w' : World} (h : Bld B b l w) (hb : Below w.heap.size w w') : Bld B b l w' := by
  have key : ∀ p, Lib.BuilderAt 80 5 B b p (Lib.byteCells l) w → Lib.BuilderAt 80 5 B b p (Lib.byteCells l) w' := fun p hq => by
    have hlt := hq.lt
    obtain ⟨hB, v, hv, hown, hne⟩ := hq
    exact ⟨hB, v, (hb.block b hlt).trans hv, World.ownsRow.kept (row := none) hown ⟨hb.os, hb.tape, hb.output, hb.size, fun k hk _ => hb.block k hk⟩ (Classical.em _), hne⟩
  exact h.elim (fun x => .inl (key _ x)) (fun x => .inr (key _ x))
theorem Bld.fresh (w : World) : Bld w.heap.size w.heap.size [] (w.alloc (.cells #[.pointer none, .slice none 0 0] 80)) := Lib.fresh_isBuilder _ _ w
theorem eG_size (g : Gn) : (eG g).size ≤ 131080 := by
  unfold eG encG
  split
  · split <;> exact wrapStr_size _ _
  · decide
theorem eGs_size : ∀ (l : List Gn), (cat_t (l.map eG)).length ≤ 131080 * l.length
  | [] => by simp [cat_t]
  | g :: l => by
    have h1 := eGs_size l
    have h2 := eG_size g
    have e : cat_t ((g :: l).map eG) = (eG g).data.toList ++ cat_t (l.map eG) := rfl
    have e2 : (eG g).data.toList.length = (eG g).size := rfl
    rw [e, List.length_append, List.length_cons]
    omega
set_option maxRecDepth 100000 in
set_option maxHeartbeats 8000000 in
theorem gelist_core (a0 : Option Addr) (c m : Nat) (l : List Gn) (w : World) (h : GLies w a0 l) (hn : m = l.length) (hq : ∀ i, i < l.length → (l.getD i noG).2.1.length ≤ 150000 ∧ SmallN (l.getD i noG).2.2) (hT : Tab w) (hmk : Mk w) :
    Calls Tryz.prog 20 #[.slice a0 m c] w fun e w' => e = .returned (.tuple #[.string (listV l).1, .int .i64 (((listV l).2 : Nat) : Int)]) ∧ Below w.heap.size w w' := by
  obtain ⟨R, hR⟩ : ∃ R, R = listV l := ⟨_, rfl⟩
  rw [← hR]
  have HR := Lib.hid hR
  clear hR
  have HNU := Lib.hid (number_any m w)
  by_cases hz : numE m = 0
  case neg =>
    have HV := Lib.hid (show R = (⟨#[]⟩, numE m) by
      rw [HR.out]; unfold listV; unfold numE at hz ⊢
      rw [← hn]
      by_cases h0 : m = 0
      · rw [if_pos h0, if_pos h0]
      · rw [if_neg h0] at hz ⊢
        rw [if_neg h0]
        by_cases h1 : 16 < m
        · rw [if_pos h1, if_pos h1]
        · rw [if_neg h1] at hz; exact absurd rfl hz)
    have hz1 := errno_ne hz
    generalize numE m = E at HNU HV hz1
    clear h hn hq hT hmk hz
    go_enter Tryz.func20, Tryz.ntmps20
    go_wp2_with (go_at_call 46; (with_reducible refine HNU.out.mono ?_); rintro e w1 ⟨rfl, rfl⟩)
    go_ret2
    exact ⟨by rw [HV.out]; rfl, Below.refl _ _⟩
  have hm16 : m ≤ 16 := by
    unfold numE at hz
    by_cases h0 : m = 0
    · omega
    · rw [if_neg h0] at hz
      by_cases h1 : 16 < m
      · rw [if_pos h1] at hz; cases hz
      · omega
  have hm0 : m ≠ 0 := fun e => by rw [e] at hz; cases hz
  rw [hz] at HNU
  have HV := Lib.hid (show R = if errL l = 0 then (⟨(cat_t (l.map eG)).toArray⟩, 0) else (⟨#[]⟩, errL l) by rw [HR.out]; unfold listV; rw [if_neg (by omega), if_neg (by omega)])
  have H1 := Lib.hid h
  have HN := Lib.hid hn
  have HQ := Lib.hid hq
  have HE := Lib.hid (fun W (hb : Below w.heap.size w W) a1 c1 N q t n (hl : RLies W a1 n) (hN : N = n.length) (ht : t.length ≤ 150000) (hs : SmallN n) => genc_core a1 c1 N q t n false W hl hN ht hs (hT.below hb) (hmk.below hb))
  clear h hn hq hz hT hmk
  go_enter Tryz.func20, Tryz.ntmps20
  go_upto_region 5 with (go_at_call 46; (with_reducible refine HNU.out.mono ?_); rintro e w1 ⟨rfl, rfl⟩)
  obtain ⟨W1, hW1⟩ : ∃ W1, W1 = w1.alloc (.cells #[.pointer none, .slice none 0 0] 80) := ⟨_, rfl⟩
  obtain ⟨b, hb⟩ : ∃ b, b = w1.heap.size := ⟨_, rfl⟩
  have hbW : Below w1.heap.size w1 W1 := by rw [hW1]; exact belowNew w1 _
  have HD1 := Lib.hid (show Bld b b [] W1 by rw [hW1, hb]; exact Bld.fresh w1)
  have HS1 := Lib.hid (show b ≤ W1.heap.size by rw [hb]; exact hbW.size)
  have HWB := Lib.hid (show w1.heap.size ≤ b by rw [hb]; exact Nat.le_refl _)
  have HB1 := Lib.hid hbW
  try rw [← hW1]
  try rw [← hb]
  clear hW1 hb hbW
  go_wp2_with fail
  go_loopw [18] (fun i wr => ∃ k : Nat, k ≤ m ∧ i = .int .i64 (k : Int) ∧ Bld b b (cat_t ((l.take k).map eG)) wr ∧ errL l = errL (l.drop k) ∧ b ≤ wr.heap.size ∧ Below w1.heap.size w1 wr) (fun i _ => m - (intOf i).toNat)
  case atStart => exact ⟨0, Nat.zero_le _, rfl, HD1.out, rfl, HS1.out, HB1.out⟩
  case round =>
    obtain ⟨wz, hwz⟩ : ∃ wz, wz = wr := ⟨_, rfl⟩
    subst hwz
    obtain ⟨k, hk, rfl, hd, hE, hs, hb⟩ := hrel
    have HB := Lib.hid hb
    have HD := Lib.hid hd
    have HER := Lib.hid hE
    have HS := Lib.hid hs
    clear hb hd hE hs
    by_cases hlt : k < m
    · have hd : decide ((k : Int) < (m : Int)) = true := by simp; omega
      obtain ⟨x, o, rfl, _, e0, e1, a1, c1, e2, hc1, hL1⟩ := (H1.out.below HB.out).at k (by rw [← HN.out]; exact hlt)
      have hqk := HQ.out k (by rw [← HN.out]; exact hlt)
      have hst := errL_step l k (by rw [← HN.out]; exact hlt)
      have htk : (l.take (k + 1)).map eG = (l.take k).map eG ++ [eG (l.getD k noG)] := by rw [takeG l k (by rw [← HN.out]; exact hlt)]; simp
      generalize l.getD k noG = G at e0 e1 e2 hL1 hc1 hqk hst htk
      obtain ⟨q, t, n⟩ := G
      simp only at e0 e1 e2 hL1 hc1 hqk
      obtain ⟨N, hNn⟩ : ∃ N, N = n.length := ⟨_, rfl⟩
      rw [← hNn] at e2
      obtain ⟨W2, hW2⟩ : ∃ W2, W2 = wz.alloc (.cells #[.int .i64 q, .string (strOf t), .slice a1 N c1] 32) := ⟨_, rfl⟩
      have hb2 : Below wz.heap.size wz W2 := by rw [hW2]; exact belowNew wz _
      obtain ⟨g0, g1, g2, _⟩ := three_facts (w := W2) (g := wz.heap.size) (by rw [hW2]; exact heap_alloc_new wz _)
      have HB2 := Lib.hid (below_next HB.out hb2)
      have HX := Lib.hid (HE.out W2 HB2.out a1 c1 N q t n (hL1.below hb2) hNn hqk.1 hqk.2)
      have HD2 := Lib.hid (HD.out.below hb2)
      have HS2 := Lib.hid (Nat.le_trans HS.out hb2.size)
      have hsz := eG_size (q, t, n)
      have hcl := eGs_size (l.take k)
      have hxe : xG (q, t, n) = chkG false q t n := rfl
      have hee : eG (q, t, n) = encG false q t n := rfl
      rw [hee] at htk hsz
      rw [hxe] at hst
      have HWE := hW2.symm
      generalize encG false q t n = Y at HX hsz htk
      generalize chkG false q t n = E at HX hst
      clear hxe hee hL1 hc1 hqk hNn hb2 hW2
      by_cases hz : E = 0
      · subst hz
        have HEN := Lib.hid (show errL l = errL (l.drop (k + 1)) by rw [HER.out, hst, if_neg (by simp)])
        have HTK := Lib.hid (show cat_t ((l.take k).map eG) ++ Y.data.toList = cat_t ((l.take (k + 1)).map eG) by rw [htk, cat_append_t]; simp [cat_t])
        have HLN := Lib.hid (show (cat_t ((l.take k).map eG)).length + Y.size ≤ 140737488355328 by rw [List.length_take] at hcl; omega)
        clear hst htk hsz hcl
        go_wp2_with (first
          | (go_at_call 30; (with_reducible refine HX.out.mono ?_); rintro e w3 ⟨rfl, hb3⟩; have HB3 := Lib.hid (below_next HB2.out hb3); have HD3 := Lib.hid (HD2.out.below hb3); have HS3 := Lib.hid (Nat.le_trans HS2.out hb3.size); clear hb3)
          | (go_at_call 47; (with_reducible refine (writeString_any b b _ Y _ HD3.out HLN.out HS3.out).mono ?_); rintro e w4 ⟨rfl, hd4, hb4⟩; have HD4 := Lib.hid (show Bld b b (cat_t ((l.take (k + 1)).map eG)) w4 by rw [← HTK.out]; exact hd4); have HB4 := Lib.hid (show Below w1.heap.size w1 w4 from HB3.out.trans (hb4.mono HWB.out)); have HS4 := Lib.hid (Nat.le_trans HS3.out hb4.size); clear hd4 hb4))
        go_roundw
        case rel => exact ⟨k + 1, by omega, by go_num, HD4.out, HEN.out, HS4.out, HB4.out⟩
        case measure => simp [intOf]; omega
      · have hz1 := errno_ne hz
        have HF := Lib.hid (show R = (⟨#[]⟩, E) by rw [HV.out, HER.out, hst, if_pos hz, if_neg hz])
        clear hst htk hsz hz hcl
        go_wp2_with (go_at_call 30; (with_reducible refine HX.out.mono ?_); rintro e w3 ⟨rfl, hb3⟩; have HB3 := Lib.hid (below_next HB2.out hb3); clear hb3)
        go_ret2
        exact ⟨by rw [HF.out]; rfl, HB3.out⟩
    · have hd : decide ((k : Int) < (m : Int)) = false := by simp; omega
      obtain rfl : k = m := by omega
      have htk : l.take k = l := List.take_of_length_le (by rw [← HN.out]; exact Nat.le_refl _)
      rw [htk] at HD
      have HF := Lib.hid (show R = (⟨(cat_t (l.map eG)).toArray⟩, 0) by
        have h1 : errL l = 0 := by rw [HER.out, List.drop_of_length_le (by rw [← HN.out]; exact Nat.le_refl _)]; rfl
        rw [HV.out, if_pos h1])
      clear htk
      go_wp2_with (go_at_call 48; (with_reducible refine (string_any b b _ _ HD.out HS.out).mono ?_); rintro e w6 ⟨rfl, hb6⟩; have HB6 := Lib.hid (show Below w1.heap.size w1 w6 from HB.out.trans (hb6.mono HWB.out)); clear hb6)
      go_ret2
      exact ⟨by rw [HF.out]; rfl, HB6.out⟩
abbrev noEl3 : El := (0, ⟨#[]⟩, ⟨#[]⟩)
noncomputable def decEl (e : El) : Nat × Gn := decG false ((e.1 : Nat) : Int) e.2.1
noncomputable def decGs : List El → Nat × List Gn
  | [] => (0, [])
  | e :: r => if (decEl e).1 ≠ 0 then ((decEl e).1, []) else if (decGs r).1 ≠ 0 then ((decGs r).1, []) else (0, (decEl e).2 :: (decGs r).2)
noncomputable def dlst (b : ByteArray) : Nat × List Gn := if (lst b).2 ≠ 0 then ((lst b).2, []) else if numE (lst b).1.length ≠ 0 then (numE (lst b).1.length, []) else decGs (lst b).1
def aheadG (l : List Gn) (X : Nat × List Gn) : Nat × List Gn := if X.1 ≠ 0 then (X.1, []) else (0, l ++ X.2)
theorem decGs_nil : ∀ {L : List El}, (decGs L).1 ≠ 0 → decGs L = ((decGs L).1, [])
  | [], h => absurd rfl h
  | e :: r, h => by
    unfold decGs at h ⊢
    split
    · rfl
    · rename_i h1
      rw [if_neg h1] at h
      split
      · rfl
      · rename_i h2; rw [if_neg h2] at h; exact absurd rfl h
theorem decGs_ahead (L : List El) : decGs L = aheadG [] (decGs L) := by
  unfold aheadG
  by_cases h : (decGs L).1 ≠ 0
  · rw [if_pos h]; exact decGs_nil h
  · rw [if_neg h]
    exact Prod.ext (by simpa using h) rfl
theorem decGs_step : ∀ (L : List El) (k : Nat), k < L.length → decGs (L.drop k) = if (decEl (L.getD k noEl3)).1 ≠ 0 then ((decEl (L.getD k noEl3)).1, []) else if (decGs (L.drop (k + 1))).1 ≠ 0 then ((decGs (L.drop (k + 1))).1, []) else (0, (decEl (L.getD k noEl3)).2 :: (decGs (L.drop (k + 1))).2)
  | [], k, h => absurd h (Nat.not_lt_zero _)
  | e :: r, 0, _ => rfl
  | e :: r, k + 1, h => by
    have := decGs_step r k (by simpa using h)
    simpa using this
theorem aheadG_bad {l : List Gn} {E : Nat} {X : List Gn} (h : E ≠ 0) : aheadG l (E, X) = (E, []) := if_pos h
theorem aheadG_go {l : List Gn} {g : Gn} {X : Nat × List Gn} : aheadG l (if X.1 ≠ 0 then (X.1, []) else (0, g :: X.2)) = aheadG (l ++ [g]) X := by
  unfold aheadG
  by_cases h : X.1 ≠ 0
  · rw [if_pos h]; simp only []; rw [if_pos h, if_pos h]
  · rw [if_neg h]; simp only []; rw [if_neg (by simp), if_neg h, List.append_assoc]; rfl
theorem decEl_small {e : El} (h : e.2.1.size ≤ 150000) : SmallN (decEl e).2.2.2 := by
  have h0 : SmallN [] := ⟨by decide, fun i hi => absurd hi (Nat.not_lt_zero _)⟩
  unfold decEl decG
  split
  · split <;> exact h0
  · split
    · split
      · exact decN_small (by omega)
      · exact h0
    · exact h0
/-- A list and an error number as a function hands them back. -/
def LRes (w : World) (G : Nat × List Gn) (e : Ending) (w' : World) : Prop := ∃ a c, e = .returned (.tuple #[.slice a G.2.length c, .int .i64 ((G.1 : Nat) : Int)]) ∧ GLies w' a G.2 ∧ Below w.heap.size w w'
set_option maxRecDepth 100000 in
set_option maxHeartbeats 8000000 in
theorem gdlist_core (b : ByteArray) (w : World) (hs : b.size ≤ 150000) (hT : Tab w) (hP : Pow10 w) (hmk : Mk w) :
    Calls Tryz.prog 22 #[.string b] w fun e w' => LRes w (dlst b) e w' := by
  have HL := Lib.hid (list_any b w (by omega))
  have HMM := Lib.hid (fun e (he : e ∈ (lst b).1) => Nat.le_trans (lst_mem _ b (Nat.le_refl _) e he) hs)
  obtain ⟨R, hR⟩ : ∃ R, R = dlst b := ⟨_, rfl⟩
  rw [← hR]
  unfold dlst at hR
  generalize lst b = LE at HL HMM hR
  obtain ⟨L, er⟩ := LE
  simp only at HL HMM hR
  have HR := Lib.hid hR
  clear hR
  obtain ⟨n, hn⟩ : ∃ n, n = L.length := ⟨_, rfl⟩
  have HN := Lib.hid hn
  by_cases her : er = 0
  case neg =>
    have hz1 := errno_ne her
    have hz2 : ((er : Int) == 0) = false := by simp; omega
    have HV := Lib.hid (show R = (er, []) by rw [HR.out, if_pos her])
    clear her hn hT hP hmk
    go_enter Tryz.func22, Tryz.ntmps22
    go_wp2_with (go_at_call 49; (with_reducible refine HL.out.mono ?_); rintro e w1 ⟨v, rfl, ho, hb1⟩; obtain ⟨a1, c1, rfl, _⟩ := ElAt.of ho; have HB1 := Lib.hid hb1; clear ho hb1)
    go_ret2
    exact ⟨none, 0, by rw [HV.out]; rfl, by rw [HV.out]; exact .inl rfl, HB1.out⟩
  subst her

  have HNU := Lib.hid (fun W => number_any n W)
  by_cases hz : numE n = 0
  case neg =>
    have hz1 := errno_ne hz
    have HV := Lib.hid (show R = (numE n, []) by rw [HR.out, if_neg (by simp), ← HN.out, if_pos hz])
    generalize numE n = E at HNU HV hz1
    clear hz hT hP hmk hn
    go_enter Tryz.func22, Tryz.ntmps22
    go_wp2_with (first
      | (go_at_call 49; (with_reducible refine HL.out.mono ?_); rintro e w1 ⟨v, rfl, ho, hb1⟩; obtain ⟨a1, c1, rfl, hc1, hel, heb⟩ := ElAt.of ho; rw [← HN.out] at hc1 ⊢; have HEL := Lib.hid hel; have HEB := Lib.hid heb; clear heb; have HB1 := Lib.hid hb1; clear ho hb1 hel)
      | (go_at_call 46; (with_reducible refine (HNU.out _).mono ?_); rintro e w2 ⟨rfl, rfl⟩))
    go_ret2
    exact ⟨none, 0, by rw [HV.out]; rfl, by rw [HV.out]; exact .inl rfl, HB1.out⟩
  have hm16 : n ≤ 16 := by
    unfold numE at hz
    by_cases h0 : n = 0
    · omega
    · rw [if_neg h0] at hz
      by_cases h1 : 16 < n
      · rw [if_pos h1] at hz; cases hz
      · omega
  have HV := Lib.hid (show R = decGs L by rw [HR.out, if_neg (by simp), ← HN.out, if_neg (by rw [hz]; simp)])
  rw [hz] at HNU
  have HDC := Lib.hid (fun W (hb : Below w.heap.size w W) (T : Int) (ct rw : ByteArray) (hc : ct.size ≤ 150000) => gdec_core T ct rw false W hc (hT.below hb) (hP.below hb) (hmk.below hb))
  have HMK := Lib.hid (fun W => gns_make n (by omega) W)
  clear hz hT hP hmk hn
  go_enter Tryz.func22, Tryz.ntmps22
  go_upto_region 6 with (first
    | (go_at_call 49; (with_reducible refine HL.out.mono ?_); rintro e w1 ⟨v, rfl, ho, hb1⟩; obtain ⟨a1, c1, rfl, hc1, hel, heb⟩ := ElAt.of ho; rw [← HN.out] at hc1 ⊢; have HEL := Lib.hid hel; have HEB := Lib.hid heb; clear heb; have HB1 := Lib.hid hb1; clear ho hb1 hel)
    | (go_at_call 46; (with_reducible refine (HNU.out _).mono ?_); rintro e w2 ⟨rfl, rfl⟩))
  obtain ⟨cs, hcs, hmk⟩ := HMK.out w2
  go_wp2_with fail
  obtain ⟨W3, hW3⟩ : ∃ W3, W3 = w2.alloc (.cells cs 32) := ⟨_, rfl⟩
  obtain ⟨G, hG⟩ : ∃ G, G = w2.heap.size := ⟨_, rfl⟩
  have hb3 : Below w2.heap.size w2 W3 := by rw [hW3]; exact belowNew w2 _
  have HG3 := Lib.hid (show GRow W3 w.heap.size G n [] from ⟨cs, by rw [hW3, hG]; exact heap_alloc_new w2 _, hcs, [], rfl, fun i j hi => absurd hi (Nat.not_lt_zero _), fun i hi => absurd hi (Nat.not_lt_zero _)⟩)
  have hwG : w.heap.size ≤ G := by rw [hG]; exact HB1.out.size
  have HB3 := Lib.hid (below_next HB1.out hb3)
  have HEL3 := Lib.hid (HEL.out.below hb3)
  rw [← hW3, ← hG]
  clear hcs hmk hW3 hb3
  have HGW := Lib.hid hG
  clear hG
  go_wp2_with fail
  go_loopw [27] (fun i wr => ∃ (k : Nat) (l : List Gn), k ≤ n ∧ i = .int .i64 (k : Int) ∧ l.length = k ∧ GRow wr w.heap.size G n l ∧ R = aheadG l (decGs (L.drop k)) ∧ ElAt wr a1 L ∧ (∀ i, i < l.length → SmallN (l.getD i noG).2.2) ∧ Below w.heap.size w wr) (fun i _ => n - (intOf i).toNat)
  case atStart => exact ⟨0, [], Nat.zero_le _, rfl, rfl, HG3.out, by rw [HV.out]; exact decGs_ahead L, HEL3.out, fun i hi => absurd hi (Nat.not_lt_zero _), HB3.out⟩
  case round =>
    obtain ⟨wz, hwz⟩ : ∃ wz, wz = wr := ⟨_, rfl⟩
    subst hwz
    obtain ⟨k, l, hk, rfl, hlk, hg, hR, hel, hsm, hb⟩ := hrel
    have HB := Lib.hid hb
    have HG := Lib.hid hg
    have HRR := Lib.hid hR
    have HE := Lib.hid hel
    have HLK := Lib.hid hlk
    have HSM := Lib.hid hsm
    clear hb hg hR hel hlk hsm
    by_cases hlt : k < n
    · have hd : decide ((k : Int) < (n : Int)) = true := by simp; omega
      obtain ⟨x, o, rfl, hcl⟩ := HE.out.resolve_left (fun e => by have := HN.out; rw [e] at this; simp at this; omega)
      obtain ⟨x0, x1, x2⟩ := hcl k (by rw [← HN.out]; exact hlt)
      have hst := decGs_step L k (by rw [← HN.out]; exact hlt)
      have hmem := HMM.out (L.getD k noEl3) (by rw [List.getD_eq_getElem?_getD, List.getElem?_eq_getElem (by rw [← HN.out]; exact hlt)]; exact List.getElem_mem _)
      have hds := decEl_small hmem
      rw [show ((0 : Nat), (⟨#[]⟩ : ByteArray), (⟨#[]⟩ : ByteArray)) = noEl3 from rfl] at x0 x1 x2
      have hde : decEl (L.getD k noEl3) = decG false (((L.getD k noEl3).1 : Nat) : Int) (L.getD k noEl3).2.1 := rfl
      generalize L.getD k noEl3 = y at x0 x1 x2 hst hmem hds hde
      obtain ⟨yt, yc, yr⟩ := y
      simp only at x0 x1 x2 hmem hde
      obtain ⟨W2, hW2⟩ : ∃ W2, W2 = wz.alloc (.cells #[.int .i64 ((yt : Nat) : Int), .string yc, .string yr] 23) := ⟨_, rfl⟩
      have hb2 : Below wz.heap.size wz W2 := by rw [hW2]; exact belowNew wz _
      obtain ⟨g0, g1, g2, _⟩ := three_facts (w := W2) (g := wz.heap.size) (by rw [hW2]; exact heap_alloc_new wz _)
      have HB2 := Lib.hid (below_next HB.out hb2)
      have HG2 := Lib.hid (HG.out.below hb2)
      have HE2 := Lib.hid (HE.out.below hb2)
      have HX := Lib.hid (HDC.out W2 HB2.out ((yt : Nat) : Int) yc yr hmem)
      rw [← hde] at HX
      generalize decEl (yt, yc, yr) = Z at HX hst hds
      obtain ⟨E, q, t, m⟩ := Z
      simp only at hst hds
      have HWE := hW2.symm
      have HDS := Lib.hid hds
      have HLT := Lib.hid hlt
      clear hcl hmem hde hW2 hb2 hds
      have HXB := Lib.hid (show L ≠ [] from fun e => by have := HN.out; rw [e] at this; simp at this; omega)
      by_cases hz : E = 0
      · subst hz
        have HRN := Lib.hid (show R = aheadG (l ++ [(q, t, m)]) (decGs (L.drop (k + 1))) by rw [HRR.out, hst, if_neg (by simp)]; exact aheadG_go)
        clear hst
        go_upto_region 10 with fail
        try rw [HWE]
        clear x0 x1 x2 HWE
        go_wp2_with (go_at_call 15; (with_reducible refine HX.out.mono ?_); rintro e w4 ⟨s4, rfl, hso, hb4⟩; obtain ⟨a4, c4, rfl, hcs, hrl⟩ := hso.lies; have HB4 := Lib.hid (below_next HB2.out hb4); have HG4 := Lib.hid (HG2.out.below hb4); have HE4 := Lib.hid (HE2.out.below hb4); have HO4 := Lib.hid (hso.base HB2.out.size); clear hcs hrl hso hb4; obtain ⟨⟨r0, hr0⟩, s0⟩ := HG4.out.cell (k * 3) (by have := HLT.out; omega); obtain ⟨⟨r1, hr1⟩, s1⟩ := HG4.out.cell (k * 3 + 1) (by have := HLT.out; omega); obtain ⟨⟨r2, hr2⟩, s2⟩ := HG4.out.cell (k * 3 + 2) (by have := HLT.out; omega))
        have hs := ((But.set G (k * 3) w4 (.int .i64 q)).next (But.set G (k * 3 + 1) _ (.string (strOf t)))).next (But.set G (k * 3 + 2) _ (.slice a4 m.length c4))
        have hGl : G < w4.heap.size := by obtain ⟨cs, h1, _⟩ := HG4.out; exact (Array.getElem?_eq_some_iff.1 h1).1
        go_roundw
        case rel => exact ⟨k + 1, l ++ [(q, t, m)], by omega, by go_num, by rw [List.length_append, HLK.out]; rfl, GRow.put (g := (q, t, m)) HG4.out HLK.out.symm HLT.out HO4.out, HRN.out, HE4.out.but hs (fun x hx hl => by have h1 := (HEB.out x hx HXB.out).2; have h2 := HGW.out; omega), fun i hi => by
            by_cases hil : i < l.length
            · rw [getD_snoc_lt _ _ _ _ hil]; exact HSM.out i hil
            · rw [List.length_append, List.length_singleton] at hi
              obtain rfl : i = l.length := by omega
              rw [getD_snoc_eq]; exact HDS.out, HB4.out.trans ((hs.below (Nat.le_of_lt hGl)).mono hwG)⟩
        case measure => simp [intOf]; omega
      · have hz1 := errno_ne hz
        have HF := Lib.hid (show R = (E, []) by rw [HRR.out, hst, if_pos hz]; exact aheadG_bad hz)
        clear hst hz
        go_upto_region 10 with fail
        try rw [HWE]
        clear x0 x1 x2 HWE
        go_wp2_with (go_at_call 15; (with_reducible refine HX.out.mono ?_); rintro e w4 ⟨s4, rfl, hso, hb4⟩; obtain ⟨a4, c4, rfl, hcs, hrl⟩ := hso.lies; have HB4 := Lib.hid (below_next HB2.out hb4); have HG4 := Lib.hid (HG2.out.below hb4); clear hcs hrl hso hb4; obtain ⟨⟨r0, hr0⟩, s0⟩ := HG4.out.cell (k * 3) (by have := HLT.out; omega); obtain ⟨⟨r1, hr1⟩, s1⟩ := HG4.out.cell (k * 3 + 1) (by have := HLT.out; omega); obtain ⟨⟨r2, hr2⟩, s2⟩ := HG4.out.cell (k * 3 + 2) (by have := HLT.out; omega))
        have hs := ((But.set G (k * 3) w4 (.int .i64 q)).next (But.set G (k * 3 + 1) _ (.string (strOf t)))).next (But.set G (k * 3 + 2) _ (.slice a4 m.length c4))
        have hGl : G < w4.heap.size := by obtain ⟨cs, h1, _⟩ := HG4.out; exact (Array.getElem?_eq_some_iff.1 h1).1
        go_ret2
        exact ⟨none, 0, by rw [HF.out]; rfl, by rw [HF.out]; exact .inl rfl, HB4.out.trans ((hs.below (Nat.le_of_lt hGl)).mono hwG)⟩
    · have hd : decide ((k : Int) < (n : Int)) = false := by simp; omega
      obtain rfl : k = n := by omega
      have HF := Lib.hid (show R = (0, l) by rw [HRR.out, List.drop_of_length_le (by rw [← HN.out]; exact Nat.le_refl _)]; unfold aheadG decGs; simp)
      have HLL := Lib.hid HLK.out
      go_wp2_with fail
      go_ret2
      exact ⟨some ⟨G, 0, none⟩, k, by rw [HF.out, HLL.out]; rfl, by rw [HF.out]; exact HG.out.lies, HB.out⟩
end Go.Proofs.YtflpajbcomhkpaaGreatDoor
