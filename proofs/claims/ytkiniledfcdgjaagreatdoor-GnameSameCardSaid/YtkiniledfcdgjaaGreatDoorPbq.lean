/-
  The walk of the law GnameSame: for every slice of ints it returns true, and leaves all that was there as it was.
-/
import Derived.Test.YtkiniledfcdgjaaGreatDoorPbo
import Derived.Test.YtkiniledfcdgjaaGreatDoorPbg
namespace Go.Proofs.YtkiniledfcdgjaaGreatDoor
open Go.RowKit

theorem own_rl {w : World} {B c : Nat} {a : Option Addr} {n : Nm} (h : OwnN w B (.slice a n.length c) n) : n.length ≤ c ∧ RLies w a n := by
  obtain ⟨a', c', e, hc, hr⟩ := h.lies
  obtain ⟨rfl, rfl⟩ : a = a' ∧ c = c' := by simpa using e
  exact ⟨hc, hr⟩
/-- In the middle of the law: the first general name at g, the second at g + 1, the deck at p. -/
def SMid (w : World) (p g K : Nat) (a : Option Addr) (cap : Nat) (zs : List Int) (k : Int) (t : List UInt8) (aq : Option Addr) (cq : Nat) (n : Nm) : Prop :=
  ∃ (l : Int) (u : List UInt8) (bq : Option Addr) (dq kk : Nat) (m : Nm), w.heap[g]? = some (.cells #[.int .i64 k, .string (strOf t), .slice aq n.length cq] 26 (0, 0)) ∧
    w.heap[g + 1]? = some (.cells #[.int .i64 l, .string (strOf u), .slice bq m.length dq] 26 (0, 0)) ∧ OwnN w p (.slice aq n.length cq) n ∧ OwnN w p (.slice bq m.length dq) m ∧ DeckAt w p a cap zs kk ∧ kk ≤ K ∧ ValidG l u ∧ u.length ≤ 64 ∧ MadeN m
/-- The deck goes on, and the rest stays. -/
theorem SMid.next {w w' : World} {p g kk : Nat} {a : Option Addr} {cap : Nat} {zs : List Int} {l k : Int} {u t : List UInt8} {bq aq : Option Addr} {dq cq : Nat} {m n : Nm} (h1 : w.heap[g]? = some (.cells #[.int .i64 k, .string (strOf t), .slice aq n.length cq] 26 (0, 0)))
    (h2 : w.heap[g + 1]? = some (.cells #[.int .i64 l, .string (strOf u), .slice bq m.length dq] 26 (0, 0))) (h3 : OwnN w p (.slice aq n.length cq) n) (h4 : OwnN w p (.slice bq m.length dq) m) (hd : DeckAt w p a cap zs kk) (hb : But p w w') (hp : p < g) :
    w'.heap[g]? = some (.cells #[.int .i64 k, .string (strOf t), .slice aq n.length cq] 26 (0, 0)) ∧ w'.heap[g + 1]? = some (.cells #[.int .i64 l, .string (strOf u), .slice bq m.length dq] 26 (0, 0)) ∧ OwnN w' p (.slice aq n.length cq) n ∧ OwnN w' p (.slice bq m.length dq) m :=
  ⟨(hb.block g (Array.getElem?_eq_some_iff.1 h1).1 (by simp; omega)).trans h1, (hb.block (g + 1) (Array.getElem?_eq_some_iff.1 h2).1 (by simp; omega)).trans h2, h3.apart hd.1 (by decide) (by decide) hb, h4.apart hd.1 (by decide) (by decide) hb⟩

set_option maxRecDepth 100000 in
set_option maxHeartbeats 8000000 in
theorem gsamlaw (hPE : PEnc) (hPM : PMatch) (hPS : PSame) (hPW : PWithin) (a : Option Addr) (cap : Nat) (zs : List Int) (w : World) (hl : ILies w a zs) (hz : zs.length ≤ 9223372036854775807) (hT : Tab w) (hm : Mk w) :
    Calls Tryz.prog 5 #[.slice a zs.length cap] w fun e w' => e = .returned (.bool true) ∧ Below w.heap.size w w' := by
  have HAW := Lib.hid (fun V (hb : Below w.heap.size w V) => gawake_any hPE hPM V (hT.below hb) (hm.below hb))
  have HMX := Lib.hid (fun V (hb : Below w.heap.size w V) => hm.below hb)
  have HNW := Lib.hid (new_any a cap zs w hl hz)
  have HPS := Lib.hid hPS
  have HPW := Lib.hid hPW
  clear hl hz hT hm hPE hPM hPS hPW
  go_enter Tryz.func5, Tryz.ntmps5
  go_upto_region 2 with (go_at_call 9; (with_reducible refine HNW.out.mono ?_); rintro e w1 ⟨rfl, hd1, hb1⟩; have HD1 := Lib.hid hd1; have HB1 := Lib.hid hb1; clear hd1 hb1)
  obtain ⟨p, hp⟩ : ∃ p, p = w.heap.size := ⟨_, rfl⟩
  have HP := Lib.hid hp
  rw [← hp] at HD1 ⊢
  have HN1 := Lib.hid (general_any p a cap zs 0 w1 HD1.out (by omega))
  clear hp HNW
  go_upto_region 3 with (first
    | (go_at_call 14; (with_reducible refine HN1.out.mono ?_); rintro e w2 ⟨k, t, sq, n, k2, hG, rfl, hso, hd2, hk2, hb2⟩; obtain ⟨aq, cq, rfl, hcs, _⟩ := hso.lies; clear hcs; have HG2 := Lib.hid hG; have HO2 := Lib.hid (hso.base (Nat.le_of_lt HD1.out.lt)); have HD2 := Lib.hid hd2; have HK2 := Lib.hid hk2; have HB2 := Lib.hid hb2; have HN2 := Lib.hid (general_any p a cap zs k2 w2 hd2 (by omega)); clear hG hso hd2 hk2 hb2)
    | (go_at_call 14; (with_reducible refine HN2.out.mono ?_); rintro e w3 ⟨l, u, sq, m, k3, hG, rfl, hso, hd3, hk3, hb3⟩; obtain ⟨bq, dq, rfl, hcs, _⟩ := hso.lies; clear hcs; have HG3 := Lib.hid hG; have HO3 := Lib.hid (hso.base (Nat.le_of_lt HD2.out.lt)); have HO2' := Lib.hid (HO2.out.apart HD2.out.1 (by decide) (by decide) hb3); have HD3 := Lib.hid hd3; have HK3 := Lib.hid (show k3 ≤ 24 by have := HK2.out; omega); have HB3 := Lib.hid (HB2.out.next hb3); clear hG hso hd3 hk3 hb3))
  obtain ⟨W4, hW4⟩ : ∃ W4, W4 = (w3.alloc (.cells #[.int .i64 k, .string (strOf t), .slice aq n.length cq] 26)).alloc (.cells #[.int .i64 l, .string (strOf u), .slice bq m.length dq] 26) := ⟨_, rfl⟩
  have hb4 : Below w3.heap.size w3 W4 := by rw [hW4]; exact belowTwo w3 _ _
  have hqa : W4.heap[w3.heap.size]? = some (.cells #[.int .i64 k, .string (strOf t), .slice aq n.length cq] 26 (0, 0)) := by
    rw [hW4]; exact ((belowNew _ _).block _ (by simp)).trans (heap_alloc_new w3 _)
  have hqb : W4.heap[w3.heap.size + 1]? = some (.cells #[.int .i64 l, .string (strOf u), .slice bq m.length dq] 26 (0, 0)) := by
    have h1 := heap_alloc_new (w3.alloc (.cells #[.int .i64 k, .string (strOf t), .slice aq n.length cq] 26)) (.cells #[.int .i64 l, .string (strOf u), .slice bq m.length dq] 26)
    rw [show (w3.alloc (.cells #[.int .i64 k, .string (strOf t), .slice aq n.length cq] 26)).heap.size = w3.heap.size + 1 by simp, ← hW4] at h1
    exact h1
  obtain ⟨g, hg⟩ : ∃ g, g = w3.heap.size := ⟨_, rfl⟩
  have hpg : p < g := by rw [hg]; exact HD3.out.lt
  have hgs : w1.heap.size ≤ g := by rw [hg]; exact (HB3.out.below (Nat.le_of_lt HD1.out.lt)).size
  have HBW := Lib.hid (show But p w1 W4 from HB3.out.next (But.of hb4))
  rw [← hW4]
  rw [← hg] at hqa hqb ⊢
  have HM4 := Lib.hid (show SMid W4 p g 24 a cap zs k t aq cq n from ⟨l, u, bq, dq, k3, m, hqa, hqb, HO2'.out.below hb4, HO3.out.below hb4, HD3.out.below hb4, HK3.out, gen_valid HG3.out, (gen_len HG3.out).1, (gen_len HG3.out).2⟩)
  have HG := HG2
  clear hb4 hqa hqb hg hW4 HG2 HG3 HO2 HO2' HO3 HD2 HD3 HK2 HK3 HB2 HB3 HN1 HN2
  obtain ⟨l, u, bq, dq, k3, m, m1, m2, m3, m4, m5, m6, m7, m8, m9⟩ := HM4.out
  have HNX := Lib.hid (next2 p a cap zs k3 W4 m5 (by omega))
  have M1 := Lib.hid m1
  have M2 := Lib.hid m2
  have M3 := Lib.hid m3
  have M4 := Lib.hid m4
  have M5 := Lib.hid m5
  have M6 := Lib.hid (And.intro m6 (And.intro m7 (And.intro m8 m9)))
  clear m1 m2 m3 m4 m5 m6 m7 m8 m9 HM4
  go_upto_if 16 with (go_at_call 22; (with_reducible refine HNX.out.mono ?_); rintro e w5 ⟨r, k5, hr, rfl, hd5, hk5, hb5⟩; have HD5 := Lib.hid hd5; have HK5 := Lib.hid hk5; have HBB := Lib.hid hb5; clear hd5 hk5 hb5)
  obtain ⟨x1, x2, x3, x4⟩ := SMid.next M1.out M2.out M3.out M4.out M5.out HBB.out hpg
  have HM5 := Lib.hid (show SMid w5 p g 25 a cap zs k t aq cq n from ⟨l, u, bq, dq, k5, m, x1, x2, x3, x4, HD5.out, by have := M6.out.1; have := HK5.out; omega, M6.out.2.1, M6.out.2.2.1, M6.out.2.2.2⟩)
  have HB5 := Lib.hid (HBW.out.next HBB.out)
  clear x1 x2 x3 x4 HD5 HK5 HBB
  clear M1 M2 M3 M4 M5 M6 HNX
  go_cut [16] (fun _ wx => SMid wx p g 25 a cap zs k t aq cq n ∧ But p w1 wx)
  case first =>
    obtain rfl | rfl : r = 0 ∨ r = 1 := by omega
    · go_wp2_with fail
      go_meet
      exact ⟨HM5.out, HB5.out⟩
    · obtain ⟨l, u, bq, dq, k3, m, m1, m2, m3, m4, m5, m6, m7, m8, m9⟩ := HM5.out
      obtain ⟨c0, c1, c2, f0, f1, f2, hla⟩ := at_facts m1
      obtain ⟨d0, d1, d2, e0, e1, e2, hlb⟩ := at_facts m2
      have hs := ((But.set (g + 1) 0 w5 (.int .i64 k)).next (But.set (g + 1) 1 _ (.string (strOf t)))).next (But.set (g + 1) 2 _ (.slice aq n.length cq))
      have hq2 := at_set (a := .int .i64 k) (b := .string (strOf t)) (c := .slice aq n.length cq) m2
      have hq1 := (hs.block g hla (by simp)).trans m1
      have ho := m3.apart m2 (by decide) (by decide) hs
      have hd := m5.grown hs (fun j e => by obtain rfl := Option.some.inj e; omega)
      obtain ⟨W6, hW6⟩ : ∃ W6, W6 = ((w5.setCell ⟨g + 1, 0, none⟩ (.int .i64 k)).setCell ⟨g + 1, 1, none⟩ (.string (strOf t))).setCell ⟨g + 1, 2, none⟩ (.slice aq n.length cq) := ⟨_, rfl⟩
      have HW6 := Lib.hid hW6
      rw [← hW6] at hs hq2 hq1 ho hd
      have HB6 := Lib.hid (HB5.out.fresh hs (by omega))
      have HQ1 := Lib.hid hq1
      have HQ2 := Lib.hid hq2
      have HO := Lib.hid ho
      have HD := Lib.hid hd
      have HK := Lib.hid m6
      clear m1 m2 m3 m4 m5 m6 m7 m8 m9 hs hq1 hq2 ho hd hW6 HM5
      go_upto_region 5 with (fail)
      rw [← HW6.out]
      clear c0 c1 c2 f0 f1 f2 hla d0 d1 d2 e0 e1 e2 hlb
      obtain ⟨c0, c1, c2, f0, f1, f2, hla⟩ := at_facts HQ1.out
      obtain ⟨d0, d1, d2, e0, e1, e2, hlb⟩ := at_facts HQ2.out
      by_cases hk2 : k = 2
      · subst hk2
        have HLW := Lib.hid (low_any t (by have := (gen_len HG.out).1; omega) W6)
        go_wp2_with (go_at_call 23; (with_reducible refine HLW.out.mono ?_); rintro e w7 ⟨rfl, hb7⟩; have HQA := Lib.hid ((hb7.block g hla).trans HQ1.out); have HQB := Lib.hid ((hb7.block (g + 1) hlb).trans HQ2.out); have HO7 := Lib.hid (HO.out.below hb7); have HD7 := Lib.hid (HD.out.below hb7); have HB7 := Lib.hid (HB6.out.next (But.of hb7)); obtain ⟨y0, y1, y2, z0, z1, z2, hlc⟩ := at_facts HQB.out; clear hb7)
        go_meet
        have hs := But.set (g + 1) 1 w7 (.string (strOf (lowL t)))
        have hgl := gen_lower HG.out
        exact ⟨⟨2, lowL t, aq, cq, k3, n, (hs.block g (Array.getElem?_eq_some_iff.1 HQA.out).1 (by simp)).trans HQA.out, gset1 HQB.out, HO7.out.apart HQB.out (by decide) (by decide) hs, HO7.out.apart HQB.out (by decide) (by decide) hs, HD7.out.grown hs (fun j e => by obtain rfl := Option.some.inj e; omega), HK.out, hgl.1, hgl.2, (gen_len HG.out).2⟩, HB7.out.fresh hs (by omega)⟩
      · have y2 : (k == 2) = false := beq_eq_false_iff_ne.2 hk2
        go_wp2_with fail
        go_meet
        exact ⟨⟨k, t, aq, cq, k3, n, HQ1.out, HQ2.out, HO.out, HO.out, HD.out, HK.out, gen_valid HG.out, (gen_len HG.out).1, (gen_len HG.out).2⟩, HB6.out⟩
  case rest =>
    obtain ⟨⟨l, u, bq, dq, k3, m, m1, m2, m3, m4, m5, m6, m7, m8, m9⟩, hbw⟩ := hcut
    obtain ⟨c0, c1, c2, f0, f1, f2, hla⟩ := at_facts m1
    obtain ⟨d0, d1, d2, e0, e1, e2, hlb⟩ := at_facts m2
    clear f0 f1 f2 e0 e1 e2
    have HTL := Lib.hid (show t.length ≤ 100000 by have := (gen_len HG.out).1; omega)
    have HUL := Lib.hid (show u.length ≤ 100000 by omega)
    have HSN := Lib.hid (madeN_small (gen_len HG.out).2)
    have HSM := Lib.hid (madeN_small m9)
    have HV1 := Lib.hid (gen_valid HG.out)
    have HV2 := Lib.hid m7
    have HBX := Lib.hid (show Below w.heap.size w wc from HB1.out.trans (by rw [← HP.out]; exact hbw.below (Nat.le_of_lt HD1.out.lt)))
    have HCA := Lib.hid (HPS.out aq bq cq dq n.length m.length k l t u n m wc (own_rl m3).2 (own_rl m4).2 rfl rfl (own_rl m3).1 HTL.out HUL.out HSN.out HSM.out (HMX.out _ HBX.out))
    have M1 := Lib.hid m1
    have M2 := Lib.hid m2
    have M3 := Lib.hid m3
    have M4 := Lib.hid m4
    have M5 := Lib.hid m5
    have M6 := Lib.hid m6
    clear m1 m2 m3 m4 m5 m6 m7 m8 m9 hbw HM5 HB5 HBW hr hgs
    go_wp2_with fail
    refine HCA.out.mono ?_
    rintro e w6 ⟨rfl, hb6⟩
    have HB6 := Lib.hid (below_next HBX.out hb6)
    have N1 := Lib.hid ((hb6.block g hla).trans M1.out)
    have N2 := Lib.hid ((hb6.block (g + 1) hlb).trans M2.out)
    have N3 := Lib.hid (M3.out.below hb6)
    have N4 := Lib.hid (M4.out.below hb6)
    have N5 := Lib.hid (M5.out.below hb6)
    clear hb6 M1 M2 M3 M4 M5 HCA c0 c1 c2 d0 d1 d2 hla hlb
    cases hS : sameG k t n l u m with
    | false =>
      go_wp2_with (go_at_call 7; (with_reducible refine (HAW.out _ HB6.out).mono ?_); rintro e w9 ⟨rfl, hb9⟩; have HY9 := Lib.hid (below_next HB6.out hb9); clear hb9)
      go_ret
      exact ⟨rfl, HY9.out⟩
    | true =>
      have HW := Lib.hid (fun q x r => same_within hS HV1.out HV2.out q x r)
      have HY1 := Lib.hid (sameG_symm hS)
      have HY2 := Lib.hid (sameG_refl n HV1.out)
      clear hS
      go_wp2_with fail
      go_loopw [6] (fun i wr => ∃ j kk : Nat, j ≤ 6 ∧ i = .int .i64 (j : Int) ∧ DeckAt wr p a cap zs kk ∧ kk ≤ 25 + 12 * j ∧ But p w6 wr ∧ OwnN wr p (.slice aq n.length cq) n ∧ OwnN wr p (.slice bq m.length dq) m) (fun i _ => 6 - (intOf i).toNat)
      case atStart => exact ⟨0, k3, Nat.zero_le _, rfl, N5.out, M6.out, But.refl p w6, N3.out, N4.out⟩
      case round =>
        obtain ⟨wz, hwz⟩ : ∃ wz, wz = wr := ⟨_, rfl⟩
        subst hwz
        obtain ⟨j, kk, hj, rfl, hd, hk, hb, ho1, ho2⟩ := hrel
        have HBZ := Lib.hid hb
        have Q1 := Lib.hid ((hb.block g (Array.getElem?_eq_some_iff.1 N1.out).1 (by simp; omega)).trans N1.out)
        have Q2 := Lib.hid ((hb.block (g + 1) (Array.getElem?_eq_some_iff.1 N2.out).1 (by simp; omega)).trans N2.out)
        have HBWZ := Lib.hid (show Below w.heap.size w wz from HB6.out.trans (by rw [← HP.out]; exact hb.below (Nat.le_of_lt N5.out.lt)))
        by_cases hlt : j < 6
        · have hd1 : decide ((j : Int) < 6) = true := decide_eq_true (by omega)
          have HNB := Lib.hid (base_any_g p a cap zs kk wz hd (by omega))
          have HD := Lib.hid hd
          have HO1 := Lib.hid ho1
          have HO2 := Lib.hid ho2
          have HKK := Lib.hid hk
          clear hd hk hb ho1 ho2
          have HJ := Lib.hid hlt
          clear hlt hj
          go_upto_region 13 with (go_at_call 15; (with_reducible refine HNB.out.mono ?_); rintro e w7 ⟨q, x, s7, r7, k7, hBs, rfl, hso, hd7, hk7, hb7⟩; obtain ⟨rq, sq, rfl, hcs, _⟩ := hso.lies; clear hcs; have HBS := Lib.hid (bse_len hBs); have HO7 := Lib.hid (hso.base (Nat.le_of_lt HD.out.lt)); have HD7 := Lib.hid hd7; have HK7 := Lib.hid hk7; have HB7 := Lib.hid hb7; clear hBs hso hd7 hk7 hb7)
          obtain ⟨R1, R2, R3, R4⟩ := SMid.next Q1.out Q2.out HO1.out HO2.out HD.out HB7.out hpg
          obtain ⟨W8, hW8⟩ : ∃ W8, W8 = w7.alloc (.cells #[.int .i64 q, .string (strOf x), .slice rq r7.length sq] 26) := ⟨_, rfl⟩
          have hb8 : Below w7.heap.size w7 W8 := by rw [hW8]; exact belowNew w7 _
          have hq8 : W8.heap[w7.heap.size]? = some (.cells #[.int .i64 q, .string (strOf x), .slice rq r7.length sq] 26 (0, 0)) := by rw [hW8]; exact heap_alloc_new w7 _
          rw [← hW8]
          obtain ⟨v0, v1, v2, _⟩ := three_facts hq8
          obtain ⟨c0, c1, c2, la⟩ := three_facts ((hb8.block g (Array.getElem?_eq_some_iff.1 R1).1).trans R1)
          obtain ⟨d0, d1, d2, lb⟩ := three_facts ((hb8.block (g + 1) (Array.getElem?_eq_some_iff.1 R2).1).trans R2)
          have HB8 := Lib.hid (show But p wz W8 from HB7.out.next (But.of hb8))
          have HBW8 := Lib.hid (show Below w.heap.size w W8 from HBWZ.out.trans (by rw [← HP.out]; exact HB8.out.below (Nat.le_of_lt HD.out.lt)))
          have S3 := Lib.hid (R3.below hb8)
          have S4 := Lib.hid (R4.below hb8)
          have S7 := Lib.hid (HO7.out.below hb8)
          have S5 := Lib.hid (HD7.out.below hb8)
          have HXL := Lib.hid (show x.length ≤ 100000 by have := HBS.out.1; omega)
          have HRS := Lib.hid (madeN_small HBS.out.2)
          obtain ⟨E, hE⟩ : ∃ E, E = withinG k t n q x r7 := ⟨_, rfl⟩
          have z1 : ∀ d os, _ := fun d os => Calls.regrown_of (HPW.out aq rq cq sq n.length r7.length k q t x n r7 (Sort.grow (redrawn W8 d) os) ((own_rl S3.out).2.below (below_regrown W8 d os)) ((own_rl S7.out).2.below (below_regrown W8 d os)) rfl rfl (own_rl S3.out).1 HTL.out HXL.out HSN.out HRS.out (HMX.out _ (below_next HBW8.out (below_regrown W8 d os))))
          have z2 : ∀ d os, _ := fun d os => Calls.regrown_of (HPW.out bq rq dq sq m.length r7.length l q u x m r7 (Sort.grow (redrawn W8 d) os) ((own_rl S4.out).2.below (below_regrown W8 d os)) ((own_rl S7.out).2.below (below_regrown W8 d os)) rfl rfl (own_rl S4.out).1 HUL.out HXL.out HSM.out HRS.out (HMX.out _ (below_next HBW8.out (below_regrown W8 d os))))
          rw [← HW.out q x r7] at z2
          rw [← hE] at z1 z2
          have p0 := cell_regrown v0
          have p1 := cell_regrown v1
          have p2 := cell_regrown v2
          have p3 := cell_regrown c0
          have p4 := cell_regrown c1
          have p5 := cell_regrown c2
          have p6 := cell_regrown d0
          have p7 := cell_regrown d1
          have p8 := cell_regrown d2
          clear v0 v1 v2 c0 c1 c2 d0 d1 d2 la lb hb8 hq8 hW8 R1 R2 R3 R4 hE
          refine wp_region_quiet_below (by kernel_rfl) (by kernel_rfl) ?_
          repeat (go_big_quiet_step (with_reducible first | exact z1 _ _ | exact z2 _ _))
          refine wpQuiet_nil ?_
          intro _ hw'
          obtain ⟨⟨d9, os9⟩, hw''⟩ := hw'
          subst hw''
          have hbr := below_regrown W8 d9 os9
          have HF1 := Lib.hid (HBZ.out.next (HB8.out.next (But.of hbr)))
          have HF2 := Lib.hid (S5.out.below hbr)
          have HF3 := Lib.hid (S3.out.below hbr)
          have HF4 := Lib.hid (S4.out.below hbr)
          clear p0 p1 p2 p3 p4 p5 p6 p7 p8 z1 z2 hbr
          have hj6 := HJ.out
          go_wp2_with fail
          go_roundw
          case rel => exact ⟨j + 1, k7, by have := HJ.out; omega, by go_num, HF2.out, by have := HK7.out; have := HKK.out; omega, HF1.out, HF3.out, HF4.out⟩
          case measure => simp [intOf]; omega
        · have ej : j = 6 := by omega
          subst ej
          have hd1 : decide (((6 : Nat) : Int) < 6) = false := by decide
          have HO1 := Lib.hid ho1
          have HO2 := Lib.hid ho2
          clear hd hk hb ho1 ho2 hlt hj
          have P1 := Lib.hid (fun W (hb : Below wz.heap.size wz W) => HPS.out bq aq dq cq m.length n.length l k u t m n W ((own_rl HO2.out).2.below hb) ((own_rl HO1.out).2.below hb) rfl rfl (own_rl HO2.out).1 HUL.out HTL.out HSM.out HSN.out (HMX.out _ (below_next HBWZ.out hb)))
          have P2 := Lib.hid (fun W (hb : Below wz.heap.size wz W) => HPS.out aq aq cq cq n.length n.length k k t t n n W ((own_rl HO1.out).2.below hb) ((own_rl HO1.out).2.below hb) rfl rfl (own_rl HO1.out).1 HTL.out HTL.out HSN.out HSN.out (HMX.out _ (below_next HBWZ.out hb)))
          rw [HY1.out] at P1
          rw [HY2.out] at P2
          obtain ⟨c0, c1, c2, la⟩ := three_facts Q1.out
          obtain ⟨d0, d1, d2, lb⟩ := three_facts Q2.out
          go_wp2_with (first
            | (go_at_call 7; (with_reducible refine (HAW.out _ HBWZ.out).mono ?_); rintro e y1 ⟨rfl, hb9⟩; have HR1 := Lib.hid hb9; have f0 := (hb9.cell (p := ⟨g, 0, none⟩) la).trans c0; have f1 := (hb9.cell (p := ⟨g, 1, none⟩) la).trans c1; have f2 := (hb9.cell (p := ⟨g, 2, none⟩) la).trans c2; have e0 := (hb9.cell (p := ⟨g + 1, 0, none⟩) lb).trans d0; have e1 := (hb9.cell (p := ⟨g + 1, 1, none⟩) lb).trans d1; have e2 := (hb9.cell (p := ⟨g + 1, 2, none⟩) lb).trans d2; have ly := Nat.lt_of_lt_of_le la hb9.size; clear hb9)
            | (go_at_call 16; (with_reducible refine (P1.out _ HR1.out).mono ?_); rintro e y2 ⟨rfl, hb9⟩; have HR2 := Lib.hid (below_next HR1.out hb9); have h0 := (hb9.cell (p := ⟨g, 0, none⟩) ly).trans f0; have h1 := (hb9.cell (p := ⟨g, 1, none⟩) ly).trans f1; have h2 := (hb9.cell (p := ⟨g, 2, none⟩) ly).trans f2; clear hb9)
            | (go_at_call 16; (with_reducible refine (P2.out _ HR2.out).mono ?_); rintro e y3 ⟨rfl, hb9⟩; have HR3 := Lib.hid (below_next HR2.out hb9); clear hb9))
          go_ret
          exact ⟨rfl, HBWZ.out.trans (HR3.out.mono HBWZ.out.size)⟩
end Go.Proofs.YtkiniledfcdgjaaGreatDoor
