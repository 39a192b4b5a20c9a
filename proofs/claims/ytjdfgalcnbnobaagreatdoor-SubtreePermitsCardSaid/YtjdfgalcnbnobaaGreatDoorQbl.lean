/-
  The contract of the law's state: up to four constraints of the generator.
  The law's awake returns true: the example of the chapter.
-/
import Derived.Test.YtjdfgalcnbnobaaGreatDoorQay
import Derived.Test.YtjdfgalcnbnobaaGreatDoorQbi
namespace Go.Proofs.YtjdfgalcnbnobaaGreatDoor
open Go.RowKit

theorem next5_s (p : Nat) (a : Option Addr) (cap : Nat) (zs : List Int) (k : Nat) (w : World) (h : DeckAt w p a cap zs k) (hk2 : k < 1000) :
    Calls Tryz.prog 21 #[.pointer (some ⟨p, 0, none⟩), .int .i64 5] w fun e w' => ∃ r k' : Nat, r < 5 ∧ e = .returned (.int .i64 (r : Int)) ∧ DeckAt w' p a cap zs k' ∧ k' ≤ k + 1 ∧ But p w w' :=
  next_any p a cap zs k 5 w h hk2 (by omega) (by omega)
def StaMid (w0 wr : World) (p : Nat) (a : Option Addr) (cap : Nat) (zs : List Int) (v : Value) (L : List Sub) (k : Nat) : Prop :=
  wr.heap[w0.heap.size]? = some (.cells #[.slice none 0 0] 24 (0, 0)) ∧ wr.heap[w0.heap.size + 1]? = some (.cells #[v] 24 (0, 0)) ∧
    OwnSb wr (w0.heap.size + 2) v L ∧ p < w0.heap.size ∧ DeckAt wr p a cap zs k ∧ But p w0 wr
theorem StaMid.call {w0 wr w5 : World} {p : Nat} {a : Option Addr} {cap : Nat} {zs : List Int} {v : Value} {L : List Sub} {k k5 : Nat} (h : StaMid w0 wr p a cap zs v L k) (hb : But p wr w5) (hd : DeckAt w5 p a cap zs k5) : StaMid w0 w5 p a cap zs v L k5 := by
  obtain ⟨h1, h2, h3, h6, h7, h8⟩ := h
  exact ⟨(hb.block _ (Array.getElem?_eq_some_iff.1 h1).1 (by simp; omega)).trans h1, (hb.block _ (Array.getElem?_eq_some_iff.1 h2).1 (by simp; omega)).trans h2, h3.but hb (by omega), h6, hd, h8.next hb⟩
theorem StaMid.below {w0 wr w5 : World} {p : Nat} {a : Option Addr} {cap : Nat} {zs : List Int} {v : Value} {L : List Sub} {k : Nat} (h : StaMid w0 wr p a cap zs v L k) (hb : Below wr.heap.size wr w5) : StaMid w0 w5 p a cap zs v L k := by
  obtain ⟨h1, h2, h3, h6, h7, h8⟩ := h
  exact ⟨(hb.block _ (Array.getElem?_eq_some_iff.1 h1).1).trans h1, (hb.block _ (Array.getElem?_eq_some_iff.1 h2).1).trans h2, h3.below hb, h6, h7.below hb, h8.next (But.of hb)⟩
theorem StaMid.push {w0 w w6 : World} {p : Nat} {a : Option Addr} {cap : Nat} {zs : List Int} {v v' : Value} {s : Value × Value} {L : List Sub} {k : Nat} {g : Sub} {ss : List (Value × Value)} (h : StaMid w0 w p a cap zs v L k)
    (h1 : ss.length = L.length) (h2 : w.ownsRow (w0.heap.size + 2) 27 2 v L.length (ssCells ss)) (h3 : ∀ i, i < L.length → OwnG w (w0.heap.size + 2) (ss.getD i noSV).1 (L.getD i noSub).1 ∧ OwnG w (w0.heap.size + 2) (ss.getD i noSV).2 (L.getD i noSub).2) (hr : OwnG w (w0.heap.size + 2) s.1 g.1 ∧ OwnG w (w0.heap.size + 2) s.2 g.2)
    (hg : w.grownBy w6 v.ownBlock) (h4 : w6.ownsRow (w0.heap.size + 2) 27 2 v' (L.length + 1) (ssCells ss ++ sCells s)) : StaMid w0 (w6.setCell ⟨w0.heap.size + 1, 0, none⟩ v') p a cap zs v' (L ++ [g]) k := by
  obtain ⟨q1, q2, q3, q6, q7, q8⟩ := h
  have hs := But.set (w0.heap.size + 1) 0 w6 v'
  have c1 := (row_block h2 hg (Array.getElem?_eq_some_iff.1 q1).1 (by omega)).trans q1
  have c2 := (row_block h2 hg (Array.getElem?_eq_some_iff.1 q2).1 (by omega)).trans q2
  exact ⟨(hs.block _ (Array.getElem?_eq_some_iff.1 c1).1 (by simp)).trans c1, one_set c2, (OwnSb.snoc h1 h2 h3 hr hg h4).but hs (by omega), q6, (q7.grown hg (fun j e => by have := (World.ownsRow.lt h2 j e).1; omega)).grown hs (fun j e => by obtain rfl := Option.some.inj e; omega), (but_grown q8 h2 (by omega) hg).fresh hs (by omega)⟩
set_option maxRecDepth 100000 in
set_option maxHeartbeats 8000000 in
theorem state_any (p : Nat) (a : Option Addr) (cap : Nat) (zs : List Int) (k : Nat) (w : World) (h : DeckAt w p a cap zs k) (hk : k ≤ 300) :
    Calls Tryz.prog 11 #[.pointer (some ⟨p, 0, none⟩)] w fun e w' => ∃ (v : Value) (L : List Sub) (k' : Nat), L.length ≤ 4 ∧ (∀ s ∈ L, GenB s) ∧ e = .returned (.agg #[v]) ∧ OwnSb w' w.heap.size v L ∧ DeckAt w' p a cap zs k' ∧ k' ≤ k + 321 ∧ But p w w' := by
  obtain ⟨i0, hi, hz0, hz1, hz2⟩ := info_parts subInfo
  obtain ⟨W0, hW0⟩ : ∃ W0, W0 = (w.alloc (.cells #[.slice none 0 0] 24)).alloc (.cells #[.slice none 0 0] 24) := ⟨_, rfl⟩
  have hb0 : Below w.heap.size w W0 := by rw [hW0]; exact belowTwo w _ _
  have hq0 : W0.heap[w.heap.size]? = some (.cells #[.slice none 0 0] 24 (0, 0)) := by rw [hW0, heap_first]; exact heap_alloc_new w _
  have hq1 : W0.heap[w.heap.size + 1]? = some (.cells #[.slice none 0 0] 24 (0, 0)) := by rw [hW0]; exact heap_second w _ _ _
  have HM0 := Lib.hid (show StaMid w W0 p a cap zs (.slice none 0 0) [] k from ⟨hq0, hq1, OwnSb.nil _ _, h.lt, h.below hb0, But.of hb0⟩)
  have HNX := Lib.hid (next5_s p a cap zs k W0 (h.below hb0) (by omega))
  have HWE := Lib.hid hW0.symm
  clear h hb0 hq0 hq1 hW0
  go_enter Tryz.func11, Tryz.ntmps11
  go_wp2_with fail
  rw [HWE.out]
  refine HNX.out.mono ?_
  rintro e w1 ⟨r4, k1, hr4, rfl, hd, hk1, hb1⟩
  have HM1 := Lib.hid (HM0.out.call hb1 hd)
  clear hd hb1 HM0 HNX HWE
  go_wp2_with fail
  go_loopw [4] (fun i wr => ∃ (j : Nat) (L : List Sub) (v : Value) (k2 : Nat), L.length + j ≤ 4 ∧ (∀ x ∈ L, GenB x) ∧ i = .int .i64 (j : Int) ∧ StaMid w wr p a cap zs v L k2 ∧ k2 + 80 * j ≤ k + 321) (fun i _ => (intOf i).toNat)
  case atStart => exact ⟨r4, [], _, k1, by simp; omega, (fun x hx => by cases hx), rfl, HM1.out, by omega⟩
  case round =>
    obtain ⟨WR, hWR⟩ : ∃ WR, WR = wr := ⟨_, rfl⟩
    subst hWR
    obtain ⟨j, L, v, k2, hjA, hbs, rfl, hm, hkk⟩ := hrel
    obtain ⟨av, cv, rfl, _, _⟩ := hm.2.2.1.lies
    have HBSG := Lib.hid hbs
    have HBS := Lib.hid (show w.heap.size + 2 ≤ WR.heap.size from (Array.getElem?_eq_some_iff.1 hm.2.1).1)
    obtain ⟨NA, hNA⟩ : ∃ NA, NA = L.length := ⟨_, rfl⟩
    rw [← hNA] at hm hjA
    have HLN := Lib.hid (show L.length ≤ 4 by omega)
    have HNA := Lib.hid hNA
    have HM := Lib.hid hm
    clear hbs hm hNA HM1 hr4 hk1
    obtain ⟨m1, m2, m3, m6, m7, m8⟩ := HM.out
    obtain ⟨y0, y2, hl2⟩ := one_facts m2
    have HD := Lib.hid m7
    have HPL := Lib.hid m6
    by_cases hj : 0 < j
    · have hdj : decide ((0 : Int) < (j : Int)) = true := by simp; omega
      clear m1 m2 m3 m6 m7 m8
      go_wp2_with fail
      go_region_law (first
        | (go_simp; go_at_call 12; (with_reducible refine (subtrees_any p a cap zs k2 _ (by first | exact HD.out | exact deck_up_s HD.out) (by omega)).mono ?_); rintro e w5 ⟨x5, z5, A5, B5, k5, hG, rfl, hoA, hoB, hd5, hk5, hb5⟩; obtain ⟨a5, c5, rfl, _, _⟩ := hoA.lies; obtain ⟨b5, d5, rfl, _, _⟩ := hoB.lies; have hm5 := HM.out.call (((But.refl p WR).drew).next hb5) hd5; obtain ⟨x0, x2, xl⟩ := one_facts hm5.2.1; have hzz : ¬ w.heap.size + 1 = w5.heap.size := (by omega); have hzy : ¬ w5.heap.size = w.heap.size + 1 := (by omega); obtain ⟨ss, hv1, hv2, hv3⟩ := hm5.2.2.1; have HV1 := Lib.hid hv1; have HV2 := Lib.hid hv2; have HV3 := Lib.hid hv3; have HM5 := Lib.hid hm5; have HO5 := Lib.hid (And.intro (hoA.base (show w.heap.size + 2 ≤ WR.drew.heap.size from HBS.out)) (hoB.base (show w.heap.size + 2 ≤ WR.drew.heap.size from HBS.out))); have HG5 := Lib.hid hG; have HK5 := Lib.hid hk5; have HZ5 := Lib.hid (Nat.le_trans HBS.out hb5.size); clear hm5 hoA hoB hG hd5 hk5 hb5 hv1 hv2 hv3)
        | (refine step_append_s rfl (.tmp 13) (.tmp 16) 22 rfl (w.heap.size + 2) 27 i0 (.agg #[.slice none 0 0, .slice none 0 0]) 2 48 Tryz.underlying22 hi hz0 hz1 hz2 rfl (by decide) _ L.length (ssCells ss) (by simp [Act.eval]) (own_below HV2.out (belowNew w5 _)) ⟨w5.heap.size, 0, none⟩ 1 1 (sCells (.slice a5 A5.length c5, .slice b5 B5.length d5)) (by simp [Act.eval]) rfl (fun j u h => news_row w5 #[.slice a5 A5.length c5, .slice b5 B5.length d5] 27 j u (by simpa [sCells] using h)) (sCells_one _ _ _ _ _ _) (by have := HLN.out; unfold maxLen; omega) (by have := HLN.out; omega) (by have h9 : (w.heap.size + 2) ≤ w5.heap.size := HZ5.out; simp; omega) ?_; intro v6 w6 hown6 hgr6; obtain ⟨a6, c6, hv6, _, _⟩ := (OwnSb.snoc HV1.out (own_below HV2.out (belowNew w5 _)) (fun i hi => ⟨(HV3.out i hi).1.below (belowNew w5 _), (HV3.out i hi).2.below (belowNew w5 _)⟩) ⟨HO5.out.1.below (belowNew w5 _), HO5.out.2.below (belowNew w5 _)⟩ hgr6 hown6 (g := (A5, B5))).lies; rw [List.length_append, List.length_singleton] at hv6; subst hv6; obtain ⟨z0, z2, zl⟩ := one_facts ((row_block (own_below HV2.out (belowNew w5 _)) hgr6 (show w.heap.size + 1 < (w5.alloc _).heap.size by simp; omega) (show w.heap.size + 1 < (w.heap.size + 2) by omega)).trans (((belowNew w5 _).block _ xl).trans HM5.out.2.1)); have HP := Lib.hid hown6; have HGR := Lib.hid hgr6; clear hown6 hgr6))
      all_goals
        go_wp2_with fail
        go_roundw
        case rel => exact ⟨j - 1, L ++ [(A5, B5)], _, k5, by rw [List.length_append, ← HNA.out]; simp; omega, (fun x hx => by
          rcases List.mem_append.1 hx with hx | hx
          · exact HBSG.out x hx
          · rw [List.mem_singleton.1 hx]; exact HG5.out), by go_num, (HM5.out.below (belowNew w5 _)).push HV1.out (own_below HV2.out (belowNew w5 _)) (fun i hi => ⟨(HV3.out i hi).1.below (belowNew w5 _), (HV3.out i hi).2.below (belowNew w5 _)⟩) ⟨HO5.out.1.below (belowNew w5 _), HO5.out.2.below (belowNew w5 _)⟩ HGR.out HP.out, by have := HK5.out; omega⟩
        case measure => simp [intOf]; omega
    · have hdj : decide ((0 : Int) < (j : Int)) = false := by simp; omega
      obtain ⟨g0, g2, gl⟩ := one_facts m1
      have M1 := Lib.hid m1
      have M3 := Lib.hid m3
      have M7 := Lib.hid m7
      have M8 := Lib.hid m8
      clear m1 m2 m3 m7 m8
      go_wp2_with fail
      have hs := But.set w.heap.size 0 WR (.slice av NA cv)
      exact bodyPost_ret (stRes rfl _ _ _ _ rfl (one_set M1.out)) rfl ⟨_, L, k2, HLN.out, HBSG.out, rfl, (M3.out.but hs (by omega)).base (by omega), M7.out.grown hs (fun j e => by obtain rfl := Option.some.inj e; omega), by omega, M8.out.fresh hs (Nat.le_refl _)⟩
end Go.Proofs.YtjdfgalcnbnobaaGreatDoor
namespace Go.Proofs.YtjdfgalcnbnobaaGreatDoor
open Go.RowKit

def exT : List UInt8 := [101, 120, 97, 109, 112, 108, 101, 46, 111, 114, 103]
def wwT : List UInt8 := [119, 119, 119, 46, 101, 120, 97, 109, 112, 108, 101, 46, 111, 114, 103]
def maT : List UInt8 := [97, 64, 98]
def awL : List Sub := [([((2 : Int), exT, ([] : Nm))], []), ([((2 : Int), wwT, ([] : Nm))], [])]
set_option maxRecDepth 100000 in
theorem aw_we : dnsWithinB wwT exT = true ∧ dnsWithinB wwT wwT = true ∧ dnsWithinB exT wwT = false := by decide +kernel
theorem aw_one : perG awL (2, wwT, []) = true := by
  have h1 : wG (2, wwT, []) (2, exT, []) = true := (withinG_2 _ _ _ _).trans aw_we.1
  have h2 : wG (2, wwT, []) (2, wwT, []) = true := (withinG_2 _ _ _ _).trans aw_we.2.1
  simp [perG, awL, inG, limG, h1, h2]
theorem aw_two : perG awL (2, exT, []) = false := by
  have h2 : wG (2, exT, []) (2, wwT, []) = false := (withinG_2 _ _ _ _).trans aw_we.2.2
  simp [perG, awL, inG, limG, h2]
theorem aw_three : perG awL (1, maT, []) = true := by
  simp [perG, awL, inG, limG]
theorem sm_nil (k : Int) (t : List UInt8) (h : t.length ≤ 100000) : SmG (k, t, []) := ⟨h, Nat.zero_le _, fun _ hi => absurd hi (Nat.not_lt_zero _)⟩
theorem sm_one {g : Gn} (h : SmG g) : SmL [g] := fun x hx => by rw [List.mem_singleton.1 hx]; exact h
theorem sm_none : SmL [] := fun _ h => nomatch h
theorem awL_ok : OkS awL := OkS.snoc (L := [([((2 : Int), exT, ([] : Nm))], [])]) (OkS.snoc (L := []) OkS.nil (by decide) (sm_one (sm_nil _ _ (by decide))) sm_none (by decide) (by decide)) (by decide) (sm_one (sm_nil _ _ (by decide))) sm_none (by decide) (by decide)
theorem awL1_ok : OkS [([((2 : Int), exT, ([] : Nm))], [])] := OkS.snoc (L := []) OkS.nil (by decide) (sm_one (sm_nil _ _ (by decide))) sm_none (by decide) (by decide)
set_option maxRecDepth 100000 in
set_option maxHeartbeats 4000000 in
theorem awake_core (w : World) (hmk : Mk w) : Calls Tryz.prog 9 #[] w fun e w' => e = .returned (.bool true) ∧ Below w.heap.size w w' := by
  obtain ⟨Wa, hWa⟩ : ∃ Wa, Wa = w.alloc (.cells #[.int .i64 2, .string ⟨#[101, 120, 97, 109, 112, 108, 101, 46, 111, 114, 103]⟩, .slice none 0 0] 32) := ⟨_, rfl⟩
  have hwa := hWa.symm
  have hba : Below w.heap.size w Wa := by rw [hWa]; exact belowNew w _
  have hga := glies_one (w := Wa) (g := w.heap.size) (k := 2) (t := exT) (n := []) (a := none) (c := 0) (by rw [hWa]; exact heap_alloc_new w _) (Nat.le_refl _) (.inl rfl)
  have HA := Lib.hid (add_core none (some ⟨w.heap.size, 0, none⟩) none 0 0 1 0 1 0 [] [(2, exT, [])] [] Wa (.inl rfl) rfl OkS.nil (by decide) hga (.inl rfl) rfl rfl (by decide) (by decide) (sm_one (sm_nil _ _ (by decide))) sm_none)
  have HMK := Lib.hid hmk
  have HBA := Lib.hid hba
  clear hmk hba hga hWa
  go_enter Tryz.func9, Tryz.ntmps9
  go_upto_region 2 with (go_at_call 14; (with_reducible refine HA.out.mono ?_); rintro e w1 ⟨v, rfl, ho, hb⟩; obtain ⟨av, cv, hv, _, _⟩ := ho.lies; rw [show ([] ++ [([((2 : Int), exT, ([] : Nm))], ([] : List Gn))] : List Sub).length = 1 from rfl] at hv; subst hv; have HB1 := Lib.hid (below_next HBA.out hb); have HO1 := Lib.hid ho; clear hb ho)
  clear hwa
  obtain ⟨W2, hW2⟩ : ∃ W2, W2 = w1.alloc (.cells #[.slice av 1 cv] 24) := ⟨_, rfl⟩
  rw [← hW2]
  obtain ⟨g, hg⟩ : ∃ g, g = w1.heap.size := ⟨_, rfl⟩
  have hb2 : Below w1.heap.size w1 W2 := by rw [hW2]; exact belowNew w1 _
  have hq2 : W2.heap[g]? = some (.cells #[.slice av 1 cv] 24 (0, 0)) := by rw [hW2, hg]; exact heap_alloc_new w1 _
  rw [← hg]
  obtain ⟨c0, f0, lg2⟩ := one_facts hq2
  have HWG := Lib.hid (show w.heap.size ≤ g by rw [hg]; exact HB1.out.size)
  obtain ⟨Wb, hWb⟩ : ∃ Wb, Wb = W2.alloc (.cells #[.int .i64 2, .string ⟨#[119, 119, 119, 46, 101, 120, 97, 109, 112, 108, 101, 46, 111, 114, 103]⟩, .slice none 0 0] 32) := ⟨_, rfl⟩
  have hwb := hWb.symm
  have hbb : Below W2.heap.size W2 Wb := by rw [hWb]; exact belowNew W2 _
  have hgb := glies_one (w := Wb) (g := W2.heap.size) (k := 2) (t := wwT) (n := []) (a := none) (c := 0) (by rw [hWb]; exact heap_alloc_new W2 _) (Nat.le_refl _) (.inl rfl)
  have hsl : SLies Wb av [([((2 : Int), exT, ([] : Nm))], [])] := by
    obtain ⟨a', c', e, _, hl⟩ := ((HO1.out.below hb2).below hbb).lies
    rw [(slice_inj e).1]; exact hl
  have HA2 := Lib.hid (add_core av (some ⟨W2.heap.size, 0, none⟩) none cv 1 1 0 1 0 [([((2 : Int), exT, ([] : Nm))], [])] [(2, wwT, [])] [] Wb hsl rfl awL1_ok (by decide) hgb (.inl rfl) rfl rfl (by decide) (by decide) (sm_one (sm_nil _ _ (by decide))) sm_none)
  have HQ := Lib.hid ((hbb.block g lg2).trans hq2)
  have HBB := Lib.hid (below_next (below_next HB1.out hb2) hbb)
  have lgb : g < Wb.heap.size := Nat.lt_of_lt_of_le lg2 hbb.size
  clear hb2 hq2 hbb hgb hsl hWb hg hW2
  go_upto_region 3 with (go_at_call 14; (with_reducible refine HA2.out.mono ?_); rintro e w3 ⟨v, rfl, ho, hb⟩; obtain ⟨a3, c3, hv, _, _⟩ := ho.lies; rw [show ([([((2 : Int), exT, ([] : Nm))], ([] : List Gn))] ++ [([((2 : Int), wwT, ([] : Nm))], ([] : List Gn))] : List Sub).length = 2 from rfl] at hv; subst hv; have hq3 := (hb.block g lgb).trans HQ.out; obtain ⟨d0, d1, d2⟩ := one_facts hq3; have HQ3 := Lib.hid hq3; have HB3 := Lib.hid (below_next HBB.out hb); have HO3 := Lib.hid ho; clear hb ho hq3)
  clear hwb c0 f0
  obtain ⟨W4, hW4⟩ : ∃ W4, W4 = w3.setCell ⟨g, 0, none⟩ (.slice a3 2 c3) := ⟨_, rfl⟩
  rw [← hW4]
  have hq4 : W4.heap[g]? = some (.cells #[.slice a3 2 c3] 24 (0, 0)) := by rw [hW4]; exact one_set HQ3.out
  have HB4 := Lib.hid (show Below w.heap.size w W4 by rw [hW4]; exact below_set HB3.out HWG.out)
  have hs4 : SLies W4 a3 awL := by
    obtain ⟨a', c', e, _, hl⟩ := (HO3.out.apart (w' := W4) HQ3.out (by decide) (by decide) (by decide) (by decide) (by rw [hW4]; exact But.set _ _ _ _)).lies
    rw [(slice_inj e).1]; exact hl
  obtain ⟨c0, _, lg⟩ := one_facts hq4
  have HC0 := Lib.hid c0
  have HX := Lib.hid (Below.refl W4.heap.size W4)
  have HP1 := Lib.hid (fun W (hb : Below W4.heap.size W4 W) => permits_core a3 none c3 2 0 0 awL 2 wwT [] W (hs4.below hb) rfl (by decide) (.inl rfl) rfl (Nat.le_refl _) (sm_nil _ _ (by decide)) awL_ok.1 awL_ok.2.2 ((HMK.out.below HB4.out).below hb))
  have HP2 := Lib.hid (fun W (hb : Below W4.heap.size W4 W) => permits_core a3 none c3 2 0 0 awL 2 exT [] W (hs4.below hb) rfl (by decide) (.inl rfl) rfl (Nat.le_refl _) (sm_nil _ _ (by decide)) awL_ok.1 awL_ok.2.2 ((HMK.out.below HB4.out).below hb))
  have HP3 := Lib.hid (fun W (hb : Below W4.heap.size W4 W) => permits_core a3 none c3 2 0 0 awL 1 maT [] W (hs4.below hb) rfl (by decide) (.inl rfl) rfl (Nat.le_refl _) (sm_nil _ _ (by decide)) awL_ok.1 awL_ok.2.2 ((HMK.out.below HB4.out).below hb))
  rw [aw_one, show strOf wwT = ⟨#[119, 119, 119, 46, 101, 120, 97, 109, 112, 108, 101, 46, 111, 114, 103]⟩ from rfl] at HP1
  rw [aw_two, show strOf exT = ⟨#[101, 120, 97, 109, 112, 108, 101, 46, 111, 114, 103]⟩ from rfl] at HP2
  rw [aw_three, show strOf maT = ⟨#[97, 64, 98]⟩ from rfl] at HP3
  clear hq4 hs4 hW4 d0 d1 d2
  go_wp2_with (first
  | (go_at_call 17; (with_reducible refine (HP1.out _ HX.out).mono ?_); rintro e w5 ⟨rfl, hb9⟩; have HX := Lib.hid (below_next HX.out hb9); have c0 := (HX.out.cell (p := ⟨g, 0, none⟩) lg).trans HC0.out; clear hb9)
  | (go_at_call 17; (with_reducible refine (HP2.out _ HX.out).mono ?_); rintro e w6 ⟨rfl, hb9⟩; have HX := Lib.hid (below_next HX.out hb9); have c0 := (HX.out.cell (p := ⟨g, 0, none⟩) lg).trans HC0.out; clear hb9)
  | (go_at_call 17; (with_reducible refine (HP3.out _ HX.out).mono ?_); rintro e w7 ⟨rfl, hb9⟩; have HX := Lib.hid (below_next HX.out hb9); have c0 := (HX.out.cell (p := ⟨g, 0, none⟩) lg).trans HC0.out; clear hb9))
  go_ret
  exact ⟨rfl, below_next HB4.out HX.out⟩
end Go.Proofs.YtjdfgalcnbnobaaGreatDoor
