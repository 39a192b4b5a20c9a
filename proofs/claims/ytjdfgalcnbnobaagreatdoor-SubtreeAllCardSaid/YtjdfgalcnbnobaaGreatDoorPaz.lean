/-
  The contract of the law's state: up to four constraints of the generator.
  The contracts of the program's functions that say of one byte whether it may stand in a label or in a local part, and of consists: whether each byte of a text is in a set.
-/
import Derived.Test.YtjdfgalcnbnobaaGreatDoorPay
import Derived.Test.YtjdfgalcnbnobaaGreatDoorPad
import Derived.Test.YtjdfgalcnbnobaaGreatDoorPam
import Derived.Test.YtjdfgalcnbnobaaGreatDoorPat
namespace Go.Proofs.YtjdfgalcnbnobaaGreatDoor
open Go.RowKit

theorem next5_s (p : Nat) (a : Option Addr) (cap : Nat) (zs : List Int) (k : Nat) (w : World) (h : DeckAt w p a cap zs k) (hk2 : k < 1000) :
    Calls Tryz.prog 21 #[.pointer (some ⟨p, 0, none⟩), .int .i64 5] w fun e w' => ∃ r k' : Nat, r < 5 ∧ e = .returned (.int .i64 (r : Int)) ∧ DeckAt w' p a cap zs k' ∧ k' ≤ k + 1 ∧ But p w w' :=
  next_any p a cap zs k 5 w h hk2 (by omega) (by omega)
def StaMid (w0 wr : World) (p : Nat) (a : Option Addr) (cap : Nat) (zs : List Int) (v : Value) (L : List Sub) (k : Nat) : Prop :=
  wr.heap[w0.heap.size]? = some (.cells #[.slice none 0 0] 24 (0, 0)) ∧ wr.heap[w0.heap.size + 1]? = some (.cells #[v] 24 (0, 0)) ∧
    OwnSb wr (w0.heap.size + 2) v L ∧ p < w0.heap.size ∧ DeckAt wr p a cap zs k ∧ But p w0 wr
theorem StaMid.call {w0 wr w5 : World} {p : Nat} {a : Option Addr} {cap : Nat} {zs : List Int} {v : Value} {L : List Sub} {k k5 : Nat} (h : StaMid w0 wr p a cap zs v L k) (hb : But p wr w5) (hd : DeckAt w5 p a cap zs k5) : StaMid w0 w5 p a cap zs v L k5 := by
  obtain ⟨h1, h2, h3, h6, h7, h8⟩ := h
  exact ⟨(hb.block _ (Array.getElem?_eq_some_iff.1 h1).1 (by simp; omega)).trans h1, (hb.block _ (Array.getElem?_eq_some_iff.1 h2).1 (by simp; omega)).trans h2, h3.but hb (by omega), h6, hd, h8.next hb⟩
theorem StaMid.below {w0 wr w5 : World} {p : Nat} {a : Option Addr} {cap : Nat} {zs : List Int} {v : Value} {L : List Sub} {k : Nat} (h : StaMid w0 wr p a cap zs v L k) (hb : Below wr.heap.size wr w5) : StaMid w0 w5 p a cap zs v L k := by
  obtain ⟨h1, h2, h3, h6, h7, h8⟩ := h
  exact ⟨(hb.block _ (Array.getElem?_eq_some_iff.1 h1).1).trans h1, (hb.block _ (Array.getElem?_eq_some_iff.1 h2).1).trans h2, h3.below hb, h6, h7.below hb, h8.next (But.of hb)⟩
theorem StaMid.push {w0 w w6 : World} {p : Nat} {a : Option Addr} {cap : Nat} {zs : List Int} {v v' : Value} {s : Value × Value} {L : List Sub} {k : Nat} {g : Sub} {ss : List (Value × Value)} (h : StaMid w0 w p a cap zs v L k)
    (h1 : ss.length = L.length) (h2 : w.ownsRow (w0.heap.size + 2) 27 2 v L.length (ssCells ss)) (h3 : ∀ i, i < L.length → OwnG w (w0.heap.size + 2) (ss.getD i noSV).1 (L.getD i noSub).1 ∧ OwnG w (w0.heap.size + 2) (ss.getD i noSV).2 (L.getD i noSub).2) (hr : OwnG w (w0.heap.size + 2) s.1 g.1 ∧ OwnG w (w0.heap.size + 2) s.2 g.2)
    (hg : w.grownBy w6 v.ownBlock) (h4 : w6.ownsRow (w0.heap.size + 2) 27 2 v' (L.length + 1) (ssCells ss ++ sCells s)) : StaMid w0 (w6.setCell ⟨w0.heap.size + 1, 0, none⟩ v') p a cap zs v' (L ++ [g]) k := by
  obtain ⟨q1, q2, q3, q6, q7, q8⟩ := h
  have hs := But.set (w0.heap.size + 1) 0 w6 v'
  have c1 := (row_block h2 hg (Array.getElem?_eq_some_iff.1 q1).1 (by omega)).trans q1
  have c2 := (row_block h2 hg (Array.getElem?_eq_some_iff.1 q2).1 (by omega)).trans q2
  exact ⟨(hs.block _ (Array.getElem?_eq_some_iff.1 c1).1 (by simp)).trans c1, one_set c2, (OwnSb.snoc h1 h2 h3 hr hg h4).but hs (by omega), q6, (q7.grown hg (fun j e => by have := (World.ownsRow.lt h2 j e).1; omega)).grown hs (fun j e => by obtain rfl := Option.some.inj e; omega), (but_grown q8 h2 (by omega) hg).fresh hs (by omega)⟩
set_option maxRecDepth 100000 in
set_option maxHeartbeats 8000000 in
theorem state_any (p : Nat) (a : Option Addr) (cap : Nat) (zs : List Int) (k : Nat) (w : World) (h : DeckAt w p a cap zs k) (hk : k ≤ 300) :
    Calls Tryz.prog 11 #[.pointer (some ⟨p, 0, none⟩)] w fun e w' => ∃ (v : Value) (L : List Sub) (k' : Nat), L.length ≤ 4 ∧ (∀ s ∈ L, GenB s) ∧ e = .returned (.agg #[v]) ∧ OwnSb w' w.heap.size v L ∧ DeckAt w' p a cap zs k' ∧ k' ≤ k + 321 ∧ But p w w' := by
  obtain ⟨i0, hi, hz0, hz1, hz2⟩ := info_parts subInfo
  obtain ⟨W0, hW0⟩ : ∃ W0, W0 = (w.alloc (.cells #[.slice none 0 0] 24)).alloc (.cells #[.slice none 0 0] 24) := ⟨_, rfl⟩
  have hb0 : Below w.heap.size w W0 := by rw [hW0]; exact belowTwo w _ _
  have hq0 : W0.heap[w.heap.size]? = some (.cells #[.slice none 0 0] 24 (0, 0)) := by rw [hW0, heap_first]; exact heap_alloc_new w _
  have hq1 : W0.heap[w.heap.size + 1]? = some (.cells #[.slice none 0 0] 24 (0, 0)) := by rw [hW0]; exact heap_second w _ _ _
  have HM0 := Lib.hid (show StaMid w W0 p a cap zs (.slice none 0 0) [] k from ⟨hq0, hq1, OwnSb.nil _ _, h.lt, h.below hb0, But.of hb0⟩)
  have HNX := Lib.hid (next5_s p a cap zs k W0 (h.below hb0) (by omega))
  have HWE := Lib.hid hW0.symm
  clear h hb0 hq0 hq1 hW0
  go_enter Tryz.func11, Tryz.ntmps11
  go_wp2_with fail
  rw [HWE.out]
  refine HNX.out.mono ?_
  rintro e w1 ⟨r4, k1, hr4, rfl, hd, hk1, hb1⟩
  have HM1 := Lib.hid (HM0.out.call hb1 hd)
  clear hd hb1 HM0 HNX HWE
  go_wp2_with fail
  go_loopw [4] (fun i wr => ∃ (j : Nat) (L : List Sub) (v : Value) (k2 : Nat), L.length + j ≤ 4 ∧ (∀ x ∈ L, GenB x) ∧ i = .int .i64 (j : Int) ∧ StaMid w wr p a cap zs v L k2 ∧ k2 + 80 * j ≤ k + 321) (fun i _ => (intOf i).toNat)
  case atStart => exact ⟨r4, [], _, k1, by simp; omega, (fun x hx => by cases hx), rfl, HM1.out, by omega⟩
  case round =>
    obtain ⟨WR, hWR⟩ : ∃ WR, WR = wr := ⟨_, rfl⟩
    subst hWR
    obtain ⟨j, L, v, k2, hjA, hbs, rfl, hm, hkk⟩ := hrel
    obtain ⟨av, cv, rfl, _, _⟩ := hm.2.2.1.lies
    have HBSG := Lib.hid hbs
    have HBS := Lib.hid (show w.heap.size + 2 ≤ WR.heap.size from (Array.getElem?_eq_some_iff.1 hm.2.1).1)
    obtain ⟨NA, hNA⟩ : ∃ NA, NA = L.length := ⟨_, rfl⟩
    rw [← hNA] at hm hjA
    have HLN := Lib.hid (show L.length ≤ 4 by omega)
    have HNA := Lib.hid hNA
    have HM := Lib.hid hm
    clear hbs hm hNA HM1 hr4 hk1
    obtain ⟨m1, m2, m3, m6, m7, m8⟩ := HM.out
    obtain ⟨y0, y2, hl2⟩ := one_facts m2
    have HD := Lib.hid m7
    have HPL := Lib.hid m6
    by_cases hj : 0 < j
    · have hdj : decide ((0 : Int) < (j : Int)) = true := by simp; omega
      clear m1 m2 m3 m6 m7 m8
      go_wp2_with fail
      go_region_law (first
        | (go_simp; go_at_call 12; (with_reducible refine (subtrees_any p a cap zs k2 _ (by first | exact HD.out | exact deck_up_s HD.out) (by omega)).mono ?_); rintro e w5 ⟨x5, z5, A5, B5, k5, hG, rfl, hoA, hoB, hd5, hk5, hb5⟩; obtain ⟨a5, c5, rfl, _, _⟩ := hoA.lies; obtain ⟨b5, d5, rfl, _, _⟩ := hoB.lies; have hm5 := HM.out.call (((But.refl p WR).drew).next hb5) hd5; obtain ⟨x0, x2, xl⟩ := one_facts hm5.2.1; have hzz : ¬ w.heap.size + 1 = w5.heap.size := (by omega); have hzy : ¬ w5.heap.size = w.heap.size + 1 := (by omega); obtain ⟨ss, hv1, hv2, hv3⟩ := hm5.2.2.1; have HV1 := Lib.hid hv1; have HV2 := Lib.hid hv2; have HV3 := Lib.hid hv3; have HM5 := Lib.hid hm5; have HO5 := Lib.hid (And.intro (hoA.base (show w.heap.size + 2 ≤ WR.drew.heap.size from HBS.out)) (hoB.base (show w.heap.size + 2 ≤ WR.drew.heap.size from HBS.out))); have HG5 := Lib.hid hG; have HK5 := Lib.hid hk5; have HZ5 := Lib.hid (Nat.le_trans HBS.out hb5.size); clear hm5 hoA hoB hG hd5 hk5 hb5 hv1 hv2 hv3)
        | (refine step_append_s rfl (.tmp 13) (.tmp 16) 22 rfl (w.heap.size + 2) 27 i0 (.agg #[.slice none 0 0, .slice none 0 0]) 2 48 Tryz.underlying22 hi hz0 hz1 hz2 rfl (by decide) _ L.length (ssCells ss) (by simp [Act.eval]) (own_below HV2.out (belowNew w5 _)) ⟨w5.heap.size, 0, none⟩ 1 1 (sCells (.slice a5 A5.length c5, .slice b5 B5.length d5)) (by simp [Act.eval]) rfl (fun j u h => news_row w5 #[.slice a5 A5.length c5, .slice b5 B5.length d5] 27 j u (by simpa [sCells] using h)) (sCells_one _ _ _ _ _ _) (by have := HLN.out; unfold maxLen; omega) (by have := HLN.out; omega) (by have h9 : (w.heap.size + 2) ≤ w5.heap.size := HZ5.out; simp; omega) ?_; intro v6 w6 hown6 hgr6; obtain ⟨a6, c6, hv6, _, _⟩ := (OwnSb.snoc HV1.out (own_below HV2.out (belowNew w5 _)) (fun i hi => ⟨(HV3.out i hi).1.below (belowNew w5 _), (HV3.out i hi).2.below (belowNew w5 _)⟩) ⟨HO5.out.1.below (belowNew w5 _), HO5.out.2.below (belowNew w5 _)⟩ hgr6 hown6 (g := (A5, B5))).lies; rw [List.length_append, List.length_singleton] at hv6; subst hv6; obtain ⟨z0, z2, zl⟩ := one_facts ((row_block (own_below HV2.out (belowNew w5 _)) hgr6 (show w.heap.size + 1 < (w5.alloc _).heap.size by simp; omega) (show w.heap.size + 1 < (w.heap.size + 2) by omega)).trans (((belowNew w5 _).block _ xl).trans HM5.out.2.1)); have HP := Lib.hid hown6; have HGR := Lib.hid hgr6; clear hown6 hgr6))
      all_goals
        go_wp2_with fail
        go_roundw
        case rel => exact ⟨j - 1, L ++ [(A5, B5)], _, k5, by rw [List.length_append, ← HNA.out]; simp; omega, (fun x hx => by
          rcases List.mem_append.1 hx with hx | hx
          · exact HBSG.out x hx
          · rw [List.mem_singleton.1 hx]; exact HG5.out), by go_num, (HM5.out.below (belowNew w5 _)).push HV1.out (own_below HV2.out (belowNew w5 _)) (fun i hi => ⟨(HV3.out i hi).1.below (belowNew w5 _), (HV3.out i hi).2.below (belowNew w5 _)⟩) ⟨HO5.out.1.below (belowNew w5 _), HO5.out.2.below (belowNew w5 _)⟩ HGR.out HP.out, by have := HK5.out; omega⟩
        case measure => simp [intOf]; omega
    · have hdj : decide ((0 : Int) < (j : Int)) = false := by simp; omega
      obtain ⟨g0, g2, gl⟩ := one_facts m1
      have M1 := Lib.hid m1
      have M3 := Lib.hid m3
      have M7 := Lib.hid m7
      have M8 := Lib.hid m8
      clear m1 m2 m3 m7 m8
      go_wp2_with fail
      have hs := But.set w.heap.size 0 WR (.slice av NA cv)
      exact bodyPost_ret (stRes rfl _ _ _ _ rfl (one_set M1.out)) rfl ⟨_, L, k2, HLN.out, HBSG.out, rfl, (M3.out.but hs (by omega)).base (by omega), M7.out.grown hs (fun j e => by obtain rfl := Option.some.inj e; omega), by omega, M8.out.fresh hs (Nat.le_refl _)⟩
end Go.Proofs.YtjdfgalcnbnobaaGreatDoor
namespace Go.Proofs.YtjdfgalcnbnobaaGreatDoor
open Go.RowKit

theorem pidx_any (s : ByteArray) (c : UInt8) (w : World) : Calls Tryz.prog 141 #[.string s, .int .u8 ((c.toNat : Nat) : Int)] w fun e w' => e = .returned (.int .i64 (Lib.indexByte s.data.toList c)) ∧ w' = w := by
  have h := Any.strings_IndexByte lays137 s ((c.toNat : Nat) : Int) w
  have e : ((c.toNat : Nat) : Int).toNat.toUInt8 = c := by simp
  rw [e] at h
  exact h
set_option maxHeartbeats 1000000 in
theorem palnum_any (n : Nat) (w : World) :
    Calls Tryz.prog 140 #[.int .u8 (n : Int)] w fun e w' => e = .returned (.bool (alnum n)) ∧ w' = w := by
  rcases (by omega : (n < 48) ∨ (48 ≤ n ∧ n ≤ 57) ∨ (58 ≤ n ∧ n ≤ 64) ∨ (65 ≤ n ∧ n ≤ 90) ∨ (91 ≤ n ∧ n ≤ 96) ∨ (97 ≤ n ∧ n ≤ 122) ∨ (123 ≤ n)) with h | h | h | h | h | h | h
  · have hr : alnum n = false := by simp [alnum]; omega
    have d0 : decide ((65 : Int) ≤ (n : Int)) = false := by simp; omega
    have d1 : decide ((n : Int) ≤ 90) = true := by simp; omega
    have d2 : decide ((97 : Int) ≤ (n : Int)) = false := by simp; omega
    have d3 : decide ((n : Int) ≤ 122) = true := by simp; omega
    have d4 : decide ((48 : Int) ≤ (n : Int)) = false := by simp; omega
    have d5 : decide ((n : Int) ≤ 57) = true := by simp; omega
    have HR := Lib.hid hr
    clear hr h
    go_enter Tryz.func140, Tryz.ntmps140
    go_wp2_with fail
    go_ret
    exact ⟨by rw [HR.out]; rfl, rfl⟩
  · have hr : alnum n = true := by simp [alnum]; omega
    have d0 : decide ((65 : Int) ≤ (n : Int)) = false := by simp; omega
    have d1 : decide ((n : Int) ≤ 90) = true := by simp; omega
    have d2 : decide ((97 : Int) ≤ (n : Int)) = false := by simp; omega
    have d3 : decide ((n : Int) ≤ 122) = true := by simp; omega
    have d4 : decide ((48 : Int) ≤ (n : Int)) = true := by simp; omega
    have d5 : decide ((n : Int) ≤ 57) = true := by simp; omega
    have HR := Lib.hid hr
    clear hr h
    go_enter Tryz.func140, Tryz.ntmps140
    go_wp2_with fail
    go_ret
    exact ⟨by rw [HR.out]; rfl, rfl⟩
  · have hr : alnum n = false := by simp [alnum]; omega
    have d0 : decide ((65 : Int) ≤ (n : Int)) = false := by simp; omega
    have d1 : decide ((n : Int) ≤ 90) = true := by simp; omega
    have d2 : decide ((97 : Int) ≤ (n : Int)) = false := by simp; omega
    have d3 : decide ((n : Int) ≤ 122) = true := by simp; omega
    have d4 : decide ((48 : Int) ≤ (n : Int)) = true := by simp; omega
    have d5 : decide ((n : Int) ≤ 57) = false := by simp; omega
    have HR := Lib.hid hr
    clear hr h
    go_enter Tryz.func140, Tryz.ntmps140
    go_wp2_with fail
    go_ret
    exact ⟨by rw [HR.out]; rfl, rfl⟩
  · have hr : alnum n = true := by simp [alnum]; omega
    have d0 : decide ((65 : Int) ≤ (n : Int)) = true := by simp; omega
    have d1 : decide ((n : Int) ≤ 90) = true := by simp; omega
    have d2 : decide ((97 : Int) ≤ (n : Int)) = false := by simp; omega
    have d3 : decide ((n : Int) ≤ 122) = true := by simp; omega
    have d4 : decide ((48 : Int) ≤ (n : Int)) = true := by simp; omega
    have d5 : decide ((n : Int) ≤ 57) = false := by simp; omega
    have HR := Lib.hid hr
    clear hr h
    go_enter Tryz.func140, Tryz.ntmps140
    go_wp2_with fail
    go_ret
    exact ⟨by rw [HR.out]; rfl, rfl⟩
  · have hr : alnum n = false := by simp [alnum]; omega
    have d0 : decide ((65 : Int) ≤ (n : Int)) = true := by simp; omega
    have d1 : decide ((n : Int) ≤ 90) = false := by simp; omega
    have d2 : decide ((97 : Int) ≤ (n : Int)) = false := by simp; omega
    have d3 : decide ((n : Int) ≤ 122) = true := by simp; omega
    have d4 : decide ((48 : Int) ≤ (n : Int)) = true := by simp; omega
    have d5 : decide ((n : Int) ≤ 57) = false := by simp; omega
    have HR := Lib.hid hr
    clear hr h
    go_enter Tryz.func140, Tryz.ntmps140
    go_wp2_with fail
    go_ret
    exact ⟨by rw [HR.out]; rfl, rfl⟩
  · have hr : alnum n = true := by simp [alnum]; omega
    have d0 : decide ((65 : Int) ≤ (n : Int)) = true := by simp; omega
    have d1 : decide ((n : Int) ≤ 90) = false := by simp; omega
    have d2 : decide ((97 : Int) ≤ (n : Int)) = true := by simp; omega
    have d3 : decide ((n : Int) ≤ 122) = true := by simp; omega
    have d4 : decide ((48 : Int) ≤ (n : Int)) = true := by simp; omega
    have d5 : decide ((n : Int) ≤ 57) = false := by simp; omega
    have HR := Lib.hid hr
    clear hr h
    go_enter Tryz.func140, Tryz.ntmps140
    go_wp2_with fail
    go_ret
    exact ⟨by rw [HR.out]; rfl, rfl⟩
  · have hr : alnum n = false := by simp [alnum]; omega
    have d0 : decide ((65 : Int) ≤ (n : Int)) = true := by simp; omega
    have d1 : decide ((n : Int) ≤ 90) = false := by simp; omega
    have d2 : decide ((97 : Int) ≤ (n : Int)) = true := by simp; omega
    have d3 : decide ((n : Int) ≤ 122) = false := by simp; omega
    have d4 : decide ((48 : Int) ≤ (n : Int)) = true := by simp; omega
    have d5 : decide ((n : Int) ≤ 57) = false := by simp; omega
    have HR := Lib.hid hr
    clear hr h
    go_enter Tryz.func140, Tryz.ntmps140
    go_wp2_with fail
    go_ret
    exact ⟨by rw [HR.out]; rfl, rfl⟩


theorem palnum_is {c : UInt8} {b : Bool} (h : alnum c.toNat = b) (w : World) : Calls Tryz.prog 140 #[.int .u8 ((c.toNat : Nat) : Int)] w fun e w' => e = .returned (.bool b) ∧ w' = w := by
  have := palnum_any c.toNat w
  rwa [h] at this
set_option maxHeartbeats 1000000 in
theorem plb_any (c : UInt8) (w : World) : Calls Tryz.prog 143 #[.int .u8 ((c.toNat : Nat) : Int)] w fun e w' => e = .returned (.bool (lblB c)) ∧ w' = w := by
  cases ha : alnum c.toNat with
  | true =>
    have HR := Lib.hid (show lblB c = true by unfold lblB; rw [ha]; rfl)
    have HA := Lib.hid (fun w => palnum_is ha w)
    clear ha
    go_enter Tryz.func143, Tryz.ntmps143
    go_wp2_with (go_at_call 140; (with_reducible refine (HA.out _).mono ?_); rintro e w1 ⟨rfl, rfl⟩)
    go_ret
    exact ⟨by rw [HR.out]; rfl, rfl⟩
  | false =>
    have HA := Lib.hid (fun w => palnum_is ha w)
    by_cases h : c = 45
    · have d : (((c.toNat : Nat) : Int) == (45 : Int)) = true := by rw [h]; rfl
      have HR := Lib.hid (show lblB c = true by unfold lblB; rw [h]; rfl)
      clear ha h
      go_enter Tryz.func143, Tryz.ntmps143
      go_wp2_with (go_at_call 140; (with_reducible refine (HA.out _).mono ?_); rintro e w1 ⟨rfl, rfl⟩)
      go_ret
      exact ⟨by rw [HR.out]; rfl, rfl⟩
    · have d : (((c.toNat : Nat) : Int) == (45 : Int)) = false := by
        have : ¬ c.toNat = 45 := fun k => h (UInt8.toNat_inj.1 k)
        simp; omega
      have HR := Lib.hid (show lblB c = false by unfold lblB; rw [ha, beq_eq_false_iff_ne.2 h]; rfl)
      clear ha h
      go_enter Tryz.func143, Tryz.ntmps143
      go_wp2_with (go_at_call 140; (with_reducible refine (HA.out _).mono ?_); rintro e w1 ⟨rfl, rfl⟩)
      go_ret
      exact ⟨by rw [HR.out]; rfl, rfl⟩

def locB (c : UInt8) : Bool := alnum c.toNat || signsL.contains c
theorem pidx_signs (c : UInt8) (w : World) : Calls Tryz.prog 141 #[.string ⟨#[33, 35, 36, 37, 38, 39, 42, 43, 45, 47, 61, 63, 94, 95, 96, 123, 124, 125, 126, 46]⟩, .int .u8 ((c.toNat : Nat) : Int)] w fun e w' => e = .returned (.int .i64 (Lib.indexByte signsL c)) ∧ w' = w :=
  pidx_any ⟨#[33, 35, 36, 37, 38, 39, 42, 43, 45, 47, 61, 63, 94, 95, 96, 123, 124, 125, 126, 46]⟩ c w
set_option maxHeartbeats 1000000 in
theorem pxb_any (c : UInt8) (w : World) : Calls Tryz.prog 127 #[.int .u8 ((c.toNat : Nat) : Int)] w fun e w' => e = .returned (.bool (locB c)) ∧ w' = w := by
  cases ha : alnum c.toNat with
  | true =>
    have HR := Lib.hid (show locB c = true by unfold locB; rw [ha]; rfl)
    have HA := Lib.hid (fun w => palnum_is ha w)
    clear ha
    go_enter Tryz.func127, Tryz.ntmps127
    go_wp2_with (go_at_call 140; (with_reducible refine (HA.out _).mono ?_); rintro e w1 ⟨rfl, rfl⟩)
    go_ret
    exact ⟨by rw [HR.out]; rfl, rfl⟩
  | false =>
    have HA := Lib.hid (fun w => palnum_is ha w)
    have HX := Lib.hid (fun w => pidx_signs c w)
    have HR := Lib.hid (show locB c = decide (0 ≤ Lib.indexByte signsL c) by unfold locB; rw [ha, idx_has]; rfl)
    generalize Lib.indexByte signsL c = z at HX HR
    clear ha
    cases hz : decide ((0 : Int) ≤ z)
    · rw [hz] at HR
      go_enter Tryz.func127, Tryz.ntmps127
      go_wp2_with (first
        | (go_at_call 140; (with_reducible refine (HA.out _).mono ?_); rintro e w1 ⟨rfl, rfl⟩)
        | (go_at_call 141; (with_reducible refine (HX.out _).mono ?_); rintro e w1 ⟨rfl, rfl⟩))
      go_ret
      exact ⟨by rw [HR.out]; rfl, rfl⟩
    · rw [hz] at HR
      go_enter Tryz.func127, Tryz.ntmps127
      go_wp2_with (first
        | (go_at_call 140; (with_reducible refine (HA.out _).mono ?_); rintro e w1 ⟨rfl, rfl⟩)
        | (go_at_call 141; (with_reducible refine (HX.out _).mono ?_); rintro e w1 ⟨rfl, rfl⟩))
      go_ret
      exact ⟨by rw [HR.out]; rfl, rfl⟩

/-- The function numbered g says of each byte whether p holds. -/
def PaysB (g : Nat) (p : UInt8 → Bool) : Prop := ∀ (c : UInt8) w, Calls Tryz.prog g #[.int .u8 ((c.toNat : Nat) : Int)] w fun e w' => e = .returned (.bool (p c)) ∧ w' = w
set_option maxRecDepth 100000 in
set_option maxHeartbeats 2000000 in
theorem pcons_any (g : Nat) (eg : ∀ args w, (callFunc g args).run Tryz.prog w = .ok (.enter g args) w) (p : UInt8 → Bool) (hp : PaysB g p) (L : List UInt8) (hL : L.length ≤ 100000) (w : World) :
    Calls Tryz.prog 126 #[.string (strOf L), .func (.func g) #[] #[]] w fun e w' => e = .returned (.bool (L.all p)) ∧ w' = w := by
  have es := strOf_size L
  have HP := Lib.hid hp
  clear hp
  go_enter Tryz.func126, Tryz.ntmps126
  go_wp2_with fail
  go_loopw [8] (fun i wr => ∃ m : Nat, m ≤ L.length ∧ i = .int .i64 (m : Int) ∧ L.all p = (L.drop m).all p ∧ wr = w) (fun i _ => L.length - (intOf i).toNat)
  case atStart => exact ⟨0, Nat.zero_le _, rfl, rfl, rfl⟩
  case round =>
    obtain ⟨m, hm, rfl, hal, rfl⟩ := hrel
    by_cases hmt : m < L.length
    · have hd : decide ((m : Int) < (L.length : Int)) = true := by simp; omega
      obtain ⟨c, hc, hcn⟩ := u8at_list (strOf L) m (by rw [es]; exact hmt)
      have hix := run_index_u8 (P := Tryz.prog) Tryz.underlying9 (strOf L) m (by rw [es]; exact hmt) (m : Int) rfl
      rw [hcn] at hix
      rw [strOf_list] at hc
      rw [drop_cons hc, List.all_cons] at hal
      have HAL := Lib.hid hal
      have HC := Lib.hid (HP.out c wr)
      clear hc hcn hal
      cases ha : p c with
      | true =>
        rw [ha] at HAL HC
        have HN2 := Lib.hid (show L.all p = (L.drop (m + 1)).all p by rw [HAL.out, Bool.true_and])
        clear ha
        go_wp2_with (go_at_fn g; refine HC.out.mono ?_; rintro e W' ⟨rfl, rfl⟩)
        go_roundw
        case rel => exact ⟨m + 1, by omega, by go_num, HN2.out, by first | exact trivial | rfl⟩
        case measure => simp [intOf]; omega
      | false =>
        rw [ha] at HAL HC
        have HF := Lib.hid (show L.all p = false by rw [HAL.out, Bool.false_and])
        clear ha
        go_wp2_with (go_at_fn g; refine HC.out.mono ?_; rintro e W' ⟨rfl, rfl⟩)
        go_ret
        exact ⟨by rw [HF.out]; rfl, rfl⟩
    · have hd : decide ((m : Int) < (L.length : Int)) = false := by simp; omega
      have HF := Lib.hid (show L.all p = true by rw [hal, List.drop_eq_nil_of_le (by omega)]; rfl)
      clear hal
      go_wp2_with fail
      go_ret
      exact ⟨by rw [HF.out]; rfl, rfl⟩
theorem pcons_lb (L : List UInt8) (hL : L.length ≤ 100000) (w : World) : Calls Tryz.prog 126 #[.string (strOf L), .func (.func 143) #[] #[]] w fun e w' => e = .returned (.bool (L.all lblB)) ∧ w' = w :=
  pcons_any _ (enters_of Tryz.func143 (by kernel_rfl) rfl) lblB plb_any L hL w
theorem pcons_xb (L : List UInt8) (hL : L.length ≤ 100000) (w : World) : Calls Tryz.prog 126 #[.string (strOf L), .func (.func 127) #[] #[]] w fun e w' => e = .returned (.bool (L.all locB)) ∧ w' = w :=
  pcons_any _ (enters_of Tryz.func127 (by kernel_rfl) rfl) locB pxb_any L hL w
end Go.Proofs.YtjdfgalcnbnobaaGreatDoor
