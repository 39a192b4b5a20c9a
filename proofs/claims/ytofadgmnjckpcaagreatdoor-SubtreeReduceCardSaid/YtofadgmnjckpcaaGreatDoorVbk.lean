/-
  What every card of this seat's laws over subtree needs: the tables that the rows list.
  The table subtree.kinds, and the frame of the laws that read it (SubtreeReduce, SubtreeSame).
  The contract of the law's state: up to four constraints of the generator.
-/
import Derived.Test.YtofadgmnjckpcaaGreatDoorCards
import Derived.Test.YtofadgmnjckpcaaGreatDoorTie
import Derived.Test.YtofadgmnjckpcaaGreatDoorVap
import Derived.Test.YtofadgmnjckpcaaGreatDoorVbf
import Derived.ProofKit
import Derived.OpenShut
import Derived.ChangeSame
import Derived.Deep.DeepHandedRow
import Derived.Lib.LaidU8
import Derived.Lay
import Derived.Stop.LaidErr
import Derived.Test.YtofadgmnjckpcaaGreatDoorVbd
namespace Go.Proofs.YtofadgmnjckpcaaGreatDoor
open Go.ChangeShapes Go.WideShapes Go.ChangeAt Go.RowKit Go.ChangeMaps

theorem ints_str {P : Program} {w : World} {base : Nat} {sp : Nat → Bool} {held : Bool} {fuel : Nat} {t i s : TypeId} {f0 f1 f2 : Field} {cs : List Value} {x y : Int} {z : List UInt8} {q : List MemPlace} (hu : P.underlying t = some (.struct #[f0, f1, f2])) (hi : P.underlying i = some (.int .i64)) (hs : P.underlying s = some .string)
    (t0 : f0.type = i) (t1 : f1.type = i) (t2 : f2.type = s) (o0 : f0.offset = 0) (o1 : f1.offset = 1) (o2 : f2.offset = 2) (c1 : P.cellsOf i = 1) (c2 : P.cellsOf s = 1) (c3 : P.cellsOf t = 3) (h : DataW.trod (fun _ : TypeId × Value => ()) P w base sp held fuel t cs = some (.agg [.lit (.int .i64 x), .lit (.int .i64 y), .lit (.string z)], q)) :
    cs = [.int .i64 x, .int .i64 y, .string (strOf z)] := by
  obtain ⟨xs, k, e, hx, hl, hlen, hfd⟩ := DataW.trod_struct hu h
  have hlen3 : xs.length = 3 := hlen
  have hs3 : cs.length = 3 := hl.trans c3
  match xs, hlen3 with
  | [y0, y1, y2], _ =>
    match cs, hs3 with
    | [z0, z1, z2], _ =>
      have g0 : DataW.trod _ P w base sp held k f0.type (([z0, z1, z2].drop f0.offset).take (P.cellsOf f0.type)) = some y0 := hfd 0 _ rfl
      have g1 : DataW.trod _ P w base sp held k f1.type (([z0, z1, z2].drop f1.offset).take (P.cellsOf f1.type)) = some y1 := hfd 1 _ rfl
      have g2 : DataW.trod _ P w base sp held k f2.type (([z0, z1, z2].drop f2.offset).take (P.cellsOf f2.type)) = some y2 := hfd 2 _ rfl
      rw [t0, o0, c1] at g0
      rw [t1, o1, c1] at g1
      rw [t2, o2, c2] at g2
      obtain ⟨a0, e0, x0, _⟩ := DataW.trod_int hi g0
      obtain ⟨a1, e1, x1, _⟩ := DataW.trod_int hi g1
      obtain ⟨a2, e2, x2, _⟩ := DataW.trod_string hs g2
      have r0 : z0 = .int .i64 a0 := by simpa using e0
      have r1 : z1 = .int .i64 a1 := by simpa using e1
      have r2 : z2 = .string a2 := by simpa using e2
      have ex := congrArg Prod.fst hx
      rw [x0, x1, x2] at ex
      simp at ex
      obtain ⟨h0, h1, h2⟩ := ex
      rw [r0, r1, r2, h0, h1, strOf_of (b := a2) (l := z) h2.symm]
theorem kd_reads {W : World} (h : Lib.VarReads Tryz.prog W "certpath/gname.kinds" Rows.laid_certpath_gname_kinds) : KdT W := by
  obtain ⟨g, t, cs, fuel, p, hg, hty, hvar, hd⟩ := h
  obtain rfl : 1 = g := Option.some.inj ((show Tryz.prog.globalNamed "certpath/gname.kinds" = some 1 by kernel_rfl).symm.trans hg)
  obtain rfl : 102 = t := Option.some.inj ((show (Tryz.prog.globals[1]?).map (·.type) = some 102 by kernel_rfl).symm.trans hty)
  have c1 : Tryz.prog.cellsOf 3 = 1 := by kernel_rfl
  have c2 : Tryz.prog.cellsOf 9 = 1 := by kernel_rfl
  have c3 : Tryz.prog.cellsOf 101 = 3 := by kernel_rfl
  unfold Rows.laid_certpath_gname_kinds at hd
  have key : ∀ i (hi : i < 4) (x y : Int) (z : List UInt8), ([(1, 129, [109, 97, 105, 108, 58]), (2, 130, [100, 110, 115, 58]), (4, 164, [100, 105, 114, 58]), (7, 135, [105, 112, 58])] : List (Int × Int × List UInt8))[i]? = some (x, y, z) → cs[i * 3]? = some (.int .i64 x) ∧ cs[i * 3 + 1]? = some (.int .i64 y) ∧ cs[i * 3 + 2]? = some (.string (strOf z)) := by
    intro i hi x y z hxy
    obtain ⟨fuel', d, q, hdi, he⟩ := Lib.array_elem Tryz.underlying102 hd i hi
    have hd2 : d = .agg [.lit (.int .i64 x), .lit (.int .i64 y), .lit (.string z)] := by
      rcases (by omega : i = 0 ∨ i = 1 ∨ i = 2 ∨ i = 3) with rfl | rfl | rfl | rfl <;> (simp at hxy hdi; obtain ⟨rfl, rfl, rfl⟩ := hxy; exact hdi.symm)
    subst hd2
    rw [c3] at he
    have hcs := ints_str Tryz.underlying101 Tryz.underlying3 Tryz.underlying9 rfl rfl rfl rfl rfl rfl c1 c2 c3 he
    have e0 := congrArg (·[0]?) hcs
    have e1 := congrArg (·[1]?) hcs
    have e2 := congrArg (·[2]?) hcs
    simp only [List.getElem?_take, List.getElem?_drop] at e0 e1 e2
    exact ⟨by rw [← Array.getElem?_toList]; simpa using e0, by rw [← Array.getElem?_toList]; simpa using e1, by rw [← Array.getElem?_toList]; simpa using e2⟩
  intro j hj
  rw [World.var?_cell hg hvar j]
  rcases (by omega : j = 0 ∨ j = 1 ∨ j = 2 ∨ j = 3 ∨ j = 4 ∨ j = 5 ∨ j = 6 ∨ j = 7 ∨ j = 8 ∨ j = 9 ∨ j = 10 ∨ j = 11) with rfl | rfl | rfl | rfl | rfl | rfl | rfl | rfl | rfl | rfl | rfl | rfl
  · exact (key 0 (by omega) _ _ _ rfl).1
  · exact (key 0 (by omega) _ _ _ rfl).2.1
  · exact (key 0 (by omega) _ _ _ rfl).2.2
  · exact (key 1 (by omega) _ _ _ rfl).1
  · exact (key 1 (by omega) _ _ _ rfl).2.1
  · exact (key 1 (by omega) _ _ _ rfl).2.2
  · exact (key 2 (by omega) _ _ _ rfl).1
  · exact (key 2 (by omega) _ _ _ rfl).2.1
  · exact (key 2 (by omega) _ _ _ rfl).2.2
  · exact (key 3 (by omega) _ _ _ rfl).1
  · exact (key 3 (by omega) _ _ _ rfl).2.1
  · exact (key 3 (by omega) _ _ _ rfl).2.2
theorem kd_met {W : World} {L : List (String × DataW Unit)} (h : laidMet Tryz.prog L W) (h1 : ("certpath/gname.kinds", Rows.laid_certpath_gname_kinds) ∈ L) : KdT W := kd_reads (Lib.laidMet.reads h h1)
end Go.Proofs.YtofadgmnjckpcaaGreatDoor
namespace Go.Proofs.YtofadgmnjckpcaaGreatDoor
open Go.ChangeShapes Go.WideShapes Go.ChangeAt Go.RowKit Go.ChangeMaps

def skArr : Array Value := #[.int .i64 1, .int .i64 2, .int .i64 4, .int .i64 7]
/-- The table lies as the program's text lays it. -/
def SkT (w : World) : Prop := ∀ j, j < 4 → w.cell? ⟨0, j, none⟩ = skArr[j]?
theorem SkT.lt {w : World} (h : SkT w) : 0 < w.heap.size := block_lt ((h 0 (by omega)).trans rfl)
theorem SkT.below {w w' : World} (h : SkT w) (hb : Below w.heap.size w w') : SkT w' := fun j hj => (hb.cell (p := ⟨0, j, none⟩) h.lt).trans (h j hj)
theorem SkT.cells {w : World} (h : SkT w) : w.cell? ⟨0, 0, none⟩ = some (.int .i64 1) ∧ w.cell? ⟨0, 1, none⟩ = some (.int .i64 2) ∧ w.cell? ⟨0, 2, none⟩ = some (.int .i64 4) ∧ w.cell? ⟨0, 3, none⟩ = some (.int .i64 7) :=
  ⟨h 0 (by omega), h 1 (by omega), h 2 (by omega), h 3 (by omega)⟩
theorem sk_reads {W : World} (h : Lib.VarReads Tryz.prog W "certpath/subtree.kinds" Rows.laid_certpath_subtree_kinds) : SkT W := by
  obtain ⟨g, t, cs, fuel, p, hg, hty, hvar, hd⟩ := h
  obtain rfl : 0 = g := Option.some.inj ((show Tryz.prog.globalNamed "certpath/subtree.kinds" = some 0 by kernel_rfl).symm.trans hg)
  obtain rfl : 74 = t := Option.some.inj ((show (Tryz.prog.globals[0]?).map (·.type) = some 74 by kernel_rfl).symm.trans hty)
  have c1 : Tryz.prog.cellsOf 3 = 1 := by kernel_rfl
  unfold Rows.laid_certpath_subtree_kinds at hd
  have key : ∀ i (hi : i < 4) (x : Int), ([1, 2, 4, 7] : List Int)[i]? = some x → cs[i]? = some (.int .i64 x) := by
    intro i hi x hx
    obtain ⟨fuel', d, q, hdi, he⟩ := Lib.array_elem Tryz.underlying74 hd i hi
    have hd2 : d = .lit (.int .i64 x) := by
      rcases (by omega : i = 0 ∨ i = 1 ∨ i = 2 ∨ i = 3) with rfl | rfl | rfl | rfl <;> (simp at hx hdi; subst hx; exact hdi.symm)
    subst hd2
    rw [c1, Nat.mul_one] at he
    obtain ⟨a0, e0, x0, _⟩ := DataW.trod_int Tryz.underlying3 he
    have ea : x = a0 := by
      have := congrArg Prod.fst x0
      simpa using this
    have e1 := congrArg (·[0]?) e0
    simp only [List.getElem?_take, List.getElem?_drop] at e1
    rw [ea, ← Array.getElem?_toList]
    simpa using e1
  intro j hj
  rw [World.var?_cell hg hvar j]
  rcases (by omega : j = 0 ∨ j = 1 ∨ j = 2 ∨ j = 3) with rfl | rfl | rfl | rfl
  · exact key 0 (by omega) _ rfl
  · exact key 1 (by omega) _ rfl
  · exact key 2 (by omega) _ rfl
  · exact key 3 (by omega) _ rfl
abbrev laidR : List (String × DataW Unit) := [("unicode/utf8.acceptRanges", Rows.laid_unicode_utf8_acceptRanges), ("unicode.asciiFold", Rows.laid_unicode_asciiFold), ("unicode.caseOrbit", Rows.laid_unicode_caseOrbit), ("certpath/gname.kinds", Rows.laid_certpath_gname_kinds), ("certpath/subtree.kinds", Rows.laid_certpath_subtree_kinds), ("unicode.CaseRanges", Rows.laid_unicode_CaseRanges), ("unicode/utf8.first", Rows.laid_unicode_utf8_first)]
theorem kd_laidR {W : World} (h : laidMetH Tryz.prog laidR W) : KdT W ∧ SkT W := by
  rw [MakeChecks.laidMetH_plain _ _ _ (by kernel_rfl)] at h
  have h' : laidMet Tryz.prog laidR W := h
  exact ⟨kd_met h' (.tail _ (.tail _ (.tail _ (.head _)))), sk_reads (Lib.laidMet.reads h' (.tail _ (.tail _ (.tail _ (.tail _ (.head _))))))⟩
end Go.Proofs.YtofadgmnjckpcaaGreatDoor
namespace Go.Proofs.YtofadgmnjckpcaaGreatDoor
open Go.RowKit

theorem next5_s (p : Nat) (a : Option Addr) (cap : Nat) (zs : List Int) (k : Nat) (w : World) (h : DeckAt w p a cap zs k) (hk2 : k < 1000) :
    Calls Tryz.prog 21 #[.pointer (some ⟨p, 0, none⟩), .int .i64 5] w fun e w' => ∃ r k' : Nat, r < 5 ∧ e = .returned (.int .i64 (r : Int)) ∧ DeckAt w' p a cap zs k' ∧ k' ≤ k + 1 ∧ But p w w' :=
  next_any p a cap zs k 5 w h hk2 (by omega) (by omega)
def StaMid (w0 wr : World) (p : Nat) (a : Option Addr) (cap : Nat) (zs : List Int) (v : Value) (L : List Sub) (k : Nat) : Prop :=
  wr.heap[w0.heap.size]? = some (.cells #[.slice none 0 0] 24 (0, 0)) ∧ wr.heap[w0.heap.size + 1]? = some (.cells #[v] 24 (0, 0)) ∧
    OwnSb wr (w0.heap.size + 2) v L ∧ p < w0.heap.size ∧ DeckAt wr p a cap zs k ∧ But p w0 wr
theorem StaMid.call {w0 wr w5 : World} {p : Nat} {a : Option Addr} {cap : Nat} {zs : List Int} {v : Value} {L : List Sub} {k k5 : Nat} (h : StaMid w0 wr p a cap zs v L k) (hb : But p wr w5) (hd : DeckAt w5 p a cap zs k5) : StaMid w0 w5 p a cap zs v L k5 := by
  obtain ⟨h1, h2, h3, h6, h7, h8⟩ := h
  exact ⟨(hb.block _ (Array.getElem?_eq_some_iff.1 h1).1 (by simp; omega)).trans h1, (hb.block _ (Array.getElem?_eq_some_iff.1 h2).1 (by simp; omega)).trans h2, h3.but hb (by omega), h6, hd, h8.next hb⟩
theorem StaMid.below {w0 wr w5 : World} {p : Nat} {a : Option Addr} {cap : Nat} {zs : List Int} {v : Value} {L : List Sub} {k : Nat} (h : StaMid w0 wr p a cap zs v L k) (hb : Below wr.heap.size wr w5) : StaMid w0 w5 p a cap zs v L k := by
  obtain ⟨h1, h2, h3, h6, h7, h8⟩ := h
  exact ⟨(hb.block _ (Array.getElem?_eq_some_iff.1 h1).1).trans h1, (hb.block _ (Array.getElem?_eq_some_iff.1 h2).1).trans h2, h3.below hb, h6, h7.below hb, h8.next (But.of hb)⟩
theorem StaMid.push {w0 w w6 : World} {p : Nat} {a : Option Addr} {cap : Nat} {zs : List Int} {v v' : Value} {s : Value × Value} {L : List Sub} {k : Nat} {g : Sub} {ss : List (Value × Value)} (h : StaMid w0 w p a cap zs v L k)
    (h1 : ss.length = L.length) (h2 : w.ownsRow (w0.heap.size + 2) 27 2 v L.length (ssCells ss)) (h3 : ∀ i, i < L.length → OwnG w (w0.heap.size + 2) (ss.getD i noSV).1 (L.getD i noSub).1 ∧ OwnG w (w0.heap.size + 2) (ss.getD i noSV).2 (L.getD i noSub).2) (hr : OwnG w (w0.heap.size + 2) s.1 g.1 ∧ OwnG w (w0.heap.size + 2) s.2 g.2)
    (hg : w.grownBy w6 v.ownBlock) (h4 : w6.ownsRow (w0.heap.size + 2) 27 2 v' (L.length + 1) (ssCells ss ++ sCells s)) : StaMid w0 (w6.setCell ⟨w0.heap.size + 1, 0, none⟩ v') p a cap zs v' (L ++ [g]) k := by
  obtain ⟨q1, q2, q3, q6, q7, q8⟩ := h
  have hs := But.set (w0.heap.size + 1) 0 w6 v'
  have c1 := (row_block h2 hg (Array.getElem?_eq_some_iff.1 q1).1 (by omega)).trans q1
  have c2 := (row_block h2 hg (Array.getElem?_eq_some_iff.1 q2).1 (by omega)).trans q2
  exact ⟨(hs.block _ (Array.getElem?_eq_some_iff.1 c1).1 (by simp)).trans c1, one_set c2, (OwnSb.snoc h1 h2 h3 hr hg h4).but hs (by omega), q6, (q7.grown hg (fun j e => by have := (World.ownsRow.lt h2 j e).1; omega)).grown hs (fun j e => by obtain rfl := Option.some.inj e; omega), (but_grown q8 h2 (by omega) hg).fresh hs (by omega)⟩
set_option maxRecDepth 100000 in
set_option maxHeartbeats 8000000 in
theorem state_any (p : Nat) (a : Option Addr) (cap : Nat) (zs : List Int) (k : Nat) (w : World) (h : DeckAt w p a cap zs k) (hk : k ≤ 300) :
    Calls Tryz.prog 11 #[.pointer (some ⟨p, 0, none⟩)] w fun e w' => ∃ (v : Value) (L : List Sub) (k' : Nat), L.length ≤ 4 ∧ (∀ s ∈ L, GenB s) ∧ e = .returned (.agg #[v]) ∧ OwnSb w' w.heap.size v L ∧ DeckAt w' p a cap zs k' ∧ k' ≤ k + 321 ∧ But p w w' := by
  obtain ⟨i0, hi, hz0, hz1, hz2⟩ := info_parts subInfo
  obtain ⟨W0, hW0⟩ : ∃ W0, W0 = (w.alloc (.cells #[.slice none 0 0] 24)).alloc (.cells #[.slice none 0 0] 24) := ⟨_, rfl⟩
  have hb0 : Below w.heap.size w W0 := by rw [hW0]; exact belowTwo w _ _
  have hq0 : W0.heap[w.heap.size]? = some (.cells #[.slice none 0 0] 24 (0, 0)) := by rw [hW0, heap_first]; exact heap_alloc_new w _
  have hq1 : W0.heap[w.heap.size + 1]? = some (.cells #[.slice none 0 0] 24 (0, 0)) := by rw [hW0]; exact heap_second w _ _ _
  have HM0 := Lib.hid (show StaMid w W0 p a cap zs (.slice none 0 0) [] k from ⟨hq0, hq1, OwnSb.nil _ _, h.lt, h.below hb0, But.of hb0⟩)
  have HNX := Lib.hid (next5_s p a cap zs k W0 (h.below hb0) (by omega))
  have HWE := Lib.hid hW0.symm
  clear h hb0 hq0 hq1 hW0
  go_enter Tryz.func11, Tryz.ntmps11
  go_wp2_with fail
  rw [HWE.out]
  refine HNX.out.mono ?_
  rintro e w1 ⟨r4, k1, hr4, rfl, hd, hk1, hb1⟩
  have HM1 := Lib.hid (HM0.out.call hb1 hd)
  clear hd hb1 HM0 HNX HWE
  go_wp2_with fail
  go_loopw [4] (fun i wr => ∃ (j : Nat) (L : List Sub) (v : Value) (k2 : Nat), L.length + j ≤ 4 ∧ (∀ x ∈ L, GenB x) ∧ i = .int .i64 (j : Int) ∧ StaMid w wr p a cap zs v L k2 ∧ k2 + 80 * j ≤ k + 321) (fun i _ => (intOf i).toNat)
  case atStart => exact ⟨r4, [], _, k1, by simp; omega, (fun x hx => by cases hx), rfl, HM1.out, by omega⟩
  case round =>
    obtain ⟨WR, hWR⟩ : ∃ WR, WR = wr := ⟨_, rfl⟩
    subst hWR
    obtain ⟨j, L, v, k2, hjA, hbs, rfl, hm, hkk⟩ := hrel
    obtain ⟨av, cv, rfl, _, _⟩ := hm.2.2.1.lies
    have HBSG := Lib.hid hbs
    have HBS := Lib.hid (show w.heap.size + 2 ≤ WR.heap.size from (Array.getElem?_eq_some_iff.1 hm.2.1).1)
    obtain ⟨NA, hNA⟩ : ∃ NA, NA = L.length := ⟨_, rfl⟩
    rw [← hNA] at hm hjA
    have HLN := Lib.hid (show L.length ≤ 4 by omega)
    have HNA := Lib.hid hNA
    have HM := Lib.hid hm
    clear hbs hm hNA HM1 hr4 hk1
    obtain ⟨m1, m2, m3, m6, m7, m8⟩ := HM.out
    obtain ⟨y0, y2, hl2⟩ := one_facts m2
    have HD := Lib.hid m7
    have HPL := Lib.hid m6
    by_cases hj : 0 < j
    · have hdj : decide ((0 : Int) < (j : Int)) = true := by simp; omega
      clear m1 m2 m3 m6 m7 m8
      go_wp2_with fail
      go_region_law (first
        | (go_simp; go_at_call 12; (with_reducible refine (subtrees_any p a cap zs k2 _ (by first | exact HD.out | exact deck_up_s HD.out) (by omega)).mono ?_); rintro e w5 ⟨x5, z5, A5, B5, k5, hG, rfl, hoA, hoB, hd5, hk5, hb5⟩; obtain ⟨a5, c5, rfl, _, _⟩ := hoA.lies; obtain ⟨b5, d5, rfl, _, _⟩ := hoB.lies; have hm5 := HM.out.call (((But.refl p WR).drew).next hb5) hd5; obtain ⟨x0, x2, xl⟩ := one_facts hm5.2.1; have hzz : ¬ w.heap.size + 1 = w5.heap.size := (by omega); have hzy : ¬ w5.heap.size = w.heap.size + 1 := (by omega); obtain ⟨ss, hv1, hv2, hv3⟩ := hm5.2.2.1; have HV1 := Lib.hid hv1; have HV2 := Lib.hid hv2; have HV3 := Lib.hid hv3; have HM5 := Lib.hid hm5; have HO5 := Lib.hid (And.intro (hoA.base (show w.heap.size + 2 ≤ WR.drew.heap.size from HBS.out)) (hoB.base (show w.heap.size + 2 ≤ WR.drew.heap.size from HBS.out))); have HG5 := Lib.hid hG; have HK5 := Lib.hid hk5; have HZ5 := Lib.hid (Nat.le_trans HBS.out hb5.size); clear hm5 hoA hoB hG hd5 hk5 hb5 hv1 hv2 hv3)
        | (refine step_append_s rfl (.tmp 13) (.tmp 16) 22 rfl (w.heap.size + 2) 27 i0 (.agg #[.slice none 0 0, .slice none 0 0]) 2 48 Tryz.underlying22 hi hz0 hz1 hz2 rfl (by decide) _ L.length (ssCells ss) (by simp [Act.eval]) (own_below HV2.out (belowNew w5 _)) ⟨w5.heap.size, 0, none⟩ 1 1 (sCells (.slice a5 A5.length c5, .slice b5 B5.length d5)) (by simp [Act.eval]) rfl (fun j u h => news_row w5 #[.slice a5 A5.length c5, .slice b5 B5.length d5] 27 j u (by simpa [sCells] using h)) (sCells_one _ _ _ _ _ _) (by have := HLN.out; unfold maxLen; omega) (by have := HLN.out; omega) (by have h9 : (w.heap.size + 2) ≤ w5.heap.size := HZ5.out; simp; omega) ?_; intro v6 w6 hown6 hgr6; obtain ⟨a6, c6, hv6, _, _⟩ := (OwnSb.snoc HV1.out (own_below HV2.out (belowNew w5 _)) (fun i hi => ⟨(HV3.out i hi).1.below (belowNew w5 _), (HV3.out i hi).2.below (belowNew w5 _)⟩) ⟨HO5.out.1.below (belowNew w5 _), HO5.out.2.below (belowNew w5 _)⟩ hgr6 hown6 (g := (A5, B5))).lies; rw [List.length_append, List.length_singleton] at hv6; subst hv6; obtain ⟨z0, z2, zl⟩ := one_facts ((row_block (own_below HV2.out (belowNew w5 _)) hgr6 (show w.heap.size + 1 < (w5.alloc _).heap.size by simp; omega) (show w.heap.size + 1 < (w.heap.size + 2) by omega)).trans (((belowNew w5 _).block _ xl).trans HM5.out.2.1)); have HP := Lib.hid hown6; have HGR := Lib.hid hgr6; clear hown6 hgr6))
      all_goals
        go_wp2_with fail
        go_roundw
        case rel => exact ⟨j - 1, L ++ [(A5, B5)], _, k5, by rw [List.length_append, ← HNA.out]; simp; omega, (fun x hx => by
          rcases List.mem_append.1 hx with hx | hx
          · exact HBSG.out x hx
          · rw [List.mem_singleton.1 hx]; exact HG5.out), by go_num, (HM5.out.below (belowNew w5 _)).push HV1.out (own_below HV2.out (belowNew w5 _)) (fun i hi => ⟨(HV3.out i hi).1.below (belowNew w5 _), (HV3.out i hi).2.below (belowNew w5 _)⟩) ⟨HO5.out.1.below (belowNew w5 _), HO5.out.2.below (belowNew w5 _)⟩ HGR.out HP.out, by have := HK5.out; omega⟩
        case measure => simp [intOf]; omega
    · have hdj : decide ((0 : Int) < (j : Int)) = false := by simp; omega
      obtain ⟨g0, g2, gl⟩ := one_facts m1
      have M1 := Lib.hid m1
      have M3 := Lib.hid m3
      have M7 := Lib.hid m7
      have M8 := Lib.hid m8
      clear m1 m2 m3 m7 m8
      go_wp2_with fail
      have hs := But.set w.heap.size 0 WR (.slice av NA cv)
      exact bodyPost_ret (stRes rfl _ _ _ _ rfl (one_set M1.out)) rfl ⟨_, L, k2, HLN.out, HBSG.out, rfl, (M3.out.but hs (by omega)).base (by omega), M7.out.grown hs (fun j e => by obtain rfl := Option.some.inj e; omega), by omega, M8.out.fresh hs (Nat.le_refl _)⟩
end Go.Proofs.YtofadgmnjckpcaaGreatDoor
