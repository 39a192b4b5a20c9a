/-
  The contracts of the generator Subtrees of name constraints, and of the law's state.
-/
import Derived.Test.YtbpdenfiifcfcaaGreatDoorMbk
import Derived.Test.YtbpdenfiifcfcaaGreatDoorMbd
import Derived.Test.YtbpdenfiifcfcaaGreatDoorMbc
import Derived.Deep.RegionLaw
namespace Go.Proofs.YtbpdenfiifcfcaaGreatDoor
open Go.RowKit

theorem deck_up_s {w : World} {p : Nat} {a : Option Addr} {cap : Nat} {zs : List Int} {k : Nat} (h : DeckAt w p a cap zs k) : DeckAt w.drew p a cap zs k := h.below (Below.refl _ w).drew
/-- A row of general names is kept while another one grows. -/
theorem OwnG.keptD {w w' : World} {B B' m : Nat} {v u : Value} {l : List Gn} {xs : List Value} (h : OwnG w B u l) (ho : w.ownsRow B' 29 3 v m xs) (hd : u.ownBlock = none ∨ u.ownBlock ≠ v.ownBlock) (hg : w.grownBy w' v.ownBlock) : OwnG w' B u l := by
  obtain ⟨ss, q1, q2, q3⟩ := h
  exact ⟨ss, q1, World.ownsRow.kept q2 hg hd, fun i hi => (q3 i hi).keptG ho hg⟩
/-- In the middle of Subtrees: the result's cell, the constraints, the deck. -/
def SubMid (w0 wr : World) (p : Nat) (a : Option Addr) (cap : Nat) (zs : List Int) (B2 : Nat) (u v : Value) (A B : List Gn) (k : Nat) : Prop :=
  wr.heap[w0.heap.size]? = some (.cells #[.slice none 0 0, .slice none 0 0] 24 (0, 0)) ∧ wr.heap[w0.heap.size + 1]? = some (.cells #[u, v] 24 (0, 0)) ∧
    OwnG wr (w0.heap.size + 2) u A ∧ OwnG wr B2 v B ∧ w0.heap.size + 2 ≤ B2 ∧ p < w0.heap.size ∧ DeckAt wr p a cap zs k ∧ But p w0 wr
theorem SubMid.call {w0 wr w5 : World} {p : Nat} {a : Option Addr} {cap : Nat} {zs : List Int} {B2 : Nat} {u v : Value} {A B : List Gn} {k k5 : Nat} (h : SubMid w0 wr p a cap zs B2 u v A B k) (hb : But p wr w5) (hd : DeckAt w5 p a cap zs k5) : SubMid w0 w5 p a cap zs B2 u v A B k5 := by
  obtain ⟨h1, h2, h3, h4, h5, h6, h7, h8⟩ := h
  exact ⟨(hb.block _ (Array.getElem?_eq_some_iff.1 h1).1 (by simp; omega)).trans h1, (hb.block _ (Array.getElem?_eq_some_iff.1 h2).1 (by simp; omega)).trans h2, h3.but hb (by omega), h4.but hb (by omega), h5, h6, hd, h8.next hb⟩
theorem SubMid.below {w0 wr w5 : World} {p : Nat} {a : Option Addr} {cap : Nat} {zs : List Int} {B2 : Nat} {u v : Value} {A B : List Gn} {k : Nat} (h : SubMid w0 wr p a cap zs B2 u v A B k) (hb : Below wr.heap.size wr w5) : SubMid w0 w5 p a cap zs B2 u v A B k := by
  obtain ⟨h1, h2, h3, h4, h5, h6, h7, h8⟩ := h
  exact ⟨(hb.block _ (Array.getElem?_eq_some_iff.1 h1).1).trans h1, (hb.block _ (Array.getElem?_eq_some_iff.1 h2).1).trans h2, h3.below hb, h4.below hb, h5, h6, h7.below hb, h8.next (But.of hb)⟩
theorem row_block {w w' : World} {B k n : Nat} {e : TypeId} {v : Value} {xs : List Value} {q : Nat} (ho : w.ownsRow B e k v n xs) (hg : w.grownBy w' v.ownBlock) (hq : q < w.heap.size) (hB : q < B) : w'.heap[q]? = w.heap[q]? :=
  hg.block q hq (fun e => by have := (World.ownsRow.lt ho q e.symm).1; omega)
theorem but_grown {w0 w w' : World} {p B k n : Nat} {e : TypeId} {v : Value} {xs : List Value} (hb : But p w0 w) (ho : w.ownsRow B e k v n xs) (hB : w0.heap.size ≤ B) (hg : w.grownBy w' v.ownBlock) : But p w0 w' :=
  World.grownBy.andThen hb hg (fun j e => .inl (Nat.le_trans hB (World.ownsRow.lt ho j e).1))
/-- One more excluded one; one more permitted one. -/
theorem SubMid.pushV {w0 w w6 : World} {p : Nat} {a : Option Addr} {cap : Nat} {zs : List Int} {B2 : Nat} {u v v' s : Value} {A B : List Gn} {k : Nat} {g : Gn} {ss : List Value} (h : SubMid w0 w p a cap zs B2 u v A B k) (hu : ∀ q, u.ownBlock = some q → q < B2)
    (h1 : ss.length = B.length) (h2 : w.ownsRow B2 29 3 v B.length (gsCells B ss)) (h3 : ∀ i, i < B.length → OwnN w B2 (ss.getD i noS) (B.getD i noG).2.2) (hr : OwnN w B2 s g.2.2)
    (hg : w.grownBy w6 v.ownBlock) (h4 : w6.ownsRow B2 29 3 v' (B.length + 1) (gsCells B ss ++ gCells g s)) : SubMid w0 (w6.setCell ⟨w0.heap.size + 1, 1, none⟩ v') p a cap zs B2 u v' A (B ++ [g]) k := by
  obtain ⟨q1, q2, q3, q4, q5, q6, q7, q8⟩ := h
  have hs := But.set (w0.heap.size + 1) 1 w6 v'
  have c1 := (row_block h2 hg (Array.getElem?_eq_some_iff.1 q1).1 (by omega)).trans q1
  have c2 := (row_block h2 hg (Array.getElem?_eq_some_iff.1 q2).1 (by omega)).trans q2
  have hne : u.ownBlock = none ∨ u.ownBlock ≠ v.ownBlock := by
    cases hu0 : u.ownBlock with
    | none => exact .inl rfl
    | some q => exact .inr (fun e => by have := hu q hu0; have := (World.ownsRow.lt h2 q e.symm).1; omega)
  exact ⟨(hs.block _ (Array.getElem?_eq_some_iff.1 c1).1 (by simp)).trans c1, set2_1 c2, (q3.keptD h2 hne hg).but hs (by omega), (OwnG.snoc h1 h2 h3 hr hg h4).but hs (by omega), q5, q6, (q7.grown hg (fun j e => by have := (World.ownsRow.lt h2 j e).1; omega)).grown hs (fun j e => by obtain rfl := Option.some.inj e; omega), (but_grown q8 h2 (by omega) hg).fresh hs (by omega)⟩
theorem SubMid.pushU {w0 w w6 : World} {p : Nat} {a : Option Addr} {cap : Nat} {zs : List Int} {B2 : Nat} {u u' s : Value} {A : List Gn} {k : Nat} {g : Gn} {ss : List Value} (h : SubMid w0 w p a cap zs B2 u (.slice none 0 0) A [] k)
    (h1 : ss.length = A.length) (h2 : w.ownsRow (w0.heap.size + 2) 29 3 u A.length (gsCells A ss)) (h3 : ∀ i, i < A.length → OwnN w (w0.heap.size + 2) (ss.getD i noS) (A.getD i noG).2.2) (hr : OwnN w (w0.heap.size + 2) s g.2.2)
    (hg : w.grownBy w6 u.ownBlock) (h4 : w6.ownsRow (w0.heap.size + 2) 29 3 u' (A.length + 1) (gsCells A ss ++ gCells g s)) : SubMid w0 (w6.setCell ⟨w0.heap.size + 1, 0, none⟩ u') p a cap zs B2 u' (.slice none 0 0) (A ++ [g]) [] k := by
  obtain ⟨q1, q2, q3, q4, q5, q6, q7, q8⟩ := h
  have hs := But.set (w0.heap.size + 1) 0 w6 u'
  have c1 := (row_block h2 hg (Array.getElem?_eq_some_iff.1 q1).1 (by omega)).trans q1
  have c2 := (row_block h2 hg (Array.getElem?_eq_some_iff.1 q2).1 (by omega)).trans q2
  exact ⟨(hs.block _ (Array.getElem?_eq_some_iff.1 c1).1 (by simp)).trans c1, set2_0 c2, (OwnG.snoc h1 h2 h3 hr hg h4).but hs (by omega), OwnG.nil _ _, q5, q6, (q7.grown hg (fun j e => by have := (World.ownsRow.lt h2 j e).1; omega)).grown hs (fun j e => by obtain rfl := Option.some.inj e; omega), (but_grown q8 h2 (by omega) hg).fresh hs (by omega)⟩
theorem bs_snoc {l : List Gn} {g : Gn} (h : ∀ x ∈ l, BsG x) (hg : BsG g) : ∀ x ∈ l ++ [g], BsG x := fun x hx => by
  rcases List.mem_append.1 hx with hx | hx
  · exact h x hx
  · rw [List.mem_singleton.1 hx]; exact hg
theorem OwnG.block {w : World} {B : Nat} {v : Value} {l : List Gn} (h : OwnG w B v l) : ∀ q, v.ownBlock = some q → q < w.heap.size := fun q e => by
  obtain ⟨ss, _, h2, _⟩ := h
  exact (World.ownsRow.lt h2 q e).2
theorem step_append_s {P : Program} {ops : Array Oper} {o : Oper} {a : Act} {w : World} {K : Act → World → Prop} {Q : Exit → Act → World → Prop} {E : Prop} (hgd : o.guard = none) (s x : Operand) (t : TypeId)
    (ho : o.op = .call { callee := .builtin .append, args := #[s, x], argTypes := #[t, t] })
    (base : Nat) (e : TypeId) (i : TypeInfo) (z : Value) (size bytes : Nat) (ht : P.underlying t = some (.slice e)) (hi : P.info? e = some i) (hz : i.zero = some z)
    (hsize : i.size = size) (hby : i.bytes = bytes) (hzs : z.cells.size = size) (hsz : 0 < size)
    (v : Value) (n : Nat) (xs : List Value) (hs : a.eval s = v) (hown : w.ownsRow base e size v n xs)
    (ad : Addr) (m c : Nat) (news : List Value) (hx : a.eval x = .slice (some ad) m c) (hl : news.length = m * size) (hnews : ∀ j u, news[j]? = some u → w.cell? (ad.add j) = some u) (h1 : ∀ u ∈ news, u.oneCell' = true)
    (h63 : n + m ≤ maxLen) (hbytes : (n + m) * bytes ≤ 140737488355328) (hbase : base ≤ w.heap.size)
    (h : ∀ v' w', w'.ownsRow base e size v' (n + m) (xs ++ news) → w.grownBy w' v.ownBlock → K (a.put o.dst v') w') :
    if Region.wanted o (yielded ops a.tmps) = true then Oper.wp P o a w K Q else E := by
  have hw : Region.wanted o (yielded ops a.tmps) = true := by simp [Region.wanted, hgd]
  rw [if_pos hw]
  exact wp_append_own w s x t ho base e i z size bytes ht hi hz hsize hby hzs hsz v n xs hs hown ad m c news hx hl hnews h1 h63 hbytes hbase fun v' w' h2 h3 _ => h v' w' h2 h3

theorem apart_of {w : World} {B2 : Nat} {u v : Value} {B : List Gn} (hu : ∀ q, u.ownBlock = some q → q < B2) (h : OwnG w B2 v B) : u.ownBlock = none ∨ u.ownBlock ≠ v.ownBlock := by
  obtain ⟨ss, _, h2, _⟩ := h
  cases hu0 : u.ownBlock with
  | none => exact .inl rfl
  | some q => exact .inr (fun e => by have := hu q hu0; have := (World.ownsRow.lt h2 q e.symm).1; omega)
set_option maxRecDepth 100000 in
set_option maxHeartbeats 8000000 in
theorem subtrees_two (p : Nat) (a : Option Addr) (cap : Nat) (zs : List Int) (k : Nat) (w : World) (h : DeckAt w p a cap zs k) (hk : k ≤ 700) :
    Calls Tryz.prog 10 #[.pointer (some ⟨p, 0, none⟩)] w fun e w' => ∃ (u v : Value) (A B : List Gn) (k' : Nat), GenB (A, B) ∧ e = .returned (.agg #[u, v]) ∧ OwnG w' w.heap.size u A ∧ OwnG w' w.heap.size v B ∧ DeckAt w' p a cap zs k' ∧ k' ≤ k + 80 ∧ But p w w' ∧ (u.ownBlock = none ∨ u.ownBlock ≠ v.ownBlock) := by
  obtain ⟨i0, hi, hz0, hz1, hz2⟩ := info_parts gInfo
  obtain ⟨W0, hW0⟩ : ∃ W0, W0 = (w.alloc (.cells #[.slice none 0 0, .slice none 0 0] 24)).alloc (.cells #[.slice none 0 0, .slice none 0 0] 24) := ⟨_, rfl⟩
  have hb0 : Below w.heap.size w W0 := by rw [hW0]; exact belowTwo w _ _
  have hq0 : W0.heap[w.heap.size]? = some (.cells #[.slice none 0 0, .slice none 0 0] 24 (0, 0)) := by rw [hW0, heap_first]; exact heap_alloc_new w _
  have hq1 : W0.heap[w.heap.size + 1]? = some (.cells #[.slice none 0 0, .slice none 0 0] 24 (0, 0)) := by rw [hW0]; exact heap_second w _ _ _
  have HM0 := Lib.hid (show SubMid w W0 p a cap zs (w.heap.size + 2) (.slice none 0 0) (.slice none 0 0) [] [] k from ⟨hq0, hq1, OwnG.nil _ _, OwnG.nil _ _, Nat.le_refl _, h.lt, h.below hb0, But.of hb0⟩)
  have HNX := Lib.hid (next4 p a cap zs k W0 (h.below hb0) (by omega))
  have HWE := Lib.hid hW0.symm
  clear h hb0 hq0 hq1 hW0
  go_enter Tryz.func10, Tryz.ntmps10
  go_wp2_with fail
  rw [HWE.out]
  refine HNX.out.mono ?_
  rintro e w1 ⟨r4, k1, hr4, rfl, hd, hk1, hb1⟩
  have HM1 := Lib.hid (HM0.out.call hb1 hd)
  clear hd hb1 HM0 HNX HWE
  go_wp2_with fail
  go_loopw [4] (fun i wr => ∃ (j : Nat) (A : List Gn) (u : Value) (k2 : Nat), A.length + j ≤ 3 ∧ (∀ x ∈ A, BsG x) ∧ i = .int .i64 (j : Int) ∧ SubMid w wr p a cap zs (w.heap.size + 2) u (.slice none 0 0) A [] k2 ∧ k2 + 12 * j ≤ k + 37) (fun i _ => (intOf i).toNat)
  case atStart => exact ⟨r4, [], _, k1, by simp; omega, (fun x hx => by cases hx), rfl, HM1.out, by omega⟩
  case round =>
    obtain ⟨WR, hWR⟩ : ∃ WR, WR = wr := ⟨_, rfl⟩
    subst hWR
    obtain ⟨j, A, u, k2, hjA, hbs, rfl, hm, hkk⟩ := hrel
    obtain ⟨au, cu, rfl, _, _⟩ := hm.2.2.1.lies
    have HBSG := Lib.hid hbs
    have HBS := Lib.hid (show w.heap.size + 2 ≤ WR.heap.size from (Array.getElem?_eq_some_iff.1 hm.2.1).1)
    obtain ⟨NA, hNA⟩ : ∃ NA, NA = A.length := ⟨_, rfl⟩
    rw [← hNA] at hm hjA
    have HLN := Lib.hid (show A.length ≤ 3 by omega)
    have HNA := Lib.hid hNA
    have HM := Lib.hid hm
    clear hbs hm hNA HM1 hr4 hk1
    by_cases hj : 0 < j
    · have hdj : decide ((0 : Int) < (j : Int)) = true := by simp; omega
      go_wp2_with fail
      obtain ⟨m1, m2, m3, m4, m5, m6, m7, m8⟩ := HM.out
      obtain ⟨y0, y1, y2, y3, hl2⟩ := two_at m2
      have HD := Lib.hid m7
      have HPL := Lib.hid m6
      clear m1 m2 m3 m4 m5 m6 m7 m8
      go_region_law (first
          | (go_simp; go_at_call 13; (with_reducible refine (base_any_g p a cap zs k2 _ (by first | exact HD.out | exact deck_up_s HD.out) (by omega)).mono ?_); rintro e w5 ⟨q5, t5, s5, n5, k5, hG, rfl, hso, hd5, hk5, hb5⟩; obtain ⟨a5, c5, rfl, _, _⟩ := hso.lies; have hm5 := HM.out.call (((But.refl p WR).drew).next hb5) hd5; obtain ⟨x0, x1, x2, x3, xl⟩ := two_at hm5.2.1; have hzz : ¬ w.heap.size + 1 = w5.heap.size := (by omega); have hzy : ¬ w5.heap.size = w.heap.size + 1 := (by omega); obtain ⟨ss, hv1, hv2, hv3⟩ := hm5.2.2.1; have HV1 := Lib.hid hv1; have HV2 := Lib.hid hv2; have HV3 := Lib.hid hv3; have HM5 := Lib.hid hm5; have HO5 := Lib.hid (hso.base (show (w.heap.size + 2) ≤ WR.drew.heap.size from HBS.out)); have HG5 := Lib.hid (show BsG (q5, t5, n5) from hG); have HK5 := Lib.hid hk5; have HZ5 := Lib.hid (Nat.le_trans HBS.out hb5.size); clear hm5 hso hG hd5 hk5 hb5 hv1 hv2 hv3)
          | (refine step_append_s rfl (.tmp 14) (.tmp 17) 22 rfl (w.heap.size + 2) 29 i0 (.agg #[.int .i64 0, .string ⟨#[]⟩, .slice none 0 0]) 3 48 Tryz.underlying22 hi hz0 hz1 hz2 rfl (by decide) _ A.length (gsCells A ss) (by simp [Act.eval]) (own_below HV2.out (belowNew w5 _)) ⟨w5.heap.size, 0, none⟩ 1 1 (gCells (q5, t5, n5) (.slice a5 n5.length c5)) (by simp [Act.eval]) rfl (fun j u h => news_row w5 #[.int .i64 q5, .string (strOf t5), .slice a5 n5.length c5] 29 j u (by simpa [gCells] using h)) (gCells_one _ _ _ _) (by have := HLN.out; unfold maxLen; omega) (by have := HLN.out; omega) (by have h9 : (w.heap.size + 2) ≤ w5.heap.size := HZ5.out; simp; omega) ?_; intro v6 w6 hown6 hgr6; obtain ⟨a6, c6, hv6, _, _⟩ := (OwnG.snoc HV1.out (own_below HV2.out (belowNew w5 _)) (fun i hi => (HV3.out i hi).below (belowNew w5 _)) (HO5.out.below (belowNew w5 _)) hgr6 hown6 (g := (q5, t5, n5))).lies; rw [List.length_append, List.length_singleton] at hv6; subst hv6; obtain ⟨z0, z1, z2, z3, zl⟩ := two_at ((row_block (own_below HV2.out (belowNew w5 _)) hgr6 (show w.heap.size + 1 < (w5.alloc _).heap.size by simp; omega) (show w.heap.size + 1 < (w.heap.size + 2) by omega)).trans (((belowNew w5 _).block _ xl).trans HM5.out.2.1)); have HP := Lib.hid hown6; have HGR := Lib.hid hgr6; clear hown6 hgr6))
      all_goals
        go_wp2_with fail
        go_roundw
        case rel => exact ⟨j - 1, A ++ [(q5, t5, n5)], _, k5, by rw [List.length_append, ← HNA.out]; simp; omega, bs_snoc HBSG.out HG5.out, by go_num, (HM5.out.below (belowNew w5 _)).pushU HV1.out (own_below HV2.out (belowNew w5 _)) (fun i hi => (HV3.out i hi).below (belowNew w5 _)) (HO5.out.below (belowNew w5 _)) HGR.out HP.out, by have := HK5.out; omega⟩
        case measure => simp [intOf]; omega
    · have hdj : decide ((0 : Int) < (j : Int)) = false := by simp; omega
      obtain rfl : j = 0 := by omega
      have HNX := Lib.hid (next3 p a cap zs k2 WR HM.out.2.2.2.2.2.2.1 (by omega))
      go_wp2_with fail
      refine HNX.out.mono ?_
      rintro e w5 ⟨r3, k5, hr3, rfl, hd5, hk5, hb5⟩
      have hm5 := HM.out.call hb5 hd5
      have HUB := Lib.hid hm5.2.2.1.block
      obtain ⟨B2, hB2⟩ : ∃ B2, B2 = w5.heap.size := ⟨_, rfl⟩
      rw [← hB2] at HUB
      have HM5 := Lib.hid (show SubMid w w5 p a cap zs B2 (.slice au NA cu) (.slice none 0 0) A [] k5 from ⟨hm5.1, hm5.2.1, hm5.2.2.1, OwnG.nil _ _, by rw [hB2]; exact (Array.getElem?_eq_some_iff.1 hm5.2.1).1, hm5.2.2.2.2.2⟩)
      have HBS5 := Lib.hid (show B2 ≤ w5.heap.size by rw [hB2]; exact Nat.le_refl _)
      clear hm5 hb5 hd5 hB2 HM HBS HNX
      go_wp2_with fail
      go_loopw [5] (fun i wr => ∃ (j : Nat) (B : List Gn) (v : Value) (k2 : Nat), B.length + j ≤ 2 ∧ (∀ x ∈ B, BsG x) ∧ i = .int .i64 (j : Int) ∧ SubMid w wr p a cap zs B2 (.slice au NA cu) v A B k2 ∧ k2 + 12 * j ≤ k + 62 ∧ B2 ≤ wr.heap.size) (fun i _ => (intOf i).toNat)
      case atStart => exact ⟨r3, [], _, k5, by simp; omega, (fun x hx => by cases hx), rfl, HM5.out, by omega, HBS5.out⟩
      case round =>
        obtain ⟨WR, hWR⟩ : ∃ WR, WR = wr := ⟨_, rfl⟩
        subst hWR
        obtain ⟨j, B, v, k2, hjB, hbs, rfl, hm, hkk, hbz⟩ := hrel
        obtain ⟨av, cv, rfl, _, _⟩ := hm.2.2.2.1.lies
        have HBSH := Lib.hid hbs
        have HBS := Lib.hid hbz
        obtain ⟨NB, hNB⟩ : ∃ NB, NB = B.length := ⟨_, rfl⟩
        rw [← hNB] at hm hjB
        have HLN := Lib.hid (show B.length ≤ 3 by omega)
        have HNB := Lib.hid hNB
        have HM := Lib.hid hm
        have h5 := hm.2.2.2.2.1
        clear hbs hm hNB HM5 hr3 hk5 HBS5 hbz
        by_cases hj : 0 < j
        · have hdj : decide ((0 : Int) < (j : Int)) = true := by simp; omega
          go_wp2_with fail
          obtain ⟨m1, m2, m3, m4, m5, m6, m7, m8⟩ := HM.out
          obtain ⟨y0, y1, y2, y3, hl2⟩ := two_at m2
          have HD := Lib.hid m7
          have HPL := Lib.hid m6
          clear m1 m2 m3 m4 m5 m6 m7 m8
          go_region_law (first
              | (go_simp; go_at_call 13; (with_reducible refine (base_any_g p a cap zs k2 _ (by first | exact HD.out | exact deck_up_s HD.out) (by omega)).mono ?_); rintro e w5 ⟨q5, t5, s5, n5, k5, hG, rfl, hso, hd5, hk5, hb5⟩; obtain ⟨a5, c5, rfl, _, _⟩ := hso.lies; have hm5 := HM.out.call (((But.refl p WR).drew).next hb5) hd5; obtain ⟨x0, x1, x2, x3, xl⟩ := two_at hm5.2.1; have hzz : ¬ w.heap.size + 1 = w5.heap.size := (by omega); have hzy : ¬ w5.heap.size = w.heap.size + 1 := (by omega); obtain ⟨ss, hv1, hv2, hv3⟩ := hm5.2.2.2.1; have HV1 := Lib.hid hv1; have HV2 := Lib.hid hv2; have HV3 := Lib.hid hv3; have HM5 := Lib.hid hm5; have HO5 := Lib.hid (hso.base (show B2 ≤ WR.drew.heap.size from HBS.out)); have HG5 := Lib.hid (show BsG (q5, t5, n5) from hG); have HK5 := Lib.hid hk5; have HZ5 := Lib.hid (Nat.le_trans HBS.out hb5.size); clear hm5 hso hG hd5 hk5 hb5 hv1 hv2 hv3)
              | (refine step_append_s rfl (.tmp 27) (.tmp 30) 22 rfl B2 29 i0 (.agg #[.int .i64 0, .string ⟨#[]⟩, .slice none 0 0]) 3 48 Tryz.underlying22 hi hz0 hz1 hz2 rfl (by decide) _ B.length (gsCells B ss) (by simp [Act.eval]) (own_below HV2.out (belowNew w5 _)) ⟨w5.heap.size, 0, none⟩ 1 1 (gCells (q5, t5, n5) (.slice a5 n5.length c5)) (by simp [Act.eval]) rfl (fun j u h => news_row w5 #[.int .i64 q5, .string (strOf t5), .slice a5 n5.length c5] 29 j u (by simpa [gCells] using h)) (gCells_one _ _ _ _) (by have := HLN.out; unfold maxLen; omega) (by have := HLN.out; omega) (by have h9 : B2 ≤ w5.heap.size := HZ5.out; simp; omega) ?_; intro v6 w6 hown6 hgr6; obtain ⟨a6, c6, hv6, _, _⟩ := (OwnG.snoc HV1.out (own_below HV2.out (belowNew w5 _)) (fun i hi => (HV3.out i hi).below (belowNew w5 _)) (HO5.out.below (belowNew w5 _)) hgr6 hown6 (g := (q5, t5, n5))).lies; rw [List.length_append, List.length_singleton] at hv6; subst hv6; obtain ⟨z0, z1, z2, z3, zl⟩ := two_at ((row_block (own_below HV2.out (belowNew w5 _)) hgr6 (show w.heap.size + 1 < (w5.alloc _).heap.size by simp; omega) (show w.heap.size + 1 < B2 by omega)).trans (((belowNew w5 _).block _ xl).trans HM5.out.2.1)); have HP := Lib.hid hown6; have HGR := Lib.hid hgr6; clear hown6 hgr6))
          all_goals
            go_wp2_with fail
            go_roundw
            case rel => exact ⟨j - 1, B ++ [(q5, t5, n5)], _, k5, by rw [List.length_append, ← HNB.out]; simp; omega, bs_snoc HBSH.out HG5.out, by go_num, (HM5.out.below (belowNew w5 _)).pushV HUB.out HV1.out (own_below HV2.out (belowNew w5 _)) (fun i hi => (HV3.out i hi).below (belowNew w5 _)) (HO5.out.below (belowNew w5 _)) HGR.out HP.out, by have := HK5.out; omega, by have h8 := HGR.out.size; have h9 := HZ5.out; simp at h8 ⊢; omega⟩
            case measure => simp [intOf]; omega
        · have hdj : decide ((0 : Int) < (j : Int)) = false := by simp; omega
          obtain rfl : j = 0 := by omega
          obtain ⟨m1, m2, m3, m4, m5, m6, m7, m8⟩ := HM.out
          by_cases h00 : NA = 0 ∧ NB = 0
          · obtain ⟨rfl, rfl⟩ := h00
            obtain ⟨y0, y1, y2, y3, hl2⟩ := two_at m2
            clear m1 m2 m3 m4 m5 m6 m7 m8
            go_wp2_with fail
            obtain ⟨m1, m2, m3, m4, m5, m6, m7, m8⟩ := HM.out
            obtain ⟨y0, y1, y2, y3, hl2⟩ := two_at m2
            have HD := Lib.hid m7
            have HPL := Lib.hid m6
            clear m1 m2 m3 m4 m5 m6 m7 m8
            go_region_law (first
                | (go_simp; go_at_call 13; (with_reducible refine (base_any_g p a cap zs k2 _ (by first | exact HD.out | exact deck_up_s HD.out) (by omega)).mono ?_); rintro e w5 ⟨q5, t5, s5, n5, k5, hG, rfl, hso, hd5, hk5, hb5⟩; obtain ⟨a5, c5, rfl, _, _⟩ := hso.lies; have hm5 := HM.out.call (((But.refl p WR).drew).next hb5) hd5; obtain ⟨x0, x1, x2, x3, xl⟩ := two_at hm5.2.1; have hzz : ¬ w.heap.size + 1 = w5.heap.size := (by omega); have hzy : ¬ w5.heap.size = w.heap.size + 1 := (by omega); obtain ⟨ss, hv1, hv2, hv3⟩ := hm5.2.2.2.1; have HV1 := Lib.hid hv1; have HV2 := Lib.hid hv2; have HV3 := Lib.hid hv3; have HM5 := Lib.hid hm5; have HO5 := Lib.hid (hso.base (show B2 ≤ WR.drew.heap.size from HBS.out)); have HG5 := Lib.hid (show BsG (q5, t5, n5) from hG); have HK5 := Lib.hid hk5; have HZ5 := Lib.hid (Nat.le_trans HBS.out hb5.size); clear hm5 hso hG hd5 hk5 hb5 hv1 hv2 hv3)
                | (refine step_append_s rfl (.tmp 44) (.tmp 47) 22 rfl B2 29 i0 (.agg #[.int .i64 0, .string ⟨#[]⟩, .slice none 0 0]) 3 48 Tryz.underlying22 hi hz0 hz1 hz2 rfl (by decide) _ B.length (gsCells B ss) (by simp [Act.eval]) (own_below HV2.out (belowNew w5 _)) ⟨w5.heap.size, 0, none⟩ 1 1 (gCells (q5, t5, n5) (.slice a5 n5.length c5)) (by simp [Act.eval]) rfl (fun j u h => news_row w5 #[.int .i64 q5, .string (strOf t5), .slice a5 n5.length c5] 29 j u (by simpa [gCells] using h)) (gCells_one _ _ _ _) (by have := HLN.out; unfold maxLen; omega) (by have := HLN.out; omega) (by have h9 : B2 ≤ w5.heap.size := HZ5.out; simp; omega) ?_; intro v6 w6 hown6 hgr6; obtain ⟨a6, c6, hv6, _, _⟩ := (OwnG.snoc HV1.out (own_below HV2.out (belowNew w5 _)) (fun i hi => (HV3.out i hi).below (belowNew w5 _)) (HO5.out.below (belowNew w5 _)) hgr6 hown6 (g := (q5, t5, n5))).lies; rw [List.length_append, List.length_singleton] at hv6; subst hv6; obtain ⟨z0, z1, z2, z3, zl⟩ := two_at ((row_block (own_below HV2.out (belowNew w5 _)) hgr6 (show w.heap.size + 1 < (w5.alloc _).heap.size by simp; omega) (show w.heap.size + 1 < B2 by omega)).trans (((belowNew w5 _).block _ xl).trans HM5.out.2.1)); have HP := Lib.hid hown6; have HGR := Lib.hid hgr6; clear hown6 hgr6))
            all_goals
              have HM7 := Lib.hid ((HM5.out.below (belowNew w5 _)).pushV HUB.out HV1.out (own_below HV2.out (belowNew w5 _)) (fun i hi => (HV3.out i hi).below (belowNew w5 _)) (HO5.out.below (belowNew w5 _)) HGR.out HP.out)
              obtain ⟨W7, hW7⟩ : ∃ W7, W7 = w6.setCell ⟨w.heap.size + 1, 1, none⟩ (.slice a6 (B.length + 1) c6) := ⟨_, rfl⟩
              rw [← hW7] at HM7 ⊢
              obtain ⟨m1, m2, m3, m4, m5, m6, m7, m8⟩ := HM7.out
              obtain ⟨y0, y1, y2, y3, hl2⟩ := two_at m2
              obtain ⟨g0, g1, g2, g3, gl⟩ := two_at m1
              have M1 := Lib.hid m1
              have M3 := Lib.hid m3
              have M4 := Lib.hid m4
              have M7 := Lib.hid m7
              have M8 := Lib.hid m8
              clear m1 m2 m3 m4 m7 m8 hW7 x0 x1 x2 x3 xl z0 z1 z2 z3 zl
              go_wp2_with fail
              have hs := (But.set w.heap.size 0 W7 (.slice au 0 cu)).next (But.set w.heap.size 1 _ (.slice a6 (B.length + 1) c6))
              exact bodyPost_ret (sbRes rfl _ _ _ _ _ rfl (set2_1 (set2_0 M1.out))) rfl ⟨_, _, A, B ++ [(q5, t5, n5)], k5, ⟨by rw [← HNA.out]; omega, by rw [List.length_append, ← HNB.out]; simp, by simp, HBSG.out, bs_snoc HBSH.out HG5.out⟩, rfl, (M3.out.but hs (by omega)).base (by omega), (M4.out.but hs (by omega)).base (by omega), M7.out.grown hs (fun j e => by obtain rfl := Option.some.inj e; omega), by have := HK5.out; omega, M8.out.fresh hs (Nat.le_refl _), apart_of HUB.out M4.out⟩
          · obtain ⟨y0, y1, y2, y3, hl2⟩ := two_at m2
            obtain ⟨g0, g1, g2, g3, gl⟩ := two_at m1
            have M1 := Lib.hid m1
            have M3 := Lib.hid m3
            have M4 := Lib.hid m4
            have M7 := Lib.hid m7
            have M8 := Lib.hid m8
            have H00 := Lib.hid h00
            clear m1 m2 m3 m4 m7 m8
            have hs := (But.set w.heap.size 0 WR (.slice au NA cu)).next (But.set w.heap.size 1 _ (.slice av NB cv))
            by_cases hA0 : NA = 0
            · have d1 : ((NA : Int) == 0) = true := beq_iff_eq.2 (by omega)
              have d2 : ((NB : Int) == 0) = false := beq_eq_false_iff_ne.2 (by omega)
              have d3 : (NA == 0) = true := beq_iff_eq.2 hA0
              have d4 : (NB == 0) = false := beq_eq_false_iff_ne.2 (by omega)
              clear hA0 h00
              go_wp2_with fail
              exact bodyPost_ret (sbRes rfl _ _ _ _ _ rfl (set2_1 (set2_0 M1.out))) rfl ⟨_, _, A, B, k2, ⟨by rw [← HNA.out]; omega, by rw [← HNB.out]; omega, by rw [← HNA.out, ← HNB.out]; exact H00.out, HBSG.out, HBSH.out⟩, rfl, (M3.out.but hs (by omega)).base (by omega), (M4.out.but hs (by omega)).base (by omega), M7.out.grown hs (fun j e => by obtain rfl := Option.some.inj e; omega), by omega, M8.out.fresh hs (Nat.le_refl _), apart_of HUB.out M4.out⟩
            · have d1 : ((NA : Int) == 0) = false := beq_eq_false_iff_ne.2 (by omega)
              have d3 : (NA == 0) = false := beq_eq_false_iff_ne.2 hA0
              clear hA0 h00
              go_wp2_with fail
              exact bodyPost_ret (sbRes rfl _ _ _ _ _ rfl (set2_1 (set2_0 M1.out))) rfl ⟨_, _, A, B, k2, ⟨by rw [← HNA.out]; omega, by rw [← HNB.out]; omega, by rw [← HNA.out, ← HNB.out]; exact H00.out, HBSG.out, HBSH.out⟩, rfl, (M3.out.but hs (by omega)).base (by omega), (M4.out.but hs (by omega)).base (by omega), M7.out.grown hs (fun j e => by obtain rfl := Option.some.inj e; omega), by omega, M8.out.fresh hs (Nat.le_refl _), apart_of HUB.out M4.out⟩
end Go.Proofs.YtbpdenfiifcfcaaGreatDoor
