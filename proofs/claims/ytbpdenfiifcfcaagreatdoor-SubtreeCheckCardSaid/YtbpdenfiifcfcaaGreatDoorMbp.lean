/-
  The walk of the law SubtreeCheck: for all constraints, every general name, every slice of ints and every number it returns true, and leaves all that was there as it was.
-/
import Derived.Test.YtbpdenfiifcfcaaGreatDoorMbn
import Derived.Test.YtbpdenfiifcfcaaGreatDoorMbl
import Derived.Test.YtbpdenfiifcfcaaGreatDoorMbo
import Derived.Deep.CutRange
import Derived.Deep.CutBlock
import Derived.Deep.DeepCutAuto
import Derived.Deep.RegionWith
import Derived.Deep.RegionHeld3
import Derived.Lib.QuietBelow
import Derived.BigQuiet
namespace Go.Proofs.YtbpdenfiifcfcaaGreatDoor
open Go.RowKit

theorem glies_one_c {w : World} {g : Nat} {k : Int} {t : List UInt8} {n : Nm} {a : Option Addr} {c : Nat} {T : TypeId} (h : w.heap[g]? = some (.cells #[.int .i64 k, .string (strOf t), .slice a n.length c] T (0, 0))) (hc : n.length ≤ c) (hr : RLies w a n) : GLies w (some ⟨g, 0, none⟩) [(k, t, n)] := by
  refine .inr ⟨g, 0, rfl, fun i hi => ?_⟩
  have e : ∀ j, w.cell? ⟨g, j, none⟩ = #[Value.int .i64 k, .string (strOf t), .slice a n.length c][j]? := fun j => Lib.cell_of_heap h j
  obtain rfl : i = 0 := by simp at hi; omega
  exact ⟨e 0, e 1, a, c, e 2, hc, hr⟩
theorem shortsone_c (ag : Option Addr) (cg NG : Nat) (q : Int) (t : List UInt8) (n : Nm) (V : World) (hg : RLies V ag n) (hNG : NG = n.length) (hcg : NG ≤ cg) (hbg : BigG (q, t, n)) :
    Calls Tryz.prog 7 #[.slice (some ⟨V.heap.size, 0, none⟩) 1 1] (V.alloc (.cells #[.int .i64 q, .string (strOf t), .slice ag NG cg] 29)) fun e w' => ShortedL [(q, t, n)] e ∧ Below V.heap.size V w' := by
  subst hNG
  refine (shorts_any (some ⟨V.heap.size, 0, none⟩) 1 1 [(q, t, n)] _ (glies_one_c (heap_alloc_new V _) hcg (hg.below (belowNew V _))) rfl (by decide) (fun i hi => ?_)).mono (fun e w' h => ⟨h.1, below_next (belowNew V _) h.2⟩)
  rw [List.length_singleton] at hi
  obtain rfl : i = 0 := by omega
  rw [List.getD_cons_zero]
  exact hbg
theorem genOk_sm {k : Int} {t : List UInt8} {n : Nm} (h : GenOk k t n) : SmG (k, t, n) := by
  have h2 : OkC false k t n := by
    unfold OkC
    rw [if_neg (by decide)]
    exact h
  have := okC_len h2
  exact ⟨Nat.le_trans this.1 (by omega), madeN_small this.2⟩
theorem bsG_sm {g : Gn} (h : BsG g) : SmG g := okG_sm (by
    show OkC true _ _ _
    unfold OkC
    rw [if_pos rfl]
    exact h)
theorem smL_snoc {l : List Gn} {g : Gn} (h : SmL l) (hg : SmG g) : SmL (l ++ [g]) := fun x hx => by
  rcases List.mem_append.1 hx with hx | hx
  · exact h x hx
  · rw [List.mem_singleton.1 hx]; exact hg
theorem next4_c (p : Nat) (a : Option Addr) (cap : Nat) (zs : List Int) (k : Nat) (w : World) (h : DeckAt w p a cap zs k) (hk2 : k < 30000) :
    Calls Tryz.prog 11 #[.pointer (some ⟨p, 0, none⟩), .int .i64 4] w fun e w' => ∃ r k' : Nat, r < 4 ∧ e = .returned (.int .i64 (r : Int)) ∧ DeckAt w' p a cap zs k' ∧ k' ≤ k + 1 ∧ But p w w' :=
  next_any p a cap zs k 4 w h hk2 (by decide) (by decide)
theorem dj_symm {u v : Value} (h : u.ownBlock = none ∨ u.ownBlock ≠ v.ownBlock) : v.ownBlock = none ∨ v.ownBlock ≠ u.ownBlock := by
  rcases h with h | h
  · cases hv : v.ownBlock with
    | none => exact .inl rfl
    | some x => exact .inr (by rw [h]; simp)
  · exact .inr (fun e => h e.symm)
theorem set_first {w : World} {g : Nat} {x y a : Value} {t : TypeId} (h : w.heap[g]? = some (.cells #[x, y] t (0, 0))) : (w.setCell ⟨g, 0, none⟩ a).heap[g]? = some (.cells #[a, y] t (0, 0)) := by
  simp [World.setCell, Array.getElem?_modify, h]
theorem set_second {w : World} {g : Nat} {x y b : Value} {t : TypeId} (h : w.heap[g]? = some (.cells #[x, y] t (0, 0))) : (w.setCell ⟨g, 1, none⟩ b).heap[g]? = some (.cells #[x, b] t (0, 0)) := by
  simp [World.setCell, Array.getElem?_modify, h]
/-- The constraints behind the switch. -/
def SwR (w3 wx : World) (p g : Nat) (al : Option Addr) (cl : Nat) (zs : List Int) : Prop :=
  ∃ (a5 b5 : Option Addr) (n5 c5 m5 d5 kx : Nat) (A5 B5 : List Gn), wx.heap[g]? = some (.cells #[.slice a5 n5 c5, .slice b5 m5 d5] 24 (0, 0)) ∧ KeepS p wx a5 n5 c5 A5 ∧ KeepS p wx b5 m5 d5 B5 ∧ (SmL A5 ∧ SmL B5) ∧ (n5 ≤ 100 ∧ m5 ≤ 100) ∧ DeckAt wx p al cl zs kx ∧ kx ≤ 120 ∧ But p w3 wx
/-- A name that lies elsewhere is appended to the permitted ones. -/
theorem sw_first {w3 w6 w7 : World} {p g BB kx : Nat} {al ag v1 : Option Addr} {cl cg e1 : Nat} {zs : List Int} {u v7 : Value} {A1 B1 : List Gn} {q : Int} {t : List UInt8} {n : Nm} {ss : List Value}
    (hq : w6.heap[g]? = some (.cells #[u, .slice v1 B1.length e1] 24 (0, 0))) (h1 : ss.length = A1.length) (h2 : w6.ownsRow BB 29 3 u A1.length (gsCells A1 ss)) (h3 : ∀ i, i < A1.length → OwnN w6 BB (ss.getD i noS) (A1.getD i noG).2.2)
    (hv : OwnG w6 BB (.slice v1 B1.length e1) B1) (hdj : u.ownBlock = none ∨ u.ownBlock ≠ (Value.slice v1 B1.length e1).ownBlock) (hd : DeckAt w6 p al cl zs kx) (hb : But p w3 w6) (hp : p < BB) (hBB : BB = w3.heap.size) (hg : w3.heap.size ≤ g)
    (hgr : w6.grownBy w7 u.ownBlock) (hown : w7.ownsRow BB 29 3 v7 (A1.length + 1) (gsCells A1 ss ++ gCells (q, t, n) (.slice ag n.length cg))) (hr : ∀ W, But p w3 W → RLies W ag n) (hcg : n.length ≤ cg) (hs : SmL A1 ∧ SmL B1) (hsg : SmG (q, t, n)) (hl : A1.length ≤ 3 ∧ B1.length ≤ 2) (hkx : kx ≤ 120) :
    SwR w3 (w7.setCell ⟨g, 0, none⟩ v7) p g al cl zs := by
  have hz := grown_other h2 hgr hq (by decide)
  have hset := But.set g 0 w7 v7
  have hb7 : But p w3 w7 := but_grown hb h2 (by omega) hgr
  have hb8 : But p w3 (w7.setCell ⟨g, 0, none⟩ v7) := hb7.fresh hset hg
  obtain ⟨a7, c7, rfl, hk⟩ := KeepS.snoc (w := w7.setCell ⟨g, 0, none⟩ v7) (g := (q, t, n)) (p := p) (B := BB) hp h1 (own_apart hown hz (by decide) hset) (fun i hi => ((h3 i hi).keptG h2 hgr).apart hz (by decide) (by decide) hset) (fun W hW => hr W (hb8.next hW)) hcg
  exact ⟨a7, v1, A1.length + 1, c7, B1.length, e1, kx, A1 ++ [(q, t, n)], B1, set_first hz, hk, KeepS.own ((hv.keptD h2 (dj_symm hdj) hgr).apart hz (by decide) (by decide) (by decide) hset) hp, ⟨smL_snoc hs.1 hsg, hs.2⟩, ⟨by omega, by omega⟩, (hd.grown hgr (fun j e => by have := (World.ownsRow.lt h2 j e).1; omega)).grown hset (fun j e => by obtain rfl := Option.some.inj e; omega), hkx, hb8⟩
/-- A name of one's own is appended to the excluded ones. -/
theorem sw_second {w3 w6 w7 : World} {p g BB kx : Nat} {al u1 : Option Addr} {cl d1 : Nat} {zs : List Int} {v v7 s : Value} {A1 B1 : List Gn} {x : Gn} {ss : List Value}
    (hq : w6.heap[g]? = some (.cells #[.slice u1 A1.length d1, v] 24 (0, 0))) (h1 : ss.length = B1.length) (h2 : w6.ownsRow BB 29 3 v B1.length (gsCells B1 ss)) (h3 : ∀ i, i < B1.length → OwnN w6 BB (ss.getD i noS) (B1.getD i noG).2.2)
    (hu : OwnG w6 BB (.slice u1 A1.length d1) A1) (hdj : (Value.slice u1 A1.length d1).ownBlock = none ∨ (Value.slice u1 A1.length d1).ownBlock ≠ v.ownBlock) (hd : DeckAt w6 p al cl zs kx) (hb : But p w3 w6) (hp : p < BB) (hBB : BB = w3.heap.size) (hg : w3.heap.size ≤ g)
    (hgr : w6.grownBy w7 v.ownBlock) (hown : w7.ownsRow BB 29 3 v7 (B1.length + 1) (gsCells B1 ss ++ gCells x s)) (hr : OwnN w6 BB s x.2.2) (hs : SmL A1 ∧ SmL B1) (hsg : SmG x) (hl : A1.length ≤ 3 ∧ B1.length ≤ 2) (hkx : kx ≤ 120) :
    SwR w3 (w7.setCell ⟨g, 1, none⟩ v7) p g al cl zs := by
  have hz := grown_other h2 hgr hq (by decide)
  have hset := But.set g 1 w7 v7
  have hb7 : But p w3 w7 := but_grown hb h2 (by omega) hgr
  have hb8 : But p w3 (w7.setCell ⟨g, 1, none⟩ v7) := hb7.fresh hset hg
  have ho := (OwnG.snoc h1 h2 h3 hr hgr hown).apart hz (by decide) (by decide) (by decide) hset
  obtain ⟨a7, c7, e7, _, _⟩ := ho.lies
  rw [List.length_append, List.length_singleton] at e7
  subst e7
  exact ⟨u1, a7, A1.length, d1, B1.length + 1, c7, kx, A1, B1 ++ [x], set_second hz, KeepS.own ((hu.keptD h2 hdj hgr).apart hz (by decide) (by decide) (by decide) hset) hp, KeepS.own ho hp, ⟨hs.1, smL_snoc hs.2 hsg⟩, ⟨by omega, by omega⟩, (hd.grown hgr (fun j e => by have := (World.ownsRow.lt h2 j e).1; omega)).grown hset (fun j e => by obtain rfl := Option.some.inj e; omega), hkx, hb8⟩
/-- The row of many bases that grows. -/
def Mny (w0 wr : World) (p q : Nat) (al : Option Addr) (cl : Nat) (zs : List Int) (v : Value) (A : List Gn) (k : Nat) : Prop :=
  wr.heap[q]? = some (.cells #[v, .slice none 0 0] 24 (0, 0)) ∧ OwnG wr (q + 1) v A ∧ p < q ∧ DeckAt wr p al cl zs k ∧ But p w0 wr ∧ w0.heap.size ≤ q
theorem Mny.call {w0 wr w5 : World} {p q : Nat} {al : Option Addr} {cl : Nat} {zs : List Int} {v : Value} {A : List Gn} {k k5 : Nat} (h : Mny w0 wr p q al cl zs v A k) (hb : But p wr w5) (hd : DeckAt w5 p al cl zs k5) : Mny w0 w5 p q al cl zs v A k5 := by
  obtain ⟨h1, h2, h3, h4, h5, h6⟩ := h
  exact ⟨(hb.block q (Array.getElem?_eq_some_iff.1 h1).1 (by simp; omega)).trans h1, h2.but hb (by omega), h3, hd, h5.next hb, h6⟩
theorem Mny.below {w0 wr w5 : World} {p q : Nat} {al : Option Addr} {cl : Nat} {zs : List Int} {v : Value} {A : List Gn} {k : Nat} (h : Mny w0 wr p q al cl zs v A k) (hb : Below wr.heap.size wr w5) : Mny w0 w5 p q al cl zs v A k := by
  obtain ⟨h1, h2, h3, h4, h5, h6⟩ := h
  exact ⟨(hb.block q (Array.getElem?_eq_some_iff.1 h1).1).trans h1, h2.below hb, h3, h4.below hb, h5.next (But.of hb), h6⟩
theorem Mny.push {w0 w w6 : World} {p q : Nat} {al : Option Addr} {cl : Nat} {zs : List Int} {v v' s : Value} {A : List Gn} {k : Nat} {g : Gn} {ss : List Value} (h : Mny w0 w p q al cl zs v A k)
    (h1 : ss.length = A.length) (h2 : w.ownsRow (q + 1) 29 3 v A.length (gsCells A ss)) (h3 : ∀ i, i < A.length → OwnN w (q + 1) (ss.getD i noS) (A.getD i noG).2.2) (hr : OwnN w (q + 1) s g.2.2)
    (hg : w.grownBy w6 v.ownBlock) (h4 : w6.ownsRow (q + 1) 29 3 v' (A.length + 1) (gsCells A ss ++ gCells g s)) : Mny w0 (w6.setCell ⟨q, 0, none⟩ v') p q al cl zs v' (A ++ [g]) k := by
  obtain ⟨q1, q2, q3, q4, q5, q6⟩ := h
  have hs := But.set q 0 w6 v'
  have c1 := (row_block h2 hg (Array.getElem?_eq_some_iff.1 q1).1 (by omega)).trans q1
  refine ⟨by simp [World.setCell, Array.getElem?_modify, c1], (OwnG.snoc h1 h2 h3 hr hg h4).but hs (by omega), q3, ?_, ?_, q6⟩
  · exact (q4.grown hg (fun j e => by have := (World.ownsRow.lt h2 j e).1; omega)).grown hs (fun j e => by obtain rfl := Option.some.inj e; omega)
  · exact (but_grown q5 h2 (by omega) hg).fresh hs (by omega)

set_option maxRecDepth 100000 in
set_option maxHeartbeats 16000000 in
theorem schklaw (a1 a2 ag al : Option Addr) (c1 c2 NA NB cg NG cl : Nat) (A B : List Gn) (q : Int) (t : List UInt8) (n : Nm) (zs : List Int) (nn : Nat) (w : World)
    (h1 : GLies w a1 A) (h2 : GLies w a2 B) (hNA : NA = A.length) (hNB : NB = B.length) (hbA : BigL A) (hbB : BigL B) (hcA : NA ≤ c1) (hcB : NB ≤ c2) (hzA : a1 = none → c1 = 0) (hzB : a2 = none → c2 = 0)
    (hg : RLies w ag n) (hNG : NG = n.length) (hcg : NG ≤ cg) (hbg : BigG (q, t, n)) (hl : ILies w al zs) (hz : zs.length ≤ 9223372036854775807) (hT : Tab w) (hmk : Mk w) :
    Calls Tryz.prog 3 #[.agg #[.slice a1 NA c1, .slice a2 NB c2], .agg #[.int .i64 q, .string (strOf t), .slice ag NG cg], .slice al zs.length cl, .int .u8 (nn : Int)] w fun e w' => e = .returned (.bool true) ∧ Below w.heap.size w w' := by
  subst hNG
  obtain ⟨W0, hW0⟩ : ∃ W0, W0 = (w.alloc (.cells #[.slice a1 NA c1, .slice a2 NB c2] 24)).alloc (.cells #[.int .i64 q, .string (strOf t), .slice ag n.length cg] 29) := ⟨_, rfl⟩
  have hwr := hW0.symm
  have hb0 : Below w.heap.size w W0 := by rw [hW0]; exact belowTwo w _ _
  have HR0 := Lib.hid (show W0.heap[w.heap.size]? = some (.cells #[.slice a1 NA c1, .slice a2 NB c2] 24 (0, 0)) by rw [hW0, heap_first]; exact heap_alloc_new w _)
  have HG0 := Lib.hid (show W0.heap[w.heap.size + 1]? = some (.cells #[.int .i64 q, .string (strOf t), .slice ag n.length cg] 29 (0, 0)) by rw [hW0]; exact heap_second w _ _ _)
  obtain ⟨s0, s1, ls⟩ := two_facts HR0.out
  have hlg := (Array.getElem?_eq_some_iff.1 HG0.out).1
  have HB0 := Lib.hid hb0
  have HAW := Lib.hid (fun V (hb : Below W0.heap.size W0 V) => awake_core V ((hmk.below hb0).below hb))
  have HTM := Lib.hid (fun V (hb : Below W0.heap.size W0 V) => And.intro ((hT.below hb0).below hb) ((hmk.below hb0).below hb))
  have HSC := Lib.hid (shorts_core a1 a2 c1 c2 NA NB A B W0 (h1.below hb0) (h2.below hb0) hNA hNB hbA hbB)
  have HSN := Lib.hid (fun V (hb : Below W0.heap.size W0 V) => shortsone_c ag cg n.length q t n V ((hg.below hb0).below hb) rfl hcg hbg)
  have HNW := Lib.hid (fun V (hb : Below W0.heap.size W0 V) => new_any al cl zs V (ints_below (ints_below hl hb0) hb) hz)
  have HA := Lib.hid (h1.below hb0)
  have HB := Lib.hid (h2.below hb0)
  have HG := Lib.hid (hg.below hb0)
  have HNA := Lib.hid hNA
  have HNB := Lib.hid hNB
  have HZA := Lib.hid (show (a1 = none → NA = 0 ∧ c1 = 0) ∧ (a2 = none → NB = 0 ∧ c2 = 0) from ⟨fun e => ⟨by have := hzA e; omega, hzA e⟩, fun e => ⟨by have := hzB e; omega, hzB e⟩⟩)
  have HCG := Lib.hid hcg
  clear h1 h2 hNA hNB hbA hbB hcA hcB hzA hzB hg hcg hbg hl hz hT hmk hb0 hW0
  go_enter Tryz.func3, Tryz.ntmps3
  go_wp2_with fail
  refine HSC.out.mono ?_
  rintro e w1 ⟨hS, hb1⟩
  have HB1 := Lib.hid hb1
  have hq1 := (hb1.block (w.heap.size + 1) hlg).trans HG0.out
  obtain ⟨y0, y1, y2, _⟩ := three_facts hq1
  clear hb1 HSC s0 s1 ls hwr hq1
  rcases hS with ⟨rfl, hSA, hSB⟩ | rfl
  case inr =>
    go_wp2_with (go_at_call 8; (with_reducible refine (HAW.out _ HB1.out).mono ?_); rintro e w2 ⟨rfl, hb2⟩; have HB2 := Lib.hid (below_next HB1.out hb2); clear hb2)
    go_ret
    exact ⟨rfl, below_next HB0.out HB2.out⟩
  have HSH := Lib.hid (And.intro hSA hSB)
  clear hSA hSB
  go_wp2_with fail
  refine (HSN.out w1 HB1.out).mono ?_
  rintro e w2 ⟨hS, hb2⟩
  have HB2 := Lib.hid (below_next HB1.out hb2)
  clear y0 y1 y2 hb2 HSN
  rcases hS with ⟨rfl, hSh⟩ | rfl
  case inr =>
    go_wp2_with (go_at_call 8; (with_reducible refine (HAW.out _ HB2.out).mono ?_); rintro e w3 ⟨rfl, hb3⟩; have HB3 := Lib.hid (below_next HB2.out hb3); clear hb3)
    go_ret
    exact ⟨rfl, below_next HB0.out HB3.out⟩
  have HSG := Lib.hid (show SmG (q, t, n) from by
    have := hSh.2 0 (by simp)
    exact ⟨Nat.le_trans this.1 (by omega), ShN.small this.2⟩)
  clear hSh HB1
  have HSA := Lib.hid (And.intro HSH.out.1.sm HSH.out.2.sm)
  have HLA := Lib.hid (show NA ≤ 100 ∧ NB ≤ 100 by rw [HNA.out, HNB.out]; have h5 := HSH.out.1.1; have h6 := HSH.out.2.1; omega)
  go_upto_region 5 with (first
    | (go_at_call 9; (with_reducible refine (HNW.out _ HB2.out).mono ?_); rintro e w3 ⟨rfl, hd3, hb3⟩; have HD3 := Lib.hid hd3; have HB3 := Lib.hid (below_next HB2.out hb3); clear hd3 hb3)
    | (go_at_call 10; (with_reducible refine (subtrees_two _ al cl zs 0 _ HD3.out (by omega)).mono ?_); rintro e w4 ⟨u, v, A1, B1, k4, hG, rfl, hu, hv, hd4, hk4, hb4, hdj⟩; obtain ⟨u1, d1, rfl, _, _⟩ := hu.lies; obtain ⟨v1, e1, rfl, _, _⟩ := hv.lies; have HGB := Lib.hid hG; have HU4 := Lib.hid hu; have HV4 := Lib.hid hv; have HD4 := Lib.hid hd4; have HK4 := Lib.hid hk4; have HB4 := Lib.hid hb4; have HDJ := Lib.hid hdj; clear hu hv hd4 hk4 hb4 hG hdj))
  obtain ⟨p, hp⟩ : ∃ p, p = w2.heap.size := ⟨_, rfl⟩
  rw [← hp] at HD3 HD4 HB4 ⊢
  have HPW := Lib.hid (show W0.heap.size ≤ p by rw [hp]; exact HB2.out.size)
  have HP3 := Lib.hid (show p < w3.heap.size from HD3.out.lt)
  obtain ⟨W5, hW5⟩ : ∃ W5, W5 = w4.alloc (.cells #[.slice u1 A1.length d1, .slice v1 B1.length e1] 24) := ⟨_, rfl⟩
  obtain ⟨g, hg⟩ : ∃ g, g = w4.heap.size := ⟨_, rfl⟩
  have hb5 : Below w4.heap.size w4 W5 := by rw [hW5]; exact belowNew w4 _
  have HQ5 := Lib.hid (show W5.heap[g]? = some (.cells #[.slice u1 A1.length d1, .slice v1 B1.length e1] 24 (0, 0)) by rw [hW5, hg]; exact heap_alloc_new w4 _)
  have HU5 := Lib.hid (HU4.out.below hb5)
  have HV5 := Lib.hid (HV4.out.below hb5)
  have HD5 := Lib.hid (HD4.out.below hb5)
  have HB5 := Lib.hid (HB4.out.next (But.of hb5))
  have HGW := Lib.hid (show w3.heap.size ≤ g by rw [hg]; exact HB4.out.size)
  rw [← hW5, ← hg]
  clear hW5 hg hb5 hp HU4 HV4 HD4 HB4 HB2 HD3 HNW
  have HBX := Lib.hid (fun V (h : But p w3 V) => show Below W0.heap.size W0 V from HB3.out.trans ((h.below (Nat.le_of_lt HP3.out)).mono HPW.out))
  have HGR := Lib.hid (fun V (h : But p w3 V) => show RLies V ag n from HG.out.below (HBX.out V h))
  have HNX := Lib.hid (next4_c p al cl zs k4 W5 HD5.out (by have := HK4.out; omega))
  go_upto_block 0 with (go_at_call 11; (with_reducible refine HNX.out.mono ?_); rintro e w6 ⟨r4, k6, hr4, rfl, hd6, hk6, hb6⟩; have HD6 := Lib.hid hd6; have HK6 := Lib.hid (show k6 ≤ 90 by have := HK4.out; omega); have HB6 := Lib.hid (HB5.out.next hb6); have HU6 := Lib.hid (HU5.out.but hb6 HP3.out); have HV6 := Lib.hid (HV5.out.but hb6 HP3.out); have HQ6 := Lib.hid ((hb6.block g (Array.getElem?_eq_some_iff.1 HQ5.out).1 (by have := HP3.out; have := HGW.out; simp; omega)).trans HQ5.out); clear hd6 hk6 hb6)
  clear HQ5 HU5 HV5 HD5 HB5 HNX HK4
  have HHG := Lib.hid ((HBX.out w6 HB6.out).block (w.heap.size + 1) hlg |>.trans HG0.out)
  obtain ⟨i0, hi, hz0, hz1, hz2⟩ := info_parts gInfo
  obtain ⟨b0, hb0⟩ : ∃ b0, b0 = decide (r4 = 0) := ⟨_, rfl⟩
  have E0 : ((r4 : Int) == 0) = b0 := by rw [hb0]; by_cases h : r4 = 0 <;> simp [h]
  have E1 : (r4 == 0) = b0 := by rw [hb0]; by_cases h : r4 = 0 <;> simp [h]
  have E2 : decide ((r4 : Int) = 0) = b0 := by rw [hb0]; by_cases h : r4 = 0 <;> simp [h]
  have E3 : decide (r4 = 0) = b0 := hb0.symm
  have HL1 := Lib.hid (show A1.length ≤ 3 ∧ B1.length ≤ 2 from ⟨HGB.out.1, HGB.out.2.1⟩)
  have HSS := Lib.hid (show SmL A1 ∧ SmL B1 from ⟨fun x hx => bsG_sm (HGB.out.2.2.2.1 x hx), fun x hx => bsG_sm (HGB.out.2.2.2.2 x hx)⟩)
  have HBO := Lib.hid hb0
  clear hb0
  go_cut [35] (fun _ wx => SwR w3 wx p g al cl zs)
  case first =>
    go_upto_if 35 with fail
    cases b0 with
    | true =>
      obtain ⟨y0, y1, y2, y3, yl⟩ := two_at HQ6.out
      obtain ⟨x0, x1, x2, xl⟩ := three_facts HHG.out
      obtain ⟨ss, hv1, hv2, hv3⟩ := HU6.out
      have HV1 := Lib.hid hv1
      have HV2 := Lib.hid hv2
      have HV3 := Lib.hid hv3
      have hs6 := HB6.out.size
      clear hv1 hv2 hv3
      go_wp2_with (at_builtin; (refine wpList_append_own _ rfl (.tmp 38) (.tmp 40) 22 rfl w3.heap.size 29 i0 (.agg #[.int .i64 0, .string ⟨#[]⟩, .slice none 0 0]) 3 48 Tryz.underlying22 hi hz0 hz1 hz2 rfl (by decide) _ A1.length (gsCells A1 ss) rfl (own_below HV2.out (belowNew w6 _)) ⟨w6.heap.size, 0, none⟩ 1 1 (gCells (q, t, n) (.slice ag n.length cg)) rfl rfl (fun j u h => news_row w6 #[.int .i64 q, .string (strOf t), .slice ag n.length cg] 29 j u (by simpa [gCells] using h)) (gCells_one _ _ _ _) (by have := HL1.out.1; unfold maxLen; omega) (by have := HL1.out.1; omega) (by simp; omega) ?_); intro v7 w7 hown7 hgr7 _; obtain ⟨a7, c7, hv7, _⟩ := own_formz hown7; subst hv7; have HW7 := Lib.hid hown7; have HR7 := Lib.hid hgr7; obtain ⟨z0, z1, z2, z3, zl⟩ := two_at (grown_other (own_below HV2.out (belowNew w6 _)) hgr7 (((belowNew w6 _).block g yl).trans HQ6.out) (by decide)); clear hown7 hgr7)
      go_meet
      exact sw_first (((belowNew w6 _).block g yl).trans HQ6.out) HV1.out (own_below HV2.out (belowNew w6 _)) (fun i hi => (HV3.out i hi).below (belowNew w6 _)) (HV6.out.below (belowNew w6 _)) HDJ.out (HD6.out.below (belowNew w6 _)) (HB6.out.next (But.of (belowNew w6 _))) HP3.out rfl HGW.out HR7.out HW7.out HGR.out HCG.out HSS.out HSG.out HL1.out (by have := HK6.out; omega)
    | false =>
      obtain ⟨b1, hb1⟩ : ∃ b1, b1 = decide (r4 = 1) := ⟨_, rfl⟩
      have F0 : ((r4 : Int) == 1) = b1 := by rw [hb1]; by_cases h : r4 = 1 <;> simp [h] <;> omega
      have F1 : (r4 == 1) = b1 := by rw [hb1]; by_cases h : r4 = 1 <;> simp [h]
      have F2 : decide ((r4 : Int) = 1) = b1 := by rw [hb1]; by_cases h : r4 = 1 <;> simp [h] <;> omega
      have F3 : decide (r4 = 1) = b1 := hb1.symm
      clear hb1
      go_upto_if 43 with fail
      clear E0 E1 E2 E3 F0 F1 F2 F3 hr4
      cases b1 with
      | true =>
        obtain ⟨y0, y1, y2, y3, yl⟩ := two_at HQ6.out
        have hs6 := HB6.out.size
        go_wp2_with fail
        go_region_law (first
          | (go_simp; go_at_call 12; (with_reducible refine (general_any p al cl zs k6 _ (by first | exact HD6.out | exact deck_up_s HD6.out) (by have := HK6.out; omega)).mono ?_); rintro e w8 ⟨q5, t5, s5, n5, k5, hG5, rfl, hso, hd5, hk5, hb5⟩; obtain ⟨a5, c5, rfl, _, _⟩ := hso.lies; have hbx : But p w6 w8 := ((But.refl p w6).drew).next hb5; have hq8 := (hbx.block g yl (by have := HP3.out; have := HGW.out; simp; omega)).trans HQ6.out; obtain ⟨x0, x1, x2, x3, xl⟩ := two_at hq8; have hzz : ¬ g = w8.heap.size := (by omega); have hzy : ¬ w8.heap.size = g := (by omega); obtain ⟨ss, hv1, hv2, hv3⟩ := HV6.out.but hbx HP3.out; have HV1 := Lib.hid hv1; have HV2 := Lib.hid hv2; have HV3 := Lib.hid hv3; have HQ8 := Lib.hid hq8; have HU8 := Lib.hid (HU6.out.but hbx HP3.out); have HO8 := Lib.hid (hso.base (show w3.heap.size ≤ w6.drew.heap.size from hs6)); have HG8 := Lib.hid (genOk_sm hG5); have HD8 := Lib.hid hd5; have HK8 := Lib.hid (show k5 ≤ 110 by have := HK6.out; omega); have HB8 := Lib.hid (HB6.out.next hbx); have hs8 := Nat.le_trans hs6 hbx.size; clear hq8 hso hG5 hd5 hk5 hb5 hv1 hv2 hv3 hbx)
          | (refine step_append_s rfl (.tmp 46) (.tmp 49) 22 rfl w3.heap.size 29 i0 (.agg #[.int .i64 0, .string ⟨#[]⟩, .slice none 0 0]) 3 48 Tryz.underlying22 hi hz0 hz1 hz2 rfl (by decide) _ B1.length (gsCells B1 ss) (by simp [Act.eval]) (own_below HV2.out (belowNew w8 _)) ⟨w8.heap.size, 0, none⟩ 1 1 (gCells (q5, t5, n5) (.slice a5 n5.length c5)) (by simp [Act.eval]) rfl (fun j u h => news_row w8 #[.int .i64 q5, .string (strOf t5), .slice a5 n5.length c5] 29 j u (by simpa [gCells] using h)) (gCells_one _ _ _ _) (by have := HL1.out.2; unfold maxLen; omega) (by have := HL1.out.2; omega) (by simp; omega) ?_; intro v9 w9 hown9 hgr9; obtain ⟨a6, c6, hv6, _⟩ := own_formz hown9; subst hv6; obtain ⟨z0, z1, z2, z3, zl⟩ := two_at (grown_other (own_below HV2.out (belowNew w8 _)) hgr9 (((belowNew w8 _).block g xl).trans HQ8.out) (by decide)); have HW9 := Lib.hid hown9; have HR9 := Lib.hid hgr9; clear hown9 hgr9))
        all_goals
          go_wp2_with fail
          go_meet
          exact sw_second (x := (q5, t5, n5)) (((belowNew w8 _).block g xl).trans HQ8.out) HV1.out (own_below HV2.out (belowNew w8 _)) (fun i hi => (HV3.out i hi).below (belowNew w8 _)) (HU8.out.below (belowNew w8 _)) HDJ.out (HD8.out.below (belowNew w8 _)) (HB8.out.next (But.of (belowNew w8 _))) HP3.out rfl HGW.out HR9.out HW9.out (HO8.out.below (belowNew w8 _)) HSS.out HG8.out HL1.out (by have := HK8.out; omega)
      | false =>
        go_wp2_with fail
        go_meet
        exact ⟨u1, v1, A1.length, d1, B1.length, e1, k6, A1, B1, HQ6.out, KeepS.own HU6.out HP3.out, KeepS.own HV6.out HP3.out, HSS.out, ⟨by have := HL1.out.1; omega, by have := HL1.out.2; omega⟩, HD6.out, by have := HK6.out; omega, HB6.out⟩
  case rest =>
    obtain ⟨a5, b5, n5, c5, m5, d5, kx, A5, B5, hq5, hka, hkb, hsm, hnm, hd5, hkx, hb5⟩ := hcut
    obtain ⟨ws, hws⟩ : ∃ ws, ws = wc := ⟨_, rfl⟩
    subst hws
    have HQS := Lib.hid hq5
    have HKA := Lib.hid hka
    have HKB := Lib.hid hkb
    have HSM := Lib.hid hsm
    have HNM := Lib.hid hnm
    have HBS := Lib.hid hb5
    have HKX := Lib.hid hkx
    obtain ⟨W9, hW9⟩ : ∃ W9, W9 = ws.alloc (.cells #[.slice none 0 0, .slice none 0 0] 24) := ⟨_, rfl⟩
    obtain ⟨q9, hq9⟩ : ∃ q9, q9 = ws.heap.size := ⟨_, rfl⟩
    have hb9 : Below ws.heap.size ws W9 := by rw [hW9]; exact belowNew ws _
    have HM9 := Lib.hid (show Mny ws W9 p q9 al cl zs (.slice none 0 0) [] kx from ⟨by rw [hW9, hq9]; exact heap_alloc_new ws _, OwnG.nil _ _, by rw [hq9]; exact hd5.lt, hd5.below hb9, But.of hb9, by rw [hq9]; exact Nat.le_refl _⟩)
    have HQW := Lib.hid (show q9 + 1 ≤ W9.heap.size by rw [hW9, hq9]; simp)
    have HWE := Lib.hid hW9.symm
    have HQE := Lib.hid hq9
    have HPW2 := Lib.hid (show p < ws.heap.size from hd5.lt)
    clear hq5 hka hkb hsm hnm hd5 hkx hb5 hb9 hW9 hq9 HD6 HU6 HV6 HQ6 HHG E0 E1 E2 E3 hr4 HBO HB6 HK6 HSS HL1 HGB HDJ
    go_upto_region 11 with fail
    rw [HWE.out, ← HQE.out]
    obtain ⟨N, hN, hN20⟩ : ∃ N : Nat, (nn : Int) % 20 = (N : Int) ∧ N < 20 := ⟨nn % 20, by omega, by omega⟩
    have HN := Lib.hid hN
    clear hN
    go_wp2_with fail
    go_loopw [12] (fun i wr => ∃ (j : Nat) (Am : List Gn) (vm : Value) (kk : Nat), j ≤ N ∧ Am.length = j ∧ (∀ x ∈ Am, BsG x) ∧ i = .int .i64 (j : Int) ∧ Mny ws wr p q9 al cl zs vm Am kk ∧ kk ≤ kx + 12 * j ∧ q9 + 1 ≤ wr.heap.size) (fun i _ => N - (intOf i).toNat)
    case atStart => exact ⟨0, [], _, kx, Nat.zero_le _, rfl, (fun x hx => by cases hx), rfl, HM9.out, by omega, HQW.out⟩
    case round =>
      obtain ⟨WR, hWR⟩ : ∃ WR, WR = wr := ⟨_, rfl⟩
      subst hWR
      obtain ⟨j, Am, vm, kk, hj, hlm, hbm, rfl, hm, hkk, hzr⟩ := hrel
      obtain ⟨am, cm, rfl, _, _⟩ := hm.2.1.lies
      have HLM := Lib.hid hlm
      have HBM := Lib.hid hbm
      have HM := Lib.hid hm
      have HKK := Lib.hid hkk
      have HZR := Lib.hid hzr
      have HJ := Lib.hid hj
      clear hlm hbm hm hkk hzr HM9 HQW
      by_cases hlt : j < N
      · have hd : decide ((j : Int) < (N : Int)) = true := by simp; omega
        have HLT := Lib.hid hlt
        have hN := HN.out
        go_wp2_with fail
        clear hN hj hlt
        obtain ⟨y0, y1, y2, y3, yl⟩ := two_at HM.out.1
        have HD := Lib.hid HM.out.2.2.2.1
        have hpq := HM.out.2.2.1
        go_region_law (first
          | (go_simp; go_at_call 13; (with_reducible refine (base_any_g p al cl zs kk _ (by first | exact HD.out | exact deck_up_s HD.out) (by have := HKK.out; have := HKX.out; have := HLT.out; omega)).mono ?_); rintro e w5 ⟨q6, t6, s6, n6, k6', hG6, rfl, hso, hd5, hk5, hb5⟩; obtain ⟨a6, c6, rfl, _, _⟩ := hso.lies; have hm5 := HM.out.call (((But.refl p WR).drew).next hb5) hd5; obtain ⟨x0, x1, x2, x3, xl⟩ := two_at hm5.1; have hzz : ¬ q9 = w5.heap.size := (by omega); have hzy : ¬ w5.heap.size = q9 := (by omega); obtain ⟨ss, hv1, hv2, hv3⟩ := hm5.2.1; have HV1 := Lib.hid hv1; have HV2 := Lib.hid hv2; have HV3 := Lib.hid hv3; have HM5 := Lib.hid hm5; have HO5 := Lib.hid (hso.base (show q9 + 1 ≤ WR.drew.heap.size from HZR.out)); have HG5 := Lib.hid (show BsG (q6, t6, n6) from hG6); have HK5 := Lib.hid hk5; have HZ5 := Lib.hid (Nat.le_trans HZR.out hb5.size); clear hm5 hso hG6 hd5 hk5 hb5 hv1 hv2 hv3)
          | (refine step_append_s rfl (.tmp 61) (.tmp 64) 22 rfl (q9 + 1) 29 i0 (.agg #[.int .i64 0, .string ⟨#[]⟩, .slice none 0 0]) 3 48 Tryz.underlying22 hi hz0 hz1 hz2 rfl (by decide) _ Am.length (gsCells Am ss) (by simp [Act.eval]) (own_below HV2.out (belowNew w5 _)) ⟨w5.heap.size, 0, none⟩ 1 1 (gCells (q6, t6, n6) (.slice a6 n6.length c6)) (by simp [Act.eval]) rfl (fun j u h => news_row w5 #[.int .i64 q6, .string (strOf t6), .slice a6 n6.length c6] 29 j u (by simpa [gCells] using h)) (gCells_one _ _ _ _) (by have := HLM.out; have := HLT.out; unfold maxLen; omega) (by have := HLM.out; have := HLT.out; omega) (by have h9 : q9 + 1 ≤ w5.heap.size := HZ5.out; simp; omega) ?_; intro v6 w6' hown6 hgr6; obtain ⟨a7, c7, hv6, _⟩ := own_formz hown6; subst hv6; obtain ⟨z0, z1, z2, z3, zl⟩ := two_at ((row_block (own_below HV2.out (belowNew w5 _)) hgr6 (show q9 < (w5.alloc _).heap.size by simp; omega) (show q9 < q9 + 1 by omega)).trans (((belowNew w5 _).block _ xl).trans HM5.out.1)); have HP := Lib.hid hown6; have HGV := Lib.hid hgr6; clear hown6 hgr6))
        all_goals
          have hlt := HLT.out
          go_wp2_with fail
          go_roundw
          case rel => exact ⟨j + 1, Am ++ [(q6, t6, n6)], _, k6', HLT.out, by rw [List.length_append, HLM.out]; rfl, bs_snoc HBM.out HG5.out, by go_num, (HM5.out.below (belowNew w5 _)).push HV1.out (own_below HV2.out (belowNew w5 _)) (fun i hi => (HV3.out i hi).below (belowNew w5 _)) (HO5.out.below (belowNew w5 _)) HGV.out HP.out, by have := HK5.out; have := HKK.out; omega, by have h8 := HGV.out.size; have h9 := HZ5.out; simp at h8 ⊢; omega⟩
          case measure => have := HLT.out; simp [intOf]; omega
      · have hd : decide ((j : Int) < (N : Int)) = false := by simp; omega
        have HL20 := Lib.hid (show Am.length ≤ 20 by have := HLM.out; omega)
        have hN := HN.out
        have hbr : But p ws WR := HM.out.2.2.2.2.1
        have HBR := Lib.hid hbr
        have HBZ := Lib.hid (HBX.out WR (HBS.out.next hbr))
        have hr1 := (HBZ.out.block w.heap.size (Array.getElem?_eq_some_iff.1 HR0.out).1).trans HR0.out
        have hg1 := (hbr.block g (Array.getElem?_eq_some_iff.1 HQS.out).1 (by have := HP3.out; have := HGW.out; simp; omega)).trans HQS.out
        obtain ⟨r0, r1, _⟩ := two_facts hr1
        obtain ⟨g0, g1, _⟩ := two_facts hg1
        obtain ⟨m0, m1, _⟩ := two_facts HM.out.1
        clear hbr hr1 hg1
        go_upto_region 16 with fail
        clear hN hlt hj
        obtain ⟨U, hU⟩ : ∃ U, U = WR.alloc (.cells #[.slice a1 NA c1, .slice a2 NB c2, .slice a5 n5 c5, .slice b5 m5 d5, .slice am Am.length cm, .slice none 0 0] 24) := ⟨_, rfl⟩
        obtain ⟨G, hGG⟩ : ∃ G, G = WR.heap.size := ⟨_, rfl⟩
        have hbU : Below WR.heap.size WR U := by rw [hU]; exact belowNew WR _
        have hc : ∀ j, U.cell? ⟨G, j, none⟩ = (#[.slice a1 NA c1, .slice a2 NB c2, .slice a5 n5 c5, .slice b5 m5 d5, .slice am Am.length cm, .slice none 0 0] : Array Value)[j]? := fun j => by
          rw [hU, hGG]
          exact cell_of_row _ _ j _ _ _ (heap_alloc_new WR _)
        have HBU := Lib.hid (below_next HBZ.out hbU)
        have HROW := Lib.hid (show ∀ i, i < 3 → ∃ (e1 e2 : Option Addr) (k1 f1 k2 f2 : Nat) (X Y : List Gn), U.cell? ⟨G, i * 2, none⟩ = some (.slice e1 k1 f1) ∧ U.cell? ⟨G, i * 2 + 1, none⟩ = some (.slice e2 k2 f2) ∧ (GLies U e1 X ∧ k1 = X.length ∧ (e1 = none → k1 = 0 ∧ f1 = 0) ∧ SmL X ∧ k1 ≤ 100) ∧ GLies U e2 Y ∧ k2 = Y.length ∧ (e2 = none → k2 = 0 ∧ f2 = 0) ∧ SmL Y ∧ k2 ≤ 100 from fun i hi => by
          rcases (by omega : i = 0 ∨ i = 1 ∨ i = 2) with rfl | rfl | rfl
          · exact ⟨_, _, _, _, _, _, A, B, hc 0, hc 1, ⟨HA.out.below HBU.out, HNA.out, HZA.out.1, HSA.out.1, HLA.out.1⟩, HB.out.below HBU.out, HNB.out, HZA.out.2, HSA.out.2, HLA.out.2⟩
          · exact ⟨_, _, _, _, _, _, A5, B5, hc 2, hc 3, ⟨((HKA.out.next HBR.out).next (But.of hbU)).lies, HKA.out.1, HKA.out.2.2.1, HSM.out.1, HNM.out.1⟩, ((HKB.out.next HBR.out).next (But.of hbU)).lies, HKB.out.1, HKB.out.2.2.1, HSM.out.2, HNM.out.2⟩
          · exact ⟨_, _, _, _, _, _, Am, [], hc 4, hc 5, ⟨ownG_at (HM.out.2.1.below hbU), rfl, own_room HM.out.2.1, fun x hx => bsG_sm (HBM.out x hx), by have := HL20.out; omega⟩, .inl rfl, rfl, fun _ => ⟨rfl, rfl⟩, fun x hx => (by cases hx), Nat.zero_le _⟩)
        rw [← hU, ← hGG]
        clear hU hGG hbU hc r0 r1 g0 g1 m0 m1 HM HBR HBZ HKA HKB HSM HNM HQS HBS HLM HBM HKK HZR HJ HR0 HG0 HA HB HNA HNB HSA HLA HZA
        go_wp2_with fail
        go_loopw [72] (fun i wr => ∃ j : Nat, j ≤ 3 ∧ i = .int .i64 (j : Int) ∧ Below U.heap.size U wr) (fun i _ => 3 - (intOf i).toNat)
        case atStart => exact ⟨0, Nat.zero_le _, rfl, Below.refl _ _⟩
        case round =>
          obtain ⟨wz, hwz⟩ : ∃ wz, wz = wr := ⟨_, rfl⟩
          subst hwz
          obtain ⟨i2, hi2, rfl, hb⟩ := hrel
          have HBJ := Lib.hid hb
          have HWZ := Lib.hid (below_next HBU.out hb)
          clear hb
          by_cases hlt : i2 < 3
          · have hd : decide ((i2 : Int) < 3) = true := decide_eq_true (by omega)
            have HLT := Lib.hid hlt
            obtain ⟨e1, e2, k1, f1, k2, f2, X, Y, y0, y1, ⟨hl1, hk1, hz1', hs1, ht1⟩, hl2, hk2, hz2', hs2, ht2⟩ := HROW.out i2 hlt
            have e0' := (HBJ.out.cell (block_lt y0)).trans y0
            have e1' := (HBJ.out.cell (block_lt y1)).trans y1
            obtain ⟨W2, hW2⟩ : ∃ W2, W2 = wz.alloc (.cells #[.slice e1 k1 f1, .slice e2 k2 f2] 24) := ⟨_, rfl⟩
            have hb2 : Below wz.heap.size wz W2 := by rw [hW2]; exact belowNew wz _
            have HX2 := Lib.hid (show W2.heap[wz.heap.size]? = some (.cells #[.slice e1 k1 f1, .slice e2 k2 f2] 24 (0, 0)) by rw [hW2]; exact heap_alloc_new wz _)
            obtain ⟨x0, x1, lx⟩ := two_facts HX2.out
            have HW2 := Lib.hid (below_next HWZ.out hb2)
            have HB2 := Lib.hid hb2
            have HL := Lib.hid (fun V (hb : Below W2.heap.size W2 V) => And.intro (((hl1.below HBJ.out).below hb2).below hb) (((hl2.below HBJ.out).below hb2).below hb))
            have HP1 := Lib.hid (fun V (hb : Below W2.heap.size W2 V) => encs_core e1 e2 f1 f2 k1 k2 (X, Y) V (HL.out V hb).1 (HL.out V hb).2 hk1 hk2 hs1 hs2 (by omega) (by omega) (HTM.out V (below_next HW2.out hb)).1 (HTM.out V (below_next HW2.out hb)).2)
            have HP2 := Lib.hid (fun V (hb : Below W2.heap.size W2 V) => rencs_core e1 e2 f1 f2 k1 k2 (X, Y) V (HL.out V hb).1 (HL.out V hb).2 hk1 hk2 hs1 hs2 hz1' hz2')
            have HP3 := Lib.hid (fun V (hb : Below W2.heap.size W2 V) => chks_core e1 e2 f1 f2 k1 k2 (X, Y) V (HL.out V hb).1 (HL.out V hb).2 hk1 hk2 (by omega) (by omega) hs1 hs2 (HTM.out V (below_next HW2.out hb)).1 (HTM.out V (below_next HW2.out hb)).2)
            have HP4 := Lib.hid (fun V (hb : Below W2.heap.size W2 V) => rchks_core e1 e2 f1 f2 k1 k2 (X, Y) V (HL.out V hb).1 (HL.out V hb).2 hk1 hk2 hz1' hz2' hs1 hs2)
            unfold encV2 at HP1 HP2
            generalize encSub (X, Y) = SE at HP1 HP2
            obtain ⟨S, E⟩ := SE
            simp only at HP1 HP2
            generalize chkS (X, Y) = C at HP3 HP4
            have hcc : ((C : Int) != (C : Int)) = false := by simp
            have hee : ((E : Int) != (E : Int)) = false := by simp
            have hss : (S.toList == S.toList) = true := by simp
            have hst : (S.toList != S.toList) = false := by simp
            have HWE2 := Lib.hid hW2.symm
            clear y0 y1 hl1 hk1 hz1' hs1 ht1 hl2 hk2 hz2' hs2 ht2 hW2 hb2
            go_upto_region 18 with fail
            rw [HWE2.out]
            clear e0' e1'
            go_upto_region 20 with (first
              | (go_at_call 14; (with_reducible refine (HP1.out _ (Below.refl _ _)).mono ?_); rintro e w3 ⟨rfl, hb3⟩; have HB3 := Lib.hid hb3; obtain ⟨t0, t1, _⟩ := two_facts ((hb3.block _ lx).trans HX2.out); clear hb3)
              | (go_at_call 15; (with_reducible refine (HP2.out _ HB3.out).mono ?_); rintro e w4 ⟨rfl, hb4⟩; have HB4 := Lib.hid (below_next HB3.out hb4); clear hb4))
            obtain ⟨s0, s1, _⟩ := two_facts ((HB4.out.block _ lx).trans HX2.out)
            have g2 := cell_regrown s0
            have g3 := cell_regrown s1
            have v1' : ∀ d os, _ := fun d os => Calls.regrown_of (HP3.out (Sort.grow (redrawn w4 d) os) (below_next HB4.out (below_regrown w4 d os)))
            have v2' : ∀ d os, _ := fun d os => Calls.regrown_of (HP4.out (Sort.grow (redrawn w4 d) os) (below_next HB4.out (below_regrown w4 d os)))
            clear s0 s1 t0 t1 x0 x1
            refine wp_region_quiet_below (by kernel_rfl) (by kernel_rfl) ?_
            repeat (go_big_quiet_step (with_reducible first | exact v1' _ _ | exact v2' _ _))
            refine wpQuiet_nil ?_
            intro _ hw'
            obtain ⟨⟨dq, osq⟩, hw''⟩ := hw'
            subst hw''
            have HBQ := Lib.hid (below_next HB4.out (below_regrown w4 dq osq))
            clear v1' v2' g2 g3
            go_wp2_with fail
            go_roundw
            case rel => exact ⟨i2 + 1, by have := HLT.out; omega, by go_num, HBJ.out.trans ((below_next HB2.out HBQ.out).mono HBJ.out.size)⟩
            case measure => have := HLT.out; simp [intOf]; omega
          · have hd : decide ((i2 : Int) < 3) = false := decide_eq_false (by omega)
            go_wp2_with (go_at_call 8; (with_reducible refine (HAW.out _ HWZ.out).mono ?_); rintro e wy ⟨rfl, hby⟩; have HZY := Lib.hid (below_next HWZ.out hby); clear hby)
            go_ret
            exact ⟨rfl, below_next HB0.out HZY.out⟩
end Go.Proofs.YtbpdenfiifcfcaaGreatDoor
