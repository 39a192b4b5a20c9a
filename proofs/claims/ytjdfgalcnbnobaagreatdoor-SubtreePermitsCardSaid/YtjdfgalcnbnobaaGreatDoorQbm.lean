/-
  The walk of the law SubtreePermits: for every state, every constraint, every general name and every slice of ints it returns true, and leaves all that was there as it was.
-/
import Derived.Test.YtjdfgalcnbnobaaGreatDoorQbk
import Derived.Test.YtjdfgalcnbnobaaGreatDoorQbl
import Derived.Test.YtjdfgalcnbnobaaGreatDoorQbi
import Derived.Test.YtjdfgalcnbnobaaGreatDoorQbh
import Derived.Test.YtjdfgalcnbnobaaGreatDoorQaw
import Derived.Test.YtjdfgalcnbnobaaGreatDoorQat
import Derived.Lib.QuietBelow
import Derived.BigQuiet
namespace Go.Proofs.YtjdfgalcnbnobaaGreatDoor
open Go.RowKit

theorem step_append_none_s {P : Program} {ops : Array Oper} {o : Oper} {a : Act} {w : World} {K : Act → World → Prop} {Q : Exit → Act → World → Prop} {E : Prop} (hgd : o.guard = none) (s x : Operand) (t : TypeId)
    (ho : o.op = .call { callee := .builtin .append, args := #[s, x], argTypes := #[t, t] })
    (base : Nat) (e : TypeId) (i : TypeInfo) (size : Nat) (ht : P.underlying t = some (.slice e)) (hi : P.info? e = some i)
    (v : Value) (n : Nat) (xs : List Value) (hs : a.eval s = v) (hown : w.ownsRow base e size v n xs) (hx : a.eval x = .slice none 0 0)
    (h : K (a.put o.dst v) w) : if Region.wanted o (yielded ops a.tmps) = true then Oper.wp P o a w K Q else E := by
  have hw : Region.wanted o (yielded ops a.tmps) = true := by simp [Region.wanted, hgd]
  rw [if_pos hw]
  have hrun := run_append_owned_none (P := P) (w := w) base t o.type e i size ht hi v n xs hown
  unfold Oper.wp
  simp [execOp, ho, resolve, invoke, builtin, hs, hx, hrun, Result.andThen]
  exact h
theorem step_append_x {P : Program} {ops : Array Oper} {o : Oper} {a : Act} {w : World} {K : Act → World → Prop} {Q : Exit → Act → World → Prop} {E : Prop} (hgd : o.guard = none) (s x : Operand) (t : TypeId)
    (ho : o.op = .call { callee := .builtin .append, args := #[s, x], argTypes := #[t, t] })
    (base : Nat) (e : TypeId) (i : TypeInfo) (z : Value) (size bytes : Nat) (ht : P.underlying t = some (.slice e)) (hi : P.info? e = some i) (hz : i.zero = some z)
    (hsize : i.size = size) (hby : i.bytes = bytes) (hzs : z.cells.size = size) (hsz : 0 < size)
    (hs : a.eval s = .slice none 0 0) (ax : Option Addr) (m c : Nat) (news : List Value) (hx : a.eval x = .slice ax m c) (hax : ax = none → m = 0 ∧ c = 0) (hl : news.length = m * size) (hnews : ∀ ad, ax = some ad → ∀ j u, news[j]? = some u → w.cell? (ad.add j) = some u) (h1 : ∀ u ∈ news, u.oneCell' = true)
    (h63 : m ≤ maxLen) (hbytes : m * bytes ≤ 140737488355328) (hbase : base ≤ w.heap.size)
    (h : ∀ v' w', w'.ownsRow base e size v' m news → w.grownBy w' none → K (a.put o.dst v') w') :
    if Region.wanted o (yielded ops a.tmps) = true then Oper.wp P o a w K Q else E := by
  cases ax with
  | none =>
    obtain ⟨rfl, rfl⟩ := hax rfl
    have h0 : news = [] := List.eq_nil_of_length_eq_zero (by omega)
    subst h0
    exact step_append_none_s hgd s x t ho base e i size ht hi (.slice none 0 0) 0 [] hs (World.ownsRow_nil _ _ _ _) hx (h _ _ (World.ownsRow_nil _ _ _ _) (World.grownBy.refl _ _))
  | some ad =>
    refine step_append_s hgd s x t ho base e i z size bytes ht hi hz hsize hby hzs hsz (.slice none 0 0) 0 [] hs (World.ownsRow_nil _ _ _ _) ad m c news hx hl (hnews ad rfl) h1 (by rw [Nat.zero_add]; exact h63) (by rw [Nat.zero_add]; exact hbytes) hbase (fun v' w' h2 h3 => h v' w' (by rw [Nat.zero_add, List.nil_append] at h2; exact h2) h3)
theorem three_first (w : World) (o p r : Obj) (cs : Array Value) (T : TypeId) (h : o = .cells cs T) : (((w.alloc o).alloc p).alloc r).heap[w.heap.size]? = some (.cells cs T (0, 0)) := by
  rw [(belowNew ((w.alloc o).alloc p) r).block _ (by simp; omega), heap_first, h]; exact heap_alloc_new w _
theorem three_second (w : World) (o r : Obj) (cs : Array Value) (T : TypeId) : (((w.alloc o).alloc (.cells cs T)).alloc r).heap[w.heap.size + 1]? = some (.cells cs T (0, 0)) := by
  rw [(belowNew ((w.alloc o).alloc (.cells cs T)) r).block _ (by simp)]; exact heap_second w _ _ _
theorem three_third (w : World) (o p : Obj) (cs : Array Value) (T : TypeId) : (((w.alloc o).alloc p).alloc (.cells cs T)).heap[w.heap.size + 2]? = some (.cells cs T (0, 0)) := by
  have := heap_second (w.alloc o) p cs T
  simpa using this
theorem glies_one_s {w : World} {g : Nat} {k : Int} {t : List UInt8} {n : Nm} {a : Option Addr} {c : Nat} {T : TypeId} (h : w.heap[g]? = some (.cells #[.int .i64 k, .string (strOf t), .slice a n.length c] T (0, 0))) (hc : n.length ≤ c) (hr : RLies w a n) : GLies w (some ⟨g, 0, none⟩) [(k, t, n)] := by
  refine .inr ⟨g, 0, rfl, fun i hi => ?_⟩
  have e : ∀ j, w.cell? ⟨g, j, none⟩ = #[Value.int .i64 k, .string (strOf t), .slice a n.length c][j]? := fun j => Lib.cell_of_heap h j
  obtain rfl : i = 0 := by simp at hi; omega
  exact ⟨e 0, e 1, a, c, e 2, hc, hr⟩
def RowF (w : World) (q : Int) (t : List UInt8) (a : Option Addr) (N c : Nat) (n : Nm) : Prop := RLies w a n ∧ N = n.length ∧ N ≤ c ∧ SmG (q, t, n)
theorem four_rows {w : World} {G : Nat} {q0 q1 q2 q3 : Int} {t0 t1 t2 t3 : List UInt8} {a0 a1 a2 a3 : Option Addr} {N0 N1 N2 N3 c0 c1 c2 c3 : Nat} {n0 n1 n2 n3 : Nm} {T : TypeId} (h : w.heap[G]? = some (.cells #[.int .i64 q0, .string (strOf t0), .slice a0 N0 c0, .int .i64 q1, .string (strOf t1), .slice a1 N1 c1, .int .i64 q2, .string (strOf t2), .slice a2 N2 c2, .int .i64 q3, .string (strOf t3), .slice a3 N3 c3] T (0, 0)))
    (h0 : RowF w q0 t0 a0 N0 c0 n0) (h1 : RowF w q1 t1 a1 N1 c1 n1) (h2 : RowF w q2 t2 a2 N2 c2 n2) (h3 : RowF w q3 t3 a3 N3 c3 n3) :
    ∀ i, i < 4 → ∃ (q7 : Int) (t7 : List UInt8) (a7 : Option Addr) (c7 N7 : Nat) (n7 : Nm), w.cell? ⟨G, i * 3, none⟩ = some (.int .i64 q7) ∧ w.cell? ⟨G, i * 3 + 1, none⟩ = some (.string (strOf t7)) ∧ w.cell? ⟨G, i * 3 + 2, none⟩ = some (.slice a7 N7 c7) ∧ RLies w a7 n7 ∧ N7 = n7.length ∧ N7 ≤ c7 ∧ SmG (q7, t7, n7) := fun i hi => by
  have e := fun j => Lib.cell_of_heap h j
  rcases (by omega : i = 0 ∨ i = 1 ∨ i = 2 ∨ i = 3) with rfl | rfl | rfl | rfl
  · exact ⟨_, _, _, _, _, _, e 0, e 1, e 2, h0⟩
  · exact ⟨_, _, _, _, _, _, e 3, e 4, e 5, h1⟩
  · exact ⟨_, _, _, _, _, _, e 6, e 7, e 8, h2⟩
  · exact ⟨_, _, _, _, _, _, e 9, e 10, e 11, h3⟩
theorem oks_short {L : List Sub} (hl : L.length ≤ 6) (h : ∀ j, j < L.length → ShL (L.getD j noSub).1 ∧ ShL (L.getD j noSub).2) : OkS L := by
  have hm : ∀ s ∈ L, ShL s.1 ∧ ShL s.2 := fun s hs => by
    obtain ⟨i, hi, rfl⟩ := List.getElem_of_mem hs
    have := h i hi
    rwa [List.getD_eq_getElem?_getD, List.getElem?_eq_getElem hi] at this
  exact ⟨fun s hs => ⟨(hm s hs).1.sm, (hm s hs).2.sm⟩, by omega, fun s hs => ⟨Nat.le_trans (hm s hs).1.1 (by omega), Nat.le_trans (hm s hs).2.1 (by omega)⟩⟩
theorem shortsone (ag : Option Addr) (cg NG : Nat) (q : Int) (t : List UInt8) (n : Nm) (V : World) (hg : RLies V ag n) (hNG : NG = n.length) (hcg : NG ≤ cg) (hbg : BigG (q, t, n)) :
    Calls Tryz.prog 8 #[.slice (some ⟨V.heap.size, 0, none⟩) 1 1] (V.alloc (.cells #[.int .i64 q, .string (strOf t), .slice ag NG cg] 32)) fun e w' => ShortedL [(q, t, n)] e ∧ Below V.heap.size V w' := by
  subst hNG
  refine (shorts_any (some ⟨V.heap.size, 0, none⟩) 1 1 [(q, t, n)] _ (glies_one_s (heap_alloc_new V _) hcg (hg.below (belowNew V _))) rfl (by decide) (fun i hi => ?_)).mono (fun e w' h => ⟨h.1, below_next (belowNew V _) h.2⟩)
  rw [List.length_singleton] at hi
  obtain rfl : i = 0 := by omega
  rw [List.getD_cons_zero]
  exact hbg
set_option maxRecDepth 100000 in
set_option maxHeartbeats 8000000 in
theorem sperlaw (ar a1 a2 ag al : Option Addr) (cr NR c1 c2 NA NB cg NG cl : Nat) (Lr : List Sub) (A B : List Gn) (q : Int) (t : List UInt8) (n : Nm) (zs : List Int) (w : World)
    (hr : SLies w ar Lr) (hNR : NR = Lr.length) (hbr : BigS Lr) (hr0 : ar = none → cr = 0)
    (h1 : GLies w a1 A) (h2 : GLies w a2 B) (hNA : NA = A.length) (hNB : NB = B.length) (hbA : BigL A) (hbB : BigL B) (hcA : NA ≤ c1) (hcB : NB ≤ c2)
    (hg : RLies w ag n) (hNG : NG = n.length) (hcg : NG ≤ cg) (hbg : BigG (q, t, n)) (hl : ILies w al zs) (hz : zs.length ≤ 9223372036854775807) (hmk : Mk w) :
    Calls Tryz.prog 3 #[.agg #[.slice ar NR cr], .agg #[.slice a1 NA c1, .slice a2 NB c2], .agg #[.int .i64 q, .string (strOf t), .slice ag NG cg], .slice al zs.length cl] w fun e w' => e = .returned (.bool true) ∧ Below w.heap.size w w' := by
  obtain ⟨W0, hW0⟩ : ∃ W0, W0 = ((w.alloc (.cells #[.slice ar NR cr] 24)).alloc (.cells #[.slice a1 NA c1, .slice a2 NB c2] 27)).alloc (.cells #[.int .i64 q, .string (strOf t), .slice ag NG cg] 32) := ⟨_, rfl⟩
  have hwr := hW0.symm
  have hb0 : Below w.heap.size w W0 := by rw [hW0]; exact below_next (belowTwo w _ _) (belowNew _ _)
  obtain ⟨x0, _, lx⟩ := one_facts (w := W0) (g := w.heap.size) (by rw [hW0]; exact three_first w _ _ _ _ _ rfl)
  obtain ⟨s0, s1, ls⟩ := two_facts (w := W0) (g := w.heap.size + 1) (by rw [hW0]; exact three_second w _ _ _ _)
  obtain ⟨g0, g1, g2, lg⟩ := three_facts (w := W0) (g := w.heap.size + 2) (by rw [hW0]; exact three_third w _ _ _ _)
  have HB0 := Lib.hid hb0
  have X0 := Lib.hid x0
  have S0 := Lib.hid s0
  have S1 := Lib.hid s1
  have G0 := Lib.hid g0
  have G1 := Lib.hid g1
  have G2 := Lib.hid g2
  have HAW := Lib.hid (fun V (hb : Below W0.heap.size W0 V) => awake_core V ((hmk.below hb0).below hb))
  have HMX := Lib.hid (fun V (hb : Below W0.heap.size W0 V) => (hmk.below hb0).below hb)
  have HSC := Lib.hid (shorts_core a1 a2 c1 c2 NA NB A B W0 (h1.below hb0) (h2.below hb0) hNA hNB hbA hbB)
  have HSN := Lib.hid (fun V (hb : Below W0.heap.size W0 V) => shortsone ag cg NG q t n V ((hg.below hb0).below hb) hNG hcg hbg)
  have HNW := Lib.hid (fun V (hb : Below W0.heap.size W0 V) => new_any al cl zs V (ints_below (ints_below hl hb0) hb) hz)
  have HR := Lib.hid (hr.below hb0)
  have HA := Lib.hid (h1.below hb0)
  have HB := Lib.hid (h2.below hb0)
  have HG := Lib.hid (hg.below hb0)
  have HNR := Lib.hid hNR
  have HNA := Lib.hid hNA
  have HNB := Lib.hid hNB
  have HNG := Lib.hid hNG
  have HBR := Lib.hid hbr
  have HR0 := Lib.hid hr0
  have HCA := Lib.hid (And.intro hcA hcB)
  have HCG := Lib.hid hcg
  clear hr hNR hbr hr0 h1 h2 hNA hNB hbA hbB hcA hcB hg hNG hcg hbg hl hz hmk hb0 hW0
  go_enter Tryz.func3, Tryz.ntmps3
  go_upto_region 1 with (fail)
  clear hwr
  by_cases h6 : 6 < NR
  · have hd : decide ((6 : Int) < (NR : Int)) = true := by simp; omega
    clear h6
    go_wp2_with (go_at_call 9; (with_reducible refine (HAW.out _ (Below.refl _ _)).mono ?_); rintro e w2 ⟨rfl, hb2⟩; have HB2 := Lib.hid hb2; clear hb2)
    go_ret
    exact ⟨rfl, below_next HB0.out HB2.out⟩
  have hd : decide ((6 : Int) < (NR : Int)) = false := by simp; omega
  have HNR6 := Lib.hid (show NR ≤ 6 by omega)
  clear h6
  go_wp2_with fail
  refine HSC.out.mono ?_
  rintro e w1 ⟨hS, hb1⟩
  have HB1 := Lib.hid hb1
  have y0 := (hb1.cell (p := ⟨w.heap.size + 2, 0, none⟩) lg).trans G0.out
  have y1 := (hb1.cell (p := ⟨w.heap.size + 2, 1, none⟩) lg).trans G1.out
  have y2 := (hb1.cell (p := ⟨w.heap.size + 2, 2, none⟩) lg).trans G2.out
  clear hb1 HSC x0 s0 s1 g0 g1 g2 hd
  rcases hS with ⟨rfl, hSA, hSB⟩ | rfl
  case inr =>
    go_wp2_with (go_at_call 9; (with_reducible refine (HAW.out _ HB1.out).mono ?_); rintro e w2 ⟨rfl, hb2⟩; have HB2 := Lib.hid (below_next HB1.out hb2); clear hb2)
    go_ret
    exact ⟨rfl, below_next HB0.out HB2.out⟩
  have HSH := Lib.hid (And.intro hSA hSB)
  clear hSA hSB
  go_wp2_with fail
  refine (HSN.out w1 HB1.out).mono ?_
  rintro e w2 ⟨hS, hb2⟩
  have HB2 := Lib.hid (below_next HB1.out hb2)
  clear y0 y1 y2 hb2 HSN
  rcases hS with ⟨rfl, hSh⟩ | rfl
  case inr =>
    go_wp2_with (go_at_call 9; (with_reducible refine (HAW.out _ HB2.out).mono ?_); rintro e w3 ⟨rfl, hb3⟩; have HB3 := Lib.hid (below_next HB2.out hb3); clear hb3)
    go_ret
    exact ⟨rfl, below_next HB0.out HB3.out⟩
  have HSG := Lib.hid (show ShG (q, t, n) from hSh.2 0 (by simp))
  have x0 := (HB2.out.cell (p := ⟨w.heap.size, 0, none⟩) lx).trans X0.out
  clear hSh HB1
  go_wp2_with fail
  clear x0
  go_loopw [39] (fun i wr => ∃ k : Nat, k ≤ NR ∧ i = .int .i64 k ∧ (∀ j, j < k → ShL (Lr.getD j noSub).1 ∧ ShL (Lr.getD j noSub).2) ∧ Below W0.heap.size W0 wr) (fun i _ => NR - (intOf i).toNat)
  case atStart => exact ⟨0, Nat.zero_le _, rfl, fun j hj => absurd hj (Nat.not_lt_zero _), HB2.out⟩
  case round =>
    obtain ⟨wz, hwz⟩ : ∃ wz, wz = wr := ⟨_, rfl⟩
    subst hwz
    obtain ⟨k, hk, rfl, hi, hb⟩ := hrel
    have HBJ := Lib.hid hb
    have HI := Lib.hid hi
    clear hb hi HB2
    by_cases hlt : k < NR
    · have hd : decide ((k : Int) < (NR : Int)) = true := by simp; omega
      obtain ⟨b, o, rfl, hbl, u1, d1, u2, d2, e0, e1, ⟨hc1, hL1⟩, hc2, hL2⟩ := HR.out.at k (by rw [← HNR.out]; exact hlt)
      have f0 := (HBJ.out.cell (p := ⟨b, o + k * 2, none⟩) hbl).trans e0
      have f1 := (HBJ.out.cell (p := ⟨b, o + k * 2 + 1, none⟩) hbl).trans e1
      have hbg := HBR.out.2 k (by rw [← HNR.out]; exact hlt)
      clear e0 e1 hbl
      have HSP := Lib.hid (fun (h : ShL (Lr.getD k noSub).1 ∧ ShL (Lr.getD k noSub).2) => (show ∀ j, j < k + 1 → ShL (Lr.getD j noSub).1 ∧ ShL (Lr.getD j noSub).2 from fun j hj => by
        by_cases hjk : j < k
        · exact HI.out j hjk
        · obtain rfl : j = k := by omega
          exact h))
      generalize Lr.getD k noSub = G at f0 f1 hL1 hL2 hc1 hc2 hbg HSP
      obtain ⟨P, Q⟩ := G
      simp only at f0 f1 hL1 hL2 hc1 hc2 hbg HSP
      obtain ⟨NP, hNP⟩ : ∃ NP, NP = P.length := ⟨_, rfl⟩
      obtain ⟨NQ, hNQ⟩ : ∃ NQ, NQ = Q.length := ⟨_, rfl⟩
      rw [← hNP] at f0
      rw [← hNQ] at f1
      obtain ⟨W2, hW2⟩ : ∃ W2, W2 = wz.alloc (.cells #[.slice u1 NP d1, .slice u2 NQ d2] 27) := ⟨_, rfl⟩
      have hb2 : Below wz.heap.size wz W2 := by rw [hW2]; exact belowNew wz _
      obtain ⟨v0, v1, lv⟩ := two_facts (w := W2) (g := wz.heap.size) (by rw [hW2]; exact heap_alloc_new wz _)
      have hwr := hW2.symm
      have HBW := Lib.hid (below_next HBJ.out hb2)
      have HSC := Lib.hid (shorts_core u1 u2 d1 d2 NP NQ P Q W2 ((hL1.below HBJ.out).below hb2) ((hL2.below HBJ.out).below hb2) hNP hNQ hbg.1 hbg.2)
      clear hL1 hL2 hc1 hc2 hbg hNP hNQ hb2 hW2
      go_wp2_with fail
      refine HSC.out.mono ?_
      rintro e w3 ⟨hS, hb3⟩
      have HB3 := Lib.hid (below_next HBW.out hb3)
      clear hb3 HSC v0 v1 lv f0 f1 hwr
      rcases hS with ⟨rfl, hSA, hSB⟩ | rfl
      case inr =>
        go_wp2_with (go_at_call 9; (with_reducible refine (HAW.out _ HB3.out).mono ?_); rintro e w4 ⟨rfl, hb4⟩; have HB4 := Lib.hid (below_next HB3.out hb4); clear hb4)
        go_ret
        exact ⟨rfl, below_next HB0.out HB4.out⟩
      have HSP2 := Lib.hid (HSP.out ⟨hSA, hSB⟩)
      clear hSA hSB
      have h9 : NR ≤ 6 := HNR6.out
      go_wp2_with fail
      go_roundw
      case rel => exact ⟨k + 1, by omega, by go_num, HSP2.out, HB3.out⟩
      case measure => simp [intOf]; omega
    · have hd : decide ((k : Int) < (NR : Int)) = false := by simp; omega
      obtain rfl : k = NR := by omega
      have HOR := Lib.hid (oks_short (by rw [← HNR.out]; exact HNR6.out) (by rw [← HNR.out]; exact HI.out))
      clear hlt hk HI HBR
      go_upto_region 9 with (fail)
      clear hd
      go_wp2_with fail
      refine (HNW.out wz HBJ.out).mono ?_
      rintro e w3 ⟨rfl, hd3, hb3⟩
      have HBN := Lib.hid (below_next HBJ.out hb3)
      obtain ⟨p, hp⟩ : ∃ p, p = wz.heap.size := ⟨_, rfl⟩
      rw [← hp] at hd3 ⊢
      have hp0 : W0.heap.size ≤ p := by rw [hp]; exact HBJ.out.size
      have HBW := Lib.hid (fun V (h : But p w3 V) => show Below W0.heap.size W0 V from HBN.out.trans ((h.below (Nat.le_of_lt hd3.lt)).mono hp0))
      have HD3 := Lib.hid hd3
      clear hd3 hb3 hp HNW HBJ
      have HST := Lib.hid (state_any p al cl zs 0 w3 HD3.out (by omega))
      go_upto_region 11 with (go_at_call 11; (with_reducible refine HST.out.mono ?_); rintro e w4 ⟨v, L, k4, hL4, hG, rfl, ho, hd4, hk4, hb4⟩; obtain ⟨av, cv, rfl, _, _⟩ := ho.lies; have HGB := Lib.hid hG; have HL4 := Lib.hid hL4; have HO4 := Lib.hid ho; have HD4 := Lib.hid hd4; have HK4 := Lib.hid hk4; have HB4 := Lib.hid hb4; clear ho hd4 hk4 hb4 hG hL4)
      obtain ⟨NL, hNL⟩ : ∃ NL, NL = L.length := ⟨_, rfl⟩
      have HNL := Lib.hid hNL
      rw [← hNL] at HO4 HL4 ⊢
      obtain ⟨W5, hW5⟩ : ∃ W5, W5 = w4.alloc (.cells #[.slice av NL cv] 24) := ⟨_, rfl⟩
      have hb5 : Below w4.heap.size w4 W5 := by rw [hW5]; exact belowNew w4 _
      obtain ⟨y0, _, ly⟩ := one_facts (w := W5) (g := w4.heap.size) (by rw [hW5]; exact heap_alloc_new w4 _)
      have hxb := HBW.out W5 (HB4.out.next (But.of hb5))
      have x0 := (hxb.cell (p := ⟨w.heap.size, 0, none⟩) lx).trans X0.out
      obtain ⟨gR, hgR⟩ : ∃ gR, gR = W5.heap.size := ⟨_, rfl⟩
      obtain ⟨W6, hW6⟩ : ∃ W6, W6 = W5.alloc (.cells #[.slice ar k cr, .slice av NL cv] 24) := ⟨_, rfl⟩
      have hwr6 := hW6.symm
      have HGR := Lib.hid hgR
      rw [← hW5]
      have hb6 : Below W5.heap.size W5 W6 := by rw [hW6]; exact belowNew W5 _
      have HQ6 := Lib.hid (show W6.heap[gR]? = some (.cells #[.slice ar k cr, .slice av NL cv] 24 (0, 0)) by rw [hW6, hgR]; exact heap_alloc_new W5 _)
      have hO6 := (HO4.out.below hb5).below hb6
      have HD6 := Lib.hid ((HD4.out.below hb5).below hb6)
      have hB6 := (HB4.out.next (But.of hb5)).next (But.of hb6)
      have HB6 := Lib.hid hB6
      have HOL := Lib.hid (genB_ok HGB.out (by rw [← HNL.out]; exact Nat.le_trans HL4.out (by omega)))
      have hpB : p < w3.heap.size := HD3.out.lt
      have hpR : p < gR := by rw [hgR]; exact Nat.lt_of_lt_of_le HD4.out.lt hb5.size
      have HX := Lib.hid (fun i (hi : i < 2) => (show ∃ (ax : Option Addr) (cx Nx : Nat) (Lx : List Sub), (∀ V, But p W6 V → V.cell? ⟨gR, i, none⟩ = some (.slice ax Nx cx)) ∧ (∀ V, But p W6 V → SLies V ax Lx) ∧ Nx = Lx.length ∧ Nx ≤ 6 ∧ OkS Lx ∧ (ax = none → cx = 0) from by
        have hq := HQ6.out
        have hlt := (Array.getElem?_eq_some_iff.1 hq).1
        obtain ⟨r0, r1, _⟩ := two_facts hq
        obtain rfl | rfl : i = 0 ∨ i = 1 := by omega
        · exact ⟨ar, cr, k, Lr, fun V hV => (cell_same (hV.block gR hlt (by simp; omega)) 0).trans r0, fun V hV => HR.out.below (HBW.out V (hB6.next hV)), HNR.out, HNR6.out, HOR.out, HR0.out⟩
        · exact ⟨av, cv, NL, L, fun V hV => (cell_same (hV.block gR hlt (by simp; omega)) 1).trans r1, fun V hV => lies_of (hO6.but hV hpB), HNL.out, Nat.le_trans HL4.out (by omega), HOL.out, fun e => by subst e; exact sb_none hO6⟩))
      clear hNL hW5 hW6 hgR hb5 hxb hb6 hO6 hB6 HST HO4 HD4 HB4 HBN HD3
      go_wp2_with fail
      rw [← HGR.out]
      clear y0 ly x0 hwr6
      obtain ⟨i0, hi, hz0, hz1, hz2⟩ := info_parts subInfo
      go_loopw [56] (fun i wr => ∃ j k2 : Nat, j ≤ 2 ∧ i = .int .i64 (j : Int) ∧ But p W6 wr ∧ DeckAt wr p al cl zs k2 ∧ k2 ≤ 321 + 116 * j) (fun i _ => 2 - (intOf i).toNat)
      case atStart => exact ⟨0, k4, Nat.zero_le _, rfl, But.refl _ _, HD6.out, by have := HK4.out; omega⟩
      case round =>
        obtain ⟨wy, hwy⟩ : ∃ wy, wy = wr := ⟨_, rfl⟩
        subst hwy
        obtain ⟨j, k2, hj, rfl, hb, hdk, hk2⟩ := hrel
        have HBY := Lib.hid hb
        have HDY := Lib.hid hdk
        have HK2 := Lib.hid hk2
        have hpy : p < wy.heap.size := hdk.lt
        clear hb hdk hk2 HD6 HK4
        by_cases hlt : j < 2
        · have hd : decide ((j : Int) < 2) = true := decide_eq_true (by omega)
          have HLT := Lib.hid hlt
          obtain ⟨ax, cx, Nx, Lx, hcell, hsl, hNx, hN6, hOK, hx0⟩ := HX.out j hlt
          have q0 := hcell wy HBY.out
          have HNX := Lib.hid hNx
          have HN6 := Lib.hid hN6
          have HOX := Lib.hid hOK
          have HX0 := Lib.hid hx0
          have HSX := Lib.hid (fun V (h : But p wy V) => hsl V (HBY.out.next h))
          clear hcell hsl hNx hN6 hOK hx0
          go_upto_region 14 with (fail)
          clear q0
          obtain ⟨W14, hW14⟩ : ∃ W14, W14 = wy.alloc (.cells #[.slice ax Nx cx] 24) := ⟨_, rfl⟩
          have hb14 : Below wy.heap.size wy W14 := by rw [hW14]; exact belowNew wy _
          rw [← hW14]
          obtain ⟨bX, hbX⟩ : ∃ bX, bX = wy.heap.size := ⟨_, rfl⟩
          have HQX := Lib.hid (show W14.heap[bX]? = some (.cells #[.slice ax Nx cx] 24 (0, 0)) by rw [hW14, hbX]; exact heap_alloc_new wy _)
          rw [← hbX]
          have hpX : p < bX := by rw [hbX]; exact hpy
          have HD14 := Lib.hid (HDY.out.below hb14)
          have HB14 := Lib.hid (HBY.out.next (But.of hb14))
          have HSX1 := Lib.hid (fun V (h : But p W14 V) => HSX.out V ((But.of hb14).next h))
          have hx14 := HBW.out W14 (HB6.out.next HB14.out)
          have s0 := (hx14.cell (p := ⟨w.heap.size + 1, 0, none⟩) ls).trans S0.out
          have s1 := (hx14.cell (p := ⟨w.heap.size + 1, 1, none⟩) ls).trans S1.out
          have HX14 := Lib.hid hx14
          have hsp : w.heap.size + 1 < p := Nat.lt_of_lt_of_le ls hp0
          clear hb14 hW14 hbX hx14 HSX HDY HBY
          go_cut [56, 63, 64, 65] from 56 to 104 (fun s56 s63 s64 s65 wx => s56 = .int .i64 (j : Int) ∧ ∃ (G BG : Nat) (A5 B5 : List Gn) (a5 b5 : Option Addr) (c5 d5 N5 M5 k5 : Nat), s63 = .slice (some ⟨G, 0, none⟩) 2 2 ∧ s64 = .int .i64 2 ∧ s65 = .int .i64 0 ∧ wx.heap[G]? = some (.cells #[.slice a1 NA c1, .slice a2 NB c2, .slice a5 N5 c5, .slice b5 M5 d5] 27 (0, 0)) ∧ GenB (A5, B5) ∧ N5 = A5.length ∧ M5 = B5.length ∧ p < BG ∧ OwnG wx BG (.slice a5 N5 c5) A5 ∧ OwnG wx BG (.slice b5 M5 d5) B5 ∧ But p W14 wx ∧ DeckAt wx p al cl zs k5 ∧ k5 ≤ k2 + 80)
          case first =>
            go_region_held3 (fun w' => w'.cell? ⟨w.heap.size + 1, 0, none⟩ = some (.slice a1 NA c1) ∧ w'.cell? ⟨w.heap.size + 1, 1, none⟩ = some (.slice a2 NB c2)) (first | exact ⟨by assumption, by assumption⟩ | go_keep)
              (first | (go_at_call 12; (with_reducible refine (subtrees_any p al cl zs k2 _ (by first | exact HD14.out | exact deck_up_s HD14.out) (by have := HK2.out; omega)).mono ?_); rintro e w5 ⟨x5, z5, A5, B5, k5, hG5, rfl, hoA, hoB, hd5, hk5, hb5⟩; obtain ⟨a5, c5, rfl, _, _⟩ := hoA.lies; obtain ⟨b5, d5, rfl, _, _⟩ := hoB.lies; have hbx : But p W14 w5 := (by first | exact hb5 | exact ((But.refl p W14).drew).next hb5); have hh := HBW.out w5 (HB6.out.next (HB14.out.next hbx)); have t0 := (hh.cell (p := ⟨w.heap.size + 1, 0, none⟩) ls).trans S0.out; have t1 := (hh.cell (p := ⟨w.heap.size + 1, 1, none⟩) ls).trans S1.out; have HG5 := Lib.hid hG5; have HOA := Lib.hid (hoA.base (show bX ≤ W14.heap.size from Nat.le_of_lt (Array.getElem?_eq_some_iff.1 HQX.out).1)); have HOB := Lib.hid (hoB.base (show bX ≤ W14.heap.size from Nat.le_of_lt (Array.getElem?_eq_some_iff.1 HQX.out).1)); have HBX := Lib.hid hbx; have HD5 := Lib.hid hd5; have HK5 := Lib.hid hk5; clear hh hoA hoB hd5 hk5 hb5 hG5 hbx))
            all_goals go_wp2_with fail
            all_goals go_meet
            all_goals exact ⟨rfl, _, bX, A5, B5, _, _, _, _, _, _, k5, rfl, rfl, rfl, heap_alloc_new w5 _, HG5.out, rfl, rfl, hpX, HOA.out.below (belowNew w5 _), HOB.out.below (belowNew w5 _), HBX.out.next (But.of (belowNew w5 _)), HD5.out.below (belowNew w5 _), HK5.out⟩
          case rest =>
            obtain ⟨rfl, G, BG, A5, B5, a5, b5, c5, d5, N5, M5, k5, rfl, rfl, rfl, hG, hGB, hN5, hM5, hpBG, hoA, hoB, hbx, hd5, hk5⟩ := hcut
            have HDX := Lib.hid hd5
            have HK5 := Lib.hid hk5
            have HBX := Lib.hid hbx
            have HXB := Lib.hid (hbx.block bX (Array.getElem?_eq_some_iff.1 HQX.out).1 (by simp; omega) |>.trans HQX.out)
            have HCS := Lib.hid (fun i (hi : i < 2) => (show ∃ (sa bs : Option Addr) (cs ds NS MS : Nat) (S1 S2 : List Gn), wc.cell? ⟨G, i * 2, none⟩ = some (.slice sa NS cs) ∧ wc.cell? ⟨G, i * 2 + 1, none⟩ = some (.slice bs MS ds) ∧ (NS ≤ cs ∧ MS ≤ ds) ∧ NS = S1.length ∧ MS = S2.length ∧ GLies wc sa S1 ∧ GLies wc bs S2 ∧ (SmL S1 ∧ SmL S2) ∧ NS ≤ 1000 ∧ MS ≤ 1000 from by
              have e : ∀ j, wc.cell? ⟨G, j, none⟩ = #[Value.slice a1 NA c1, .slice a2 NB c2, .slice a5 N5 c5, .slice b5 M5 d5][j]? := fun j => Lib.cell_of_heap hG j
              have hh := HBW.out wc (HB6.out.next (HB14.out.next hbx))
              obtain rfl | rfl : i = 0 ∨ i = 1 := by omega
              · exact ⟨a1, a2, c1, c2, NA, NB, A, B, e 0, e 1, HCA.out, HNA.out, HNB.out, HA.out.below hh, HB.out.below hh, ⟨HSH.out.1.sm, HSH.out.2.sm⟩, by rw [HNA.out]; exact Nat.le_trans HSH.out.1.1 (by omega), by rw [HNB.out]; exact Nat.le_trans HSH.out.2.1 (by omega)⟩
              · obtain ⟨a', c', e1, hc1, hl1⟩ := hoA.lies
                obtain ⟨rfl, _, rfl⟩ := slice_inj e1
                obtain ⟨b', d', e2, hc2, hl2⟩ := hoB.lies
                obtain ⟨rfl, _, rfl⟩ := slice_inj e2
                exact ⟨a5, b5, c5, d5, N5, M5, A5, B5, e 2, e 3, ⟨by omega, by omega⟩, hN5, hM5, hl1, hl2, ⟨sm_gen hGB.2.2.2.1, sm_gen hGB.2.2.2.2⟩, by have := hGB.1; simp only at this; omega, by have := hGB.2.1; simp only at this; omega⟩))
            clear hd5 hk5 hbx hG hGB hN5 hM5 hoA hoB s0 s1 hpBG HD14
            obtain ⟨wk, hwk⟩ : ∃ wk, wk = wc := ⟨_, rfl⟩
            subst hwk
            go_wp2_with fail
            go_loopw [65] (fun i wr => ∃ i1 : Nat, i1 ≤ 2 ∧ i = .int .i64 (i1 : Int) ∧ Below wk.heap.size wk wr) (fun i _ => 2 - (intOf i).toNat)
            case atStart => exact ⟨0, Nat.zero_le _, rfl, Below.refl _ _⟩
            case round =>
              obtain ⟨wv, hwv⟩ : ∃ wv, wv = wr := ⟨_, rfl⟩
              subst hwv
              obtain ⟨i1, hi1, rfl, hb⟩ := hrel
              have HBV := Lib.hid hb
              clear hb
              by_cases hlt1 : i1 < 2
              · have hd1 : decide ((i1 : Int) < 2) = true := decide_eq_true (by omega)
                have HLT1 := Lib.hid hlt1
                obtain ⟨sa, bs, cs, ds, NS, MS, S1, S2, e0, e1, hcc, hNS, hMS, hl1, hl2, hsm, hz1', hz2'⟩ := HCS.out i1 hlt1
                have f0 := (HBV.out.cell (block_lt e0)).trans e0
                have f1 := (HBV.out.cell (block_lt e1)).trans e1
                have HSA := Lib.hid (hl1.below HBV.out)
                have HSB := Lib.hid (hl2.below HBV.out)
                have HCC := Lib.hid (And.intro hcc (And.intro hNS hMS))
                have HSM := Lib.hid (And.intro hsm (And.intro hz1' hz2'))
                clear e0 e1 hcc hNS hMS hl1 hl2 hsm hz1' hz2'
                go_upto_region 17 with (fail)
                clear f0 f1
                obtain ⟨wb, hwb⟩ : ∃ wb, wb = wv.alloc (.cells #[.slice sa NS cs, .slice bs MS ds] 27) := ⟨_, rfl⟩
                have hbb : Below wv.heap.size wv wb := by rw [hwb]; exact belowNew wv _
                rw [← hwb]
                obtain ⟨bS, hbS⟩ : ∃ bS, bS = wv.heap.size := ⟨_, rfl⟩
                have hqs : wb.heap[bS]? = some (.cells #[.slice sa NS cs, .slice bs MS ds] 27 (0, 0)) := by rw [hwb, hbS]; exact heap_alloc_new wv _
                rw [← hbS]
                have hbk := below_next HBV.out hbb
                have HBB := Lib.hid hbk
                obtain ⟨y0, y1, lS⟩ := two_facts hqs
                obtain ⟨x0, _, lX⟩ := one_facts ((hbk.block bX (Array.getElem?_eq_some_iff.1 HXB.out).1).trans HXB.out)
                have X1 := Lib.hid x0
                have Y0 := Lib.hid y0
                have Y1 := Lib.hid y1
                have hslx := HSX1.out wb (HBX.out.next (But.of hbk))
                have HSLX := Lib.hid hslx
                have HSA1 := Lib.hid (HSA.out.below hbb)
                have HSB1 := Lib.hid (HSB.out.below hbb)
                obtain ⟨ss, hss, hnews, hsub, hnil⟩ := slies_opt hslx
                have HSL := Lib.hid (hss.trans HNX.out.symm)
                have HNC := Lib.hid (fun e => And.intro (by rw [HNX.out, hnil e]; rfl) (HX0.out e) : ax = none → Nx = 0 ∧ cx = 0)
                have HNEWS := Lib.hid (fun V (hb : Below wb.heap.size wb V) ad e j u h => (hb.cell (World.block_lt_of_cell? wb _ (hnews ad e j u h))).trans (hnews ad e j u h))
                have HONE := Lib.hid (ss_one hss hsub)
                have hsv : SubV wb (.slice sa NS cs, .slice bs MS ds) (S1, S2) := ⟨sa, cs, bs, ds, by rw [HCC.out.2.1, HCC.out.2.2], ⟨by have := HCC.out.1.1; have := HCC.out.2.1; simp only; omega, HSA1.out⟩, by have := HCC.out.1.2; have := HCC.out.2.2; simp only; omega, HSB1.out⟩
                have HSUB := Lib.hid (fun V (hb : Below wb.heap.size wb V) i (hi : i < (Lx ++ [(S1, S2)]).length) => (subv_snoc hss hsub hsv i hi).below hb)
                clear hslx hss hnews hsub hnil hsv hqs hwb hbS hbb hbk HSA HSB
                have na0 : ¬ bX = wb.heap.size := (by omega)
                have na0' : ¬ wb.heap.size = bX := (by omega)
                have nb0 : ¬ bS = wb.heap.size := (by omega)
                have nb0' : ¬ wb.heap.size = bS := (by omega)
                have nc0 : ¬ bX = wb.heap.size + 1 := (by omega)
                have nc0' : ¬ wb.heap.size + 1 = bX := (by omega)
                have nd0 : ¬ bS = wb.heap.size + 1 := (by omega)
                have nd0' : ¬ wb.heap.size + 1 = bS := (by omega)
                go_cut [17, 65] from 65 to 82 (fun s17 s65 wx => s65 = .int .i64 (i1 : Int) ∧ ∃ (q : Nat) (a6 : Option Addr) (c6 : Nat), s17 = .pointer (some ⟨q, 0, none⟩) ∧ Want wb wx q a6 c6 (Nx + 1) (Lx ++ [(S1, S2)]))
                case first =>
                  go_region_held3 (fun w' => w'.cell? ⟨bX, 0, none⟩ = some (.slice ax Nx cx) ∧ w'.cell? ⟨bS, 0, none⟩ = some (.slice sa NS cs) ∧ w'.cell? ⟨bS, 1, none⟩ = some (.slice bs MS ds)) (first | exact ⟨by assumption, by assumption, by assumption⟩ | go_keep)
                    (first
                      | (refine step_append_x rfl (.const (.slice none 0 0)) (.tmp 70) 22 rfl wb.heap.size 27 i0 (.agg #[.slice none 0 0, .slice none 0 0]) 2 48 Tryz.underlying22 hi hz0 hz1 hz2 rfl (by decide) (by simp [Act.eval]) ax Nx cx (ssCells ss) (by simp [Act.eval]) HNC.out (by rw [ssCells_length, HSL.out]) (HNEWS.out _ (by first | exact (Below.refl _ _).drew | exact (belowNew _ _).drew | exact (belowTwo _ _ _).drew | exact Below.refl _ _ | exact belowNew _ _ | exact belowTwo _ _ _)) HONE.out (by have := HN6.out; unfold maxLen; omega) (by have := HN6.out; omega) (by simp <;> omega) ?_; intro v1 w1 ho1 hg1; have hba : Below wb.heap.size wb w1 := grown_none (by first | exact (Below.refl _ _).drew | exact (belowNew _ _).drew | exact (belowTwo _ _ _).drew | exact Below.refl _ _ | exact belowNew _ _ | exact belowTwo _ _ _) hg1 (by simp <;> omega); have c0 := (hba.cell (p := ⟨bX, 0, none⟩) lX).trans X1.out; have c1 := (hba.cell (p := ⟨bS, 0, none⟩) lS).trans Y0.out; have c2 := (hba.cell (p := ⟨bS, 1, none⟩) lS).trans Y1.out;have hl1 : bX < w1.heap.size := Nat.lt_of_lt_of_le lX hba.size; have hm1 : bS < w1.heap.size := Nat.lt_of_lt_of_le lS hba.size; have na1 : ¬ bX = w1.heap.size := (by omega); have na1' : ¬ w1.heap.size = bX := (by omega); have nb1 : ¬ bS = w1.heap.size := (by omega); have nb1' : ¬ w1.heap.size = bS := (by omega); have nc1 : ¬ bX = w1.heap.size + 1 := (by omega); have nc1' : ¬ w1.heap.size + 1 = bX := (by omega); have nd1 : ¬ bS = w1.heap.size + 1 := (by omega); have nd1' : ¬ w1.heap.size + 1 = bS := (by omega); (try (have hq : w1.heap[wb.heap.size]? = some (.cells #[.slice none 0 0] 24 (0, 0)) := (hg1.block _ (by simp <;> omega) (by simp)).trans (by first | exact heap_alloc_new wb _ | exact (heap_first wb _ _).trans (heap_alloc_new wb _)); have HZ0 := Lib.hid hq; clear hq)); (try (have hq : w1.heap[wb.heap.size + 1]? = some (.cells #[.slice none 0 0] 24 (0, 0)) := (hg1.block _ (by simp <;> omega) (by simp)).trans (by exact heap_second wb _ _ _); have HZ1 := Lib.hid hq; clear hq)); (try (have hq : w1.heap[wb.heap.size]? = some (.cells #[.slice sa NS cs, .slice bs MS ds] 27 (0, 0)) := (hg1.block _ (by simp <;> omega) (by simp)).trans (by first | exact heap_alloc_new wb _ | exact (heap_first wb _ _).trans (heap_alloc_new wb _)); have HS0 := Lib.hid hq; clear hq)); (try (have hq : w1.heap[wb.heap.size + 1]? = some (.cells #[.slice sa NS cs, .slice bs MS ds] 27 (0, 0)) := (hg1.block _ (by simp <;> omega) (by simp)).trans (by exact heap_second wb _ _ _); have HS1 := Lib.hid hq; clear hq)); have HO1 := Lib.hid ho1; have HB1 := Lib.hid hba; clear ho1 hg1 hba)
                      | (refine step_append_s rfl (.tmp 71) (.tmp 73) 22 rfl wb.heap.size 27 i0 (.agg #[.slice none 0 0, .slice none 0 0]) 2 48 Tryz.underlying22 hi hz0 hz1 hz2 rfl (by decide) v1 Nx (ssCells ss) (by simp [Act.eval]) (own_below HO1.out (by first | exact (Below.refl _ _).drew | exact (belowNew _ _).drew | exact (belowTwo _ _ _).drew | exact Below.refl _ _ | exact belowNew _ _ | exact belowTwo _ _ _)) ⟨w1.heap.size, 0, none⟩ 1 1 (sCells (.slice sa NS cs, .slice bs MS ds)) (by simp [Act.eval]) rfl (row_news_s (by first | exact heap_alloc_new w1 _ | exact (heap_first w1 _ _).trans (heap_alloc_new w1 _))) (sCells_one _ _ _ _ _ _) (by have := HN6.out; unfold maxLen; omega) (by have := HN6.out; omega) (by have := HB1.out.size; simp <;> omega) ?_; intro v2 w2 ho2 hg2; have hba : Below wb.heap.size wb w2 := (below_next HB1.out (by first | exact (Below.refl _ _).drew | exact (belowNew _ _).drew | exact (belowTwo _ _ _).drew | exact Below.refl _ _ | exact belowNew _ _ | exact belowTwo _ _ _)).grown hg2 (by have := HB1.out.size; simp <;> omega) (fun j e => (World.ownsRow.lt HO1.out j e).1); have c0 := (hba.cell (p := ⟨bX, 0, none⟩) lX).trans X1.out; have c1 := (hba.cell (p := ⟨bS, 0, none⟩) lS).trans Y0.out; have c2 := (hba.cell (p := ⟨bS, 1, none⟩) lS).trans Y1.out;have hl2 : bX < w2.heap.size := Nat.lt_of_lt_of_le lX hba.size; have hm2 : bS < w2.heap.size := Nat.lt_of_lt_of_le lS hba.size; have na2 : ¬ bX = w2.heap.size := (by omega); have na2' : ¬ w2.heap.size = bX := (by omega); have nb2 : ¬ bS = w2.heap.size := (by omega); have nb2' : ¬ w2.heap.size = bS := (by omega); have nc2 : ¬ bX = w2.heap.size + 1 := (by omega); have nc2' : ¬ w2.heap.size + 1 = bX := (by omega); have nd2 : ¬ bS = w2.heap.size + 1 := (by omega); have nd2' : ¬ w2.heap.size + 1 = bS := (by omega); (try (have hq : w2.heap[w1.heap.size]? = some (.cells #[.slice none 0 0] 24 (0, 0)) := zkeep hg2 (own_below HO1.out (by first | exact (Below.refl _ _).drew | exact (belowNew _ _).drew | exact (belowTwo _ _ _).drew | exact Below.refl _ _ | exact belowNew _ _ | exact belowTwo _ _ _)) (by first | exact heap_alloc_new w1 _ | exact (heap_first w1 _ _).trans (heap_alloc_new w1 _)) (by decide); obtain ⟨z0, z1, z2⟩ := one_facts hq; have HZ2 := Lib.hid hq; clear hq)); (try (have hq : w2.heap[w1.heap.size + 1]? = some (.cells #[.slice none 0 0] 24 (0, 0)) := zkeep hg2 (own_below HO1.out (by first | exact (Below.refl _ _).drew | exact (belowNew _ _).drew | exact (belowTwo _ _ _).drew | exact Below.refl _ _ | exact belowNew _ _ | exact belowTwo _ _ _)) (heap_second w1 _ _ _) (by decide); obtain ⟨z0, z1, z2⟩ := one_facts hq; have HZ3 := Lib.hid hq; clear hq)); (try (have hq : w2.heap[wb.heap.size]? = some (.cells #[.slice none 0 0] 24 (0, 0)) := zkeep hg2 (own_below HO1.out (by first | exact (Below.refl _ _).drew | exact (belowNew _ _).drew | exact (belowTwo _ _ _).drew | exact Below.refl _ _ | exact belowNew _ _ | exact belowTwo _ _ _)) (by first | exact HZ0.out | exact ((belowNew w1 _).block _ (Array.getElem?_eq_some_iff.1 HZ0.out).1).trans HZ0.out) (by decide); obtain ⟨z0, z1, z2⟩ := one_facts hq; have HZ4 := Lib.hid hq; clear hq)); (try (have hq : w2.heap[wb.heap.size + 1]? = some (.cells #[.slice none 0 0] 24 (0, 0)) := zkeep hg2 (own_below HO1.out (by first | exact (Below.refl _ _).drew | exact (belowNew _ _).drew | exact (belowTwo _ _ _).drew | exact Below.refl _ _ | exact belowNew _ _ | exact belowTwo _ _ _)) (by first | exact HZ1.out | exact ((belowNew w1 _).block _ (Array.getElem?_eq_some_iff.1 HZ1.out).1).trans HZ1.out) (by decide); obtain ⟨z0, z1, z2⟩ := one_facts hq; have HZ5 := Lib.hid hq; clear hq)); rw [← ssCells_snoc] at ho2; obtain ⟨a6, c6, rfl, _, hl6⟩ := slies_row (l := Lx ++ [(S1, S2)]) (by simp [HSL.out, HNX.out]) (by simp [HNX.out]) ho2 (HSUB.out _ hba); have HL6 := Lib.hid hl6; have HO2 := Lib.hid ho2; have HB2 := Lib.hid hba; clear hl6 ho2 hg2 hba)
                      | (refine step_append_s rfl (.tmp 71) (.tmp 73) 22 rfl wb.heap.size 27 i0 (.agg #[.slice none 0 0, .slice none 0 0]) 2 48 Tryz.underlying22 hi hz0 hz1 hz2 rfl (by decide) v1 Nx (ssCells ss) (by simp [Act.eval]) (own_below HO1.out (by first | exact (Below.refl _ _).drew | exact (belowNew _ _).drew | exact (belowTwo _ _ _).drew | exact Below.refl _ _ | exact belowNew _ _ | exact belowTwo _ _ _)) ⟨w1.heap.size + 1, 0, none⟩ 1 1 (sCells (.slice sa NS cs, .slice bs MS ds)) (by simp [Act.eval]) rfl (row_news_s (heap_second w1 _ _ _)) (sCells_one _ _ _ _ _ _) (by have := HN6.out; unfold maxLen; omega) (by have := HN6.out; omega) (by have := HB1.out.size; simp <;> omega) ?_; intro v2 w2 ho2 hg2; have hba : Below wb.heap.size wb w2 := (below_next HB1.out (by first | exact (Below.refl _ _).drew | exact (belowNew _ _).drew | exact (belowTwo _ _ _).drew | exact Below.refl _ _ | exact belowNew _ _ | exact belowTwo _ _ _)).grown hg2 (by have := HB1.out.size; simp <;> omega) (fun j e => (World.ownsRow.lt HO1.out j e).1); have c0 := (hba.cell (p := ⟨bX, 0, none⟩) lX).trans X1.out; have c1 := (hba.cell (p := ⟨bS, 0, none⟩) lS).trans Y0.out; have c2 := (hba.cell (p := ⟨bS, 1, none⟩) lS).trans Y1.out;have hl2 : bX < w2.heap.size := Nat.lt_of_lt_of_le lX hba.size; have hm2 : bS < w2.heap.size := Nat.lt_of_lt_of_le lS hba.size; have na2 : ¬ bX = w2.heap.size := (by omega); have na2' : ¬ w2.heap.size = bX := (by omega); have nb2 : ¬ bS = w2.heap.size := (by omega); have nb2' : ¬ w2.heap.size = bS := (by omega); have nc2 : ¬ bX = w2.heap.size + 1 := (by omega); have nc2' : ¬ w2.heap.size + 1 = bX := (by omega); have nd2 : ¬ bS = w2.heap.size + 1 := (by omega); have nd2' : ¬ w2.heap.size + 1 = bS := (by omega); (try (have hq : w2.heap[w1.heap.size]? = some (.cells #[.slice none 0 0] 24 (0, 0)) := zkeep hg2 (own_below HO1.out (by first | exact (Below.refl _ _).drew | exact (belowNew _ _).drew | exact (belowTwo _ _ _).drew | exact Below.refl _ _ | exact belowNew _ _ | exact belowTwo _ _ _)) (by first | exact heap_alloc_new w1 _ | exact (heap_first w1 _ _).trans (heap_alloc_new w1 _)) (by decide); obtain ⟨z0, z1, z2⟩ := one_facts hq; have HZ2 := Lib.hid hq; clear hq)); (try (have hq : w2.heap[w1.heap.size + 1]? = some (.cells #[.slice none 0 0] 24 (0, 0)) := zkeep hg2 (own_below HO1.out (by first | exact (Below.refl _ _).drew | exact (belowNew _ _).drew | exact (belowTwo _ _ _).drew | exact Below.refl _ _ | exact belowNew _ _ | exact belowTwo _ _ _)) (heap_second w1 _ _ _) (by decide); obtain ⟨z0, z1, z2⟩ := one_facts hq; have HZ3 := Lib.hid hq; clear hq)); (try (have hq : w2.heap[wb.heap.size]? = some (.cells #[.slice none 0 0] 24 (0, 0)) := zkeep hg2 (own_below HO1.out (by first | exact (Below.refl _ _).drew | exact (belowNew _ _).drew | exact (belowTwo _ _ _).drew | exact Below.refl _ _ | exact belowNew _ _ | exact belowTwo _ _ _)) (by first | exact HZ0.out | exact ((belowNew w1 _).block _ (Array.getElem?_eq_some_iff.1 HZ0.out).1).trans HZ0.out) (by decide); obtain ⟨z0, z1, z2⟩ := one_facts hq; have HZ4 := Lib.hid hq; clear hq)); (try (have hq : w2.heap[wb.heap.size + 1]? = some (.cells #[.slice none 0 0] 24 (0, 0)) := zkeep hg2 (own_below HO1.out (by first | exact (Below.refl _ _).drew | exact (belowNew _ _).drew | exact (belowTwo _ _ _).drew | exact Below.refl _ _ | exact belowNew _ _ | exact belowTwo _ _ _)) (by first | exact HZ1.out | exact ((belowNew w1 _).block _ (Array.getElem?_eq_some_iff.1 HZ1.out).1).trans HZ1.out) (by decide); obtain ⟨z0, z1, z2⟩ := one_facts hq; have HZ5 := Lib.hid hq; clear hq)); rw [← ssCells_snoc] at ho2; obtain ⟨a6, c6, rfl, _, hl6⟩ := slies_row (l := Lx ++ [(S1, S2)]) (by simp [HSL.out, HNX.out]) (by simp [HNX.out]) ho2 (HSUB.out _ hba); have HL6 := Lib.hid hl6; have HO2 := Lib.hid ho2; have HB2 := Lib.hid hba; clear hl6 ho2 hg2 hba)
                      | (refine step_append_s rfl (.tmp 71) (.tmp 73) 22 rfl wb.heap.size 27 i0 (.agg #[.slice none 0 0, .slice none 0 0]) 2 48 Tryz.underlying22 hi hz0 hz1 hz2 rfl (by decide) v1 Nx (ssCells ss) (by simp [Act.eval]) (own_below HO1.out (by first | exact (Below.refl _ _).drew | exact (belowNew _ _).drew | exact (belowTwo _ _ _).drew | exact Below.refl _ _ | exact belowNew _ _ | exact belowTwo _ _ _)) ⟨wb.heap.size, 0, none⟩ 1 1 (sCells (.slice sa NS cs, .slice bs MS ds)) (by simp [Act.eval]) rfl (row_news_s (by first | exact HS0.out | exact ((belowNew w1 _).block _ (Array.getElem?_eq_some_iff.1 HS0.out).1).trans HS0.out)) (sCells_one _ _ _ _ _ _) (by have := HN6.out; unfold maxLen; omega) (by have := HN6.out; omega) (by have := HB1.out.size; simp <;> omega) ?_; intro v2 w2 ho2 hg2; have hba : Below wb.heap.size wb w2 := (below_next HB1.out (by first | exact (Below.refl _ _).drew | exact (belowNew _ _).drew | exact (belowTwo _ _ _).drew | exact Below.refl _ _ | exact belowNew _ _ | exact belowTwo _ _ _)).grown hg2 (by have := HB1.out.size; simp <;> omega) (fun j e => (World.ownsRow.lt HO1.out j e).1); have c0 := (hba.cell (p := ⟨bX, 0, none⟩) lX).trans X1.out; have c1 := (hba.cell (p := ⟨bS, 0, none⟩) lS).trans Y0.out; have c2 := (hba.cell (p := ⟨bS, 1, none⟩) lS).trans Y1.out;have hl2 : bX < w2.heap.size := Nat.lt_of_lt_of_le lX hba.size; have hm2 : bS < w2.heap.size := Nat.lt_of_lt_of_le lS hba.size; have na2 : ¬ bX = w2.heap.size := (by omega); have na2' : ¬ w2.heap.size = bX := (by omega); have nb2 : ¬ bS = w2.heap.size := (by omega); have nb2' : ¬ w2.heap.size = bS := (by omega); have nc2 : ¬ bX = w2.heap.size + 1 := (by omega); have nc2' : ¬ w2.heap.size + 1 = bX := (by omega); have nd2 : ¬ bS = w2.heap.size + 1 := (by omega); have nd2' : ¬ w2.heap.size + 1 = bS := (by omega); (try (have hq : w2.heap[w1.heap.size]? = some (.cells #[.slice none 0 0] 24 (0, 0)) := zkeep hg2 (own_below HO1.out (by first | exact (Below.refl _ _).drew | exact (belowNew _ _).drew | exact (belowTwo _ _ _).drew | exact Below.refl _ _ | exact belowNew _ _ | exact belowTwo _ _ _)) (by first | exact heap_alloc_new w1 _ | exact (heap_first w1 _ _).trans (heap_alloc_new w1 _)) (by decide); obtain ⟨z0, z1, z2⟩ := one_facts hq; have HZ2 := Lib.hid hq; clear hq)); (try (have hq : w2.heap[w1.heap.size + 1]? = some (.cells #[.slice none 0 0] 24 (0, 0)) := zkeep hg2 (own_below HO1.out (by first | exact (Below.refl _ _).drew | exact (belowNew _ _).drew | exact (belowTwo _ _ _).drew | exact Below.refl _ _ | exact belowNew _ _ | exact belowTwo _ _ _)) (heap_second w1 _ _ _) (by decide); obtain ⟨z0, z1, z2⟩ := one_facts hq; have HZ3 := Lib.hid hq; clear hq)); (try (have hq : w2.heap[wb.heap.size]? = some (.cells #[.slice none 0 0] 24 (0, 0)) := zkeep hg2 (own_below HO1.out (by first | exact (Below.refl _ _).drew | exact (belowNew _ _).drew | exact (belowTwo _ _ _).drew | exact Below.refl _ _ | exact belowNew _ _ | exact belowTwo _ _ _)) (by first | exact HZ0.out | exact ((belowNew w1 _).block _ (Array.getElem?_eq_some_iff.1 HZ0.out).1).trans HZ0.out) (by decide); obtain ⟨z0, z1, z2⟩ := one_facts hq; have HZ4 := Lib.hid hq; clear hq)); (try (have hq : w2.heap[wb.heap.size + 1]? = some (.cells #[.slice none 0 0] 24 (0, 0)) := zkeep hg2 (own_below HO1.out (by first | exact (Below.refl _ _).drew | exact (belowNew _ _).drew | exact (belowTwo _ _ _).drew | exact Below.refl _ _ | exact belowNew _ _ | exact belowTwo _ _ _)) (by first | exact HZ1.out | exact ((belowNew w1 _).block _ (Array.getElem?_eq_some_iff.1 HZ1.out).1).trans HZ1.out) (by decide); obtain ⟨z0, z1, z2⟩ := one_facts hq; have HZ5 := Lib.hid hq; clear hq)); rw [← ssCells_snoc] at ho2; obtain ⟨a6, c6, rfl, _, hl6⟩ := slies_row (l := Lx ++ [(S1, S2)]) (by simp [HSL.out, HNX.out]) (by simp [HNX.out]) ho2 (HSUB.out _ hba); have HL6 := Lib.hid hl6; have HO2 := Lib.hid ho2; have HB2 := Lib.hid hba; clear hl6 ho2 hg2 hba)
                      | (refine step_append_s rfl (.tmp 71) (.tmp 73) 22 rfl wb.heap.size 27 i0 (.agg #[.slice none 0 0, .slice none 0 0]) 2 48 Tryz.underlying22 hi hz0 hz1 hz2 rfl (by decide) v1 Nx (ssCells ss) (by simp [Act.eval]) (own_below HO1.out (by first | exact (Below.refl _ _).drew | exact (belowNew _ _).drew | exact (belowTwo _ _ _).drew | exact Below.refl _ _ | exact belowNew _ _ | exact belowTwo _ _ _)) ⟨wb.heap.size + 1, 0, none⟩ 1 1 (sCells (.slice sa NS cs, .slice bs MS ds)) (by simp [Act.eval]) rfl (row_news_s (by first | exact HS1.out | exact ((belowNew w1 _).block _ (Array.getElem?_eq_some_iff.1 HS1.out).1).trans HS1.out)) (sCells_one _ _ _ _ _ _) (by have := HN6.out; unfold maxLen; omega) (by have := HN6.out; omega) (by have := HB1.out.size; simp <;> omega) ?_; intro v2 w2 ho2 hg2; have hba : Below wb.heap.size wb w2 := (below_next HB1.out (by first | exact (Below.refl _ _).drew | exact (belowNew _ _).drew | exact (belowTwo _ _ _).drew | exact Below.refl _ _ | exact belowNew _ _ | exact belowTwo _ _ _)).grown hg2 (by have := HB1.out.size; simp <;> omega) (fun j e => (World.ownsRow.lt HO1.out j e).1); have c0 := (hba.cell (p := ⟨bX, 0, none⟩) lX).trans X1.out; have c1 := (hba.cell (p := ⟨bS, 0, none⟩) lS).trans Y0.out; have c2 := (hba.cell (p := ⟨bS, 1, none⟩) lS).trans Y1.out;have hl2 : bX < w2.heap.size := Nat.lt_of_lt_of_le lX hba.size; have hm2 : bS < w2.heap.size := Nat.lt_of_lt_of_le lS hba.size; have na2 : ¬ bX = w2.heap.size := (by omega); have na2' : ¬ w2.heap.size = bX := (by omega); have nb2 : ¬ bS = w2.heap.size := (by omega); have nb2' : ¬ w2.heap.size = bS := (by omega); have nc2 : ¬ bX = w2.heap.size + 1 := (by omega); have nc2' : ¬ w2.heap.size + 1 = bX := (by omega); have nd2 : ¬ bS = w2.heap.size + 1 := (by omega); have nd2' : ¬ w2.heap.size + 1 = bS := (by omega); (try (have hq : w2.heap[w1.heap.size]? = some (.cells #[.slice none 0 0] 24 (0, 0)) := zkeep hg2 (own_below HO1.out (by first | exact (Below.refl _ _).drew | exact (belowNew _ _).drew | exact (belowTwo _ _ _).drew | exact Below.refl _ _ | exact belowNew _ _ | exact belowTwo _ _ _)) (by first | exact heap_alloc_new w1 _ | exact (heap_first w1 _ _).trans (heap_alloc_new w1 _)) (by decide); obtain ⟨z0, z1, z2⟩ := one_facts hq; have HZ2 := Lib.hid hq; clear hq)); (try (have hq : w2.heap[w1.heap.size + 1]? = some (.cells #[.slice none 0 0] 24 (0, 0)) := zkeep hg2 (own_below HO1.out (by first | exact (Below.refl _ _).drew | exact (belowNew _ _).drew | exact (belowTwo _ _ _).drew | exact Below.refl _ _ | exact belowNew _ _ | exact belowTwo _ _ _)) (heap_second w1 _ _ _) (by decide); obtain ⟨z0, z1, z2⟩ := one_facts hq; have HZ3 := Lib.hid hq; clear hq)); (try (have hq : w2.heap[wb.heap.size]? = some (.cells #[.slice none 0 0] 24 (0, 0)) := zkeep hg2 (own_below HO1.out (by first | exact (Below.refl _ _).drew | exact (belowNew _ _).drew | exact (belowTwo _ _ _).drew | exact Below.refl _ _ | exact belowNew _ _ | exact belowTwo _ _ _)) (by first | exact HZ0.out | exact ((belowNew w1 _).block _ (Array.getElem?_eq_some_iff.1 HZ0.out).1).trans HZ0.out) (by decide); obtain ⟨z0, z1, z2⟩ := one_facts hq; have HZ4 := Lib.hid hq; clear hq)); (try (have hq : w2.heap[wb.heap.size + 1]? = some (.cells #[.slice none 0 0] 24 (0, 0)) := zkeep hg2 (own_below HO1.out (by first | exact (Below.refl _ _).drew | exact (belowNew _ _).drew | exact (belowTwo _ _ _).drew | exact Below.refl _ _ | exact belowNew _ _ | exact belowTwo _ _ _)) (by first | exact HZ1.out | exact ((belowNew w1 _).block _ (Array.getElem?_eq_some_iff.1 HZ1.out).1).trans HZ1.out) (by decide); obtain ⟨z0, z1, z2⟩ := one_facts hq; have HZ5 := Lib.hid hq; clear hq)); rw [← ssCells_snoc] at ho2; obtain ⟨a6, c6, rfl, _, hl6⟩ := slies_row (l := Lx ++ [(S1, S2)]) (by simp [HSL.out, HNX.out]) (by simp [HNX.out]) ho2 (HSUB.out _ hba); have HL6 := Lib.hid hl6; have HO2 := Lib.hid ho2; have HB2 := Lib.hid hba; clear hl6 ho2 hg2 hba))
                  all_goals go_wp2_with fail
                  all_goals go_meet
                  all_goals first
                    | exact ⟨rfl, _, a6, c6, rfl, want_new HL6.out HB2.out⟩
                    | exact ⟨rfl, _, a6, c6, rfl, want_set (by rw [List.length_append, List.length_append, HSL.out, ← HNX.out]; rfl) (by rw [List.length_append, ← HNX.out]; rfl) HO2.out HZ2.out HB1.out.size HB2.out HSUB.out⟩
                    | exact ⟨rfl, _, a6, c6, rfl, want_set (by rw [List.length_append, List.length_append, HSL.out, ← HNX.out]; rfl) (by rw [List.length_append, ← HNX.out]; rfl) HO2.out HZ3.out (Nat.le_succ_of_le HB1.out.size) HB2.out HSUB.out⟩
                    | exact ⟨rfl, _, a6, c6, rfl, want_set (by rw [List.length_append, List.length_append, HSL.out, ← HNX.out]; rfl) (by rw [List.length_append, ← HNX.out]; rfl) HO2.out HZ4.out (Nat.le_refl _) HB2.out HSUB.out⟩
                    | exact ⟨rfl, _, a6, c6, rfl, want_set (by rw [List.length_append, List.length_append, HSL.out, ← HNX.out]; rfl) (by rw [List.length_append, ← HNX.out]; rfl) HO2.out HZ5.out (Nat.le_succ _) HB2.out HSUB.out⟩
                case rest =>
                  obtain ⟨rfl, q7, a6, c6, rfl, hq7, hl7, hb7⟩ := hcut
                  obtain ⟨wd, hwd⟩ : ∃ wd, wd = wc := ⟨_, rfl⟩
                  subst hwd
                  have x1 := (hb7.cell (p := ⟨bX, 0, none⟩) lX).trans X1.out
                  have y2 := (hb7.cell (p := ⟨bS, 0, none⟩) lS).trans Y0.out
                  have y3 := (hb7.cell (p := ⟨bS, 1, none⟩) lS).trans Y1.out
                  obtain ⟨z0, _, lz⟩ := one_facts hq7
                  have Z0 := Lib.hid z0
                  have lX7 : bX < wd.heap.size := Nat.lt_of_lt_of_le lX hb7.size
                  have lS7 : bS < wd.heap.size := Nat.lt_of_lt_of_le lS hb7.size
                  have X2 := Lib.hid x1
                  have Y2 := Lib.hid y2
                  have Y3 := Lib.hid y3
                  have HB7 := Lib.hid (below_next HBB.out hb7)
                  have HL7 := Lib.hid hl7
                  have HOKS := Lib.hid (OkS.snoc (s := (S1, S2)) HOX.out (by rw [← HNX.out]; have := HN6.out; omega) HSM.out.1.1 HSM.out.1.2 (by have := HCC.out.2.1; have := HSM.out.2.1; simp only; omega) (by have := HCC.out.2.2; have := HSM.out.2.2; simp only; omega))
                  have HADD := Lib.hid (fun W (hb : Below wd.heap.size wd W) => add_core ax sa bs cx Nx cs ds NS MS Lx S1 S2 W ((HSLX.out.below hb7).below hb) HNX.out HOX.out (by have := HN6.out; omega) ((HSA1.out.below hb7).below hb) ((HSB1.out.below hb7).below hb) HCC.out.2.1 HCC.out.2.2 (by have := HSM.out.2.1; omega) (by have := HSM.out.2.2; omega) HSM.out.1.1 HSM.out.1.2)
                  clear x0 y0 y1 hq7 hl7 hb7 HSLX HSA1 HSB1 HNC HNEWS HONE HSUB HSL hi hz0 hz1 hz2
                  go_wp2_with fail
                  go_region_held3 (fun w' => w'.cell? ⟨bX, 0, none⟩ = some (.slice ax Nx cx) ∧ w'.cell? ⟨bS, 0, none⟩ = some (.slice sa NS cs) ∧ w'.cell? ⟨bS, 1, none⟩ = some (.slice bs MS ds) ∧ w'.cell? ⟨q7, 0, none⟩ = some (.slice a6 (Nx + 1) c6)) (first | exact ⟨by assumption, by assumption, by assumption, by assumption⟩ | go_keep)
                    (first
                      | (go_at_call 14; (with_reducible refine (HADD.out _ (by first | exact Below.refl _ _ | exact (Below.refl _ _).drew)).mono ?_); rintro e w5 ⟨vv, rfl, ho5, hb5⟩; obtain ⟨a9, c9, hv5, _, _⟩ := ho5.lies; rw [List.length_append, List.length_singleton, ← HNX.out] at hv5; subst hv5; have hbx : Below wd.heap.size wd w5 := (by first | exact hb5 | exact (Below.refl _ _).drew.trans hb5); have d0 := (hbx.cell (p := ⟨bX, 0, none⟩) lX7).trans X2.out; have d1 := (hbx.cell (p := ⟨bS, 0, none⟩) lS7).trans Y2.out; have d2 := (hbx.cell (p := ⟨bS, 1, none⟩) lS7).trans Y3.out; have d3 := (hbx.cell (p := ⟨q7, 0, none⟩) lz).trans Z0.out; have HBX5 := Lib.hid hbx; have HSAM := Lib.hid (fun W (hb : Below w5.heap.size w5 W) => samestate_core a9 a6 c9 c6 (Nx + 1) (Lx ++ [(S1, S2)]) W (lies_of (ho5.below hb)) ((HL7.out.below hbx).below hb) (by rw [List.length_append, ← HNX.out]; rfl) HOKS.out); clear ho5 hb5 hbx)
                      | (go_at_call 13; (with_reducible refine (HSAM.out _ (by first | exact Below.refl _ _ | exact (Below.refl _ _).drew)).mono ?_); rintro e w6 ⟨rfl, hb6⟩; have hbx : Below wd.heap.size wd w6 := below_next HBX5.out hb6; have d4 := (hbx.cell (p := ⟨bX, 0, none⟩) lX7).trans X2.out; have d5 := (hbx.cell (p := ⟨bS, 0, none⟩) lS7).trans Y2.out; have d6 := (hbx.cell (p := ⟨bS, 1, none⟩) lS7).trans Y3.out; have d7 := (hbx.cell (p := ⟨q7, 0, none⟩) lz).trans Z0.out; have HBX6 := Lib.hid hbx; clear hb6 hbx))
                  all_goals
                    go_wp2_with fail
                    go_roundw
                    case rel => exact ⟨i1 + 1, by have := HLT1.out; omega, by go_num, below_next HB7.out HBX6.out⟩
                    case measure => have := HLT1.out; simp [intOf]; omega
              · have hd1 : decide ((i1 : Int) < 2) = false := decide_eq_false (by omega)
                clear hlt1 hi1 hi hz0 hz1 hz2 HCS
                go_upto_region 21 with (fail)
                clear hd1
                have HD21 := Lib.hid (HDX.out.below HBV.out)
                have HB21 := Lib.hid (HBX.out.next (But.of HBV.out))
                have HBP := Lib.hid (But.refl p wv)
                have hh := HBW.out wv (HB6.out.next (HB14.out.next HB21.out))
                have g0 := (hh.cell (p := ⟨w.heap.size + 2, 0, none⟩) lg).trans G0.out
                have g1 := (hh.cell (p := ⟨w.heap.size + 2, 1, none⟩) lg).trans G1.out
                have g2 := (hh.cell (p := ⟨w.heap.size + 2, 2, none⟩) lg).trans G2.out
                have HG21 := Lib.hid (fun V (h : But p wv V) => HG.out.below (HBW.out V (HB6.out.next (HB14.out.next (HB21.out.next h)))))
                have HSMG := Lib.hid (show SmG (q, t, n) from ⟨Nat.le_trans HSG.out.1 (by omega), ShN.small HSG.out.2⟩)
                have lXv : bX < wv.heap.size := Nat.lt_of_lt_of_le (Array.getElem?_eq_some_iff.1 HQX.out).1 HB21.out.size
                clear hh HDX HBX HBV HXB
                go_cut [56, 90, 91, 92] from 56 to 104 (fun s56 s90 s91 s92 wx => s56 = .int .i64 (j : Int) ∧ ∃ (G k6 : Nat), s90 = .slice (some ⟨G, 0, none⟩) 4 4 ∧ s91 = .int .i64 4 ∧ s92 = .int .i64 0 ∧ But p wv wx ∧ DeckAt wx p al cl zs k6 ∧ k6 ≤ k5 + 36 ∧ ∀ i, i < 4 → ∃ (q7 : Int) (t7 : List UInt8) (a7 : Option Addr) (c7 N7 : Nat) (n7 : Nm), wx.cell? ⟨G, i * 3, none⟩ = some (.int .i64 q7) ∧ wx.cell? ⟨G, i * 3 + 1, none⟩ = some (.string (strOf t7)) ∧ wx.cell? ⟨G, i * 3 + 2, none⟩ = some (.slice a7 N7 c7) ∧ RLies wx a7 n7 ∧ N7 = n7.length ∧ N7 ≤ c7 ∧ SmG (q7, t7, n7))
                case first =>
                  go_region_held3 (fun w' => w'.cell? ⟨w.heap.size + 2, 0, none⟩ = some (.int .i64 q) ∧ w'.cell? ⟨w.heap.size + 2, 1, none⟩ = some (.string (strOf t)) ∧ w'.cell? ⟨w.heap.size + 2, 2, none⟩ = some (.slice ag NG cg)) (first | exact ⟨by assumption, by assumption, by assumption⟩ | go_keep)
                    (first
                      | (go_at_call 15; (with_reducible refine (general_any p al cl zs k5 _ (by first | exact HD21.out | exact deck_up_s HD21.out) (by have := HK5.out; have := HK5.out; have := HK2.out; omega)).mono ?_); rintro e u1 ⟨q1, t1, s1, m1, k19, hG1, rfl, hso, hd1, hk19, hbb1⟩; obtain ⟨e1, f1, rfl, hc1, _⟩ := hso.lies; have hbx : But p wv u1 := (by first | exact hbb1 | exact ((But.refl p wv).drew).next hbb1); have hbw := HBP.out.next hbx; have hh := HBW.out u1 (HB6.out.next (HB14.out.next (HB21.out.next hbw))); have c10 := (hh.cell (p := ⟨w.heap.size + 2, 0, none⟩) lg).trans G0.out; have c11 := (hh.cell (p := ⟨w.heap.size + 2, 1, none⟩) lg).trans G1.out; have c12 := (hh.cell (p := ⟨w.heap.size + 2, 2, none⟩) lg).trans G2.out; have hln := gen_len hG1; have HF1 := Lib.hid (And.intro (show SmG (q1, t1, m1) from ⟨Nat.le_trans hln.1 (by omega), made_small hln.2⟩) hc1); have HOO1 := Lib.hid (hso.base (show bX ≤ wv.heap.size from Nat.le_trans (Nat.le_of_lt lXv) (by have := HBP.out.size; exact this))); have HBX1 := Lib.hid hbx; have HD1 := Lib.hid hd1; have HK19 := Lib.hid hk19; clear hh hln hso hd1 hk19 hbb1 hG1 hc1 hbx; have HBP := Lib.hid hbw; clear hbw; obtain ⟨N1, hN1⟩ : ∃ N1, N1 = m1.length := ⟨_, rfl⟩; rw [← hN1] at HF1 HOO1 ⊢; have HN1 := Lib.hid hN1; clear hN1)
                      | (go_at_call 16; (with_reducible refine (base_any_g p al cl zs k5 _ (by first | exact HD21.out | exact deck_up_s HD21.out) (by have := HK5.out; have := HK5.out; have := HK2.out; omega)).mono ?_); rintro e u1 ⟨q1, t1, s1, m1, k19, hG1, rfl, hso, hd1, hk19, hbb1⟩; obtain ⟨e1, f1, rfl, hc1, _⟩ := hso.lies; have hbx : But p wv u1 := (by first | exact hbb1 | exact ((But.refl p wv).drew).next hbb1); have hbw := HBP.out.next hbx; have hh := HBW.out u1 (HB6.out.next (HB14.out.next (HB21.out.next hbw))); have c10 := (hh.cell (p := ⟨w.heap.size + 2, 0, none⟩) lg).trans G0.out; have c11 := (hh.cell (p := ⟨w.heap.size + 2, 1, none⟩) lg).trans G1.out; have c12 := (hh.cell (p := ⟨w.heap.size + 2, 2, none⟩) lg).trans G2.out; have hln := bse_len hG1; have HF1 := Lib.hid (And.intro (show SmG (q1, t1, m1) from ⟨Nat.le_trans hln.1 (by omega), made_small hln.2⟩) hc1); have HOO1 := Lib.hid (hso.base (show bX ≤ wv.heap.size from Nat.le_trans (Nat.le_of_lt lXv) (by have := HBP.out.size; exact this))); have HBX1 := Lib.hid hbx; have HD1 := Lib.hid hd1; have HK19 := Lib.hid hk19; clear hh hln hso hd1 hk19 hbb1 hG1 hc1 hbx; have HBP := Lib.hid hbw; clear hbw; obtain ⟨N1, hN1⟩ : ∃ N1, N1 = m1.length := ⟨_, rfl⟩; rw [← hN1] at HF1 HOO1 ⊢; have HN1 := Lib.hid hN1; clear hN1)
                      | (go_at_call 15; (with_reducible refine (general_any p al cl zs k19 _ (by first | exact HD1.out | exact deck_up_s HD1.out) (by have := HK19.out; have := HK5.out; have := HK2.out; omega)).mono ?_); rintro e u2 ⟨q2, t2, s2, m2, k29, hG2, rfl, hso, hd2, hk29, hbb2⟩; obtain ⟨e2, f2, rfl, hc2, _⟩ := hso.lies; have hbx : But p u1 u2 := (by first | exact hbb2 | exact ((But.refl p u1).drew).next hbb2); have hbw := HBP.out.next hbx; have hh := HBW.out u2 (HB6.out.next (HB14.out.next (HB21.out.next hbw))); have c20 := (hh.cell (p := ⟨w.heap.size + 2, 0, none⟩) lg).trans G0.out; have c21 := (hh.cell (p := ⟨w.heap.size + 2, 1, none⟩) lg).trans G1.out; have c22 := (hh.cell (p := ⟨w.heap.size + 2, 2, none⟩) lg).trans G2.out; have hln := gen_len hG2; have HF2 := Lib.hid (And.intro (show SmG (q2, t2, m2) from ⟨Nat.le_trans hln.1 (by omega), made_small hln.2⟩) hc2); have HOO2 := Lib.hid (hso.base (show bX ≤ u1.heap.size from Nat.le_trans (Nat.le_of_lt lXv) (by have := HBP.out.size; exact this))); have HBX2 := Lib.hid hbx; have HD2 := Lib.hid hd2; have HK29 := Lib.hid hk29; clear hh hln hso hd2 hk29 hbb2 hG2 hc2 hbx; have HBP := Lib.hid hbw; clear hbw; obtain ⟨N2, hN2⟩ : ∃ N2, N2 = m2.length := ⟨_, rfl⟩; rw [← hN2] at HF2 HOO2 ⊢; have HN2 := Lib.hid hN2; clear hN2)
                      | (go_at_call 16; (with_reducible refine (base_any_g p al cl zs k19 _ (by first | exact HD1.out | exact deck_up_s HD1.out) (by have := HK19.out; have := HK5.out; have := HK2.out; omega)).mono ?_); rintro e u2 ⟨q2, t2, s2, m2, k29, hG2, rfl, hso, hd2, hk29, hbb2⟩; obtain ⟨e2, f2, rfl, hc2, _⟩ := hso.lies; have hbx : But p u1 u2 := (by first | exact hbb2 | exact ((But.refl p u1).drew).next hbb2); have hbw := HBP.out.next hbx; have hh := HBW.out u2 (HB6.out.next (HB14.out.next (HB21.out.next hbw))); have c20 := (hh.cell (p := ⟨w.heap.size + 2, 0, none⟩) lg).trans G0.out; have c21 := (hh.cell (p := ⟨w.heap.size + 2, 1, none⟩) lg).trans G1.out; have c22 := (hh.cell (p := ⟨w.heap.size + 2, 2, none⟩) lg).trans G2.out; have hln := bse_len hG2; have HF2 := Lib.hid (And.intro (show SmG (q2, t2, m2) from ⟨Nat.le_trans hln.1 (by omega), made_small hln.2⟩) hc2); have HOO2 := Lib.hid (hso.base (show bX ≤ u1.heap.size from Nat.le_trans (Nat.le_of_lt lXv) (by have := HBP.out.size; exact this))); have HBX2 := Lib.hid hbx; have HD2 := Lib.hid hd2; have HK29 := Lib.hid hk29; clear hh hln hso hd2 hk29 hbb2 hG2 hc2 hbx; have HBP := Lib.hid hbw; clear hbw; obtain ⟨N2, hN2⟩ : ∃ N2, N2 = m2.length := ⟨_, rfl⟩; rw [← hN2] at HF2 HOO2 ⊢; have HN2 := Lib.hid hN2; clear hN2)
                      | (go_at_call 15; (with_reducible refine (general_any p al cl zs k29 _ (by first | exact HD2.out | exact deck_up_s HD2.out) (by have := HK29.out; have := HK19.out; have := HK5.out; have := HK2.out; omega)).mono ?_); rintro e u3 ⟨q3, t3, s3, m3, k39, hG3, rfl, hso, hd3, hk39, hbb3⟩; obtain ⟨e3, f3, rfl, hc3, _⟩ := hso.lies; have hbx : But p u2 u3 := (by first | exact hbb3 | exact ((But.refl p u2).drew).next hbb3); have hbw := HBP.out.next hbx; have hh := HBW.out u3 (HB6.out.next (HB14.out.next (HB21.out.next hbw))); have c30 := (hh.cell (p := ⟨w.heap.size + 2, 0, none⟩) lg).trans G0.out; have c31 := (hh.cell (p := ⟨w.heap.size + 2, 1, none⟩) lg).trans G1.out; have c32 := (hh.cell (p := ⟨w.heap.size + 2, 2, none⟩) lg).trans G2.out; have hln := gen_len hG3; have HF3 := Lib.hid (And.intro (show SmG (q3, t3, m3) from ⟨Nat.le_trans hln.1 (by omega), made_small hln.2⟩) hc3); have HOO3 := Lib.hid (hso.base (show bX ≤ u2.heap.size from Nat.le_trans (Nat.le_of_lt lXv) (by have := HBP.out.size; exact this))); have HBX3 := Lib.hid hbx; have HD3 := Lib.hid hd3; have HK39 := Lib.hid hk39; clear hh hln hso hd3 hk39 hbb3 hG3 hc3 hbx; have HBP := Lib.hid hbw; clear hbw; obtain ⟨N3, hN3⟩ : ∃ N3, N3 = m3.length := ⟨_, rfl⟩; rw [← hN3] at HF3 HOO3 ⊢; have HN3 := Lib.hid hN3; clear hN3)
                      | (go_at_call 16; (with_reducible refine (base_any_g p al cl zs k29 _ (by first | exact HD2.out | exact deck_up_s HD2.out) (by have := HK29.out; have := HK19.out; have := HK5.out; have := HK2.out; omega)).mono ?_); rintro e u3 ⟨q3, t3, s3, m3, k39, hG3, rfl, hso, hd3, hk39, hbb3⟩; obtain ⟨e3, f3, rfl, hc3, _⟩ := hso.lies; have hbx : But p u2 u3 := (by first | exact hbb3 | exact ((But.refl p u2).drew).next hbb3); have hbw := HBP.out.next hbx; have hh := HBW.out u3 (HB6.out.next (HB14.out.next (HB21.out.next hbw))); have c30 := (hh.cell (p := ⟨w.heap.size + 2, 0, none⟩) lg).trans G0.out; have c31 := (hh.cell (p := ⟨w.heap.size + 2, 1, none⟩) lg).trans G1.out; have c32 := (hh.cell (p := ⟨w.heap.size + 2, 2, none⟩) lg).trans G2.out; have hln := bse_len hG3; have HF3 := Lib.hid (And.intro (show SmG (q3, t3, m3) from ⟨Nat.le_trans hln.1 (by omega), made_small hln.2⟩) hc3); have HOO3 := Lib.hid (hso.base (show bX ≤ u2.heap.size from Nat.le_trans (Nat.le_of_lt lXv) (by have := HBP.out.size; exact this))); have HBX3 := Lib.hid hbx; have HD3 := Lib.hid hd3; have HK39 := Lib.hid hk39; clear hh hln hso hd3 hk39 hbb3 hG3 hc3 hbx; have HBP := Lib.hid hbw; clear hbw; obtain ⟨N3, hN3⟩ : ∃ N3, N3 = m3.length := ⟨_, rfl⟩; rw [← hN3] at HF3 HOO3 ⊢; have HN3 := Lib.hid hN3; clear hN3))
                  all_goals go_wp2_with fail
                  all_goals go_meet
                  all_goals first
                    | exact ⟨rfl, _, k39, rfl, rfl, rfl, HBP.out.next (But.of (belowNew u3 _)), HD3.out.below (belowNew u3 _), by have := HK19.out; have := HK29.out; have := HK39.out; omega, four_rows (heap_alloc_new u3 _) ⟨HG21.out u3 HBP.out |>.below (belowNew u3 _), HNG.out, HCG.out, HSMG.out⟩ ⟨(own_rl_s ((HOO1.out.but HBX2.out hpX).but HBX3.out hpX)).below (belowNew u3 _), HN1.out, HF1.out.2, HF1.out.1⟩ ⟨(own_rl_s (HOO2.out.but HBX3.out hpX)).below (belowNew u3 _), HN2.out, HF2.out.2, HF2.out.1⟩ ⟨(own_rl_s HOO3.out).below (belowNew u3 _), HN3.out, HF3.out.2, HF3.out.1⟩⟩
                    | exact ⟨rfl, _, k39, rfl, rfl, rfl, HBP.out.next (But.of (belowNew u3 _)), HD3.out.below (belowNew u3 _), by have := HK19.out; have := HK29.out; have := HK39.out; omega, four_rows (heap_alloc_new u3 _) ⟨HG21.out u3 HBP.out |>.below (belowNew u3 _), HNG.out, HCG.out, HSMG.out⟩ ⟨(own_rl_s ((HOO1.out.but HBX2.out hpX).but HBX3.out hpX)).below (belowNew u3 _), HN1.out, HF1.out.2, HF1.out.1⟩ ⟨(own_rl_s HOO3.out).below (belowNew u3 _), HN3.out, HF3.out.2, HF3.out.1⟩ ⟨(own_rl_s (HOO2.out.but HBX3.out hpX)).below (belowNew u3 _), HN2.out, HF2.out.2, HF2.out.1⟩⟩
                    | exact ⟨rfl, _, k39, rfl, rfl, rfl, HBP.out.next (But.of (belowNew u3 _)), HD3.out.below (belowNew u3 _), by have := HK19.out; have := HK29.out; have := HK39.out; omega, four_rows (heap_alloc_new u3 _) ⟨HG21.out u3 HBP.out |>.below (belowNew u3 _), HNG.out, HCG.out, HSMG.out⟩ ⟨(own_rl_s (HOO2.out.but HBX3.out hpX)).below (belowNew u3 _), HN2.out, HF2.out.2, HF2.out.1⟩ ⟨(own_rl_s ((HOO1.out.but HBX2.out hpX).but HBX3.out hpX)).below (belowNew u3 _), HN1.out, HF1.out.2, HF1.out.1⟩ ⟨(own_rl_s HOO3.out).below (belowNew u3 _), HN3.out, HF3.out.2, HF3.out.1⟩⟩
                    | exact ⟨rfl, _, k39, rfl, rfl, rfl, HBP.out.next (But.of (belowNew u3 _)), HD3.out.below (belowNew u3 _), by have := HK19.out; have := HK29.out; have := HK39.out; omega, four_rows (heap_alloc_new u3 _) ⟨HG21.out u3 HBP.out |>.below (belowNew u3 _), HNG.out, HCG.out, HSMG.out⟩ ⟨(own_rl_s (HOO2.out.but HBX3.out hpX)).below (belowNew u3 _), HN2.out, HF2.out.2, HF2.out.1⟩ ⟨(own_rl_s HOO3.out).below (belowNew u3 _), HN3.out, HF3.out.2, HF3.out.1⟩ ⟨(own_rl_s ((HOO1.out.but HBX2.out hpX).but HBX3.out hpX)).below (belowNew u3 _), HN1.out, HF1.out.2, HF1.out.1⟩⟩
                    | exact ⟨rfl, _, k39, rfl, rfl, rfl, HBP.out.next (But.of (belowNew u3 _)), HD3.out.below (belowNew u3 _), by have := HK19.out; have := HK29.out; have := HK39.out; omega, four_rows (heap_alloc_new u3 _) ⟨HG21.out u3 HBP.out |>.below (belowNew u3 _), HNG.out, HCG.out, HSMG.out⟩ ⟨(own_rl_s HOO3.out).below (belowNew u3 _), HN3.out, HF3.out.2, HF3.out.1⟩ ⟨(own_rl_s ((HOO1.out.but HBX2.out hpX).but HBX3.out hpX)).below (belowNew u3 _), HN1.out, HF1.out.2, HF1.out.1⟩ ⟨(own_rl_s (HOO2.out.but HBX3.out hpX)).below (belowNew u3 _), HN2.out, HF2.out.2, HF2.out.1⟩⟩
                    | exact ⟨rfl, _, k39, rfl, rfl, rfl, HBP.out.next (But.of (belowNew u3 _)), HD3.out.below (belowNew u3 _), by have := HK19.out; have := HK29.out; have := HK39.out; omega, four_rows (heap_alloc_new u3 _) ⟨HG21.out u3 HBP.out |>.below (belowNew u3 _), HNG.out, HCG.out, HSMG.out⟩ ⟨(own_rl_s HOO3.out).below (belowNew u3 _), HN3.out, HF3.out.2, HF3.out.1⟩ ⟨(own_rl_s (HOO2.out.but HBX3.out hpX)).below (belowNew u3 _), HN2.out, HF2.out.2, HF2.out.1⟩ ⟨(own_rl_s ((HOO1.out.but HBX2.out hpX).but HBX3.out hpX)).below (belowNew u3 _), HN1.out, HF1.out.2, HF1.out.1⟩⟩
                case rest =>
                  obtain ⟨rfl, G, k6, rfl, rfl, rfl, hbx, hd6, hk6, hrow⟩ := hcut
                  have HBZ := Lib.hid (HB21.out.next hbx)
                  have HDZ := Lib.hid hd6
                  have HKZ := Lib.hid hk6
                  have HROW := Lib.hid hrow
                  obtain ⟨wn, hwn⟩ : ∃ wn, wn = wc := ⟨_, rfl⟩
                  subst hwn
                  have HXN := Lib.hid ((HBZ.out.block bX (Array.getElem?_eq_some_iff.1 HQX.out).1 (by simp; omega)).trans HQX.out)
                  clear hbx hd6 hk6 hrow g0 g1 g2 HD21 HB21 HBP HG21 lXv
                  go_wp2_with fail
                  go_loopw [92] (fun i wr => ∃ i2 : Nat, i2 ≤ 4 ∧ i = .int .i64 (i2 : Int) ∧ Below wn.heap.size wn wr) (fun i _ => 4 - (intOf i).toNat)
                  case atStart => exact ⟨0, Nat.zero_le _, rfl, Below.refl _ _⟩
                  case round =>
                    obtain ⟨wm, hwm⟩ : ∃ wm, wm = wr := ⟨_, rfl⟩
                    subst hwm
                    obtain ⟨i2, hi2, rfl, hb⟩ := hrel
                    have HBM := Lib.hid hb
                    clear hb
                    by_cases hlt2 : i2 < 4
                    · have hd2 : decide ((i2 : Int) < 4) = true := decide_eq_true (by omega)
                      have HLT2 := Lib.hid hlt2
                      obtain ⟨q7, t7, a7, c7, N7, n7, e0, e1, e2, hr7, hN7, hc7, hs7⟩ := HROW.out i2 hlt2
                      have f0 := (HBM.out.cell (block_lt e0)).trans e0
                      have f1 := (HBM.out.cell (block_lt e1)).trans e1
                      have f2 := (HBM.out.cell (block_lt e2)).trans e2
                      have HR7 := Lib.hid (hr7.below HBM.out)
                      have HN7 := Lib.hid hN7
                      have HC7 := Lib.hid hc7
                      have HS7 := Lib.hid hs7
                      clear e0 e1 e2 hr7 hN7 hc7 hs7
                      go_upto_region 24 with (fail)
                      clear f0 f1 f2
                      obtain ⟨W9, hW9⟩ : ∃ W9, W9 = wm.alloc (.cells #[.int .i64 q7, .string (strOf t7), .slice a7 N7 c7] 32) := ⟨_, rfl⟩
                      have hb9 : Below wm.heap.size wm W9 := by rw [hW9]; exact belowNew wm _
                      obtain ⟨x0, x1, x2, _⟩ := three_facts (w := W9) (g := wm.heap.size) (by rw [hW9]; exact heap_alloc_new wm _)
                      rw [← hW9]
                      have hbn := below_next HBM.out hb9
                      have HBN9 := Lib.hid hbn
                      have y0 := cell_regrown x0
                      have y1 := cell_regrown x1
                      have y2 := cell_regrown x2
                      have y3 := cell_regrown (one_facts ((hbn.block bX (Array.getElem?_eq_some_iff.1 HXN.out).1).trans HXN.out)).1
                      have hbt := HBZ.out.next (But.of hbn)
                      have HBT := Lib.hid hbt
                      have HP1 := Lib.hid (fun W (hb : Below W9.heap.size W9 W) => permits_core ax a7 cx Nx c7 N7 Lx q7 t7 n7 W ((HSX1.out W9 HBT.out).below hb) HNX.out (by have := HN6.out; omega) ((HR7.out.below hb9).below hb) HN7.out HC7.out HS7.out HOX.out.1 HOX.out.2.2 (HMX.out W (below_next (HBW.out W9 (HB6.out.next (HB14.out.next HBT.out))) hb)))
                      have HP2 := Lib.hid (fun W (hb : Below W9.heap.size W9 W) => rpermits_core ax a7 cx Nx c7 N7 Lx q7 t7 n7 W ((HSX1.out W9 HBT.out).below hb) HNX.out (by have := HN6.out; omega) ((HR7.out.below hb9).below hb) HN7.out HS7.out HOX.out.1 HOX.out.2.2)
                      generalize perG Lx (q7, t7, n7) = P1 at HP1 HP2
                      have v1 : ∀ d os, _ := fun d os => Calls.regrown_of (HP1.out (Sort.grow (redrawn W9 d) os) (below_regrown W9 d os))
                      have v2 : ∀ d os, _ := fun d os => Calls.regrown_of (HP2.out (Sort.grow (redrawn W9 d) os) (below_regrown W9 d os))
                      clear x0 x1 x2 HP1 HP2 hW9 hb9 hbn hbt
                      cases P1
                      all_goals
                        go_wp2_with fail
                        refine wp_region_quiet_below (by kernel_rfl) (by kernel_rfl) ?_
                        repeat (go_big_quiet_step (with_reducible first | exact v1 _ _ | exact v2 _ _))
                        refine wpQuiet_nil ?_
                        intro _ hw'
                        obtain ⟨⟨dq, osq⟩, hw''⟩ := hw'
                        subst hw''
                        have HBQ := Lib.hid (below_next HBN9.out (below_regrown W9 dq osq))
                        clear v1 v2 y0 y1 y2 y3
                        go_wp2_with fail
                        go_roundw
                        case rel => exact ⟨i2 + 1, by have := HLT2.out; omega, by go_num, HBQ.out⟩
                        case measure => have := HLT2.out; simp [intOf]; omega
                    · have hd2 : decide ((i2 : Int) < 4) = false := decide_eq_false (by omega)
                      clear hlt2 hi2 HROW
                      go_wp2_with fail
                      go_roundw
                      case rel => exact ⟨j + 1, k6, by have := HLT.out; omega, by go_num, HB14.out.next (HBZ.out.next (But.of HBM.out)), HDZ.out.below HBM.out, by have := HKZ.out; have := HK5.out; have := HK2.out; omega⟩
                      case measure => have := HLT.out; simp [intOf]; omega
        · have hd : decide ((j : Int) < 2) = false := decide_eq_false (by omega)
          clear hlt hj hi hz0 hz1 hz2 HX
          have HBE := Lib.hid (HBW.out wy (HB6.out.next HBY.out))
          go_wp2_with (go_at_call 9; (with_reducible refine (HAW.out _ HBE.out).mono ?_); rintro e w9 ⟨rfl, hb9⟩; have HB9 := Lib.hid (below_next HBE.out hb9); clear hb9)
          go_ret
          exact ⟨rfl, below_next HB0.out HB9.out⟩
end Go.Proofs.YtjdfgalcnbnobaaGreatDoor
