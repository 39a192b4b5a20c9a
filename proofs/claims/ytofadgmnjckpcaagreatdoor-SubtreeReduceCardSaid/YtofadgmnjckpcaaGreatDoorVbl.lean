/-
  The law's awake returns true: the example of the chapter.
  The walk of the law SubtreePermits: for every state, every constraint, every general name and every slice of ints it returns true, and leaves all that was there as it was.
  What lies in memory while the program reduces a state; the append of a row that may be nil.
-/
import Derived.Test.YtofadgmnjckpcaaGreatDoorVbe
import Derived.Test.YtofadgmnjckpcaaGreatDoorVbf
import Derived.Test.YtofadgmnjckpcaaGreatDoorVbk
import Derived.Test.YtofadgmnjckpcaaGreatDoorVba
import Derived.Test.YtofadgmnjckpcaaGreatDoorVar
import Derived.Test.YtofadgmnjckpcaaGreatDoorVap
import Derived.Lib.QuietBelow
import Derived.BigQuiet
import Derived.Test.YtofadgmnjckpcaaGreatDoorVbj
namespace Go.Proofs.YtofadgmnjckpcaaGreatDoor
open Go.RowKit

def exT : List UInt8 := [101, 120, 97, 109, 112, 108, 101, 46, 111, 114, 103]
def wwT : List UInt8 := [119, 119, 119, 46, 101, 120, 97, 109, 112, 108, 101, 46, 111, 114, 103]
def maT : List UInt8 := [97, 64, 98]
def awL : List Sub := [([((2 : Int), exT, ([] : Nm))], []), ([((2 : Int), wwT, ([] : Nm))], [])]
set_option maxRecDepth 100000 in
theorem aw_we : dnsWithinB wwT exT = true ∧ dnsWithinB wwT wwT = true ∧ dnsWithinB exT wwT = false := by decide +kernel
theorem aw_one : perG awL (2, wwT, []) = true := by
  have h1 : wG (2, wwT, []) (2, exT, []) = true := (withinG_2 _ _ _ _).trans aw_we.1
  have h2 : wG (2, wwT, []) (2, wwT, []) = true := (withinG_2 _ _ _ _).trans aw_we.2.1
  simp [perG, awL, inG, limG, h1, h2]
theorem aw_two : perG awL (2, exT, []) = false := by
  have h2 : wG (2, exT, []) (2, wwT, []) = false := (withinG_2 _ _ _ _).trans aw_we.2.2
  simp [perG, awL, inG, limG, h2]
theorem aw_three : perG awL (1, maT, []) = true := by
  simp [perG, awL, inG, limG]
theorem sm_nil (k : Int) (t : List UInt8) (h : t.length ≤ 100000) : SmG (k, t, []) := ⟨h, Nat.zero_le _, fun _ hi => absurd hi (Nat.not_lt_zero _)⟩
theorem sm_one {g : Gn} (h : SmG g) : SmL [g] := fun x hx => by rw [List.mem_singleton.1 hx]; exact h
theorem sm_none : SmL [] := fun _ h => nomatch h
theorem awL_ok : OkS awL := OkS.snoc (L := [([((2 : Int), exT, ([] : Nm))], [])]) (OkS.snoc (L := []) OkS.nil (by decide) (sm_one (sm_nil _ _ (by decide))) sm_none (by decide) (by decide)) (by decide) (sm_one (sm_nil _ _ (by decide))) sm_none (by decide) (by decide)
theorem awL1_ok : OkS [([((2 : Int), exT, ([] : Nm))], [])] := OkS.snoc (L := []) OkS.nil (by decide) (sm_one (sm_nil _ _ (by decide))) sm_none (by decide) (by decide)
set_option maxRecDepth 100000 in
set_option maxHeartbeats 4000000 in
theorem awake_core (w : World) (hmk : Mk w) : Calls Tryz.prog 9 #[] w fun e w' => e = .returned (.bool true) ∧ Below w.heap.size w w' := by
  obtain ⟨Wa, hWa⟩ : ∃ Wa, Wa = w.alloc (.cells #[.int .i64 2, .string ⟨#[101, 120, 97, 109, 112, 108, 101, 46, 111, 114, 103]⟩, .slice none 0 0] 32) := ⟨_, rfl⟩
  have hwa := hWa.symm
  have hba : Below w.heap.size w Wa := by rw [hWa]; exact belowNew w _
  have hga := glies_one (w := Wa) (g := w.heap.size) (k := 2) (t := exT) (n := []) (a := none) (c := 0) (by rw [hWa]; exact heap_alloc_new w _) (Nat.le_refl _) (.inl rfl)
  have HA := Lib.hid (add_core none (some ⟨w.heap.size, 0, none⟩) none 0 0 1 0 1 0 [] [(2, exT, [])] [] Wa (.inl rfl) rfl OkS.nil (by decide) hga (.inl rfl) rfl rfl (by decide) (by decide) (sm_one (sm_nil _ _ (by decide))) sm_none)
  have HMK := Lib.hid hmk
  have HBA := Lib.hid hba
  clear hmk hba hga hWa
  go_enter Tryz.func9, Tryz.ntmps9
  go_upto_region 2 with (go_at_call 14; (with_reducible refine HA.out.mono ?_); rintro e w1 ⟨v, rfl, ho, hb⟩; obtain ⟨av, cv, hv, _, _⟩ := ho.lies; rw [show ([] ++ [([((2 : Int), exT, ([] : Nm))], ([] : List Gn))] : List Sub).length = 1 from rfl] at hv; subst hv; have HB1 := Lib.hid (below_next HBA.out hb); have HO1 := Lib.hid ho; clear hb ho)
  clear hwa
  obtain ⟨W2, hW2⟩ : ∃ W2, W2 = w1.alloc (.cells #[.slice av 1 cv] 24) := ⟨_, rfl⟩
  rw [← hW2]
  obtain ⟨g, hg⟩ : ∃ g, g = w1.heap.size := ⟨_, rfl⟩
  have hb2 : Below w1.heap.size w1 W2 := by rw [hW2]; exact belowNew w1 _
  have hq2 : W2.heap[g]? = some (.cells #[.slice av 1 cv] 24 (0, 0)) := by rw [hW2, hg]; exact heap_alloc_new w1 _
  rw [← hg]
  obtain ⟨c0, f0, lg2⟩ := one_facts hq2
  have HWG := Lib.hid (show w.heap.size ≤ g by rw [hg]; exact HB1.out.size)
  obtain ⟨Wb, hWb⟩ : ∃ Wb, Wb = W2.alloc (.cells #[.int .i64 2, .string ⟨#[119, 119, 119, 46, 101, 120, 97, 109, 112, 108, 101, 46, 111, 114, 103]⟩, .slice none 0 0] 32) := ⟨_, rfl⟩
  have hwb := hWb.symm
  have hbb : Below W2.heap.size W2 Wb := by rw [hWb]; exact belowNew W2 _
  have hgb := glies_one (w := Wb) (g := W2.heap.size) (k := 2) (t := wwT) (n := []) (a := none) (c := 0) (by rw [hWb]; exact heap_alloc_new W2 _) (Nat.le_refl _) (.inl rfl)
  have hsl : SLies Wb av [([((2 : Int), exT, ([] : Nm))], [])] := by
    obtain ⟨a', c', e, _, hl⟩ := ((HO1.out.below hb2).below hbb).lies
    rw [(slice_inj e).1]; exact hl
  have HA2 := Lib.hid (add_core av (some ⟨W2.heap.size, 0, none⟩) none cv 1 1 0 1 0 [([((2 : Int), exT, ([] : Nm))], [])] [(2, wwT, [])] [] Wb hsl rfl awL1_ok (by decide) hgb (.inl rfl) rfl rfl (by decide) (by decide) (sm_one (sm_nil _ _ (by decide))) sm_none)
  have HQ := Lib.hid ((hbb.block g lg2).trans hq2)
  have HBB := Lib.hid (below_next (below_next HB1.out hb2) hbb)
  have lgb : g < Wb.heap.size := Nat.lt_of_lt_of_le lg2 hbb.size
  clear hb2 hq2 hbb hgb hsl hWb hg hW2
  go_upto_region 3 with (go_at_call 14; (with_reducible refine HA2.out.mono ?_); rintro e w3 ⟨v, rfl, ho, hb⟩; obtain ⟨a3, c3, hv, _, _⟩ := ho.lies; rw [show ([([((2 : Int), exT, ([] : Nm))], ([] : List Gn))] ++ [([((2 : Int), wwT, ([] : Nm))], ([] : List Gn))] : List Sub).length = 2 from rfl] at hv; subst hv; have hq3 := (hb.block g lgb).trans HQ.out; obtain ⟨d0, d1, d2⟩ := one_facts hq3; have HQ3 := Lib.hid hq3; have HB3 := Lib.hid (below_next HBB.out hb); have HO3 := Lib.hid ho; clear hb ho hq3)
  clear hwb c0 f0
  obtain ⟨W4, hW4⟩ : ∃ W4, W4 = w3.setCell ⟨g, 0, none⟩ (.slice a3 2 c3) := ⟨_, rfl⟩
  rw [← hW4]
  have hq4 : W4.heap[g]? = some (.cells #[.slice a3 2 c3] 24 (0, 0)) := by rw [hW4]; exact one_set HQ3.out
  have HB4 := Lib.hid (show Below w.heap.size w W4 by rw [hW4]; exact below_set HB3.out HWG.out)
  have hs4 : SLies W4 a3 awL := by
    obtain ⟨a', c', e, _, hl⟩ := (HO3.out.apart (w' := W4) HQ3.out (by decide) (by decide) (by decide) (by decide) (by rw [hW4]; exact But.set _ _ _ _)).lies
    rw [(slice_inj e).1]; exact hl
  obtain ⟨c0, _, lg⟩ := one_facts hq4
  have HC0 := Lib.hid c0
  have HX := Lib.hid (Below.refl W4.heap.size W4)
  have HP1 := Lib.hid (fun W (hb : Below W4.heap.size W4 W) => permits_core a3 none c3 2 0 0 awL 2 wwT [] W (hs4.below hb) rfl (by decide) (.inl rfl) rfl (Nat.le_refl _) (sm_nil _ _ (by decide)) awL_ok.1 awL_ok.2.2 ((HMK.out.below HB4.out).below hb))
  have HP2 := Lib.hid (fun W (hb : Below W4.heap.size W4 W) => permits_core a3 none c3 2 0 0 awL 2 exT [] W (hs4.below hb) rfl (by decide) (.inl rfl) rfl (Nat.le_refl _) (sm_nil _ _ (by decide)) awL_ok.1 awL_ok.2.2 ((HMK.out.below HB4.out).below hb))
  have HP3 := Lib.hid (fun W (hb : Below W4.heap.size W4 W) => permits_core a3 none c3 2 0 0 awL 1 maT [] W (hs4.below hb) rfl (by decide) (.inl rfl) rfl (Nat.le_refl _) (sm_nil _ _ (by decide)) awL_ok.1 awL_ok.2.2 ((HMK.out.below HB4.out).below hb))
  rw [aw_one, show strOf wwT = ⟨#[119, 119, 119, 46, 101, 120, 97, 109, 112, 108, 101, 46, 111, 114, 103]⟩ from rfl] at HP1
  rw [aw_two, show strOf exT = ⟨#[101, 120, 97, 109, 112, 108, 101, 46, 111, 114, 103]⟩ from rfl] at HP2
  rw [aw_three, show strOf maT = ⟨#[97, 64, 98]⟩ from rfl] at HP3
  clear hq4 hs4 hW4 d0 d1 d2
  go_wp2_with (first
  | (go_at_call 17; (with_reducible refine (HP1.out _ HX.out).mono ?_); rintro e w5 ⟨rfl, hb9⟩; have HX := Lib.hid (below_next HX.out hb9); have c0 := (HX.out.cell (p := ⟨g, 0, none⟩) lg).trans HC0.out; clear hb9)
  | (go_at_call 17; (with_reducible refine (HP2.out _ HX.out).mono ?_); rintro e w6 ⟨rfl, hb9⟩; have HX := Lib.hid (below_next HX.out hb9); have c0 := (HX.out.cell (p := ⟨g, 0, none⟩) lg).trans HC0.out; clear hb9)
  | (go_at_call 17; (with_reducible refine (HP3.out _ HX.out).mono ?_); rintro e w7 ⟨rfl, hb9⟩; have HX := Lib.hid (below_next HX.out hb9); have c0 := (HX.out.cell (p := ⟨g, 0, none⟩) lg).trans HC0.out; clear hb9))
  go_ret
  exact ⟨rfl, below_next HB4.out HX.out⟩
end Go.Proofs.YtofadgmnjckpcaaGreatDoor
namespace Go.Proofs.YtofadgmnjckpcaaGreatDoor
open Go.RowKit

theorem step_append_none_s {P : Program} {ops : Array Oper} {o : Oper} {a : Act} {w : World} {K : Act → World → Prop} {Q : Exit → Act → World → Prop} {E : Prop} (hgd : o.guard = none) (s x : Operand) (t : TypeId)
    (ho : o.op = .call { callee := .builtin .append, args := #[s, x], argTypes := #[t, t] })
    (base : Nat) (e : TypeId) (i : TypeInfo) (size : Nat) (ht : P.underlying t = some (.slice e)) (hi : P.info? e = some i)
    (v : Value) (n : Nat) (xs : List Value) (hs : a.eval s = v) (hown : w.ownsRow base e size v n xs) (hx : a.eval x = .slice none 0 0)
    (h : K (a.put o.dst v) w) : if Region.wanted o (yielded ops a.tmps) = true then Oper.wp P o a w K Q else E := by
  have hw : Region.wanted o (yielded ops a.tmps) = true := by simp [Region.wanted, hgd]
  rw [if_pos hw]
  have hrun := run_append_owned_none (P := P) (w := w) base t o.type e i size ht hi v n xs hown
  unfold Oper.wp
  simp [execOp, ho, resolve, invoke, builtin, hs, hx, hrun, Result.andThen]
  exact h
theorem three_first (w : World) (o p r : Obj) (cs : Array Value) (T : TypeId) (h : o = .cells cs T) : (((w.alloc o).alloc p).alloc r).heap[w.heap.size]? = some (.cells cs T (0, 0)) := by
  rw [(belowNew ((w.alloc o).alloc p) r).block _ (by simp; omega), heap_first, h]; exact heap_alloc_new w _
theorem three_second (w : World) (o r : Obj) (cs : Array Value) (T : TypeId) : (((w.alloc o).alloc (.cells cs T)).alloc r).heap[w.heap.size + 1]? = some (.cells cs T (0, 0)) := by
  rw [(belowNew ((w.alloc o).alloc (.cells cs T)) r).block _ (by simp)]; exact heap_second w _ _ _
theorem three_third (w : World) (o p : Obj) (cs : Array Value) (T : TypeId) : (((w.alloc o).alloc p).alloc (.cells cs T)).heap[w.heap.size + 2]? = some (.cells cs T (0, 0)) := by
  have := heap_second (w.alloc o) p cs T
  simpa using this
theorem glies_one_s {w : World} {g : Nat} {k : Int} {t : List UInt8} {n : Nm} {a : Option Addr} {c : Nat} {T : TypeId} (h : w.heap[g]? = some (.cells #[.int .i64 k, .string (strOf t), .slice a n.length c] T (0, 0))) (hc : n.length ≤ c) (hr : RLies w a n) : GLies w (some ⟨g, 0, none⟩) [(k, t, n)] := by
  refine .inr ⟨g, 0, rfl, fun i hi => ?_⟩
  have e : ∀ j, w.cell? ⟨g, j, none⟩ = #[Value.int .i64 k, .string (strOf t), .slice a n.length c][j]? := fun j => Lib.cell_of_heap h j
  obtain rfl : i = 0 := by simp at hi; omega
  exact ⟨e 0, e 1, a, c, e 2, hc, hr⟩
def RowF (w : World) (q : Int) (t : List UInt8) (a : Option Addr) (N c : Nat) (n : Nm) : Prop := RLies w a n ∧ N = n.length ∧ N ≤ c ∧ SmG (q, t, n)
theorem shortsone (ag : Option Addr) (cg NG : Nat) (q : Int) (t : List UInt8) (n : Nm) (V : World) (hg : RLies V ag n) (hNG : NG = n.length) (hcg : NG ≤ cg) (hbg : BigG (q, t, n)) :
    Calls Tryz.prog 8 #[.slice (some ⟨V.heap.size, 0, none⟩) 1 1] (V.alloc (.cells #[.int .i64 q, .string (strOf t), .slice ag NG cg] 32)) fun e w' => ShortedL [(q, t, n)] e ∧ Below V.heap.size V w' := by
  subst hNG
  refine (shorts_any (some ⟨V.heap.size, 0, none⟩) 1 1 [(q, t, n)] _ (glies_one_s (heap_alloc_new V _) hcg (hg.below (belowNew V _))) rfl (by decide) (fun i hi => ?_)).mono (fun e w' h => ⟨h.1, below_next (belowNew V _) h.2⟩)
  rw [List.length_singleton] at hi
  obtain rfl : i = 0 := by omega
  rw [List.getD_cons_zero]
  exact hbg
end Go.Proofs.YtofadgmnjckpcaaGreatDoor
namespace Go.Proofs.YtofadgmnjckpcaaGreatDoor
open Go.RowKit

theorem wpList_append_y {P : Program} {w : World} {ops : Array Oper} {rest : List Oper} {o : Oper} {a : Act} {Q : Exit → Act → World → Prop} (hgd : o.guard = none) (s x : Operand) (t : TypeId)
    (ho : o.op = .call { callee := .builtin .append, args := #[s, x], argTypes := #[t, t] })
    (base : Nat) (e : TypeId) (i : TypeInfo) (z : Value) (size bytes : Nat) (ht : P.underlying t = some (.slice e)) (hi : P.info? e = some i) (hz : i.zero = some z)
    (hsize : i.size = size) (hby : i.bytes = bytes) (hzs : z.cells.size = size) (hsz : 0 < size)
    (v : Value) (n : Nat) (xs : List Value) (hs : a.eval s = v) (hown : w.ownsRow base e size v n xs)
    (ax : Option Addr) (m c : Nat) (news : List Value) (hx : a.eval x = .slice ax m c) (hax : ax = none → m = 0 ∧ c = 0) (hl : news.length = m * size) (hnews : ∀ ad, ax = some ad → ∀ j u, news[j]? = some u → w.cell? (ad.add j) = some u) (h1 : ∀ u ∈ news, u.oneCell' = true)
    (h63 : n + m ≤ maxLen) (hbytes : (n + m) * bytes ≤ 140737488355328) (hbase : base ≤ w.heap.size)
    (h : ∀ v' w', w'.ownsRow base e size v' (n + m) (xs ++ news) → w.grownBy w' v.ownBlock → wpList P ops Q rest (a.put o.dst v') w') : wpList P ops Q (o :: rest) a w := by
  cases ax with
  | none =>
    obtain ⟨rfl, rfl⟩ := hax rfl
    have h0 : news = [] := List.eq_nil_of_length_eq_zero (by omega)
    subst h0
    refine wpList_plain hgd fun K hK => ?_
    have hrun := run_append_owned_none (P := P) (w := w) base t o.type e i size ht hi v n xs hown
    unfold Oper.wp
    simp [execOp, ho, resolve, invoke, builtin, hs, hx, hrun, Result.andThen]
    exact hK _ _ (h _ _ (by rw [Nat.add_zero, List.append_nil]; exact hown) (World.grownBy.refl _ _))
  | some ad => exact wpList_append_own _ hgd s x t ho base e i z size bytes ht hi hz hsize hby hzs hsz v n xs hs hown ad m c news hx hl (hnews ad rfl) h1 h63 hbytes hbase (fun v' w' h2 h3 _ => h v' w' h2 h3)
theorem step_append_y {P : Program} {ops : Array Oper} {o : Oper} {a : Act} {w : World} {K : Act → World → Prop} {Q : Exit → Act → World → Prop} {E : Prop} (hgd : o.guard = none) (s x : Operand) (t : TypeId)
    (ho : o.op = .call { callee := .builtin .append, args := #[s, x], argTypes := #[t, t] })
    (base : Nat) (e : TypeId) (i : TypeInfo) (z : Value) (size bytes : Nat) (ht : P.underlying t = some (.slice e)) (hi : P.info? e = some i) (hz : i.zero = some z)
    (hsize : i.size = size) (hby : i.bytes = bytes) (hzs : z.cells.size = size) (hsz : 0 < size)
    (v : Value) (n : Nat) (xs : List Value) (hs : a.eval s = v) (hown : w.ownsRow base e size v n xs)
    (ax : Option Addr) (m c : Nat) (news : List Value) (hx : a.eval x = .slice ax m c) (hax : ax = none → m = 0 ∧ c = 0) (hl : news.length = m * size) (hnews : ∀ ad, ax = some ad → ∀ j u, news[j]? = some u → w.cell? (ad.add j) = some u) (h1 : ∀ u ∈ news, u.oneCell' = true)
    (h63 : n + m ≤ maxLen) (hbytes : (n + m) * bytes ≤ 140737488355328) (hbase : base ≤ w.heap.size)
    (h : ∀ v' w', w'.ownsRow base e size v' (n + m) (xs ++ news) → w.grownBy w' v.ownBlock → K (a.put o.dst v') w') :
    if Region.wanted o (yielded ops a.tmps) = true then Oper.wp P o a w K Q else E := by
  cases ax with
  | none =>
    obtain ⟨rfl, rfl⟩ := hax rfl
    have h0 : news = [] := List.eq_nil_of_length_eq_zero (by omega)
    subst h0
    exact step_append_none_s hgd s x t ho base e i size ht hi v n xs hs hown hx (h _ _ (by rw [Nat.add_zero, List.append_nil]; exact hown) (World.grownBy.refl _ _))
  | some ad => exact step_append_s hgd s x t ho base e i z size bytes ht hi hz hsize hby hzs hsz v n xs hs hown ad m c news hx hl (hnews ad rfl) h1 h63 hbytes hbase h
/-- The cells of a row of general names that may be nil. -/
theorem gliesq_opt {Q : Option Addr → Nm → Prop} {w : World} {a : Option Addr} {l : List Gn} (h : GLiesQ Q w a l) : ∃ ss : List Value, ss.length = l.length ∧ (∀ ad, a = some ad → ∀ j u, (gsCells l ss)[j]? = some u → w.cell? (ad.add j) = some u) ∧ (∀ i, i < l.length → ∃ a c, ss.getD i noS = .slice a (l.getD i noG).2.2.length c ∧ (l.getD i noG).2.2.length ≤ c ∧ Q a (l.getD i noG).2.2) ∧ (a = none → l = []) := by
  cases a with
  | some ad =>
    obtain ⟨ss, h1, h2, h3⟩ := gliesq_list h
    exact ⟨ss, h1, fun x e => by cases e; exact h2, h3, fun e => by cases e⟩
  | none =>
    have h0 : l = [] := by
      rcases h with h | ⟨b, o, h1, _⟩
      · exact h
      · cases h1
    subst h0
    exact ⟨[], rfl, fun x e => (by cases e), fun i hi => absurd hi (Nat.not_lt_zero _), fun _ => rfl⟩
theorem RowQ.lies' {Q : Option Addr → Nm → Prop} {w : World} {B : Nat} {v : Value} {l : List Gn} (h : RowQ Q w B v l) : ∃ a c, v = .slice a l.length c ∧ (a = none → c = 0) := by
  obtain ⟨ss, _, h2, _⟩ := h
  rcases h2.2 with ⟨hv, h0⟩ | ⟨g, cap, cur, hv, _⟩
  · exact ⟨none, 0, by rw [hv, h0], fun _ => rfl⟩
  · exact ⟨_, cap, hv, fun e => by cases e⟩
theorem RowQ.apart {Q : Option Addr → Nm → Prop} {w w' : World} {B g : Nat} {T : TypeId} {v : Value} {l : List Gn} {cs : Array Value} {f : Nat × Nat} (h : RowQ Q w B v l) (hc : w.heap[g]? = some (.cells cs T f)) (hT : T ≠ 32) (hg : But g w w') : RowQ Q w' B v l := by
  obtain ⟨ss, h1, h2, h3⟩ := h
  exact ⟨ss, h1, own_apart h2 hc hT hg, h3⟩
/-- A row of numbers of memory from block B on. -/
def OwnZ (w : World) (B : Nat) (v : Value) (zs : List Int) : Prop := w.ownsRow B 3 1 v zs.length (zs.map (Value.int .i64))
theorem OwnZ.nil (w : World) (B : Nat) : OwnZ w B (.slice none 0 0) [] := World.ownsRow_nil _ _ _ _
theorem OwnZ.lies {w : World} {B : Nat} {v : Value} {zs : List Int} (h : OwnZ w B v zs) : ∃ a c, v = .slice a zs.length c ∧ zs.length ≤ c ∧ ILies w a zs := by
  have hr : w.ownsRow B 3 1 v zs.length (zs.map (Value.int .i64)) := h
  rcases hr.2 with ⟨hv, h0⟩ | ⟨g, cap, cur, hv, _, _, hcap, _⟩
  · exact ⟨none, 0, by rw [hv, h0], by omega, .inl (List.eq_nil_of_length_eq_zero h0)⟩
  · refine ⟨_, cap, hv, hcap, .inr ⟨g, 0, rfl, fun i hi => ?_⟩⟩
    rw [hv] at hr
    rw [Nat.zero_add, World.ownsRow.cellAt hr i (by omega), List.getElem?_map, List.getElem?_eq_getElem hi, List.getD_eq_getElem?_getD, List.getElem?_eq_getElem hi]
    rfl
def nil3 : Array Value := #[.slice none 0 0, .slice none 0 0, .slice none 0 0]
/-- While a state is reduced: the result's cell, the variable r with its three rows, the second of them and the third in memory that is apart. -/
structure RdMid (Q : Option Addr → Nm → Prop) (sv : Value) (w W : World) (B1 B2 : Nat) (uL uP uE : Value) (zs : List Int) (P E : List Gn) : Prop where
  r0 : W.heap[w.heap.size]? = some (.cells #[sv] 24 (0, 0))
  r1 : W.heap[w.heap.size + 1]? = some (.cells nil3 53 (0, 0))
  r2 : W.heap[w.heap.size + 2]? = some (.cells #[uL, uP, uE] 53 (0, 0))
  oL : OwnZ W B1 uL zs
  oP : RowQ Q W B1 uP P
  oE : RowQ Q W B2 uE E
  b1 : w.heap.size + 3 ≤ B1
  b2 : B1 ≤ B2
  bs : B1 ≤ W.heap.size
  bw : Below w.heap.size w W
theorem RdMid.below {Q : Option Addr → Nm → Prop} {sv : Value} {w W W' : World} {B1 B2 : Nat} {uL uP uE : Value} {zs : List Int} {P E : List Gn} (h : RdMid Q sv w W B1 B2 uL uP uE zs P E) (hb : Below W.heap.size W W') : RdMid Q sv w W' B1 B2 uL uP uE zs P E :=
  ⟨(hb.block _ (Array.getElem?_eq_some_iff.1 h.r0).1).trans h.r0, (hb.block _ (Array.getElem?_eq_some_iff.1 h.r1).1).trans h.r1, (hb.block _ (Array.getElem?_eq_some_iff.1 h.r2).1).trans h.r2, own_below h.oL hb, h.oP.below hb, h.oE.below hb, h.b1, h.b2, Nat.le_trans h.bs hb.size, below_next h.bw hb⟩
theorem set3_a {w : World} {g : Nat} {x y z a : Value} {t : TypeId} (h : w.heap[g]? = some (.cells #[x, y, z] t (0, 0))) : (w.setCell ⟨g, 0, none⟩ a).heap[g]? = some (.cells #[a, y, z] t (0, 0)) := by
  simp [World.setCell, Array.getElem?_modify, h]
theorem set3_b {w : World} {g : Nat} {x y z a : Value} {t : TypeId} (h : w.heap[g]? = some (.cells #[x, y, z] t (0, 0))) : (w.setCell ⟨g, 1, none⟩ a).heap[g]? = some (.cells #[x, a, z] t (0, 0)) := by
  simp [World.setCell, Array.getElem?_modify, h]
theorem set3_c {w : World} {g : Nat} {x y z a : Value} {t : TypeId} (h : w.heap[g]? = some (.cells #[x, y, z] t (0, 0))) : (w.setCell ⟨g, 2, none⟩ a).heap[g]? = some (.cells #[x, y, a] t (0, 0)) := by
  simp [World.setCell, Array.getElem?_modify, h]
/-- A row grows; then the variable is stored. -/
theorem RdMid.pushL {Q : Option Addr → Nm → Prop} {sv : Value} {w W W' : World} {B1 B2 : Nat} {uL uP uE u' : Value} {zs : List Int} {P E : List Gn} {z : Int} (h : RdMid Q sv w W B1 B2 uL uP uE zs P E) (hg : W.grownBy W' uL.ownBlock) (h4 : W'.ownsRow B1 3 1 u' (zs.length + 1) (zs.map (Value.int .i64) ++ [.int .i64 z])) :
    RdMid Q sv w (W'.setCell ⟨w.heap.size + 2, 0, none⟩ u') B1 B2 u' uP uE (zs ++ [z]) P E := by
  have hs := But.set (w.heap.size + 2) 0 W' u'
  have hb1 := h.b1
  have c0 := (row_block h.oL hg (Array.getElem?_eq_some_iff.1 h.r0).1 (by omega)).trans h.r0
  have c1 := (row_block h.oL hg (Array.getElem?_eq_some_iff.1 h.r1).1 (by omega)).trans h.r1
  have c2 := (row_block h.oL hg (Array.getElem?_eq_some_iff.1 h.r2).1 (by omega)).trans h.r2
  exact ⟨set_other_s c0 (by omega), set_other_s c1 (by omega), set3_a c2, own_apart (show W'.ownsRow B1 3 1 u' (zs ++ [z]).length ((zs ++ [z]).map (Value.int .i64)) by rw [List.length_append, List.map_append]; exact h4) c2 (by decide) hs,
    (h.oP.keptR h.oL (by decide) hg).apart c2 (by decide) hs, (h.oE.keptR h.oL (by decide) hg).apart c2 (by decide) hs, h.b1, h.b2, Nat.le_trans h.bs (Nat.le_trans hg.size hs.size),
    (h.bw.grown hg (Nat.le_trans (by omega) h.bs) (fun j e => by have := (World.ownsRow.lt h.oL j e).1; omega)).grown hs (by have := h.bs; have := hg.size; omega) (fun j e => by obtain rfl := Option.some.inj e; omega)⟩
theorem OwnZ.keptR {w w' : World} {B B' k m : Nat} {T : TypeId} {v u : Value} {zs : List Int} {xs : List Value} (h : OwnZ w B u zs) (ho : w.ownsRow B' T k v m xs) (h0 : 3 ≠ T) (hg : w.grownBy w' v.ownBlock) : OwnZ w' B u zs := World.ownsRow.kept h hg (rows_apart h ho h0)
theorem RowL.keptR {Q : Option Addr → Nm → Prop} {w w' : World} {B B' k m : Nat} {T : TypeId} {v u : Value} {L : List (List Gn)} {xs : List Value} (h : RowL Q w B u L) (ho : w.ownsRow B' T k v m xs) (h0 : 32 ≠ T) (h1 : 25 ≠ T) (hg : w.grownBy w' v.ownBlock) : RowL Q w' B u L := by
  obtain ⟨vs, q1, q2, q3⟩ := h
  exact ⟨vs, q1, World.ownsRow.kept q2 hg (rows_apart q2 ho h1), fun i hi => (q3 i hi).keptR ho h0 hg⟩
theorem RowL.apart {Q : Option Addr → Nm → Prop} {w w' : World} {B g : Nat} {T : TypeId} {v : Value} {L : List (List Gn)} {cs : Array Value} {f : Nat × Nat} (h : RowL Q w B v L) (hc : w.heap[g]? = some (.cells cs T f)) (hT : T ≠ 32) (h1 : T ≠ 25) (hg : But g w w') : RowL Q w' B v L := by
  obtain ⟨vs, q1, q2, q3⟩ := h
  exact ⟨vs, q1, own_apart q2 hc h1 hg, fun i hi => (q3 i hi).apart hc hT hg⟩
theorem RdMid.rowL {Q Q' : Option Addr → Nm → Prop} {sv : Value} {w W W' : World} {B1 B2 B : Nat} {uL uP uE u' u : Value} {zs : List Int} {P E : List Gn} {X : List (List Gn)} (h : RdMid Q sv w W B1 B2 uL uP uE zs P E) (hg : W.grownBy W' uL.ownBlock) (hx : RowL Q' W B u X) : RowL Q' (W'.setCell ⟨w.heap.size + 2, 0, none⟩ u') B u X := by
  have hb1 := h.b1
  have c2 := (row_block h.oL hg (Array.getElem?_eq_some_iff.1 h.r2).1 (by omega)).trans h.r2
  exact (hx.keptR h.oL (by decide) (by decide) hg).apart c2 (by decide) (by decide) (But.set (w.heap.size + 2) 0 W' u')
theorem own_formz {w : World} {B k n : Nat} {e : TypeId} {v : Value} {xs : List Value} (h : w.ownsRow B e k v n xs) : ∃ a c, v = .slice a n c ∧ (a = none → c = 0) := by
  rcases h.2 with ⟨hv, h0⟩ | ⟨g, cap, cur, hv, _⟩
  · exact ⟨none, 0, by rw [hv, h0], fun _ => rfl⟩
  · exact ⟨_, cap, hv, fun e => by cases e⟩
theorem RdMid.pushP {Q : Option Addr → Nm → Prop} {sv : Value} {w W W' : World} {B1 B2 : Nat} {uL uP u' : Value} {zs : List Int} {P K : List Gn} (h : RdMid Q sv w W B1 B2 uL uP (.slice none 0 0) zs P []) {n : Nat} {xs : List Value} (ho : W.ownsRow B1 32 3 uP n xs) (hg : W.grownBy W' uP.ownBlock) (h4 : RowQ Q W' B1 u' K) :
    RdMid Q sv w (W'.setCell ⟨w.heap.size + 2, 1, none⟩ u') B1 B2 uL u' (.slice none 0 0) zs K [] := by
  have hs := But.set (w.heap.size + 2) 1 W' u'
  have hb1 := h.b1
  have c0 := (row_block ho hg (Array.getElem?_eq_some_iff.1 h.r0).1 (by omega)).trans h.r0
  have c1 := (row_block ho hg (Array.getElem?_eq_some_iff.1 h.r1).1 (by omega)).trans h.r1
  have c2 := (row_block ho hg (Array.getElem?_eq_some_iff.1 h.r2).1 (by omega)).trans h.r2
  exact ⟨set_other_s c0 (by omega), set_other_s c1 (by omega), set3_b c2, own_apart (h.oL.keptR ho (by decide) hg) c2 (by decide) hs, h4.apart c2 (by decide) hs, RowQ.nil _ _ _, h.b1, h.b2, Nat.le_trans h.bs (Nat.le_trans hg.size hs.size),
    (h.bw.grown hg (Nat.le_trans (by omega) h.bs) (fun j e => by have := (World.ownsRow.lt ho j e).1; omega)).grown hs (by have := h.bs; have := hg.size; omega) (fun j e => by obtain rfl := Option.some.inj e; omega)⟩
theorem RowQ.keptB {Q : Option Addr → Nm → Prop} {w w' : World} {B B' k m : Nat} {T : TypeId} {v u : Value} {l : List Gn} {xs : List Value} (h : RowQ Q w B u l) (hu : ∀ q, u.ownBlock = some q → q < B') (ho : w.ownsRow B' T k v m xs) (hg : w.grownBy w' v.ownBlock) : RowQ Q w' B u l := by
  obtain ⟨ss, q1, q2, q3⟩ := h
  refine ⟨ss, q1, World.ownsRow.kept q2 hg ?_, q3⟩
  cases hu0 : u.ownBlock with
  | none => exact .inl rfl
  | some q =>
    refine .inr (fun e => ?_)
    have h1 := hu q hu0
    have h2 := (World.ownsRow.lt ho q (e.symm)).1
    omega
theorem RdMid.pushE {Q : Option Addr → Nm → Prop} {sv : Value} {w W W' : World} {B1 B2 : Nat} {uL uP uE u' : Value} {zs : List Int} {P E K : List Gn} (h : RdMid Q sv w W B1 B2 uL uP uE zs P E) (hu : ∀ q, uP.ownBlock = some q → q < B2) {n : Nat} {xs : List Value} (ho : W.ownsRow B2 32 3 uE n xs) (hg : W.grownBy W' uE.ownBlock) (h4 : RowQ Q W' B2 u' K) :
    RdMid Q sv w (W'.setCell ⟨w.heap.size + 2, 2, none⟩ u') B1 B2 uL uP u' zs P K := by
  have hs := But.set (w.heap.size + 2) 2 W' u'
  have hb2 := h.b2
  have hb1 := h.b1
  have c0 := (row_block ho hg (Array.getElem?_eq_some_iff.1 h.r0).1 (by omega)).trans h.r0
  have c1 := (row_block ho hg (Array.getElem?_eq_some_iff.1 h.r1).1 (by omega)).trans h.r1
  have c2 := (row_block ho hg (Array.getElem?_eq_some_iff.1 h.r2).1 (by omega)).trans h.r2
  exact ⟨set_other_s c0 (by omega), set_other_s c1 (by omega), set3_c c2, own_apart (h.oL.keptR ho (by decide) hg) c2 (by decide) hs, (h.oP.keptB hu ho hg).apart c2 (by decide) hs, h4.apart c2 (by decide) hs, h.b1, h.b2, Nat.le_trans h.bs (Nat.le_trans hg.size hs.size),
    (h.bw.grown hg (Nat.le_trans (by omega) h.bs) (fun j e => by have := (World.ownsRow.lt ho j e).1; omega)).grown hs (by have := h.bs; have := hg.size; omega) (fun j e => by obtain rfl := Option.some.inj e; omega)⟩
theorem RowQ.block {Q : Option Addr → Nm → Prop} {w : World} {B : Nat} {v : Value} {l : List Gn} (h : RowQ Q w B v l) : ∀ q, v.ownBlock = some q → q < w.heap.size := fun q e => by
  obtain ⟨ss, _, h2, _⟩ := h
  exact (World.ownsRow.lt h2 q e).2
theorem rdSize : (Tryz.prog.info? 53).map (·.size) = some 3 := by kernel_rfl
theorem rdRes {fn : Func} {p : Tmp} (h : fn.results = #[.cell p 53]) (tmps : Array Value) (w : World) (g : Nat) (x y z : Value)
    (hp : tmps.getD p undef = .pointer (some ⟨g, 0, none⟩)) (hg : w.heap[g]? = some (.cells #[x, y, z] 53 (0, 0))) :
    (results fn tmps).run Tryz.prog w = .ok (.agg #[x, y, z]) w :=
  results_cell_row h tmps w g 53 #[x, y, z] (0, 0) _ hp hg Tryz.underlying53 rfl rdSize
theorem limTo_len (L : List Sub) (j : Nat) : (limTo L j).length ≤ 4 := by
  unfold limTo
  exact Nat.le_trans (List.length_filter_le _ _) (by rw [List.length_take]; exact Nat.min_le_right _ _)
theorem flatlen (L : List Sub) (K : Int) (m : Nat) (hmm : m ≤ 100) (hm : m = L.length) (hz : ∀ s ∈ L, s.1.length ≤ 100 ∧ s.2.length ≤ 100) : (L.flatMap (fun s => ofK K s.1)).length ≤ 1000000 := by
  have h := len_flat L (fun s => ofK K s.1) 100 (fun s hs => Nat.le_trans (ofK_len K s.1) (hz s hs).1)
  rw [← hm] at h
  omega
theorem kindlen (L : List Sub) (K : Int) (m : Nat) (hmm : m ≤ 100) (hm : m = L.length) (hz : ∀ s ∈ L, s.1.length ≤ 100 ∧ s.2.length ≤ 100) : (kindG L K).length ≤ 10000 := by
  have h1 := len_kind L K
  have h := len_flat L (fun s => s.1) 100 (fun s hs => (hz s hs).1)
  rw [← hm] at h
  omega
theorem rawlen (L : List Sub) (j : Nat) (m : Nat) (hmm : m ≤ 100) (hm : m = L.length) (hz : ∀ s ∈ L, s.1.length ≤ 100 ∧ s.2.length ≤ 100) : ((limTo L j).flatMap (kindG L)).length ≤ 40000 := by
  have h0 := limTo_len L j
  have key : ∀ ks : List Int, (ks.flatMap (kindG L)).length ≤ ks.length * 10000 := fun ks => by
    induction ks with
    | nil => simp
    | cons k r ih =>
      rw [List.flatMap_cons, List.length_append, List.length_cons, Nat.add_mul, Nat.one_mul]
      have := kindlen L k m hmm hm hz
      omega
  have := key (limTo L j)
  omega
theorem raw_sm {L : List Sub} (hs : SmS L) (j : Nat) : SmL ((limTo L j).flatMap (kindG L)) := fun g hg => by
  obtain ⟨k, _, h⟩ := List.mem_flatMap.1 hg
  obtain ⟨s, hs', h2⟩ := kind_mem h
  exact (hs s hs').1 g h2
theorem exc_sm {L : List Sub} (hs : SmS L) : SmL (L.flatMap (·.2)) := fun g hg => by
  obtain ⟨s, hs', h2⟩ := List.mem_flatMap.1 hg
  exact (hs s hs').2 g h2
theorem excTake (L : List Sub) (k : Nat) (h : k < L.length) : (L.take (k + 1)).flatMap (·.2) = (L.take k).flatMap (·.2) ++ (L.getD k noSub).2 := flat_take _ L k h noSub
theorem exclen (L : List Sub) (k m : Nat) (hmm : m ≤ 100) (hm : m = L.length) (hz : ∀ s ∈ L, s.1.length ≤ 100 ∧ s.2.length ≤ 100) : ((L.take k).flatMap (·.2)).length ≤ 10000 := by
  have h := len_flat (L.take k) (fun s => s.2) 100 (fun s hs => (hz s (List.mem_of_mem_take hs)).2)
  have h2 : (L.take k).length ≤ m := by rw [List.length_take, ← hm]; exact Nat.min_le_right _ _
  omega
theorem one_int (z : Int) : ∀ u ∈ [Value.int .i64 z], u.oneCell' = true := fun u hu => by rw [List.mem_singleton.1 hu]; rfl
theorem index_sk (k : Nat) (hk : k < 4) (w : World) : (Instr.index 74 (.agg #[.int .i64 1, .int .i64 2, .int .i64 4, .int .i64 7]) (.int .i64 (k : Int))).run Tryz.prog w = .ok (.int .i64 (kindsG.getD k 0)) w := by
  rcases (by omega : k = 0 ∨ k = 1 ∨ k = 2 ∨ k = 3) with rfl | rfl | rfl | rfl <;> kernel_rfl
end Go.Proofs.YtofadgmnjckpcaaGreatDoor
