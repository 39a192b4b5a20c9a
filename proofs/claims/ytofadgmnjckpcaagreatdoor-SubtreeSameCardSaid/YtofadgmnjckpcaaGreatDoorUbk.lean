/-
  What lies in memory while the program reduces a state; the append of a row that may be nil.
-/
import Derived.Test.YtofadgmnjckpcaaGreatDoorUbh
import Derived.Test.YtofadgmnjckpcaaGreatDoorUbi
import Derived.Test.YtofadgmnjckpcaaGreatDoorUbj
namespace Go.Proofs.YtofadgmnjckpcaaGreatDoor
open Go.RowKit

theorem wpList_append_y {P : Program} {w : World} {ops : Array Oper} {rest : List Oper} {o : Oper} {a : Act} {Q : Exit → Act → World → Prop} (hgd : o.guard = none) (s x : Operand) (t : TypeId)
    (ho : o.op = .call { callee := .builtin .append, args := #[s, x], argTypes := #[t, t] })
    (base : Nat) (e : TypeId) (i : TypeInfo) (z : Value) (size bytes : Nat) (ht : P.underlying t = some (.slice e)) (hi : P.info? e = some i) (hz : i.zero = some z)
    (hsize : i.size = size) (hby : i.bytes = bytes) (hzs : z.cells.size = size) (hsz : 0 < size)
    (v : Value) (n : Nat) (xs : List Value) (hs : a.eval s = v) (hown : w.ownsRow base e size v n xs)
    (ax : Option Addr) (m c : Nat) (news : List Value) (hx : a.eval x = .slice ax m c) (hax : ax = none → m = 0 ∧ c = 0) (hl : news.length = m * size) (hnews : ∀ ad, ax = some ad → ∀ j u, news[j]? = some u → w.cell? (ad.add j) = some u) (h1 : ∀ u ∈ news, u.oneCell' = true)
    (h63 : n + m ≤ maxLen) (hbytes : (n + m) * bytes ≤ 140737488355328) (hbase : base ≤ w.heap.size)
    (h : ∀ v' w', w'.ownsRow base e size v' (n + m) (xs ++ news) → w.grownBy w' v.ownBlock → wpList P ops Q rest (a.put o.dst v') w') : wpList P ops Q (o :: rest) a w := by
  cases ax with
  | none =>
    obtain ⟨rfl, rfl⟩ := hax rfl
    have h0 : news = [] := List.eq_nil_of_length_eq_zero (by omega)
    subst h0
    refine wpList_plain hgd fun K hK => ?_
    have hrun := run_append_owned_none (P := P) (w := w) base t o.type e i size ht hi v n xs hown
    unfold Oper.wp
    simp [execOp, ho, resolve, invoke, builtin, hs, hx, hrun, Result.andThen]
    exact hK _ _ (h _ _ (by rw [Nat.add_zero, List.append_nil]; exact hown) (World.grownBy.refl _ _))
  | some ad => exact wpList_append_own _ hgd s x t ho base e i z size bytes ht hi hz hsize hby hzs hsz v n xs hs hown ad m c news hx hl (hnews ad rfl) h1 h63 hbytes hbase (fun v' w' h2 h3 _ => h v' w' h2 h3)
theorem step_append_y {P : Program} {ops : Array Oper} {o : Oper} {a : Act} {w : World} {K : Act → World → Prop} {Q : Exit → Act → World → Prop} {E : Prop} (hgd : o.guard = none) (s x : Operand) (t : TypeId)
    (ho : o.op = .call { callee := .builtin .append, args := #[s, x], argTypes := #[t, t] })
    (base : Nat) (e : TypeId) (i : TypeInfo) (z : Value) (size bytes : Nat) (ht : P.underlying t = some (.slice e)) (hi : P.info? e = some i) (hz : i.zero = some z)
    (hsize : i.size = size) (hby : i.bytes = bytes) (hzs : z.cells.size = size) (hsz : 0 < size)
    (v : Value) (n : Nat) (xs : List Value) (hs : a.eval s = v) (hown : w.ownsRow base e size v n xs)
    (ax : Option Addr) (m c : Nat) (news : List Value) (hx : a.eval x = .slice ax m c) (hax : ax = none → m = 0 ∧ c = 0) (hl : news.length = m * size) (hnews : ∀ ad, ax = some ad → ∀ j u, news[j]? = some u → w.cell? (ad.add j) = some u) (h1 : ∀ u ∈ news, u.oneCell' = true)
    (h63 : n + m ≤ maxLen) (hbytes : (n + m) * bytes ≤ 140737488355328) (hbase : base ≤ w.heap.size)
    (h : ∀ v' w', w'.ownsRow base e size v' (n + m) (xs ++ news) → w.grownBy w' v.ownBlock → K (a.put o.dst v') w') :
    if Region.wanted o (yielded ops a.tmps) = true then Oper.wp P o a w K Q else E := by
  cases ax with
  | none =>
    obtain ⟨rfl, rfl⟩ := hax rfl
    have h0 : news = [] := List.eq_nil_of_length_eq_zero (by omega)
    subst h0
    exact step_append_none_s hgd s x t ho base e i size ht hi v n xs hs hown hx (h _ _ (by rw [Nat.add_zero, List.append_nil]; exact hown) (World.grownBy.refl _ _))
  | some ad => exact step_append_s hgd s x t ho base e i z size bytes ht hi hz hsize hby hzs hsz v n xs hs hown ad m c news hx hl (hnews ad rfl) h1 h63 hbytes hbase h
/-- The cells of a row of general names that may be nil. -/
theorem gliesq_opt {Q : Option Addr → Nm → Prop} {w : World} {a : Option Addr} {l : List Gn} (h : GLiesQ Q w a l) : ∃ ss : List Value, ss.length = l.length ∧ (∀ ad, a = some ad → ∀ j u, (gsCells l ss)[j]? = some u → w.cell? (ad.add j) = some u) ∧ (∀ i, i < l.length → ∃ a c, ss.getD i noS = .slice a (l.getD i noG).2.2.length c ∧ (l.getD i noG).2.2.length ≤ c ∧ Q a (l.getD i noG).2.2) ∧ (a = none → l = []) := by
  cases a with
  | some ad =>
    obtain ⟨ss, h1, h2, h3⟩ := gliesq_list h
    exact ⟨ss, h1, fun x e => by cases e; exact h2, h3, fun e => by cases e⟩
  | none =>
    have h0 : l = [] := by
      rcases h with h | ⟨b, o, h1, _⟩
      · exact h
      · cases h1
    subst h0
    exact ⟨[], rfl, fun x e => (by cases e), fun i hi => absurd hi (Nat.not_lt_zero _), fun _ => rfl⟩
theorem RowQ.lies' {Q : Option Addr → Nm → Prop} {w : World} {B : Nat} {v : Value} {l : List Gn} (h : RowQ Q w B v l) : ∃ a c, v = .slice a l.length c ∧ (a = none → c = 0) := by
  obtain ⟨ss, _, h2, _⟩ := h
  rcases h2.2 with ⟨hv, h0⟩ | ⟨g, cap, cur, hv, _⟩
  · exact ⟨none, 0, by rw [hv, h0], fun _ => rfl⟩
  · exact ⟨_, cap, hv, fun e => by cases e⟩
theorem RowQ.apart {Q : Option Addr → Nm → Prop} {w w' : World} {B g : Nat} {T : TypeId} {v : Value} {l : List Gn} {cs : Array Value} {f : Nat × Nat} (h : RowQ Q w B v l) (hc : w.heap[g]? = some (.cells cs T f)) (hT : T ≠ 32) (hg : But g w w') : RowQ Q w' B v l := by
  obtain ⟨ss, h1, h2, h3⟩ := h
  exact ⟨ss, h1, own_apart h2 hc hT hg, h3⟩
/-- A row of numbers of memory from block B on. -/
def OwnZ (w : World) (B : Nat) (v : Value) (zs : List Int) : Prop := w.ownsRow B 3 1 v zs.length (zs.map (Value.int .i64))
theorem OwnZ.nil (w : World) (B : Nat) : OwnZ w B (.slice none 0 0) [] := World.ownsRow_nil _ _ _ _
theorem OwnZ.lies {w : World} {B : Nat} {v : Value} {zs : List Int} (h : OwnZ w B v zs) : ∃ a c, v = .slice a zs.length c ∧ zs.length ≤ c ∧ ILies w a zs := by
  have hr : w.ownsRow B 3 1 v zs.length (zs.map (Value.int .i64)) := h
  rcases hr.2 with ⟨hv, h0⟩ | ⟨g, cap, cur, hv, _, _, hcap, _⟩
  · exact ⟨none, 0, by rw [hv, h0], by omega, .inl (List.eq_nil_of_length_eq_zero h0)⟩
  · refine ⟨_, cap, hv, hcap, .inr ⟨g, 0, rfl, fun i hi => ?_⟩⟩
    rw [hv] at hr
    rw [Nat.zero_add, World.ownsRow.cellAt hr i (by omega), List.getElem?_map, List.getElem?_eq_getElem hi, List.getD_eq_getElem?_getD, List.getElem?_eq_getElem hi]
    rfl
def nil3 : Array Value := #[.slice none 0 0, .slice none 0 0, .slice none 0 0]
/-- While a state is reduced: the result's cell, the variable r with its three rows, the second of them and the third in memory that is apart. -/
structure RdMid (Q : Option Addr → Nm → Prop) (sv : Value) (w W : World) (B2 : Nat) (uL uP uE : Value) (zs : List Int) (P E : List Gn) : Prop where
  r0 : W.heap[w.heap.size]? = some (.cells #[sv] 24 (0, 0))
  r1 : W.heap[w.heap.size + 1]? = some (.cells nil3 53 (0, 0))
  r2 : W.heap[w.heap.size + 2]? = some (.cells #[uL, uP, uE] 53 (0, 0))
  oL : OwnZ W (w.heap.size + 3) uL zs
  oP : RowQ Q W (w.heap.size + 3) uP P
  oE : RowQ Q W B2 uE E
  b2 : w.heap.size + 3 ≤ B2
  bs : w.heap.size + 3 ≤ W.heap.size
  bw : Below w.heap.size w W
theorem RdMid.below {Q : Option Addr → Nm → Prop} {sv : Value} {w W W' : World} {B2 : Nat} {uL uP uE : Value} {zs : List Int} {P E : List Gn} (h : RdMid Q sv w W B2 uL uP uE zs P E) (hb : Below W.heap.size W W') : RdMid Q sv w W' B2 uL uP uE zs P E :=
  ⟨(hb.block _ (Array.getElem?_eq_some_iff.1 h.r0).1).trans h.r0, (hb.block _ (Array.getElem?_eq_some_iff.1 h.r1).1).trans h.r1, (hb.block _ (Array.getElem?_eq_some_iff.1 h.r2).1).trans h.r2, own_below h.oL hb, h.oP.below hb, h.oE.below hb, h.b2, Nat.le_trans h.bs hb.size, below_next h.bw hb⟩
theorem set3_a {w : World} {g : Nat} {x y z a : Value} {t : TypeId} (h : w.heap[g]? = some (.cells #[x, y, z] t (0, 0))) : (w.setCell ⟨g, 0, none⟩ a).heap[g]? = some (.cells #[a, y, z] t (0, 0)) := by
  simp [World.setCell, Array.getElem?_modify, h]
theorem set3_b {w : World} {g : Nat} {x y z a : Value} {t : TypeId} (h : w.heap[g]? = some (.cells #[x, y, z] t (0, 0))) : (w.setCell ⟨g, 1, none⟩ a).heap[g]? = some (.cells #[x, a, z] t (0, 0)) := by
  simp [World.setCell, Array.getElem?_modify, h]
theorem set3_c {w : World} {g : Nat} {x y z a : Value} {t : TypeId} (h : w.heap[g]? = some (.cells #[x, y, z] t (0, 0))) : (w.setCell ⟨g, 2, none⟩ a).heap[g]? = some (.cells #[x, y, a] t (0, 0)) := by
  simp [World.setCell, Array.getElem?_modify, h]
/-- A row grows; then the variable is stored. -/
theorem RdMid.pushL {Q : Option Addr → Nm → Prop} {sv : Value} {w W W' : World} {B2 : Nat} {uL uP uE u' : Value} {zs : List Int} {P E : List Gn} {z : Int} (h : RdMid Q sv w W B2 uL uP uE zs P E) (hg : W.grownBy W' uL.ownBlock) (h4 : W'.ownsRow (w.heap.size + 3) 3 1 u' (zs.length + 1) (zs.map (Value.int .i64) ++ [.int .i64 z])) :
    RdMid Q sv w (W'.setCell ⟨w.heap.size + 2, 0, none⟩ u') B2 u' uP uE (zs ++ [z]) P E := by
  have hs := But.set (w.heap.size + 2) 0 W' u'
  have c0 := (row_block h.oL hg (Array.getElem?_eq_some_iff.1 h.r0).1 (by omega)).trans h.r0
  have c1 := (row_block h.oL hg (Array.getElem?_eq_some_iff.1 h.r1).1 (by omega)).trans h.r1
  have c2 := (row_block h.oL hg (Array.getElem?_eq_some_iff.1 h.r2).1 (by omega)).trans h.r2
  exact ⟨set_other_s c0 (by omega), set_other_s c1 (by omega), set3_a c2, own_apart (show W'.ownsRow (w.heap.size + 3) 3 1 u' (zs ++ [z]).length ((zs ++ [z]).map (Value.int .i64)) by rw [List.length_append, List.map_append]; exact h4) c2 (by decide) hs,
    (h.oP.keptR h.oL (by decide) hg).apart c2 (by decide) hs, (h.oE.keptR h.oL (by decide) hg).apart c2 (by decide) hs, h.b2, Nat.le_trans h.bs (Nat.le_trans hg.size hs.size),
    (h.bw.grown hg (Nat.le_trans (by omega) h.bs) (fun j e => by have := (World.ownsRow.lt h.oL j e).1; omega)).grown hs (by have := h.bs; have := hg.size; omega) (fun j e => by obtain rfl := Option.some.inj e; omega)⟩
theorem OwnZ.keptR {w w' : World} {B B' k m : Nat} {T : TypeId} {v u : Value} {zs : List Int} {xs : List Value} (h : OwnZ w B u zs) (ho : w.ownsRow B' T k v m xs) (h0 : 3 ≠ T) (hg : w.grownBy w' v.ownBlock) : OwnZ w' B u zs := World.ownsRow.kept h hg (rows_apart h ho h0)
theorem RowL.keptR {Q : Option Addr → Nm → Prop} {w w' : World} {B B' k m : Nat} {T : TypeId} {v u : Value} {L : List (List Gn)} {xs : List Value} (h : RowL Q w B u L) (ho : w.ownsRow B' T k v m xs) (h0 : 32 ≠ T) (h1 : 25 ≠ T) (hg : w.grownBy w' v.ownBlock) : RowL Q w' B u L := by
  obtain ⟨vs, q1, q2, q3⟩ := h
  exact ⟨vs, q1, World.ownsRow.kept q2 hg (rows_apart q2 ho h1), fun i hi => (q3 i hi).keptR ho h0 hg⟩
theorem RowL.apart {Q : Option Addr → Nm → Prop} {w w' : World} {B g : Nat} {T : TypeId} {v : Value} {L : List (List Gn)} {cs : Array Value} {f : Nat × Nat} (h : RowL Q w B v L) (hc : w.heap[g]? = some (.cells cs T f)) (hT : T ≠ 32) (h1 : T ≠ 25) (hg : But g w w') : RowL Q w' B v L := by
  obtain ⟨vs, q1, q2, q3⟩ := h
  exact ⟨vs, q1, own_apart q2 hc h1 hg, fun i hi => (q3 i hi).apart hc hT hg⟩
theorem RdMid.rowL {Q Q' : Option Addr → Nm → Prop} {sv : Value} {w W W' : World} {B2 B : Nat} {uL uP uE u' u : Value} {zs : List Int} {P E : List Gn} {X : List (List Gn)} (h : RdMid Q sv w W B2 uL uP uE zs P E) (hg : W.grownBy W' uL.ownBlock) (hx : RowL Q' W B u X) : RowL Q' (W'.setCell ⟨w.heap.size + 2, 0, none⟩ u') B u X := by
  have c2 := (row_block h.oL hg (Array.getElem?_eq_some_iff.1 h.r2).1 (by omega)).trans h.r2
  exact (hx.keptR h.oL (by decide) (by decide) hg).apart c2 (by decide) (by decide) (But.set (w.heap.size + 2) 0 W' u')
theorem own_formz {w : World} {B k n : Nat} {e : TypeId} {v : Value} {xs : List Value} (h : w.ownsRow B e k v n xs) : ∃ a c, v = .slice a n c ∧ (a = none → c = 0) := by
  rcases h.2 with ⟨hv, h0⟩ | ⟨g, cap, cur, hv, _⟩
  · exact ⟨none, 0, by rw [hv, h0], fun _ => rfl⟩
  · exact ⟨_, cap, hv, fun e => by cases e⟩
theorem RdMid.pushP {Q : Option Addr → Nm → Prop} {sv : Value} {w W W' : World} {B2 : Nat} {uL uP u' : Value} {zs : List Int} {P K : List Gn} (h : RdMid Q sv w W B2 uL uP (.slice none 0 0) zs P []) {n : Nat} {xs : List Value} (ho : W.ownsRow (w.heap.size + 3) 32 3 uP n xs) (hg : W.grownBy W' uP.ownBlock) (h4 : RowQ Q W' (w.heap.size + 3) u' (P ++ K)) :
    RdMid Q sv w (W'.setCell ⟨w.heap.size + 2, 1, none⟩ u') B2 uL u' (.slice none 0 0) zs (P ++ K) [] := by
  have hs := But.set (w.heap.size + 2) 1 W' u'
  have c0 := (row_block ho hg (Array.getElem?_eq_some_iff.1 h.r0).1 (by omega)).trans h.r0
  have c1 := (row_block ho hg (Array.getElem?_eq_some_iff.1 h.r1).1 (by omega)).trans h.r1
  have c2 := (row_block ho hg (Array.getElem?_eq_some_iff.1 h.r2).1 (by omega)).trans h.r2
  exact ⟨set_other_s c0 (by omega), set_other_s c1 (by omega), set3_b c2, own_apart (h.oL.keptR ho (by decide) hg) c2 (by decide) hs, h4.apart c2 (by decide) hs, RowQ.nil _ _ _, h.b2, Nat.le_trans h.bs (Nat.le_trans hg.size hs.size),
    (h.bw.grown hg (Nat.le_trans (by omega) h.bs) (fun j e => by have := (World.ownsRow.lt ho j e).1; omega)).grown hs (by have := h.bs; have := hg.size; omega) (fun j e => by obtain rfl := Option.some.inj e; omega)⟩
theorem RowQ.keptB {Q : Option Addr → Nm → Prop} {w w' : World} {B B' k m : Nat} {T : TypeId} {v u : Value} {l : List Gn} {xs : List Value} (h : RowQ Q w B u l) (hu : ∀ q, u.ownBlock = some q → q < B') (ho : w.ownsRow B' T k v m xs) (hg : w.grownBy w' v.ownBlock) : RowQ Q w' B u l := by
  obtain ⟨ss, q1, q2, q3⟩ := h
  refine ⟨ss, q1, World.ownsRow.kept q2 hg ?_, q3⟩
  cases hu0 : u.ownBlock with
  | none => exact .inl rfl
  | some q =>
    refine .inr (fun e => ?_)
    have h1 := hu q hu0
    have h2 := (World.ownsRow.lt ho q (e.symm)).1
    omega
theorem RdMid.pushE {Q : Option Addr → Nm → Prop} {sv : Value} {w W W' : World} {B2 : Nat} {uL uP uE u' : Value} {zs : List Int} {P E K : List Gn} (h : RdMid Q sv w W B2 uL uP uE zs P E) (hu : ∀ q, uP.ownBlock = some q → q < B2) {n : Nat} {xs : List Value} (ho : W.ownsRow B2 32 3 uE n xs) (hg : W.grownBy W' uE.ownBlock) (h4 : RowQ Q W' B2 u' (E ++ K)) :
    RdMid Q sv w (W'.setCell ⟨w.heap.size + 2, 2, none⟩ u') B2 uL uP u' zs P (E ++ K) := by
  have hs := But.set (w.heap.size + 2) 2 W' u'
  have hb2 := h.b2
  have c0 := (row_block ho hg (Array.getElem?_eq_some_iff.1 h.r0).1 (by omega)).trans h.r0
  have c1 := (row_block ho hg (Array.getElem?_eq_some_iff.1 h.r1).1 (by omega)).trans h.r1
  have c2 := (row_block ho hg (Array.getElem?_eq_some_iff.1 h.r2).1 (by omega)).trans h.r2
  exact ⟨set_other_s c0 (by omega), set_other_s c1 (by omega), set3_c c2, own_apart (h.oL.keptR ho (by decide) hg) c2 (by decide) hs, (h.oP.keptB hu ho hg).apart c2 (by decide) hs, h4.apart c2 (by decide) hs, h.b2, Nat.le_trans h.bs (Nat.le_trans hg.size hs.size),
    (h.bw.grown hg (Nat.le_trans (by omega) h.bs) (fun j e => by have := (World.ownsRow.lt ho j e).1; omega)).grown hs (by have := h.bs; have := hg.size; omega) (fun j e => by obtain rfl := Option.some.inj e; omega)⟩
theorem RowQ.block {Q : Option Addr → Nm → Prop} {w : World} {B : Nat} {v : Value} {l : List Gn} (h : RowQ Q w B v l) : ∀ q, v.ownBlock = some q → q < w.heap.size := fun q e => by
  obtain ⟨ss, _, h2, _⟩ := h
  exact (World.ownsRow.lt h2 q e).2
theorem rdSize : (Tryz.prog.info? 53).map (·.size) = some 3 := by kernel_rfl
theorem rdRes {fn : Func} {p : Tmp} (h : fn.results = #[.cell p 53]) (tmps : Array Value) (w : World) (g : Nat) (x y z : Value)
    (hp : tmps.getD p undef = .pointer (some ⟨g, 0, none⟩)) (hg : w.heap[g]? = some (.cells #[x, y, z] 53 (0, 0))) :
    (results fn tmps).run Tryz.prog w = .ok (.agg #[x, y, z]) w :=
  results_cell_row h tmps w g 53 #[x, y, z] (0, 0) _ hp hg Tryz.underlying53 rfl rdSize
theorem limTo_len (L : List Sub) (j : Nat) : (limTo L j).length ≤ 4 := by
  unfold limTo
  exact Nat.le_trans (List.length_filter_le _ _) (by rw [List.length_take]; exact Nat.min_le_right _ _)
theorem flatlen (L : List Sub) (K : Int) (m : Nat) (hmm : m ≤ 100) (hm : m = L.length) (hz : ∀ s ∈ L, s.1.length ≤ 100 ∧ s.2.length ≤ 100) : (L.flatMap (fun s => ofK K s.1)).length ≤ 1000000 := by
  have h := len_flat L (fun s => ofK K s.1) 100 (fun s hs => Nat.le_trans (ofK_len K s.1) (hz s hs).1)
  rw [← hm] at h
  omega
theorem kindlen (L : List Sub) (K : Int) (m : Nat) (hmm : m ≤ 100) (hm : m = L.length) (hz : ∀ s ∈ L, s.1.length ≤ 100 ∧ s.2.length ≤ 100) : (kindG L K).length ≤ 10000 := by
  have h1 := len_kind L K
  have h := len_flat L (fun s => s.1) 100 (fun s hs => (hz s hs).1)
  rw [← hm] at h
  omega
theorem rawlen (L : List Sub) (j : Nat) (m : Nat) (hmm : m ≤ 100) (hm : m = L.length) (hz : ∀ s ∈ L, s.1.length ≤ 100 ∧ s.2.length ≤ 100) : ((limTo L j).flatMap (kindG L)).length ≤ 40000 := by
  have h0 := limTo_len L j
  have key : ∀ ks : List Int, (ks.flatMap (kindG L)).length ≤ ks.length * 10000 := fun ks => by
    induction ks with
    | nil => simp
    | cons k r ih =>
      rw [List.flatMap_cons, List.length_append, List.length_cons, Nat.add_mul, Nat.one_mul]
      have := kindlen L k m hmm hm hz
      omega
  have := key (limTo L j)
  omega
theorem raw_sm {L : List Sub} (hs : SmS L) (j : Nat) : SmL ((limTo L j).flatMap (kindG L)) := fun g hg => by
  obtain ⟨k, _, h⟩ := List.mem_flatMap.1 hg
  obtain ⟨s, hs', h2⟩ := kind_mem h
  exact (hs s hs').1 g h2
theorem exc_sm {L : List Sub} (hs : SmS L) : SmL (L.flatMap (·.2)) := fun g hg => by
  obtain ⟨s, hs', h2⟩ := List.mem_flatMap.1 hg
  exact (hs s hs').2 g h2
theorem excTake (L : List Sub) (k : Nat) (h : k < L.length) : (L.take (k + 1)).flatMap (·.2) = (L.take k).flatMap (·.2) ++ (L.getD k noSub).2 := flat_take _ L k h noSub
theorem exclen (L : List Sub) (k m : Nat) (hmm : m ≤ 100) (hm : m = L.length) (hz : ∀ s ∈ L, s.1.length ≤ 100 ∧ s.2.length ≤ 100) : ((L.take k).flatMap (·.2)).length ≤ 10000 := by
  have h := len_flat (L.take k) (fun s => s.2) 100 (fun s hs => (hz s (List.mem_of_mem_take hs)).2)
  have h2 : (L.take k).length ≤ m := by rw [List.length_take, ← hm]; exact Nat.min_le_right _ _
  omega
theorem one_int (z : Int) : ∀ u ∈ [Value.int .i64 z], u.oneCell' = true := fun u hu => by rw [List.mem_singleton.1 hu]; rfl
theorem index_sk (k : Nat) (hk : k < 4) (w : World) : (Instr.index 74 (.agg #[.int .i64 1, .int .i64 2, .int .i64 4, .int .i64 7]) (.int .i64 (k : Int))).run Tryz.prog w = .ok (.int .i64 (kindsG.getD k 0)) w := by
  rcases (by omega : k = 0 ∨ k = 1 ∨ k = 2 ∨ k = 3) with rfl | rfl | rfl | rfl <;> kernel_rfl
end Go.Proofs.YtofadgmnjckpcaaGreatDoor
