/-
  Elements that Wrap writes, in ascending order, one after the other: List reads them back, and they ascend.
-/
import Derived.Test.YtgpockpfefjjkaaTrorder
import Derived.Test.YtgpockpfefjjkaaTcanon3
import Derived.Test.YtgpockpfefjjkaaTfew
namespace Go.Proofs.Ytgpockpfefjjkaa
open Go.RowKit

/-- The element of OCTETS with the content s: its bytes, and what the law writes. -/
def encS (s : ByteArray) : ByteArray := ⟨(wrapL 4 s.data.toList).toArray⟩
def elS (s : ByteArray) : El := (4, s, encS s)
theorem wrap_encS {s : ByteArray} (h : s.size ≤ 131072) : wrapVal 4 (cat [s]) = .tuple #[.string (encS s), .int .i64 0] := by
  have hcat : cat [s] = s.data.toList := by simp [cat]
  have hcl : s.data.toList.length = s.size := rfl
  have e : wrapErr 4 (cat [s]).length = 0 := by
    unfold wrapErr
    rw [if_neg (by omega), if_neg (by rw [hcat, hcl]; omega)]
  unfold wrapVal wrapStr
  rw [e, if_pos rfl, hcat]
  rfl

/-- List reads back what Wrap wrote. -/
theorem lst_wraps : ∀ (L : List (List UInt8)), (∀ x ∈ L, ∃ c : List UInt8, c.length ≤ 131072 ∧ x = wrapL 4 c) → ∀ b : ByteArray, b.data.toList = L.flatten →
    ∃ els : List El, lst b = (els, 0) ∧ els.map (fun e => e.2.2.data.toList) = L
  | [], _, b, hb => ⟨[], lst_nil (by rw [size_list hb]; rfl), rfl⟩
  | x :: L, h, b, hb => by
    obtain ⟨c, hc, rfl⟩ := h x List.mem_cons_self
    have hb2 : b.data.toList = wrapL 4 c ++ L.flatten := by rw [hb, List.flatten_cons]
    have hr := rd_wrap (t := 4) (by omega) (by omega) hc hb2
    have he : rdErr b = 0 := by unfold rdErr; rw [hr]
    have hv := read_wrap (t := 4) (by omega) (by omega) hc hb2
    rw [rdVal_good he] at hv
    have h0 : b.size ≠ 0 := by
      rw [size_list hb2]
      unfold wrapL
      simp
    have e2 : rdRaw b = ⟨(wrapL 4 c).toArray⟩ := by
      simp only [Value.tuple.injEq, Array.mk.injEq, List.cons.injEq, Value.agg.injEq, Value.string.injEq] at hv
      exact hv.1.2.2.1
    have e3 : rdRest b = ⟨L.flatten.toArray⟩ := by
      simp only [Value.tuple.injEq, Array.mk.injEq, List.cons.injEq, Value.agg.injEq, Value.string.injEq] at hv
      exact hv.2.1
    obtain ⟨els, i1, i2⟩ := lst_wraps L (fun x hx => h x (List.mem_cons_of_mem _ hx)) (rdRest b) (by rw [e3])
    refine ⟨rdElem b :: els, ?_, ?_⟩
    · rw [lst_step h0 he, i1, if_pos rfl]
    · rw [List.map_cons, i2]
      unfold rdElem
      rw [e2]

theorem ordL_sorted (L : List (List UInt8)) : (ordL L).Pairwise (fun a b => ¬ b < a) := by
  have tr : ∀ a b c : List UInt8, decide (a ≤ b) = true → decide (b ≤ c) = true → decide (a ≤ c) = true := fun a b c h1 h2 => by simp only [decide_eq_true_eq] at *; exact List.le_trans h1 h2
  have tot : ∀ a b : List UInt8, (decide (a ≤ b) || decide (b ≤ a)) = true := fun a b => by simp only [Bool.or_eq_true, decide_eq_true_eq]; exact List.le_total a b
  exact (List.pairwise_mergeSort tr tot L).imp fun {a b} hh => List.not_lt.2 (of_decide_eq_true hh)

theorem asc_of {els : List El} {L : List (List UInt8)} (h : els.map (fun e => e.2.2.data.toList) = L) (hs : L.Pairwise (fun a b => ¬ b < a)) : ascP els els.length := by
  intro i h1 h2
  have hl : els.length = L.length := by rw [← h, List.length_map]
  have g : ∀ j (hj : j < L.length), rawAt els j = L[j] := fun j hj => by
    unfold rawAt
    rw [List.getD_eq_getElem?_getD, List.getElem?_eq_getElem (by omega)]
    simp only [← h, List.getElem_map, Option.getD_some]
  rw [g i (by omega), g (i - 1) (by omega)]
  exact List.pairwise_iff_getElem.1 hs (i - 1) i (by omega) (by omega) (by omega)

/-- What List answers for the ordered elements. -/
theorem lst_ord (ss : List ByteArray) (h : ∀ s ∈ ss, s.size ≤ 131072) : ∃ els : List El, lst ⟨(ordL (lists (ss.map encS))).flatten.toArray⟩ = (els, 0) ∧ els.length = ss.length ∧ ascP els els.length := by
  obtain ⟨els, h1, h2⟩ := lst_wraps (ordL (lists (ss.map encS))) (fun x hx => by
    have hx2 := (ordL_perm _).mem_iff.1 hx
    simp only [lists, List.mem_map] at hx2
    obtain ⟨_, ⟨s, hs, rfl⟩, rfl⟩ := hx2
    exact ⟨s.data.toList, h s hs, rfl⟩) ⟨(ordL (lists (ss.map encS))).flatten.toArray⟩ rfl
  refine ⟨els, h1, ?_, asc_of h2 (ordL_sorted _)⟩
  have := congrArg List.length h2
  rw [List.length_map, ordL_length] at this
  rw [this]
  simp [lists]

theorem few_law100 (v : Value) (ss : List ByteArray) (w : World) (hv : Reads w v ss) :
    Calls Try.prog 18 #[v, .int .i64 20, .int .i64 100] w fun e w' => e = .returned (.bool (fewB ss 20 100)) ∧ w = w' := few_any v ss 20 100 w hv (by omega)
theorem few_each {n m : Nat} {ss : List ByteArray} (h : fewB ss n m = true) : ss.length ≤ n ∧ ∀ s ∈ ss, s.size ≤ m := by
  simp only [fewB, Bool.and_eq_true, decide_eq_true_eq, List.all_eq_true] at h
  exact h
theorem encS_size {s : ByteArray} (h : s.size ≤ 100) : (encS s).size ≤ 200 := by
  show (wrapL 4 s.data.toList).toArray.size ≤ 200
  unfold wrapL
  have := lsz_le s.data.toList.length
  have hcl : s.data.toList.length = s.size := rfl
  simp only [List.size_toArray, List.length_cons, List.length_append, lenO_length]
  omega
theorem cat_each (m : Nat) : ∀ {ss : List ByteArray}, (∀ s ∈ ss, s.size ≤ m) → (cat ss).length ≤ ss.length * m
  | [], _ => by simp [cat]
  | a :: t, h => by
    have ih := cat_each m (ss := t) fun x hx => h x (List.mem_cons_of_mem _ hx)
    have h1 : a.data.toList.length ≤ m := h a List.mem_cons_self
    have : cat (a :: t) = a.data.toList ++ cat t := by simp [cat]
    rw [this, List.length_append, List.length_cons, Nat.add_mul]; omega

/-- Two values share no block. -/
def Apart (u v : Value) : Prop := ∀ g, u.ownBlock = some g → v.ownBlock = some g → False
theorem Apart.symm {u v : Value} (h : Apart u v) : Apart v u := fun g a b => h g b a
theorem own_keep {w w' : World} {B : Nat} {e : TypeId} {k n : Nat} {u v : Value} {xs : List Value} (hu : w.ownsRow B e k u n xs) (hg : w.grownBy w' v.ownBlock) (hd : Apart u v) : w'.ownsRow B e k u n xs := by
  refine World.ownsRow.kept hu hg ?_
  cases hb : u.ownBlock with
  | none => exact .inl rfl
  | some g => exact .inr fun e => hd g hb e.symm
theorem apart_step {w : World} {B : Nat} {e : TypeId} {k n : Nat} {u v v' : Value} {xs : List Value} (hu : w.ownsRow B e k u n xs) (hd : Apart u v) (hat : v'.ownBlock = v.ownBlock ∨ v'.ownBlock = some w.heap.size) : Apart u v' := by
  intro g h1 h2
  rcases hat with hat | hat
  · exact hd g h1 (by rw [← hat]; exact h2)
  · have h3 := (World.ownsRow.lt hu g h1).2
    rw [hat] at h2
    have := Option.some.inj h2
    omega
/-- The law's three slices. -/
def Tri (w wr : World) (v1 v2 v3 : Value) (L1 L2 : List ByteArray) (L3 : List El) : Prop :=
  OwnS wr w.heap.size v1 L1 ∧ OwnS wr w.heap.size v2 L2 ∧ OwnE wr w.heap.size v3 L3 ∧ Apart v1 v2 ∧ Apart v1 v3 ∧ Apart v2 v3 ∧ Below w.heap.size w wr
theorem Tri.nil (w : World) : Tri w w (.slice none 0 0) (.slice none 0 0) (.slice none 0 0) [] [] [] :=
  ⟨World.ownsRow_nil _ _ _ _, World.ownsRow_nil _ _ _ _, World.ownsRow_nil _ _ _ _, fun _ h => by simp [Value.ownBlock] at h, fun _ h => by simp [Value.ownBlock] at h, fun _ h => by simp [Value.ownBlock] at h, Below.refl _ _⟩
theorem Tri.below {w wr w' : World} {v1 v2 v3 : Value} {L1 L2 : List ByteArray} {L3 : List El} (h : Tri w wr v1 v2 v3 L1 L2 L3) (hb : Below wr.heap.size wr w') : Tri w w' v1 v2 v3 L1 L2 L3 := by
  obtain ⟨a, b, c, d, e, f, g⟩ := h
  exact ⟨own_below a hb, own_below b hb, own_below c hb, d, e, f, below_next g hb⟩
theorem Tri.alloc {w wr : World} {v1 v2 v3 : Value} {L1 L2 : List ByteArray} {L3 : List El} (h : Tri w wr v1 v2 v3 L1 L2 L3) (o : Obj) : Tri w (wr.alloc o) v1 v2 v3 L1 L2 L3 :=
  h.below (belowNew wr o)
theorem Tri.first {w wr w2 : World} {v1 v2 v3 v' : Value} {L1 L2 : List ByteArray} {L3 : List El} {s : ByteArray} (h : Tri w wr v1 v2 v3 L1 L2 L3)
    (ho : w2.ownsRow w.heap.size 9 1 v' (L1.length + 1) (L1.map Value.string ++ [Value.string s])) (hg : wr.grownBy w2 v1.ownBlock) (hat : v'.ownBlock = v1.ownBlock ∨ v'.ownBlock = some wr.heap.size) :
    Tri w w2 v' v2 v3 (L1 ++ [s]) L2 L3 := by
  obtain ⟨a, b, c, d, e, f, g⟩ := h
  refine ⟨?_, own_keep b hg d.symm, own_keep c hg e.symm, (apart_step b d.symm hat).symm, (apart_step c e.symm hat).symm, f, g.grown hg g.size (fun k e => (World.ownsRow.lt a k e).1)⟩
  unfold OwnS
  simpa using ho
theorem Tri.second {w wr w2 : World} {v1 v2 v3 v' : Value} {L1 L2 : List ByteArray} {L3 : List El} {s : ByteArray} (h : Tri w wr v1 v2 v3 L1 L2 L3)
    (ho : w2.ownsRow w.heap.size 9 1 v' (L2.length + 1) (L2.map Value.string ++ [Value.string s])) (hg : wr.grownBy w2 v2.ownBlock) (hat : v'.ownBlock = v2.ownBlock ∨ v'.ownBlock = some wr.heap.size) :
    Tri w w2 v1 v' v3 L1 (L2 ++ [s]) L3 := by
  obtain ⟨a, b, c, d, e, f, g⟩ := h
  refine ⟨own_keep a hg d, ?_, own_keep c hg f.symm, apart_step a d hat, e, (apart_step c f.symm hat).symm, g.grown hg g.size (fun k e => (World.ownsRow.lt b k e).1)⟩
  unfold OwnS
  simpa using ho
theorem Tri.third {w wr w2 : World} {v1 v2 v3 v' : Value} {L1 L2 : List ByteArray} {L3 : List El} {x : El} (h : Tri w wr v1 v2 v3 L1 L2 L3)
    (ho : w2.ownsRow w.heap.size 43 3 v' (L3.length + 1) (elsCells L3 ++ elCells x)) (hg : wr.grownBy w2 v3.ownBlock) (hat : v'.ownBlock = v3.ownBlock ∨ v'.ownBlock = some wr.heap.size) :
    Tri w w2 v1 v2 v' L1 L2 (L3 ++ [x]) := by
  obtain ⟨a, b, c, d, e, f, g⟩ := h
  refine ⟨own_keep a hg e, own_keep b hg f, ?_, d, apart_step a e hat, apart_step b f hat, g.grown hg g.size (fun k e => (World.ownsRow.lt c k e).1)⟩
  unfold OwnE
  rw [List.length_append, elsCells_snoc]
  exact ho
theorem Tri.next {w wr : World} {v1 v2 v3 : Value} {D ss : List ByteArray} {s x : ByteArray} {k : Nat} (h : Tri w wr v1 v2 v3 (D ++ [s]) (D.map encS ++ [x]) (D.map elS ++ [(4, s, x)])) (hx : x = encS s) (hD : D = ss.take k) (hk : k < ss.length)
    (hs : s = ss.getD k ByteArray.empty) : Tri w wr v1 v2 v3 (ss.take (k + 1)) ((ss.take (k + 1)).map encS) ((ss.take (k + 1)).map elS) := by
  have e : ss.take (k + 1) = D ++ [s] := by
    rw [List.take_succ_eq_append_getElem hk, hs, hD]
    simp [hk]
  rw [e, List.map_append, List.map_append]
  subst hx
  exact h
theorem el_news (W : World) (g : Nat) (hg : g = W.heap.size) (s x : ByteArray) :
    ∀ j u, (elCells (4, s, x))[j]? = some u → (W.alloc (.cells #[.int .i64 4, .string s, .string x] 43)).cell? ((⟨g, 0, none⟩ : Addr).add j) = some u := by
  intro j u h
  subst hg
  exact news_row W (elCells (4, s, x)).toArray 43 j u h
theorem OwnS.reads {w : World} {B : Nat} {v : Value} {D : List ByteArray} (h : OwnS w B v D) : Reads w v D := h.lies

/-- The law's calls behind the loop. -/
theorem law_order {w w0 : World} {v1 v2 v3 : Value} {L1 L2 : List ByteArray} {L3 : List El} (h : Tri w w0 v1 v2 v3 L1 L2 L3) (hn : L1.length ≤ 20) (hm : ∀ s ∈ L1, s.size ≤ 200) (S : ByteArray) (hS : S = ⟨(ordL (lists L1)).flatten.toArray⟩) :
    Calls Try.prog 22 #[v1] w0 fun e w' => e = .returned (.string S) ∧ Below w0.heap.size w0 w' := by
  rw [hS]
  exact order_any v1 L1 w0 h.1.reads (by omega) (by have := cat_each 200 hm; omega)
theorem law_rorder {w w0 : World} {v1 v2 v3 : Value} {L1 L2 : List ByteArray} {L3 : List El} (h : Tri w w0 v1 v2 v3 L1 L2 L3) (hn : L1.length ≤ 20) (hm : ∀ s ∈ L1, s.size ≤ 200) (S : ByteArray) (hS : S = ⟨(ordL (lists L1)).flatten.toArray⟩) :
    Calls Try.prog 23 #[v1] w0 fun e w' => e = .returned (.string S) ∧ Below w0.heap.size w0 w' := by
  rw [hS]
  exact rorder_any v1 L1 w0 h.1.reads (by omega) (by have := cat_each 200 hm; omega)
theorem law_order2 {w w0 : World} {v1 v2 v3 : Value} {L1 L2 : List ByteArray} {L3 : List El} (h : Tri w w0 v1 v2 v3 L1 L2 L3) (hn : L2.length ≤ 20) (hm : ∀ s ∈ L2, s.size ≤ 200) (S : ByteArray) (hS : S = ⟨(ordL (lists L2)).flatten.toArray⟩) :
    Calls Try.prog 22 #[v2] w0 fun e w' => e = .returned (.string S) ∧ Below w0.heap.size w0 w' := by
  rw [hS]
  exact order_any v2 L2 w0 h.2.1.reads (by omega) (by have := cat_each 200 hm; omega)
theorem law_asc {B : Nat} {w0 : World} {v : Value} {l : List El} (h : OwnE w0 B v l) (hn : l.length ≤ 20) (b : Bool) (hb : b = true ↔ ascP l l.length) :
    Calls Try.prog 24 #[v] w0 fun e w' => e = .returned (.bool b) ∧ Below w0.heap.size w0 w' :=
  (asc_any B v l w0 h (by omega)).mono fun _ _ ⟨⟨b2, e2, h2⟩, hw⟩ => ⟨by rw [e2, Bool.eq_iff_iff.2 (h2.trans hb.symm)], hw⟩
theorem law_rasc {B : Nat} {w0 : World} {v : Value} {l : List El} (h : OwnE w0 B v l) (hn : l.length ≤ 20) (b : Bool) (hb : b = true ↔ ascP l l.length) :
    Calls Try.prog 25 #[v] w0 fun e w' => e = .returned (.bool b) ∧ Below w0.heap.size w0 w' :=
  (rasc_any B v l w0 h (by omega)).mono fun _ _ ⟨⟨b2, e2, h2⟩, hw⟩ => ⟨by rw [e2, Bool.eq_iff_iff.2 (h2.trans hb.symm)], hw⟩
theorem law_asc3 {w w0 : World} {v1 v2 v3 : Value} {L1 L2 : List ByteArray} {L3 : List El} (h : Tri w w0 v1 v2 v3 L1 L2 L3) (hn : L3.length ≤ 20) (b : Bool) (hb : b = true ↔ ascP L3 L3.length) :
    Calls Try.prog 24 #[v3] w0 fun e w' => e = .returned (.bool b) ∧ Below w0.heap.size w0 w' := law_asc h.2.2.1 hn b hb
theorem law_rasc3 {w w0 : World} {v1 v2 v3 : Value} {L1 L2 : List ByteArray} {L3 : List El} (h : Tri w w0 v1 v2 v3 L1 L2 L3) (hn : L3.length ≤ 20) (b : Bool) (hb : b = true ↔ ascP L3 L3.length) :
    Calls Try.prog 25 #[v3] w0 fun e w' => e = .returned (.bool b) ∧ Below w0.heap.size w0 w' := law_rasc h.2.2.1 hn b hb
theorem law_ascs {B : Nat} {w0 : World} {v : Value} {l : List El} (h : OwnE w0 B v l) (hn : l.length ≤ 20) (hb : ascP l l.length) :
    Calls Try.prog 24 #[v] w0 fun e w' => e = .returned (.bool true) ∧ Below w0.heap.size w0 w' := law_asc h hn true ⟨fun _ => hb, fun _ => rfl⟩
theorem OwnE.old {B : Nat} {w w' : World} {v : Value} {l : List El} (h : OwnE w B v l) (hb : Below w.heap.size w w') : OwnE w' B v l := own_below h hb
theorem law_list {S : ByteArray} {els : List El} {n : Nat} (hS : lst S = (els, 0)) (hn : els.length = n) (hz : S.size ≤ 1099511627776) (w0 : World) :
    Calls Try.prog 26 #[.string S] w0 fun e w' => ∃ am cm, e = .returned (.tuple #[.slice am n cm, .int .i64 0]) ∧ OwnE w' w0.heap.size (.slice am n cm) els ∧ Below w0.heap.size w0 w' := by
  refine (list_any S w0 hz).mono ?_
  rintro e w' ⟨v, rfl, ho, hb⟩
  rw [hS] at ho ⊢
  obtain ⟨am, cm, rfl, _⟩ := EAt.of ho
  subst hn
  exact ⟨am, cm, rfl, ho, hb⟩
theorem ord_size {ss : List ByteArray} (hn : ss.length ≤ 20) (hm : ∀ s ∈ ss, s.size ≤ 200) : (⟨(ordL (lists ss)).flatten.toArray⟩ : ByteArray).size ≤ 1099511627776 := by
  show (ordL (lists ss)).flatten.length ≤ _
  rw [ordL_flat_length, flat_cat]
  have := cat_each 200 hm
  omega
theorem enc_each {ss : List ByteArray} (hm : ∀ s ∈ ss, s.size ≤ 100) : ∀ s ∈ ss.map encS, s.size ≤ 200 := by
  intro s hs
  obtain ⟨t, ht, rfl⟩ := List.mem_map.1 hs
  exact encS_size (hm t ht)
end Go.Proofs.Ytgpockpfefjjkaa
