/-
  Elements that Wrap writes, in ascending order, one after the other: List reads them back, and they ascend.
  Plain laws on the short types as the reference looks them up, one after the other. Nothing is claimed of the program here.
  Elements, and what is read of them; attributes, relative names and names, and their encodings: each determines the other. Nothing is claimed of the program here.
-/
import Derived.Test.YtfpfgdbfigdooaaGreatDoorEax
import Derived.Test.YtfpfgdbfigdooaaGreatDoorEbf
import Derived.Test.YtfpfgdbfigdooaaGreatDoorEap
import Derived.Test.YtfpfgdbfigdooaaGreatDoorEbe
namespace Go.Proofs.YtfpfgdbfigdooaaGreatDoor
open Go.RowKit

/-- The element of OCTETS with the content s: its bytes, and what the law writes. -/
def encS (s : ByteArray) : ByteArray := ⟨(wrapL 4 s.data.toList).toArray⟩
def elS (s : ByteArray) : El := (4, s, encS s)
theorem wrap_encS {s : ByteArray} (h : s.size ≤ 131072) : wrapVal 4 (cat_t [s]) = .tuple #[.string (encS s), .int .i64 0] := by
  have hcat : cat_t [s] = s.data.toList := by simp [cat_t]
  have hcl : s.data.toList.length = s.size := rfl
  have e : wrapErr 4 (cat_t [s]).length = 0 := by
    unfold wrapErr
    rw [if_neg (by omega), if_neg (by rw [hcat, hcl]; omega)]
  unfold wrapVal wrapStr
  rw [e, if_pos rfl, hcat]
  rfl

/-- List reads back what Wrap wrote. -/
theorem lst_wraps : ∀ (L : List (List UInt8)), (∀ x ∈ L, ∃ c : List UInt8, c.length ≤ 131072 ∧ x = wrapL 4 c) → ∀ b : ByteArray, b.data.toList = L.flatten →
    ∃ els : List El, lst b = (els, 0) ∧ els.map (fun e => e.2.2.data.toList) = L
  | [], _, b, hb => ⟨[], lst_nil (by rw [size_list hb]; rfl), rfl⟩
  | x :: L, h, b, hb => by
    obtain ⟨c, hc, rfl⟩ := h x List.mem_cons_self
    have hb2 : b.data.toList = wrapL 4 c ++ L.flatten := by rw [hb, List.flatten_cons]
    have hr := rd_wrap (t := 4) (by omega) (by omega) hc hb2
    have he : rdErr b = 0 := by unfold rdErr; rw [hr]
    have hv := read_wrap (t := 4) (by omega) (by omega) hc hb2
    rw [rdVal_good he] at hv
    have h0 : b.size ≠ 0 := by
      rw [size_list hb2]
      unfold wrapL
      simp
    have e2 : rdRaw b = ⟨(wrapL 4 c).toArray⟩ := by
      simp only [Value.tuple.injEq, Array.mk.injEq, List.cons.injEq, Value.agg.injEq, Value.string.injEq] at hv
      exact hv.1.2.2.1
    have e3 : rdRest b = ⟨L.flatten.toArray⟩ := by
      simp only [Value.tuple.injEq, Array.mk.injEq, List.cons.injEq, Value.agg.injEq, Value.string.injEq] at hv
      exact hv.2.1
    obtain ⟨els, i1, i2⟩ := lst_wraps L (fun x hx => h x (List.mem_cons_of_mem _ hx)) (rdRest b) (by rw [e3])
    refine ⟨rdElem b :: els, ?_, ?_⟩
    · rw [lst_step h0 he, i1, if_pos rfl]
    · rw [List.map_cons, i2]
      unfold rdElem
      rw [e2]

theorem ordL_sorted (L : List (List UInt8)) : (ordL L).Pairwise (fun a b => ¬ b < a) := by
  have tr : ∀ a b c : List UInt8, decide (a ≤ b) = true → decide (b ≤ c) = true → decide (a ≤ c) = true := fun a b c h1 h2 => by simp only [decide_eq_true_eq] at *; exact List.le_trans h1 h2
  have tot : ∀ a b : List UInt8, (decide (a ≤ b) || decide (b ≤ a)) = true := fun a b => by simp only [Bool.or_eq_true, decide_eq_true_eq]; exact List.le_total a b
  exact (List.pairwise_mergeSort tr tot L).imp fun {a b} hh => List.not_lt.2 (of_decide_eq_true hh)

theorem asc_of {els : List El} {L : List (List UInt8)} (h : els.map (fun e => e.2.2.data.toList) = L) (hs : L.Pairwise (fun a b => ¬ b < a)) : ascP els els.length := by
  intro i h1 h2
  have hl : els.length = L.length := by rw [← h, List.length_map]
  have g : ∀ j (hj : j < L.length), rawAt els j = L[j] := fun j hj => by
    unfold rawAt
    rw [List.getD_eq_getElem?_getD, List.getElem?_eq_getElem (by omega)]
    simp only [← h, List.getElem_map, Option.getD_some]
  rw [g i (by omega), g (i - 1) (by omega)]
  exact List.pairwise_iff_getElem.1 hs (i - 1) i (by omega) (by omega) (by omega)

/-- What List answers for the ordered elements. -/
theorem lst_ord (ss : List ByteArray) (h : ∀ s ∈ ss, s.size ≤ 131072) : ∃ els : List El, lst ⟨(ordL (lists (ss.map encS))).flatten.toArray⟩ = (els, 0) ∧ els.length = ss.length ∧ ascP els els.length := by
  obtain ⟨els, h1, h2⟩ := lst_wraps (ordL (lists (ss.map encS))) (fun x hx => by
    have hx2 := (ordL_perm _).mem_iff.1 hx
    simp only [lists, List.mem_map] at hx2
    obtain ⟨_, ⟨s, hs, rfl⟩, rfl⟩ := hx2
    exact ⟨s.data.toList, h s hs, rfl⟩) ⟨(ordL (lists (ss.map encS))).flatten.toArray⟩ rfl
  refine ⟨els, h1, ?_, asc_of h2 (ordL_sorted _)⟩
  have := congrArg List.length h2
  rw [List.length_map, ordL_length] at this
  rw [this]
  simp [lists]

theorem few_each {n m : Nat} {ss : List ByteArray} (h : fewB ss n m = true) : ss.length ≤ n ∧ ∀ s ∈ ss, s.size ≤ m := by
  simp only [fewB, Bool.and_eq_true, decide_eq_true_eq, List.all_eq_true] at h
  exact h
theorem encS_size {s : ByteArray} (h : s.size ≤ 100) : (encS s).size ≤ 200 := by
  show (wrapL 4 s.data.toList).toArray.size ≤ 200
  unfold wrapL
  have := lsz_le s.data.toList.length
  have hcl : s.data.toList.length = s.size := rfl
  simp only [List.size_toArray, List.length_cons, List.length_append, lenO_length]
  omega
theorem cat_each (m : Nat) : ∀ {ss : List ByteArray}, (∀ s ∈ ss, s.size ≤ m) → (cat_t ss).length ≤ ss.length * m
  | [], _ => by simp [cat_t]
  | a :: t, h => by
    have ih := cat_each m (ss := t) fun x hx => h x (List.mem_cons_of_mem _ hx)
    have h1 : a.data.toList.length ≤ m := h a List.mem_cons_self
    have : cat_t (a :: t) = a.data.toList ++ cat_t t := by simp [cat_t]
    rw [this, List.length_append, List.length_cons, Nat.add_mul]; omega

/-- Two values share no block. -/
def Apart (u v : Value) : Prop := ∀ g, u.ownBlock = some g → v.ownBlock = some g → False
theorem Apart.symm {u v : Value} (h : Apart u v) : Apart v u := fun g a b => h g b a
theorem own_keep {w w' : World} {B : Nat} {e : TypeId} {k n : Nat} {u v : Value} {xs : List Value} (hu : w.ownsRow B e k u n xs) (hg : w.grownBy w' v.ownBlock) (hd : Apart u v) : w'.ownsRow B e k u n xs := by
  refine World.ownsRow.kept hu hg ?_
  cases hb : u.ownBlock with
  | none => exact .inl rfl
  | some g => exact .inr fun e => hd g hb e.symm
theorem apart_step {w : World} {B : Nat} {e : TypeId} {k n : Nat} {u v v' : Value} {xs : List Value} (hu : w.ownsRow B e k u n xs) (hd : Apart u v) (hat : v'.ownBlock = v.ownBlock ∨ v'.ownBlock = some w.heap.size) : Apart u v' := by
  intro g h1 h2
  rcases hat with hat | hat
  · exact hd g h1 (by rw [← hat]; exact h2)
  · have h3 := (World.ownsRow.lt hu g h1).2
    rw [hat] at h2
    have := Option.some.inj h2
    omega
/-- The law's three slices. -/
def Tri (w wr : World) (v1 v2 v3 : Value) (L1 L2 : List ByteArray) (L3 : List El) : Prop :=
  OwnS_t wr w.heap.size v1 L1 ∧ OwnS_t wr w.heap.size v2 L2 ∧ OwnE wr w.heap.size v3 L3 ∧ Apart v1 v2 ∧ Apart v1 v3 ∧ Apart v2 v3 ∧ Below w.heap.size w wr
theorem Tri.nil (w : World) : Tri w w (.slice none 0 0) (.slice none 0 0) (.slice none 0 0) [] [] [] :=
  ⟨World.ownsRow_nil _ _ _ _, World.ownsRow_nil _ _ _ _, World.ownsRow_nil _ _ _ _, fun _ h => by simp [Value.ownBlock] at h, fun _ h => by simp [Value.ownBlock] at h, fun _ h => by simp [Value.ownBlock] at h, Below.refl _ _⟩
theorem Tri.below {w wr w' : World} {v1 v2 v3 : Value} {L1 L2 : List ByteArray} {L3 : List El} (h : Tri w wr v1 v2 v3 L1 L2 L3) (hb : Below wr.heap.size wr w') : Tri w w' v1 v2 v3 L1 L2 L3 := by
  obtain ⟨a, b, c, d, e, f, g⟩ := h
  exact ⟨own_below a hb, own_below b hb, own_below c hb, d, e, f, below_next_t g hb⟩
theorem Tri.alloc {w wr : World} {v1 v2 v3 : Value} {L1 L2 : List ByteArray} {L3 : List El} (h : Tri w wr v1 v2 v3 L1 L2 L3) (o : Obj) : Tri w (wr.alloc o) v1 v2 v3 L1 L2 L3 :=
  h.below (belowNew wr o)
theorem Tri.first {w wr w2 : World} {v1 v2 v3 v' : Value} {L1 L2 : List ByteArray} {L3 : List El} {s : ByteArray} (h : Tri w wr v1 v2 v3 L1 L2 L3)
    (ho : w2.ownsRow w.heap.size 9 1 v' (L1.length + 1) (L1.map Value.string ++ [Value.string s])) (hg : wr.grownBy w2 v1.ownBlock) (hat : v'.ownBlock = v1.ownBlock ∨ v'.ownBlock = some wr.heap.size) :
    Tri w w2 v' v2 v3 (L1 ++ [s]) L2 L3 := by
  obtain ⟨a, b, c, d, e, f, g⟩ := h
  refine ⟨?_, own_keep b hg d.symm, own_keep c hg e.symm, (apart_step b d.symm hat).symm, (apart_step c e.symm hat).symm, f, g.grown hg g.size (fun k e => (World.ownsRow.lt a k e).1)⟩
  unfold OwnS_t
  simpa using ho
theorem Tri.second {w wr w2 : World} {v1 v2 v3 v' : Value} {L1 L2 : List ByteArray} {L3 : List El} {s : ByteArray} (h : Tri w wr v1 v2 v3 L1 L2 L3)
    (ho : w2.ownsRow w.heap.size 9 1 v' (L2.length + 1) (L2.map Value.string ++ [Value.string s])) (hg : wr.grownBy w2 v2.ownBlock) (hat : v'.ownBlock = v2.ownBlock ∨ v'.ownBlock = some wr.heap.size) :
    Tri w w2 v1 v' v3 L1 (L2 ++ [s]) L3 := by
  obtain ⟨a, b, c, d, e, f, g⟩ := h
  refine ⟨own_keep a hg d, ?_, own_keep c hg f.symm, apart_step a d hat, e, (apart_step c f.symm hat).symm, g.grown hg g.size (fun k e => (World.ownsRow.lt b k e).1)⟩
  unfold OwnS_t
  simpa using ho
theorem Tri.third {w wr w2 : World} {v1 v2 v3 v' : Value} {L1 L2 : List ByteArray} {L3 : List El} {x : El} (h : Tri w wr v1 v2 v3 L1 L2 L3)
    (ho : w2.ownsRow w.heap.size 63 3 v' (L3.length + 1) (elsCells L3 ++ elCells x)) (hg : wr.grownBy w2 v3.ownBlock) (hat : v'.ownBlock = v3.ownBlock ∨ v'.ownBlock = some wr.heap.size) :
    Tri w w2 v1 v2 v' L1 L2 (L3 ++ [x]) := by
  obtain ⟨a, b, c, d, e, f, g⟩ := h
  refine ⟨own_keep a hg e, own_keep b hg f, ?_, d, apart_step a e hat, apart_step b f hat, g.grown hg g.size (fun k e => (World.ownsRow.lt c k e).1)⟩
  unfold OwnE
  rw [List.length_append, elsCells_snoc]
  exact ho
theorem Tri.next {w wr : World} {v1 v2 v3 : Value} {D ss : List ByteArray} {s x : ByteArray} {k : Nat} (h : Tri w wr v1 v2 v3 (D ++ [s]) (D.map encS ++ [x]) (D.map elS ++ [(4, s, x)])) (hx : x = encS s) (hD : D = ss.take k) (hk : k < ss.length)
    (hs : s = ss.getD k ByteArray.empty) : Tri w wr v1 v2 v3 (ss.take (k + 1)) ((ss.take (k + 1)).map encS) ((ss.take (k + 1)).map elS) := by
  have e : ss.take (k + 1) = D ++ [s] := by
    rw [List.take_succ_eq_append_getElem hk, hs, hD]
    simp [hk]
  rw [e, List.map_append, List.map_append]
  subst hx
  exact h
theorem el_news (W : World) (g : Nat) (hg : g = W.heap.size) (s x : ByteArray) :
    ∀ j u, (elCells (4, s, x))[j]? = some u → (W.alloc (.cells #[.int .i64 4, .string s, .string x] 63)).cell? ((⟨g, 0, none⟩ : Addr).add j) = some u := by
  intro j u h
  subst hg
  exact news_row W (elCells (4, s, x)).toArray 63 j u h
theorem OwnS_t.reads {w : World} {B : Nat} {v : Value} {D : List ByteArray} (h : OwnS_t w B v D) : Reads w v D := h.lies

/-- The law's calls behind the loop. -/
theorem law_order {w w0 : World} {v1 v2 v3 : Value} {L1 L2 : List ByteArray} {L3 : List El} (h : Tri w w0 v1 v2 v3 L1 L2 L3) (hn : L1.length ≤ 20) (hm : ∀ s ∈ L1, s.size ≤ 200) (S : ByteArray) (hS : S = ⟨(ordL (lists L1)).flatten.toArray⟩) :
    Calls Tryz.prog 60 #[v1] w0 fun e w' => e = .returned (.string S) ∧ Below w0.heap.size w0 w' := by
  rw [hS]
  exact order_any v1 L1 w0 h.1.reads (by omega) (by have := cat_each 200 hm; omega)
theorem law_rorder {w w0 : World} {v1 v2 v3 : Value} {L1 L2 : List ByteArray} {L3 : List El} (h : Tri w w0 v1 v2 v3 L1 L2 L3) (hn : L1.length ≤ 20) (hm : ∀ s ∈ L1, s.size ≤ 200) (S : ByteArray) (hS : S = ⟨(ordL (lists L1)).flatten.toArray⟩) :
    Calls Tryz.prog 35 #[v1] w0 fun e w' => e = .returned (.string S) ∧ Below w0.heap.size w0 w' := by
  rw [hS]
  exact rorder_any v1 L1 w0 h.1.reads (by omega) (by have := cat_each 200 hm; omega)
theorem law_order2 {w w0 : World} {v1 v2 v3 : Value} {L1 L2 : List ByteArray} {L3 : List El} (h : Tri w w0 v1 v2 v3 L1 L2 L3) (hn : L2.length ≤ 20) (hm : ∀ s ∈ L2, s.size ≤ 200) (S : ByteArray) (hS : S = ⟨(ordL (lists L2)).flatten.toArray⟩) :
    Calls Tryz.prog 60 #[v2] w0 fun e w' => e = .returned (.string S) ∧ Below w0.heap.size w0 w' := by
  rw [hS]
  exact order_any v2 L2 w0 h.2.1.reads (by omega) (by have := cat_each 200 hm; omega)
theorem law_asc {B : Nat} {w0 : World} {v : Value} {l : List El} (h : OwnE w0 B v l) (hn : l.length ≤ 20) (b : Bool) (hb : b = true ↔ ascP l l.length) :
    Calls Tryz.prog 110 #[v] w0 fun e w' => e = .returned (.bool b) ∧ Below w0.heap.size w0 w' :=
  (asc_any B v l w0 h (by omega)).mono fun _ _ ⟨⟨b2, e2, h2⟩, hw⟩ => ⟨by rw [e2, Bool.eq_iff_iff.2 (h2.trans hb.symm)], hw⟩
theorem law_rasc {B : Nat} {w0 : World} {v : Value} {l : List El} (h : OwnE w0 B v l) (hn : l.length ≤ 20) (b : Bool) (hb : b = true ↔ ascP l l.length) :
    Calls Tryz.prog 44 #[v] w0 fun e w' => e = .returned (.bool b) ∧ Below w0.heap.size w0 w' :=
  (rasc_any B v l w0 h (by omega)).mono fun _ _ ⟨⟨b2, e2, h2⟩, hw⟩ => ⟨by rw [e2, Bool.eq_iff_iff.2 (h2.trans hb.symm)], hw⟩
theorem law_asc3 {w w0 : World} {v1 v2 v3 : Value} {L1 L2 : List ByteArray} {L3 : List El} (h : Tri w w0 v1 v2 v3 L1 L2 L3) (hn : L3.length ≤ 20) (b : Bool) (hb : b = true ↔ ascP L3 L3.length) :
    Calls Tryz.prog 110 #[v3] w0 fun e w' => e = .returned (.bool b) ∧ Below w0.heap.size w0 w' := law_asc h.2.2.1 hn b hb
theorem law_rasc3 {w w0 : World} {v1 v2 v3 : Value} {L1 L2 : List ByteArray} {L3 : List El} (h : Tri w w0 v1 v2 v3 L1 L2 L3) (hn : L3.length ≤ 20) (b : Bool) (hb : b = true ↔ ascP L3 L3.length) :
    Calls Tryz.prog 44 #[v3] w0 fun e w' => e = .returned (.bool b) ∧ Below w0.heap.size w0 w' := law_rasc h.2.2.1 hn b hb
theorem law_ascs {B : Nat} {w0 : World} {v : Value} {l : List El} (h : OwnE w0 B v l) (hn : l.length ≤ 20) (hb : ascP l l.length) :
    Calls Tryz.prog 110 #[v] w0 fun e w' => e = .returned (.bool true) ∧ Below w0.heap.size w0 w' := law_asc h hn true ⟨fun _ => hb, fun _ => rfl⟩
theorem OwnE.old {B : Nat} {w w' : World} {v : Value} {l : List El} (h : OwnE w B v l) (hb : Below w.heap.size w w') : OwnE w' B v l := own_below h hb
theorem law_list {S : ByteArray} {els : List El} {n : Nat} (hS : lst S = (els, 0)) (hn : els.length = n) (hz : S.size ≤ 1099511627776) (w0 : World) :
    Calls Tryz.prog 69 #[.string S] w0 fun e w' => ∃ am cm, e = .returned (.tuple #[.slice am n cm, .int .i64 0]) ∧ OwnE w' w0.heap.size (.slice am n cm) els ∧ Below w0.heap.size w0 w' := by
  refine (list_any S w0 hz).mono ?_
  rintro e w' ⟨v, rfl, ho, hb⟩
  rw [hS] at ho ⊢
  obtain ⟨am, cm, rfl, _⟩ := EAt.of ho
  subst hn
  exact ⟨am, cm, rfl, ho, hb⟩
theorem ord_size {ss : List ByteArray} (hn : ss.length ≤ 20) (hm : ∀ s ∈ ss, s.size ≤ 200) : (⟨(ordL (lists ss)).flatten.toArray⟩ : ByteArray).size ≤ 1099511627776 := by
  show (ordL (lists ss)).flatten.length ≤ _
  rw [ordL_flat_length, flat_cat]
  have := cat_each 200 hm
  omega
theorem enc_each {ss : List ByteArray} (hm : ∀ s ∈ ss, s.size ≤ 100) : ∀ s ∈ ss.map encS, s.size ≤ 200 := by
  intro s hs
  obtain ⟨t, ht, rfl⟩ := List.mem_map.1 hs
  exact encS_size (hm t ht)
end Go.Proofs.YtfpfgdbfigdooaaGreatDoor
namespace Go.Proofs.YtfpfgdbfigdooaaGreatDoor
open Go.RowKit

/-- What the reference's search has after q entries. -/
def stT (wd : ByteArray) : Nat → ByteArray
  | 0 => wd
  | q + 1 => if (SH.getD q (⟨#[]⟩, ⟨#[]⟩)).1 = stT wd q then (SH.getD q (⟨#[]⟩, ⟨#[]⟩)).2 else stT wd q
theorem oid_any1 (l : List UInt8) (a : List Nat) (h1 : Good a) (h2 : l ++ [46] = cat fdot a) : oidB (strOf l) = true := oidB_yes (a := a) ⟨h1, by rw [strOf_list]; exact h2⟩
theorem oid_c : Oid [50, 46, 53, 46, 52, 46, 54] [2, 5, 4, 6] := by
  refine ⟨⟨by decide, by decide, by decide, by decide, by decide⟩, ?_⟩
  decide +kernel
theorem oid_l : Oid [50, 46, 53, 46, 52, 46, 55] [2, 5, 4, 7] := by
  refine ⟨⟨by decide, by decide, by decide, by decide, by decide⟩, ?_⟩
  decide +kernel
theorem oid_ou : Oid [50, 46, 53, 46, 52, 46, 49, 49] [2, 5, 4, 11] := by
  refine ⟨⟨by decide, by decide, by decide, by decide, by decide⟩, ?_⟩
  decide +kernel
theorem oid_dc : Oid [48, 46, 57, 46, 50, 51, 52, 50, 46, 49, 57, 50, 48, 48, 51, 48, 48, 46, 49, 48, 48, 46, 49, 46, 50, 53] [0, 9, 2342, 19200300, 100, 1, 25] := by
  refine ⟨⟨by decide, by decide, by decide, by decide, by decide⟩, ?_⟩
  decide +kernel
theorem oid_e : Oid [49, 46, 50, 46, 56, 52, 48, 46, 49, 49, 51, 53, 52, 57, 46, 49, 46, 57, 46, 49] [1, 2, 840, 113549, 1, 9, 1] := by
  refine ⟨⟨by decide, by decide, by decide, by decide, by decide⟩, ?_⟩
  decide +kernel
theorem sh_oid : ∀ k, k < 7 → oidB (SH.getD k (⟨#[]⟩, ⟨#[]⟩)).2 = true := by
  intro k hk
  rcases (by omega : k = 0 ∨ k = 1 ∨ k = 2 ∨ k = 3 ∨ k = 4 ∨ k = 5 ∨ k = 6) with rfl | rfl | rfl | rfl | rfl | rfl | rfl
  · exact oidB_yes oid_cn
  · exact oidB_yes oid_c
  · exact oidB_yes oid_l
  · exact oidB_yes oid_o
  · exact oidB_yes oid_ou
  · exact oidB_yes oid_dc
  · exact oidB_yes oid_e
theorem sh_apart : ∀ j, j < 7 → ∀ k, k < 7 → (SH.getD j (⟨#[]⟩, ⟨#[]⟩)).1 ≠ (SH.getD k (⟨#[]⟩, ⟨#[]⟩)).2 := by decide
theorem st_before (wd : ByteArray) : ∀ q, (∀ j, j < q → (SH.getD j (⟨#[]⟩, ⟨#[]⟩)).1 ≠ wd) → stT wd q = wd
  | 0, _ => rfl
  | q + 1, h => by
    have e := st_before wd q (fun j hj => h j (by omega))
    show (if (SH.getD q (⟨#[]⟩, ⟨#[]⟩)).1 = stT wd q then (SH.getD q (⟨#[]⟩, ⟨#[]⟩)).2 else stT wd q) = wd
    rw [e, if_neg (h q (by omega))]
theorem st_behind (wd : ByteArray) (k : Nat) (hk : k < 7) (h : stT wd (k + 1) = (SH.getD k (⟨#[]⟩, ⟨#[]⟩)).2) : ∀ i, k + 1 + i ≤ 7 → stT wd (k + 1 + i) = (SH.getD k (⟨#[]⟩, ⟨#[]⟩)).2
  | 0, _ => h
  | i + 1, hi => by
    have e := st_behind wd k hk h i (by omega)
    show (if (SH.getD (k + 1 + i) (⟨#[]⟩, ⟨#[]⟩)).1 = stT wd (k + 1 + i) then (SH.getD (k + 1 + i) (⟨#[]⟩, ⟨#[]⟩)).2 else stT wd (k + 1 + i)) = _
    rw [e, if_neg (sh_apart _ (by omega) k hk)]
theorem typ_st (wd : ByteArray) : typ wd = (stT wd 7, oidB (stT wd 7)) := by
  by_cases h : ∃ k, k < 7 ∧ (SH.getD k (⟨#[]⟩, ⟨#[]⟩)).1 = wd ∧ ∀ j, j < k → (SH.getD j (⟨#[]⟩, ⟨#[]⟩)).1 ≠ wd
  · obtain ⟨k, hk, e, hf⟩ := h
    have h1 : stT wd (k + 1) = (SH.getD k (⟨#[]⟩, ⟨#[]⟩)).2 := by
      show (if (SH.getD k (⟨#[]⟩, ⟨#[]⟩)).1 = stT wd k then (SH.getD k (⟨#[]⟩, ⟨#[]⟩)).2 else stT wd k) = _
      rw [st_before wd k hf, if_pos e]
    have h2 := st_behind wd k hk h1 (6 - k) (by omega)
    rw [show k + 1 + (6 - k) = 7 by omega] at h2
    rw [typ_hit k hk hf e, h2, sh_oid k hk]
  · have hn : ∀ q, q ≤ 7 → ∀ j, j < q → (SH.getD j (⟨#[]⟩, ⟨#[]⟩)).1 ≠ wd := by
      intro q
      induction q with
      | zero => intro _ j hj; exact absurd hj (Nat.not_lt_zero _)
      | succ q ih =>
        intro hq j hj
        by_cases ej : j = q
        · subst ej
          exact fun e => h ⟨j, by omega, e, ih (by omega)⟩
        · exact ih (by omega) j (by omega)
    rw [typ_miss (hn 7 (Nat.le_refl _)), st_before wd 7 (hn 7 (Nat.le_refl _))]
theorem st_size (wd : ByteArray) (h : wd.size ≤ 100000) : ∀ q, q ≤ 7 → (stT wd q).size ≤ 100040
  | 0, _ => by show wd.size ≤ _; omega
  | q + 1, hq => by
    show (if (SH.getD q (⟨#[]⟩, ⟨#[]⟩)).1 = stT wd q then (SH.getD q (⟨#[]⟩, ⟨#[]⟩)).2 else stT wd q).size ≤ _
    split
    · have := sh_size q (by omega); omega
    · exact st_size wd h q (by omega)
theorem sh_arr : ∀ q, q < 7 → shArr[q * 2]? = some (.string (SH.getD q (⟨#[]⟩, ⟨#[]⟩)).1) ∧ shArr[q * 2 + 1]? = some (.string (SH.getD q (⟨#[]⟩, ⟨#[]⟩)).2) := by
  intro q hq
  rcases (by omega : q = 0 ∨ q = 1 ∨ q = 2 ∨ q = 3 ∨ q = 4 ∨ q = 5 ∨ q = 6) with rfl | rfl | rfl | rfl | rfl | rfl | rfl <;> exact ⟨rfl, rfl⟩
/-- What the reference makes of the text of an attribute. -/
theorem prsA_st {x wd rs : ByteArray} {i : Nat} (hi : Lib.indexByte x.data.toList 61 = (i : Int)) (h1 : x.extract 0 i = wd) (h2 : x.extract (i + 1) x.size = rs) :
    prsA x = match uneO rs.data.toList with | some v => if oidB (stT wd 7) = true then some (stT wd 7, kindV (stT wd 7) v, v) else none | none => none := by
  unfold prsA
  rw [hi, if_neg (by omega)]
  show (match typ (x.extract 0 i), uneO (x.extract (i + 1) x.size).data.toList with | (id, true), some v => some (id, kindV id v, v) | _, _ => none) = _
  rw [h1, h2, typ_st]
  cases uneO rs.data.toList with
  | none => cases oidB (stT wd 7) <;> rfl
  | some v => cases oidB (stT wd 7) <;> rfl
end Go.Proofs.YtfpfgdbfigdooaaGreatDoor
namespace Go.Proofs.YtfpfgdbfigdooaaGreatDoor
open Go.RowKit

/-! ### Elements -/
theorem wr1_list {t : Nat} {c : ByteArray} (ht : t < 256) (h1 : t % 32 ≠ 31) (hc : c.size ≤ 131072) : (wr1 ((t : Nat) : Int) c).data.toList = wrapL t c.data.toList := by
  have e : wrapErr ((t : Nat) : Int) c.data.toList.length = 0 := by
    have : c.data.toList.length = c.size := rfl
    unfold wrapErr
    rw [if_neg (by omega), if_neg (by omega)]
  unfold wr1 wrapStr
  rw [e, if_pos rfl]
  rfl
/-- An element as Wrap writes it. -/
def OkE (e : El) : Prop := e.1 < 256 ∧ e.1 % 32 ≠ 31 ∧ e.2.1.size ≤ 131072 ∧ e.2.2 = wr1 ((e.1 : Nat) : Int) e.2.1
def raws (L : List El) : List (List UInt8) := L.map fun e => e.2.2.data.toList
theorem list_back (b : ByteArray) : (⟨b.data.toList.toArray⟩ : ByteArray) = b := rfl
theorem lst_els : ∀ (L : List El), (∀ e ∈ L, OkE e) → ∀ b : ByteArray, b.data.toList = (raws L).flatten → lst b = (L, 0)
  | [], _, b, hb => lst_nil (by rw [size_list hb]; rfl)
  | e :: L, h, b, hb => by
    obtain ⟨t, c, r⟩ := e
    obtain ⟨ht, h1, hc, hr⟩ := h _ List.mem_cons_self
    simp only at ht h1 hc hr
    have hw := wr1_list ht h1 hc
    have hb2 : b.data.toList = wrapL t c.data.toList ++ (raws L).flatten := by
      rw [hb, raws, List.map_cons, List.flatten_cons, hr, hw]; rfl
    have hrd := rd_wrap ht h1 hc hb2
    have he : rdErr b = 0 := by unfold rdErr; rw [hrd]
    have hv := read_wrap ht h1 hc hb2
    rw [rdVal_good he] at hv
    have h0 : b.size ≠ 0 := by
      rw [size_list hb2]
      unfold wrapL
      simp
    simp only [Value.tuple.injEq, Array.mk.injEq, List.cons.injEq, Value.agg.injEq, Value.string.injEq, Value.int.injEq] at hv
    have e1 : rdTag b = t := by have := hv.1.1.2; omega
    have e2 : rdRaw b = r := by rw [hv.1.2.2.1, hr]; exact (ext_list_t (by rw [hw])).symm
    have e3 : rdContent b = c := by rw [hv.1.2.1]
    have e4 : rdRest b = ⟨(raws L).flatten.toArray⟩ := hv.2.1
    have i1 := lst_els L (fun x hx => h x (List.mem_cons_of_mem _ hx)) (rdRest b) (by rw [e4])
    rw [lst_step h0 he, i1, if_pos rfl]
    unfold rdElem
    rw [e1, e2, e3]
theorem rd_parts {b : ByteArray} (h : rdErr b = 0) : OkE (rdElem b) ∧ b.data.toList = (rdRaw b).data.toList ++ (rdRest b).data.toList := by
  have hh := head_back h
  obtain ⟨h2, h5, hs, hx, h0⟩ := rd_ok h
  have hlen := rd_len_le h
  have ht := rdTag_lt b
  obtain ⟨n, hn⟩ : ∃ n, n = (rd b).2.2 := ⟨_, rfl⟩
  obtain ⟨p, hp⟩ : ∃ p, p = (rd b).2.1 := ⟨_, rfl⟩
  have hraw : (rdRaw b).data.toList = b.data.toList.take (p + n) := by unfold rdRaw; rw [data_extract, ← hn, ← hp]; simp
  have hrest : (rdRest b).data.toList = b.data.toList.drop (p + n) := by
    unfold rdRest
    rw [data_extract, ← hn, ← hp]
    refine List.take_of_length_le ?_
    rw [List.length_drop]
    exact Nat.le_refl _
  have hcon : (rdContent b).data.toList = (b.data.toList.drop p).take n := by unfold rdContent; rw [data_extract, ← hn, ← hp]; congr 1; omega
  rw [← hn, ← hp] at hh
  rw [← hn] at hlen
  rw [← hn, ← hp] at hs
  obtain ⟨D, hD⟩ : ∃ D, D = b.data.toList.drop p := ⟨_, rfl⟩
  have hDl : D.length = b.size - p := by rw [hD, List.length_drop]; rfl
  rw [← hD] at hh hcon
  have hl := congrArg List.length hh
  have hlb : b.data.toList.length = b.size := rfl
  rw [hlb, List.length_cons, List.length_append, hDl] at hl
  have hc : (rdContent b).size = n := by
    have : (rdContent b).data.toList.length = (rdContent b).size := rfl
    rw [← this, hcon, List.length_take, hDl]
    omega
  refine ⟨⟨ht, hx, by show (rdContent b).size ≤ _; omega, ?_⟩, by rw [hraw, hrest, List.take_append_drop]⟩
  show rdRaw b = wr1 _ (rdContent b)
  apply ext_list_t
  show _ = (wr1 ((rdTag b : Nat) : Int) (rdContent b)).data.toList
  rw [wr1_list ht hx (by omega), hraw, hcon]
  have hcl : (D.take n).length = n := by rw [← hcon]; exact hc
  unfold wrapL
  rw [hcl]
  conv => lhs; rw [hh]
  rw [show p + n = (lenO n).length + n + 1 by omega, List.take_succ_cons, List.take_append]
  congr 1
  rw [List.take_of_length_le (by omega), show (lenO n).length + n - (lenO n).length = n by omega]
theorem els_lst (k : Nat) : ∀ (b : ByteArray) (L : List El), b.size ≤ k → lst b = (L, 0) → (∀ e ∈ L, OkE e) ∧ b.data.toList = (raws L).flatten := by
  induction k with
  | zero =>
    intro b L hk h
    have h0 : b.size = 0 := by omega
    rw [lst_nil h0] at h
    obtain rfl : L = [] := (Prod.mk.inj h).1.symm
    exact ⟨fun e he => (by cases he), List.length_eq_zero_iff.1 h0⟩
  | succ k ih =>
    intro b L hk h
    by_cases h0 : b.size = 0
    · rw [lst_nil h0] at h
      obtain rfl : L = [] := (Prod.mk.inj h).1.symm
      exact ⟨fun e he => (by cases he), List.length_eq_zero_iff.1 h0⟩
    · by_cases he : rdErr b = 0
      · obtain ⟨p1, p2⟩ := rd_parts he
        have hsz := rdRest_size he
        rw [lst_step h0 he] at h
        by_cases hr : (lst (rdRest b)).2 = 0
        · rw [if_pos hr] at h
          obtain rfl : L = rdElem b :: (lst (rdRest b)).1 := (Prod.mk.inj h).1.symm
          obtain ⟨M, hM⟩ : ∃ M, M = (lst (rdRest b)).1 := ⟨_, rfl⟩
          have h3 : lst (rdRest b) = (M, 0) := by rw [hM, ← hr]
          rw [← hM]
          obtain ⟨i1, i2⟩ := ih (rdRest b) M (by omega) h3
          refine ⟨fun e hm => ?_, ?_⟩
          · rcases List.mem_cons.1 hm with rfl | hm
            · exact p1
            · exact i1 e hm
          · rw [p2, i2]; rfl
        · rw [if_neg hr] at h
          exact absurd (Prod.mk.inj h).2 hr
      · rw [lst_bad h0 he] at h
        exact absurd (Prod.mk.inj h).2 he

/-! ### Attributes -/
def okA (a : At) : Prop := oidB a.1 = true ∧ a.2.2.size ≠ 0 ∧ validB a.2.1 a.2.2.data.toList = true ∧ a.2.2.size ≤ 64
theorem chkA_zero (b : List At) (a : At) : chkA b a = 0 ↔ okA a ∧ ∀ x ∈ b, x.1 ≠ a.1 := by
  unfold chkA okA
  by_cases h1 : oidB a.1 = false
  · rw [if_pos h1]; simp [h1]
  · rw [if_neg h1]
    by_cases h2 : a.2.2.size = 0
    · rw [if_pos h2]; simp [h2]
    · rw [if_neg h2]
      by_cases h3 : validB a.2.1 a.2.2.data.toList = false
      · rw [if_pos h3]; simp [h3]
      · rw [if_neg h3]
        by_cases h4 : 64 < a.2.2.size
        · rw [if_pos h4]
          constructor
          · intro h; cases h
          · intro h; have := h.1.2.2.2; omega
        · rw [if_neg h4]
          by_cases h5 : b.any (fun x => decide (x.1 = a.1)) = true
          · rw [if_pos h5]
            constructor
            · intro h; cases h
            · intro h
              obtain ⟨x, hx, e⟩ := List.any_eq_true.1 h5
              exact absurd (of_decide_eq_true e) (h.2 x hx)
          · rw [if_neg h5]
            refine ⟨fun _ => ⟨⟨by simpa using h1, h2, by simpa using h3, by omega⟩, fun x hx e => h5 (List.any_eq_true.2 ⟨x, hx, decide_eq_true e⟩)⟩, fun _ => rfl⟩
theorem chkL_zero : ∀ (r b : List At), chkL b r = 0 ↔ (∀ a ∈ r, okA a) ∧ (∀ a ∈ r, ∀ x ∈ b, x.1 ≠ a.1) ∧ (r.map (·.1)).Nodup
  | [], b => ⟨fun _ => ⟨fun _ h => by (cases h), fun _ h => by (cases h), by simp⟩, fun _ => rfl⟩
  | a :: r, b => by
    unfold chkL
    have ih := chkL_zero r (b ++ [a])
    have hA := chkA_zero b a
    by_cases h : chkA b a = 0
    · rw [if_pos h, ih]
      obtain ⟨h1, h2⟩ := hA.1 h
      rw [List.map_cons, List.nodup_cons]
      constructor
      · rintro ⟨k1, k2, k3⟩
        refine ⟨fun x hx => ?_, fun x hx => ?_, fun hm => ?_, k3⟩
        · rcases List.mem_cons.1 hx with rfl | hx
          · exact h1
          · exact k1 x hx
        · rcases List.mem_cons.1 hx with rfl | hx
          · exact h2
          · exact fun y hy => k2 x hx y (List.mem_append_left _ hy)
        · obtain ⟨x, hx, e⟩ := List.mem_map.1 hm
          exact k2 x hx a (List.mem_append_right _ (List.mem_singleton.2 rfl)) e.symm
      · rintro ⟨k1, k2, k3, k4⟩
        refine ⟨fun x hx => k1 x (List.mem_cons_of_mem _ hx), fun x hx y hy => ?_, k4⟩
        rcases List.mem_append.1 hy with hy | hy
        · exact k2 x (List.mem_cons_of_mem _ hx) y hy
        · obtain rfl := List.mem_singleton.1 hy
          exact fun e => k3 (List.mem_map.2 ⟨x, hx, e.symm⟩)
    · rw [if_neg h]
      constructor
      · intro k; exact absurd k h
      · rintro ⟨k1, k2, _⟩
        exact hA.2 ⟨k1 a List.mem_cons_self, k2 a List.mem_cons_self⟩
theorem chkR_iff (r : List At) : chkR r = 0 ↔ 1 ≤ r.length ∧ r.length ≤ 4 ∧ (∀ a ∈ r, okA a) ∧ (r.map (·.1)).Nodup := by
  unfold chkR
  by_cases h1 : r.length = 0
  · rw [if_pos h1]
    exact ⟨fun h => by (cases h), fun h => by omega⟩
  · rw [if_neg h1]
    by_cases h2 : 4 < r.length
    · rw [if_pos h2]
      exact ⟨fun h => by (cases h), fun h => by omega⟩
    · rw [if_neg h2, chkL_zero]
      exact ⟨fun h => ⟨by omega, by omega, h.1, h.2.2⟩, fun h => ⟨h.2.2.1, fun a ha x hx => by (cases hx), h.2.2.2⟩⟩
theorem chkR_perm {r s : List At} (h : r.Perm s) : chkR r = 0 → chkR s = 0 := by
  rw [chkR_iff, chkR_iff]
  rintro ⟨h1, h2, h3, h4⟩
  exact ⟨by rw [← h.length_eq]; exact h1, by rw [← h.length_eq]; exact h2, fun a ha => h3 a (h.mem_iff.2 ha), (h.map _).nodup_iff.1 h4⟩
theorem chkRs_iff : ∀ n : Nm, chkRs n = 0 ↔ ∀ r ∈ n, chkR r = 0
  | [] => ⟨fun _ _ h => by (cases h), fun _ => rfl⟩
  | r :: n => by
    unfold chkRs
    by_cases h : chkR r = 0
    · rw [if_pos h, chkRs_iff n]
      exact ⟨fun k x hx => by
        rcases List.mem_cons.1 hx with rfl | hx
        · exact h
        · exact k x hx, fun k x hx => k x (List.mem_cons_of_mem _ hx)⟩
    · rw [if_neg h]
      exact ⟨fun k => absurd k h, fun k => k r List.mem_cons_self⟩
theorem chkN_iff (n : Nm) : chkN n = 0 ↔ n.length ≤ 8 ∧ ∀ r ∈ n, chkR r = 0 := by
  unfold chkN
  by_cases h : 8 < n.length
  · rw [if_pos h]
    exact ⟨fun k => by (cases k), fun k => by omega⟩
  · rw [if_neg h, chkRs_iff]
    exact ⟨fun k => ⟨by omega, k⟩, fun k => k.2⟩
theorem valid_kind {k : Int} {l : List UInt8} (h : validB k l = true) : k = 12 ∨ k = 19 ∨ k = 22 := by
  unfold validB at h
  by_cases h1 : k = 12
  · exact .inl h1
  · rw [if_neg h1] at h
    by_cases h2 : k = 19
    · exact .inr (.inl h2)
    · rw [if_neg h2] at h
      by_cases h3 : k = 22
      · exact .inr (.inr h3)
      · rw [if_neg h3] at h; cases h

/-! ### Object identifiers -/
theorem oid_there {s : ByteArray} (h : oidB s = true) : oidD (oidS s) = some s := by
  obtain ⟨a, ha⟩ := oidB_true h
  rw [oidS_yes ha, oidD_yes (a := a) ⟨ha.1, strOf_list _⟩]
  exact congrArg some (strOf_of (oid_txt ha)).symm
theorem oid_back {c id : ByteArray} (h : oidD c = some id) : oidS id = c ∧ oidB id = true := by
  by_cases hx : ∃ a, Dec c.data.toList a
  · obtain ⟨a, ha⟩ := hx
    rw [oidD_yes ha] at h
    obtain rfl := Option.some.inj h
    have ho : Oid (strOf (txt a)).data.toList a := by rw [strOf_list]; exact oid_of ha.1
    exact ⟨by rw [oidS_yes ho]; exact (strOf_of ha.2).symm, oidB_yes ho⟩
  · rw [oidD_no (fun a k => hx ⟨a, k⟩)] at h
    cases h
end Go.Proofs.YtfpfgdbfigdooaaGreatDoor
