/-
  slices.ContainsFunc over lists of general names; what isOutside of withinEach says.
  How the reduced state of constraints is made, one step after another. Nothing is claimed of the program here.
  What slices.DeleteFunc does to the cells of a row of general names, one element after the other (no memory).
-/
import Derived.Test.YtofadgmnjckpcaaGreatDoorVbf
import Derived.Test.YtofadgmnjckpcaaGreatDoorVar
namespace Go.Proofs.YtofadgmnjckpcaaGreatDoor
open Go.RowKit

/-- The function numbered g, with what it has captured, says of a list whether p holds, in each world in which Inv holds. -/
def GivesL (g : Nat) (lb : Array Value) (p : List Gn → Bool) (Pre : List Gn → Prop) (Inv : World → Prop) : Prop :=
  ∀ (a : Option Addr) (c N : Nat) (l : List Gn) (W : World), Inv W → GLies W a l → N = l.length → N ≤ c → Pre l →
    Calls Tryz.prog g (#[.slice a N c] ++ lb) W fun e w' => e = .returned (.bool (p l)) ∧ Below W.heap.size W w'
def IdxL (L : List (List Gn)) (p : List Gn → Bool) (r : Int) : Prop :=
  (∃ k : Nat, k < L.length ∧ r = (k : Int) ∧ p (L.getD k []) = true ∧ ∀ j, j < k → p (L.getD j []) = false) ∨ (r = -1 ∧ ∀ j, j < L.length → p (L.getD j []) = false)
theorem IdxL.any {l : List (List Gn)} {p : List Gn → Bool} {r : Int} (h : IdxL l p r) : decide (0 ≤ r) = l.any p := by
  rcases h with ⟨k, hk, rfl, hp, _⟩ | ⟨rfl, hp⟩
  · rw [decide_eq_true (by omega)]
    symm
    rw [List.any_eq_true]
    exact ⟨l.getD k [], by rw [List.getD_eq_getElem?_getD, List.getElem?_eq_getElem hk]; exact List.getElem_mem hk, hp⟩
  · rw [decide_eq_false (by omega)]
    symm
    rw [List.any_eq_false]
    intro x hx
    obtain ⟨i, hi, rfl⟩ := List.getElem_of_mem hx
    have := hp i hi
    rw [List.getD_eq_getElem?_getD, List.getElem?_eq_getElem hi] at this
    simpa using this
set_option maxRecDepth 100000 in
set_option maxHeartbeats 4000000 in
theorem idxl_core (g : Nat) (lb : Array Value) (eg : ∀ args w, (callFunc g args).run Tryz.prog w = .ok (.enter g args) w) (p : List Gn → Bool) (Pre : List Gn → Prop) (Inv : World → Prop) (hI : ∀ W W', Inv W → Below W.heap.size W W' → Inv W') (hp : GivesL g lb p Pre Inv)
    (a0 : Option Addr) (c m : Nat) (L : List (List Gn)) (w : World) (h : LLies w a0 L) (hm : m = L.length) (hmm : m ≤ 9223372036854775807) (hi : Inv w) (hpre : ∀ x ∈ L, Pre x) :
    Calls Tryz.prog 70 #[.slice a0 m c, .func (.func g) #[] lb] w fun e w' => ∃ r : Int, e = .returned (.int .i64 r) ∧ IdxL L p r ∧ Below w.heap.size w w' := by
  have H1 := Lib.hid h
  have HN := Lib.hid hm
  have HP := Lib.hid hp
  have HPR := Lib.hid hpre
  have HI := Lib.hid (fun W (hb : Below w.heap.size w W) => hI w W hi hb)
  clear h hm hp hpre hI hi
  go_enter Tryz.func70, Tryz.ntmps70
  go_wp2_with fail
  go_loopw [5, 8] (fun _ i wr => ∃ k : Nat, k ≤ m ∧ i = .int .i64 k ∧ (∀ j, j < k → p (L.getD j []) = false) ∧ Below w.heap.size w wr) (fun _ i _ => m - (intOf i).toNat)
  case atStart => exact ⟨0, Nat.zero_le _, rfl, fun j hj => absurd hj (Nat.not_lt_zero _), Below.refl _ _⟩
  case round =>
    obtain ⟨wz, hwz⟩ : ∃ wz, wz = wr := ⟨_, rfl⟩
    subst hwz
    obtain ⟨k, hk, rfl, hA, hb⟩ := hrel
    have HB := Lib.hid hb
    have HA := Lib.hid hA
    clear hb hA
    by_cases hlt : k < m
    · have hd : decide ((k : Int) < (m : Int)) = true := by simp; omega
      have hki : (k : Int) < (m : Int) := by omega
      obtain ⟨b, o, rfl, hbl, a1, c1, e0, hc1, hL1⟩ := (H1.out.below HB.out).at k (by rw [← HN.out]; exact hlt)
      have hpr := HPR.out (L.getD k []) (by rw [List.getD_eq_getElem?_getD, List.getElem?_eq_getElem (by rw [← HN.out]; exact hlt)]; exact List.getElem_mem _)
      have HLT := Lib.hid hlt
      clear hbl
      obtain ⟨G, hG⟩ : ∃ G, G = L.getD k [] := ⟨_, rfl⟩
      rw [← hG] at e0 hpr hL1 hc1
      obtain ⟨N2, hN2⟩ : ∃ N2, N2 = G.length := ⟨_, rfl⟩
      rw [← hN2] at e0 hc1
      have HC := Lib.hid (HP.out a1 c1 N2 G wz (HI.out wz HB.out) hL1 hN2 hc1 hpr)
      have HGK := Lib.hid (show p (L.getD k []) = p G by rw [← hG])
      clear hpr hL1 hc1 hN2 hG
      generalize p G = E at HC HGK
      cases E with
      | true =>
        go_wp2_with (go_at_fn g; refine HC.out.mono ?_; rintro e w3 ⟨rfl, hb3⟩; have HB3 := Lib.hid (below_next HB.out hb3); clear hb3)
        go_ret
        exact ⟨(k : Int), rfl, .inl ⟨k, by have := HLT.out; rw [← HN.out]; exact this, rfl, HGK.out, HA.out⟩, HB3.out⟩
      | false =>
        go_wp2_with (go_at_fn g; refine HC.out.mono ?_; rintro e w3 ⟨rfl, hb3⟩; have HB3 := Lib.hid (below_next HB.out hb3); clear hb3)
        go_roundw
        case rel => exact ⟨k + 1, HLT.out, by go_num, fun j hj => by
          by_cases e : j = k
          · rw [e]; exact HGK.out
          · exact HA.out j (by omega), HB3.out⟩
        case measure => simp [intOf]; omega
    · have hd : decide ((k : Int) < (m : Int)) = false := by simp; omega
      obtain rfl : k = m := by omega
      go_wp2_with fail
      go_ret
      exact ⟨-1, rfl, .inr ⟨rfl, fun j hj => HA.out j (by rw [HN.out]; exact hj)⟩, HB.out⟩
set_option maxRecDepth 100000 in
set_option maxHeartbeats 4000000 in
theorem contl_core (g : Nat) (lb : Array Value) (eg : ∀ args w, (callFunc g args).run Tryz.prog w = .ok (.enter g args) w) (p : List Gn → Bool) (Pre : List Gn → Prop) (Inv : World → Prop) (hI : ∀ W W', Inv W → Below W.heap.size W W' → Inv W') (hp : GivesL g lb p Pre Inv)
    (a0 : Option Addr) (c m : Nat) (L : List (List Gn)) (w : World) (h : LLies w a0 L) (hm : m = L.length) (hmm : m ≤ 9223372036854775807) (hi : Inv w) (hpre : ∀ x ∈ L, Pre x) :
    Calls Tryz.prog 55 #[.slice a0 m c, .func (.func g) #[] lb] w fun e w' => e = .returned (.bool (L.any p)) ∧ Below w.heap.size w w' := by
  have HX := Lib.hid (idxl_core g lb eg p Pre Inv hI hp a0 c m L w h hm hmm hi hpre)
  clear h hm hi hpre hI hp
  go_enter Tryz.func55, Tryz.ntmps55
  go_wp2_with (go_at_call 70; (with_reducible refine HX.out.mono ?_); rintro e w3 ⟨r, rfl, hR, hb3⟩; have HR := Lib.hid hR.any; have HB3 := Lib.hid hb3; clear hb3 hR)
  go_ret
  refine ⟨?_, HB3.out⟩
  rw [← HR.out]
  rfl
set_option maxRecDepth 100000 in
set_option maxHeartbeats 4000000 in
/-- A name is outside if it isn't within some base of each list. -/
theorem outside_any (al ag : Option Addr) (cl m cg N B : Nat) (L : List (List Gn)) (q : Int) (t : List UInt8) (n : Nm) (W : World) (g0 : W.cell? ⟨B, 0, none⟩ = some (.slice al m cl)) (hB : B < W.heap.size) (h : LLies W al L) (hm : m = L.length) (hmm : m ≤ 9223372036854775807) (hL : ∀ x ∈ L, SmL x ∧ x.length ≤ 1000000) (hg : RLies W ag n) (hN : N = n.length) (hNc : N ≤ cg) (hs : SmG (q, t, n)) (hmk : Mk W) :
    Calls Tryz.prog 54 (#[.agg #[.int .i64 q, .string (strOf t), .slice ag N cg]] ++ #[.pointer (some ⟨B, 0, none⟩)]) W fun e w' => e = .returned (.bool (L.any fun l => !inG (q, t, n) l)) ∧ Below W.heap.size W w' := by
  obtain ⟨W0, hW0⟩ : ∃ W0, W0 = W.alloc (.cells #[.int .i64 q, .string (strOf t), .slice ag N cg] 32) := ⟨_, rfl⟩
  have hwr := hW0.symm
  have hb0 : Below W.heap.size W W0 := by rw [hW0]; exact belowNew W _
  obtain ⟨b0, b1, b2, lb⟩ := three_facts (w := W0) (g := W.heap.size) (by rw [hW0]; exact heap_alloc_new W _)
  have k0 := (hb0.cell (p := ⟨B, 0, none⟩) hB).trans g0
  have HB0 := Lib.hid hb0
  have HX := Lib.hid (contl_core 56 #[.pointer (some ⟨W.heap.size, 0, none⟩)] (enters_of Tryz.func56 (by kernel_rfl) rfl) (fun l => !inG (q, t, n) l) (fun x => SmL x ∧ x.length ≤ 1000000) (fun V => Below W0.heap.size W0 V) (fun V V' h hb => below_next h hb)
    (fun a c N' l V hI hl hN' _ hx => within2_any a ag c N' cg N W.heap.size l q t n V ((hI.cell (p := ⟨W.heap.size, 0, none⟩) lb).trans b0) ((hI.cell (p := ⟨W.heap.size, 1, none⟩) lb).trans b1) ((hI.cell (p := ⟨W.heap.size, 2, none⟩) lb).trans b2) hl hN' (by have := hx.2; omega) ((hg.below hb0).below hI) hN hNc hs hx.1 ((hmk.below hb0).below hI)) al cl m L W0 (h.below hb0) hm hmm (Below.refl _ _) hL)
  generalize (L.any fun l => !inG (q, t, n) l) = E at HX
  clear g0 h hm hmm hL hg hN hNc hs hmk hb0 hW0 b0 b1 b2 lb
  go_enter Tryz.func54, Tryz.ntmps54
  go_wp2_with (go_at_call 55; (with_reducible refine HX.out.mono ?_); rintro e w3 ⟨rfl, hb3⟩; have HB3 := Lib.hid (below_next HB0.out hb3); clear hb3)
  go_ret
  exact ⟨rfl, HB3.out⟩
end Go.Proofs.YtofadgmnjckpcaaGreatDoor
namespace Go.Proofs.YtofadgmnjckpcaaGreatDoor
open Go.RowKit

theorem addsG_append (l m n : List Gn) : addsG l (m ++ n) = addsG (addsG l m) n := by unfold addsG; exact List.foldl_append
theorem addsG_one (l : List Gn) (g : Gn) : addsG l [g] = addG l g := rfl
theorem take_one {α : Type} (l : List α) (k : Nat) (h : k < l.length) (d : α) : l.take (k + 1) = l.take k ++ [l.getD k d] := by
  rw [List.take_add_one, List.getD_eq_getElem?_getD, List.getElem?_eq_getElem h]; rfl
theorem filter_take {α : Type} (p : α → Bool) (l : List α) (k : Nat) (h : k < l.length) (d : α) : (l.take (k + 1)).filter p = (l.take k).filter p ++ (if p (l.getD k d) = true then [l.getD k d] else []) := by
  rw [take_one l k h d, List.filter_append, List.filter_cons, List.filter_nil]
theorem flat_take {α β : Type} (f : α → List β) (l : List α) (k : Nat) (h : k < l.length) (d : α) : (l.take (k + 1)).flatMap f = (l.take k).flatMap f ++ f (l.getD k d) := by
  rw [take_one l k h d, List.flatMap_append]; simp
/-- What a kind adds; what a constraint adds to it. -/
noncomputable def kindG (st : List Sub) (k : Int) : List Gn := (st.flatMap (·.1)).filter (everyG st k)
theorem kindG_flat (st : List Sub) (k : Int) : kindG st k = st.flatMap (fun s => s.1.filter (everyG st k)) := by
  unfold kindG
  generalize everyG st k = p
  induction st with
  | nil => rfl
  | cons s r ih => rw [List.flatMap_cons, List.filter_append, ih, List.flatMap_cons]
theorem permG_kinds (st : List Sub) : permG st = addsG [] ((limitedG st).flatMap (kindG st)) := rfl
/-- The kinds that are limited among the first ones. -/
def limTo (st : List Sub) (j : Nat) : List Int := (kindsG.take j).filter (fun k => st.any (fun s => limG s.1 k))
theorem limTo_all (st : List Sub) : limTo st 4 = limitedG st := rfl
theorem limTo_step (st : List Sub) (j : Nat) (h : j < 4) : limTo st (j + 1) = limTo st j ++ (if st.any (fun s => limG s.1 (kindsG.getD j 0)) = true then [kindsG.getD j 0] else []) := filter_take _ kindsG j h 0
noncomputable def permTo (st : List Sub) (j : Nat) : List Gn := addsG [] ((limTo st j).flatMap (kindG st))
theorem permTo_all (st : List Sub) : permTo st 4 = permG st := rfl
theorem permTo_yes (st : List Sub) (j : Nat) (h : j < 4) (hl : st.any (fun s => limG s.1 (kindsG.getD j 0)) = true) : permTo st (j + 1) = addsG (permTo st j) (kindG st (kindsG.getD j 0)) := by
  unfold permTo
  rw [limTo_step st j h, if_pos hl, List.flatMap_append, addsG_append]
  simp
theorem permTo_no (st : List Sub) (j : Nat) (h : j < 4) (hl : st.any (fun s => limG s.1 (kindsG.getD j 0)) = false) : permTo st (j + 1) = permTo st j ∧ limTo st (j + 1) = limTo st j := by
  have e : limTo st (j + 1) = limTo st j := by rw [limTo_step st j h, hl, if_neg (by decide), List.append_nil]
  exact ⟨by unfold permTo; rw [e], e⟩
/-- Within a kind: the first constraints, and the first bases of the next one. -/
noncomputable def kindTo (st : List Sub) (k : Int) (i : Nat) : List Gn := (st.take i).flatMap (fun s => s.1.filter (everyG st k))
theorem kindTo_all (st : List Sub) (k : Int) : kindTo st k st.length = kindG st k := by rw [kindG_flat]; unfold kindTo; rw [List.take_length]
theorem kindTo_step (st : List Sub) (k : Int) (i : Nat) (h : i < st.length) : kindTo st k (i + 1) = kindTo st k i ++ (st.getD i noSub).1.filter (everyG st k) := flat_take _ st i h noSub
theorem base_yes (l A : List Gn) (p : Gn → Bool) (m : Nat) (h : m < l.length) (hp : p (l.getD m noG) = true) : addsG A ((l.take (m + 1)).filter p) = addG (addsG A ((l.take m).filter p)) (l.getD m noG) := by
  rw [filter_take p l m h noG, if_pos hp, addsG_append, addsG_one]
theorem base_no (l A : List Gn) (p : Gn → Bool) (m : Nat) (h : m < l.length) (hp : p (l.getD m noG) = false) : addsG A ((l.take (m + 1)).filter p) = addsG A ((l.take m).filter p) := by
  rw [filter_take p l m h noG, hp, if_neg (by decide), List.append_nil]
/-- The excluded ones. -/
noncomputable def excTo (st : List Sub) (i : Nat) : List Gn := addsG [] ((st.take i).flatMap (·.2))
theorem excTo_all (st : List Sub) : excTo st st.length = exclG st := by unfold excTo exclG; rw [List.take_length]
theorem excTo_step (st : List Sub) (i : Nat) (h : i < st.length) : excTo st (i + 1) = addsG (excTo st i) (st.getD i noSub).2 := by
  unfold excTo
  rw [flat_take _ st i h noSub, addsG_append]
theorem adds_step (l A : List Gn) (m : Nat) (h : m < l.length) : addsG A (l.take (m + 1)) = addG (addsG A (l.take m)) (l.getD m noG) := by
  rw [take_one l m h noG, addsG_append, addsG_one]
/-- Everywhere: of its kind, and within each constraint that limits it. -/
noncomputable def evTo (st : List Sub) (k : Int) (g : Gn) (i : Nat) : Bool := decide (g.1 = k) && (st.take i).all (fun o => !(limG o.1 k && !inG g o.1))
theorem evTo_all (st : List Sub) (k : Int) (g : Gn) : evTo st k g st.length = everyG st k g := by unfold evTo everyG; rw [List.take_length]
theorem evTo_step (st : List Sub) (k : Int) (g : Gn) (i : Nat) (h : i < st.length) : evTo st k g (i + 1) = (evTo st k g i && !(limG (st.getD i noSub).1 k && !inG g (st.getD i noSub).1)) := by
  unfold evTo
  rw [take_one st i h noSub, List.all_append, Bool.and_assoc]
  simp
end Go.Proofs.YtofadgmnjckpcaaGreatDoor
namespace Go.Proofs.YtofadgmnjckpcaaGreatDoor
open Go.RowKit

/-- The cells behind three stores at place n. -/
def set3 (C : List Value) (n : Nat) (a b c : Value) : List Value := ((C.set n a).set (n + 1) b).set (n + 2) c
theorem set3_length (C : List Value) (n : Nat) (a b c : Value) : (set3 C n a b c).length = C.length := by simp [set3]
theorem set3_take (C : List Value) (n : Nat) (a b c : Value) (h : n + 3 ≤ C.length) : (set3 C n a b c).take (n + 3) = C.take n ++ [a, b, c] := by
  apply List.ext_getElem?
  intro i
  unfold set3
  by_cases h1 : i < n
  · rw [List.getElem?_take_of_lt (by omega), List.getElem?_set_ne (by omega), List.getElem?_set_ne (by omega), List.getElem?_set_ne (by omega), List.getElem?_append_left (by rw [List.length_take]; omega), List.getElem?_take_of_lt h1]
  · have hl : (C.take n).length = n := by rw [List.length_take]; omega
    by_cases h2 : i < n + 3
    · rw [List.getElem?_take_of_lt h2, List.getElem?_append_right (by omega), hl]
      rcases (by omega : i = n ∨ i = n + 1 ∨ i = n + 2) with rfl | rfl | rfl
      · rw [List.getElem?_set_ne (by omega), List.getElem?_set_ne (by omega), List.getElem?_set_self (by omega)]
        simp
      · rw [List.getElem?_set_ne (by omega), List.getElem?_set_self (by simp; omega)]
        simp
      · rw [List.getElem?_set_self (by simp; omega)]
        simp
    · rw [List.getElem?_eq_none (by rw [List.length_take]; omega), List.getElem?_eq_none (by rw [List.length_append, hl]; simp; omega)]
theorem set3_far (C : List Value) (n : Nat) (a b c : Value) (x : Nat) (h : n + 3 ≤ x) : (set3 C n a b c)[x]? = C[x]? := by
  unfold set3
  rw [List.getElem?_set_ne (by omega), List.getElem?_set_ne (by omega), List.getElem?_set_ne (by omega)]
noncomputable def keepG (p : Gn → Bool) (l : List Gn) : List Gn := l.filter (fun x => !p x)
theorem keepG_step (p : Gn → Bool) (l : List Gn) (k : Nat) (hk : k < l.length) : keepG p (l.take (k + 1)) = keepG p (l.take k) ++ (if p (l.getD k noG) = true then [] else [l.getD k noG]) := by
  unfold keepG
  rw [List.take_succ_eq_append_getElem hk, List.filter_append, List.getD_eq_getElem?_getD, List.getElem?_eq_getElem hk, Option.getD_some]
  congr 1
  cases h : p l[k] <;> simp [h]
/-- Names' slices say what Q says. -/
def NamesQ (Q : Option Addr → Nm → Prop) (l : List Gn) (ss : List Value) : Prop := ∀ i, i < l.length → ∃ a c, ss.getD i noS = .slice a (l.getD i noG).2.2.length c ∧ (l.getD i noG).2.2.length ≤ c ∧ Q a (l.getD i noG).2.2
/-- Behind j elements: the row's first cells hold what is kept, the cells from element j on are as they were. -/
def DelI (Q : Option Addr → Nm → Prop) (p : Gn → Bool) (l : List Gn) (ss : List Value) (C : List Value) (j i : Nat) : Prop :=
  ∃ K : List Value, K.length = (keepG p (l.take j)).length ∧ i = (keepG p (l.take j)).length ∧ C.take (i * 3) = gsCells (keepG p (l.take j)) K ∧ NamesQ Q (keepG p (l.take j)) K ∧ ∀ x, j * 3 ≤ x → x < l.length * 3 → C[x]? = (gsCells l ss)[x]?
theorem DelI.drop {Q : Option Addr → Nm → Prop} {p : Gn → Bool} {l : List Gn} {ss C : List Value} {j i : Nat} (h : DelI Q p l ss C j i) (hj : j < l.length) (hp : p (l.getD j noG) = true) : DelI Q p l ss C (j + 1) i := by
  obtain ⟨K, h1, h2, h3, h4, h5⟩ := h
  have e : keepG p (l.take (j + 1)) = keepG p (l.take j) := by rw [keepG_step p l j hj, if_pos hp, List.append_nil]
  rw [← e] at h1 h2 h3 h4
  exact ⟨K, h1, h2, h3, h4, fun x hx => h5 x (by omega)⟩
theorem DelI.keep {Q : Option Addr → Nm → Prop} {p : Gn → Bool} {l : List Gn} {ss C : List Value} {j i : Nat} (h : DelI Q p l ss C j i) (hj : j < l.length) (hp : p (l.getD j noG) = false) (hC : l.length * 3 ≤ C.length) (hs : NamesQ Q l ss) :
    DelI Q p l ss (set3 C (i * 3) (.int .i64 (l.getD j noG).1) (.string (strOf (l.getD j noG).2.1)) (ss.getD j noS)) (j + 1) (i + 1) := by
  obtain ⟨K, h1, h2, h3, h4, h5⟩ := h
  have e : keepG p (l.take (j + 1)) = keepG p (l.take j) ++ [l.getD j noG] := by rw [keepG_step p l j hj, if_neg (by rw [hp]; exact Bool.false_ne_true)]
  have hij : i ≤ j := by
    rw [h2]
    exact Nat.le_trans (List.length_filter_le _ _) (by rw [List.length_take]; omega)
  refine ⟨K ++ [ss.getD j noS], by rw [e]; simp [h1], by rw [e]; simp [h2], ?_, ?_, fun x hx hxl => ?_⟩
  · rw [e, gsCells_snoc _ _ _ _ h1, ← h3, Nat.add_mul, Nat.one_mul, set3_take _ _ _ _ _ (by omega)]
    rfl
  · rw [e]
    intro x hx
    by_cases hlt : x < (keepG p (l.take j)).length
    · rw [getD_snoc_lt _ _ _ _ (by omega), getD_snoc_lt _ _ _ _ hlt]; exact h4 x hlt
    · rw [List.length_append, List.length_singleton] at hx
      obtain rfl : x = (keepG p (l.take j)).length := by omega
      rw [getD_snoc_eq, ← h1, getD_snoc_eq]; exact hs j hj
  · rw [set3_far _ _ _ _ _ _ (by omega)]; exact h5 x (by omega) hxl
end Go.Proofs.YtofadgmnjckpcaaGreatDoor
