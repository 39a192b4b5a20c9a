/-
  The contract of matchRelative: whether two relative names match.
  The contracts of slices.EqualFunc at relative names, of Match and of Within.
-/
import Derived.Test.YtofadgmnjckpcaaGreatDoorVae
import Derived.Lib.QuietBelow
import Derived.BigQuiet
namespace Go.Proofs.YtofadgmnjckpcaaGreatDoor
open Go.RowKit Go.Maps

theorem sub_len {K2 : List Lit} : ∀ {K1 : List Lit}, K1.Pairwise (· ≠ ·) → (∀ x ∈ K1, x ∈ K2) → ∃ R, K2.Perm (K1 ++ R) := by
  intro K1
  induction K1 generalizing K2 with
  | nil => intro _ _; exact ⟨K2, List.Perm.refl _⟩
  | cons x K1 ih =>
    intro h hs
    obtain ⟨h1, h2⟩ := List.pairwise_cons.1 h
    obtain ⟨a, b, rfl⟩ := List.append_of_mem (hs x (by simp))
    obtain ⟨R, hR⟩ := ih (K2 := a ++ b) h2 (fun y hy => by
      have h3 := hs y (by simp [hy])
      simp only [List.mem_append, List.mem_cons] at h3 ⊢
      rcases h3 with h3 | h3 | h3
      · exact .inl h3
      · exact absurd h3.symm (h1 y hy)
      · exact .inr h3)
    exact ⟨R, List.perm_middle.trans (hR.cons x)⟩
def keysD : DataW Unit → List Lit
  | .map es => es.map (·.1)
  | _ => []
/-- Two sets are held to be equal just where they have the same keys. -/
theorem equal_iff {D1 D2 : DataW Unit} (h1 : Tidy D1) (h2 : Tidy D2) (k1 : ∀ k ∈ keysD D1, WideAt.IsKeyLit k) (k2 : ∀ k ∈ keysD D2, WideAt.IsKeyLit k) :
    Lib.equalFuncD tt D1 D2 = true ↔ ∀ k, has D1 k = true ↔ has D2 k = true := by
  obtain ⟨e1, rfl, p1⟩ := h1
  obtain ⟨e2, rfl, p2⟩ := h2
  have q1 : (e1.map (·.1)).Pairwise (· ≠ ·) := by rw [List.pairwise_map]; exact p1
  have q2 : (e2.map (·.1)).Pairwise (· ≠ ·) := by rw [List.pairwise_map]; exact p2
  have m1 : ∀ k, has (DataW.map e1 : DataW Unit) k = true ↔ k ∈ e1.map (·.1) := by
    intro k
    constructor
    · intro h
      obtain ⟨p, hp, hs⟩ := List.any_eq_true.1 (show e1.any (fun p => p.1.sameKey k) = true from h)
      exact List.mem_map.2 ⟨p, hp, WideAt.sameKey_eq hs⟩
    · intro h
      have hk := k1 k h
      obtain ⟨p, hp, rfl⟩ := List.mem_map.1 h
      exact List.any_eq_true.2 ⟨p, hp, WideAt.sameKey_self hk⟩
  have m2 : ∀ k, has (DataW.map e2 : DataW Unit) k = true ↔ k ∈ e2.map (·.1) := by
    intro k
    constructor
    · intro h
      obtain ⟨p, hp, hs⟩ := List.any_eq_true.1 (show e2.any (fun p => p.1.sameKey k) = true from h)
      exact List.mem_map.2 ⟨p, hp, WideAt.sameKey_eq hs⟩
    · intro h
      have hk := k2 k h
      obtain ⟨p, hp, rfl⟩ := List.mem_map.1 h
      exact List.any_eq_true.2 ⟨p, hp, WideAt.sameKey_self hk⟩
  have hall : Lib.equalFuncD tt (.map e1) (.map e2 : DataW Unit) = true ↔ e1.length = e2.length ∧ ∀ k ∈ e1.map (·.1), k ∈ e2.map (·.1) := by
    unfold Lib.equalFuncD
    rw [Bool.and_eq_true, decide_eq_true_iff]
    refine and_congr (by simp [Maps.size]) ?_
    show e1.all (Lib.goodD tt (.map e2)) = true ↔ _
    rw [List.all_eq_true]
    constructor
    · intro h k hk
      obtain ⟨p, hp, rfl⟩ := List.mem_map.1 hk
      have := h p hp
      unfold Lib.goodD tt at this
      rw [Bool.and_true] at this
      exact (m2 _).1 this
    · intro h p hp
      unfold Lib.goodD tt
      rw [Bool.and_true]
      exact (m2 _).2 (h p.1 (List.mem_map.2 ⟨p, hp, rfl⟩))
  rw [hall]
  constructor
  · rintro ⟨hl, hs⟩ k
    rw [m1, m2]
    refine ⟨hs k, fun hk => ?_⟩
    obtain ⟨R, hR⟩ := sub_len q1 hs
    have := hR.length_eq
    rw [List.length_append, List.length_map, List.length_map] at this
    obtain rfl : R = [] := List.eq_nil_of_length_eq_zero (by omega)
    rw [List.append_nil] at hR
    exact hR.mem_iff.1 hk
  · intro h
    have s1 : ∀ k ∈ e1.map (·.1), k ∈ e2.map (·.1) := fun k hk => (m2 k).1 ((h k).1 ((m1 k).2 hk))
    have s2 : ∀ k ∈ e2.map (·.1), k ∈ e1.map (·.1) := fun k hk => (m1 k).1 ((h k).2 ((m2 k).2 hk))
    obtain ⟨R, hR⟩ := sub_len q1 s1
    obtain ⟨S, hS⟩ := sub_len q2 s2
    have e3 := hR.length_eq
    have e4 := hS.length_eq
    rw [List.length_append, List.length_map, List.length_map] at e3 e4
    exact ⟨by omega, s1⟩
theorem tidy_set (l : List At) : Tidy (setD (H := Unit) l) := tidy_setOf _ _ (keys_of l)
theorem keys_fold : ∀ (acc : List Lit) (es : List (Lit × DataW Unit)), (∀ x ∈ acc, WideAt.IsKeyLit x) → (∀ p ∈ es, WideAt.IsKeyLit p.1) → ∃ es', acc.foldl (fun m x => m.put x sU) (DataW.map es) = .map es' ∧ ∀ p ∈ es', WideAt.IsKeyLit p.1
  | [], es, _, h => ⟨es, rfl, h⟩
  | x :: r, es, hk, h => by
    rw [List.foldl_cons]
    refine keys_fold r (DataW.insert (x, sU) (es.filter fun p => !p.1.sameKey x)) (fun y hy => hk y (by simp [hy])) (fun p hp => ?_)
    rcases Go.ChangeMaps.mem_insert_iff.1 hp with rfl | hp
    · exact hk _ (by simp)
    · exact h p (List.mem_filter.1 hp).1
theorem keysD_set (l : List At) : ∀ k ∈ keysD (setD l), WideAt.IsKeyLit k := by
  intro k hk
  obtain ⟨es, he, hp⟩ := keys_fold _ [] (keys_of l) (fun p hp => by simp at hp)
  have he2 : setD (H := Unit) l = .map es := he
  rw [he2] at hk
  obtain ⟨p, hp2, rfl⟩ := List.mem_map.1 (show k ∈ es.map (·.1) from hk)
  exact hp p hp2
theorem small_mem {r : List At} (h : SmallR r) {x : At} (hx : x ∈ r) : SmallA x := by
  obtain ⟨i, hi, rfl⟩ := List.mem_iff_getElem.1 hx
  have := h.2 i hi
  rwa [List.getD_eq_getElem?_getD, List.getElem?_eq_getElem hi] at this
theorem has_mem (l : List At) (k : Lit) : has (setD (H := Unit) l) k = true ↔ ∃ x ∈ l, fK (fa x) = k := by
  rw [has_setD, List.any_eq_true]
  constructor
  · rintro ⟨y, hy, hs⟩
    obtain ⟨x, hx, rfl⟩ := List.mem_map.1 hy
    exact ⟨x, hx, WideAt.sameKey_eq hs⟩
  · rintro ⟨x, hx, rfl⟩
    exact ⟨_, List.mem_map.2 ⟨x, hx, rfl⟩, WideAt.sameKey_self (fK_key _)⟩
theorem fa_size {x : At} (h : SmallA x) : (fa x).1.size ≤ maxLen ∧ (fa x).2.size ≤ maxLen := by
  have h1 := h.1
  have h2 := Nat.le_trans (foldS_size x.2.2) h.2
  unfold maxLen fa
  exact ⟨by show x.1.size ≤ _; omega, by show (foldS x.2.2).size ≤ _; omega⟩
theorem matchR_iff {r s : List At} (hr : SmallR r) (hs : SmallR s) (hl : r.length = s.length) : Lib.equalFuncD tt (setD r) (setD s) = decide (MatchR r s) := by
  rw [Bool.eq_iff_iff, decide_eq_true_iff, equal_iff (tidy_set r) (tidy_set s) (keysD_set r) (keysD_set s)]
  constructor
  · intro h
    refine ⟨hl, fun x hx => ?_, fun y hy => ?_⟩
    · obtain ⟨y, hy, e⟩ := (has_mem s _).1 ((h (fK (fa x))).1 ((has_mem r _).2 ⟨x, hx, rfl⟩))
      obtain ⟨b1, b2⟩ := fa_size (small_mem hr hx)
      obtain ⟨b3, b4⟩ := fa_size (small_mem hs hy)
      exact ⟨y, hy, fK_inj b3 b4 b1 b2 e⟩
    · obtain ⟨x, hx, e⟩ := (has_mem r _).1 ((h (fK (fa y))).2 ((has_mem s _).2 ⟨y, hy, rfl⟩))
      obtain ⟨b1, b2⟩ := fa_size (small_mem hr hx)
      obtain ⟨b3, b4⟩ := fa_size (small_mem hs hy)
      exact ⟨x, hx, fK_inj b1 b2 b3 b4 e⟩
  · intro h k
    rw [has_mem, has_mem]
    constructor
    · rintro ⟨x, hx, rfl⟩
      obtain ⟨y, hy, e⟩ := h.2.1 x hx
      exact ⟨y, hy, by rw [e]⟩
    · rintro ⟨y, hy, rfl⟩
      obtain ⟨x, hx, e⟩ := h.2.2 y hy
      exact ⟨x, hx, by rw [e]⟩

set_option maxRecDepth 100000 in
set_option maxHeartbeats 4000000 in
theorem mrel_any (a0 b0 : Option Addr) (c d n m : Nat) (r s : List At) (w : World) (h1 : ALies w a0 r) (h2 : ALies w b0 s) (hn : n = r.length) (hm : m = s.length) (hr : SmallR r) (hs : SmallR s) :
    Calls Tryz.prog 96 #[.slice a0 n c, .slice b0 m d] w fun e w' => e = .returned (.bool (decide (MatchR r s))) ∧ Below w.heap.size w w' := by
  by_cases hl : n = m
  · have HF := Lib.hid (matchR_iff hr hs (by omega))
    obtain ⟨v, hv⟩ : ∃ v, v = decide (MatchR r s) := ⟨_, rfl⟩
    rw [← hv] at HF ⊢
    have HS1 := Lib.hid (fset_any a0 c n r w h1 hn hr)
    have HS2 := Lib.hid (fun W (hb : Below w.heap.size w W) => fset_any b0 d m s W (h2.below hb) hm hs)
    have hd : ((n : Int) == (m : Int)) = true := beq_iff_eq.2 (by omega)
    clear h1 h2 hn hm hr hs hv hl
    go_enter Tryz.func96, Tryz.ntmps96
    go_wp2_with (first
      | (go_at_call 116; (with_reducible refine HS1.out.mono ?_); rintro e w1 ⟨rfl, ho1, hb1⟩; have HO1 := Lib.hid ho1; have HB1 := Lib.hid hb1; clear ho1 hb1)
      | (go_at_call 116; (with_reducible refine (HS2.out _ HB1.out).mono ?_); rintro e w2 ⟨rfl, ho2, hb2⟩; have HO2 := Lib.hid ho2; have HO1 := Lib.hid (HO1.out.kept (Below.only hb2) (by simp)); have HB2 := Lib.hid (below_next HB1.out hb2); clear ho2 hb2)
      | (go_at_call 115; (with_reducible refine (meq_any _ _ _ _ r s _ HO1.out HO2.out).mono ?_); rw [HF.out]; rintro e w3 ⟨rfl, hb3⟩; have HB3 := Lib.hid (below_next HB2.out hb3); clear hb3))
    go_ret
    exact ⟨rfl, HB3.out⟩
  · have e : decide (MatchR r s) = false := decide_eq_false (fun h => hl (by rw [hn, hm]; exact h.1))
    have hd : ((n : Int) == (m : Int)) = false := beq_eq_false_iff_ne.2 (by omega)
    rw [e]
    clear h1 h2 hn hm hr hs hl e
    go_enter Tryz.func96, Tryz.ntmps96
    go_wp2_with fail
    go_ret
    exact ⟨rfl, Below.refl _ _⟩
end Go.Proofs.YtofadgmnjckpcaaGreatDoor
namespace Go.Proofs.YtofadgmnjckpcaaGreatDoor
open Go.RowKit

set_option maxRecDepth 100000 in
set_option maxHeartbeats 4000000 in
theorem eqf_any (a0 b0 : Option Addr) (c d n m : Nat) (r s : Nm) (w : World) (h1 : RLies w a0 r) (h2 : RLies w b0 s) (hn : n = r.length) (hm : m = s.length) (hr : SmallN r) (hs : SmallN s) :
    Calls Tryz.prog 95 #[.slice a0 n c, .slice b0 m d, .func (.func 96) #[] #[]] w
      fun e w' => e = .returned (.bool (decide (MatchN r s))) ∧ Below w.heap.size w w' := by
  by_cases hl : n = m
  · subst hl
    have hL : n ≤ 1000000 := by rw [hn]; exact hr.1
    have H1 := Lib.hid h1
    have H2 := Lib.hid h2
    have HN := Lib.hid hn
    have HM := Lib.hid hm
    have HR := Lib.hid hr
    have HS := Lib.hid hs
    obtain ⟨v, hv⟩ : ∃ v, v = decide (MatchN r s) := ⟨_, rfl⟩
    have HV := Lib.hid hv
    rw [← hv]
    clear h1 h2 hn hm hr hs hv
    go_enter Tryz.func95, Tryz.ntmps95
    go_wp2_with fail
    go_loopw [17] (fun i wr => ∃ k : Nat, k ≤ n ∧ i = .int .i64 k ∧ (∀ j, j < k → MatchR (r.getD j []) (s.getD j [])) ∧ Below w.heap.size w wr) (fun i _ => n - (intOf i).toNat)
    case atStart => exact ⟨0, Nat.zero_le _, rfl, fun j hj => absurd hj (Nat.not_lt_zero _), Below.refl _ _⟩
    case round =>
      obtain ⟨k, hk, rfl, hA, hb⟩ := hrel
      have HB := Lib.hid hb
      have HA := Lib.hid hA
      clear hb hA
      by_cases hlt : k < n
      · have hd : decide ((k : Int) < (n : Int)) = true := by simp; omega
        obtain ⟨b, o, rfl, hb, a1, c1, e1, _, hL1⟩ := H1.out.at k (by rw [← HN.out]; exact hlt)
        have f1 : wr.cell? ⟨b, o + k, none⟩ = _ := (HB.out.cell (p := ⟨b, o + k, none⟩) hb).trans e1
        obtain ⟨b', o', rfl, hb', a2, c2, e2, _, hL2⟩ := H2.out.at k (by rw [← HM.out]; exact hlt)
        have f2 : wr.cell? ⟨b', o' + k, none⟩ = _ := (HB.out.cell (p := ⟨b', o' + k, none⟩) hb').trans e2
        have hs1 := HR.out.2 k (by rw [← HN.out]; exact hlt)
        have hs2 := HS.out.2 k (by rw [← HM.out]; exact hlt)
        obtain ⟨x, hx⟩ : ∃ x, x = r.getD k [] := ⟨_, rfl⟩
        obtain ⟨y, hy⟩ : ∃ y, y = s.getD k [] := ⟨_, rfl⟩
        rw [← hx] at f1 hs1 hL1
        rw [← hy] at f2 hs2 hL2
        obtain ⟨p, hp⟩ : ∃ p, p = x.length := ⟨_, rfl⟩
        obtain ⟨q, hq⟩ : ∃ q, q = y.length := ⟨_, rfl⟩
        rw [← hp] at f1
        rw [← hq] at f2
        have HMR := Lib.hid (mrel_any a1 a2 c1 c2 p q x y wr (hL1.below HB.out) (hL2.below HB.out) hp hq hs1 hs2)
        have HX := Lib.hid hx
        have HY := Lib.hid hy
        clear e1 e2 hb hb' hs1 hs2 hL1 hL2 hx hy hp hq
        by_cases hmm : MatchR x y
        · rw [decide_eq_true hmm] at HMR
          have HF := Lib.hid (show ∀ j, j < k + 1 → MatchR (r.getD j []) (s.getD j []) from fun j hj => by
            by_cases e : j = k
            · rw [e, ← HX.out, ← HY.out]; exact hmm
            · exact HA.out j (by omega))
          clear hmm
          go_wp2_with (go_at_call 96; (with_reducible refine HMR.out.mono ?_); rintro e w1 ⟨rfl, hb1⟩; have HB1 := Lib.hid (below_next HB.out hb1); clear hb1)
          go_roundw
          case rel => exact ⟨k + 1, by omega, by go_num, HF.out, HB1.out⟩
          case measure => simp [intOf]; omega
        · rw [decide_eq_false hmm] at HMR
          have HF := Lib.hid (show v = false by rw [HV.out]; exact decide_eq_false (fun h => hmm (by rw [HX.out, HY.out]; exact h.2 k (by rw [← HN.out]; exact hlt))))
          clear hmm
          go_wp2_with (go_at_call 96; (with_reducible refine HMR.out.mono ?_); rintro e w1 ⟨rfl, hb1⟩; have HB1 := Lib.hid (below_next HB.out hb1); clear hb1)
          go_ret
          exact ⟨by rw [HF.out]; rfl, HB1.out⟩
      · have hd : decide ((k : Int) < (n : Int)) = false := by simp; omega
        have HF := Lib.hid (show v = true by rw [HV.out]; exact decide_eq_true ⟨by rw [← HN.out, ← HM.out], fun j hj => HA.out j (by rw [← HN.out] at hj; omega)⟩)
        go_wp2_with fail
        go_ret
        exact ⟨by rw [HF.out]; rfl, HB.out⟩
  · have e : decide (MatchN r s) = false := decide_eq_false (fun h => hl (by rw [hn, hm]; exact h.1))
    have hd : ((n : Int) != (m : Int)) = true := by simp; omega
    rw [e]
    clear h1 h2 hn hm hr hs hl e
    go_enter Tryz.func95, Tryz.ntmps95
    go_wp2_with fail
    go_ret
    exact ⟨rfl, Below.refl _ _⟩

theorem belowTwo (w : World) (o p : Obj) : Below w.heap.size w ((w.alloc o).alloc p) := below_next (belowNew w o) (belowNew _ p)
set_option maxRecDepth 100000 in
set_option maxHeartbeats 4000000 in
theorem match_core (a0 b0 : Option Addr) (c d n m : Nat) (r s : Nm) (w : World) (h1 : RLies w a0 r) (h2 : RLies w b0 s) (hn : n = r.length) (hm : m = s.length) (hr : SmallN r) (hs : SmallN s) :
    Calls Tryz.prog 75 #[.agg #[.slice a0 n c], .agg #[.slice b0 m d]] w fun e w' => e = .returned (.bool (decide (MatchN r s))) ∧ Below w.heap.size w w' := by
  have HE := Lib.hid (fun W (hb : Below w.heap.size w W) => eqf_any a0 b0 c d n m r s W (h1.below hb) (h2.below hb) hn hm hr hs)
  have HB := Lib.hid (belowTwo w (.cells #[.slice a0 n c] 30) (.cells #[.slice b0 m d] 30))
  obtain ⟨v, hv⟩ : ∃ v, v = decide (MatchN r s) := ⟨_, rfl⟩
  rw [← hv] at HE ⊢
  clear h1 h2 hn hm hr hs hv
  go_enter Tryz.func75, Tryz.ntmps75
  go_wp2_with (go_at_call 95; (with_reducible refine (HE.out _ HB.out).mono ?_); rintro e w1 ⟨rfl, hb1⟩; have HB1 := Lib.hid (below_next HB.out hb1); clear hb1)
  go_ret
  exact ⟨rfl, HB1.out⟩
theorem slice_head (a0 : Option Addr) (n c m : Nat) (hm : m ≤ c) (W : World) : (Instr.slice 28 (.slice a0 n c) none (some (.int .i64 (m : Int))) none).run Tryz.prog W = .ok (.slice a0 m c) W := by
  have ha : ∀ a : Addr, a.add 0 = a := fun a => by obtain ⟨b, o, s⟩ := a; cases s <;> simp [Addr.add]
  have hc : (0 : Int) ≤ (m : Int) ∧ (m : Int) ≤ (c : Int) := by omega
  simp [Instr.slice, run_underlying Tryz.underlying28, Instr.sliceBounds, Instr.sliceBound, asIntOf, Result.andThen, hc]
  rw [if_pos hm]
  show Result.ok (Value.slice (if c = 0 then a0 else Option.map (fun x => x.add 0) a0) m c) W = _
  have he : Option.map (fun x : Addr => x.add 0) a0 = a0 := by cases a0 <;> simp [ha]
  rw [he, ite_self]

set_option maxRecDepth 100000 in
set_option maxHeartbeats 8000000 in
theorem within_core (a0 b0 : Option Addr) (c d n m : Nat) (r s : Nm) (w : World) (h1 : RLies w a0 r) (h2 : RLies w b0 s) (hn : n = r.length) (hm : m = s.length) (hc : n ≤ c) (hr : SmallN r) (hs : SmallN s) :
    Calls Tryz.prog 82 #[.agg #[.slice a0 n c], .agg #[.slice b0 m d]] w fun e w' => e = .returned (.bool (decide (WithinN r s))) ∧ Below w.heap.size w w' := by
  obtain ⟨W, hW⟩ : ∃ W, W = (w.alloc (.cells #[.slice a0 n c] 30)).alloc (.cells #[.slice b0 m d] 30) := ⟨_, rfl⟩
  have hwr : (w.alloc (.cells #[.slice a0 n c] 30)).alloc (.cells #[.slice b0 m d] 30) = W := hW.symm
  have hb : Below w.heap.size w W := by rw [hW]; exact belowTwo w _ _
  have k0 : W.cell? ⟨w.heap.size, 0, none⟩ = some (.slice a0 n c) := by
    rw [hW, World.cell?_alloc_old _ _ _ (by simp), cell_of_row _ _ 0 _ _ _ (heap_alloc_new w _)]; rfl
  have k1 : W.cell? ⟨w.heap.size + 1, 0, none⟩ = some (.slice b0 m d) := by
    rw [hW]
    have := cell_of_row (w := (w.alloc (.cells #[.slice a0 n c] 30)).alloc (.cells #[.slice b0 m d] 30)) (w.heap.size + 1) 0 #[.slice b0 m d] 30 (0, 0) (by have := heap_alloc_new (w.alloc (.cells #[.slice a0 n c] 30)) (.cells #[.slice b0 m d] 30); simpa using this)
    rw [this]; rfl
  have HB := Lib.hid hb
  by_cases hl : m ≤ n
  · have HE := Lib.hid (fun V (hb : Below w.heap.size w V) => eqf_any a0 b0 c d m m (r.take m) s V ((h1.below hb).take m) (h2.below hb) (by rw [List.length_take]; omega) hm (by
      refine ⟨by rw [List.length_take]; have := hr.1; omega, fun i hi => ?_⟩
      rw [List.length_take] at hi
      rw [getD_take _ _ _ (by omega)]
      exact hr.2 i (by omega)) hs)
    obtain ⟨v, hv⟩ : ∃ v, v = decide (WithinN r s) := ⟨_, rfl⟩
    have hv2 : decide (MatchN (r.take m) s) = v := by rw [hv, decide_eq_decide, within_take r s (by omega), hm]
    rw [← hv]
    rw [hv2] at HE
    have hd : decide ((m : Int) ≤ (n : Int)) = true := by simp; omega
    have hsl := slice_head a0 n c m (by omega)
    have hms : m ≤ 1000000 := by rw [hm]; exact hs.1
    clear h1 h2 hn hm hr hs hv hv2 hc hW hb
    go_enter Tryz.func82, Tryz.ntmps82
    go_wp2_with fail
    have c0 := cell_regrown k0
    have c1 := cell_regrown k1
    have cE : ∀ d' os, Calls Tryz.prog 95 #[.slice a0 m c, .slice b0 m d, .func (.func 96) #[] #[]] (Sort.grow (redrawn W d') os)
        fun e w'' => e = .returned (.bool v) ∧ ∃ p : Regrown, w'' = Sort.grow (redrawn W p.d) p.os := fun d' os => Calls.regrown_of (HE.out _ (HB.out.trans ((below_regrown W d' os).mono HB.out.size)))
    refine wp_region_quiet_below (by kernel_rfl) (by kernel_rfl) ?_
    repeat (go_big_quiet_step (with_reducible exact cE _ _))
    refine wpQuiet_nil ?_
    intro _ hw'
    obtain ⟨⟨dq, osq⟩, hw''⟩ := hw'
    subst hw''
    clear k0 k1 c0 c1 cE
    have HBZ := Lib.hid (HB.out.trans ((below_regrown W dq osq).mono HB.out.size))
    go_wp2_with fail
    go_ret
    exact ⟨rfl, HBZ.out⟩
  · have e : decide (WithinN r s) = false := decide_eq_false (fun h => hl (by rw [hn, hm]; exact h.1))
    have hd : decide ((m : Int) ≤ (n : Int)) = false := by simp; omega
    rw [e]
    clear h1 h2 hn hm hr hs hc hW hb e
    go_enter Tryz.func82, Tryz.ntmps82
    go_wp2_with fail
    have c0 := cell_regrown k0
    have c1 := cell_regrown k1
    refine wp_region_quiet_below (by kernel_rfl) (by kernel_rfl) ?_
    repeat (go_big_quiet_step (fail))
    refine wpQuiet_nil ?_
    intro _ hw'
    obtain ⟨⟨dq, osq⟩, hw''⟩ := hw'
    subst hw''
    clear k0 k1 c0 c1
    have HBZ := Lib.hid (HB.out.trans ((below_regrown W dq osq).mono HB.out.size))
    go_wp2_with fail
    go_ret
    exact ⟨rfl, HBZ.out⟩
end Go.Proofs.YtofadgmnjckpcaaGreatDoor
