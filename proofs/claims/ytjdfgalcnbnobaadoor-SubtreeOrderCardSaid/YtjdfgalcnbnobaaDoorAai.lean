/-
  The contract of matchRelative: whether two relative names match.
-/
import Derived.Test.YtjdfgalcnbnobaaDoorAah
namespace Go.Proofs.YtjdfgalcnbnobaaDoor
open Go.RowKit Go.Maps

theorem sub_len {K2 : List Lit} : ∀ {K1 : List Lit}, K1.Pairwise (· ≠ ·) → (∀ x ∈ K1, x ∈ K2) → ∃ R, K2.Perm (K1 ++ R) := by
  intro K1
  induction K1 generalizing K2 with
  | nil => intro _ _; exact ⟨K2, List.Perm.refl _⟩
  | cons x K1 ih =>
    intro h hs
    obtain ⟨h1, h2⟩ := List.pairwise_cons.1 h
    obtain ⟨a, b, rfl⟩ := List.append_of_mem (hs x (by simp))
    obtain ⟨R, hR⟩ := ih (K2 := a ++ b) h2 (fun y hy => by
      have h3 := hs y (by simp [hy])
      simp only [List.mem_append, List.mem_cons] at h3 ⊢
      rcases h3 with h3 | h3 | h3
      · exact .inl h3
      · exact absurd h3.symm (h1 y hy)
      · exact .inr h3)
    exact ⟨R, List.perm_middle.trans (hR.cons x)⟩
def keysD : DataW Unit → List Lit
  | .map es => es.map (·.1)
  | _ => []
/-- Two sets are held to be equal just where they have the same keys. -/
theorem equal_iff {D1 D2 : DataW Unit} (h1 : Tidy D1) (h2 : Tidy D2) (k1 : ∀ k ∈ keysD D1, WideAt.IsKeyLit k) (k2 : ∀ k ∈ keysD D2, WideAt.IsKeyLit k) :
    Lib.equalFuncD tt D1 D2 = true ↔ ∀ k, has D1 k = true ↔ has D2 k = true := by
  obtain ⟨e1, rfl, p1⟩ := h1
  obtain ⟨e2, rfl, p2⟩ := h2
  have q1 : (e1.map (·.1)).Pairwise (· ≠ ·) := by rw [List.pairwise_map]; exact p1
  have q2 : (e2.map (·.1)).Pairwise (· ≠ ·) := by rw [List.pairwise_map]; exact p2
  have m1 : ∀ k, has (DataW.map e1 : DataW Unit) k = true ↔ k ∈ e1.map (·.1) := by
    intro k
    constructor
    · intro h
      obtain ⟨p, hp, hs⟩ := List.any_eq_true.1 (show e1.any (fun p => p.1.sameKey k) = true from h)
      exact List.mem_map.2 ⟨p, hp, WideAt.sameKey_eq hs⟩
    · intro h
      have hk := k1 k h
      obtain ⟨p, hp, rfl⟩ := List.mem_map.1 h
      exact List.any_eq_true.2 ⟨p, hp, WideAt.sameKey_self hk⟩
  have m2 : ∀ k, has (DataW.map e2 : DataW Unit) k = true ↔ k ∈ e2.map (·.1) := by
    intro k
    constructor
    · intro h
      obtain ⟨p, hp, hs⟩ := List.any_eq_true.1 (show e2.any (fun p => p.1.sameKey k) = true from h)
      exact List.mem_map.2 ⟨p, hp, WideAt.sameKey_eq hs⟩
    · intro h
      have hk := k2 k h
      obtain ⟨p, hp, rfl⟩ := List.mem_map.1 h
      exact List.any_eq_true.2 ⟨p, hp, WideAt.sameKey_self hk⟩
  have hall : Lib.equalFuncD tt (.map e1) (.map e2 : DataW Unit) = true ↔ e1.length = e2.length ∧ ∀ k ∈ e1.map (·.1), k ∈ e2.map (·.1) := by
    unfold Lib.equalFuncD
    rw [Bool.and_eq_true, decide_eq_true_iff]
    refine and_congr (by simp [Maps.size]) ?_
    show e1.all (Lib.goodD tt (.map e2)) = true ↔ _
    rw [List.all_eq_true]
    constructor
    · intro h k hk
      obtain ⟨p, hp, rfl⟩ := List.mem_map.1 hk
      have := h p hp
      unfold Lib.goodD tt at this
      rw [Bool.and_true] at this
      exact (m2 _).1 this
    · intro h p hp
      unfold Lib.goodD tt
      rw [Bool.and_true]
      exact (m2 _).2 (h p.1 (List.mem_map.2 ⟨p, hp, rfl⟩))
  rw [hall]
  constructor
  · rintro ⟨hl, hs⟩ k
    rw [m1, m2]
    refine ⟨hs k, fun hk => ?_⟩
    obtain ⟨R, hR⟩ := sub_len q1 hs
    have := hR.length_eq
    rw [List.length_append, List.length_map, List.length_map] at this
    obtain rfl : R = [] := List.eq_nil_of_length_eq_zero (by omega)
    rw [List.append_nil] at hR
    exact hR.mem_iff.1 hk
  · intro h
    have s1 : ∀ k ∈ e1.map (·.1), k ∈ e2.map (·.1) := fun k hk => (m2 k).1 ((h k).1 ((m1 k).2 hk))
    have s2 : ∀ k ∈ e2.map (·.1), k ∈ e1.map (·.1) := fun k hk => (m1 k).1 ((h k).2 ((m2 k).2 hk))
    obtain ⟨R, hR⟩ := sub_len q1 s1
    obtain ⟨S, hS⟩ := sub_len q2 s2
    have e3 := hR.length_eq
    have e4 := hS.length_eq
    rw [List.length_append, List.length_map, List.length_map] at e3 e4
    exact ⟨by omega, s1⟩
theorem tidy_set (l : List At) : Tidy (setD (H := Unit) l) := tidy_setOf _ _ (keys_of l)
theorem keys_fold : ∀ (acc : List Lit) (es : List (Lit × DataW Unit)), (∀ x ∈ acc, WideAt.IsKeyLit x) → (∀ p ∈ es, WideAt.IsKeyLit p.1) → ∃ es', acc.foldl (fun m x => m.put x sU) (DataW.map es) = .map es' ∧ ∀ p ∈ es', WideAt.IsKeyLit p.1
  | [], es, _, h => ⟨es, rfl, h⟩
  | x :: r, es, hk, h => by
    rw [List.foldl_cons]
    refine keys_fold r (DataW.insert (x, sU) (es.filter fun p => !p.1.sameKey x)) (fun y hy => hk y (by simp [hy])) (fun p hp => ?_)
    rcases Go.ChangeMaps.mem_insert_iff.1 hp with rfl | hp
    · exact hk _ (by simp)
    · exact h p (List.mem_filter.1 hp).1
theorem keysD_set (l : List At) : ∀ k ∈ keysD (setD l), WideAt.IsKeyLit k := by
  intro k hk
  obtain ⟨es, he, hp⟩ := keys_fold _ [] (keys_of l) (fun p hp => by simp at hp)
  have he2 : setD (H := Unit) l = .map es := he
  rw [he2] at hk
  obtain ⟨p, hp2, rfl⟩ := List.mem_map.1 (show k ∈ es.map (·.1) from hk)
  exact hp p hp2
theorem small_mem {r : List At} (h : SmallR r) {x : At} (hx : x ∈ r) : SmallA x := by
  obtain ⟨i, hi, rfl⟩ := List.mem_iff_getElem.1 hx
  have := h.2 i hi
  rwa [List.getD_eq_getElem?_getD, List.getElem?_eq_getElem hi] at this
theorem has_mem (l : List At) (k : Lit) : has (setD (H := Unit) l) k = true ↔ ∃ x ∈ l, fK (fa x) = k := by
  rw [has_setD, List.any_eq_true]
  constructor
  · rintro ⟨y, hy, hs⟩
    obtain ⟨x, hx, rfl⟩ := List.mem_map.1 hy
    exact ⟨x, hx, WideAt.sameKey_eq hs⟩
  · rintro ⟨x, hx, rfl⟩
    exact ⟨_, List.mem_map.2 ⟨x, hx, rfl⟩, WideAt.sameKey_self (fK_key _)⟩
theorem fa_size {x : At} (h : SmallA x) : (fa x).1.size ≤ maxLen ∧ (fa x).2.size ≤ maxLen := by
  have h1 := h.1
  have h2 := Nat.le_trans (foldS_size x.2.2) h.2
  unfold maxLen fa
  exact ⟨by show x.1.size ≤ _; omega, by show (foldS x.2.2).size ≤ _; omega⟩
theorem matchR_iff {r s : List At} (hr : SmallR r) (hs : SmallR s) (hl : r.length = s.length) : Lib.equalFuncD tt (setD r) (setD s) = decide (MatchR r s) := by
  rw [Bool.eq_iff_iff, decide_eq_true_iff, equal_iff (tidy_set r) (tidy_set s) (keysD_set r) (keysD_set s)]
  constructor
  · intro h
    refine ⟨hl, fun x hx => ?_, fun y hy => ?_⟩
    · obtain ⟨y, hy, e⟩ := (has_mem s _).1 ((h (fK (fa x))).1 ((has_mem r _).2 ⟨x, hx, rfl⟩))
      obtain ⟨b1, b2⟩ := fa_size (small_mem hr hx)
      obtain ⟨b3, b4⟩ := fa_size (small_mem hs hy)
      exact ⟨y, hy, fK_inj b3 b4 b1 b2 e⟩
    · obtain ⟨x, hx, e⟩ := (has_mem r _).1 ((h (fK (fa y))).2 ((has_mem s _).2 ⟨y, hy, rfl⟩))
      obtain ⟨b1, b2⟩ := fa_size (small_mem hr hx)
      obtain ⟨b3, b4⟩ := fa_size (small_mem hs hy)
      exact ⟨x, hx, fK_inj b1 b2 b3 b4 e⟩
  · intro h k
    rw [has_mem, has_mem]
    constructor
    · rintro ⟨x, hx, rfl⟩
      obtain ⟨y, hy, e⟩ := h.2.1 x hx
      exact ⟨y, hy, by rw [e]⟩
    · rintro ⟨y, hy, rfl⟩
      obtain ⟨x, hx, e⟩ := h.2.2 y hy
      exact ⟨x, hx, by rw [e]⟩

set_option maxRecDepth 100000 in
set_option maxHeartbeats 4000000 in
theorem mrel_any (a0 b0 : Option Addr) (c d n m : Nat) (r s : List At) (w : World) (h1 : ALies w a0 r) (h2 : ALies w b0 s) (hn : n = r.length) (hm : m = s.length) (hr : SmallR r) (hs : SmallR s) :
    Calls Tryd.prog 44 #[.slice a0 n c, .slice b0 m d] w fun e w' => e = .returned (.bool (decide (MatchR r s))) ∧ Below w.heap.size w w' := by
  by_cases hl : n = m
  · have HF := Lib.hid (matchR_iff hr hs (by omega))
    obtain ⟨v, hv⟩ : ∃ v, v = decide (MatchR r s) := ⟨_, rfl⟩
    rw [← hv] at HF ⊢
    have HS1 := Lib.hid (fset_any a0 c n r w h1 hn hr)
    have HS2 := Lib.hid (fun W (hb : Below w.heap.size w W) => fset_any b0 d m s W (h2.below hb) hm hs)
    have hd : ((n : Int) == (m : Int)) = true := beq_iff_eq.2 (by omega)
    clear h1 h2 hn hm hr hs hv hl
    go_enter Tryd.func44, Tryd.ntmps44
    go_wp2_with (first
      | (go_at_call 57; (with_reducible refine HS1.out.mono ?_); rintro e w1 ⟨rfl, ho1, hb1⟩; have HO1 := Lib.hid ho1; have HB1 := Lib.hid hb1; clear ho1 hb1)
      | (go_at_call 57; (with_reducible refine (HS2.out _ HB1.out).mono ?_); rintro e w2 ⟨rfl, ho2, hb2⟩; have HO2 := Lib.hid ho2; have HO1 := Lib.hid (HO1.out.kept (Below.only hb2) (by simp)); have HB2 := Lib.hid (below_next HB1.out hb2); clear ho2 hb2)
      | (go_at_call 56; (with_reducible refine (meq_any _ _ _ _ r s _ HO1.out HO2.out).mono ?_); rw [HF.out]; rintro e w3 ⟨rfl, hb3⟩; have HB3 := Lib.hid (below_next HB2.out hb3); clear hb3))
    go_ret
    exact ⟨rfl, HB3.out⟩
  · have e : decide (MatchR r s) = false := decide_eq_false (fun h => hl (by rw [hn, hm]; exact h.1))
    have hd : ((n : Int) == (m : Int)) = false := beq_eq_false_iff_ne.2 (by omega)
    rw [e]
    clear h1 h2 hn hm hr hs hl e
    go_enter Tryd.func44, Tryd.ntmps44
    go_wp2_with fail
    go_ret
    exact ⟨rfl, Below.refl _ _⟩
end Go.Proofs.YtjdfgalcnbnobaaDoor
