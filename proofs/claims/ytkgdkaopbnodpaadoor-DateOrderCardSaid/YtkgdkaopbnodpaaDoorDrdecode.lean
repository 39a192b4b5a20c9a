/-
  The contract of the reference's DecodeTime for every tag and text.
-/
import Derived.Test.YtkgdkaopbnodpaaDoorDrdec
namespace Go.Proofs.YtkgdkaopbnodpaaDoor
open Go.RowKit

theorem list13 {l : List UInt8} (h : l.length = 13) : ∃ a b c d e f g i j k m n z, l = [a, b, c, d, e, f, g, i, j, k, m, n, z] := by
  match l, h with
  | [a, b, c, d, e, f, g, i, j, k, m, n, z], _ => exact ⟨a, b, c, d, e, f, g, i, j, k, m, n, z, rfl⟩
theorem list15 {l : List UInt8} (h : l.length = 15) : ∃ p q a b c d e f g i j k m n z, l = [p, q, a, b, c, d, e, f, g, i, j, k, m, n, z] := by
  match l, h with
  | [p, q, a, b, c, d, e, f, g, i, j, k, m, n, z], _ => exact ⟨p, q, a, b, c, d, e, f, g, i, j, k, m, n, z, rfl⟩
theorem two_dig {a b : UInt8} {v : Nat} (ha : isDig a) (hb : isDig b) (h : digI [a, b] = (v : Int)) : [a, b] = d2 v := by
  rw [digI_yes (by intro c hc; simp at hc; rcases hc with rfl | rfl <;> assumption)] at h
  unfold isDig at ha hb
  unfold d2
  have e : dval [a, b] = 10 * (a.toNat - 48) + (b.toNat - 48) := by simp [dval]
  rw [e] at h
  have h1 : a = dig (v / 10) := UInt8.toNat_inj.1 (by rw [dig_nat]; omega)
  have h2 : b = dig v := UInt8.toNat_inj.1 (by rw [dig_nat]; omega)
  rw [← h1, ← h2]
theorem four_dig {a b c d : UInt8} {v : Nat} (ha : isDig a) (hb : isDig b) (hc : isDig c) (hd : isDig d) (h : digI [a, b, c, d] = (v : Int)) : [a, b, c, d] = d4 v := by
  rw [digI_yes (by intro x hx; simp at hx; rcases hx with rfl | rfl | rfl | rfl <;> assumption)] at h
  unfold isDig at ha hb hc hd
  unfold d4
  have e : dval [a, b, c, d] = 10 * (10 * (10 * (a.toNat - 48) + (b.toNat - 48)) + (c.toNat - 48)) + (d.toNat - 48) := by simp [dval]
  rw [e] at h
  have h1 : a = dig (v / 10 / 10 / 10) := UInt8.toNat_inj.1 (by rw [dig_nat]; omega)
  have h2 : b = dig (v / 10 / 10) := UInt8.toNat_inj.1 (by rw [dig_nat]; omega)
  have h3 : c = dig (v / 10) := UInt8.toNat_inj.1 (by rw [dig_nat]; omega)
  have h4 : d = dig v := UInt8.toNat_inj.1 (by rw [dig_nat]; omega)
  rw [← h1, ← h2, ← h3, ← h4]
theorem digI_or (l : List UInt8) : digI l = -1 ∨ ((∀ c ∈ l, isDig c) ∧ digI l = ((dval l : Nat) : Int)) := by
  by_cases h : allDig l = true
  · exact .inr ⟨allDig_iff.1 h, digI_yes (allDig_iff.1 h)⟩
  · left; unfold digI; rw [if_neg h]
theorem sub_dig {l : List UInt8} {i j n : Nat} (h : ∀ c ∈ sub l 0 n, isDig c) (hj : j ≤ n) : ∀ c ∈ sub l i j, isDig c := by
  intro c hc
  refine h c ?_
  unfold sub at hc ⊢
  rw [List.drop_zero, Nat.sub_zero]
  rw [← List.drop_take] at hc
  have := List.mem_of_mem_drop hc
  exact List.take_subset_take_left l hj this
theorem sub_val {l : List UInt8} {i j n : Nat} (h : ∀ c ∈ sub l 0 n, isDig c) (hj : j ≤ n) : digI (sub l i j) = ((dval (sub l i j) : Nat) : Int) := digI_yes (sub_dig h hj)
theorem sub_lt {l : List UInt8} {i j n : Nat} (h : ∀ c ∈ sub l 0 n, isDig c) (hj : j ≤ n) {k : Nat} (hk : j - i ≤ k) : dval (sub l i j) < 10 ^ k := by
  refine Nat.lt_of_lt_of_le (dval_lt _ (sub_dig h hj)) (Nat.pow_le_pow_right (by omega) ?_)
  unfold sub
  rw [List.length_take]
  omega
/-- A text of digits with a Z is the text of the date that they spell. -/
theorem shapeU {l : List UInt8} {y m d h n s : Nat} (hl : l.length = 13) (hz : l.getD 12 0 = 90) (hd : ∀ c ∈ sub l 0 12, isDig c)
    (e0 : digI (sub l 0 2) = (y : Int)) (e1 : digI (sub l 2 4) = (m : Int)) (e2 : digI (sub l 4 6) = (d : Int)) (e3 : digI (sub l 6 8) = (h : Int)) (e4 : digI (sub l 8 10) = (n : Int)) (e5 : digI (sub l 10 12) = (s : Int)) :
    l = d2 y ++ (d2 m ++ d2 d ++ d2 h ++ d2 n ++ d2 s ++ [90]) := by
  obtain ⟨a0, a1, a2, a3, a4, a5, a6, a7, a8, a9, a10, a11, z, rfl⟩ := list13 hl
  have g : ∀ c, c = a0 ∨ c = a1 ∨ c = a2 ∨ c = a3 ∨ c = a4 ∨ c = a5 ∨ c = a6 ∨ c = a7 ∨ c = a8 ∨ c = a9 ∨ c = a10 ∨ c = a11 → isDig c := fun c hc => hd c (by simpa [sub] using hc)
  obtain rfl : z = 90 := hz
  rw [← two_dig (g a0 (by simp)) (g a1 (by simp)) e0, ← two_dig (g a2 (by simp)) (g a3 (by simp)) e1, ← two_dig (g a4 (by simp)) (g a5 (by simp)) e2, ← two_dig (g a6 (by simp)) (g a7 (by simp)) e3, ← two_dig (g a8 (by simp)) (g a9 (by simp)) e4, ← two_dig (g a10 (by simp)) (g a11 (by simp)) e5]
  rfl
theorem shapeL {l : List UInt8} {y m d h n s : Nat} (hl : l.length = 15) (hz : l.getD 14 0 = 90) (hd : ∀ c ∈ sub l 0 14, isDig c)
    (e0 : digI (sub l 0 4) = (y : Int)) (e1 : digI (sub l 4 6) = (m : Int)) (e2 : digI (sub l 6 8) = (d : Int)) (e3 : digI (sub l 8 10) = (h : Int)) (e4 : digI (sub l 10 12) = (n : Int)) (e5 : digI (sub l 12 14) = (s : Int)) :
    l = d4 y ++ (d2 m ++ d2 d ++ d2 h ++ d2 n ++ d2 s ++ [90]) := by
  obtain ⟨p, q, a0, a1, a2, a3, a4, a5, a6, a7, a8, a9, a10, a11, z, rfl⟩ := list15 hl
  have g : ∀ c, c = p ∨ c = q ∨ c = a0 ∨ c = a1 ∨ c = a2 ∨ c = a3 ∨ c = a4 ∨ c = a5 ∨ c = a6 ∨ c = a7 ∨ c = a8 ∨ c = a9 ∨ c = a10 ∨ c = a11 → isDig c := fun c hc => hd c (by simpa [sub] using hc)
  obtain rfl : z = 90 := hz
  rw [← four_dig (g p (by simp)) (g q (by simp)) (g a0 (by simp)) (g a1 (by simp)) e0, ← two_dig (g a2 (by simp)) (g a3 (by simp)) e1, ← two_dig (g a4 (by simp)) (g a5 (by simp)) e2, ← two_dig (g a6 (by simp)) (g a7 (by simp)) e3, ← two_dig (g a8 (by simp)) (g a9 (by simp)) e4, ← two_dig (g a10 (by simp)) (g a11 (by simp)) e5]
  rfl
theorem txtU_dig (x : Dt) : ∀ c ∈ sub (txtU x) 0 12, isDig c := by
  intro c hc
  have e : sub (txtU x) 0 12 = d2 x.y ++ d2 x.m ++ d2 x.d ++ d2 x.h ++ d2 x.n ++ d2 x.s := rfl
  rw [e] at hc
  simp only [List.mem_append] at hc
  rcases hc with ((((hc | hc) | hc) | hc) | hc) | hc <;> exact d2_dig _ c hc
theorem txtL_dig (x : Dt) : ∀ c ∈ sub (txtL x) 0 14, isDig c := by
  intro c hc
  have e : sub (txtL x) 0 14 = d4 x.y ++ d2 x.m ++ d2 x.d ++ d2 x.h ++ d2 x.n ++ d2 x.s := rfl
  rw [e] at hc
  simp only [List.mem_append] at hc
  rcases hc with ((((hc | hc) | hc) | hc) | hc) | hc
  · exact d4_dig _ c hc
  all_goals exact d2_dig _ c hc

theorem rdec_yes {tag : Int} {s : ByteArray} {x : Dt} (h : Con tag s.data.toList x) (w : World) :
    Calls Tryd.prog 17 #[.int .i64 tag, .string s] w fun E w' => E = .returned (.tuple #[.int .i64 ((secs x : Nat) : Int), .int .i64 0]) ∧ Below w.heap.size w w' := by
  rcases h with ⟨h, ⟨rfl, hy, hs⟩ | ⟨rfl, hy, hs⟩⟩
  · obtain rfl := strOf_of hs
    obtain ⟨_, b, c, d, e, f⟩ := ok_lt h
    have y1 := h.y1
    have eY : digI (sub (txtU x) 0 2) = ((x.y % 100 : Nat) : Int) := by
      rw [show sub (txtU x) 0 2 = d2 x.y from rfl, ← d2_mod]
      exact d2_val (by omega)
    by_cases h50 : 50 ≤ x.y % 100
    · exact rdecU_new (s := strOf (txtU x)) rfl rfl (digI_yes (txtU_dig x)) eY (by omega) h50 (d2_val b).symm (d2_val c).symm (d2_val d).symm (d2_val e).symm (d2_val f).symm
        (by rw [show ((x.y % 100 : Nat) : Int) + 1900 = (x.y : Int) by omega]; exact fun w => rsecs_yes h w) w
    · exact rdecU_old (s := strOf (txtU x)) rfl rfl (digI_yes (txtU_dig x)) eY (by omega) (by omega) (d2_val b).symm (d2_val c).symm (d2_val d).symm (d2_val e).symm (d2_val f).symm
        (by rw [show ((x.y % 100 : Nat) : Int) + 2000 = (x.y : Int) by omega]; exact fun w => rsecs_yes h w) w
  · obtain rfl := strOf_of hs
    obtain ⟨a, b, c, d, e, f⟩ := ok_lt h
    exact rdecL_late (s := strOf (txtL x)) rfl rfl (digI_yes (txtL_dig x)) (d4_val a) a hy (d2_val b).symm (d2_val c).symm (d2_val d).symm (d2_val e).symm (d2_val f).symm
      (fun w => rsecs_yes h w) w
theorem rdec23_no {s : ByteArray} (h : ∀ x, ¬ Con 23 s.data.toList x) (w : World) :
    Calls Tryd.prog 17 #[.int .i64 23, .string s] w fun E w' => E = .returned (.tuple #[.int .i64 0, .int .i64 12]) ∧ Below w.heap.size w w' := by
  by_cases hs : s.size = 13
  · by_cases hl : u8at s 12 = 90
    · rcases digI_or (sub s.data.toList 0 12) with hd | ⟨hall, hd⟩
      · exact rdecU_dig hs hl hd w
      · have hyv := sub_val (i := 0) (j := 2) hall (by omega)
        have hyb : dval (sub s.data.toList 0 2) < 100 := sub_lt hall (by omega) (k := 2) (by omega)
        have hz : s.data.toList.getD 12 0 = 90 := UInt8.toNat_inj.1 hl
        have key : ∀ x : Dt, Ok x → x.y ≤ 2049 → dval (sub s.data.toList 0 2) = x.y % 100 → digI (sub s.data.toList 2 4) = (x.m : Int) → digI (sub s.data.toList 4 6) = (x.d : Int) → digI (sub s.data.toList 6 8) = (x.h : Int) → digI (sub s.data.toList 8 10) = (x.n : Int) → digI (sub s.data.toList 10 12) = (x.s : Int) → False := by
          intro x hx hy e0 e1 e2 e3 e4 e5
          refine h x ⟨hx, .inl ⟨rfl, hy, ?_⟩⟩
          rw [shapeU hs hz hall (by rw [hyv, e0]) e1 e2 e3 e4 e5, d2_mod]
          rfl
        by_cases h50 : 50 ≤ dval (sub s.data.toList 0 2)
        · exact rdecU_new hs hl hd hyv (by omega) h50 rfl rfl rfl rfl rfl (fun w => rsecs_no (fun ho => by
            obtain ⟨x, hx, a, b, c, d, e, f⟩ := ho
            exact key x hx (by omega) (by omega) b c d e f) w) w
        · exact rdecU_old hs hl hd hyv (by omega) (by omega) rfl rfl rfl rfl rfl (fun w => rsecs_no (fun ho => by
            obtain ⟨x, hx, a, b, c, d, e, f⟩ := ho
            exact key x hx (by omega) (by omega) b c d e f) w) w
    · exact rdecU_last hs hl w
  · exact rdecU_len hs w
theorem rdec24_no {s : ByteArray} (h : ∀ x, ¬ Con 24 s.data.toList x) (w : World) :
    Calls Tryd.prog 17 #[.int .i64 24, .string s] w fun E w' => E = .returned (.tuple #[.int .i64 0, .int .i64 12]) ∧ Below w.heap.size w w' := by
  by_cases hs : s.size = 15
  · by_cases hl : u8at s 14 = 90
    · rcases digI_or (sub s.data.toList 0 14) with hd | ⟨hall, hd⟩
      · exact rdecL_dig hs hl hd w
      · have hyv := sub_val (i := 0) (j := 4) hall (by omega)
        have hyb : dval (sub s.data.toList 0 4) < 10000 := sub_lt hall (by omega) (k := 4) (by omega)
        have hz : s.data.toList.getD 14 0 = 90 := UInt8.toNat_inj.1 hl
        by_cases h50 : dval (sub s.data.toList 0 4) < 2050
        · exact rdecL_early hs hl hd hyv hyb h50 w
        · exact rdecL_late hs hl hd hyv hyb (by omega) rfl rfl rfl rfl rfl (fun w => rsecs_no (fun ho => by
            obtain ⟨x, hx, a, b, c, d, e, f⟩ := ho
            refine h x ⟨hx, .inr ⟨rfl, by omega, ?_⟩⟩
            rw [shapeL (y := x.y) hs hz hall (by rw [hyv]; exact a) b c d e f]
            rfl) w) w
    · exact rdecL_last hs hl w
  · exact rdecL_len hs w
theorem rdec_no {tag : Int} {s : ByteArray} (h : ∀ x, ¬ Con tag s.data.toList x) (w : World) :
    Calls Tryd.prog 17 #[.int .i64 tag, .string s] w fun E w' => E = .returned (.tuple #[.int .i64 0, .int .i64 (decErr tag)]) ∧ Below w.heap.size w w' := by
  by_cases h1 : tag = 23
  · subst h1
    exact rdec23_no h w
  · by_cases h2 : tag = 24
    · subst h2
      exact rdec24_no h w
    · have e : decErr tag = 5 := by unfold decErr; rw [if_neg (by simp [h1, h2])]
      rw [e]
      exact rdec_tag h1 h2 s w
end Go.Proofs.YtkgdkaopbnodpaaDoor
