/-
  Later times have greater texts. Nothing is claimed of the program here.
-/
import Derived.Test.YtkgdkaopbnodpaaDoorDform
import Derived.Test.YtkgdkaopbnodpaaDoorDdec
import Derived.Laws.Cover1
namespace Go.Proofs.YtkgdkaopbnodpaaDoor
open Go.RowKit

theorem less_nil : Op.bytesLess [] [] = false := rfl
theorem less_lt {a b : UInt8} (l r : List UInt8) (h : a.toNat < b.toNat) : Op.bytesLess (a :: l) (b :: r) = true := by
  unfold Op.bytesLess
  simp [UInt8.lt_iff_toNat_lt, h]
theorem less_gt {a b : UInt8} (l r : List UInt8) (h : b.toNat < a.toNat) : Op.bytesLess (a :: l) (b :: r) = false := by
  unfold Op.bytesLess
  have h1 : ¬ a < b := by rw [UInt8.lt_iff_toNat_lt]; omega
  have h2 : a ≠ b := fun e => by rw [e] at h; omega
  simp [h1, h2]
theorem less_eq (a : UInt8) (l r : List UInt8) : Op.bytesLess (a :: l) (a :: r) = Op.bytesLess l r := by
  conv => lhs; unfold Op.bytesLess
  have h1 : ¬ a < a := by rw [UInt8.lt_iff_toNat_lt]; omega
  simp [h1]
/-- The first difference decides. -/
def cmpN (m n : Nat) (rest : Bool) : Bool := if m < n then true else if n < m then false else rest
theorem dig_less {m n : Nat} (_hm : m < 10) (_hn : n < 10) (x y : Nat) (hx : x % 10 = m) (hy : y % 10 = n) (l r : List UInt8) : Op.bytesLess (dig x :: l) (dig y :: r) = cmpN m n (Op.bytesLess l r) := by
  unfold cmpN
  by_cases h1 : m < n
  · rw [if_pos h1]
    exact less_lt _ _ (by rw [dig_nat, dig_nat]; omega)
  · rw [if_neg h1]
    by_cases h2 : n < m
    · rw [if_pos h2]
      exact less_gt _ _ (by rw [dig_nat, dig_nat]; omega)
    · rw [if_neg h2]
      have e : dig x = dig y := UInt8.toNat_inj.1 (by rw [dig_nat, dig_nat]; omega)
      rw [e]
      exact less_eq _ _ _
theorem cmp_two (b : Nat) (hb : 0 < b) (m n : Nat) (rest : Bool) : cmpN (m / b) (n / b) (cmpN (m % b) (n % b) rest) = cmpN m n rest := by
  have h1 := Nat.div_add_mod m b
  have h2 := Nat.div_add_mod n b
  have h3 := Nat.mod_lt m hb
  have h4 := Nat.mod_lt n hb
  generalize m / b = q at h1
  generalize n / b = p at h2
  generalize m % b = r at h1 h3
  generalize n % b = s at h2 h4
  unfold cmpN
  rcases Nat.lt_trichotomy q p with h | h | h
  · have : b * (q + 1) ≤ b * p := Nat.mul_le_mul_left b h
    rw [Nat.mul_succ] at this
    rw [if_pos h, if_pos (by omega)]
  · subst h
    rw [if_neg (Nat.lt_irrefl _), if_neg (Nat.lt_irrefl _)]
    by_cases h5 : r < s
    · rw [if_pos h5, if_pos (by omega)]
    · rw [if_neg h5, if_neg (by omega : ¬ m < n)]
      by_cases h6 : s < r
      · rw [if_pos h6, if_pos (by omega)]
      · rw [if_neg h6, if_neg (by omega)]
  · have : b * (p + 1) ≤ b * q := Nat.mul_le_mul_left b h
    rw [Nat.mul_succ] at this
    rw [if_neg (by omega : ¬ q < p), if_pos h, if_neg (by omega : ¬ m < n), if_pos (by omega)]
theorem d2_less {m n : Nat} (hm : m < 100) (hn : n < 100) (l r : List UInt8) : Op.bytesLess (d2 m ++ l) (d2 n ++ r) = cmpN m n (Op.bytesLess l r) := by
  unfold d2
  show Op.bytesLess (dig (m / 10) :: dig m :: l) (dig (n / 10) :: dig n :: r) = _
  rw [dig_less (m := m / 10) (n := n / 10) (by omega) (by omega) _ _ (by omega) (by omega), dig_less (m := m % 10) (n := n % 10) (by omega) (by omega) _ _ rfl rfl, cmp_two 10 (by omega)]
theorem d4_less {m n : Nat} (hm : m < 10000) (hn : n < 10000) (l r : List UInt8) : Op.bytesLess (d4 m ++ l) (d4 n ++ r) = cmpN m n (Op.bytesLess l r) := by
  have e : ∀ x, d4 x = d2 (x / 100) ++ d2 (x % 100) := fun x => by
    rw [d2_mod]
    unfold d4 d2
    have a : x / 10 / 10 = x / 100 := by omega
    rw [a]
    rfl
  rw [e, e, List.append_assoc, List.append_assoc, d2_less (by omega) (by omega), d2_less (by omega) (by omega), cmp_two 100 (by omega)]
theorem ok_small {x : Dt} (h : Ok x) : x.y < 10000 ∧ x.m < 100 ∧ x.d < 100 ∧ x.h < 100 ∧ x.n < 100 ∧ x.s < 100 := by
  have hd := mdays_pos (y := x.y) h.m1 h.m2
  have a := h.y2
  have b := h.m2
  have c := h.d2
  have d := h.h2
  have e := h.n2
  have f := h.s2
  omega
theorem txt_less {x z : Dt} (h : Ok x) (k : Ok z) : Op.bytesLess (txtT x) (txtT z) = cmpN x.y z.y (cmpN x.m z.m (cmpN x.d z.d (cmpN x.h z.h (cmpN x.n z.n (cmpN x.s z.s false))))) := by
  obtain ⟨a1, a2, a3, a4, a5, a6⟩ := ok_small h
  obtain ⟨b1, b2, b3, b4, b5, b6⟩ := ok_small k
  have e : ∀ x : Dt, txtT x = d4 x.y ++ (45 :: (d2 x.m ++ (45 :: (d2 x.d ++ (32 :: (d2 x.h ++ (58 :: (d2 x.n ++ (58 :: (d2 x.s ++ [])))))))))) := fun x => rfl
  rw [e, e, d4_less a1 b1, less_eq, d2_less a2 b2, less_eq, d2_less a3 b3, less_eq, d2_less a4 b4, less_eq, d2_less a5 b5, less_eq, d2_less a6 b6]
  rfl
/-- The order of times is that of their dates, field by field. -/
theorem day_less {x z : Dt} (h : Ok x) (k : Ok z) : (x.y < z.y → dayOf x < dayOf z) ∧ (x.y = z.y → x.m < z.m → dayOf x < dayOf z) ∧ (x.y = z.y → x.m = z.m → x.d < z.d → dayOf x < dayOf z) := by
  refine ⟨fun e => ?_, fun e1 e2 => ?_, fun e1 e2 e3 => ?_⟩
  · have := (day_lt h).2
    have := (day_lt k).1
    have := bef_lt h.y1 e
    omega
  · have h1 := msum_le (y := x.y) (m := x.m + 1) (k := z.m) (by omega) e2
    rw [msum_succ _ _ h.m1] at h1
    have := h.d1
    have := h.d2
    unfold dayOf
    rw [← e1]
    omega
  · have := h.d1
    unfold dayOf
    rw [← e1, ← e2]
    omega
theorem secs_less {x z : Dt} (h : Ok x) (k : Ok z) : cmpN x.y z.y (cmpN x.m z.m (cmpN x.d z.d (cmpN x.h z.h (cmpN x.n z.n (cmpN x.s z.s false))))) = decide (secs x < secs z) := by
  obtain ⟨p1, p2, p3⟩ := day_less h k
  obtain ⟨q1, q2, q3⟩ := day_less k h
  have a1 := h.h2
  have a2 := h.n2
  have a3 := h.s2
  have b1 := k.h2
  have b2 := k.n2
  have b3 := k.s2
  have hlt : dayOf x < dayOf z → decide (secs x < secs z) = true := fun e => decide_eq_true (by unfold secs; omega)
  have hgt : dayOf z < dayOf x → decide (secs x < secs z) = false := fun e => decide_eq_false (by unfold secs; omega)
  unfold cmpN
  by_cases c1 : x.y < z.y
  · rw [if_pos c1, hlt (p1 c1)]
  · rw [if_neg c1]
    by_cases c2 : z.y < x.y
    · rw [if_pos c2, hgt (q1 c2)]
    · rw [if_neg c2]
      have ey : x.y = z.y := by omega
      by_cases c3 : x.m < z.m
      · rw [if_pos c3, hlt (p2 ey c3)]
      · rw [if_neg c3]
        by_cases c4 : z.m < x.m
        · rw [if_pos c4, hgt (q2 ey.symm c4)]
        · rw [if_neg c4]
          have em : x.m = z.m := by omega
          by_cases c5 : x.d < z.d
          · rw [if_pos c5, hlt (p3 ey em c5)]
          · rw [if_neg c5]
            by_cases c6 : z.d < x.d
            · rw [if_pos c6, hgt (q3 ey.symm em.symm c6)]
            · rw [if_neg c6]
              have ed : dayOf x = dayOf z := by
                have : x.d = z.d := by omega
                unfold dayOf
                rw [ey, em, this]
              unfold secs
              rw [ed]
              generalize dayOf z = D
              by_cases c7 : x.h < z.h
              · rw [if_pos c7, decide_eq_true (by omega)]
              · rw [if_neg c7]
                by_cases c8 : z.h < x.h
                · rw [if_pos c8, decide_eq_false (by omega)]
                · rw [if_neg c8]
                  by_cases c9 : x.n < z.n
                  · rw [if_pos c9, decide_eq_true (by omega)]
                  · rw [if_neg c9]
                    by_cases c10 : z.n < x.n
                    · rw [if_pos c10, decide_eq_false (by omega)]
                    · rw [if_neg c10]
                      by_cases c11 : x.s < z.s
                      · rw [if_pos c11, decide_eq_true (by omega)]
                      · rw [if_neg c11]
                        by_cases c12 : z.s < x.s
                        · rw [if_pos c12, decide_eq_false (by omega)]
                        · rw [if_neg c12, decide_eq_false (by omega)]
theorem text_order {x z : Dt} (h : Ok x) (k : Ok z) : Op.bytesLess (txtT x) (txtT z) = decide (secs x < secs z) := by rw [txt_less h k, secs_less h k]
end Go.Proofs.YtkgdkaopbnodpaaDoor
