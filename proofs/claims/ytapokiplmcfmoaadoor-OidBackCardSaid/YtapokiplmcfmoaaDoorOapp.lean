/-
  The contract of oid.appendNumber: the digits of a number in base 128 are added to the bytes that the caller has.
-/
import Derived.Test.YtapokiplmcfmoaaDoorOvalid
namespace Go.Proofs.YtapokiplmcfmoaaDoor
open Go.RowKit

theorem blen_pos {x : Nat} (h0 : x ≠ 0) (h : x < 18446744073709551616) : 1 ≤ Lib.bitLen x := by
  rw [Lib.bitLen_half x h0 h]; omega
theorem blen_iff {x k : Nat} (h : x < 18446744073709551616) (hk : k ≤ 64) : Lib.bitLen x ≤ k ↔ x < 2 ^ k := by
  constructor
  · intro hl
    rcases Nat.lt_or_ge x (2 ^ k) with h1 | h1
    · exact h1
    · exfalso
      rw [Lib.bitLen_shift k x h1 h] at hl
      have hp : 0 < 2 ^ k := Nat.two_pow_pos k
      have h2 : 1 ≤ x / 2 ^ k := (Nat.one_le_div_iff hp).2 h1
      have h3 : x / 2 ^ k ≤ x := Nat.div_le_self _ _
      have := blen_pos (x := x / 2 ^ k) (by omega) (by omega)
      omega
  · exact Lib.bitLen_le x k hk
/-- How many digits in base 128 stand before the last one. -/
def ahead7 (n : Nat) : Nat := (Lib.bitLen n - 1) / 7
theorem ahead7_lt (n : Nat) (h : n < 34359738368) : n / 128 ^ (ahead7 n + 1) = 0 := by
  have e : (128 : Nat) ^ (ahead7 n + 1) = 2 ^ (7 * (ahead7 n + 1)) := by rw [Nat.pow_mul]
  rw [e]
  refine Nat.div_eq_of_lt ?_
  have hle : Lib.bitLen n ≤ 7 * (ahead7 n + 1) := by unfold ahead7; omega
  have h35 : Lib.bitLen n ≤ 35 := (blen_iff (by omega) (by omega)).2 (by omega)
  exact (blen_iff (by omega) (by unfold ahead7; omega)).1 hle
theorem ahead7_pos (n j : Nat) (h : n < 34359738368) (h1 : 1 ≤ j) (h2 : j ≤ ahead7 n) : n / 128 ^ j ≠ 0 := by
  have e : (128 : Nat) ^ j = 2 ^ (7 * j) := by rw [Nat.pow_mul]
  rw [e]
  intro h0
  have hp : 0 < 2 ^ (7 * j) := Nat.two_pow_pos _
  have hlt : n < 2 ^ (7 * j) := (Nat.div_eq_zero_iff_lt hp).1 h0
  have h35 : Lib.bitLen n ≤ 35 := (blen_iff (by omega) (by omega)).2 (by omega)
  unfold ahead7 at h2
  have := (blen_iff (k := 7 * j) (by omega) (by omega)).2 hlt
  omega
theorem ahead7_le (n : Nat) (h : n < 34359738368) : ahead7 n ≤ 4 := by
  have h35 : Lib.bitLen n ≤ 35 := (blen_iff (by omega) (by omega)).2 (by omega)
  unfold ahead7; omega
theorem or_128 : ∀ x : Nat, x < 256 → bits BinOp.or .u8 ((x : Nat) : Int) 128 = (((UInt8.ofNat (128 + x % 128)).toNat : Nat) : Int) := by decide +kernel
theorem andNot_128 : ∀ x : Nat, x < 256 → bits BinOp.andNot .u8 ((x : Nat) : Int) 128 = (((UInt8.ofNat (x % 128)).toNat : Nat) : Int) := by decide +kernel

theorem hd7_len_mono : ∀ (k a b : Nat), a ≤ b → b < 128 ^ k → (hd7 a).length ≤ (hd7 b).length
  | 0, a, b, h, hk => by
    simp at hk
    obtain rfl : a = 0 := by omega
    rw [hd7_zero]; simp
  | k + 1, a, b, h, hk => by
    by_cases ha : a = 0
    · rw [ha, hd7_zero]; simp
    · rw [hd7_pos ha, hd7_pos (show b ≠ 0 by omega)]
      have := hd7_len_mono k (a / 128) (b / 128) (by omega) (by rw [Nat.pow_succ] at hk; omega)
      simp; exact this
theorem hd7_len_le (b m : Nat) : (hd7 (b / m)).length ≤ (hd7 b).length :=
  hd7_len_mono b (b / m) b (Nat.div_le_self _ _) (Nat.lt_pow_self (by omega))
theorem app_round {w wr w2 : World} {v v' : Value} {D : List UInt8} {y : UInt8} {X : Obj} {B n : Nat} (hn : n = (D ++ [y]).length) (hown : OwnB 5 wr B v D) (hb : Below B w wr) (hsz : w.heap.size ≤ wr.heap.size) (hB : B ≤ w.heap.size)
    (hown2 : w2.ownsRow B 5 1 v' n (D.map bcell ++ [bcell y])) (hgr2 : (wr.alloc X).grownBy w2 v.ownBlock) : OwnB 5 w2 B v' (D ++ [y]) ∧ Below B w w2 ∧ w.heap.size ≤ w2.heap.size := by
  have hb2 : Below B w w2 := (Below.alloc hb (by omega) X).grown hgr2 (by simp; omega) (fun k e => (World.ownsRow.lt hown k e).1)
  refine ⟨?_, hb2, hb2.size⟩
  unfold OwnB
  rw [List.map_append, ← hn]; exact hown2

set_option maxRecDepth 100000 in
set_option maxHeartbeats 1000000 in
theorem app_any (v : Value) (l : List UInt8) (n B : Nat) (w : World) (hn : n < 34359738368) (ho : OwnB 5 w B v l) (hB : B ≤ w.heap.size) (hl : l.length ≤ 1099511627) :
    Calls Tryd.prog 22 #[v, .int .i64 ((n : Nat) : Int)] w fun e w' => ∃ v', e = .returned v' ∧ OwnB 5 w' B v' (l ++ e128 n) ∧ Below B w w' := by
  obtain ⟨i0, hi, hz0, hz1, hz2⟩ := info_parts byteInfo
  have HO0 := Lib.hid ho
  obtain ⟨L, hL⟩ : ∃ L, L = Lib.bitLen n := ⟨_, rfl⟩
  obtain ⟨q, hq⟩ : ∃ q, q = ahead7 n := ⟨_, rfl⟩
  have hqL : q = (L - 1) / 7 := by rw [hq, hL]; rfl
  have hq4 : q ≤ 4 := by rw [hq]; exact ahead7_le n hn
  have hL35 : L ≤ 35 := by rw [hL]; exact (blen_iff (by omega) (by omega)).2 (by omega)
  have HBL := Lib.hid (fun w => blen_any n w (by omega))
  rw [← hL] at HBL
  have HQ := Lib.hid hq
  have HQL := Lib.hid hqL
  clear hL hq hqL ho
  go_enter Tryd.func22, Tryd.ntmps22
  go_wp2_with (go_at_call 32; (with_reducible refine (HBL.out _).mono ?_); rintro e w1 ⟨rfl, rfl⟩)
  clear hL35
  go_loopw [0, 6] (fun u k wr => ∃ (j : Nat) (D : List UInt8), j ≤ q ∧ k = .int .i64 (j : Int) ∧ D = hd7 (n / 128 ^ (j + 1)) ∧ OwnB 5 wr B u (l ++ D) ∧ Below B w1 wr ∧ w1.heap.size ≤ wr.heap.size) (fun _ k _ => (intOf k).toNat)
  case atStart => exact ⟨q, [], Nat.le_refl _, by congr 1; have := HQL.out; omega, by rw [HQ.out, ahead7_lt n hn, hd7_zero], by rw [List.append_nil]; exact HO0.out, Below.refl _ _, Nat.le_refl _⟩
  case round =>
    obtain ⟨j, D, hj, rfl, hD, ho, hb, hsz⟩ := hrel
    have HO := Lib.hid ho
    have HB := Lib.hid hb
    have HD := Lib.hid hD
    have hDl : D.length ≤ 5 := by
      have := e128_len n hn
      have e : (hd7 (n / 128 ^ (j + 1))).length ≤ (hd7 (n / 128)).length := by
        rw [Nat.pow_succ, Nat.mul_comm, ← Nat.div_div_eq_div_mul]
        exact hd7_len_le (n / 128) (128 ^ j)
      rw [e128, List.length_append, List.length_singleton] at this
      rw [hD]; omega
    clear ho hb hD
    by_cases hlt : 0 < j
    · have d1 : decide ((0 : Int) < (j : Int)) = true := by simp; omega
      obtain ⟨x, hx⟩ : ∃ x, x = n / 2 ^ (7 * j) % 256 := ⟨_, rfl⟩
      have hx256 : x < 256 := by rw [hx]; omega
      have hxi : (n : Int) / 2 ^ (7 * j) % 256 = (x : Int) := by rw [hx]; simp
      have hor := or_128 x hx256
      obtain ⟨y, hy⟩ : ∃ y : UInt8, y = UInt8.ofNat (128 + x % 128) := ⟨_, rfl⟩
      rw [← hy] at hor
      have HN := Lib.hid (show hd7 (n / 128 ^ j) = D ++ [y] by
        rw [hd7_pos (ahead7_pos n j hn hlt (by rw [← HQ.out]; exact hj)), Nat.div_div_eq_div_mul, ← Nat.pow_succ, ← HD.out, hy, hx]
        have e : (2 : Nat) ^ (7 * j) = 128 ^ j := by rw [Nat.pow_mul]
        rw [e]
        generalize n / 128 ^ j = m
        congr 3
        omega)
      clear hx hy
      go_wp2_with (at_builtin; (refine wpList_append_own _ rfl (.tmp 18) (.tmp 25) 22 rfl B 5 i0 (.int .u8 0) 1 1 Tryd.underlying22 hi hz0 hz1 hz2 rfl (by decide) _ _ _ rfl (HO.out.alloc _) ⟨wr.heap.size, 0, none⟩ 1 1 [bcell y] rfl rfl (news_row wr #[bcell y] 5) (bcells_one [y]) (by simp; unfold maxLen; omega) (by simp; omega) (by simp; omega) ?_); intro v' w2 hown2 hgr2 _; obtain ⟨P1, P2, P3⟩ := app_round (by simp; omega) HO.out HB.out hsz hB hown2 hgr2; have HP1 := Lib.hid P1; have HP2 := Lib.hid P2; have HP3 := Lib.hid P3; clear hown2 hgr2 P1 P2 P3)
      go_roundw
      case rel => exact ⟨j - 1, D ++ [y], by omega, by congr 1; omega, by rw [← HN.out, show j - 1 + 1 = j by omega], by rw [← List.append_assoc]; exact HP1.out, HP2.out, HP3.out⟩
      case measure => simp [intOf]; omega
    · obtain rfl : j = 0 := by omega
      have d1 : decide ((0 : Int) < ((0 : Nat) : Int)) = false := rfl
      obtain ⟨x, hx⟩ : ∃ x, x = n % 256 := ⟨_, rfl⟩
      have hx256 : x < 256 := by rw [hx]; omega
      have hxi : (n : Int) % 256 = (x : Int) := by rw [hx]; omega
      have hor := andNot_128 x hx256
      obtain ⟨y, hy⟩ : ∃ y : UInt8, y = UInt8.ofNat (x % 128) := ⟨_, rfl⟩
      rw [← hy] at hor
      have HN := Lib.hid (show e128 n = D ++ [y] by
        rw [e128, HD.out, hy, hx, Nat.zero_add, Nat.pow_one]
        congr 3
        omega)
      clear hx hy
      go_wp2_with (at_builtin; (refine wpList_append_own _ rfl (.tmp 27) (.tmp 31) 22 rfl B 5 i0 (.int .u8 0) 1 1 Tryd.underlying22 hi hz0 hz1 hz2 rfl (by decide) _ _ _ rfl (HO.out.alloc _) ⟨wr.heap.size, 0, none⟩ 1 1 [bcell y] rfl rfl (news_row wr #[bcell y] 5) (bcells_one [y]) (by simp; unfold maxLen; omega) (by simp; omega) (by simp; omega) ?_); intro v' w2 hown2 hgr2 _; obtain ⟨P1, P2, P3⟩ := app_round (by simp; omega) HO.out HB.out hsz hB hown2 hgr2; have HP1 := Lib.hid P1; have HP2 := Lib.hid P2; have HP3 := Lib.hid P3; clear hown2 hgr2 P1 P2 P3)
      go_ret
      exact ⟨_, rfl, by rw [HN.out, ← List.append_assoc]; exact HP1.out, HP2.out⟩
end Go.Proofs.YtapokiplmcfmoaaDoor
