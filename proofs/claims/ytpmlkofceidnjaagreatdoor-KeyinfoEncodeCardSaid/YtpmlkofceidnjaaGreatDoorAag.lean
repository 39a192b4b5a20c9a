/-
  The contract of oid.appendNumber: the digits of a number in base 128 are added to the bytes that the caller has.
  The contract of oid.Encode: the contents of the object identifier that the text is, if it is one.
  The contract of oid.numbersOf: the numbers of which the contents consist, if they are those of an object identifier.
-/
import Derived.Test.YtpmlkofceidnjaaGreatDoorAae
import Derived.Test.YtpmlkofceidnjaaGreatDoorAaa
import Derived.Deep.LoopGhost
namespace Go.Proofs.YtpmlkofceidnjaaGreatDoor
open Go.RowKit

theorem blen_pos {x : Nat} (h0 : x ≠ 0) (h : x < 18446744073709551616) : 1 ≤ Lib.bitLen x := by
  rw [Lib.bitLen_half x h0 h]; omega
theorem blen_iff {x k : Nat} (h : x < 18446744073709551616) (hk : k ≤ 64) : Lib.bitLen x ≤ k ↔ x < 2 ^ k := by
  constructor
  · intro hl
    rcases Nat.lt_or_ge x (2 ^ k) with h1 | h1
    · exact h1
    · exfalso
      rw [Lib.bitLen_shift k x h1 h] at hl
      have hp : 0 < 2 ^ k := Nat.two_pow_pos k
      have h2 : 1 ≤ x / 2 ^ k := (Nat.one_le_div_iff hp).2 h1
      have h3 : x / 2 ^ k ≤ x := Nat.div_le_self _ _
      have := blen_pos (x := x / 2 ^ k) (by omega) (by omega)
      omega
  · exact Lib.bitLen_le x k hk
/-- How many digits in base 128 stand before the last one. -/
def ahead7 (n : Nat) : Nat := (Lib.bitLen n - 1) / 7
theorem ahead7_lt (n : Nat) (h : n < 34359738368) : n / 128 ^ (ahead7 n + 1) = 0 := by
  have e : (128 : Nat) ^ (ahead7 n + 1) = 2 ^ (7 * (ahead7 n + 1)) := by rw [Nat.pow_mul]
  rw [e]
  refine Nat.div_eq_of_lt ?_
  have hle : Lib.bitLen n ≤ 7 * (ahead7 n + 1) := by unfold ahead7; omega
  have h35 : Lib.bitLen n ≤ 35 := (blen_iff (by omega) (by omega)).2 (by omega)
  exact (blen_iff (by omega) (by unfold ahead7; omega)).1 hle
theorem ahead7_pos (n j : Nat) (h : n < 34359738368) (h1 : 1 ≤ j) (h2 : j ≤ ahead7 n) : n / 128 ^ j ≠ 0 := by
  have e : (128 : Nat) ^ j = 2 ^ (7 * j) := by rw [Nat.pow_mul]
  rw [e]
  intro h0
  have hp : 0 < 2 ^ (7 * j) := Nat.two_pow_pos _
  have hlt : n < 2 ^ (7 * j) := (Nat.div_eq_zero_iff_lt hp).1 h0
  have h35 : Lib.bitLen n ≤ 35 := (blen_iff (by omega) (by omega)).2 (by omega)
  unfold ahead7 at h2
  have := (blen_iff (k := 7 * j) (by omega) (by omega)).2 hlt
  omega
theorem ahead7_le (n : Nat) (h : n < 34359738368) : ahead7 n ≤ 4 := by
  have h35 : Lib.bitLen n ≤ 35 := (blen_iff (by omega) (by omega)).2 (by omega)
  unfold ahead7; omega
theorem or_128 : ∀ x : Nat, x < 256 → bits BinOp.or .u8 ((x : Nat) : Int) 128 = (((UInt8.ofNat (128 + x % 128)).toNat : Nat) : Int) := by decide +kernel
theorem andNot_128 : ∀ x : Nat, x < 256 → bits BinOp.andNot .u8 ((x : Nat) : Int) 128 = (((UInt8.ofNat (x % 128)).toNat : Nat) : Int) := by decide +kernel

theorem hd7_len_mono : ∀ (k a b : Nat), a ≤ b → b < 128 ^ k → (hd7 a).length ≤ (hd7 b).length
  | 0, a, b, h, hk => by
    simp at hk
    obtain rfl : a = 0 := by omega
    rw [hd7_zero]; simp
  | k + 1, a, b, h, hk => by
    by_cases ha : a = 0
    · rw [ha, hd7_zero]; simp
    · rw [hd7_pos ha, hd7_pos (show b ≠ 0 by omega)]
      have := hd7_len_mono k (a / 128) (b / 128) (by omega) (by rw [Nat.pow_succ] at hk; omega)
      simp; exact this
theorem hd7_len_le (b m : Nat) : (hd7 (b / m)).length ≤ (hd7 b).length :=
  hd7_len_mono b (b / m) b (Nat.div_le_self _ _) (Nat.lt_pow_self (by omega))
theorem app_round {w wr w2 : World} {v v' : Value} {D : List UInt8} {y : UInt8} {X : Obj} {B n : Nat} (hn : n = (D ++ [y]).length) (hown : OwnB 5 wr B v D) (hb : Below B w wr) (hsz : w.heap.size ≤ wr.heap.size) (hB : B ≤ w.heap.size)
    (hown2 : w2.ownsRow B 5 1 v' n (D.map bcell ++ [bcell y])) (hgr2 : (wr.alloc X).grownBy w2 v.ownBlock) : OwnB 5 w2 B v' (D ++ [y]) ∧ Below B w w2 ∧ w.heap.size ≤ w2.heap.size := by
  have hb2 : Below B w w2 := (Below.alloc hb (by omega) X).grown hgr2 (by simp; omega) (fun k e => (World.ownsRow.lt hown k e).1)
  refine ⟨?_, hb2, hb2.size⟩
  unfold OwnB
  rw [List.map_append, ← hn]; exact hown2

set_option maxRecDepth 100000 in
set_option maxHeartbeats 1000000 in
theorem app_any (v : Value) (l : List UInt8) (n B : Nat) (w : World) (hn : n < 34359738368) (ho : OwnB 5 w B v l) (hB : B ≤ w.heap.size) (hl : l.length ≤ 1099511627) :
    Calls Tryz.prog 66 #[v, .int .i64 ((n : Nat) : Int)] w fun e w' => ∃ v', e = .returned v' ∧ OwnB 5 w' B v' (l ++ e128 n) ∧ Below B w w' := by
  obtain ⟨i0, hi, hz0, hz1, hz2⟩ := info_parts byteInfo
  have HO0 := Lib.hid ho
  obtain ⟨L, hL⟩ : ∃ L, L = Lib.bitLen n := ⟨_, rfl⟩
  obtain ⟨q, hq⟩ : ∃ q, q = ahead7 n := ⟨_, rfl⟩
  have hqL : q = (L - 1) / 7 := by rw [hq, hL]; rfl
  have hq4 : q ≤ 4 := by rw [hq]; exact ahead7_le n hn
  have hL35 : L ≤ 35 := by rw [hL]; exact (blen_iff (by omega) (by omega)).2 (by omega)
  have HBL := Lib.hid (fun w => blen_any n w (by omega))
  rw [← hL] at HBL
  have HQ := Lib.hid hq
  have HQL := Lib.hid hqL
  clear hL hq hqL ho
  go_enter Tryz.func66, Tryz.ntmps66
  go_wp2_with (go_at_call 84; (with_reducible refine (HBL.out _).mono ?_); rintro e w1 ⟨rfl, rfl⟩)
  clear hL35
  go_loopw [0, 6] (fun u k wr => ∃ (j : Nat) (D : List UInt8), j ≤ q ∧ k = .int .i64 (j : Int) ∧ D = hd7 (n / 128 ^ (j + 1)) ∧ OwnB 5 wr B u (l ++ D) ∧ Below B w1 wr ∧ w1.heap.size ≤ wr.heap.size) (fun _ k _ => (intOf k).toNat)
  case atStart => exact ⟨q, [], Nat.le_refl _, by congr 1; have := HQL.out; omega, by rw [HQ.out, ahead7_lt n hn, hd7_zero], by rw [List.append_nil]; exact HO0.out, Below.refl _ _, Nat.le_refl _⟩
  case round =>
    obtain ⟨j, D, hj, rfl, hD, ho, hb, hsz⟩ := hrel
    have HO := Lib.hid ho
    have HB := Lib.hid hb
    have HD := Lib.hid hD
    have hDl : D.length ≤ 5 := by
      have := e128_len n hn
      have e : (hd7 (n / 128 ^ (j + 1))).length ≤ (hd7 (n / 128)).length := by
        rw [Nat.pow_succ, Nat.mul_comm, ← Nat.div_div_eq_div_mul]
        exact hd7_len_le (n / 128) (128 ^ j)
      rw [e128, List.length_append, List.length_singleton] at this
      rw [hD]; omega
    clear ho hb hD
    by_cases hlt : 0 < j
    · have d1 : decide ((0 : Int) < (j : Int)) = true := by simp; omega
      obtain ⟨x, hx⟩ : ∃ x, x = n / 2 ^ (7 * j) % 256 := ⟨_, rfl⟩
      have hx256 : x < 256 := by rw [hx]; omega
      have hxi : (n : Int) / 2 ^ (7 * j) % 256 = (x : Int) := by rw [hx]; simp
      have hor := or_128 x hx256
      obtain ⟨y, hy⟩ : ∃ y : UInt8, y = UInt8.ofNat (128 + x % 128) := ⟨_, rfl⟩
      rw [← hy] at hor
      have HN := Lib.hid (show hd7 (n / 128 ^ j) = D ++ [y] by
        rw [hd7_pos (ahead7_pos n j hn hlt (by rw [← HQ.out]; exact hj)), Nat.div_div_eq_div_mul, ← Nat.pow_succ, ← HD.out, hy, hx]
        have e : (2 : Nat) ^ (7 * j) = 128 ^ j := by rw [Nat.pow_mul]
        rw [e]
        generalize n / 128 ^ j = m
        congr 3
        omega)
      clear hx hy
      go_wp2_with (at_builtin; (refine wpList_append_own _ rfl (.tmp 18) (.tmp 25) 53 rfl B 5 i0 (.int .u8 0) 1 1 Tryz.underlying53 hi hz0 hz1 hz2 rfl (by decide) _ _ _ rfl (HO.out.alloc _) ⟨wr.heap.size, 0, none⟩ 1 1 [bcell y] rfl rfl (news_row wr #[bcell y] 5) (bcells_one [y]) (by simp; unfold maxLen; omega) (by simp; omega) (by simp; omega) ?_); intro v' w2 hown2 hgr2 _; obtain ⟨P1, P2, P3⟩ := app_round (by simp; omega) HO.out HB.out hsz hB hown2 hgr2; have HP1 := Lib.hid P1; have HP2 := Lib.hid P2; have HP3 := Lib.hid P3; clear hown2 hgr2 P1 P2 P3)
      go_roundw
      case rel => exact ⟨j - 1, D ++ [y], by omega, by congr 1; omega, by rw [← HN.out, show j - 1 + 1 = j by omega], by rw [← List.append_assoc]; exact HP1.out, HP2.out, HP3.out⟩
      case measure => simp [intOf]; omega
    · obtain rfl : j = 0 := by omega
      have d1 : decide ((0 : Int) < ((0 : Nat) : Int)) = false := rfl
      obtain ⟨x, hx⟩ : ∃ x, x = n % 256 := ⟨_, rfl⟩
      have hx256 : x < 256 := by rw [hx]; omega
      have hxi : (n : Int) % 256 = (x : Int) := by rw [hx]; omega
      have hor := andNot_128 x hx256
      obtain ⟨y, hy⟩ : ∃ y : UInt8, y = UInt8.ofNat (x % 128) := ⟨_, rfl⟩
      rw [← hy] at hor
      have HN := Lib.hid (show e128 n = D ++ [y] by
        rw [e128, HD.out, hy, hx, Nat.zero_add, Nat.pow_one]
        congr 3
        omega)
      clear hx hy
      go_wp2_with (at_builtin; (refine wpList_append_own _ rfl (.tmp 27) (.tmp 31) 53 rfl B 5 i0 (.int .u8 0) 1 1 Tryz.underlying53 hi hz0 hz1 hz2 rfl (by decide) _ _ _ rfl (HO.out.alloc _) ⟨wr.heap.size, 0, none⟩ 1 1 [bcell y] rfl rfl (news_row wr #[bcell y] 5) (bcells_one [y]) (by simp; unfold maxLen; omega) (by simp; omega) (by simp; omega) ?_); intro v' w2 hown2 hgr2 _; obtain ⟨P1, P2, P3⟩ := app_round (by simp; omega) HO.out HB.out hsz hB hown2 hgr2; have HP1 := Lib.hid P1; have HP2 := Lib.hid P2; have HP3 := Lib.hid P3; clear hown2 hgr2 P1 P2 P3)
      go_ret
      exact ⟨_, rfl, by rw [HN.out, ← List.append_assoc]; exact HP1.out, HP2.out⟩
end Go.Proofs.YtpmlkofceidnjaaGreatDoor
namespace Go.Proofs.YtpmlkofceidnjaaGreatDoor
open Go.RowKit

def encVal (a : List Nat) : Value := .tuple #[.string (strOf (enc a)), .int .i64 0]
def noVal : Value := .tuple #[.string ⟨#[]⟩, .int .i64 11]

set_option maxRecDepth 100000 in
set_option maxHeartbeats 1000000 in
theorem enc_no {s : ByteArray} (h : ∀ a, ¬ Oid s.data.toList a) (w : World) (hs : s.size ≤ 1099511627) :
    Calls Tryz.prog 47 #[.string s] w fun e w' => e = .returned noVal ∧ Below w.heap.size w w' := by
  have HH := Lib.hid h
  clear h
  go_enter Tryz.func47, Tryz.ntmps47
  go_wp2_with (go_at_call 65; (with_reducible refine (arcs_no HH.out _ hs).mono ?_); rintro e w1 ⟨rfl, hb1⟩; have HB1 := Lib.hid hb1; clear hb1)
  go_ret2
  exact ⟨rfl, HB1.out⟩

theorem ILie.tail {w : World} {g : Nat} {x y : Nat} {r : List Nat} (h : ILie w g (x :: y :: r)) (k : Nat) (hk : k < r.length) : w.cell? ⟨g, 2 + k, none⟩ = some (.int .i64 ((r.getD k 0 : Nat) : Int)) := by
  have := h.2 (2 + k) (by simp; omega)
  rw [this]
  have e : (x :: y :: r).getD (2 + k) 0 = r.getD k 0 := by
    rw [show 2 + k = (k + 1) + 1 by omega]; simp
  rw [e]
theorem e128_len5 {a : List Nat} (h : ∀ v ∈ a, v < 34359738368) : (cat e128 a).length ≤ 5 * a.length := by
  induction a with
  | nil => simp [cat]
  | cons v a ih =>
    have h1 := e128_len v (h v (by simp))
    have h2 := ih (fun x hx => h x (by simp [hx]))
    simp only [cat, List.length_append, List.length_cons]; omega

set_option maxRecDepth 100000 in
set_option maxHeartbeats 1000000 in
theorem enc_yes {s : ByteArray} {a : List Nat} (h : Oid s.data.toList a) (w : World) (hs : s.size ≤ 1099511627) :
    Calls Tryz.prog 47 #[.string s] w fun e w' => e = .returned (encVal a) ∧ Below w.heap.size w w' := by
  have HH := Lib.hid h
  have hg := h.1
  obtain ⟨x, y, r, rfl⟩ : ∃ x y r, a = x :: y :: r := by
    match a, hg.1 with
    | x :: y :: r, _ => exact ⟨x, y, r, rfl⟩
  have hx : x ≤ 2 := by simpa using hg.2.2.2.1
  have hy : y ≤ 2147483647 := hg.2.2.1 y (by simp)
  have HR := Lib.hid (fun v (hv : v ∈ r) => hg.2.2.1 v (by simp [hv]))
  have hrl : r.length ≤ 10 := by have := hg.2.1; simp at this; omega
  obtain ⟨m, hm⟩ : ∃ m, m = 40 * x + y := ⟨_, rfl⟩
  have hwr : IntKind.i64.wrap (40 * (x : Int) + (y : Int)) = (m : Int) := by rw [wrap_i64]; omega
  have hwr2 : IntKind.i64.wrap (40 * (x : Int)) = 40 * (x : Int) := by rw [wrap_i64]; omega
  have hmb : m < 34359738368 := by omega
  have HM := Lib.hid hm
  clear hm
  clear h hg
  go_enter Tryz.func47, Tryz.ntmps47
  go_upto_region 4 with (go_at_call 65; (with_reducible refine (arcs_yes HH.out _ hs).mono ?_); rintro e w1 ⟨⟨g, cap, rfl, hl, hg, hcp⟩, hb1⟩; have HB1 := Lib.hid hb1; have HL1 := Lib.hid hl; have hc0 := hl.cell 0 (by simp); have hc1 := hl.cell 1 (by simp); clear hb1 hl hg)
  simp only [List.length_cons] at hcp
  simp only [List.getD_cons_zero, List.getD_cons_succ] at hc0 hc1
  go_region_with (go_at_call 66; (with_reducible refine (app_any _ [] m w1.heap.size _ hmb (by exact own_nil _ _ _) (by simp) (by simp)).mono ?_); rintro e w2 ⟨v2, rfl, ho2, hb2⟩; have HO2 := Lib.hid ho2; have HB2 := Lib.hid hb2; clear ho2 hb2)
  all_goals
    have HB3 := Lib.hid (show Below w1.heap.size w1 w2 from (Below.refl _ w1).drew.trans HB2.out)
    clear HB2 hwr hwr2 hc0 hc1
    go_wp2_with fail
  all_goals
    have HCP := Lib.hid hcp
    go_loopw [6, 28] (fun u i wr => ∃ (k : Nat) (D : List UInt8), k ≤ r.length ∧ i = .int .i64 (k : Int) ∧ D = cat e128 (m :: r.take k) ∧ OwnB 5 wr w1.heap.size u D ∧ Below w1.heap.size w1 wr) (fun _ i _ => r.length - (intOf i).toNat)
    case atStart => exact ⟨0, e128 m, by omega, rfl, by simp [cat], HO2.out, HB3.out⟩
    case round =>
      obtain ⟨k, D, hk, rfl, hD, ho, hb⟩ := hrel
      have HO := Lib.hid ho
      have HB := Lib.hid hb
      have HD := Lib.hid hD
      have hDl : D.length ≤ 5 * 13 := by
        rw [hD]
        refine Nat.le_trans (e128_len5 (fun v hv => ?_)) (by simp; omega)
        rcases List.mem_cons.1 hv with rfl | hv
        · exact hmb
        · exact Nat.lt_of_le_of_lt (HR.out v (List.mem_of_mem_take hv)) (by decide)
      have HDL := Lib.hid (show D.length ≤ 1099511627 by omega)
      have HSZ := Lib.hid hb.size
      clear ho hb hD hDl
      by_cases hlt : k < r.length
      · have hd : decide ((k : Int) < (r.length : Int)) = true := by simp; omega
        have hcx := (HL1.out.below HB.out).tail k hlt
        have hrm : r.getD k 0 ≤ 2147483647 := by
          rw [List.getD_eq_getElem?_getD, List.getElem?_eq_getElem hlt]
          exact HR.out _ (List.getElem_mem _)
        have HN := Lib.hid (show r.take (k + 1) = r.take k ++ [r.getD k 0] by
          rw [List.take_add_one, List.getElem?_eq_getElem hlt, List.getD_eq_getElem?_getD, List.getElem?_eq_getElem hlt]; rfl)
        generalize r.getD k 0 = z at hcx hrm HN
        have HZ := Lib.hid (show z < 34359738368 by omega)
        first
        | (exfalso; omega)
        | (go_wp2_with (go_at_call 66; (with_reducible refine (app_any _ D z w1.heap.size _ HZ.out HO.out HSZ.out HDL.out).mono ?_); rintro e w4 ⟨v4, rfl, ho4, hb4⟩; have HO4 := Lib.hid ho4; have HB4 := Lib.hid hb4; clear ho4 hb4)
           go_roundw
           case rel => exact ⟨k + 1, D ++ e128 z, by omega, by go_num, by rw [HD.out, HN.out]; simp only [cat]; rw [cat_append]; simp [cat], HO4.out, HB.out.trans HB4.out⟩
           case measure => simp [intOf]; omega)
      · obtain rfl : k = r.length := by omega
        have hd : decide ((r.length : Int) < (r.length : Int)) = false := by simp
        have hs2 := own_str HO.out
        go_wp2_with fail
        go_ret2
        refine ⟨?_, below_next HB1.out HB.out⟩
        have e : D = enc (x :: y :: r) := by rw [HD.out, List.take_of_length_le (Nat.le_refl _), HM.out]; rfl
        rw [e]; rfl
end Go.Proofs.YtpmlkofceidnjaaGreatDoor
namespace Go.Proofs.YtpmlkofceidnjaaGreatDoor
open Go.RowKit

/-- What numbersOf answers: the numbers, in a block of the call's own, or no. -/
def Numd (c : List UInt8) (B : Nat) (w' : World) (e : Ending) : Prop :=
  (∃ N g cap, GoodN N ∧ c = cat e128 N ∧ e = .returned (.tuple #[.slice (some ⟨g, 0, none⟩) N.length cap, .bool true]) ∧ ILie w' g N ∧ B ≤ g ∧ N.length ≤ cap) ∨ ((∀ a, ¬ Dec c a) ∧ ∃ v, e = .returned (.tuple #[v, .bool false]))

theorem andNot_128i : ∀ x : Nat, x < 256 → bits BinOp.andNot .u8 ((x : Nat) : Int) 128 = ((x % 128 : Nat) : Int) := by decide +kernel
theorem or_7 (x b : Nat) (hx : x < 4294967296) (hb : b < 128) : bits BinOp.or .i64 ((x : Int) * 128) (b : Int) = ((128 * x + b : Nat) : Int) := by
  show IntKind.i64.wrap ((BitVec.ofInt 64 ((x : Int) * 128) ||| BitVec.ofInt 64 (b : Int)).toNat : Int) = _
  rw [BitVec.toNat_or, BitVec.toNat_ofInt, BitVec.toNat_ofInt, wrap_i64]
  have e1 : ((x : Int) * 128 % (2 ^ 64 : Nat)).toNat = 128 * x := by
    show ((x : Int) * 128 % (18446744073709551616 : Nat)).toNat = 128 * x
    omega
  have e2 : ((b : Int) % (2 ^ 64 : Nat)).toNat = b := by
    show ((b : Int) % (18446744073709551616 : Nat)).toNat = b
    omega
  have e3 : 128 * x ||| b = 128 * x + b := (Nat.two_pow_add_eq_or_of_lt (i := 7) hb x).symm
  rw [e1, e2, e3]
  show (((128 * x + b : Nat) : Int) + 9223372036854775808) % 18446744073709551616 - 9223372036854775808 = _
  omega

/-! ### What is left of the contents: the first number -/
theorem next_cut {r : List UInt8} {u t : List UInt8} {M : List Nat} (h : r = cat e128 M) (hr : r = u ++ t) (hu : ∀ c ∈ u, 128 ≤ c.toNat) (hne : r ≠ []) :
    ∃ m M' u2, M = m :: M' ∧ e128 m = u ++ u2 ∧ t = u2 ++ cat e128 M' := by
  cases M with
  | nil => exact absurd h hne
  | cons m M' =>
    have e : u ++ t = hd7 (m / 128) ++ UInt8.ofNat (m % 128) :: cat e128 M' := by
      rw [← hr, h]; simp [cat, e128]
    have key : ∀ (u v t s : List UInt8) (b : UInt8), (∀ x ∈ u, 128 ≤ x.toNat) → b.toNat < 128 → u ++ t = v ++ b :: s → ∃ u2, v ++ [b] = u ++ u2 ∧ t = u2 ++ s := by
      intro u
      induction u with
      | nil => intro v t s b _ _ e; exact ⟨v ++ [b], rfl, by simpa using e⟩
      | cons x u ih =>
        intro v t s b hx hb e
        cases v with
        | nil =>
          simp at e
          have := hx x (by simp)
          rw [e.1] at this; omega
        | cons y v =>
          simp at e
          obtain ⟨u2, h1, h2⟩ := ih v t s b (fun z hz => hx z (by simp [hz])) hb e.2
          exact ⟨u2, by rw [List.cons_append, h1, e.1]; rfl, h2⟩
    obtain ⟨u2, h1, h2⟩ := key u _ t _ _ hu (by simp; omega) e
    exact ⟨m, M', u2, rfl, by rw [e128, h1], h2⟩
/-- A number that is at least as great as the digits that were read. -/
theorem next_ge {m : Nat} {u u2 : List UInt8} (h : e128 m = u ++ u2) : val7 u ≤ m := by
  have := val7_le u u2
  rw [← h, val_e128] at this
  exact this
/-- The contents end within a number. -/
theorem next_open {r : List UInt8} {M : List Nat} (h : r = cat e128 M) (hu : ∀ c ∈ r, 128 ≤ c.toNat) (hne : r ≠ []) : False := by
  cases M with
  | nil => exact hne h
  | cons m M' =>
    have hm : UInt8.ofNat (m % 128) ∈ r := by rw [h]; simp [cat, e128]
    have := hu _ hm
    simp at this; omega
theorem next_head {r : List UInt8} {M : List Nat} (h : r = cat e128 M) : r.head? ≠ some 128 := by
  cases M with
  | nil => rw [h]; simp [cat]
  | cons m M' => rw [h, cat, head_left (e128_ne m)]; exact e128_head m
theorem limit_of {A M : List Nat} {m : Nat} (h : GoodN (A ++ m :: M)) : m ≤ (if A = [] then 2147483727 else 2147483647) := by
  obtain ⟨_, _, h3, h4⟩ := h
  by_cases hA : A = []
  · subst hA; rw [if_pos rfl]; simpa using h3
  · rw [if_neg hA]
    obtain ⟨x, A', rfl⟩ : ∃ x A', A = x :: A' := by
      cases A with
      | nil => exact absurd rfl hA
      | cons x A' => exact ⟨x, A', rfl⟩
    exact h4 m (by simp)
theorem goodN_snoc {A : List Nat} (hA : A = [] ∨ GoodN A) (h10 : A.length < 11) {m : Nat} (hm : m ≤ (if A = [] then 2147483727 else 2147483647)) : GoodN (A ++ [m]) := by
  rcases hA with rfl | ⟨h1, h2, h3, h4⟩
  · rw [if_pos rfl] at hm
    exact ⟨by simp, by simp, by simpa using hm, by simp⟩
  · have hne : A ≠ [] := fun e => by rw [e] at h1; simp at h1
    rw [if_neg hne] at hm
    obtain ⟨x, A', rfl⟩ : ∃ x A', A = x :: A' := by
      cases A with
      | nil => exact absurd rfl hne
      | cons x A' => exact ⟨x, A', rfl⟩
    refine ⟨by simp, by simp at h10 ⊢; omega, by simpa using h3, ?_⟩
    intro v hv
    simp at hv
    rcases hv with hv | rfl
    · exact h4 v (by simpa using hv)
    · exact hm
theorem next_ge2 {r u t : List UInt8} {b : UInt8} {M : List Nat} (h : r = cat e128 M) (hr : r = u ++ b :: t) (hu : ∀ c ∈ u, 128 ≤ c.toNat) : ∃ m M', M = m :: M' ∧ val7 (u ++ [b]) ≤ m := by
  obtain ⟨m, M', u2, h1, h2, h3⟩ := next_cut h hr hu (by rw [hr]; simp)
  cases u2 with
  | nil =>
    exfalso
    have hm : UInt8.ofNat (m % 128) ∈ u := by
      have : UInt8.ofNat (m % 128) ∈ e128 m := by simp [e128]
      rw [h2] at this; simpa using this
    have := hu _ hm
    simp at this; omega
  | cons x u3 =>
    simp at h3
    refine ⟨m, M', h1, next_ge (u2 := u3) ?_⟩
    rw [h2, h3.1]; simp

def strLen : Value → Nat
  | .string r => r.size
  | _ => 0
theorem ext_tail (r : ByteArray) (j : Nat) : (r.extract j r.size).data.toList = r.data.toList.drop j := by
  rw [ByteArray.data_extract, Array.toList_extract, List.extract_eq_take_drop]
  exact List.take_of_length_le (by rw [List.length_drop]; exact Nat.le_refl _)

set_option maxRecDepth 100000 in
set_option maxHeartbeats 2000000 in
theorem nums_any (c : ByteArray) (w : World) (hs : c.size ≤ 1099511627) :
    Calls Tryz.prog 60 #[.string c] w fun e w' => Numd c.data.toList w.heap.size w' e ∧ Below w.heap.size w w' := by
  obtain ⟨i0, hi, hz0, hz1, hz2⟩ := info_parts intInfo
  have HS := Lib.hid hs
  go_enter Tryz.func60, Tryz.ntmps60
  go_wp2_with fail
  go_step3
  go_wp2_with fail
  go_step3
  go_wp2_with fail
  go_loopg [0, 4, 5] (c.size + 1) (fun gh t v u wr => ∃ (r : ByteArray) (A : List Nat), gh = r.size + 1 ∧ t = .string r ∧ r.size ≤ c.size ∧ c.data.toList = cat e128 A ++ r.data.toList ∧ (A = [] ∨ GoodN A) ∧ A.length ≤ 11 ∧ u = .int .i64 (((if A = [] then 2147483727 else 2147483647 : Nat)) : Int) ∧ OwnI wr w.heap.size v A ∧ Below w.heap.size w wr)
  case atStart => exact ⟨c, [], rfl, rfl, Nat.le_refl _, by simp [cat], .inl rfl, by simp, rfl, World.ownsRow_nil _ _ _ _, Below.refl _ _⟩
  case round =>
    obtain ⟨r, A, hgk, rfl, hrs, hc, hA, hA11, rfl, ho, hb⟩ := hrel
    have HGK := Lib.hid hgk
    clear hgk
    have HO := Lib.hid ho
    have HB := Lib.hid hb
    have HC := Lib.hid hc
    have HA := Lib.hid hA
    have HDN := Lib.hid (fun a (h : Dec c.data.toList a) => dec_next hc h)
    have hrz : r.size ≤ 1099511627 := by omega
    obtain ⟨lim, hlim⟩ : ∃ lim : Nat, lim = (if A = [] then 2147483727 else 2147483647) := ⟨_, rfl⟩
    have hlb : lim ≤ 2147483727 := by rw [hlim]; split <;> omega
    have HLM := Lib.hid hlim
    rw [← hlim]
    clear ho hb hc hA hlim
    by_cases h0 : r.size = 0
    · obtain rfl := empty_of_size h0
      clear h0
      obtain ⟨p, cap, hp⟩ := HO.out.form
      by_cases hA0 : A = []
      · have HX := Lib.hid (show ∀ a, ¬ Dec c.data.toList a from fun a h => by
          obtain ⟨M, _, h2, h3⟩ := HDN.out a h
          cases M with
          | nil => rw [hA0] at h3; exact absurd h3.1 (by decide)
          | cons m M' => have := h2.symm; simp [cat, e128] at this)
        subst hA0
        subst hp
        go_wp2_with fail
        go_ret2
        exact ⟨.inr ⟨HX.out, _, rfl⟩, HB.out⟩
      · have HG := Lib.hid (HA.out.resolve_left hA0)
        obtain ⟨g, cp, hv, hg, hl, hcp⟩ := HO.out.open hA0
        have hpos : 0 < A.length := List.length_pos_iff.2 hA0
        have d0 : decide ((0 : Int) < (A.length : Int)) = true := by simp; omega
        have HCC := Lib.hid (show c.data.toList = cat e128 A by have := HC.out; simpa using this)
        subst hv
        clear hp hA0
        go_wp2_with fail
        go_ret2
        exact ⟨.inl ⟨A, g, cp, HG.out, HCC.out, rfl, hl, hg, hcp⟩, HB.out⟩
    · have he := nonempty_list h0
      have hrne : r.data.toList ≠ [] := fun e => h0 (by show r.data.toList.length = 0; rw [e]; rfl)
      obtain ⟨p, cap, hp⟩ := HO.out.form
      by_cases h11 : A.length = 11
      · have d11 : ((A.length : Int) == 11) = true := by rw [h11]; rfl
        have HX := Lib.hid (show ∀ a, ¬ Dec c.data.toList a from fun a h => by
          obtain ⟨M, _, h2, h3⟩ := HDN.out a h
          cases M with
          | nil => exact hrne h2
          | cons m M' => have := h3.2.1; simp at this; omega)
        subst hp
        clear h11 h0 hA11
        go_wp2_with fail
        rw [Exit.noGoto_ret]
        go_ret2
        exact ⟨.inr ⟨HX.out, _, rfl⟩, HB.out⟩
      · have d11 : ((A.length : Int) == 11) = false := beq_eq_false_iff_ne.2 (by omega)
        have hi0 := fun w => run_index_u8 (P := Tryz.prog) Tryz.underlying9 r 0 (by omega) 0 rfl w
        obtain ⟨b0, hb0, hbn⟩ : ∃ b : UInt8, r.data.toList.head? = some b ∧ u8at r 0 = b.toNat := by
          obtain ⟨b, h1, h2⟩ := u8at_list r 0 (by omega)
          exact ⟨b, by rw [List.head?_eq_getElem?]; exact h1, h2⟩
        obtain ⟨n0, hn0⟩ : ∃ n0, n0 = u8at r 0 := ⟨_, rfl⟩
        rw [← hn0] at hi0 hbn
        by_cases h128 : n0 = 128
        · have dn : ((n0 : Int) == 128) = true := by rw [h128]; rfl
          have HX := Lib.hid (show ∀ a, ¬ Dec c.data.toList a from fun a h => by
            obtain ⟨M, _, h2, h3⟩ := HDN.out a h
            refine next_head h2 ?_
            rw [hb0]
            congr 1
            exact UInt8.toNat_inj.1 (by rw [← hbn, h128]; rfl))
          subst hp
          clear h128 hn0 hbn h11 h0 hA11
          go_wp2_with fail
          rw [Exit.noGoto_ret]
          go_ret2
          exact ⟨.inr ⟨HX.out, _, rfl⟩, HB.out⟩
        · have dn : ((n0 : Int) == 128) = false := beq_eq_false_iff_ne.2 (by omega)
          have HH := Lib.hid (show r.data.toList.head? ≠ some 128 from fun e => h128 (by
            rw [hb0] at e
            rw [hbn, Option.some.inj e]; rfl))
          have hA10 : A.length < 11 := by omega
          subst hp
          clear h128 hn0 hbn h11 hA11 hb0
          go_wp2_with fail
          clear hi0 dn d11 he
          obtain ⟨wo, rfl⟩ : ∃ wo, wo = wr := ⟨wr, rfl⟩
          go_loopg [0, 4, 5, 6, 20] r.size (fun gh t0 t4 t5 u i wx => ∃ (j n : Nat), t0 = .string r ∧ t4 = .slice p A.length cap ∧ t5 = .int .i64 (lim : Int) ∧ j + gh = r.size ∧ i = .int .i64 (j : Int) ∧ u = .int .i64 (n : Int) ∧ n = val7 (r.data.toList.take j) ∧ n ≤ lim ∧ (∀ b ∈ r.data.toList.take j, 128 ≤ b.toNat) ∧ wx = wo)
          case atStart => exact ⟨0, 0, rfl, rfl, rfl, by omega, rfl, rfl, by simp [val7], by omega, by simp, rfl⟩
          case round =>
            obtain ⟨j, n, rfl, rfl, rfl, hjg, rfl, rfl, hn, hnl, hall, rfl⟩ := hrel
            have HJG := Lib.hid hjg
            have HN := Lib.hid hn
            have HALL := Lib.hid hall
            have hnb : n < 2147483728 := by omega
            have hjs : j ≤ r.size := by omega
            clear hn hall hjg
            by_cases hlt : j < r.size
            · have dj : decide ((j : Int) < (r.size : Int)) = true := by simp; omega
              have hij := fun w => run_index_u8 (P := Tryz.prog) Tryz.underlying9 r j hlt (j : Int) rfl w
              obtain ⟨b, hb, hbv⟩ := u8at_list r j hlt
              obtain ⟨x, hx⟩ : ∃ x, x = u8at r j := ⟨_, rfl⟩
              have hx256 : x < 256 := by rw [hx]; exact u8at_lt r j
              rw [← hx] at hij hbv
              have hand := andNot_128i x hx256
              obtain ⟨x7, hx7⟩ : ∃ x7, x7 = x % 128 := ⟨_, rfl⟩
              rw [← hx7] at hand
              have hor := or_7 n x7 (by omega) (by omega)
              obtain ⟨n2, hn2⟩ : ∃ n2, n2 = 128 * n + x7 := ⟨_, rfl⟩
              rw [← hn2] at hor
              have HTK := Lib.hid (show r.data.toList.take (j + 1) = r.data.toList.take j ++ [b] from take_snoc hb)
              have HN2 := Lib.hid (show n2 = val7 (r.data.toList.take (j + 1)) by rw [HTK.out, val7_snoc, ← HN.out, hn2, hx7, hbv])
              have HSP := Lib.hid (show r.data.toList = r.data.toList.take j ++ b :: r.data.toList.drop (j + 1) from at_split _ _ _ hb)
              have hn2b : n2 < 274877920000 := by omega
              have hx7b : x7 < 128 := by omega
              clear hx hx7 hn2 hb
              by_cases hbig : lim < n2
              · have d1 : decide ((lim : Int) < (n2 : Int)) = true := by simp; omega
                have HX := Lib.hid (show ∀ a, ¬ Dec c.data.toList a from fun a h => by
                  obtain ⟨M, _, h2, h3⟩ := HDN.out a h
                  obtain ⟨m, M', rfl, h5⟩ := next_ge2 h2 HSP.out HALL.out
                  have h6 := limit_of h3
                  rw [← HLM.out] at h6
                  rw [← HTK.out, ← HN2.out] at h5
                  omega)
                clear hbv
                go_wp2_with fail
                rw [Exit.noGoto_ret]
                go_ret2
                exact ⟨.inr ⟨HX.out, _, rfl⟩, HB.out⟩
              · have d1 : decide ((lim : Int) < (n2 : Int)) = false := by simp; omega
                by_cases hend : x < 128
                · have d2 : decide ((x : Int) < 128) = true := by simp; omega
                  have HE := Lib.hid (show r.data.toList.take (j + 1) = e128 n2 by
                    rw [HN2.out, HTK.out]
                    refine e128_of _ _ HALL.out ?_ (by omega)
                    rw [← HTK.out]
                    intro e
                    refine HH.out ?_
                    rw [← e]
                    have h1 := List.take_append_drop (j + 1) r.data.toList
                    conv => lhs; rw [← h1]
                    exact head_left (by rw [HTK.out]; simp))
                  have HGN := Lib.hid (goodN_snoc HA.out hA10 (m := n2) (by rw [← HLM.out]; omega))
                  have hsl : ∀ w, (Instr.slice 9 (.string r) (some (.int .i64 ((j : Int) + 1))) none none).run Tryz.prog w = .ok (.string (r.extract (j + 1) r.size)) w := fun w => by
                    have := run_slice_string_from_if (P := Tryz.prog) w 9 r .i64 ((j : Int) + 1) Tryz.underlying9
                    rw [this, if_pos ⟨by omega, by omega⟩]
                    congr 3
                  have HR2 := Lib.hid (show c.data.toList = cat e128 (A ++ [n2]) ++ (r.extract (j + 1) r.size).data.toList by
                    rw [ext_tail, cat_append, HC.out, List.append_assoc]
                    congr 1
                    simp only [cat, List.append_nil]
                    rw [← HE.out, List.take_append_drop])
                  have HZ2 := Lib.hid (show (r.extract (j + 1) r.size).size = r.size - (j + 1) by rw [ByteArray.size_extract]; omega)
                  generalize r.extract (j + 1) r.size = r2 at hsl HR2 HZ2
                  clear hbv
                  go_wp2_with (at_builtin; (refine wpList_append_own _ rfl (.tmp 38) (.tmp 40) 24 rfl w.heap.size 3 i0 (.int .i64 0) 1 8 Tryz.underlying24 hi hz0 hz1 hz2 rfl (by decide) _ _ _ rfl (HO.out.alloc _) ⟨wr.heap.size, 0, none⟩ 1 1 [icell n2] rfl rfl (news_row wr #[icell n2] 3) (icells_one [n2]) (by unfold maxLen; omega) (by omega) (by have := HB.out.size; simp; omega) ?_); intro v' w2 hown2 hgr2 _; obtain ⟨P1, P2⟩ := own_round HO.out HB.out hown2 hgr2; have HP1 := Lib.hid P1; have HP2 := Lib.hid P2; clear hown2 hgr2 P1 P2)
                  clear hx7b
                  go_roundg (r2.size + 1)
                  case measure => have := HGK.out; have := HZ2.out; omega
                  case rel => exact ⟨r2, A ++ [n2], rfl, rfl, by have := HZ2.out; omega, HR2.out, .inr HGN.out, by simp; omega, by rw [if_neg (by simp)]; rfl, HP1.out, HP2.out⟩
                · have d2 : decide ((x : Int) < 128) = false := by simp; omega
                  have HB128 := Lib.hid (show 128 ≤ b.toNat by omega)
                  clear hbv
                  go_wp2_with fail
                  go_roundg (r.size - (j + 1))
                  case measure => have := HJG.out; omega
                  case rel => exact ⟨j + 1, n2, rfl, rfl, rfl, by omega, by congr 1, rfl, HN2.out, by omega, by
                    rw [HTK.out]
                    intro y hy
                    rcases List.mem_append.1 hy with hy | hy
                    · exact HALL.out y hy
                    · obtain rfl : y = b := by simpa using hy
                      exact HB128.out, rfl⟩
            · obtain rfl : j = r.size := by omega
              have dj : decide ((r.size : Int) < (r.size : Int)) = false := by simp
              have HX := Lib.hid (show ∀ a, ¬ Dec c.data.toList a from fun a h => by
                obtain ⟨M, _, h2, h3⟩ := HDN.out a h
                refine next_open h2 (fun y hy => HALL.out y ?_) hrne
                rw [List.take_of_length_le (show r.data.toList.length ≤ r.size from Nat.le_refl _)]
                exact hy)
              go_wp2_with fail
              rw [Exit.noGoto_ret]
              go_ret2
              exact ⟨.inr ⟨HX.out, _, rfl⟩, HB.out⟩
end Go.Proofs.YtpmlkofceidnjaaGreatDoor
