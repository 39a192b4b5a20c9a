/-
  The contract of tlv.readLength: what the octets say, and that nothing has changed.
  The contract of tlv.Read: the element at the beginning and the bytes behind it, or the error; nothing that was there before the call has changed.
  The contract of the reference's Read: the element at the beginning and the bytes behind it, or the error; nothing that was there before the call has changed.
  The contract of oid.appendNumber: the digits of a number in base 128 are added to the bytes that the caller has.
  The contract of oid.Encode: the contents of the object identifier that the text is, if it is one.
  The contract of oid.numbersOf: the numbers of which the contents consist, if they are those of an object identifier.
  The contract of the reference's Read, put together: the same answer as that of tlv.Read.
  The contracts of tlv.One and of the reference's One: the element that a string consists of, or the error; nothing that was there before the call has changed.
  What List answers, as a function of the string; the contracts of tlv.List and of the reference's List.
  What Check answers, as a function of the string; the contracts of tlv.Check and of the reference's Check.
  The contract of the reference's check: the first error within an element.
  The contracts of tlv.Check and of the reference's Check.
  The contract of sameElements of certpathlaw02, of two slices that hold the same elements.
  The contract of the law's function same: all readers of tlv answer as those of the reference, at every string that memory can hold.
  Plain laws: a slice of bytes that lies in memory, converted to a string; a new row of bytes lies. Nothing is claimed of the program here.
-/
import Derived.Test.YtbpdenfiifcfcaaGreatDoorMaa
import Derived.Test.YtbpdenfiifcfcaaGreatDoorMao
import Derived.Test.YtbpdenfiifcfcaaGreatDoorMah
import Derived.Deep.LoopGhost
import Derived.Lib.Builder
import Derived.Deep.DeepCutAuto
namespace Go.Proofs.YtbpdenfiifcfcaaGreatDoor
open Go.RowKit

theorem lsz_cases (v : Nat) : (v < 128 ∧ lsz v = 1) ∨ (128 ≤ v ∧ v < 256 ∧ lsz v = 2) ∨ (256 ≤ v ∧ v < 65536 ∧ lsz v = 3) ∨ (65536 ≤ v ∧ lsz v = 4) := by
  by_cases h1 : v < 128
  · exact .inl ⟨h1, lsz1 h1⟩
  · by_cases h2 : v < 256
    · exact .inr (.inl ⟨by omega, h2, lsz2 (by omega) h2⟩)
    · by_cases h3 : v < 65536
      · exact .inr (.inr (.inl ⟨by omega, h3, lsz3 (by omega) h3⟩))
      · exact .inr (.inr (.inr ⟨by omega, lsz4 (by omega)⟩))
theorem least_one : least 1 = 128 := rfl
theorem least_two : least 2 = 256 := rfl
theorem least_three : least 3 = 65536 := rfl
theorem least_ok {v k : Nat} (h1 : 0 < k) (h2 : k ≤ 3) (h : lsz v = 1 + k) : ¬ v < least k := by
  have := lsz_cases v
  rcases (by omega : k = 1 ∨ k = 2 ∨ k = 3) with rfl | rfl | rfl
  · rw [least_one]; omega
  · rw [least_two]; omega
  · rw [least_three]; omega
end Go.Proofs.YtbpdenfiifcfcaaGreatDoor
namespace Go.Proofs.YtbpdenfiifcfcaaGreatDoor
open Go.RowKit

end Go.Proofs.YtbpdenfiifcfcaaGreatDoor
namespace Go.Proofs.YtbpdenfiifcfcaaGreatDoor
open Go.RowKit

theorem belowNew2 (w : World) (o o' : Obj) : Below w.heap.size w ((w.alloc o).alloc o') := (belowNew w o).alloc (by simp) o'

end Go.Proofs.YtbpdenfiifcfcaaGreatDoor
namespace Go.Proofs.YtbpdenfiifcfcaaGreatDoor
open Go.RowKit

theorem blen_pos {x : Nat} (h0 : x ≠ 0) (h : x < 18446744073709551616) : 1 ≤ Lib.bitLen x := by
  rw [Lib.bitLen_half x h0 h]; omega
theorem blen_iff {x k : Nat} (h : x < 18446744073709551616) (hk : k ≤ 64) : Lib.bitLen x ≤ k ↔ x < 2 ^ k := by
  constructor
  · intro hl
    rcases Nat.lt_or_ge x (2 ^ k) with h1 | h1
    · exact h1
    · exfalso
      rw [Lib.bitLen_shift k x h1 h] at hl
      have hp : 0 < 2 ^ k := Nat.two_pow_pos k
      have h2 : 1 ≤ x / 2 ^ k := (Nat.one_le_div_iff hp).2 h1
      have h3 : x / 2 ^ k ≤ x := Nat.div_le_self _ _
      have := blen_pos (x := x / 2 ^ k) (by omega) (by omega)
      omega
  · exact Lib.bitLen_le x k hk
/-- How many digits in base 128 stand before the last one. -/
def ahead7 (n : Nat) : Nat := (Lib.bitLen n - 1) / 7
theorem ahead7_lt (n : Nat) (h : n < 34359738368) : n / 128 ^ (ahead7 n + 1) = 0 := by
  have e : (128 : Nat) ^ (ahead7 n + 1) = 2 ^ (7 * (ahead7 n + 1)) := by rw [Nat.pow_mul]
  rw [e]
  refine Nat.div_eq_of_lt ?_
  have hle : Lib.bitLen n ≤ 7 * (ahead7 n + 1) := by unfold ahead7; omega
  have h35 : Lib.bitLen n ≤ 35 := (blen_iff (by omega) (by omega)).2 (by omega)
  exact (blen_iff (by omega) (by unfold ahead7; omega)).1 hle
theorem ahead7_pos (n j : Nat) (h : n < 34359738368) (h1 : 1 ≤ j) (h2 : j ≤ ahead7 n) : n / 128 ^ j ≠ 0 := by
  have e : (128 : Nat) ^ j = 2 ^ (7 * j) := by rw [Nat.pow_mul]
  rw [e]
  intro h0
  have hp : 0 < 2 ^ (7 * j) := Nat.two_pow_pos _
  have hlt : n < 2 ^ (7 * j) := (Nat.div_eq_zero_iff_lt hp).1 h0
  have h35 : Lib.bitLen n ≤ 35 := (blen_iff (by omega) (by omega)).2 (by omega)
  unfold ahead7 at h2
  have := (blen_iff (k := 7 * j) (by omega) (by omega)).2 hlt
  omega
theorem ahead7_le (n : Nat) (h : n < 34359738368) : ahead7 n ≤ 4 := by
  have h35 : Lib.bitLen n ≤ 35 := (blen_iff (by omega) (by omega)).2 (by omega)
  unfold ahead7; omega
theorem or_128 : ∀ x : Nat, x < 256 → bits BinOp.or .u8 ((x : Nat) : Int) 128 = (((UInt8.ofNat (128 + x % 128)).toNat : Nat) : Int) := by decide +kernel
theorem andNot_128 : ∀ x : Nat, x < 256 → bits BinOp.andNot .u8 ((x : Nat) : Int) 128 = (((UInt8.ofNat (x % 128)).toNat : Nat) : Int) := by decide +kernel

theorem hd7_len_mono : ∀ (k a b : Nat), a ≤ b → b < 128 ^ k → (hd7 a).length ≤ (hd7 b).length
  | 0, a, b, h, hk => by
    simp at hk
    obtain rfl : a = 0 := by omega
    rw [hd7_zero]; simp
  | k + 1, a, b, h, hk => by
    by_cases ha : a = 0
    · rw [ha, hd7_zero]; simp
    · rw [hd7_pos ha, hd7_pos (show b ≠ 0 by omega)]
      have := hd7_len_mono k (a / 128) (b / 128) (by omega) (by rw [Nat.pow_succ] at hk; omega)
      simp; exact this
theorem hd7_len_le (b m : Nat) : (hd7 (b / m)).length ≤ (hd7 b).length :=
  hd7_len_mono b (b / m) b (Nat.div_le_self _ _) (Nat.lt_pow_self (by omega))
theorem app_round {w wr w2 : World} {v v' : Value} {D : List UInt8} {y : UInt8} {X : Obj} {B n : Nat} (hn : n = (D ++ [y]).length) (hown : OwnB 5 wr B v D) (hb : Below B w wr) (hsz : w.heap.size ≤ wr.heap.size) (hB : B ≤ w.heap.size)
    (hown2 : w2.ownsRow B 5 1 v' n (D.map bcell ++ [bcell y])) (hgr2 : (wr.alloc X).grownBy w2 v.ownBlock) : OwnB 5 w2 B v' (D ++ [y]) ∧ Below B w w2 ∧ w.heap.size ≤ w2.heap.size := by
  have hb2 : Below B w w2 := (Below.alloc hb (by omega) X).grown hgr2 (by simp; omega) (fun k e => (World.ownsRow.lt hown k e).1)
  refine ⟨?_, hb2, hb2.size⟩
  unfold OwnB
  rw [List.map_append, ← hn]; exact hown2

set_option maxRecDepth 100000 in
set_option maxHeartbeats 1000000 in
theorem app_any (v : Value) (l : List UInt8) (n B : Nat) (w : World) (hn : n < 34359738368) (ho : OwnB 5 w B v l) (hB : B ≤ w.heap.size) (hl : l.length ≤ 1099511627) :
    Calls Tryz.prog 193 #[v, .int .i64 ((n : Nat) : Int)] w fun e w' => ∃ v', e = .returned v' ∧ OwnB 5 w' B v' (l ++ e128 n) ∧ Below B w w' := by
  obtain ⟨i0, hi, hz0, hz1, hz2⟩ := info_parts byteInfo
  have HO0 := Lib.hid ho
  obtain ⟨L, hL⟩ : ∃ L, L = Lib.bitLen n := ⟨_, rfl⟩
  obtain ⟨q, hq⟩ : ∃ q, q = ahead7 n := ⟨_, rfl⟩
  have hqL : q = (L - 1) / 7 := by rw [hq, hL]; rfl
  have hq4 : q ≤ 4 := by rw [hq]; exact ahead7_le n hn
  have hL35 : L ≤ 35 := by rw [hL]; exact (blen_iff (by omega) (by omega)).2 (by omega)
  have HBL := Lib.hid (fun w => blen_any n w (by omega))
  rw [← hL] at HBL
  have HQ := Lib.hid hq
  have HQL := Lib.hid hqL
  clear hL hq hqL ho
  go_enter Tryz.func193, Tryz.ntmps193
  go_wp2_with (go_at_call 195; (with_reducible refine (HBL.out _).mono ?_); rintro e w1 ⟨rfl, rfl⟩)
  clear hL35
  go_loopw [0, 6] (fun u k wr => ∃ (j : Nat) (D : List UInt8), j ≤ q ∧ k = .int .i64 (j : Int) ∧ D = hd7 (n / 128 ^ (j + 1)) ∧ OwnB 5 wr B u (l ++ D) ∧ Below B w1 wr ∧ w1.heap.size ≤ wr.heap.size) (fun _ k _ => (intOf k).toNat)
  case atStart => exact ⟨q, [], Nat.le_refl _, by congr 1; have := HQL.out; omega, by rw [HQ.out, ahead7_lt n hn, hd7_zero], by rw [List.append_nil]; exact HO0.out, Below.refl _ _, Nat.le_refl _⟩
  case round =>
    obtain ⟨j, D, hj, rfl, hD, ho, hb, hsz⟩ := hrel
    have HO := Lib.hid ho
    have HB := Lib.hid hb
    have HD := Lib.hid hD
    have hDl : D.length ≤ 5 := by
      have := e128_len n hn
      have e : (hd7 (n / 128 ^ (j + 1))).length ≤ (hd7 (n / 128)).length := by
        rw [Nat.pow_succ, Nat.mul_comm, ← Nat.div_div_eq_div_mul]
        exact hd7_len_le (n / 128) (128 ^ j)
      rw [e128, List.length_append, List.length_singleton] at this
      rw [hD]; omega
    clear ho hb hD
    by_cases hlt : 0 < j
    · have d1 : decide ((0 : Int) < (j : Int)) = true := by simp; omega
      obtain ⟨x, hx⟩ : ∃ x, x = n / 2 ^ (7 * j) % 256 := ⟨_, rfl⟩
      have hx256 : x < 256 := by rw [hx]; omega
      have hxi : (n : Int) / 2 ^ (7 * j) % 256 = (x : Int) := by rw [hx]; simp
      have hor := or_128 x hx256
      obtain ⟨y, hy⟩ : ∃ y : UInt8, y = UInt8.ofNat (128 + x % 128) := ⟨_, rfl⟩
      rw [← hy] at hor
      have HN := Lib.hid (show hd7 (n / 128 ^ j) = D ++ [y] by
        rw [hd7_pos (ahead7_pos n j hn hlt (by rw [← HQ.out]; exact hj)), Nat.div_div_eq_div_mul, ← Nat.pow_succ, ← HD.out, hy, hx]
        have e : (2 : Nat) ^ (7 * j) = 128 ^ j := by rw [Nat.pow_mul]
        rw [e]
        generalize n / 128 ^ j = m
        congr 3
        omega)
      clear hx hy
      go_wp2_with (at_builtin; (refine wpList_append_own _ rfl (.tmp 18) (.tmp 25) 65 rfl B 5 i0 (.int .u8 0) 1 1 Tryz.underlying65 hi hz0 hz1 hz2 rfl (by decide) _ _ _ rfl (HO.out.alloc _) ⟨wr.heap.size, 0, none⟩ 1 1 [bcell y] rfl rfl (news_row wr #[bcell y] 5) (bcells_one [y]) (by simp; unfold maxLen; omega) (by simp; omega) (by simp; omega) ?_); intro v' w2 hown2 hgr2 _; obtain ⟨P1, P2, P3⟩ := app_round (by simp; omega) HO.out HB.out hsz hB hown2 hgr2; have HP1 := Lib.hid P1; have HP2 := Lib.hid P2; have HP3 := Lib.hid P3; clear hown2 hgr2 P1 P2 P3)
      go_roundw
      case rel => exact ⟨j - 1, D ++ [y], by omega, by congr 1; omega, by rw [← HN.out, show j - 1 + 1 = j by omega], by rw [← List.append_assoc]; exact HP1.out, HP2.out, HP3.out⟩
      case measure => simp [intOf]; omega
    · obtain rfl : j = 0 := by omega
      have d1 : decide ((0 : Int) < ((0 : Nat) : Int)) = false := rfl
      obtain ⟨x, hx⟩ : ∃ x, x = n % 256 := ⟨_, rfl⟩
      have hx256 : x < 256 := by rw [hx]; omega
      have hxi : (n : Int) % 256 = (x : Int) := by rw [hx]; omega
      have hor := andNot_128 x hx256
      obtain ⟨y, hy⟩ : ∃ y : UInt8, y = UInt8.ofNat (x % 128) := ⟨_, rfl⟩
      rw [← hy] at hor
      have HN := Lib.hid (show e128 n = D ++ [y] by
        rw [e128, HD.out, hy, hx, Nat.zero_add, Nat.pow_one]
        congr 3
        omega)
      clear hx hy
      go_wp2_with (at_builtin; (refine wpList_append_own _ rfl (.tmp 27) (.tmp 31) 65 rfl B 5 i0 (.int .u8 0) 1 1 Tryz.underlying65 hi hz0 hz1 hz2 rfl (by decide) _ _ _ rfl (HO.out.alloc _) ⟨wr.heap.size, 0, none⟩ 1 1 [bcell y] rfl rfl (news_row wr #[bcell y] 5) (bcells_one [y]) (by simp; unfold maxLen; omega) (by simp; omega) (by simp; omega) ?_); intro v' w2 hown2 hgr2 _; obtain ⟨P1, P2, P3⟩ := app_round (by simp; omega) HO.out HB.out hsz hB hown2 hgr2; have HP1 := Lib.hid P1; have HP2 := Lib.hid P2; have HP3 := Lib.hid P3; clear hown2 hgr2 P1 P2 P3)
      go_ret
      exact ⟨_, rfl, by rw [HN.out, ← List.append_assoc]; exact HP1.out, HP2.out⟩
end Go.Proofs.YtbpdenfiifcfcaaGreatDoor
namespace Go.Proofs.YtbpdenfiifcfcaaGreatDoor
open Go.RowKit

def encVal (a : List Nat) : Value := .tuple #[.string (strOf (enc a)), .int .i64 0]
def noVal : Value := .tuple #[.string ⟨#[]⟩, .int .i64 11]

set_option maxRecDepth 100000 in
set_option maxHeartbeats 1000000 in
theorem enc_no {s : ByteArray} (h : ∀ a, ¬ Oid s.data.toList a) (w : World) (hs : s.size ≤ 1099511627) :
    Calls Tryz.prog 168 #[.string s] w fun e w' => e = .returned noVal ∧ Below w.heap.size w w' := by
  have HH := Lib.hid h
  clear h
  go_enter Tryz.func168, Tryz.ntmps168
  go_wp2_with (go_at_call 180; (with_reducible refine (arcs_no HH.out _ hs).mono ?_); rintro e w1 ⟨rfl, hb1⟩; have HB1 := Lib.hid hb1; clear hb1)
  go_ret2
  exact ⟨rfl, HB1.out⟩

theorem ILie.tail {w : World} {g : Nat} {x y : Nat} {r : List Nat} (h : ILie w g (x :: y :: r)) (k : Nat) (hk : k < r.length) : w.cell? ⟨g, 2 + k, none⟩ = some (.int .i64 ((r.getD k 0 : Nat) : Int)) := by
  have := h.2 (2 + k) (by simp; omega)
  rw [this]
  have e : (x :: y :: r).getD (2 + k) 0 = r.getD k 0 := by
    rw [show 2 + k = (k + 1) + 1 by omega]; simp
  rw [e]
theorem e128_len5 {a : List Nat} (h : ∀ v ∈ a, v < 34359738368) : (cat e128 a).length ≤ 5 * a.length := by
  induction a with
  | nil => simp [cat]
  | cons v a ih =>
    have h1 := e128_len v (h v (by simp))
    have h2 := ih (fun x hx => h x (by simp [hx]))
    simp only [cat, List.length_append, List.length_cons]; omega

set_option maxRecDepth 100000 in
set_option maxHeartbeats 1000000 in
theorem enc_yes {s : ByteArray} {a : List Nat} (h : Oid s.data.toList a) (w : World) (hs : s.size ≤ 1099511627) :
    Calls Tryz.prog 168 #[.string s] w fun e w' => e = .returned (encVal a) ∧ Below w.heap.size w w' := by
  have HH := Lib.hid h
  have hg := h.1
  obtain ⟨x, y, r, rfl⟩ : ∃ x y r, a = x :: y :: r := by
    match a, hg.1 with
    | x :: y :: r, _ => exact ⟨x, y, r, rfl⟩
  have hx : x ≤ 2 := by simpa using hg.2.2.2.1
  have hy : y ≤ 2147483647 := hg.2.2.1 y (by simp)
  have HR := Lib.hid (fun v (hv : v ∈ r) => hg.2.2.1 v (by simp [hv]))
  have hrl : r.length ≤ 10 := by have := hg.2.1; simp at this; omega
  obtain ⟨m, hm⟩ : ∃ m, m = 40 * x + y := ⟨_, rfl⟩
  have hwr : IntKind.i64.wrap (40 * (x : Int) + (y : Int)) = (m : Int) := by rw [wrap_i64]; omega
  have hwr2 : IntKind.i64.wrap (40 * (x : Int)) = 40 * (x : Int) := by rw [wrap_i64]; omega
  have hmb : m < 34359738368 := by omega
  have HM := Lib.hid hm
  clear hm
  clear h hg
  go_enter Tryz.func168, Tryz.ntmps168
  go_upto_region 4 with (go_at_call 180; (with_reducible refine (arcs_yes HH.out _ hs).mono ?_); rintro e w1 ⟨⟨g, cap, rfl, hl, hg, hcp⟩, hb1⟩; have HB1 := Lib.hid hb1; have HL1 := Lib.hid hl; have hc0 := hl.cell 0 (by simp); have hc1 := hl.cell 1 (by simp); clear hb1 hl hg)
  simp only [List.length_cons] at hcp
  simp only [List.getD_cons_zero, List.getD_cons_succ] at hc0 hc1
  go_region_with (go_at_call 193; (with_reducible refine (app_any _ [] m w1.heap.size _ hmb (by exact own_nil _ _ _) (by simp) (by simp)).mono ?_); rintro e w2 ⟨v2, rfl, ho2, hb2⟩; have HO2 := Lib.hid ho2; have HB2 := Lib.hid hb2; clear ho2 hb2)
  all_goals
    have HB3 := Lib.hid (show Below w1.heap.size w1 w2 from (Below.refl _ w1).drew.trans HB2.out)
    clear HB2 hwr hwr2 hc0 hc1
    go_wp2_with fail
  all_goals
    have HCP := Lib.hid hcp
    go_loopw [6, 28] (fun u i wr => ∃ (k : Nat) (D : List UInt8), k ≤ r.length ∧ i = .int .i64 (k : Int) ∧ D = cat e128 (m :: r.take k) ∧ OwnB 5 wr w1.heap.size u D ∧ Below w1.heap.size w1 wr) (fun _ i _ => r.length - (intOf i).toNat)
    case atStart => exact ⟨0, e128 m, by omega, rfl, by simp [cat], HO2.out, HB3.out⟩
    case round =>
      obtain ⟨k, D, hk, rfl, hD, ho, hb⟩ := hrel
      have HO := Lib.hid ho
      have HB := Lib.hid hb
      have HD := Lib.hid hD
      have hDl : D.length ≤ 5 * 13 := by
        rw [hD]
        refine Nat.le_trans (e128_len5 (fun v hv => ?_)) (by simp; omega)
        rcases List.mem_cons.1 hv with rfl | hv
        · exact hmb
        · exact Nat.lt_of_le_of_lt (HR.out v (List.mem_of_mem_take hv)) (by decide)
      have HDL := Lib.hid (show D.length ≤ 1099511627 by omega)
      have HSZ := Lib.hid hb.size
      clear ho hb hD hDl
      by_cases hlt : k < r.length
      · have hd : decide ((k : Int) < (r.length : Int)) = true := by simp; omega
        have hcx := (HL1.out.below HB.out).tail k hlt
        have hrm : r.getD k 0 ≤ 2147483647 := by
          rw [List.getD_eq_getElem?_getD, List.getElem?_eq_getElem hlt]
          exact HR.out _ (List.getElem_mem _)
        have HN := Lib.hid (show r.take (k + 1) = r.take k ++ [r.getD k 0] by
          rw [List.take_add_one, List.getElem?_eq_getElem hlt, List.getD_eq_getElem?_getD, List.getElem?_eq_getElem hlt]; rfl)
        generalize r.getD k 0 = z at hcx hrm HN
        have HZ := Lib.hid (show z < 34359738368 by omega)
        first
        | (exfalso; omega)
        | (go_wp2_with (go_at_call 193; (with_reducible refine (app_any _ D z w1.heap.size _ HZ.out HO.out HSZ.out HDL.out).mono ?_); rintro e w4 ⟨v4, rfl, ho4, hb4⟩; have HO4 := Lib.hid ho4; have HB4 := Lib.hid hb4; clear ho4 hb4)
           go_roundw
           case rel => exact ⟨k + 1, D ++ e128 z, by omega, by go_num, by rw [HD.out, HN.out]; simp only [cat]; rw [cat_append]; simp [cat], HO4.out, HB.out.trans HB4.out⟩
           case measure => simp [intOf]; omega)
      · obtain rfl : k = r.length := by omega
        have hd : decide ((r.length : Int) < (r.length : Int)) = false := by simp
        have hs2 := own_str HO.out
        go_wp2_with fail
        go_ret2
        refine ⟨?_, below_next HB1.out HB.out⟩
        have e : D = enc (x :: y :: r) := by rw [HD.out, List.take_of_length_le (Nat.le_refl _), HM.out]; rfl
        rw [e]; rfl
end Go.Proofs.YtbpdenfiifcfcaaGreatDoor
namespace Go.Proofs.YtbpdenfiifcfcaaGreatDoor
open Go.RowKit

/-! ### What is left of the contents: the first number -/
end Go.Proofs.YtbpdenfiifcfcaaGreatDoor
namespace Go.Proofs.YtbpdenfiifcfcaaGreatDoor
open Go.RowKit

end Go.Proofs.YtbpdenfiifcfcaaGreatDoor
namespace Go.Proofs.YtbpdenfiifcfcaaGreatDoor
open Go.RowKit

/-- What One answers. -/
def oneErr (b : ByteArray) : Nat := if rdErr b ≠ 0 then rdErr b else if (rdRest b).size ≠ 0 then 4 else 0
theorem rdVal_good {b : ByteArray} (h : rdErr b = 0) : rdVal b = .tuple #[.agg #[.int .i64 ((rdTag b : Nat) : Int), .string (rdContent b), .string (rdRaw b)], .string (rdRest b), .int .i64 0] := if_pos h
end Go.Proofs.YtbpdenfiifcfcaaGreatDoor
namespace Go.Proofs.YtbpdenfiifcfcaaGreatDoor
open Go.RowKit

/-- An element: identifier octet, contents, the whole of it. -/
abbrev El := Nat × ByteArray × ByteArray
def elCells (e : El) : List Value := [.int .i64 ((e.1 : Nat) : Int), .string e.2.1, .string e.2.2]
def elsCells (l : List El) : List Value := l.flatMap elCells
theorem elsCells_snoc (l : List El) (e : El) : elsCells (l ++ [e]) = elsCells l ++ elCells e := by simp [elsCells]
def rdElem (b : ByteArray) : El := (rdTag b, rdContent b, rdRaw b)

/-- The elements of which a string consists, and the error (with an error no element). -/
def lst (b : ByteArray) : List El × Nat :=
  if b.size = 0 then ([], 0)
  else if _h : rdErr b = 0 then
    if (lst (rdRest b)).2 = 0 then (rdElem b :: (lst (rdRest b)).1, 0) else ([], (lst (rdRest b)).2)
  else ([], rdErr b)
termination_by b.size
decreasing_by all_goals exact rdRest_size (by assumption)
theorem lst_nil {b : ByteArray} (h : b.size = 0) : lst b = ([], 0) := by rw [lst, if_pos h]
theorem lst_bad {b : ByteArray} (h0 : b.size ≠ 0) (h : rdErr b ≠ 0) : lst b = ([], rdErr b) := by rw [lst, if_neg h0, dif_neg h]
theorem lst_step {b : ByteArray} (h0 : b.size ≠ 0) (h : rdErr b = 0) : lst b = if (lst (rdRest b)).2 = 0 then (rdElem b :: (lst (rdRest b)).1, 0) else ([], (lst (rdRest b)).2) := by
  rw [lst, if_neg h0, dif_pos h]
/-- Elements ahead of those of a string. -/
def ahead (D : List El) (p : List El × Nat) : List El × Nat := if p.2 = 0 then (D ++ p.1, 0) else ([], p.2)
/-- The slice value v, of memory from block B on, holds the elements l. -/
def OwnE (w : World) (B : Nat) (v : Value) (l : List El) : Prop := w.ownsRow B 67 3 v l.length (elsCells l)
end Go.Proofs.YtbpdenfiifcfcaaGreatDoor
namespace Go.Proofs.YtbpdenfiifcfcaaGreatDoor
open Go.RowKit

theorem rdTag_lt (b : ByteArray) : rdTag b < 256 := u8at_lt b 0

end Go.Proofs.YtbpdenfiifcfcaaGreatDoor
namespace Go.Proofs.YtbpdenfiifcfcaaGreatDoor
open Go.RowKit

end Go.Proofs.YtbpdenfiifcfcaaGreatDoor
namespace Go.Proofs.YtbpdenfiifcfcaaGreatDoor
open Go.RowKit

end Go.Proofs.YtbpdenfiifcfcaaGreatDoor
namespace Go.Proofs.YtbpdenfiifcfcaaGreatDoor
open Go.RowKit

theorem own_base_t {w : World} {B : Nat} {v : Value} {l : List El} (h : OwnE w B v l) : OwnE w 0 v l := by
  refine ⟨h.1, ?_⟩
  rcases h.2 with h0 | ⟨g, cap, cur, hv, _, r⟩
  · exact .inl h0
  · exact .inr ⟨g, cap, cur, hv, Nat.zero_le _, r⟩
theorem els_cell {w : World} {g : Nat} {B cap : Nat} {l : List El} (h : OwnE w B (.slice (some ⟨g, 0, none⟩) l.length cap) l) (i : Nat) (hi : i < l.length) (j : Nat) (hj : j < 3) :
    w.cell? ⟨g, i * 3 + j, none⟩ = (elCells l[i])[j]? := by
  rw [World.ownsRow.cellAt h (i * 3 + j) (by omega)]
  clear h
  induction l generalizing i with
  | nil => exact absurd hi (Nat.not_lt_zero _)
  | cons e r ih =>
    have e0 : elsCells (e :: r) = elCells e ++ elsCells r := rfl
    have el : (elCells e).length = 3 := rfl
    rw [e0]
    cases i with
    | zero => rw [List.getElem?_append_left (by omega)]; simp
    | succ i =>
      rw [List.getElem?_append_right (by omega), el, show (i + 1) * 3 + j - 3 = i * 3 + j by omega, ih i (by simpa using hi)]
      rfl

end Go.Proofs.YtbpdenfiifcfcaaGreatDoor
namespace Go.Proofs.YtbpdenfiifcfcaaGreatDoor
open Go.RowKit

theorem OwnE.below {w w' : World} {B : Nat} {v : Value} {l : List El} (h : OwnE w B v l) (hb : Below w.heap.size w w') : OwnE w' B v l := own_below h hb
theorem below_next_t {w0 w w' : World} (h : Below w0.heap.size w0 w) (hb : Below w.heap.size w w') : Below w0.heap.size w0 w' := h.trans (hb.mono h.size)
end Go.Proofs.YtbpdenfiifcfcaaGreatDoor
namespace Go.Proofs.YtbpdenfiifcfcaaGreatDoor
open Go.RowKit

theorem run_convert_lies {P : Program} {src dst e : TypeId} (hs : P.underlying src = some (.slice e)) (he : P.underlying e = some (.int .u8)) (hd : P.underlying dst = some .string) {w : World} {a : Option Addr} {cap : Nat} {l : List UInt8} (h : BLies w a l) {w' : World} (hb : Below w.heap.size w w') :
    (convert src dst (.slice a l.length cap)).run P w' = .ok (.string ⟨l.toArray⟩) w' := by
  cases a with
  | none =>
    rcases h with rfl | ⟨b, o, h, _⟩
    · rw [List.length_nil, run_convert_bytes_string w' src dst e none 0 cap hs he hd]
      unfold Conv.bytesToString
      simp
      rfl
    · cases h
  | some ad =>
    refine run_convert_bytes_back w' src dst e ad cap l hs he hd (fun j hj => ?_)
    rcases h with rfl | ⟨b, o, h, hc⟩
    · exact absurd hj (Nat.not_lt_zero _)
    · obtain rfl := Option.some.inj h
      have hadd : (⟨b, o, none⟩ : Addr).add j = ⟨b, o + j, none⟩ := by unfold Addr.add; split <;> simp_all
      rw [hadd, hb.cell (p := ⟨b, o + j, none⟩) (block_lt_of_cell (hc j hj))]
      exact hc j hj
theorem row_lies (W : World) (g : Nat) (hg : g = W.heap.size) (l : List UInt8) (cs : Array Value) (hcs : cs = (l.map bcell).toArray) : BLies (W.alloc (.cells cs 5)) (some ⟨g, 0, none⟩) l := by
  subst hg hcs
  refine .inr ⟨_, _, rfl, fun i hi => ?_⟩
  rw [Lib.cell_of_heap (heap_alloc_new W _)]
  simp [hi]
end Go.Proofs.YtbpdenfiifcfcaaGreatDoor
