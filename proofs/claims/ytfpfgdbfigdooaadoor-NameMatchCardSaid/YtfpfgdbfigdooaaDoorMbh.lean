/-
  The contract of oid.appendNumber: the digits of a number in base 128 are added to the bytes that the caller has.
  The contract of oid.Encode: the contents of the object identifier that the text is, if it is one.
-/
import Derived.Test.YtfpfgdbfigdooaaDoorMaq
import Derived.Test.YtfpfgdbfigdooaaDoorMab
namespace Go.Proofs.YtfpfgdbfigdooaaDoor
open Go.RowKit

theorem blen_pos {x : Nat} (h0 : x ≠ 0) (h : x < 18446744073709551616) : 1 ≤ Lib.bitLen x := by
  rw [Lib.bitLen_half x h0 h]; omega
theorem blen_iff {x k : Nat} (h : x < 18446744073709551616) (hk : k ≤ 64) : Lib.bitLen x ≤ k ↔ x < 2 ^ k := by
  constructor
  · intro hl
    rcases Nat.lt_or_ge x (2 ^ k) with h1 | h1
    · exact h1
    · exfalso
      rw [Lib.bitLen_shift k x h1 h] at hl
      have hp : 0 < 2 ^ k := Nat.two_pow_pos k
      have h2 : 1 ≤ x / 2 ^ k := (Nat.one_le_div_iff hp).2 h1
      have h3 : x / 2 ^ k ≤ x := Nat.div_le_self _ _
      have := blen_pos (x := x / 2 ^ k) (by omega) (by omega)
      omega
  · exact Lib.bitLen_le x k hk
/-- How many digits in base 128 stand before the last one. -/
def ahead7 (n : Nat) : Nat := (Lib.bitLen n - 1) / 7
theorem ahead7_lt (n : Nat) (h : n < 34359738368) : n / 128 ^ (ahead7 n + 1) = 0 := by
  have e : (128 : Nat) ^ (ahead7 n + 1) = 2 ^ (7 * (ahead7 n + 1)) := by rw [Nat.pow_mul]
  rw [e]
  refine Nat.div_eq_of_lt ?_
  have hle : Lib.bitLen n ≤ 7 * (ahead7 n + 1) := by unfold ahead7; omega
  have h35 : Lib.bitLen n ≤ 35 := (blen_iff (by omega) (by omega)).2 (by omega)
  exact (blen_iff (by omega) (by unfold ahead7; omega)).1 hle
theorem ahead7_pos (n j : Nat) (h : n < 34359738368) (h1 : 1 ≤ j) (h2 : j ≤ ahead7 n) : n / 128 ^ j ≠ 0 := by
  have e : (128 : Nat) ^ j = 2 ^ (7 * j) := by rw [Nat.pow_mul]
  rw [e]
  intro h0
  have hp : 0 < 2 ^ (7 * j) := Nat.two_pow_pos _
  have hlt : n < 2 ^ (7 * j) := (Nat.div_eq_zero_iff_lt hp).1 h0
  have h35 : Lib.bitLen n ≤ 35 := (blen_iff (by omega) (by omega)).2 (by omega)
  unfold ahead7 at h2
  have := (blen_iff (k := 7 * j) (by omega) (by omega)).2 hlt
  omega
theorem ahead7_le (n : Nat) (h : n < 34359738368) : ahead7 n ≤ 4 := by
  have h35 : Lib.bitLen n ≤ 35 := (blen_iff (by omega) (by omega)).2 (by omega)
  unfold ahead7; omega
theorem or_128 : ∀ x : Nat, x < 256 → bits BinOp.or .u8 ((x : Nat) : Int) 128 = (((UInt8.ofNat (128 + x % 128)).toNat : Nat) : Int) := by decide +kernel
theorem andNot_128 : ∀ x : Nat, x < 256 → bits BinOp.andNot .u8 ((x : Nat) : Int) 128 = (((UInt8.ofNat (x % 128)).toNat : Nat) : Int) := by decide +kernel

theorem hd7_len_mono : ∀ (k a b : Nat), a ≤ b → b < 128 ^ k → (hd7 a).length ≤ (hd7 b).length
  | 0, a, b, h, hk => by
    simp at hk
    obtain rfl : a = 0 := by omega
    rw [hd7_zero]; simp
  | k + 1, a, b, h, hk => by
    by_cases ha : a = 0
    · rw [ha, hd7_zero]; simp
    · rw [hd7_pos ha, hd7_pos (show b ≠ 0 by omega)]
      have := hd7_len_mono k (a / 128) (b / 128) (by omega) (by rw [Nat.pow_succ] at hk; omega)
      simp; exact this
theorem hd7_len_le (b m : Nat) : (hd7 (b / m)).length ≤ (hd7 b).length :=
  hd7_len_mono b (b / m) b (Nat.div_le_self _ _) (Nat.lt_pow_self (by omega))
theorem app_round {w wr w2 : World} {v v' : Value} {D : List UInt8} {y : UInt8} {X : Obj} {B n : Nat} (hn : n = (D ++ [y]).length) (hown : OwnB 5 wr B v D) (hb : Below B w wr) (hsz : w.heap.size ≤ wr.heap.size) (hB : B ≤ w.heap.size)
    (hown2 : w2.ownsRow B 5 1 v' n (D.map bcell ++ [bcell y])) (hgr2 : (wr.alloc X).grownBy w2 v.ownBlock) : OwnB 5 w2 B v' (D ++ [y]) ∧ Below B w w2 ∧ w.heap.size ≤ w2.heap.size := by
  have hb2 : Below B w w2 := (Below.alloc hb (by omega) X).grown hgr2 (by simp; omega) (fun k e => (World.ownsRow.lt hown k e).1)
  refine ⟨?_, hb2, hb2.size⟩
  unfold OwnB
  rw [List.map_append, ← hn]; exact hown2

end Go.Proofs.YtfpfgdbfigdooaaDoor
namespace Go.Proofs.YtfpfgdbfigdooaaDoor
open Go.RowKit

def encVal (a : List Nat) : Value := .tuple #[.string (strOf (enc a)), .int .i64 0]
def noVal : Value := .tuple #[.string ⟨#[]⟩, .int .i64 11]

theorem ILie.tail {w : World} {g : Nat} {x y : Nat} {r : List Nat} (h : ILie w g (x :: y :: r)) (k : Nat) (hk : k < r.length) : w.cell? ⟨g, 2 + k, none⟩ = some (.int .i64 ((r.getD k 0 : Nat) : Int)) := by
  have := h.2 (2 + k) (by simp; omega)
  rw [this]
  have e : (x :: y :: r).getD (2 + k) 0 = r.getD k 0 := by
    rw [show 2 + k = (k + 1) + 1 by omega]; simp
  rw [e]
theorem e128_len5 {a : List Nat} (h : ∀ v ∈ a, v < 34359738368) : (cat e128 a).length ≤ 5 * a.length := by
  induction a with
  | nil => simp [cat]
  | cons v a ih =>
    have h1 := e128_len v (h v (by simp))
    have h2 := ih (fun x hx => h x (by simp [hx]))
    simp only [cat, List.length_append, List.length_cons]; omega

end Go.Proofs.YtfpfgdbfigdooaaDoor
