/-
  The contract of the reference's Integer.
-/
import Derived.Test.YtkamoenjbllhjaaPint
namespace Go.Proofs.Ytkamoenjbllhjaa
open Go.RowKit

theorem or_u64 (x : Int) (b : Nat) (hb : b < 256) : bits BinOp.or .u64 (IntKind.u64.wrap (x % 18446744073709551616 * 256)) (b : Int) = (256 * x + (b : Int)) % 18446744073709551616 := by
  show IntKind.u64.wrap ((BitVec.ofInt 64 (IntKind.u64.wrap (x % 18446744073709551616 * 256)) ||| BitVec.ofInt 64 (b : Int)).toNat : Int) = _
  have e : BitVec.ofInt 64 (IntKind.u64.wrap (x % 18446744073709551616 * 256)) = BitVec.ofInt 64 (x * 256) := by
    apply BitVec.eq_of_toNat_eq
    rw [BitVec.toNat_ofInt, BitVec.toNat_ofInt, wrap_u64]
    show (x % 18446744073709551616 * 256 % 18446744073709551616 % (18446744073709551616 : Nat)).toNat = (x * 256 % (18446744073709551616 : Nat)).toNat
    omega
  rw [e, or_any64 x b hb, wrap_u64]
  omega

set_option maxRecDepth 100000 in
set_option maxHeartbeats 2000000 in
/-- Behind the tests: the loop. -/
theorem rint_test (c : ByteArray) (w : World) (h0 : c.size = 1 ∨ 2 ≤ c.size) (hs : spare c = true) :
    Calls Try.prog 15 #[.string c] w fun e w' => e = .returned (.tuple #[.int .i64 0, .int .i64 7]) ∧ w' = w := by
  have h2 : 2 ≤ c.size := by
    rcases h0 with h0 | h0
    · rw [spare_short (by omega)] at hs; cases hs
    · exact h0
  obtain ⟨x0, x1⟩ := index2 c h2
  obtain ⟨x, hx⟩ : ∃ x, u8at c 0 = x := ⟨_, rfl⟩
  obtain ⟨y, hy⟩ : ∃ y, u8at c 1 = y := ⟨_, rfl⟩
  rw [spare_long h2 hx hy] at hs
  rw [hx] at x0
  rw [hy] at x1
  have e0 : ((c.size : Int) == 0) = false := beq_eq_false_iff_ne.2 (by omega)
  have e1 : decide ((1 : Int) < (c.size : Int)) = true := by simp; omega
  clear h0 h2 hx hy
  by_cases h : x = 0
  · subst h
    have hy : y < 128 := by simpa using hs
    have d : decide ((y : Int) < 128) = true := by simp; omega
    clear hs hy
    go_enter Try.func15, Try.ntmps15
    go_wp2_with fail
    go_ret2
    exact ⟨rfl, rfl⟩
  · have hx : x = 255 := by simp [h] at hs; omega
    subst hx
    have hy : 128 ≤ y := by simpa using hs
    have d : decide ((128 : Int) ≤ (y : Int)) = true := by simp; omega
    clear hs hy h
    go_enter Try.func15, Try.ntmps15
    go_wp2_with fail
    go_ret2
    exact ⟨rfl, rfl⟩

theorem spare_no {c : ByteArray} (h2 : 2 ≤ c.size) {x y : Nat} (hx : u8at c 0 = x) (hy : u8at c 1 = y) (h : spare c = false) :
    (x = 0 ∧ 128 ≤ y) ∨ (x = 255 ∧ y < 128) ∨ (x ≠ 0 ∧ x ≠ 255 ∧ 128 ≤ x) ∨ (x ≠ 0 ∧ x ≠ 255 ∧ x < 128) := by
  rw [spare_long h2 hx hy] at h
  simp at h
  omega
/-- The six ways past the first test, each with what the walk asks. -/
theorem rint_ways {c : ByteArray} (h0 : c.size ≠ 0) (h : spare c = false) :
    (c.size = 1 ∧ 128 ≤ u8at c 0) ∨ (c.size = 1 ∧ u8at c 0 < 128) ∨ (2 ≤ c.size ∧ u8at c 0 = 0 ∧ 128 ≤ u8at c 1) ∨ (2 ≤ c.size ∧ u8at c 0 = 255 ∧ u8at c 1 < 128) ∨
      (2 ≤ c.size ∧ u8at c 0 ≠ 0 ∧ u8at c 0 ≠ 255 ∧ 128 ≤ u8at c 0) ∨ (2 ≤ c.size ∧ u8at c 0 ≠ 0 ∧ u8at c 0 ≠ 255 ∧ u8at c 0 < 128) := by
  by_cases h2 : 2 ≤ c.size
  · rcases spare_no h2 rfl rfl h with h | h | h | h
    · exact .inr (.inr (.inl ⟨h2, h⟩))
    · exact .inr (.inr (.inr (.inl ⟨h2, h⟩)))
    · exact .inr (.inr (.inr (.inr (.inl ⟨h2, h⟩))))
    · exact .inr (.inr (.inr (.inr (.inr ⟨h2, h⟩))))
  · omega

set_option maxRecDepth 100000 in
set_option maxHeartbeats 4000000 in
theorem rint_long (c : ByteArray) (w : World) (hs : spare c = false) (h8 : 8 < c.size) :
    Calls Try.prog 15 #[.string c] w fun e w' => e = .returned (.tuple #[.int .i64 0, .int .i64 1]) ∧ w' = w := by
  obtain ⟨x0, x1⟩ := index2 c (by omega)
  have hw := spare_no (by omega) rfl rfl hs
  generalize u8at c 0 = x at x0 hw
  generalize u8at c 1 = y at x1 hw
  have e0 : ((c.size : Int) == 0) = false := beq_eq_false_iff_ne.2 (by omega)
  have e1 : decide ((1 : Int) < (c.size : Int)) = true := by simp; omega
  have e2 : decide ((8 : Int) < (c.size : Int)) = true := by simp; omega
  clear hs h8
  have hf : (x = 0 ∧ decide ((y : Int) < 128) = false) ∨ (x = 255 ∧ decide ((128 : Int) ≤ (y : Int)) = false) ∨ (((x : Int) == 0) = false ∧ ((x : Int) == 255) = false) := by
    rcases hw with h | h | h | h
    · exact .inl ⟨h.1, by simp; omega⟩
    · exact .inr (.inl ⟨h.1, by simp; omega⟩)
    · exact .inr (.inr ⟨beq_eq_false_iff_ne.2 (by omega), beq_eq_false_iff_ne.2 (by omega)⟩)
    · exact .inr (.inr ⟨beq_eq_false_iff_ne.2 (by omega), beq_eq_false_iff_ne.2 (by omega)⟩)
  clear hw
  rcases hf with ⟨rfl, d1⟩ | ⟨rfl, d1⟩ | ⟨d1, d2⟩
  all_goals
    go_enter Try.func15, Try.ntmps15
    go_wp2_with fail
    go_ret2
    exact ⟨rfl, rfl⟩

set_option maxRecDepth 100000 in
set_option maxHeartbeats 8000000 in
theorem rint_good (c : ByteArray) (w : World) (h0 : c.size ≠ 0) (hs : spare c = false) (h8 : ¬ 8 < c.size) :
    Calls Try.prog 15 #[.string c] w fun e w' => e = .returned (.tuple #[.int .i64 (tc c c.size), .int .i64 0]) ∧ w' = w := by
  have hw := rint_ways h0 hs
  have x0 := fun w => run_index_u8 (P := Try.prog) Try.underlying9 c 0 (by omega) (0 : Int) rfl w
  have x1 : 2 ≤ c.size → ∀ w, (Instr.index 9 (.string c) (.int .i64 1)).run Try.prog w = .ok (.int .u8 ((u8at c 1 : Nat) : Int)) w := fun h => (index2 c h).2
  have hsg : sgn c = if 128 ≤ u8at c 0 then -1 else 0 := rfl
  have hend : IntKind.i64.wrap (tc c c.size % 18446744073709551616) = tc c c.size := by
    obtain ⟨k, hk⟩ : ∃ k, c.size = k + 1 := ⟨c.size - 1, by omega⟩
    have := tc_bound c k
    rw [wrap_i64, hk]
    rcases (by omega : k = 0 ∨ k = 1 ∨ k = 2 ∨ k = 3 ∨ k = 4 ∨ k = 5 ∨ k = 6 ∨ k = 7) with rfl | rfl | rfl | rfl | rfl | rfl | rfl | rfl <;> simp at this ⊢ <;> omega
  have HE := Lib.hid hend
  generalize u8at c 0 = x at x0 hw hsg
  generalize u8at c 1 = y at x1 hw
  have e0 : ((c.size : Int) == 0) = false := beq_eq_false_iff_ne.2 (by omega)
  have e2 : decide ((8 : Int) < (c.size : Int)) = false := by simp; omega
  have hs8 : c.size ≤ 8 := by omega
  clear h8 hs h0 HE
  rcases hw with ⟨h1, h2⟩ | ⟨h1, h2⟩ | ⟨h1, rfl, h2⟩ | ⟨h1, rfl, h2⟩ | ⟨h1, h2, h3, h4⟩ | ⟨h1, h2, h3, h4⟩
  · have d1 : decide ((1 : Int) < (c.size : Int)) = false := by simp; omega
    have d2 : decide ((128 : Int) ≤ (x : Int)) = true := by simp; omega
    rw [if_pos h2] at hsg
    have HSG := Lib.hid hsg
    clear hsg h1 h2 x1
    go_enter Try.func15, Try.ntmps15
    go_wp2_with fail
    go_loopw [4, 5] (fun v i wr => ∃ k : Nat, k ≤ c.size ∧ i = .int .i64 (k : Int) ∧ v = .int .u64 (tc c k % 18446744073709551616) ∧ wr = w) (fun _ i _ => c.size - (intOf i).toNat)
    case atStart => exact ⟨0, by omega, rfl, by rw [tc, HSG.out]; rfl, rfl⟩
    case round =>
      obtain ⟨k, hk, rfl, rfl, rfl⟩ := hrel
      by_cases hlt : k < c.size
      · have hd : decide ((k : Int) < (c.size : Int)) = true := by simp; omega
        have xk := fun w => run_index_u8 (P := Try.prog) Try.underlying9 c k hlt (k : Int) rfl w
        have hyl := u8at_lt c k
        have HT := Lib.hid (show tc c (k + 1) = 256 * tc c k + ((u8at c k : Nat) : Int) from rfl)
        generalize ey : u8at c k = z at xk hyl HT
        generalize ex : tc c k = t at HT
        have HO := Lib.hid (or_u64 t z hyl)
        obtain ⟨U, hU⟩ : ∃ U, U = t % 18446744073709551616 := ⟨_, rfl⟩
        rw [← hU] at HO ⊢
        clear ey ex hU
        go_wp2_with fail
        go_roundw
        case rel => exact ⟨k + 1, by omega, by go_num, by rw [HT.out, HO.out], trivial⟩
        case measure => simp [intOf]; omega
      · have ek : k = c.size := by omega
        subst ek
        have hd : decide ((c.size : Int) < (c.size : Int)) = false := by simp
        go_wp2_with fail
        go_ret2
        exact ⟨rfl, rfl⟩
  · have d1 : decide ((1 : Int) < (c.size : Int)) = false := by simp; omega
    have d2 : decide ((128 : Int) ≤ (x : Int)) = false := by simp; omega
    rw [if_neg (by omega)] at hsg
    have HSG := Lib.hid hsg
    clear hsg h1 h2 x1
    go_enter Try.func15, Try.ntmps15
    go_wp2_with fail
    go_loopw [4, 5] (fun v i wr => ∃ k : Nat, k ≤ c.size ∧ i = .int .i64 (k : Int) ∧ v = .int .u64 (tc c k % 18446744073709551616) ∧ wr = w) (fun _ i _ => c.size - (intOf i).toNat)
    case atStart => exact ⟨0, by omega, rfl, by rw [tc, HSG.out]; rfl, rfl⟩
    case round =>
      obtain ⟨k, hk, rfl, rfl, rfl⟩ := hrel
      by_cases hlt : k < c.size
      · have hd : decide ((k : Int) < (c.size : Int)) = true := by simp; omega
        have xk := fun w => run_index_u8 (P := Try.prog) Try.underlying9 c k hlt (k : Int) rfl w
        have hyl := u8at_lt c k
        have HT := Lib.hid (show tc c (k + 1) = 256 * tc c k + ((u8at c k : Nat) : Int) from rfl)
        generalize ey : u8at c k = z at xk hyl HT
        generalize ex : tc c k = t at HT
        have HO := Lib.hid (or_u64 t z hyl)
        obtain ⟨U, hU⟩ : ∃ U, U = t % 18446744073709551616 := ⟨_, rfl⟩
        rw [← hU] at HO ⊢
        clear ey ex hU
        go_wp2_with fail
        go_roundw
        case rel => exact ⟨k + 1, by omega, by go_num, by rw [HT.out, HO.out], trivial⟩
        case measure => simp [intOf]; omega
      · have ek : k = c.size := by omega
        subst ek
        have hd : decide ((c.size : Int) < (c.size : Int)) = false := by simp
        go_wp2_with fail
        go_ret2
        exact ⟨rfl, rfl⟩
  · have d1 : decide ((1 : Int) < (c.size : Int)) = true := by simp; omega
    have d2 : decide ((y : Int) < 128) = false := by simp; omega
    rw [if_neg (by omega)] at hsg
    have HSG := Lib.hid hsg
    have x2 := x1 h1
    clear hsg h1 h2 x1
    go_enter Try.func15, Try.ntmps15
    go_wp2_with fail
    go_loopw [4, 5] (fun v i wr => ∃ k : Nat, k ≤ c.size ∧ i = .int .i64 (k : Int) ∧ v = .int .u64 (tc c k % 18446744073709551616) ∧ wr = w) (fun _ i _ => c.size - (intOf i).toNat)
    case atStart => exact ⟨0, by omega, rfl, by rw [tc, HSG.out]; rfl, rfl⟩
    case round =>
      obtain ⟨k, hk, rfl, rfl, rfl⟩ := hrel
      by_cases hlt : k < c.size
      · have hd : decide ((k : Int) < (c.size : Int)) = true := by simp; omega
        have xk := fun w => run_index_u8 (P := Try.prog) Try.underlying9 c k hlt (k : Int) rfl w
        have hyl := u8at_lt c k
        have HT := Lib.hid (show tc c (k + 1) = 256 * tc c k + ((u8at c k : Nat) : Int) from rfl)
        generalize ey : u8at c k = z at xk hyl HT
        generalize ex : tc c k = t at HT
        have HO := Lib.hid (or_u64 t z hyl)
        obtain ⟨U, hU⟩ : ∃ U, U = t % 18446744073709551616 := ⟨_, rfl⟩
        rw [← hU] at HO ⊢
        clear ey ex hU
        go_wp2_with fail
        go_roundw
        case rel => exact ⟨k + 1, by omega, by go_num, by rw [HT.out, HO.out], trivial⟩
        case measure => simp [intOf]; omega
      · have ek : k = c.size := by omega
        subst ek
        have hd : decide ((c.size : Int) < (c.size : Int)) = false := by simp
        go_wp2_with fail
        go_ret2
        exact ⟨rfl, rfl⟩
  · have d1 : decide ((1 : Int) < (c.size : Int)) = true := by simp; omega
    have d2 : decide ((128 : Int) ≤ (y : Int)) = false := by simp; omega
    rw [if_pos (by omega)] at hsg
    have HSG := Lib.hid hsg
    have x2 := x1 h1
    clear hsg h1 h2 x1
    go_enter Try.func15, Try.ntmps15
    go_wp2_with fail
    go_loopw [4, 5] (fun v i wr => ∃ k : Nat, k ≤ c.size ∧ i = .int .i64 (k : Int) ∧ v = .int .u64 (tc c k % 18446744073709551616) ∧ wr = w) (fun _ i _ => c.size - (intOf i).toNat)
    case atStart => exact ⟨0, by omega, rfl, by rw [tc, HSG.out]; rfl, rfl⟩
    case round =>
      obtain ⟨k, hk, rfl, rfl, rfl⟩ := hrel
      by_cases hlt : k < c.size
      · have hd : decide ((k : Int) < (c.size : Int)) = true := by simp; omega
        have xk := fun w => run_index_u8 (P := Try.prog) Try.underlying9 c k hlt (k : Int) rfl w
        have hyl := u8at_lt c k
        have HT := Lib.hid (show tc c (k + 1) = 256 * tc c k + ((u8at c k : Nat) : Int) from rfl)
        generalize ey : u8at c k = z at xk hyl HT
        generalize ex : tc c k = t at HT
        have HO := Lib.hid (or_u64 t z hyl)
        obtain ⟨U, hU⟩ : ∃ U, U = t % 18446744073709551616 := ⟨_, rfl⟩
        rw [← hU] at HO ⊢
        clear ey ex hU
        go_wp2_with fail
        go_roundw
        case rel => exact ⟨k + 1, by omega, by go_num, by rw [HT.out, HO.out], trivial⟩
        case measure => simp [intOf]; omega
      · have ek : k = c.size := by omega
        subst ek
        have hd : decide ((c.size : Int) < (c.size : Int)) = false := by simp
        go_wp2_with fail
        go_ret2
        exact ⟨rfl, rfl⟩
  · have d1 : decide ((1 : Int) < (c.size : Int)) = true := by simp; omega
    have d2 : decide ((128 : Int) ≤ (x : Int)) = true := by simp; omega
    have d3 : ((x : Int) == 0) = false := beq_eq_false_iff_ne.2 (by omega)
    have d4 : ((x : Int) == 255) = false := beq_eq_false_iff_ne.2 (by omega)
    rw [if_pos (by omega)] at hsg
    have HSG := Lib.hid hsg
    clear hsg h1 h2 h3 h4 x1
    go_enter Try.func15, Try.ntmps15
    go_wp2_with fail
    go_loopw [4, 5] (fun v i wr => ∃ k : Nat, k ≤ c.size ∧ i = .int .i64 (k : Int) ∧ v = .int .u64 (tc c k % 18446744073709551616) ∧ wr = w) (fun _ i _ => c.size - (intOf i).toNat)
    case atStart => exact ⟨0, by omega, rfl, by rw [tc, HSG.out]; rfl, rfl⟩
    case round =>
      obtain ⟨k, hk, rfl, rfl, rfl⟩ := hrel
      by_cases hlt : k < c.size
      · have hd : decide ((k : Int) < (c.size : Int)) = true := by simp; omega
        have xk := fun w => run_index_u8 (P := Try.prog) Try.underlying9 c k hlt (k : Int) rfl w
        have hyl := u8at_lt c k
        have HT := Lib.hid (show tc c (k + 1) = 256 * tc c k + ((u8at c k : Nat) : Int) from rfl)
        generalize ey : u8at c k = z at xk hyl HT
        generalize ex : tc c k = t at HT
        have HO := Lib.hid (or_u64 t z hyl)
        obtain ⟨U, hU⟩ : ∃ U, U = t % 18446744073709551616 := ⟨_, rfl⟩
        rw [← hU] at HO ⊢
        clear ey ex hU
        go_wp2_with fail
        go_roundw
        case rel => exact ⟨k + 1, by omega, by go_num, by rw [HT.out, HO.out], trivial⟩
        case measure => simp [intOf]; omega
      · have ek : k = c.size := by omega
        subst ek
        have hd : decide ((c.size : Int) < (c.size : Int)) = false := by simp
        go_wp2_with fail
        go_ret2
        exact ⟨rfl, rfl⟩
  · have d1 : decide ((1 : Int) < (c.size : Int)) = true := by simp; omega
    have d2 : decide ((128 : Int) ≤ (x : Int)) = false := by simp; omega
    have d3 : ((x : Int) == 0) = false := beq_eq_false_iff_ne.2 (by omega)
    have d4 : ((x : Int) == 255) = false := beq_eq_false_iff_ne.2 (by omega)
    rw [if_neg (by omega)] at hsg
    have HSG := Lib.hid hsg
    clear hsg h1 h2 h3 h4 x1
    go_enter Try.func15, Try.ntmps15
    go_wp2_with fail
    go_loopw [4, 5] (fun v i wr => ∃ k : Nat, k ≤ c.size ∧ i = .int .i64 (k : Int) ∧ v = .int .u64 (tc c k % 18446744073709551616) ∧ wr = w) (fun _ i _ => c.size - (intOf i).toNat)
    case atStart => exact ⟨0, by omega, rfl, by rw [tc, HSG.out]; rfl, rfl⟩
    case round =>
      obtain ⟨k, hk, rfl, rfl, rfl⟩ := hrel
      by_cases hlt : k < c.size
      · have hd : decide ((k : Int) < (c.size : Int)) = true := by simp; omega
        have xk := fun w => run_index_u8 (P := Try.prog) Try.underlying9 c k hlt (k : Int) rfl w
        have hyl := u8at_lt c k
        have HT := Lib.hid (show tc c (k + 1) = 256 * tc c k + ((u8at c k : Nat) : Int) from rfl)
        generalize ey : u8at c k = z at xk hyl HT
        generalize ex : tc c k = t at HT
        have HO := Lib.hid (or_u64 t z hyl)
        obtain ⟨U, hU⟩ : ∃ U, U = t % 18446744073709551616 := ⟨_, rfl⟩
        rw [← hU] at HO ⊢
        clear ey ex hU
        go_wp2_with fail
        go_roundw
        case rel => exact ⟨k + 1, by omega, by go_num, by rw [HT.out, HO.out], trivial⟩
        case measure => simp [intOf]; omega
      · have ek : k = c.size := by omega
        subst ek
        have hd : decide ((c.size : Int) < (c.size : Int)) = false := by simp
        go_wp2_with fail
        go_ret2
        exact ⟨rfl, rfl⟩

theorem rint_any (c : ByteArray) (w : World) :
    Calls Try.prog 15 #[.string c] w fun e w' => e = .returned (intVal c) ∧ w' = w := by
  by_cases h0 : c.size = 0
  · obtain rfl := empty_of_size h0
    rw [int_empty]
    clear h0
    go_enter Try.func15, Try.ntmps15
    go_wp2_with fail
    go_ret2
    exact ⟨rfl, rfl⟩
  · obtain ⟨S, hS⟩ : ∃ S, S = spare c := ⟨_, rfl⟩
    cases S with
    | true => rw [int_spare hS.symm]; exact rint_test c w (by omega) hS.symm
    | false =>
      by_cases h8 : 8 < c.size
      · rw [int_long h0 hS.symm h8]; exact rint_long c w hS.symm h8
      · rw [int_good h0 hS.symm h8]; exact rint_good c w h0 hS.symm h8
end Go.Proofs.Ytkamoenjbllhjaa
