/-
  The contract of Integer of prim.
-/
import Derived.Test.YtkamoenjbllhjaaPspare
namespace Go.Proofs.Ytkamoenjbllhjaa
open Go.RowKit

theorem or_shift (m : Nat) (x b : Nat) (hb : b < 256) : 256 * x % 2 ^ (m + 8) ||| b = (256 * x + b) % 2 ^ (m + 8) := by
  have e : 256 * x % 2 ^ (m + 8) = 256 * (x % 2 ^ m) := by rw [Nat.pow_add, Nat.mul_comm (2 ^ m)]; exact Nat.mul_mod_mul_left 256 x (2 ^ m)
  have h : 256 * (x % 2 ^ m) ||| b = 256 * (x % 2 ^ m) + b := (Nat.two_pow_add_eq_or_of_lt (i := 8) hb _).symm
  have e2 : (256 * x + b) % 2 ^ (m + 8) = 256 * (x % 2 ^ m) + b := by
    rw [Nat.pow_add, Nat.mul_comm (2 ^ m), Nat.mod_mul, show (256 * x + b) % 2 ^ 8 = b by omega, show (256 * x + b) / 2 ^ 8 = x by omega]
    omega
  rw [e, h, e2]
theorem wrap_i64 (n : Int) : IntKind.i64.wrap n = (n + 9223372036854775808) % 18446744073709551616 - 9223372036854775808 := by
  simp [IntKind.wrap, IntKind.bits, IntKind.signed]
  split <;> omega
theorem wrap_u64 (n : Int) : IntKind.u64.wrap n = n % 18446744073709551616 := by
  simp [IntKind.wrap, IntKind.bits, IntKind.signed]
theorem or_any64 (x : Int) (b : Nat) (hb : b < 256) : ((BitVec.ofInt 64 (x * 256) ||| BitVec.ofInt 64 (b : Int)).toNat : Int) = (256 * x + b) % 18446744073709551616 := by
  rw [BitVec.toNat_or, BitVec.toNat_ofInt, BitVec.toNat_ofInt]
  obtain ⟨n, hn⟩ : ∃ n : Nat, (n : Int) = x % 72057594037927936 := ⟨(x % 72057594037927936).toNat, by omega⟩
  have e1 : (x * 256 % (2 ^ 64 : Nat)).toNat = 256 * n % 2 ^ (56 + 8) := by
    show (x * 256 % (18446744073709551616 : Nat)).toNat = 256 * n % 18446744073709551616
    omega
  have e2 : ((b : Int) % (2 ^ 64 : Nat)).toNat = b := by
    show ((b : Int) % (18446744073709551616 : Nat)).toNat = b
    omega
  rw [e1, e2, or_shift 56 n b hb]
  show (((256 * n + b) % 18446744073709551616 : Nat) : Int) = _
  omega
theorem or_i64 (x : Int) (b : Nat) (h0 : -36028797018963968 ≤ x) (h1 : x < 36028797018963968) (hb : b < 256) : bits BinOp.or .i64 (x * 256) (b : Int) = 256 * x + (b : Int) := by
  show IntKind.i64.wrap ((BitVec.ofInt 64 (x * 256) ||| BitVec.ofInt 64 (b : Int)).toNat : Int) = _
  rw [or_any64 x b hb, wrap_i64]
  omega

theorem int_empty : intVal ⟨#[]⟩ = .tuple #[.int .i64 0, .int .i64 7] := by
  have e : intErr ⟨#[]⟩ = 7 := by unfold intErr; exact if_pos (Or.inl rfl)
  unfold intVal
  rw [e]; rfl
theorem int_spare {c : ByteArray} (h : spare c = true) : intVal c = .tuple #[.int .i64 0, .int .i64 7] := by
  have e : intErr c = 7 := by unfold intErr; rw [if_pos (Or.inr h)]
  unfold intVal
  rw [e]; rfl
theorem int_long {c : ByteArray} (h0 : c.size ≠ 0) (h1 : spare c = false) (h : 8 < c.size) : intVal c = .tuple #[.int .i64 0, .int .i64 1] := by
  have e : intErr c = 1 := by unfold intErr; rw [if_neg (fun e => e.elim h0 fun e => by rw [h1] at e; cases e), if_pos h]
  unfold intVal
  rw [e]; rfl
theorem int_good {c : ByteArray} (h0 : c.size ≠ 0) (h1 : spare c = false) (h : ¬ 8 < c.size) : intVal c = .tuple #[.int .i64 (tc c c.size), .int .i64 0] := by
  have e : intErr c = 0 := by unfold intErr; rw [if_neg (fun e => e.elim h0 fun e => by rw [h1] at e; cases e), if_neg h]
  unfold intVal
  rw [e]; rfl

set_option maxRecDepth 100000 in
set_option maxHeartbeats 1000000 in
theorem int_any (c : ByteArray) (w : World) :
    Calls Try.prog 14 #[.string c] w fun e w' => e = .returned (intVal c) ∧ w' = w := by
  by_cases h0 : c.size = 0
  · obtain rfl := empty_of_size h0
    rw [int_empty]
    clear h0
    go_enter Try.func14, Try.ntmps14
    go_wp2_with fail
    go_ret2
    exact ⟨rfl, rfl⟩
  · have he := nonempty_list h0
    obtain ⟨S, hS⟩ : ∃ S, S = spare c := ⟨_, rfl⟩
    have HS := Lib.hid hS
    cases S with
    | true =>
      rw [int_spare hS.symm]
      clear h0 hS
      go_enter Try.func14, Try.ntmps14
      go_wp2_with (go_at_call 26; (with_reducible refine (spare_any _ _).mono ?_); rw [← HS.out]; rintro e w1 ⟨rfl, rfl⟩)
      go_ret2
      exact ⟨rfl, rfl⟩
    | false =>
      by_cases h8 : 8 < c.size
      · rw [int_long h0 hS.symm h8]
        have d : decide ((8 : Int) < (c.size : Int)) = true := by simp; omega
        clear h0 hS h8
        go_enter Try.func14, Try.ntmps14
        go_wp2_with (go_at_call 26; (with_reducible refine (spare_any _ _).mono ?_); rw [← HS.out]; rintro e w1 ⟨rfl, rfl⟩)
        go_ret2
        exact ⟨rfl, rfl⟩
      · rw [int_good h0 hS.symm h8]
        have d : decide ((8 : Int) < (c.size : Int)) = false := by simp; omega
        have x0 := fun w => run_index_u8 (P := Try.prog) Try.underlying9 c 0 (by omega) (0 : Int) rfl w
        obtain ⟨x, hx⟩ : ∃ x, u8at c 0 = x := ⟨_, rfl⟩
        rw [hx] at x0
        clear hS
        by_cases hxs : 128 ≤ x
        · have d1 : decide ((128 : Int) ≤ (x : Int)) = true := by simp; omega
          have HSG := Lib.hid (show sgn c = -1 by rw [sgn, hx, if_pos hxs])
          clear hxs hx
          go_enter Try.func14, Try.ntmps14
          go_wp2_with (go_at_call 26; (with_reducible refine (spare_any _ _).mono ?_); rw [← HS.out]; rintro e w1 ⟨rfl, rfl⟩)
          go_loopw [4, 20] (fun v i wr => ∃ k : Nat, k ≤ c.size ∧ i = .int .i64 (k : Int) ∧ v = .int .i64 (tc c k) ∧ wr = w1) (fun _ i _ => c.size - (intOf i).toNat)
          case atStart => exact ⟨0, by omega, rfl, by rw [tc, HSG.out], rfl⟩
          case round =>
            obtain ⟨k, hk, rfl, rfl, rfl⟩ := hrel
            by_cases hlt : k < c.size
            · have hd : decide ((k : Int) < (c.size : Int)) = true := by simp; omega
              have xk := fun w => run_index_u8 (P := Try.prog) Try.underlying9 c k hlt (k : Int) rfl w
              have hyl := u8at_lt c k
              obtain ⟨hv1, hv2⟩ := tc_room c k (by omega)
              have HT := Lib.hid (show tc c (k + 1) = 256 * tc c k + ((u8at c k : Nat) : Int) from rfl)
              generalize ey : u8at c k = y at xk hyl HT
              generalize ex : tc c k = t at hv1 hv2 HT
              have HO := Lib.hid (or_i64 t y hv1 hv2 hyl)
              clear ey ex
              go_wp2_with fail
              go_roundw
              case rel =>
                refine ⟨k + 1, by omega, by go_num, ?_, trivial⟩
                rw [HT.out, HO.out]
              case measure => simp [intOf]; omega
            · have ek : k = c.size := by omega
              subst ek
              have hd : decide ((c.size : Int) < (c.size : Int)) = false := by simp
              go_wp2_with fail
              go_ret2
              exact ⟨rfl, rfl⟩
        · have d1 : decide ((128 : Int) ≤ (x : Int)) = false := by simp; omega
          have HSG := Lib.hid (show sgn c = 0 by rw [sgn, hx, if_neg hxs])
          clear hxs hx
          go_enter Try.func14, Try.ntmps14
          go_wp2_with (go_at_call 26; (with_reducible refine (spare_any _ _).mono ?_); rw [← HS.out]; rintro e w1 ⟨rfl, rfl⟩)
          go_loopw [4, 20] (fun v i wr => ∃ k : Nat, k ≤ c.size ∧ i = .int .i64 (k : Int) ∧ v = .int .i64 (tc c k) ∧ wr = w1) (fun _ i _ => c.size - (intOf i).toNat)
          case atStart => exact ⟨0, by omega, rfl, by rw [tc, HSG.out], rfl⟩
          case round =>
            obtain ⟨k, hk, rfl, rfl, rfl⟩ := hrel
            by_cases hlt : k < c.size
            · have hd : decide ((k : Int) < (c.size : Int)) = true := by simp; omega
              have xk := fun w => run_index_u8 (P := Try.prog) Try.underlying9 c k hlt (k : Int) rfl w
              have hyl := u8at_lt c k
              obtain ⟨hv1, hv2⟩ := tc_room c k (by omega)
              have HT := Lib.hid (show tc c (k + 1) = 256 * tc c k + ((u8at c k : Nat) : Int) from rfl)
              generalize ey : u8at c k = y at xk hyl HT
              generalize ex : tc c k = t at hv1 hv2 HT
              have HO := Lib.hid (or_i64 t y hv1 hv2 hyl)
              clear ey ex
              go_wp2_with fail
              go_roundw
              case rel =>
                refine ⟨k + 1, by omega, by go_num, ?_, trivial⟩
                rw [HT.out, HO.out]
              case measure => simp [intOf]; omega
            · have ek : k = c.size := by omega
              subst ek
              have hd : decide ((c.size : Int) < (c.size : Int)) = false := by simp
              go_wp2_with fail
              go_ret2
              exact ⟨rfl, rfl⟩
end Go.Proofs.Ytkamoenjbllhjaa
