/-
  The walk of the law DateText: for all numbers of its parameters' types and every string it returns true, and leaves all that was there as it was.
-/
import Derived.Test.YtkgdkaopbnodpaaDoorDseclaw
namespace Go.Proofs.YtkgdkaopbnodpaaDoor
open Go.RowKit

/-- Parse and the reference's ParseTime answer the same. -/
theorem both_par (s : ByteArray) : ∃ a b : Int, (∀ w, Mon w → Calls Tryd.prog 22 #[.string s] w fun E w' => E = .returned (.tuple #[.int .i64 a, .int .i64 b]) ∧ Below w.heap.size w w') ∧
    (∀ w, Calls Tryd.prog 23 #[.string s] w fun E w' => E = .returned (.tuple #[.int .i64 a, .int .i64 b]) ∧ Below w.heap.size w w') := by
  by_cases h : ∃ x, Ok x ∧ s.data.toList = txtT x
  · obtain ⟨x, hx, e⟩ := h
    obtain rfl := strOf_of e
    exact ⟨_, _, fun w hT => par_yes hx w hT, fun w => rpar_yes hx w⟩
  · have h2 : ∀ x, Ok x → s.data.toList ≠ txtT x := fun x hx e => h ⟨x, hx, e⟩
    exact ⟨_, _, fun w hT => par_no h2 w hT, fun w => rpar_no h2 w⟩

/-- A string's byte at a number of 8 bits. -/
theorem run_index_8 {P : Program} {t : TypeId} (ht : P.underlying t = some .string) (b : ByteArray) (j : Nat) (h : j < b.size) (w : World) :
    (Instr.index t (.string b) (.int .u8 (j : Int))).run P w = .ok (.int .u8 ((u8at b j : Nat) : Int)) w := by
  rw [u8at_get b j h, run_index_string w t b .u8 (j : Int) ht, dif_pos (by omega)]
  simp
set_option maxRecDepth 100000 in
set_option maxHeartbeats 4000000 in
theorem txtlaw (t : Int) (k : Nat) (d : Int) (s : ByteArray) (at' c : Nat) (w : World) (hT : Mon w) (ht : I64 t) (hk : k < 65536) (hd : -128 ≤ d ∧ d ≤ 127) (hat : at' < 256) (hc : c < 256) :
    Calls Tryd.prog 7 #[.int .i64 t, .int .u16 (k : Int), .int .i8 d, .string s, .int .u8 (at' : Int), .int .u8 (c : Int)] w fun E w' => E = .returned (.bool true) ∧ Below w.heap.size w w' := by
  by_cases h60 : 60 < s.size
  · have e0 : decide (60 < (s.size : Int)) = true := decide_eq_true (by omega)
    have HA := Lib.hid (awake_any w hT)
    clear h60 hT
    go_enter Tryd.func7, Tryd.ntmps7
    go_wp2_with (go_at_call 13; (with_reducible refine HA.out.mono ?_); rintro E w1 ⟨rfl, hb1⟩; have HB1 := Lib.hid hb1; clear hb1)
    go_ret
    exact ⟨rfl, HB1.out⟩
  · have e0 : decide (60 < (s.size : Int)) = false := decide_eq_false (by omega)
    have HN := Lib.hid (fun w => near_any t k d w ht hk hd)
    have HT := Lib.hid hT
    have HS60 := Lib.hid h60
    clear h60 hT ht hk hd
    go_enter Tryd.func7, Tryd.ntmps7
    go_upto_region 4 with (go_at_call 9; (with_reducible refine (HN.out _).mono ?_); rintro E w1 ⟨x, hx, rfl, hb1⟩; have HB1 := Lib.hid hb1; have HT1 := Lib.hid (HT.out.old hb1); clear hb1 hx)
    rcases time_or x with ⟨z, hz, rfl⟩ | hx
    · have HC := Lib.hid (fun w hT => fmt_yes hz w hT)
      have HR := Lib.hid (fun w => rfmt_yes hz w)
      have HP := Lib.hid (fun w hT => par_yes hz w hT)
      have hsz : (strOf (txtT z)).size = 19 := by rw [strOf_size, txtT_len]
      generalize strOf (txtT z) = B at HC HR HP hsz
      generalize secs z = T at HC HR HP ⊢
      have g1 : (B.toList != B.toList) = false := by simp
      obtain ⟨r, hr, hri⟩ := rem_nat at' 19 (by omega)
      obtain ⟨m, hm, hmi⟩ := rem_nat c 13 (by omega)
      simp only [Int.cast_ofNat_Int] at hri hmi
      have hi := fun w => run_index_8 (P := Tryd.prog) Tryd.underlying9 ⟨#[48, 49, 50, 51, 52, 53, 54, 55, 56, 57, 45, 58, 32]⟩ m (by show m < 13; exact hm) w
      obtain ⟨y, hy⟩ : ∃ y : UInt8, u8at ⟨#[48, 49, 50, 51, 52, 53, 54, 55, 56, 57, 45, 58, 32]⟩ m = y.toNat := ⟨_, rfl⟩
      rw [hy] at hi
      have hyb := y.toNat_lt
      clear hz hy
      go_upto_region 11 with (first
        | (go_at_call 20; (with_reducible refine (HC.out _ HT1.out).mono ?_); rintro E w2 ⟨rfl, hb2⟩; have HB2 := Lib.hid (below_next HB1.out hb2); have HT2 := Lib.hid (HT1.out.old hb2); clear hb2)
        | (go_at_call 21; (with_reducible refine (HR.out _).mono ?_); rintro E w3 ⟨rfl, hb3⟩; have HB3 := Lib.hid (below_next HB2.out hb3); have HT3 := Lib.hid (HT2.out.old hb3); clear hb3))
      rw [hri]
      have hmt : (c : Int).tmod 13 = (m : Int) := by rw [Int.tmod_eq_emod_of_nonneg (by omega)]; exact hmi
      have hs1 : ∀ w, (Instr.slice 9 (.string B) none (some (.int .i64 (r : Int))) none).run Tryd.prog w = .ok (.string (B.extract 0 r)) w := fun w => by
        have := run_slice_string_to_if (P := Tryd.prog) w 9 B .i64 (r : Int) Tryd.underlying9
        rw [this, if_pos ⟨by omega, by omega⟩]
        congr 3
      have hs2 : ∀ w, (Instr.slice 9 (.string B) (some (.int .i64 ((r : Int) + 1))) none none).run Tryd.prog w = .ok (.string (B.extract (r + 1) B.size)) w := fun w => by
        have := run_slice_string_from_if (P := Tryd.prog) w 9 B .i64 ((r : Int) + 1) Tryd.underlying9
        rw [this, if_pos ⟨by omega, by omega⟩]
        congr 3
      have q1 : (B.extract 0 r).size = r := by rw [ByteArray.size_extract]; omega
      have q2 : (B.extract (r + 1) B.size).size = 19 - (r + 1) := by rw [ByteArray.size_extract]; omega
      have q3 : (B.extract 0 r ++ strOf [y]).size = r + 1 := by rw [ByteArray.size_append, q1]; rfl
      have q4 : (strOf [y]).size = 1 := rfl
      generalize B.extract 0 r = P1 at hs1 q1 q3
      generalize B.extract (r + 1) B.size = P2 at hs2 q2
      have hv1 := str_dig y
      have hv2 := str_dig_drew y
      have ha1 : ∀ w, (Op.stringOp .add P1 (strOf [y])).run Tryd.prog w = .ok (.string (P1 ++ strOf [y])) w := fun w => run_string_add_sum w _ _ (by omega)
      have ha2 : ∀ w, (Op.stringOp .add (P1 ++ strOf [y]) P2).run Tryd.prog w = .ok (.string (P1 ++ strOf [y] ++ P2)) w := fun w => run_string_add_sum w _ _ (by omega)
      generalize P1 ++ strOf [y] ++ P2 = D at ha2
      generalize P1 ++ strOf [y] = P3 at ha1 ha2 q3
      clear hri
      go_region
      have HB4 := Lib.hid (show Below w.heap.size w (w3.alloc (.cells #[.int .u8 ((y.toNat : Nat) : Int)] 5)).drew from (below_next HB3.out (belowNew _ _)).drew)
      have HT4 := Lib.hid (HT.out.old HB4.out)
      clear hi hs1 hs2 hv1 hv2 ha1 ha2 q1 q2 q3 q4 hmt hmi hm
      go_upto_region 16 with (go_at_call 22; (with_reducible refine (HP.out _ HT4.out).mono ?_); rintro E w5 ⟨rfl, hb5⟩; have HB5 := Lib.hid (below_next HB4.out hb5); clear hb5)
      have HRW := Lib.hid (show ∀ k, k < 2 → (w5.alloc (.cells #[.string s, .string D] 9)).cell? ⟨w5.heap.size, k, none⟩ = some (.string ([s, D].getD k ⟨#[]⟩)) from fun k hk => row_strs w5 [s, D] k hk)
      have HBA := Lib.hid (below_next HB5.out (belowNew w5 (.cells #[.string s, .string D] 9)))
      have HLT := Lib.hid (show w5.heap.size < (w5.alloc (.cells #[.string s, .string D] 9)).heap.size by simp)
      generalize w5.alloc (.cells #[.string s, .string D] 9) = W at HRW HBA HLT ⊢
      go_loopw [92] (fun i wr => ∃ k : Nat, k ≤ 2 ∧ i = .int .i64 (k : Int) ∧ Below W.heap.size W wr) (fun i _ => 2 - (intOf i).toNat)
      case atStart => exact ⟨0, by omega, rfl, Below.refl _ _⟩
      case round =>
        obtain ⟨j, hj, rfl, hb⟩ := hrel
        have HB := Lib.hid hb
        have HTR := Lib.hid (HT.out.old (HBA.out.trans (hb.mono HBA.out.size)))
        by_cases hlt : j < 2
        · have e1 : decide ((j : Int) < 2) = true := decide_eq_true (by omega)
          have e2 : decide (j < 2) = true := decide_eq_true hlt
          have hc := (hb.cell (p := ⟨w5.heap.size, j, none⟩) HLT.out).trans (HRW.out j hlt)
          generalize [s, D].getD j ⟨#[]⟩ = v at hc
          obtain ⟨a, b, hp1, hp2⟩ := both_par v
          have HP1 := Lib.hid hp1
          have HP2 := Lib.hid hp2
          clear hb hp1 hp2
          go_wp2_with (first
            | (go_at_call 22; (with_reducible refine (HP1.out _ HTR.out).mono ?_); rintro E w6 ⟨rfl, hb6⟩; have HB6 := Lib.hid (below_next HB.out hb6); clear hb6)
            | (go_at_call 23; (with_reducible refine (HP2.out _).mono ?_); rintro E w7 ⟨rfl, hb7⟩; have HB7 := Lib.hid (below_next HB6.out hb7); clear hb7))
          go_roundw
          case rel => exact ⟨j + 1, by omega, by go_num, HB7.out⟩
          case measure => simp [intOf]; omega
        · obtain rfl : j = 2 := by omega
          have e1 : decide (((2 : Nat) : Int) < 2) = false := by decide
          clear hb
          go_wp2_with (go_at_call 13; (with_reducible refine (awake_any _ HTR.out).mono ?_); rintro E w8 ⟨rfl, hb8⟩; have HB8 := Lib.hid (below_next HB.out hb8); clear hb8)
          go_ret
          exact ⟨rfl, HBA.out.trans (HB8.out.mono HBA.out.size)⟩
    · have HC := Lib.hid (fun w => fmt_no hx w)
      have HR := Lib.hid (fun w => rfmt_no hx w)
      clear hx
      go_upto_region 16 with (first
        | (go_at_call 20; (with_reducible refine (HC.out _).mono ?_); rintro E w2 ⟨rfl, hb2⟩; have HB2 := Lib.hid (below_next HB1.out hb2); clear hb2)
        | (go_at_call 21; (with_reducible refine (HR.out _).mono ?_); rintro E w3 ⟨rfl, hb3⟩; have HB3 := Lib.hid (below_next HB2.out hb3); clear hb3))
      have HRW := Lib.hid (show ∀ k, k < 2 → (w3.alloc (.cells #[.string s, .string s] 9)).cell? ⟨w3.heap.size, k, none⟩ = some (.string ([s, s].getD k ⟨#[]⟩)) from fun k hk => row_strs w3 [s, s] k hk)
      have HBA := Lib.hid (below_next HB3.out (belowNew w3 (.cells #[.string s, .string s] 9)))
      have HLT := Lib.hid (show w3.heap.size < (w3.alloc (.cells #[.string s, .string s] 9)).heap.size by simp)
      generalize w3.alloc (.cells #[.string s, .string s] 9) = W at HRW HBA HLT ⊢
      go_loopw [92] (fun i wr => ∃ k : Nat, k ≤ 2 ∧ i = .int .i64 (k : Int) ∧ Below W.heap.size W wr) (fun i _ => 2 - (intOf i).toNat)
      case atStart => exact ⟨0, by omega, rfl, Below.refl _ _⟩
      case round =>
        obtain ⟨j, hj, rfl, hb⟩ := hrel
        have HB := Lib.hid hb
        have HTR := Lib.hid (HT.out.old (HBA.out.trans (hb.mono HBA.out.size)))
        by_cases hlt : j < 2
        · have e1 : decide ((j : Int) < 2) = true := decide_eq_true (by omega)
          have e2 : decide (j < 2) = true := decide_eq_true hlt
          have hc := (hb.cell (p := ⟨w3.heap.size, j, none⟩) HLT.out).trans (HRW.out j hlt)
          generalize [s, s].getD j ⟨#[]⟩ = v at hc
          obtain ⟨a, b, hp1, hp2⟩ := both_par v
          have HP1 := Lib.hid hp1
          have HP2 := Lib.hid hp2
          clear hb hp1 hp2
          go_wp2_with (first
            | (go_at_call 22; (with_reducible refine (HP1.out _ HTR.out).mono ?_); rintro E w6 ⟨rfl, hb6⟩; have HB6 := Lib.hid (below_next HB.out hb6); clear hb6)
            | (go_at_call 23; (with_reducible refine (HP2.out _).mono ?_); rintro E w7 ⟨rfl, hb7⟩; have HB7 := Lib.hid (below_next HB6.out hb7); clear hb7))
          go_roundw
          case rel => exact ⟨j + 1, by omega, by go_num, HB7.out⟩
          case measure => simp [intOf]; omega
        · obtain rfl : j = 2 := by omega
          have e1 : decide (((2 : Nat) : Int) < 2) = false := by decide
          clear hb
          go_wp2_with (go_at_call 13; (with_reducible refine (awake_any _ HTR.out).mono ?_); rintro E w8 ⟨rfl, hb8⟩; have HB8 := Lib.hid (below_next HB.out hb8); clear hb8)
          go_ret
          exact ⟨rfl, HBA.out.trans (HB8.out.mono HBA.out.size)⟩
end Go.Proofs.YtkgdkaopbnodpaaDoor
