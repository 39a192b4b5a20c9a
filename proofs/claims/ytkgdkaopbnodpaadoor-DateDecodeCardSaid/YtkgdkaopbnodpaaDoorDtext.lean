/-
  The contract of the law's function text: some text.
-/
import Derived.Test.YtkgdkaopbnodpaaDoorDrone
import Derived.Test.YtkgdkaopbnodpaaDoorDtxtlaw
namespace Go.Proofs.YtkgdkaopbnodpaaDoor
open Go.RowKit

set_option maxRecDepth 100000 in
set_option maxHeartbeats 4000000 in
theorem text_none {t : Int} (ht : t < 0 ∨ 254033452799 < t) (tag : Int) (at' c how : Nat) (w : World) (_hat : at' < 256) (_hc : c < 256) (hh : how < 256) :
    Calls Tryd.prog 15 #[.int .i64 t, .int .i64 tag, .int .u8 (at' : Int), .int .u8 (c : Int), .int .u8 (how : Int)] w fun E w' => ∃ X, E = .returned (.string X) ∧ Below w.heap.size w w' := by
  have HR := Lib.hid (fun w => renc_no ht w)
  clear ht
  rcases Classical.em (tag = 24) with h24 | h24
  · subst h24
    rcases Classical.em (how % 3 = 0) with h3 | h3
    · have e3 : ((how : Int) % 3 == 0) = true := beq_iff_eq.2 (by omega)
      clear h3
      go_enter Tryd.func15, Tryd.ntmps15
      go_wp2_with (first
        | (go_at_call 19; (with_reducible refine (HR.out _).mono ?_); rintro E w1 ⟨rfl, hb1⟩; have HB1 := Lib.hid hb1; clear hb1)
        | (go_at_call 30; (with_reducible refine (rone_nil _).mono ?_); rintro E w2 ⟨rfl, hb2⟩; have HB2 := Lib.hid (below_next (below_next HB1.out hb2) (belowNew w2 (.cells #[.int .i64 0, .string ⟨#[]⟩, .string ⟨#[]⟩] 51))); clear hb2))
      go_ret
      exact ⟨_, rfl, HB2.out⟩
    · have e3 : ((how : Int) % 3 == 0) = false := beq_eq_false_iff_ne.2 (by omega)
      clear h3
      go_enter Tryd.func15, Tryd.ntmps15
      go_wp2_with (first
        | (go_at_call 19; (with_reducible refine (HR.out _).mono ?_); rintro E w1 ⟨rfl, hb1⟩; have HB1 := Lib.hid hb1; clear hb1)
        | (go_at_call 30; (with_reducible refine (rone_nil _).mono ?_); rintro E w2 ⟨rfl, hb2⟩; have HB2 := Lib.hid (below_next (below_next HB1.out hb2) (belowNew w2 (.cells #[.int .i64 0, .string ⟨#[]⟩, .string ⟨#[]⟩] 51))); clear hb2))
      go_ret
      exact ⟨_, rfl, HB2.out⟩
  · have e24 : (tag == 24) = false := beq_eq_false_iff_ne.2 h24
    clear h24
    rcases Classical.em (how % 3 = 0) with h3 | h3
    · have e3 : ((how : Int) % 3 == 0) = true := beq_iff_eq.2 (by omega)
      clear h3
      go_enter Tryd.func15, Tryd.ntmps15
      go_wp2_with (first
        | (go_at_call 19; (with_reducible refine (HR.out _).mono ?_); rintro E w1 ⟨rfl, hb1⟩; have HB1 := Lib.hid hb1; clear hb1)
        | (go_at_call 30; (with_reducible refine (rone_nil _).mono ?_); rintro E w2 ⟨rfl, hb2⟩; have HB2 := Lib.hid (below_next (below_next HB1.out hb2) (belowNew w2 (.cells #[.int .i64 0, .string ⟨#[]⟩, .string ⟨#[]⟩] 51))); clear hb2))
      go_ret
      exact ⟨_, rfl, HB2.out⟩
    · have e3 : ((how : Int) % 3 == 0) = false := beq_eq_false_iff_ne.2 (by omega)
      clear h3
      go_enter Tryd.func15, Tryd.ntmps15
      go_wp2_with (first
        | (go_at_call 19; (with_reducible refine (HR.out _).mono ?_); rintro E w1 ⟨rfl, hb1⟩; have HB1 := Lib.hid hb1; clear hb1)
        | (go_at_call 30; (with_reducible refine (rone_nil _).mono ?_); rintro E w2 ⟨rfl, hb2⟩; have HB2 := Lib.hid (below_next (below_next HB1.out hb2) (belowNew w2 (.cells #[.int .i64 0, .string ⟨#[]⟩, .string ⟨#[]⟩] 51))); clear hb2))
      go_ret
      exact ⟨_, rfl, HB2.out⟩

set_option maxRecDepth 100000 in
set_option maxHeartbeats 8000000 in
theorem text_some {z : Dt} (hz : Ok z) (tag : Int) (at' c how : Nat) (w : World) (hat : at' < 256) (hc : c < 256) (hh : how < 256) :
    Calls Tryd.prog 15 #[.int .i64 ((secs z : Nat) : Int), .int .i64 tag, .int .u8 (at' : Int), .int .u8 (c : Int), .int .u8 (how : Int)] w fun E w' => ∃ X, E = .returned (.string X) ∧ Below w.heap.size w w' := by
  have HR := Lib.hid (fun w => renc_yes hz w)
  obtain ⟨C, R, tg, htg, hC, hO⟩ := rone_time hz
  have HO := Lib.hid hO
  generalize strOf (encT z) = A at HR HO
  generalize secs z = T at HR ⊢
  obtain ⟨m, hm, hmi⟩ := rem_nat c 12 (by omega)
  simp only [Int.cast_ofNat_Int] at hmi
  have hmt : (c : Int).tmod 12 = (m : Int) := by rw [Int.tmod_eq_emod_of_nonneg (by omega)]; exact hmi
  have hi := fun w => run_index_8 (P := Tryd.prog) Tryd.underlying9 ⟨#[48, 49, 50, 51, 52, 53, 54, 55, 56, 57, 90, 45]⟩ m (by show m < 12; exact hm) w
  obtain ⟨y, hy⟩ : ∃ y : UInt8, u8at ⟨#[48, 49, 50, 51, 52, 53, 54, 55, 56, 57, 90, 45]⟩ m = y.toNat := ⟨_, rfl⟩
  rw [hy] at hi
  have hyb := y.toNat_lt
  have hv1 := str_dig y
  have hv2 := str_dig_drew y
  have q4 : (strOf [y]).size = 1 := rfl
  clear hz hO hy
  rcases hC with hC | hC
  · rcases Classical.em (tag = 24) with h24 | h24
    · subst h24
      have hadd : ∀ w, (Op.stringOp .add ⟨#[49, 57]⟩ C).run Tryd.prog w = .ok (.string (⟨#[49, 57]⟩ ++ C)) w := fun w => run_string_add_sum w _ _ (by show 2 + _ ≤ _; omega)
      have hS : (⟨#[49, 57]⟩ ++ C : ByteArray).size = 15 := by rw [ByteArray.size_append]; show 2 + _ = _; omega
      generalize (⟨#[49, 57]⟩ ++ C : ByteArray) = S at hadd hS
      go_enter Tryd.func15, Tryd.ntmps15
      rcases Classical.em (how % 3 = 0) with h3 | h3
      · have e3 : ((how : Int) % 3 == 0) = true := beq_iff_eq.2 (by omega)
        obtain ⟨r, hr, hri⟩ := rem_nat at' 15 (by omega)
        simp only [Int.cast_ofNat_Int] at hri
        clear h3
        have hs1 : ∀ w, (Instr.slice 9 (.string S) none (some (.int .i64 (r : Int))) none).run Tryd.prog w = .ok (.string (S.extract 0 r)) w := fun w => by
          have := run_slice_string_to_if (P := Tryd.prog) w 9 S .i64 (r : Int) Tryd.underlying9
          rw [this, if_pos ⟨by omega, by omega⟩]
          congr 3
        have hs2 : ∀ w, (Instr.slice 9 (.string S) (some (.int .i64 ((r : Int) + 1))) none none).run Tryd.prog w = .ok (.string (S.extract (r + 1) S.size)) w := fun w => by
          have := run_slice_string_from_if (P := Tryd.prog) w 9 S .i64 ((r : Int) + 1) Tryd.underlying9
          rw [this, if_pos ⟨by omega, by omega⟩]
          congr 3
        have q1 : (S.extract 0 r).size = r := by rw [ByteArray.size_extract]; omega
        have q2 : (S.extract (r + 1) S.size).size = 15 - (r + 1) := by rw [ByteArray.size_extract]; omega
        have q3 : (S.extract 0 r ++ strOf [y]).size = r + 1 := by rw [ByteArray.size_append, q1]; rfl
        generalize S.extract 0 r = P1 at hs1 q1 q3
        generalize S.extract (r + 1) S.size = P2 at hs2 q2
        have ha1 : ∀ w, (Op.stringOp .add P1 (strOf [y])).run Tryd.prog w = .ok (.string (P1 ++ strOf [y])) w := fun w => run_string_add_sum w _ _ (by omega)
        have ha2 : ∀ w, (Op.stringOp .add (P1 ++ strOf [y]) P2).run Tryd.prog w = .ok (.string (P1 ++ strOf [y] ++ P2)) w := fun w => run_string_add_sum w _ _ (by omega)
        generalize P1 ++ strOf [y] ++ P2 = D at ha2
        generalize P1 ++ strOf [y] = P3 at ha1 ha2 q3
        go_upto_region 8 with (first
          | fail
          | (go_at_call 19; (with_reducible refine (HR.out _).mono ?_); rintro E w1 ⟨rfl, hb1⟩; have HB1 := Lib.hid hb1; clear hb1)
          | (go_at_call 30; (with_reducible refine (HO.out _).mono ?_); rintro E w2 ⟨rfl, hb2⟩; have HB2 := Lib.hid (below_next (below_next HB1.out hb2) (belowNew w2 (.cells #[.int .i64 (tg : Int), .string C, .string R] 51))); clear hb2))
        try rw [hri]
        generalize w2.alloc (.cells #[.int .i64 (tg : Int), .string C, .string R] 51) = W2 at HB2 ⊢
        go_region
        have HB4 := Lib.hid (show Below w.heap.size w (W2.alloc (.cells #[.int .u8 ((y.toNat : Nat) : Int)] 5)).drew from (below_next HB2.out (belowNew _ _)).drew)
        go_wp2_with fail
        go_ret
        exact ⟨_, rfl, HB4.out⟩
      · have e3 : ((how : Int) % 3 == 0) = false := beq_eq_false_iff_ne.2 (by omega)
        clear h3
        go_wp2_with (first
          | fail
          | (go_at_call 19; (with_reducible refine (HR.out _).mono ?_); rintro E w1 ⟨rfl, hb1⟩; have HB1 := Lib.hid hb1; clear hb1)
          | (go_at_call 30; (with_reducible refine (HO.out _).mono ?_); rintro E w2 ⟨rfl, hb2⟩; have HB2 := Lib.hid (below_next (below_next HB1.out hb2) (belowNew w2 (.cells #[.int .i64 (tg : Int), .string C, .string R] 51))); clear hb2))
        go_ret
        exact ⟨_, rfl, HB2.out⟩
    · have e24 : (tag == 24) = false := beq_eq_false_iff_ne.2 h24
      clear h24
      go_enter Tryd.func15, Tryd.ntmps15
      rcases Classical.em (how % 3 = 0) with h3 | h3
      · have e3 : ((how : Int) % 3 == 0) = true := beq_iff_eq.2 (by omega)
        obtain ⟨r, hr, hri⟩ := rem_nat at' 13 (by omega)
        simp only [Int.cast_ofNat_Int] at hri
        clear h3
        have hs1 : ∀ w, (Instr.slice 9 (.string C) none (some (.int .i64 (r : Int))) none).run Tryd.prog w = .ok (.string (C.extract 0 r)) w := fun w => by
          have := run_slice_string_to_if (P := Tryd.prog) w 9 C .i64 (r : Int) Tryd.underlying9
          rw [this, if_pos ⟨by omega, by omega⟩]
          congr 3
        have hs2 : ∀ w, (Instr.slice 9 (.string C) (some (.int .i64 ((r : Int) + 1))) none none).run Tryd.prog w = .ok (.string (C.extract (r + 1) C.size)) w := fun w => by
          have := run_slice_string_from_if (P := Tryd.prog) w 9 C .i64 ((r : Int) + 1) Tryd.underlying9
          rw [this, if_pos ⟨by omega, by omega⟩]
          congr 3
        have q1 : (C.extract 0 r).size = r := by rw [ByteArray.size_extract]; omega
        have q2 : (C.extract (r + 1) C.size).size = 13 - (r + 1) := by rw [ByteArray.size_extract]; omega
        have q3 : (C.extract 0 r ++ strOf [y]).size = r + 1 := by rw [ByteArray.size_append, q1]; rfl
        generalize C.extract 0 r = P1 at hs1 q1 q3
        generalize C.extract (r + 1) C.size = P2 at hs2 q2
        have ha1 : ∀ w, (Op.stringOp .add P1 (strOf [y])).run Tryd.prog w = .ok (.string (P1 ++ strOf [y])) w := fun w => run_string_add_sum w _ _ (by omega)
        have ha2 : ∀ w, (Op.stringOp .add (P1 ++ strOf [y]) P2).run Tryd.prog w = .ok (.string (P1 ++ strOf [y] ++ P2)) w := fun w => run_string_add_sum w _ _ (by omega)
        generalize P1 ++ strOf [y] ++ P2 = D at ha2
        generalize P1 ++ strOf [y] = P3 at ha1 ha2 q3
        go_upto_region 8 with (first
          | fail
          | (go_at_call 19; (with_reducible refine (HR.out _).mono ?_); rintro E w1 ⟨rfl, hb1⟩; have HB1 := Lib.hid hb1; clear hb1)
          | (go_at_call 30; (with_reducible refine (HO.out _).mono ?_); rintro E w2 ⟨rfl, hb2⟩; have HB2 := Lib.hid (below_next (below_next HB1.out hb2) (belowNew w2 (.cells #[.int .i64 (tg : Int), .string C, .string R] 51))); clear hb2))
        try rw [hri]
        generalize w2.alloc (.cells #[.int .i64 (tg : Int), .string C, .string R] 51) = W2 at HB2 ⊢
        go_region
        have HB4 := Lib.hid (show Below w.heap.size w (W2.alloc (.cells #[.int .u8 ((y.toNat : Nat) : Int)] 5)).drew from (below_next HB2.out (belowNew _ _)).drew)
        go_wp2_with fail
        go_ret
        exact ⟨_, rfl, HB4.out⟩
      · have e3 : ((how : Int) % 3 == 0) = false := beq_eq_false_iff_ne.2 (by omega)
        clear h3
        go_wp2_with (first
          | fail
          | (go_at_call 19; (with_reducible refine (HR.out _).mono ?_); rintro E w1 ⟨rfl, hb1⟩; have HB1 := Lib.hid hb1; clear hb1)
          | (go_at_call 30; (with_reducible refine (HO.out _).mono ?_); rintro E w2 ⟨rfl, hb2⟩; have HB2 := Lib.hid (below_next (below_next HB1.out hb2) (belowNew w2 (.cells #[.int .i64 (tg : Int), .string C, .string R] 51))); clear hb2))
        go_ret
        exact ⟨_, rfl, HB2.out⟩
  · rcases Classical.em (tag = 24) with h24 | h24
    · subst h24
      go_enter Tryd.func15, Tryd.ntmps15
      rcases Classical.em (how % 3 = 0) with h3 | h3
      · have e3 : ((how : Int) % 3 == 0) = true := beq_iff_eq.2 (by omega)
        obtain ⟨r, hr, hri⟩ := rem_nat at' 15 (by omega)
        simp only [Int.cast_ofNat_Int] at hri
        clear h3
        have hs1 : ∀ w, (Instr.slice 9 (.string C) none (some (.int .i64 (r : Int))) none).run Tryd.prog w = .ok (.string (C.extract 0 r)) w := fun w => by
          have := run_slice_string_to_if (P := Tryd.prog) w 9 C .i64 (r : Int) Tryd.underlying9
          rw [this, if_pos ⟨by omega, by omega⟩]
          congr 3
        have hs2 : ∀ w, (Instr.slice 9 (.string C) (some (.int .i64 ((r : Int) + 1))) none none).run Tryd.prog w = .ok (.string (C.extract (r + 1) C.size)) w := fun w => by
          have := run_slice_string_from_if (P := Tryd.prog) w 9 C .i64 ((r : Int) + 1) Tryd.underlying9
          rw [this, if_pos ⟨by omega, by omega⟩]
          congr 3
        have q1 : (C.extract 0 r).size = r := by rw [ByteArray.size_extract]; omega
        have q2 : (C.extract (r + 1) C.size).size = 15 - (r + 1) := by rw [ByteArray.size_extract]; omega
        have q3 : (C.extract 0 r ++ strOf [y]).size = r + 1 := by rw [ByteArray.size_append, q1]; rfl
        generalize C.extract 0 r = P1 at hs1 q1 q3
        generalize C.extract (r + 1) C.size = P2 at hs2 q2
        have ha1 : ∀ w, (Op.stringOp .add P1 (strOf [y])).run Tryd.prog w = .ok (.string (P1 ++ strOf [y])) w := fun w => run_string_add_sum w _ _ (by omega)
        have ha2 : ∀ w, (Op.stringOp .add (P1 ++ strOf [y]) P2).run Tryd.prog w = .ok (.string (P1 ++ strOf [y] ++ P2)) w := fun w => run_string_add_sum w _ _ (by omega)
        generalize P1 ++ strOf [y] ++ P2 = D at ha2
        generalize P1 ++ strOf [y] = P3 at ha1 ha2 q3
        go_upto_region 8 with (first
          | fail
          | (go_at_call 19; (with_reducible refine (HR.out _).mono ?_); rintro E w1 ⟨rfl, hb1⟩; have HB1 := Lib.hid hb1; clear hb1)
          | (go_at_call 30; (with_reducible refine (HO.out _).mono ?_); rintro E w2 ⟨rfl, hb2⟩; have HB2 := Lib.hid (below_next (below_next HB1.out hb2) (belowNew w2 (.cells #[.int .i64 (tg : Int), .string C, .string R] 51))); clear hb2))
        try rw [hri]
        generalize w2.alloc (.cells #[.int .i64 (tg : Int), .string C, .string R] 51) = W2 at HB2 ⊢
        go_region
        have HB4 := Lib.hid (show Below w.heap.size w (W2.alloc (.cells #[.int .u8 ((y.toNat : Nat) : Int)] 5)).drew from (below_next HB2.out (belowNew _ _)).drew)
        go_wp2_with fail
        go_ret
        exact ⟨_, rfl, HB4.out⟩
      · have e3 : ((how : Int) % 3 == 0) = false := beq_eq_false_iff_ne.2 (by omega)
        clear h3
        go_wp2_with (first
          | fail
          | (go_at_call 19; (with_reducible refine (HR.out _).mono ?_); rintro E w1 ⟨rfl, hb1⟩; have HB1 := Lib.hid hb1; clear hb1)
          | (go_at_call 30; (with_reducible refine (HO.out _).mono ?_); rintro E w2 ⟨rfl, hb2⟩; have HB2 := Lib.hid (below_next (below_next HB1.out hb2) (belowNew w2 (.cells #[.int .i64 (tg : Int), .string C, .string R] 51))); clear hb2))
        go_ret
        exact ⟨_, rfl, HB2.out⟩
    · have e24 : (tag == 24) = false := beq_eq_false_iff_ne.2 h24
      clear h24
      go_enter Tryd.func15, Tryd.ntmps15
      rcases Classical.em (how % 3 = 0) with h3 | h3
      · have e3 : ((how : Int) % 3 == 0) = true := beq_iff_eq.2 (by omega)
        obtain ⟨r, hr, hri⟩ := rem_nat at' 15 (by omega)
        simp only [Int.cast_ofNat_Int] at hri
        clear h3
        have hs1 : ∀ w, (Instr.slice 9 (.string C) none (some (.int .i64 (r : Int))) none).run Tryd.prog w = .ok (.string (C.extract 0 r)) w := fun w => by
          have := run_slice_string_to_if (P := Tryd.prog) w 9 C .i64 (r : Int) Tryd.underlying9
          rw [this, if_pos ⟨by omega, by omega⟩]
          congr 3
        have hs2 : ∀ w, (Instr.slice 9 (.string C) (some (.int .i64 ((r : Int) + 1))) none none).run Tryd.prog w = .ok (.string (C.extract (r + 1) C.size)) w := fun w => by
          have := run_slice_string_from_if (P := Tryd.prog) w 9 C .i64 ((r : Int) + 1) Tryd.underlying9
          rw [this, if_pos ⟨by omega, by omega⟩]
          congr 3
        have q1 : (C.extract 0 r).size = r := by rw [ByteArray.size_extract]; omega
        have q2 : (C.extract (r + 1) C.size).size = 15 - (r + 1) := by rw [ByteArray.size_extract]; omega
        have q3 : (C.extract 0 r ++ strOf [y]).size = r + 1 := by rw [ByteArray.size_append, q1]; rfl
        generalize C.extract 0 r = P1 at hs1 q1 q3
        generalize C.extract (r + 1) C.size = P2 at hs2 q2
        have ha1 : ∀ w, (Op.stringOp .add P1 (strOf [y])).run Tryd.prog w = .ok (.string (P1 ++ strOf [y])) w := fun w => run_string_add_sum w _ _ (by omega)
        have ha2 : ∀ w, (Op.stringOp .add (P1 ++ strOf [y]) P2).run Tryd.prog w = .ok (.string (P1 ++ strOf [y] ++ P2)) w := fun w => run_string_add_sum w _ _ (by omega)
        generalize P1 ++ strOf [y] ++ P2 = D at ha2
        generalize P1 ++ strOf [y] = P3 at ha1 ha2 q3
        go_upto_region 8 with (first
          | fail
          | (go_at_call 19; (with_reducible refine (HR.out _).mono ?_); rintro E w1 ⟨rfl, hb1⟩; have HB1 := Lib.hid hb1; clear hb1)
          | (go_at_call 30; (with_reducible refine (HO.out _).mono ?_); rintro E w2 ⟨rfl, hb2⟩; have HB2 := Lib.hid (below_next (below_next HB1.out hb2) (belowNew w2 (.cells #[.int .i64 (tg : Int), .string C, .string R] 51))); clear hb2))
        try rw [hri]
        generalize w2.alloc (.cells #[.int .i64 (tg : Int), .string C, .string R] 51) = W2 at HB2 ⊢
        go_region
        have HB4 := Lib.hid (show Below w.heap.size w (W2.alloc (.cells #[.int .u8 ((y.toNat : Nat) : Int)] 5)).drew from (below_next HB2.out (belowNew _ _)).drew)
        go_wp2_with fail
        go_ret
        exact ⟨_, rfl, HB4.out⟩
      · have e3 : ((how : Int) % 3 == 0) = false := beq_eq_false_iff_ne.2 (by omega)
        clear h3
        go_wp2_with (first
          | fail
          | (go_at_call 19; (with_reducible refine (HR.out _).mono ?_); rintro E w1 ⟨rfl, hb1⟩; have HB1 := Lib.hid hb1; clear hb1)
          | (go_at_call 30; (with_reducible refine (HO.out _).mono ?_); rintro E w2 ⟨rfl, hb2⟩; have HB2 := Lib.hid (below_next (below_next HB1.out hb2) (belowNew w2 (.cells #[.int .i64 (tg : Int), .string C, .string R] 51))); clear hb2))
        go_ret
        exact ⟨_, rfl, HB2.out⟩
theorem text_any {t : Int} (tag : Int) (at' c how : Nat) (w : World) (hat : at' < 256) (hc : c < 256) (hh : how < 256) :
    Calls Tryd.prog 15 #[.int .i64 t, .int .i64 tag, .int .u8 (at' : Int), .int .u8 (c : Int), .int .u8 (how : Int)] w fun E w' => ∃ X, E = .returned (.string X) ∧ Below w.heap.size w w' := by
  rcases time_or t with ⟨z, hz, rfl⟩ | ht
  · exact text_some hz tag at' c how w hat hc hh
  · exact text_none ht tag at' c how w hat hc hh
end Go.Proofs.YtkgdkaopbnodpaaDoor
