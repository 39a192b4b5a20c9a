/-
  The contract of the reference's Dec: the decimal digits of a number.
-/
import Derived.Test.YtfpfgdbfigdooaaDoorXbase
import Derived.Test.YtfpfgdbfigdooaaDoorOenc
import Derived.Lib.ItoaLen
namespace Go.Proofs.YtfpfgdbfigdooaaDoor
open Go.RowKit

theorem str_dig (d : UInt8) (w : World) : (convert 46 9 (.slice (some ⟨w.heap.size, 0, none⟩) 1 1)).run Tryd.prog (w.alloc (.cells #[.int .u8 ((d.toNat : Nat) : Int)] 5)) = .ok (.string (strOf [d])) (w.alloc (.cells #[.int .u8 ((d.toNat : Nat) : Int)] 5)) :=
  own_str (l := [d]) ⟨rfl, .inr ⟨w.heap.size, 1, _, rfl, Nat.le_refl _, heap_alloc_new w _, Nat.le_refl _, by decide, rfl, rfl⟩⟩

set_option maxRecDepth 100000 in
set_option maxHeartbeats 1000000 in
theorem dec_small (n : Nat) (h : n < 10) (w : World) :
    Calls Tryd.prog 7 #[.int .i64 (n : Int)] w fun e w' => e = .returned (.string (strOf (Lib.decDigits n))) ∧ Below w.heap.size w w' := by
  have d1 : decide ((n : Int) < 10) = true := by simp; omega
  obtain ⟨d, hd⟩ : ∃ d : UInt8, d = UInt8.ofNat (48 + n) := ⟨_, rfl⟩
  have hdn : wrap64 (48 + (n : Int)) % 256 = ((d.toNat : Nat) : Int) := by rw [hd]; unfold wrap64; simp; omega
  have hs := str_dig d
  have HD := Lib.hid (show Lib.decDigits n = [d] by rw [Lib.decDigits_one h, hd])
  clear h hd
  go_enter Tryd.func7, Tryd.ntmps7
  go_wp2_with fail
  go_ret
  exact ⟨by rw [HD.out]; rfl, belowNew _ _⟩
theorem conv_later (d : UInt8) (w w1 : World) (hb : Below (w.alloc (.cells #[.int .u8 ((d.toNat : Nat) : Int)] 5)).drew.heap.size (w.alloc (.cells #[.int .u8 ((d.toNat : Nat) : Int)] 5)).drew w1) :
    (convert 46 9 (.slice (some ⟨w.heap.size, 0, none⟩) 1 1)).run Tryd.prog w1 = .ok (.string (strOf [d])) w1 :=
  own_str (B := w.heap.size) (l := [d]) (own_below (w := (w.alloc (.cells #[.int .u8 ((d.toNat : Nat) : Int)] 5)).drew) (World.ownsRow.drew ⟨rfl, .inr ⟨w.heap.size, 1, _, rfl, Nat.le_refl _, heap_alloc_new w _, Nat.le_refl _, by decide, rfl, rfl⟩⟩) hb)
theorem str_dig_drew (d : UInt8) (w : World) : (convert 46 9 (.slice (some ⟨w.heap.size, 0, none⟩) 1 1)).run Tryd.prog (w.alloc (.cells #[.int .u8 ((d.toNat : Nat) : Int)] 5)).drew = .ok (.string (strOf [d])) (w.alloc (.cells #[.int .u8 ((d.toNat : Nat) : Int)] 5)).drew :=
  own_str (B := w.heap.size) (l := [d]) (World.ownsRow.drew ⟨rfl, .inr ⟨w.heap.size, 1, _, rfl, Nat.le_refl _, heap_alloc_new w _, Nat.le_refl _, by decide, rfl, rfl⟩⟩)
set_option maxRecDepth 100000 in
set_option maxHeartbeats 1000000 in
theorem dec_bound (k : Nat) : ∀ (n : Nat) (w : World), n < 10 ^ (k + 1) → n ≤ 9223372036854775807 →
    Calls Tryd.prog 7 #[.int .i64 (n : Int)] w fun e w' => e = .returned (.string (strOf (Lib.decDigits n))) ∧ Below w.heap.size w w' := by
  induction k with
  | zero => intro n w h _; exact dec_small n (by simpa using h) w
  | succ k ih =>
    intro n w h hn
    by_cases h10 : n < 10
    · exact dec_small n h10 w
    · have d1 : decide ((n : Int) < 10) = false := by simp; omega
      obtain ⟨q, hq⟩ : ∃ q, q = n / 10 := ⟨_, rfl⟩
      obtain ⟨d, hd⟩ : ∃ d : UInt8, d = UInt8.ofNat (48 + n % 10) := ⟨_, rfl⟩
      have hqi : (n : Int) / 10 = (q : Int) := by rw [hq]; omega
      have HIH := Lib.hid (fun w => ih q w (by rw [hq]; rw [Nat.pow_succ] at h; omega) (by omega))
      have hqw : IntKind.i64.wrap (q : Int) = (q : Int) := by rw [wrap_i64]; omega
      have hdn : IntKind.u8.wrap (IntKind.i64.wrap (48 + (n : Int).tmod 10)) = ((d.toNat : Nat) : Int) := by
        rw [hd, wrap_i64, Int.tmod_eq_emod_of_nonneg (by omega)]
        simp [IntKind.wrap, IntKind.bits, IntKind.signed]
        omega
      have hs := str_dig_drew d
      have HD := Lib.hid (show Lib.decDigits n = Lib.decDigits q ++ [d] by
        conv => lhs; rw [Lib.decDigits]
        rw [dif_neg h10, hq, hd])
      have hcat : ∀ w, (Op.stringOp .add (strOf (Lib.decDigits q)) (strOf [d])).run Tryd.prog w = .ok (.string (strOf (Lib.decDigits n))) w := fun w => by
        rw [run_string_add_sum w _ _ (by
          rw [strOf_size, strOf_size, Lib.decDigits_length]
          have := Lib.nDigits_le20 q (by omega)
          simp; omega), str_cat, HD.out]
      clear hq hd ih h
      go_enter Tryd.func7, Tryd.ntmps7
      go_upto_region 3 with fail
      go_region_with (first
        | (go_at_call 7; (with_reducible refine (HIH.out _).mono ?_); rintro e w1 ⟨rfl, hb1⟩; have hs1 := conv_later d w w1 hb1; have HB1 := Lib.hid (show Below w.heap.size w w1 from (belowNew w _).drew.trans (hb1.mono (by simp))); clear hb1)
        | (go_at_call 7; (with_reducible refine (HIH.out _).mono ?_); rintro e w1 ⟨rfl, hb1⟩; have hs1 := str_dig d w1; have HB1 := Lib.hid (show Below w.heap.size w w1 from (Below.refl _ w).drew.trans (hb1.mono (by simp))); clear hb1))
      all_goals
        go_wp2_with fail
        go_ret
        first
        | exact ⟨rfl, HB1.out⟩
        | exact ⟨rfl, HB1.out.alloc HB1.out.size _⟩
theorem decno_any (n : Nat) (w : World) (hn : n ≤ 9223372036854775807) :
    Calls Tryd.prog 7 #[.int .i64 (n : Int)] w fun e w' => e = .returned (.string (strOf (Lib.decDigits n))) ∧ Below w.heap.size w w' :=
  dec_bound 18 n w (by omega) hn
end Go.Proofs.YtfpfgdbfigdooaaDoor
