/-
  The contracts of date.element, Encode and Decode.
-/
import Derived.Test.YtkgdkaopbnodpaaDoorDform
namespace Go.Proofs.YtkgdkaopbnodpaaDoor
open Go.RowKit

theorem str_two (a b : UInt8) (w : World) : (convert 43 9 (.slice (some ⟨w.heap.size, 0, none⟩) 2 2)).run Tryd.prog (w.alloc (.cells #[.int .u8 ((a.toNat : Nat) : Int), .int .u8 ((b.toNat : Nat) : Int)] 5)) = .ok (.string (strOf [a, b])) (w.alloc (.cells #[.int .u8 ((a.toNat : Nat) : Int), .int .u8 ((b.toNat : Nat) : Int)] 5)) :=
  own_str (B := w.heap.size) (l := [a, b]) ⟨rfl, .inr ⟨w.heap.size, 2, _, rfl, Nat.le_refl _, heap_alloc_new w _, Nat.le_refl _, by decide, rfl, rfl⟩⟩

set_option maxRecDepth 100000 in
set_option maxHeartbeats 1000000 in
theorem elem_any (t : UInt8) (c : List UInt8) (w : World) (hc : c.length ≤ 100) :
    Calls Tryd.prog 34 #[.int .u8 ((t.toNat : Nat) : Int), .string (strOf c)] w fun E w' => E = .returned (.string (strOf (t :: UInt8.ofNat c.length :: c))) ∧ Below w.heap.size w w' := by
  have hz : (strOf c).size = c.length := rfl
  obtain ⟨n, hn⟩ : ∃ n : UInt8, n = UInt8.ofNat c.length := ⟨_, rfl⟩
  have hnn : n.toNat = c.length := by rw [hn]; simp; omega
  have hcv := str_two t n w
  rw [hnn] at hcv
  have hcat : ∀ w, (Op.stringOp .add (strOf [t, n]) (strOf c)).run Tryd.prog w = .ok (.string (strOf (t :: n :: c))) w := fun w => by
    rw [run_string_add_sum w _ _ (by rw [strOf_size, strOf_size]; simp; omega), str_cat]; rfl
  rw [← hn]
  have ht := t.toNat_lt
  clear hn
  generalize t.toNat = T at hcv ht ⊢
  go_enter Tryd.func34, Tryd.ntmps34
  go_wp2_with fail
  go_ret
  exact ⟨rfl, belowNew _ _⟩

/-- The whole element of a time. -/
def encT (x : Dt) : List UInt8 := if x.y ≤ 2049 then 23 :: 13 :: txtU x else 24 :: 15 :: txtL x
theorem write_U (x : Dt) (w : World) (h : Ok x) :
    Calls Tryd.prog 35 #[.string ⟨#[89, 89, 77, 77, 68, 68, 104, 104, 109, 109, 115, 115, 90]⟩, dtV x] w fun E w' => E = .returned (.string (strOf (txtU x))) ∧ Below w.heap.size w w' := by
  have := write_any layU x w (by decide) (flds_le h)
  rwa [wrt_U] at this
theorem write_L (x : Dt) (w : World) (h : Ok x) :
    Calls Tryd.prog 35 #[.string ⟨#[89, 89, 89, 89, 77, 77, 68, 68, 104, 104, 109, 109, 115, 115, 90]⟩, dtV x] w fun E w' => E = .returned (.string (strOf (txtL x))) ∧ Below w.heap.size w w' := by
  have := write_any layL x w (by decide) (flds_le h)
  rwa [wrt_L] at this
theorem elem_U (x : Dt) (w : World) :
    Calls Tryd.prog 34 #[.int .u8 23, .string (strOf (txtU x))] w fun E w' => E = .returned (.string (strOf (23 :: 13 :: txtU x))) ∧ Below w.heap.size w w' := elem_any 23 (txtU x) w (by rw [txtU_len]; omega)
theorem elem_L (x : Dt) (w : World) :
    Calls Tryd.prog 34 #[.int .u8 24, .string (strOf (txtL x))] w fun E w' => E = .returned (.string (strOf (24 :: 15 :: txtL x))) ∧ Below w.heap.size w w' := elem_any 24 (txtL x) w (by rw [txtL_len]; omega)

set_option maxRecDepth 100000 in
set_option maxHeartbeats 1000000 in
theorem enc_no {t : Int} (h : t < 0 ∨ 254033452799 < t) (w : World) :
    Calls Tryd.prog 18 #[.int .i64 t] w fun E w' => E = .returned (.tuple #[.string ⟨#[]⟩, .int .i64 1]) ∧ Below w.heap.size w w' := by
  have HC := Lib.hid (fun w => civ_no h w)
  clear h
  go_enter Tryd.func18, Tryd.ntmps18
  go_wp2_with (go_at_call 10; (with_reducible refine (HC.out _).mono ?_); rintro E w1 ⟨rfl, hb1⟩; have HB1 := Lib.hid hb1; clear hb1)
  go_ret2
  exact ⟨rfl, below_next HB1.out (belowNew _ _)⟩
set_option maxRecDepth 100000 in
set_option maxHeartbeats 1000000 in
theorem enc_yes {x : Dt} (h : Ok x) (w : World) (hT : Mon w) :
    Calls Tryd.prog 18 #[.int .i64 ((secs x : Nat) : Int)] w fun E w' => E = .returned (.tuple #[.string (strOf (encT x)), .int .i64 0]) ∧ Below w.heap.size w w' := by
  have HC := Lib.hid (fun w hT => civ_yes h w hT)
  have HT := Lib.hid hT
  have hy := h.y1
  unfold encT
  by_cases hs : x.y ≤ 2049
  · rw [if_pos hs]
    have d1 : decide ((x.y : Int) < 2050) = true := decide_eq_true (by omega)
    have HW := Lib.hid (fun w => write_U x w h)
    have HE := Lib.hid (fun w => elem_U x w)
    generalize secs x = T at HC ⊢
    generalize txtU x = s at HW HE ⊢
    clear h hT hs
    go_enter Tryd.func18, Tryd.ntmps18
    go_wp2_with (first
      | (go_at_call 10; (with_reducible refine (HC.out _ HT.out).mono ?_); rintro E w1 ⟨rfl, hb1⟩; have HB1 := Lib.hid hb1; clear hb1)
      | (go_at_call 35; (with_reducible refine (HW.out _).mono ?_); rintro E w2 ⟨rfl, hb2⟩; have HB2 := Lib.hid hb2; clear hb2)
      | (go_at_call 34; (with_reducible refine (HE.out _).mono ?_); rintro E w3 ⟨rfl, hb3⟩; have HB3 := Lib.hid hb3; clear hb3))
    go_ret2
    exact ⟨rfl, below_next (below_next (below_next HB1.out (belowNew _ _)) HB2.out) HB3.out⟩
  · rw [if_neg hs]
    have d1 : decide ((x.y : Int) < 2050) = false := decide_eq_false (by omega)
    have HW := Lib.hid (fun w => write_L x w h)
    have HE := Lib.hid (fun w => elem_L x w)
    generalize secs x = T at HC ⊢
    generalize txtL x = s at HW HE ⊢
    clear h hT hs
    go_enter Tryd.func18, Tryd.ntmps18
    go_wp2_with (first
      | (go_at_call 10; (with_reducible refine (HC.out _ HT.out).mono ?_); rintro E w1 ⟨rfl, hb1⟩; have HB1 := Lib.hid hb1; clear hb1)
      | (go_at_call 35; (with_reducible refine (HW.out _).mono ?_); rintro E w2 ⟨rfl, hb2⟩; have HB2 := Lib.hid hb2; clear hb2)
      | (go_at_call 34; (with_reducible refine (HE.out _).mono ?_); rintro E w3 ⟨rfl, hb3⟩; have HB3 := Lib.hid hb3; clear hb3))
    go_ret2
    exact ⟨rfl, below_next (below_next (below_next HB1.out (belowNew _ _)) HB2.out) HB3.out⟩
end Go.Proofs.YtkgdkaopbnodpaaDoor
