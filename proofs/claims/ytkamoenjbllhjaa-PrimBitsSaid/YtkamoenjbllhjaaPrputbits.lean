/-
  The contract of the reference's PutBits.
-/
import Derived.Test.YtkamoenjbllhjaaPputbits
namespace Go.Proofs.Ytkamoenjbllhjaa
open Go.RowKit

theorem belowDrewNew (w : World) (n : Nat) (o : Obj) : Below w.heap.size w ((w.drewN n).alloc o) := (Below.drawn (Below.refl _ w) n).alloc (Nat.le_refl _) o

set_option maxRecDepth 100000 in
set_option maxHeartbeats 8000000 in
theorem rpbits_any (b : ByteArray) (u : Int) (w : World) (hs : b.size ≤ 1099511627776) :
    Calls Try.prog 21 #[.string b, .int .i64 u] w fun e w' => e = .returned (putBitsVal b u) ∧ Below w.heap.size w w' := by
  by_cases h0 : u < 0
  · rw [pbits_out (.inl h0)]
    have d0 : decide (u < 0) = true := by simpa using h0
    clear h0
    go_enter Try.func21, Try.ntmps21
    go_wp2_with fail
    go_ret2
    exact ⟨rfl, Below.refl _ _⟩
  · by_cases h7 : 7 < u
    · rw [pbits_out (.inr h7)]
      have d0 : decide (u < 0) = false := by simpa using h0
      have d7 : decide (7 < u) = true := by simpa using h7
      clear h0 h7
      go_enter Try.func21, Try.ntmps21
      go_wp2_with fail
      go_ret2
      exact ⟨rfl, Below.refl _ _⟩
    · by_cases hz : u = 0
      · subst hz
        rw [show putBitsVal b 0 = .tuple #[.string (strOf [0] ++ b), .int .i64 0] from pbits_good (y := 0) (by decide) (unusedOk_zero b)]
        have hcv : ∀ n, (convert 42 9 (.slice (some ⟨w.heap.size, 0, none⟩) 1 1)).run Try.prog ((w.drewN n).alloc (.cells #[.int .u8 0] 5)) = .ok (.string (strOf [0])) ((w.drewN n).alloc (.cells #[.int .u8 0] 5)) := fun n => own_str (own_one (w.drewN n) 0)
        have hsz : (strOf [0]).size = 1 := rfl
        clear h0 h7
        go_enter Try.func21, Try.ntmps21
        go_wp2_with fail
        go_quiet (fail)
        go_wp2_with fail
        go_ret2
        exact ⟨rfl, belowDrewNew _ _ _⟩
      · by_cases hb : b.size = 0
        · obtain ⟨n, rfl⟩ : ∃ n : Nat, u = (n : Int) := ⟨u.toNat, by omega⟩
          obtain rfl := empty_of_size hb
          rw [pbits_bad (by omega) (unusedOk_empty (by omega))]
          have d7 : decide ((7 : Int) < (n : Int)) = false := by simp; omega
          have dz : decide ((0 : Int) < (n : Int)) = true := by simp; omega
          have dn : decide (0 < n) = true := by simp; omega
          clear h0 h7 hz hb hs
          go_enter Try.func21, Try.ntmps21
          go_wp2_with fail
          go_quiet (fail)
          go_wp2_with fail
          go_ret2
          exact ⟨rfl, Below.drawn (Below.refl _ _) _⟩
        · have e0 : ((b.size : Int) == 0) = false := beq_eq_false_iff_ne.2 (by omega)
          have hb1 : 1 ≤ b.size := by omega
          have hu := fun (k : Nat) (h : k ≠ 0) => unusedOk_some (b := b) h hb
          have xl := last_u8 b hb
          obtain ⟨x, hx⟩ : ∃ x, x = u8at b (b.size - 1) := ⟨_, rfl⟩
          have hxl : x < 256 := by rw [hx]; exact u8at_lt b _
          rw [← hx] at xl hu
          clear hx hb
          rcases (by omega : u = 1 ∨ u = 2 ∨ u = 3 ∨ u = 4 ∨ u = 5 ∨ u = 6 ∨ u = 7) with rfl | rfl | rfl | rfl | rfl | rfl | rfl
          · by_cases hm : x % 2 ^ 1 = 0
            · have em : ((x : Int) % 2 != 0) = false := by simp; omega
              rw [show putBitsVal b 1 = .tuple #[.string (strOf [1] ++ b), .int .i64 0] from pbits_good (y := 1) (by decide) ((hu 1 (by decide)).trans (decide_eq_true hm))]
              have hcv : ∀ n, (convert 42 9 (.slice (some ⟨w.heap.size, 0, none⟩) 1 1)).run Try.prog ((w.drewN n).alloc (.cells #[.int .u8 1] 5)) = .ok (.string (strOf [1])) ((w.drewN n).alloc (.cells #[.int .u8 1] 5)) := fun n => own_str (own_one (w.drewN n) 1)
              have hsz : (strOf [1]).size = 1 := rfl
              clear h0 h7 hz hm hu
              go_enter Try.func21, Try.ntmps21
              go_wp2_with fail
              go_quiet (fail)
              go_wp2_with fail
              go_ret2
              exact ⟨rfl, belowDrewNew _ _ _⟩
            · have em : ((x : Int) % 2 != 0) = true := by simp; omega
              rw [show putBitsVal b 1 = .tuple #[.string ⟨#[]⟩, .int .i64 7] from pbits_bad (u := 1) (by decide) ((hu 1 (by decide)).trans (decide_eq_false hm))]
              clear h0 h7 hz hm hu
              go_enter Try.func21, Try.ntmps21
              go_wp2_with fail
              go_quiet (fail)
              go_wp2_with fail
              go_ret2
              exact ⟨rfl, Below.drawn (Below.refl _ _) _⟩
          · by_cases hm : x % 2 ^ 2 = 0
            · have em : ((x : Int) % 4 != 0) = false := by simp; omega
              rw [show putBitsVal b 2 = .tuple #[.string (strOf [2] ++ b), .int .i64 0] from pbits_good (y := 2) (by decide) ((hu 2 (by decide)).trans (decide_eq_true hm))]
              have hcv : ∀ n, (convert 42 9 (.slice (some ⟨w.heap.size, 0, none⟩) 1 1)).run Try.prog ((w.drewN n).alloc (.cells #[.int .u8 2] 5)) = .ok (.string (strOf [2])) ((w.drewN n).alloc (.cells #[.int .u8 2] 5)) := fun n => own_str (own_one (w.drewN n) 2)
              have hsz : (strOf [2]).size = 1 := rfl
              clear h0 h7 hz hm hu
              go_enter Try.func21, Try.ntmps21
              go_wp2_with fail
              go_quiet (fail)
              go_wp2_with fail
              go_ret2
              exact ⟨rfl, belowDrewNew _ _ _⟩
            · have em : ((x : Int) % 4 != 0) = true := by simp; omega
              rw [show putBitsVal b 2 = .tuple #[.string ⟨#[]⟩, .int .i64 7] from pbits_bad (u := 2) (by decide) ((hu 2 (by decide)).trans (decide_eq_false hm))]
              clear h0 h7 hz hm hu
              go_enter Try.func21, Try.ntmps21
              go_wp2_with fail
              go_quiet (fail)
              go_wp2_with fail
              go_ret2
              exact ⟨rfl, Below.drawn (Below.refl _ _) _⟩
          · by_cases hm : x % 2 ^ 3 = 0
            · have em : ((x : Int) % 8 != 0) = false := by simp; omega
              rw [show putBitsVal b 3 = .tuple #[.string (strOf [3] ++ b), .int .i64 0] from pbits_good (y := 3) (by decide) ((hu 3 (by decide)).trans (decide_eq_true hm))]
              have hcv : ∀ n, (convert 42 9 (.slice (some ⟨w.heap.size, 0, none⟩) 1 1)).run Try.prog ((w.drewN n).alloc (.cells #[.int .u8 3] 5)) = .ok (.string (strOf [3])) ((w.drewN n).alloc (.cells #[.int .u8 3] 5)) := fun n => own_str (own_one (w.drewN n) 3)
              have hsz : (strOf [3]).size = 1 := rfl
              clear h0 h7 hz hm hu
              go_enter Try.func21, Try.ntmps21
              go_wp2_with fail
              go_quiet (fail)
              go_wp2_with fail
              go_ret2
              exact ⟨rfl, belowDrewNew _ _ _⟩
            · have em : ((x : Int) % 8 != 0) = true := by simp; omega
              rw [show putBitsVal b 3 = .tuple #[.string ⟨#[]⟩, .int .i64 7] from pbits_bad (u := 3) (by decide) ((hu 3 (by decide)).trans (decide_eq_false hm))]
              clear h0 h7 hz hm hu
              go_enter Try.func21, Try.ntmps21
              go_wp2_with fail
              go_quiet (fail)
              go_wp2_with fail
              go_ret2
              exact ⟨rfl, Below.drawn (Below.refl _ _) _⟩
          · by_cases hm : x % 2 ^ 4 = 0
            · have em : ((x : Int) % 16 != 0) = false := by simp; omega
              rw [show putBitsVal b 4 = .tuple #[.string (strOf [4] ++ b), .int .i64 0] from pbits_good (y := 4) (by decide) ((hu 4 (by decide)).trans (decide_eq_true hm))]
              have hcv : ∀ n, (convert 42 9 (.slice (some ⟨w.heap.size, 0, none⟩) 1 1)).run Try.prog ((w.drewN n).alloc (.cells #[.int .u8 4] 5)) = .ok (.string (strOf [4])) ((w.drewN n).alloc (.cells #[.int .u8 4] 5)) := fun n => own_str (own_one (w.drewN n) 4)
              have hsz : (strOf [4]).size = 1 := rfl
              clear h0 h7 hz hm hu
              go_enter Try.func21, Try.ntmps21
              go_wp2_with fail
              go_quiet (fail)
              go_wp2_with fail
              go_ret2
              exact ⟨rfl, belowDrewNew _ _ _⟩
            · have em : ((x : Int) % 16 != 0) = true := by simp; omega
              rw [show putBitsVal b 4 = .tuple #[.string ⟨#[]⟩, .int .i64 7] from pbits_bad (u := 4) (by decide) ((hu 4 (by decide)).trans (decide_eq_false hm))]
              clear h0 h7 hz hm hu
              go_enter Try.func21, Try.ntmps21
              go_wp2_with fail
              go_quiet (fail)
              go_wp2_with fail
              go_ret2
              exact ⟨rfl, Below.drawn (Below.refl _ _) _⟩
          · by_cases hm : x % 2 ^ 5 = 0
            · have em : ((x : Int) % 32 != 0) = false := by simp; omega
              rw [show putBitsVal b 5 = .tuple #[.string (strOf [5] ++ b), .int .i64 0] from pbits_good (y := 5) (by decide) ((hu 5 (by decide)).trans (decide_eq_true hm))]
              have hcv : ∀ n, (convert 42 9 (.slice (some ⟨w.heap.size, 0, none⟩) 1 1)).run Try.prog ((w.drewN n).alloc (.cells #[.int .u8 5] 5)) = .ok (.string (strOf [5])) ((w.drewN n).alloc (.cells #[.int .u8 5] 5)) := fun n => own_str (own_one (w.drewN n) 5)
              have hsz : (strOf [5]).size = 1 := rfl
              clear h0 h7 hz hm hu
              go_enter Try.func21, Try.ntmps21
              go_wp2_with fail
              go_quiet (fail)
              go_wp2_with fail
              go_ret2
              exact ⟨rfl, belowDrewNew _ _ _⟩
            · have em : ((x : Int) % 32 != 0) = true := by simp; omega
              rw [show putBitsVal b 5 = .tuple #[.string ⟨#[]⟩, .int .i64 7] from pbits_bad (u := 5) (by decide) ((hu 5 (by decide)).trans (decide_eq_false hm))]
              clear h0 h7 hz hm hu
              go_enter Try.func21, Try.ntmps21
              go_wp2_with fail
              go_quiet (fail)
              go_wp2_with fail
              go_ret2
              exact ⟨rfl, Below.drawn (Below.refl _ _) _⟩
          · by_cases hm : x % 2 ^ 6 = 0
            · have em : ((x : Int) % 64 != 0) = false := by simp; omega
              rw [show putBitsVal b 6 = .tuple #[.string (strOf [6] ++ b), .int .i64 0] from pbits_good (y := 6) (by decide) ((hu 6 (by decide)).trans (decide_eq_true hm))]
              have hcv : ∀ n, (convert 42 9 (.slice (some ⟨w.heap.size, 0, none⟩) 1 1)).run Try.prog ((w.drewN n).alloc (.cells #[.int .u8 6] 5)) = .ok (.string (strOf [6])) ((w.drewN n).alloc (.cells #[.int .u8 6] 5)) := fun n => own_str (own_one (w.drewN n) 6)
              have hsz : (strOf [6]).size = 1 := rfl
              clear h0 h7 hz hm hu
              go_enter Try.func21, Try.ntmps21
              go_wp2_with fail
              go_quiet (fail)
              go_wp2_with fail
              go_ret2
              exact ⟨rfl, belowDrewNew _ _ _⟩
            · have em : ((x : Int) % 64 != 0) = true := by simp; omega
              rw [show putBitsVal b 6 = .tuple #[.string ⟨#[]⟩, .int .i64 7] from pbits_bad (u := 6) (by decide) ((hu 6 (by decide)).trans (decide_eq_false hm))]
              clear h0 h7 hz hm hu
              go_enter Try.func21, Try.ntmps21
              go_wp2_with fail
              go_quiet (fail)
              go_wp2_with fail
              go_ret2
              exact ⟨rfl, Below.drawn (Below.refl _ _) _⟩
          · by_cases hm : x % 2 ^ 7 = 0
            · have em : ((x : Int) % 128 != 0) = false := by simp; omega
              rw [show putBitsVal b 7 = .tuple #[.string (strOf [7] ++ b), .int .i64 0] from pbits_good (y := 7) (by decide) ((hu 7 (by decide)).trans (decide_eq_true hm))]
              have hcv : ∀ n, (convert 42 9 (.slice (some ⟨w.heap.size, 0, none⟩) 1 1)).run Try.prog ((w.drewN n).alloc (.cells #[.int .u8 7] 5)) = .ok (.string (strOf [7])) ((w.drewN n).alloc (.cells #[.int .u8 7] 5)) := fun n => own_str (own_one (w.drewN n) 7)
              have hsz : (strOf [7]).size = 1 := rfl
              clear h0 h7 hz hm hu
              go_enter Try.func21, Try.ntmps21
              go_wp2_with fail
              go_quiet (fail)
              go_wp2_with fail
              go_ret2
              exact ⟨rfl, belowDrewNew _ _ _⟩
            · have em : ((x : Int) % 128 != 0) = true := by simp; omega
              rw [show putBitsVal b 7 = .tuple #[.string ⟨#[]⟩, .int .i64 7] from pbits_bad (u := 7) (by decide) ((hu 7 (by decide)).trans (decide_eq_false hm))]
              clear h0 h7 hz hm hu
              go_enter Try.func21, Try.ntmps21
              go_wp2_with fail
              go_quiet (fail)
              go_wp2_with fail
              go_ret2
              exact ⟨rfl, Below.drawn (Below.refl _ _) _⟩
end Go.Proofs.Ytkamoenjbllhjaa
