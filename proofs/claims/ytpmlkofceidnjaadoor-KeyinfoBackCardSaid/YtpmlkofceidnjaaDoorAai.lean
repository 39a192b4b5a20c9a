/-
  The contract of the reference's Read: the element at the beginning and the bytes behind it, or the error; nothing that was there before the call has changed.
-/
import Derived.Test.YtpmlkofceidnjaaDoorAah
namespace Go.Proofs.YtpmlkofceidnjaaDoor
open Go.RowKit

theorem elOld (w : World) (cs ds : Array Value) : ((w.alloc (.cells cs 46)).alloc (.cells ds 46)).heap[w.heap.size]? = some (.cells cs 46 (0, 0)) := heap_alloc2_old w _ _
theorem belowNew2 (w : World) (o o' : Obj) : Below w.heap.size w ((w.alloc o).alloc o') := (belowNew w o).alloc (by simp) o'

theorem elOld3 (w : World) (cs ds : Array Value) (o : Obj) : (((w.alloc (.cells cs 46)).alloc (.cells ds 46)).alloc o).heap[w.heap.size]? = some (.cells cs 46 (0, 0)) := by
  have h := elOld w cs ds
  generalize (w.alloc (.cells cs 46)).alloc (.cells ds 46) = W at h ⊢
  have hlt : w.heap.size < W.heap.size := by
    rcases Nat.lt_or_ge w.heap.size W.heap.size with h' | h'
    · exact h'
    · simp [Array.getElem?_eq_none h'] at h
  show (W.heap.push o)[w.heap.size]? = _
  rw [Array.getElem?_push, if_neg (Nat.ne_of_lt hlt)]
  exact h
theorem belowNew3 (w : World) (o o' o2 : Obj) : Below w.heap.size w (((w.alloc o).alloc o').alloc o2) := (belowNew2 w o o').alloc (by simp; omega) o2
set_option maxRecDepth 100000 in
set_option maxHeartbeats 1000000 in
theorem rread_empty (w : World) :
    Calls Tryd.prog 34 #[.string ⟨#[]⟩] w fun e w' => e = .returned (.tuple #[noEl, .string ⟨#[]⟩, .int .i64 3]) ∧ Below w.heap.size w w' := by
  go_enter Tryd.func34, Tryd.ntmps34
  go_wp2_with fail
  exact bodyPost_ret (elRes rfl _ _ w _ _ _ rfl (elOld w _ _)) rfl ⟨rfl, belowNew2 w _ _⟩
set_option maxRecDepth 100000 in
set_option maxHeartbeats 1000000 in
theorem rread_tag (b : ByteArray) (w : World) (h0 : b.size ≠ 0) (t : Nat) (ht : u8at b 0 = t) (h1 : t % 32 = 31) :
    Calls Tryd.prog 34 #[.string b] w fun e w' => e = .returned (.tuple #[noEl, .string ⟨#[]⟩, .int .i64 5]) ∧ Below w.heap.size w w' := by
  have x0 := fun w => run_index_u8 (P := Tryd.prog) Tryd.underlying9 b 0 (by omega) (0 : Int) rfl w
  rw [ht] at x0
  have hf2 : t < 256 := by rw [← ht]; exact u8at_lt b 0
  have d0 : ((b.size : Int) == 0) = false := beq_eq_false_iff_ne.2 (by omega)
  have dt : ((t : Int) % 32 == 31) = true := beq_iff_eq.2 (by omega)
  have H1 := Lib.hid h1
  clear ht h0 h1
  go_enter Tryd.func34, Tryd.ntmps34
  go_wp2_with fail
  exact bodyPost_ret (elRes rfl _ _ w _ _ _ rfl (elOld w _ _)) rfl ⟨rfl, belowNew2 w _ _⟩
set_option maxRecDepth 100000 in
set_option maxHeartbeats 1000000 in
theorem rread_one (b : ByteArray) (w : World) (h0 : b.size = 1) (t : Nat) (ht : u8at b 0 = t) (h1 : t % 32 ≠ 31) :
    Calls Tryd.prog 34 #[.string b] w fun e w' => e = .returned (.tuple #[noEl, .string ⟨#[]⟩, .int .i64 3]) ∧ Below w.heap.size w w' := by
  have x0 := fun w => run_index_u8 (P := Tryd.prog) Tryd.underlying9 b 0 (by omega) (0 : Int) rfl w
  rw [ht] at x0
  have hf2 : t < 256 := by rw [← ht]; exact u8at_lt b 0
  have d0 : ((b.size : Int) == 0) = false := beq_eq_false_iff_ne.2 (by omega)
  have dt : ((t : Int) % 32 == 31) = false := beq_eq_false_iff_ne.2 (by omega)
  have d1 : ((b.size : Int) == 1) = true := by simp; omega
  have H1 := Lib.hid h1
  clear ht h0 h1
  go_enter Tryd.func34, Tryd.ntmps34
  go_wp2_with fail
  exact bodyPost_ret (elRes rfl _ _ w _ _ _ rfl (elOld w _ _)) rfl ⟨rfl, belowNew2 w _ _⟩
set_option maxRecDepth 100000 in
set_option maxHeartbeats 1000000 in
theorem rread_form (b : ByteArray) (w : World) (h0 : 1 < b.size) (t : Nat) (ht : u8at b 0 = t) (h1 : t % 32 ≠ 31) (f : Nat) (hf : u8at b 1 = f) (h2 : f = 128 ∨ 131 < f) :
    Calls Tryd.prog 34 #[.string b] w fun e w' => e = .returned (.tuple #[noEl, .string ⟨#[]⟩, .int .i64 6]) ∧ Below w.heap.size w w' := by
  have x0 := fun w => run_index_u8 (P := Tryd.prog) Tryd.underlying9 b 0 (by omega) (0 : Int) rfl w
  have x1 := fun w => run_index_u8 (P := Tryd.prog) Tryd.underlying9 b 1 (by omega) (1 : Int) rfl w
  rw [ht] at x0
  rw [hf] at x1
  have hf2 : t < 256 := by rw [← ht]; exact u8at_lt b 0
  have hf3 : f < 256 := by rw [← hf]; exact u8at_lt b 1
  have d0 : ((b.size : Int) == 0) = false := beq_eq_false_iff_ne.2 (by omega)
  have dt : ((t : Int) % 32 == 31) = false := beq_eq_false_iff_ne.2 (by omega)
  have d1 : ((b.size : Int) == 1) = false := beq_eq_false_iff_ne.2 (by omega)
  have H1 := Lib.hid h1
  clear ht hf h0 h1
  rcases h2 with rfl | h2
  · go_enter Tryd.func34, Tryd.ntmps34
    go_wp2_with fail
    exact bodyPost_ret (elRes rfl _ _ w _ _ _ rfl (elOld w _ _)) rfl ⟨rfl, belowNew2 w _ _⟩
  · have d2 : ((f : Int) == 128) = false := beq_eq_false_iff_ne.2 (by omega)
    have d3 : decide (131 < (f : Int)) = true := by simp; omega
    go_enter Tryd.func34, Tryd.ntmps34
    go_wp2_with fail
    exact bodyPost_ret (elRes rfl _ _ w _ _ _ rfl (elOld w _ _)) rfl ⟨rfl, belowNew2 w _ _⟩
set_option maxRecDepth 100000 in
set_option maxHeartbeats 1000000 in
theorem rread_short (b : ByteArray) (w : World) (hs : b.size ≤ 1099511627776) (h0 : 1 < b.size) (t : Nat) (ht : u8at b 0 = t) (h1 : t % 32 ≠ 31) (f : Nat) (hf : u8at b 1 = f) (h2 : f < 128) (R : Value)
    (hR : R = if b.size < 2 + f then .tuple #[noEl, .string ⟨#[]⟩, .int .i64 3] else .tuple #[elV t (b.extract 2 (2 + f)) (b.extract 0 (2 + f)), .string (b.extract (2 + f) b.size), .int .i64 0]) :
    Calls Tryd.prog 34 #[.string b] w fun e w' => e = .returned R ∧ Below w.heap.size w w' := by
  have x0 := fun w => run_index_u8 (P := Tryd.prog) Tryd.underlying9 b 0 (by omega) (0 : Int) rfl w
  have x1 := fun w => run_index_u8 (P := Tryd.prog) Tryd.underlying9 b 1 (by omega) (1 : Int) rfl w
  rw [ht] at x0
  rw [hf] at x1
  have hf2 : t < 256 := by rw [← ht]; exact u8at_lt b 0
  have hf3 : f < 256 := by rw [← hf]; exact u8at_lt b 1
  have d0 : ((b.size : Int) == 0) = false := beq_eq_false_iff_ne.2 (by omega)
  have dt : ((t : Int) % 32 == 31) = false := beq_eq_false_iff_ne.2 (by omega)
  have d1 : ((b.size : Int) == 1) = false := beq_eq_false_iff_ne.2 (by omega)
  have d2 : ((f : Int) == 128) = false := beq_eq_false_iff_ne.2 (by omega)
  have d3 : decide (131 < (f : Int)) = false := by simp; omega
  have d4 : decide (128 < (f : Int)) = false := by simp; omega
  have H1 := Lib.hid h1
  have HR := Lib.hid hR
  clear ht hf h1 hR
  by_cases h3 : b.size < 2 + f
  · have d5 : decide ((b.size : Int) - 2 < (f : Int)) = true := by simp; omega
    have H3 := Lib.hid h3
    clear h3
    go_enter Tryd.func34, Tryd.ntmps34
    go_wp2_with fail
    refine bodyPost_ret (elRes rfl _ _ w _ _ _ rfl (elOld w _ _)) rfl ⟨?_, belowNew2 w _ _⟩
    rw [HR.out, if_pos H3.out]
    rfl
  · have d5 : decide ((b.size : Int) - 2 < (f : Int)) = false := by simp; omega
    have h4 : 2 + f ≤ b.size := by omega
    have H3 := Lib.hid h3
    clear h3
    go_enter Tryd.func34, Tryd.ntmps34
    go_wp2_with fail
    go_region
    go_wp2_with fail
    refine bodyPost_ret (elRes rfl _ _ w _ _ _ rfl (elOld w _ _)) rfl ⟨?_, (belowNew2 w _ _).drew⟩
    rw [HR.out, if_neg H3.out]
    rfl
set_option maxRecDepth 100000 in
set_option maxHeartbeats 1000000 in
theorem rread_more (b : ByteArray) (w : World) (hs : b.size ≤ 1099511627776) (h0 : 1 < b.size) (t : Nat) (ht : u8at b 0 = t) (h1 : t % 32 ≠ 31) (k : Nat) (hf : u8at b 1 = 128 + k) (h2 : 0 < k) (h3 : k ≤ 3) (h4 : b.size < 2 + k) :
    Calls Tryd.prog 34 #[.string b] w fun e w' => e = .returned (.tuple #[noEl, .string ⟨#[]⟩, .int .i64 3]) ∧ Below w.heap.size w w' := by
  have x0 := fun w => run_index_u8 (P := Tryd.prog) Tryd.underlying9 b 0 (by omega) (0 : Int) rfl w
  have x1 := fun w => run_index_u8 (P := Tryd.prog) Tryd.underlying9 b 1 (by omega) (1 : Int) rfl w
  rw [ht] at x0
  rw [hf] at x1
  have hf2 : t < 256 := by rw [← ht]; exact u8at_lt b 0
  have hkI : 128 + (k : Int) - 128 = (k : Int) := by omega
  have d0 : ((b.size : Int) == 0) = false := beq_eq_false_iff_ne.2 (by omega)
  have dt : ((t : Int) % 32 == 31) = false := beq_eq_false_iff_ne.2 (by omega)
  have d1 : ((b.size : Int) == 1) = false := beq_eq_false_iff_ne.2 (by omega)
  have d2 : (128 + (k : Int) == 128) = false := beq_eq_false_iff_ne.2 (by omega)
  have d3 : decide (131 < 128 + (k : Int)) = false := by simp; omega
  have d4 : decide (128 < 128 + (k : Int)) = true := by simp; omega
  have d5 : decide ((b.size : Int) < 2 + (k : Int)) = true := by simp; omega
  have H1 := Lib.hid h1
  clear ht hf h1 h4
  go_enter Tryd.func34, Tryd.ntmps34
  go_wp2_with fail
  exact bodyPost_ret (elRes rfl _ _ w _ _ _ rfl (elOld w _ _)) rfl ⟨rfl, belowNew2 w _ _⟩
set_option maxRecDepth 100000 in
set_option maxHeartbeats 4000000 in
theorem rread_long (b : ByteArray) (w : World) (hs : b.size ≤ 1099511627776) (h0 : 1 < b.size) (t : Nat) (ht : u8at b 0 = t) (h1 : t % 32 ≠ 31) (k : Nat) (hf : u8at b 1 = 128 + k) (h2 : 0 < k) (h3 : k ≤ 3) (h4 : 2 + k ≤ b.size) (v : Nat) (hv : v = be b 2 k) (R : Value)
    (hR : R = if v < least k ∨ 131072 < v then .tuple #[noEl, .string ⟨#[]⟩, .int .i64 6] else if b.size < 2 + k + v then .tuple #[noEl, .string ⟨#[]⟩, .int .i64 3] else .tuple #[elV t (b.extract (2 + k) (2 + k + v)) (b.extract 0 (2 + k + v)), .string (b.extract (2 + k + v) b.size), .int .i64 0]) :
    Calls Tryd.prog 34 #[.string b] w fun e w' => e = .returned R ∧ Below w.heap.size w w' := by
  have x0 := fun w => run_index_u8 (P := Tryd.prog) Tryd.underlying9 b 0 (by omega) (0 : Int) rfl w
  have x1 := fun w => run_index_u8 (P := Tryd.prog) Tryd.underlying9 b 1 (by omega) (1 : Int) rfl w
  rw [ht] at x0
  rw [hf] at x1
  have hf2 : t < 256 := by rw [← ht]; exact u8at_lt b 0
  have hkI : 128 + (k : Int) - 128 = (k : Int) := by omega
  have d0 : ((b.size : Int) == 0) = false := beq_eq_false_iff_ne.2 (by omega)
  have dt : ((t : Int) % 32 == 31) = false := beq_eq_false_iff_ne.2 (by omega)
  have d1 : ((b.size : Int) == 1) = false := beq_eq_false_iff_ne.2 (by omega)
  have d2 : (128 + (k : Int) == 128) = false := beq_eq_false_iff_ne.2 (by omega)
  have d3 : decide (131 < 128 + (k : Int)) = false := by simp; omega
  have d4 : decide (128 < 128 + (k : Int)) = true := by simp; omega
  have d5 : decide ((b.size : Int) < 2 + (k : Int)) = false := by simp; omega
  have H1 := Lib.hid h1
  have HR := Lib.hid hR
  have HV := Lib.hid hv
  clear ht hf h1 hR hv
  go_enter Tryd.func34, Tryd.ntmps34
  go_wp2_with fail
  go_loopw [6, 9] (fun l i wr => ∃ j : Nat, j ≤ k ∧ i = .int .i64 (j : Int) ∧ l = .int .i64 (be b 2 j : Nat) ∧ wr = ((w.alloc (.cells #[.int .i64 0, .string ⟨#[]⟩, .string ⟨#[]⟩] 46)).alloc (.cells #[.int .i64 0, .string ⟨#[]⟩, .string ⟨#[]⟩] 46))) (fun _ i _ => 10 - (intOf i).toNat)
  case atStart => exact ⟨0, by omega, rfl, rfl, rfl⟩
  case round =>
    obtain ⟨j, hj, rfl, rfl, rfl⟩ := hrel
    by_cases hlt : j < k
    · have hd : decide ((j : Int) < (k : Int)) = true := by simp; omega
      have xj := fun w => run_index_u8 (P := Tryd.prog) Tryd.underlying9 b (2 + j) (by omega) (2 + (j : Int)) (by omega) w
      have hyl := u8at_lt b (2 + j)
      generalize ey : u8at b (2 + j) = y at xj hyl
      have hxl : be b 2 j < 65536 := Nat.lt_of_lt_of_le (be_lt b 2 j) (by rcases (by omega : j = 0 ∨ j = 1 ∨ j = 2) with rfl | rfl | rfl <;> decide)
      generalize ex : be b 2 j = x at hxl ⊢
      have HEY := Lib.hid ey
      have HEX := Lib.hid ex
      clear ey ex
      go_wp2_with fail
      go_roundw
      case rel =>
        refine ⟨j + 1, by omega, by go_num, ?_, trivial⟩
        have e : 256 * (x : Int) + (y : Int) = ((be b 2 (j + 1) : Nat) : Int) := by
          rw [← HEX.out, ← HEY.out]
          simp only [be]
          omega
        rw [e]
      case measure => simp [intOf]; omega
    · have ej : j = k := by omega
      subst ej
      have hd : decide ((j : Int) < (j : Int)) = false := by simp
      rw [← HV.out]
      clear hkI d2 d3 d4 d5 hd hlt hj
      rcases (by omega : j = 1 ∨ j = 2 ∨ j = 3) with rfl | rfl | rfl
      · have HL := Lib.hid (show least 1 = 128 from rfl)
        by_cases c1 : v < 128
        · have e1 : decide ((v : Int) < 128) = true := by simp; omega
          have C1 := Lib.hid c1
          clear c1
          go_wp2_with fail
          refine bodyPost_ret (elRes rfl _ _ w _ _ _ rfl (elOld3 w _ _ _)) rfl ⟨?_, belowNew3 w _ _ _⟩
          rw [HR.out, if_pos (Or.inl (by rw [HL.out]; exact C1.out))]
          rfl
        · have e1 : decide ((v : Int) < 128) = false := by simp; omega
          by_cases c2 : 131072 < v
          · have e2 : decide (131072 < (v : Int)) = true := by simp; omega
            have C1 := Lib.hid c1
            have C2 := Lib.hid c2
            clear c1 c2
            go_wp2_with fail
            refine bodyPost_ret (elRes rfl _ _ w _ _ _ rfl (elOld3 w _ _ _)) rfl ⟨?_, belowNew3 w _ _ _⟩
            rw [HR.out, if_pos (Or.inr C2.out)]
            rfl
          · have e2 : decide (131072 < (v : Int)) = false := by simp; omega
            have HN := Lib.hid (show ¬ (v < least 1 ∨ 131072 < v) by rw [HL.out]; omega)
            by_cases c3 : b.size < 2 + 1 + v
            · have e3 : decide ((b.size : Int) - 3 < (v : Int)) = true := by simp; omega
              have C3 := Lib.hid c3
              clear c1 c2 c3
              go_wp2_with fail
              refine bodyPost_ret (elRes rfl _ _ w _ _ _ rfl (elOld3 w _ _ _)) rfl ⟨?_, belowNew3 w _ _ _⟩
              rw [HR.out, if_neg HN.out, if_pos C3.out]
              rfl
            · have e3 : decide ((b.size : Int) - 3 < (v : Int)) = false := by simp; omega
              have c4 : 2 + 1 + v ≤ b.size := by omega
              have C3 := Lib.hid c3
              clear c1 c2 c3
              go_wp2_with fail
              go_region
              go_wp2_with fail
              refine bodyPost_ret (elRes rfl _ _ w _ _ _ rfl (elOld3 w _ _ _)) rfl ⟨?_, (belowNew3 w _ _ _).drew⟩
              rw [HR.out, if_neg HN.out, if_neg C3.out]
              rfl
      · have HL := Lib.hid (show least 2 = 256 from rfl)
        by_cases c1 : v < 256
        · have e1 : decide ((v : Int) < 256) = true := by simp; omega
          have C1 := Lib.hid c1
          clear c1
          go_wp2_with fail
          refine bodyPost_ret (elRes rfl _ _ w _ _ _ rfl (elOld3 w _ _ _)) rfl ⟨?_, belowNew3 w _ _ _⟩
          rw [HR.out, if_pos (Or.inl (by rw [HL.out]; exact C1.out))]
          rfl
        · have e1 : decide ((v : Int) < 256) = false := by simp; omega
          by_cases c2 : 131072 < v
          · have e2 : decide (131072 < (v : Int)) = true := by simp; omega
            have C1 := Lib.hid c1
            have C2 := Lib.hid c2
            clear c1 c2
            go_wp2_with fail
            refine bodyPost_ret (elRes rfl _ _ w _ _ _ rfl (elOld3 w _ _ _)) rfl ⟨?_, belowNew3 w _ _ _⟩
            rw [HR.out, if_pos (Or.inr C2.out)]
            rfl
          · have e2 : decide (131072 < (v : Int)) = false := by simp; omega
            have HN := Lib.hid (show ¬ (v < least 2 ∨ 131072 < v) by rw [HL.out]; omega)
            by_cases c3 : b.size < 2 + 2 + v
            · have e3 : decide ((b.size : Int) - 4 < (v : Int)) = true := by simp; omega
              have C3 := Lib.hid c3
              clear c1 c2 c3
              go_wp2_with fail
              refine bodyPost_ret (elRes rfl _ _ w _ _ _ rfl (elOld3 w _ _ _)) rfl ⟨?_, belowNew3 w _ _ _⟩
              rw [HR.out, if_neg HN.out, if_pos C3.out]
              rfl
            · have e3 : decide ((b.size : Int) - 4 < (v : Int)) = false := by simp; omega
              have c4 : 2 + 2 + v ≤ b.size := by omega
              have C3 := Lib.hid c3
              clear c1 c2 c3
              go_wp2_with fail
              go_region
              go_wp2_with fail
              refine bodyPost_ret (elRes rfl _ _ w _ _ _ rfl (elOld3 w _ _ _)) rfl ⟨?_, (belowNew3 w _ _ _).drew⟩
              rw [HR.out, if_neg HN.out, if_neg C3.out]
              rfl
      · have HL := Lib.hid (show least 3 = 65536 from rfl)
        by_cases c1 : v < 65536
        · have e1 : decide ((v : Int) < 65536) = true := by simp; omega
          have C1 := Lib.hid c1
          clear c1
          go_wp2_with fail
          refine bodyPost_ret (elRes rfl _ _ w _ _ _ rfl (elOld3 w _ _ _)) rfl ⟨?_, belowNew3 w _ _ _⟩
          rw [HR.out, if_pos (Or.inl (by rw [HL.out]; exact C1.out))]
          rfl
        · have e1 : decide ((v : Int) < 65536) = false := by simp; omega
          by_cases c2 : 131072 < v
          · have e2 : decide (131072 < (v : Int)) = true := by simp; omega
            have C1 := Lib.hid c1
            have C2 := Lib.hid c2
            clear c1 c2
            go_wp2_with fail
            refine bodyPost_ret (elRes rfl _ _ w _ _ _ rfl (elOld3 w _ _ _)) rfl ⟨?_, belowNew3 w _ _ _⟩
            rw [HR.out, if_pos (Or.inr C2.out)]
            rfl
          · have e2 : decide (131072 < (v : Int)) = false := by simp; omega
            have HN := Lib.hid (show ¬ (v < least 3 ∨ 131072 < v) by rw [HL.out]; omega)
            by_cases c3 : b.size < 2 + 3 + v
            · have e3 : decide ((b.size : Int) - 5 < (v : Int)) = true := by simp; omega
              have C3 := Lib.hid c3
              clear c1 c2 c3
              go_wp2_with fail
              refine bodyPost_ret (elRes rfl _ _ w _ _ _ rfl (elOld3 w _ _ _)) rfl ⟨?_, belowNew3 w _ _ _⟩
              rw [HR.out, if_neg HN.out, if_pos C3.out]
              rfl
            · have e3 : decide ((b.size : Int) - 5 < (v : Int)) = false := by simp; omega
              have c4 : 2 + 3 + v ≤ b.size := by omega
              have C3 := Lib.hid c3
              clear c1 c2 c3
              go_wp2_with fail
              go_region
              go_wp2_with fail
              refine bodyPost_ret (elRes rfl _ _ w _ _ _ rfl (elOld3 w _ _ _)) rfl ⟨?_, (belowNew3 w _ _ _).drew⟩
              rw [HR.out, if_neg HN.out, if_neg C3.out]
              rfl
end Go.Proofs.YtpmlkofceidnjaaDoor
