/-
  The contract of tlv.Read: the element at the beginning and the bytes behind it, or the error; nothing that was there before the call has changed.
-/
import Derived.Test.YtgpockpfefjjkaaTlenr
namespace Go.Proofs.Ytgpockpfefjjkaa
open Go.RowKit

theorem elSize : (Try.prog.info? 43).map (·.size) = some 3 := by kernel_rfl
theorem elRes {fn : Func} {p u v : Tmp} (h : fn.results = #[.cell p 43, .tmp u, .tmp v]) (tmps : Array Value) (w w0 : World) (x y z : Value)
    (hp : tmps.getD p undef = .pointer (some ⟨w0.heap.size, 0, none⟩)) (hg : w.heap[w0.heap.size]? = some (.cells #[x, y, z] 43 (0, 0))) :
    (results fn tmps).run Try.prog w = .ok (.tuple #[.agg #[x, y, z], tmps.getD u undef, tmps.getD v undef]) w :=
  results_cell_row3 h tmps w w0.heap.size 43 #[x, y, z] (0, 0) _ hp hg Try.underlying43 rfl elSize
theorem elNew (w : World) (cs : Array Value) : (w.alloc (.cells cs 43)).heap[w.heap.size]? = some (.cells cs 43 (0, 0)) := heap_alloc_new w _
theorem elNewD (w : World) (cs : Array Value) : (w.alloc (.cells cs 43)).drew.heap[w.heap.size]? = some (.cells cs 43 (0, 0)) := heap_alloc_new w _
theorem belowNew (w : World) (o : Obj) : Below w.heap.size w (w.alloc o) := (Below.refl _ w).alloc (Nat.le_refl _) o

set_option maxRecDepth 100000 in
theorem read_empty (w : World) :
    Calls Try.prog 21 #[.string ⟨#[]⟩] w fun e w' => e = .returned (.tuple #[noEl, .string ⟨#[]⟩, .int .i64 3]) ∧ Below w.heap.size w w' := by
  go_enter Try.func21, Try.ntmps21
  go_wp2_with fail
  exact bodyPost_ret (elRes rfl _ _ w _ _ _ rfl (elNew w _)) rfl ⟨rfl, belowNew w _⟩
set_option maxRecDepth 100000 in
set_option maxHeartbeats 1000000 in
theorem read_tag (b : ByteArray) (w : World) (h0 : b.size ≠ 0) (t : Nat) (ht : u8at b 0 = t) (h1 : t % 32 = 31) :
    Calls Try.prog 21 #[.string b] w fun e w' => e = .returned (.tuple #[noEl, .string ⟨#[]⟩, .int .i64 5]) ∧ Below w.heap.size w w' := by
  have he := nonempty_list h0
  have x0 := fun w => run_index_u8 (P := Try.prog) Try.underlying9 b 0 (by omega) (0 : Int) rfl w
  rw [ht] at x0
  have hf2 : t < 256 := by rw [← ht]; exact u8at_lt b 0
  have dt : decide (t % 32 ≠ 31) = false := by simp; omega
  have HT := Lib.hid dt
  have HF := Lib.hid hf2
  clear ht h0 h1 dt
  go_enter Try.func21, Try.ntmps21
  go_wp2_with (go_at_call 31; (with_reducible refine (hasShortTag_any t HF.out _).mono ?_); rw [HT.out]; rintro e w1 ⟨rfl, rfl⟩)
  exact bodyPost_ret (elRes rfl _ _ w _ _ _ rfl (elNew w _)) rfl ⟨rfl, belowNew w _⟩
set_option maxRecDepth 100000 in
set_option maxHeartbeats 1000000 in
theorem read_len (b : ByteArray) (w : World) (hs : b.size ≤ 1099511627776) (h0 : b.size ≠ 0) (t : Nat) (ht : u8at b 0 = t) (h1 : t % 32 ≠ 31) (n z x : Nat) (hl : lnAt (b.extract 1 b.size) 0 = (n, z, x)) (hx : x ≠ 0) :
    Calls Try.prog 21 #[.string b] w fun e w' => e = .returned (.tuple #[noEl, .string ⟨#[]⟩, .int .i64 (x : Nat)]) ∧ Below w.heap.size w w' := by
  have he := nonempty_list h0
  have x0 := fun w => run_index_u8 (P := Try.prog) Try.underlying9 b 0 (by omega) (0 : Int) rfl w
  rw [ht] at x0
  have hf2 : t < 256 := by rw [← ht]; exact u8at_lt b 0
  have dt : decide (t % 32 ≠ 31) = true := by simp; omega
  have h0' : 1 ≤ b.size := by omega
  have d0 : decide ((b.size : Int) < 1) = false := by simp; omega
  have dx : ((x : Int) != 0) = true := by simp; omega
  have HT := Lib.hid dt
  have HF := Lib.hid hf2
  have HL := Lib.hid hl
  clear hl ht h0 h1 dt hx
  go_enter Try.func21, Try.ntmps21
  go_wp2_with (first | (go_at_call 31; (with_reducible refine (hasShortTag_any t HF.out _).mono ?_); rw [HT.out]; rintro e w1 ⟨rfl, rfl⟩) | (go_at_call 41; (with_reducible refine (readLength_any _ _).mono ?_); rw [HL.out]; rintro e w1 ⟨rfl, rfl⟩))
  exact bodyPost_ret (elRes rfl _ _ w _ _ _ rfl (elNew w _)) rfl ⟨rfl, belowNew w _⟩
set_option maxRecDepth 100000 in
set_option maxHeartbeats 1000000 in
theorem read_cut (b : ByteArray) (w : World) (hs : b.size ≤ 1099511627776) (h0 : b.size ≠ 0) (t : Nat) (ht : u8at b 0 = t) (h1 : t % 32 ≠ 31) (n z : Nat) (hl : lnAt (b.extract 1 b.size) 0 = (n, z, 0)) (hz : z ≤ 4) (h2 : b.size < 1 + z + n) :
    Calls Try.prog 21 #[.string b] w fun e w' => e = .returned (.tuple #[noEl, .string ⟨#[]⟩, .int .i64 3]) ∧ Below w.heap.size w w' := by
  have he := nonempty_list h0
  have x0 := fun w => run_index_u8 (P := Try.prog) Try.underlying9 b 0 (by omega) (0 : Int) rfl w
  rw [ht] at x0
  have hf2 : t < 256 := by rw [← ht]; exact u8at_lt b 0
  have dt : decide (t % 32 ≠ 31) = true := by simp; omega
  have h0' : 1 ≤ b.size := by omega
  have d0 : decide ((b.size : Int) < 1) = false := by simp; omega
  have d1 : decide ((b.size : Int) - (1 + (z : Int)) < (n : Int)) = true := by simp; omega
  have HT := Lib.hid dt
  have HF := Lib.hid hf2
  have HL := Lib.hid hl
  clear hl ht h0 h1 dt
  go_enter Try.func21, Try.ntmps21
  go_wp2_with (first | (go_at_call 31; (with_reducible refine (hasShortTag_any t HF.out _).mono ?_); rw [HT.out]; rintro e w1 ⟨rfl, rfl⟩) | (go_at_call 41; (with_reducible refine (readLength_any _ _).mono ?_); rw [HL.out]; rintro e w1 ⟨rfl, rfl⟩))
  exact bodyPost_ret (elRes rfl _ _ w _ _ _ rfl (elNew w _)) rfl ⟨rfl, belowNew w _⟩
set_option maxRecDepth 100000 in
set_option maxHeartbeats 1000000 in
theorem read_ok (b : ByteArray) (w : World) (hs : b.size ≤ 1099511627776) (h0 : b.size ≠ 0) (t : Nat) (ht : u8at b 0 = t) (h1 : t % 32 ≠ 31) (n z : Nat) (hl : lnAt (b.extract 1 b.size) 0 = (n, z, 0)) (h2 : 1 + z + n ≤ b.size) (R : Value)
    (hR : R = .tuple #[elV t (b.extract (1 + z) (1 + z + n)) (b.extract 0 (1 + z + n)), .string (b.extract (1 + z + n) b.size), .int .i64 0]) :
    Calls Try.prog 21 #[.string b] w fun e w' => e = .returned R ∧ Below w.heap.size w w' := by
  have he := nonempty_list h0
  have x0 := fun w => run_index_u8 (P := Try.prog) Try.underlying9 b 0 (by omega) (0 : Int) rfl w
  rw [ht] at x0
  have hf2 : t < 256 := by rw [← ht]; exact u8at_lt b 0
  have dt : decide (t % 32 ≠ 31) = true := by simp; omega
  have d0 : decide ((b.size : Int) < 1) = false := by simp; omega
  have d1 : decide ((b.size : Int) - (1 + (z : Int)) < (n : Int)) = false := by simp; omega
  have HT := Lib.hid dt
  have HF := Lib.hid hf2
  have HL := Lib.hid hl
  have HR := Lib.hid hR
  clear hl ht hR h0 h1 dt
  go_enter Try.func21, Try.ntmps21
  go_wp2_with (first | (go_at_call 31; (with_reducible refine (hasShortTag_any t HF.out _).mono ?_); rw [HT.out]; rintro e w1 ⟨rfl, rfl⟩) | (go_at_call 41; (with_reducible refine (readLength_any _ _).mono ?_); rw [HL.out]; rintro e w1 ⟨rfl, rfl⟩))
  go_region
  go_wp2_with fail
  refine bodyPost_ret (elRes rfl _ _ w _ _ _ rfl (elNewD w _)) rfl ⟨?_, (belowNew w _).drew⟩
  rw [HR.out]
  rfl

theorem u8at_tail (b : ByteArray) (i : Nat) : u8at (b.extract 1 b.size) i = u8at b (1 + i) := by
  unfold u8at
  congr 1
  rw [List.getD_eq_getElem?_getD, List.getD_eq_getElem?_getD]
  congr 1
  rw [ByteArray.data_extract, Array.toList_extract, List.extract_eq_take_drop, List.getElem?_take, List.getElem?_drop]
  split
  · rfl
  · rw [List.getElem?_eq_none]
    show b.size ≤ _
    omega
theorem be_tail (b : ByteArray) (o k : Nat) : be (b.extract 1 b.size) o k = be b (1 + o) k := by
  induction k with
  | zero => rfl
  | succ k ih => simp only [be]; rw [ih, u8at_tail, Nat.add_assoc]
theorem lnAt_tail (b : ByteArray) : lnAt (b.extract 1 b.size) 0 = lnAt b 1 := by
  unfold lnAt
  have hs : (b.extract 1 b.size).size = b.size - 1 := by rw [ByteArray.size_extract]; omega
  rw [hs, u8at_tail, be_tail]
  simp only [Nat.add_zero, Nat.zero_add]
  have e1 : (b.size - 1 ≤ 0) = (b.size ≤ 1) := by apply propext; omega
  have e2 : (b.size - 1 < 1 + (u8at b 1 - 128)) = (b.size < 1 + 1 + (u8at b 1 - 128)) := by apply propext; omega
  simp only [e1, e2]
theorem lnAt_size (b : ByteArray) (o : Nat) : (lnAt b o).2.1 ≤ 4 := by
  unfold lnAt
  repeat' split
  all_goals (try simp)
  omega

theorem read_any (b : ByteArray) (w : World) (hs : b.size ≤ 1099511627776) :
    Calls Try.prog 21 #[.string b] w fun e w' => e = .returned (rdVal b) ∧ Below w.heap.size w w' := by
  by_cases h0 : b.size = 0
  · have e : b = ⟨#[]⟩ := by
      apply ByteArray.ext
      exact Array.eq_empty_of_size_eq_zero h0
    subst e
    exact read_empty w
  · have hr : lnAt (b.extract 1 b.size) 0 = ((lnAt b 1).1, (lnAt b 1).2.1, (lnAt b 1).2.2) := lnAt_tail b
    by_cases h1 : u8at b 0 % 32 = 31
    · have hrd : rd b = (5, 0, 0) := by unfold rd; rw [if_neg h0, if_pos h1]
      have : rdVal b = .tuple #[noEl, .string ⟨#[]⟩, .int .i64 5] := by unfold rdVal rdErr; rw [hrd]; rfl
      rw [this]
      exact read_tag b w h0 _ rfl h1
    · by_cases h2 : (lnAt b 1).2.2 = 0
      · by_cases h3 : b.size < 1 + (lnAt b 1).2.1 + (lnAt b 1).1
        · have hrd : rd b = (3, 0, 0) := by unfold rd; rw [if_neg h0, if_neg h1, if_neg (by omega), if_pos h3]
          have : rdVal b = .tuple #[noEl, .string ⟨#[]⟩, .int .i64 3] := by unfold rdVal rdErr; rw [hrd]; rfl
          rw [this]
          rw [h2] at hr
          exact read_cut b w hs h0 _ rfl h1 _ _ hr (lnAt_size b 1) h3
        · have hrd : rd b = (0, 1 + (lnAt b 1).2.1, (lnAt b 1).1) := by unfold rd; rw [if_neg h0, if_neg h1, if_neg (by omega), if_neg h3]
          rw [h2] at hr
          refine read_ok b w hs h0 _ rfl h1 _ _ hr (by omega) _ ?_
          unfold rdVal rdErr rdContent rdRaw rdRest rdTag
          rw [hrd]
          rfl
      · have hrd : rd b = ((lnAt b 1).2.2, 0, 0) := by unfold rd; rw [if_neg h0, if_neg h1, if_pos h2]
        have : rdVal b = .tuple #[noEl, .string ⟨#[]⟩, .int .i64 ((lnAt b 1).2.2 : Nat)] := by unfold rdVal rdErr; rw [hrd, if_neg h2]
        rw [this]
        exact read_len b w hs h0 _ rfl h1 _ _ _ hr h2
end Go.Proofs.Ytgpockpfefjjkaa
