/-
  The contract of tlv.readLength: what the octets say, and that nothing has changed.
  The contract of tlv.Read: the element at the beginning and the bytes behind it, or the error; nothing that was there before the call has changed.
-/
import Derived.Test.YtpmlkofceidnjaaDoorAaa
import Derived.Test.YtpmlkofceidnjaaDoorAaf
namespace Go.Proofs.YtpmlkofceidnjaaDoor
open Go.RowKit

set_option maxRecDepth 100000 in
theorem readLength_empty (w : World) :
    Calls Tryd.prog 48 #[.string ⟨#[]⟩] w fun e w' => e = .returned (.tuple #[.int .i64 0, .int .i64 0, .int .i64 3]) ∧ w' = w := by
  go_enter Tryd.func48, Tryd.ntmps48
  go_wp2_with fail
  refine bodyPost_ret (results_tmp3 rfl _ _ _) rfl ?_
  exact ⟨rfl, rfl⟩
set_option maxRecDepth 100000 in
theorem readLength_short (c : ByteArray) (w : World) (h0 : c.size ≠ 0) (f : Nat) (hf : u8at c 0 = f) (h : f < 128) :
    Calls Tryd.prog 48 #[.string c] w fun e w' => e = .returned (.tuple #[.int .i64 (f : Nat), .int .i64 1, .int .i64 0]) ∧ w' = w := by
  have he := nonempty_list h0
  have x0 := fun w => run_index_u8 (P := Tryd.prog) Tryd.underlying9 c 0 (by omega) (0 : Int) rfl w
  rw [hf] at x0
  have d1 : decide ((f : Int) < 128) = true := by simp; omega
  clear hf h0
  go_enter Tryd.func48, Tryd.ntmps48
  go_wp2_with fail
  refine bodyPost_ret (results_tmp3 rfl _ _ _) rfl ?_
  exact ⟨rfl, rfl⟩
set_option maxRecDepth 100000 in
theorem readLength_bad (c : ByteArray) (w : World) (h0 : c.size ≠ 0) (f : Nat) (hf : u8at c 0 = f) (h : f = 128 ∨ 131 < f) :
    Calls Tryd.prog 48 #[.string c] w fun e w' => e = .returned (.tuple #[.int .i64 0, .int .i64 0, .int .i64 6]) ∧ w' = w := by
  have he := nonempty_list h0
  have x0 := fun w => run_index_u8 (P := Tryd.prog) Tryd.underlying9 c 0 (by omega) (0 : Int) rfl w
  rw [hf] at x0
  have hf2 : f < 256 := by rw [← hf]; exact u8at_lt c 0
  have d1 : decide ((f : Int) < 128) = false := by simp; omega
  clear hf h0
  rcases h with rfl | h
  · go_enter Tryd.func48, Tryd.ntmps48
    go_wp2_with fail
    refine bodyPost_ret (results_tmp3 rfl _ _ _) rfl ?_
    exact ⟨rfl, rfl⟩
  · have d2 : decide (1 + (f : Int) - 128 = 1) = false := by simp; omega
    have d3 : decide (4 < 1 + (f : Int) - 128) = true := by simp; omega
    go_enter Tryd.func48, Tryd.ntmps48
    go_wp2_with fail
    refine bodyPost_ret (results_tmp3 rfl _ _ _) rfl ?_
    exact ⟨rfl, rfl⟩
set_option maxRecDepth 100000 in
theorem readLength_cut (c : ByteArray) (w : World) (h0 : c.size ≠ 0) (f : Nat) (hf : u8at c 0 = f) (h1 : 128 < f) (h2 : f ≤ 131) (h3 : c.size < 1 + (f - 128)) :
    Calls Tryd.prog 48 #[.string c] w fun e w' => e = .returned (.tuple #[.int .i64 0, .int .i64 0, .int .i64 3]) ∧ w' = w := by
  have he := nonempty_list h0
  have x0 := fun w => run_index_u8 (P := Tryd.prog) Tryd.underlying9 c 0 (by omega) (0 : Int) rfl w
  rw [hf] at x0
  have d1 : decide ((f : Int) < 128) = false := by simp; omega
  have d2 : decide (1 + (f : Int) - 128 = 1) = false := by simp; omega
  have d3 : decide (4 < 1 + (f : Int) - 128) = false := by simp; omega
  have d4 : decide ((c.size : Int) < 1 + (f : Int) - 128) = true := by simp; omega
  clear hf h0
  go_enter Tryd.func48, Tryd.ntmps48
  go_wp2_with fail
  refine bodyPost_ret (results_tmp3 rfl _ _ _) rfl ?_
  exact ⟨rfl, rfl⟩
theorem or8 (a b : Nat) (ha : a < 65536) (hb : b < 256) : bits BinOp.or .i64 ((a : Int) * 256) (b : Int) = ((256 * a + b : Nat) : Int) := by
  have e : (a : Int) * 256 = ((256 * a : Nat) : Int) := by omega
  have h : 256 * a ||| b = 256 * a + b := (Nat.two_pow_add_eq_or_of_lt (i := 8) hb a).symm
  rw [e]
  show IntKind.i64.wrap ((BitVec.ofInt 64 ((256 * a : Nat) : Int) ||| BitVec.ofInt 64 (b : Int)).toNat : Int) = _
  rw [BitVec.toNat_or, BitVec.ofInt_natCast, BitVec.toNat_ofNat, BitVec.ofInt_natCast, BitVec.toNat_ofNat, Nat.mod_eq_of_lt (by omega), Nat.mod_eq_of_lt (by omega), h]
  simp [IntKind.wrap, IntKind.bits, IntKind.signed]
  omega
theorem lsz_cases (v : Nat) : (v < 128 ∧ lsz v = 1) ∨ (128 ≤ v ∧ v < 256 ∧ lsz v = 2) ∨ (256 ≤ v ∧ v < 65536 ∧ lsz v = 3) ∨ (65536 ≤ v ∧ lsz v = 4) := by
  by_cases h1 : v < 128
  · exact .inl ⟨h1, lsz1 h1⟩
  · by_cases h2 : v < 256
    · exact .inr (.inl ⟨by omega, h2, lsz2 (by omega) h2⟩)
    · by_cases h3 : v < 65536
      · exact .inr (.inr (.inl ⟨by omega, h3, lsz3 (by omega) h3⟩))
      · exact .inr (.inr (.inr ⟨by omega, lsz4 (by omega)⟩))
theorem least_one : least 1 = 128 := rfl
theorem least_two : least 2 = 256 := rfl
theorem least_three : least 3 = 65536 := rfl
theorem least_ok {v k : Nat} (h1 : 0 < k) (h2 : k ≤ 3) (h : lsz v = 1 + k) : ¬ v < least k := by
  have := lsz_cases v
  rcases (by omega : k = 1 ∨ k = 2 ∨ k = 3) with rfl | rfl | rfl
  · rw [least_one]; omega
  · rw [least_two]; omega
  · rw [least_three]; omega
theorem least_bad {v k : Nat} (h1 : 0 < k) (h2 : k ≤ 3) (hv : v < 256 ^ k) (h : ¬ lsz v = 1 + k) : v < least k := by
  have := lsz_cases v
  rcases (by omega : k = 1 ∨ k = 2 ∨ k = 3) with rfl | rfl | rfl
  · rw [least_one]; omega
  · rw [least_two]; omega
  · rw [least_three]; omega
set_option maxRecDepth 100000 in
theorem readLength_long (c : ByteArray) (w : World) (h0 : c.size ≠ 0) (f : Nat) (hf : u8at c 0 = f) (h1 : 128 < f) (h2 : f ≤ 131) (h3 : 1 + (f - 128) ≤ c.size) (v : Nat) (hv : v = be c 1 (f - 128)) (R : Value)
    (hR : R = if v < least (f - 128) ∨ 131072 < v then .tuple #[.int .i64 0, .int .i64 0, .int .i64 6] else .tuple #[.int .i64 (v : Nat), .int .i64 (1 + (f - 128) : Nat), .int .i64 0]) :
    Calls Tryd.prog 48 #[.string c] w fun e w' => e = .returned R ∧ w' = w := by
  have he := nonempty_list h0
  have x0 := fun w => run_index_u8 (P := Tryd.prog) Tryd.underlying9 c 0 (by omega) (0 : Int) rfl w
  rw [hf] at x0
  obtain ⟨k, rfl⟩ : ∃ k, f = 128 + k := ⟨f - 128, by omega⟩
  have ek : 128 + k - 128 = k := by omega
  rw [ek] at hv hR h3
  have hkI : 1 + (128 + (k : Int)) - 128 = 1 + (k : Int) := by omega
  have d1 : decide (128 + (k : Int) < 128) = false := by simp; omega
  have d2 : decide (1 + (k : Int) = 1) = false := by simp; omega
  have d3 : decide (4 < 1 + (k : Int)) = false := by simp; omega
  have d4 : decide ((c.size : Int) < 1 + (k : Int)) = false := by simp; omega
  have HV := Lib.hid hv
  have HR := Lib.hid hR
  have h1' : 0 < k := by omega
  have h2' : k ≤ 3 := by omega
  clear hf h0 hv hR ek h1 h2
  go_enter Tryd.func48, Tryd.ntmps48
  go_wp2_with fail
  go_loopw [7, 8] (fun l i wr => ∃ j : Nat, j ≤ k ∧ i = .int .i64 (1 + (j : Int)) ∧ l = .int .i64 (be c 1 j : Nat) ∧ wr = w) (fun _ i _ => 10 - (intOf i).toNat)
  case atStart => exact ⟨0, by omega, rfl, rfl, rfl⟩
  case round =>
    obtain ⟨j, hj, rfl, rfl, rfl⟩ := hrel
    by_cases hlt : j < k
    · have hd : decide (1 + (j : Int) < 1 + (k : Int)) = true := by simp; omega
      have xj := fun w => run_index_u8 (P := Tryd.prog) Tryd.underlying9 c (1 + j) (by omega) (1 + (j : Int)) (by omega) w
      have hyl := u8at_lt c (1 + j)
      generalize ey : u8at c (1 + j) = y at xj hyl
      have hxl : be c 1 j < 65536 := Nat.lt_of_lt_of_le (be_lt c 1 j) (by rcases (by omega : j = 0 ∨ j = 1 ∨ j = 2) with rfl | rfl | rfl <;> decide)
      generalize ex : be c 1 j = x at hxl ⊢
      have HEY := Lib.hid ey
      have HEX := Lib.hid ex
      clear ey ex
      go_wp2_with fail
      go_roundw
      case rel =>
        refine ⟨j + 1, by omega, by go_num, ?_, trivial⟩
        rw [or8 x y hxl hyl, ← HEX.out, ← HEY.out]
        rfl
      case measure => simp [intOf]; omega
    · have ej : j = k := by omega
      subst ej
      have hd : decide (1 + (j : Int) < 1 + (j : Int)) = false := by simp
      rw [← HV.out]
      by_cases hm : 131072 < v
      · have dm : decide (131072 < (v : Int)) = true := by simp; omega
        have HM := Lib.hid hm
        clear hm
        go_wp2_with fail
        refine bodyPost_ret (results_tmp3 rfl _ _ _) rfl ?_
        refine ⟨?_, rfl⟩
        rw [HR.out, if_pos (Or.inr HM.out)]
        rfl
      · have dm : decide (131072 < (v : Int)) = false := by simp; omega
        by_cases hs : lsz v = 1 + j
        · have ds : (((lsz v : Nat) : Int) != 1 + (j : Int)) = false := by simp; omega
          have HS := Lib.hid hs
          have HM := Lib.hid hm
          clear hs hm
          go_wp2_with (go_at_call 51; (with_reducible refine (lengthSize_any _ _).mono ?_); rintro e w1 ⟨rfl, rfl⟩)
          refine bodyPost_ret (results_tmp3 rfl _ _ _) rfl ?_
          refine ⟨?_, rfl⟩
          rw [HR.out, if_neg (fun h => h.elim (least_ok h1' h2' HS.out) HM.out)]
          rfl
        · have ds : (((lsz v : Nat) : Int) != 1 + (j : Int)) = true := by simp; omega
          have HS := Lib.hid hs
          have HM := Lib.hid hm
          clear hs hm
          go_wp2_with (go_at_call 51; (with_reducible refine (lengthSize_any _ _).mono ?_); rintro e w1 ⟨rfl, rfl⟩)
          refine bodyPost_ret (results_tmp3 rfl _ _ _) rfl ?_
          refine ⟨?_, rfl⟩
          rw [HR.out, if_pos (Or.inl (least_bad h1' h2' (by rw [HV.out]; exact be_lt c 1 j) HS.out))]
          rfl

theorem readLength_any (c : ByteArray) (w : World) :
    Calls Tryd.prog 48 #[.string c] w fun e w' => e = .returned (.tuple #[.int .i64 ((lnAt c 0).1 : Nat), .int .i64 ((lnAt c 0).2.1 : Nat), .int .i64 ((lnAt c 0).2.2 : Nat)]) ∧ w' = w := by
  unfold lnAt
  by_cases h0 : c.size ≤ 0
  · rw [if_pos h0]
    have e : c = ⟨#[]⟩ := by
      apply ByteArray.ext
      exact Array.eq_empty_of_size_eq_zero (Nat.le_zero.1 h0)
    subst e
    exact readLength_empty w
  · rw [if_neg h0]
    by_cases h1 : u8at c 0 < 128
    · rw [if_pos h1]
      exact readLength_short c w (by omega) _ rfl h1
    · rw [if_neg h1]
      by_cases h2 : u8at c 0 = 128 ∨ 131 < u8at c 0
      · rw [if_pos h2]
        exact readLength_bad c w (by omega) _ rfl h2
      · rw [if_neg h2]
        by_cases h3 : c.size < 0 + 1 + (u8at c 0 - 128)
        · rw [if_pos h3]
          exact readLength_cut c w (by omega) _ rfl (by omega) (by omega) (by omega)
        · rw [if_neg h3]
          refine readLength_long c w (by omega) (u8at c 0) rfl (by omega) (by omega) (by omega) (be c (0 + 1) (u8at c 0 - 128)) (by rw [Nat.zero_add]) _ ?_
          by_cases h4 : be c (0 + 1) (u8at c 0 - 128) < least (u8at c 0 - 128) ∨ 131072 < be c (0 + 1) (u8at c 0 - 128)
          · rw [if_pos h4, if_pos h4]; simp
          · rw [if_neg h4, if_neg h4]; simp
end Go.Proofs.YtpmlkofceidnjaaDoor
namespace Go.Proofs.YtpmlkofceidnjaaDoor
open Go.RowKit

theorem elSize : (Tryd.prog.info? 46).map (·.size) = some 3 := by kernel_rfl
theorem elRes {fn : Func} {p u v : Tmp} (h : fn.results = #[.cell p 46, .tmp u, .tmp v]) (tmps : Array Value) (w w0 : World) (x y z : Value)
    (hp : tmps.getD p undef = .pointer (some ⟨w0.heap.size, 0, none⟩)) (hg : w.heap[w0.heap.size]? = some (.cells #[x, y, z] 46 (0, 0))) :
    (results fn tmps).run Tryd.prog w = .ok (.tuple #[.agg #[x, y, z], tmps.getD u undef, tmps.getD v undef]) w :=
  results_cell_row3 h tmps w w0.heap.size 46 #[x, y, z] (0, 0) _ hp hg Tryd.underlying46 rfl elSize
theorem elNew (w : World) (cs : Array Value) : (w.alloc (.cells cs 46)).heap[w.heap.size]? = some (.cells cs 46 (0, 0)) := heap_alloc_new w _
theorem elNewD (w : World) (cs : Array Value) : (w.alloc (.cells cs 46)).drew.heap[w.heap.size]? = some (.cells cs 46 (0, 0)) := heap_alloc_new w _
set_option maxRecDepth 100000 in
theorem read_empty (w : World) :
    Calls Tryd.prog 30 #[.string ⟨#[]⟩] w fun e w' => e = .returned (.tuple #[noEl, .string ⟨#[]⟩, .int .i64 3]) ∧ Below w.heap.size w w' := by
  go_enter Tryd.func30, Tryd.ntmps30
  go_wp2_with fail
  exact bodyPost_ret (elRes rfl _ _ w _ _ _ rfl (elNew w _)) rfl ⟨rfl, belowNew w _⟩
set_option maxRecDepth 100000 in
set_option maxHeartbeats 1000000 in
theorem read_tag (b : ByteArray) (w : World) (h0 : b.size ≠ 0) (t : Nat) (ht : u8at b 0 = t) (h1 : t % 32 = 31) :
    Calls Tryd.prog 30 #[.string b] w fun e w' => e = .returned (.tuple #[noEl, .string ⟨#[]⟩, .int .i64 5]) ∧ Below w.heap.size w w' := by
  have he := nonempty_list h0
  have x0 := fun w => run_index_u8 (P := Tryd.prog) Tryd.underlying9 b 0 (by omega) (0 : Int) rfl w
  rw [ht] at x0
  have hf2 : t < 256 := by rw [← ht]; exact u8at_lt b 0
  have dt : decide (t % 32 ≠ 31) = false := by simp; omega
  have HT := Lib.hid dt
  have HF := Lib.hid hf2
  clear ht h0 h1 dt
  go_enter Tryd.func30, Tryd.ntmps30
  go_wp2_with (go_at_call 39; (with_reducible refine (hasShortTag_any t HF.out _).mono ?_); rw [HT.out]; rintro e w1 ⟨rfl, rfl⟩)
  exact bodyPost_ret (elRes rfl _ _ w _ _ _ rfl (elNew w _)) rfl ⟨rfl, belowNew w _⟩
set_option maxRecDepth 100000 in
set_option maxHeartbeats 1000000 in
theorem read_len (b : ByteArray) (w : World) (hs : b.size ≤ 1099511627776) (h0 : b.size ≠ 0) (t : Nat) (ht : u8at b 0 = t) (h1 : t % 32 ≠ 31) (n z x : Nat) (hl : lnAt (b.extract 1 b.size) 0 = (n, z, x)) (hx : x ≠ 0) :
    Calls Tryd.prog 30 #[.string b] w fun e w' => e = .returned (.tuple #[noEl, .string ⟨#[]⟩, .int .i64 (x : Nat)]) ∧ Below w.heap.size w w' := by
  have he := nonempty_list h0
  have x0 := fun w => run_index_u8 (P := Tryd.prog) Tryd.underlying9 b 0 (by omega) (0 : Int) rfl w
  rw [ht] at x0
  have hf2 : t < 256 := by rw [← ht]; exact u8at_lt b 0
  have dt : decide (t % 32 ≠ 31) = true := by simp; omega
  have h0' : 1 ≤ b.size := by omega
  have d0 : decide ((b.size : Int) < 1) = false := by simp; omega
  have dx : ((x : Int) != 0) = true := by simp; omega
  have HT := Lib.hid dt
  have HF := Lib.hid hf2
  have HL := Lib.hid hl
  clear hl ht h0 h1 dt hx
  go_enter Tryd.func30, Tryd.ntmps30
  go_wp2_with (first | (go_at_call 39; (with_reducible refine (hasShortTag_any t HF.out _).mono ?_); rw [HT.out]; rintro e w1 ⟨rfl, rfl⟩) | (go_at_call 48; (with_reducible refine (readLength_any _ _).mono ?_); rw [HL.out]; rintro e w1 ⟨rfl, rfl⟩))
  exact bodyPost_ret (elRes rfl _ _ w _ _ _ rfl (elNew w _)) rfl ⟨rfl, belowNew w _⟩
set_option maxRecDepth 100000 in
set_option maxHeartbeats 1000000 in
theorem read_cut (b : ByteArray) (w : World) (hs : b.size ≤ 1099511627776) (h0 : b.size ≠ 0) (t : Nat) (ht : u8at b 0 = t) (h1 : t % 32 ≠ 31) (n z : Nat) (hl : lnAt (b.extract 1 b.size) 0 = (n, z, 0)) (hz : z ≤ 4) (h2 : b.size < 1 + z + n) :
    Calls Tryd.prog 30 #[.string b] w fun e w' => e = .returned (.tuple #[noEl, .string ⟨#[]⟩, .int .i64 3]) ∧ Below w.heap.size w w' := by
  have he := nonempty_list h0
  have x0 := fun w => run_index_u8 (P := Tryd.prog) Tryd.underlying9 b 0 (by omega) (0 : Int) rfl w
  rw [ht] at x0
  have hf2 : t < 256 := by rw [← ht]; exact u8at_lt b 0
  have dt : decide (t % 32 ≠ 31) = true := by simp; omega
  have h0' : 1 ≤ b.size := by omega
  have d0 : decide ((b.size : Int) < 1) = false := by simp; omega
  have d1 : decide ((b.size : Int) - (1 + (z : Int)) < (n : Int)) = true := by simp; omega
  have HT := Lib.hid dt
  have HF := Lib.hid hf2
  have HL := Lib.hid hl
  clear hl ht h0 h1 dt
  go_enter Tryd.func30, Tryd.ntmps30
  go_wp2_with (first | (go_at_call 39; (with_reducible refine (hasShortTag_any t HF.out _).mono ?_); rw [HT.out]; rintro e w1 ⟨rfl, rfl⟩) | (go_at_call 48; (with_reducible refine (readLength_any _ _).mono ?_); rw [HL.out]; rintro e w1 ⟨rfl, rfl⟩))
  exact bodyPost_ret (elRes rfl _ _ w _ _ _ rfl (elNew w _)) rfl ⟨rfl, belowNew w _⟩
set_option maxRecDepth 100000 in
set_option maxHeartbeats 1000000 in
theorem read_ok (b : ByteArray) (w : World) (hs : b.size ≤ 1099511627776) (h0 : b.size ≠ 0) (t : Nat) (ht : u8at b 0 = t) (h1 : t % 32 ≠ 31) (n z : Nat) (hl : lnAt (b.extract 1 b.size) 0 = (n, z, 0)) (h2 : 1 + z + n ≤ b.size) (R : Value)
    (hR : R = .tuple #[elV t (b.extract (1 + z) (1 + z + n)) (b.extract 0 (1 + z + n)), .string (b.extract (1 + z + n) b.size), .int .i64 0]) :
    Calls Tryd.prog 30 #[.string b] w fun e w' => e = .returned R ∧ Below w.heap.size w w' := by
  have he := nonempty_list h0
  have x0 := fun w => run_index_u8 (P := Tryd.prog) Tryd.underlying9 b 0 (by omega) (0 : Int) rfl w
  rw [ht] at x0
  have hf2 : t < 256 := by rw [← ht]; exact u8at_lt b 0
  have dt : decide (t % 32 ≠ 31) = true := by simp; omega
  have d0 : decide ((b.size : Int) < 1) = false := by simp; omega
  have d1 : decide ((b.size : Int) - (1 + (z : Int)) < (n : Int)) = false := by simp; omega
  have HT := Lib.hid dt
  have HF := Lib.hid hf2
  have HL := Lib.hid hl
  have HR := Lib.hid hR
  clear hl ht hR h0 h1 dt
  go_enter Tryd.func30, Tryd.ntmps30
  go_wp2_with (first | (go_at_call 39; (with_reducible refine (hasShortTag_any t HF.out _).mono ?_); rw [HT.out]; rintro e w1 ⟨rfl, rfl⟩) | (go_at_call 48; (with_reducible refine (readLength_any _ _).mono ?_); rw [HL.out]; rintro e w1 ⟨rfl, rfl⟩))
  go_region
  go_wp2_with fail
  refine bodyPost_ret (elRes rfl _ _ w _ _ _ rfl (elNewD w _)) rfl ⟨?_, (belowNew w _).drew⟩
  rw [HR.out]
  rfl

theorem u8at_tail (b : ByteArray) (i : Nat) : u8at (b.extract 1 b.size) i = u8at b (1 + i) := by
  unfold u8at
  congr 1
  rw [List.getD_eq_getElem?_getD, List.getD_eq_getElem?_getD]
  congr 1
  rw [ByteArray.data_extract, Array.toList_extract, List.extract_eq_take_drop, List.getElem?_take, List.getElem?_drop]
  split
  · rfl
  · rw [List.getElem?_eq_none]
    show b.size ≤ _
    omega
theorem be_tail (b : ByteArray) (o k : Nat) : be (b.extract 1 b.size) o k = be b (1 + o) k := by
  induction k with
  | zero => rfl
  | succ k ih => simp only [be]; rw [ih, u8at_tail, Nat.add_assoc]
theorem lnAt_tail (b : ByteArray) : lnAt (b.extract 1 b.size) 0 = lnAt b 1 := by
  unfold lnAt
  have hs : (b.extract 1 b.size).size = b.size - 1 := by rw [ByteArray.size_extract]; omega
  rw [hs, u8at_tail, be_tail]
  simp only [Nat.add_zero, Nat.zero_add]
  have e1 : (b.size - 1 ≤ 0) = (b.size ≤ 1) := by apply propext; omega
  have e2 : (b.size - 1 < 1 + (u8at b 1 - 128)) = (b.size < 1 + 1 + (u8at b 1 - 128)) := by apply propext; omega
  simp only [e1, e2]
theorem lnAt_size (b : ByteArray) (o : Nat) : (lnAt b o).2.1 ≤ 4 := by
  unfold lnAt
  repeat' split
  all_goals (try simp)
  omega

theorem read_any (b : ByteArray) (w : World) (hs : b.size ≤ 1099511627776) :
    Calls Tryd.prog 30 #[.string b] w fun e w' => e = .returned (rdVal b) ∧ Below w.heap.size w w' := by
  by_cases h0 : b.size = 0
  · have e : b = ⟨#[]⟩ := by
      apply ByteArray.ext
      exact Array.eq_empty_of_size_eq_zero h0
    subst e
    exact read_empty w
  · have hr : lnAt (b.extract 1 b.size) 0 = ((lnAt b 1).1, (lnAt b 1).2.1, (lnAt b 1).2.2) := lnAt_tail b
    by_cases h1 : u8at b 0 % 32 = 31
    · have hrd : rd b = (5, 0, 0) := by unfold rd; rw [if_neg h0, if_pos h1]
      have : rdVal b = .tuple #[noEl, .string ⟨#[]⟩, .int .i64 5] := by unfold rdVal rdErr; rw [hrd]; rfl
      rw [this]
      exact read_tag b w h0 _ rfl h1
    · by_cases h2 : (lnAt b 1).2.2 = 0
      · by_cases h3 : b.size < 1 + (lnAt b 1).2.1 + (lnAt b 1).1
        · have hrd : rd b = (3, 0, 0) := by unfold rd; rw [if_neg h0, if_neg h1, if_neg (by omega), if_pos h3]
          have : rdVal b = .tuple #[noEl, .string ⟨#[]⟩, .int .i64 3] := by unfold rdVal rdErr; rw [hrd]; rfl
          rw [this]
          rw [h2] at hr
          exact read_cut b w hs h0 _ rfl h1 _ _ hr (lnAt_size b 1) h3
        · have hrd : rd b = (0, 1 + (lnAt b 1).2.1, (lnAt b 1).1) := by unfold rd; rw [if_neg h0, if_neg h1, if_neg (by omega), if_neg h3]
          rw [h2] at hr
          refine read_ok b w hs h0 _ rfl h1 _ _ hr (by omega) _ ?_
          unfold rdVal rdErr rdContent rdRaw rdRest rdTag
          rw [hrd]
          rfl
      · have hrd : rd b = ((lnAt b 1).2.2, 0, 0) := by unfold rd; rw [if_neg h0, if_neg h1, if_pos h2]
        have : rdVal b = .tuple #[noEl, .string ⟨#[]⟩, .int .i64 ((lnAt b 1).2.2 : Nat)] := by unfold rdVal rdErr; rw [hrd, if_neg h2]
        rw [this]
        exact read_len b w hs h0 _ rfl h1 _ _ _ hr h2
end Go.Proofs.YtpmlkofceidnjaaDoor
