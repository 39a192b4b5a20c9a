/-
  The contract of the reference's Wrap: the same answer as that of tlv.Wrap.
-/
import Derived.Test.YtfpfgdbfigdooaaGreatDoorCbj
import Derived.Test.YtfpfgdbfigdooaaGreatDoorCbe
namespace Go.Proofs.YtfpfgdbfigdooaaGreatDoor
open Go.RowKit

set_option maxRecDepth 100000 in
set_option maxHeartbeats 1000000 in
theorem rwrap_out (T : Int) (v : Value) (w : World) (h : T < 0 ∨ 255 < T) :
    Calls Tryz.prog 62 #[.int .i64 T, v] w fun e w' => e = .returned (.tuple #[.string ⟨#[]⟩, .int .i64 5]) ∧ w' = w := by
  by_cases h0 : T < 0
  · have d0 : decide (T < 0) = true := by simpa using h0
    clear h h0
    go_enter Tryz.func62, Tryz.ntmps62
    go_wp2_with fail
    go_ret2
    exact ⟨rfl, rfl⟩
  · have h1 : 255 < T := by omega
    have d0 : decide (T < 0) = false := by simpa using h0
    have d1 : decide (255 < T) = true := by simpa using h1
    clear h h0 h1
    go_enter Tryz.func62, Tryz.ntmps62
    go_wp2_with fail
    go_ret2
    exact ⟨rfl, rfl⟩
set_option maxRecDepth 100000 in
set_option maxHeartbeats 1000000 in
theorem rwrap_tag (t : Nat) (v : Value) (w : World) (ht : t < 256) (h : t % 32 = 31) :
    Calls Tryz.prog 62 #[.int .i64 (t : Nat), v] w fun e w' => e = .returned (.tuple #[.string ⟨#[]⟩, .int .i64 5]) ∧ w' = w := by
  have d1 : decide (255 < (t : Int)) = false := by simp; omega
  have dt : ((t : Int) % 32 == 31) = true := beq_iff_eq.2 (by omega)
  clear h
  go_enter Tryz.func62, Tryz.ntmps62
  go_wp2_with fail
  go_ret2
  exact ⟨rfl, rfl⟩
theorem wrap_string (y : UInt8) (c : List UInt8) (S : ByteArray) (L : List UInt8) (hS : S.data.toList = c) (hL : L = y :: lenO c.length) : (⟨L.toArray⟩ : ByteArray) ++ S = ⟨(wrapL y.toNat c).toArray⟩ := by
  apply ByteArray.ext
  rw [ByteArray.data_append, ← Array.toList_inj]
  simp only [Array.toList_append, hS, hL]
  unfold wrapL
  rw [UInt8.ofNat_toNat]
  rfl
theorem lenO1 {x : UInt8} (h : x.toNat < 128) : lenO x.toNat = [x] := by unfold lenO; rw [if_pos (lsz1 h), UInt8.ofNat_toNat]
theorem lenO2 {x : UInt8} (h : 128 ≤ x.toNat) : lenO x.toNat = [129, x] := by
  have hz := lsz2 h x.toNat_lt
  unfold lenO
  rw [if_neg (by omega), hz]
  show [UInt8.ofNat 129, UInt8.ofNat (x.toNat / 256 ^ 0)] = _
  rw [Nat.pow_zero, Nat.div_one, UInt8.ofNat_toNat]
  rfl
theorem lenO3 {n : Nat} {x1 x0 : UInt8} (h : 256 ≤ n) (h' : n < 65536) (h1 : (n : Int) / 256 = ((x1.toNat : Nat) : Int)) (h0 : (n : Int) % 256 = ((x0.toNat : Nat) : Int)) : lenO n = [130, x1, x0] := by
  have hz := lsz3 h h'
  unfold lenO
  rw [if_neg (by omega), hz]
  show [UInt8.ofNat 130, UInt8.ofNat (n / 256 ^ 1), UInt8.ofNat (n / 256 ^ 0)] = _
  have q1 : UInt8.ofNat (n / 256 ^ 1) = x1 := by rw [← UInt8.toNat_inj]; simp; omega
  have q2 : UInt8.ofNat (n / 256 ^ 0) = x0 := by rw [← UInt8.toNat_inj]; simp; omega
  rw [q1, q2]
  rfl
theorem lenO4 {n : Nat} {x2 x1 x0 : UInt8} (h : 65536 ≤ n) (h2 : (n : Int) / 65536 = ((x2.toNat : Nat) : Int)) (h1 : (n : Int) / 256 % 256 = ((x1.toNat : Nat) : Int)) (h0 : (n : Int) % 256 = ((x0.toNat : Nat) : Int)) : lenO n = [131, x2, x1, x0] := by
  have hz := lsz4 h
  unfold lenO
  rw [if_neg (by omega), hz]
  show [UInt8.ofNat 131, UInt8.ofNat (n / 256 ^ 2), UInt8.ofNat (n / 256 ^ 1), UInt8.ofNat (n / 256 ^ 0)] = _
  have l2 := x2.toNat_lt
  have q1 : UInt8.ofNat (n / 256 ^ 2) = x2 := by rw [← UInt8.toNat_inj]; simp; omega
  have q2 : UInt8.ofNat (n / 256 ^ 1) = x1 := by rw [← UInt8.toNat_inj]; simp; omega
  have q3 : UInt8.ofNat (n / 256 ^ 0) = x0 := by rw [← UInt8.toNat_inj]; simp; omega
  rw [q1, q2, q3]
  rfl
theorem row_conv (W : World) (g k : Nat) (hg : g = W.heap.size) (L : List UInt8) (hk : k = L.length) (cs : Array Value) (hcs : cs = (L.map bcell).toArray) :
    (convert 61 9 (.slice (some ⟨g, 0, none⟩) k k)).run Tryz.prog (W.alloc (.cells cs 5)) = .ok (.string ⟨L.toArray⟩) (W.alloc (.cells cs 5)) := by
  subst hk
  exact run_convert_lies (P := Tryz.prog) Tryz.underlying61 Tryz.underlying5 Tryz.underlying9 (row_lies W g hg L cs hcs) (Below.refl _ _)

set_option maxRecDepth 100000 in
set_option maxHeartbeats 4000000 in
theorem rwrap_fits (y : UInt8) (a0 : Option Addr) (cap : Nat) (ss : List ByteArray) (w : World) (h : y.toNat % 32 ≠ 31) (hv : Lies w a0 ss) (hn : ss.length < 4611686018427387904) (hb : (cat_t ss).length ≤ 1099511627776) (R : Value)
    (hR : R = if 131072 < (cat_t ss).length then .tuple #[.string ⟨#[]⟩, .int .i64 6] else .tuple #[.string ⟨(wrapL y.toNat (cat_t ss)).toArray⟩, .int .i64 0]) :
    Calls Tryz.prog 62 #[.int .i64 ((y.toNat : Nat) : Int), .slice a0 ss.length cap] w fun e w' => e = .returned R ∧ Below w.heap.size w w' := by
  have hy := y.toNat_lt
  have d1 : decide (255 < ((y.toNat : Nat) : Int)) = false := by simp; omega
  have dt : (((y.toNat : Nat) : Int) % 32 == 31) = false := beq_eq_false_iff_ne.2 (by omega)
  obtain ⟨n, hln⟩ : ∃ n, n = ss.length := ⟨_, rfl⟩
  rw [← hln] at hn ⊢
  have HLN := Lib.hid hln
  have HV := Lib.hid hv
  have HB := Lib.hid hb
  have HR := Lib.hid hR
  have HY := Lib.hid hy
  clear hln hv hb hR h
  go_enter Tryz.func62, Tryz.ntmps62
  go_wp2_with fail
  clear d1 dt
  go_loopw [6, 24] (fun s i wr => ∃ (k : Nat) (S : ByteArray), k ≤ n ∧ i = .int .i64 k ∧ s = .string S ∧ S.data.toList = cat_t (ss.take k) ∧ wr = w) (fun _ i _ => n - (intOf i).toNat)
  case atStart => exact ⟨0, ⟨#[]⟩, Nat.zero_le _, rfl, rfl, rfl, rfl⟩
  case round =>
    obtain ⟨k, S, hk, rfl, rfl, hS, rfl⟩ := hrel
    have HS := Lib.hid hS
    clear hS
    by_cases hlt : k < n
    · have hd : decide ((k : Int) < (n : Int)) = true := by simp; omega
      obtain ⟨b, o, ha, hc⟩ := HV.out.at k (by rw [← HLN.out]; exact hlt)
      have hcs := cat_take_succ ss k (by rw [← HLN.out]; exact hlt)
      have hle := cat_take_le ss (k + 1)
      generalize ss.getD k ByteArray.empty = x at hc hcs
      subst ha
      have hsz : S.size + x.size ≤ 1099511627776 := by
        have h2 := HB.out
        rw [hcs, List.length_append, ← HS.out] at hle
        have h3 : x.data.toList.length = x.size := rfl
        have h4 : S.data.toList.length = S.size := rfl
        omega
      have HCS := Lib.hid hcs
      clear hcs hle
      go_wp2_with fail
      go_roundw
      case rel =>
        refine ⟨k + 1, S ++ x, by omega, by go_num, rfl, ?_, trivial⟩
        rw [HCS.out, ← HS.out]
        simp
      case measure => simp [intOf]; omega
    · have ek : k = n := by omega
      subst ek
      have hd : decide ((k : Int) < (k : Int)) = false := by simp
      have hS : S.data.toList = cat_t ss := by rw [HS.out, List.take_of_length_le (by rw [← HLN.out]; exact Nat.le_refl _)]
      have hsl : (cat_t ss).length = S.size := by rw [← hS]; rfl
      rw [hsl] at HR HB
      have HSS := Lib.hid hS
      have HSL := Lib.hid hsl
      have hsb : S.size ≤ 1099511627776 := HB.out
      have hymod : ((y.toNat : Nat) : Int) % 256 = ((y.toNat : Nat) : Int) := by have := HY.out; omega
      clear hS hsl
      by_cases c0 : 131072 < S.size
      · have e0 : decide (131072 < (S.size : Int)) = true := by simp; omega
        have HF := Lib.hid (HR.out.trans (if_pos c0))
        clear c0
        go_wp2_with fail
        go_ret2
        exact ⟨by rw [HF.out]; rfl, Below.refl _ _⟩
      · have e0 : decide (131072 < (S.size : Int)) = false := by simp; omega
        have HF := Lib.hid (HR.out.trans (if_neg c0))
        have hSm : S.size ≤ 131072 := by omega
        clear c0
        by_cases c1 : S.size < 128
        · have e65536 : decide (65536 ≤ (S.size : Int)) = false := by simp; omega
          have e256 : decide (256 ≤ (S.size : Int)) = false := by simp; omega
          have e128 : decide (128 ≤ (S.size : Int)) = false := by simp; omega
          obtain ⟨x0, hx0⟩ : ∃ x : UInt8, S.size = x.toNat := ⟨UInt8.ofNat S.size, by simp; omega⟩
          have HW := Lib.hid (wrap_string y (cat_t ss) S [y, x0] HSS.out (by rw [HSL.out, hx0, lenO1 (by omega)]))
          have cv := row_conv wr wr.heap.size 2 rfl [y, x0] rfl #[.int .u8 ((y.toNat : Nat) : Int), .int .u8 (S.size : Int)] (by simp [bcell, hx0])
          obtain ⟨B1, hB1⟩ : ∃ B1 : ByteArray, B1 = ⟨[y, x0].toArray⟩ := ⟨_, rfl⟩
          rw [← hB1] at cv HW
          have hb1 : B1.size ≤ 6 := by rw [hB1]; show 2 ≤ 6; omega
          clear hB1 hx0
          go_wp2_with fail
          go_ret2
          exact ⟨by rw [HF.out, ← HW.out]; rfl, belowNew _ _⟩
        · by_cases c2 : S.size < 256
          · have e65536 : decide (65536 ≤ (S.size : Int)) = false := by simp; omega
            have e256 : decide (256 ≤ (S.size : Int)) = false := by simp; omega
            have e128 : decide (128 ≤ (S.size : Int)) = true := by simp; omega
            obtain ⟨x0, hx0⟩ : ∃ x : UInt8, S.size = x.toNat := ⟨UInt8.ofNat S.size, by simp; omega⟩
            have HW := Lib.hid (wrap_string y (cat_t ss) S [y, 129, x0] HSS.out (by rw [HSL.out, hx0, lenO2 (by omega)]))
            have cv := row_conv (wr.alloc (.cells #[.int .u8 ((y.toNat : Nat) : Int), .int .u8 (S.size : Int)] 5)) (wr.heap.size + 1) 3 (by simp) [y, 129, x0] rfl #[.int .u8 ((y.toNat : Nat) : Int), .int .u8 129, .int .u8 (S.size : Int)] (by simp [bcell, hx0])
            obtain ⟨B1, hB1⟩ : ∃ B1 : ByteArray, B1 = ⟨[y, 129, x0].toArray⟩ := ⟨_, rfl⟩
            rw [← hB1] at cv HW
            have hb1 : B1.size ≤ 6 := by rw [hB1]; show 3 ≤ 6; omega
            clear hB1 hx0
            go_wp2_with fail
            go_ret2
            exact ⟨by rw [HF.out, ← HW.out]; rfl, belowNew2 _ _ _⟩
          · by_cases c3 : S.size < 65536
            · have e65536 : decide (65536 ≤ (S.size : Int)) = false := by simp; omega
              have e256 : decide (256 ≤ (S.size : Int)) = true := by simp; omega
              obtain ⟨x0, hx0⟩ : ∃ x : UInt8, (S.size : Int) % 256 = ((x.toNat : Nat) : Int) := ⟨UInt8.ofNat S.size, by simp⟩
              obtain ⟨x1, hx1⟩ : ∃ x : UInt8, (S.size : Int) / 256 = ((x.toNat : Nat) : Int) := ⟨UInt8.ofNat (S.size / 256), by simp; omega⟩
              have HW := Lib.hid (wrap_string y (cat_t ss) S [y, 130, x1, x0] HSS.out (by rw [HSL.out, lenO3 (by omega) (by omega) hx1 hx0]))
              have cv := row_conv (wr.alloc (.cells #[.int .u8 ((y.toNat : Nat) : Int), .int .u8 ((S.size : Int) % 256)] 5)) (wr.heap.size + 1) 4 (by simp) [y, 130, x1, x0] rfl #[.int .u8 ((y.toNat : Nat) : Int), .int .u8 130, .int .u8 ((S.size : Int) / 256), .int .u8 ((S.size : Int) % 256)] (by simp [bcell, hx0, hx1])
              obtain ⟨B1, hB1⟩ : ∃ B1 : ByteArray, B1 = ⟨[y, 130, x1, x0].toArray⟩ := ⟨_, rfl⟩
              rw [← hB1] at cv HW
              have hb1 : B1.size ≤ 6 := by rw [hB1]; show 4 ≤ 6; omega
              clear hB1 hx0 hx1
              go_wp2_with fail
              go_ret2
              exact ⟨by rw [HF.out, ← HW.out]; rfl, belowNew2 _ _ _⟩
            · have e65536 : decide (65536 ≤ (S.size : Int)) = true := by simp; omega
              obtain ⟨x0, hx0⟩ : ∃ x : UInt8, (S.size : Int) % 256 = ((x.toNat : Nat) : Int) := ⟨UInt8.ofNat S.size, by simp⟩
              obtain ⟨x1, hx1⟩ : ∃ x : UInt8, (S.size : Int) / 256 % 256 = ((x.toNat : Nat) : Int) := ⟨UInt8.ofNat (S.size / 256), by simp⟩
              obtain ⟨x2, hx2⟩ : ∃ x : UInt8, (S.size : Int) / 65536 = ((x.toNat : Nat) : Int) := ⟨UInt8.ofNat (S.size / 65536), by simp; omega⟩
              have HW := Lib.hid (wrap_string y (cat_t ss) S [y, 131, x2, x1, x0] HSS.out (by rw [HSL.out, lenO4 (by omega) hx2 hx1 hx0]))
              have cv := row_conv (wr.alloc (.cells #[.int .u8 ((y.toNat : Nat) : Int), .int .u8 ((S.size : Int) % 256)] 5)) (wr.heap.size + 1) 5 (by simp) [y, 131, x2, x1, x0] rfl #[.int .u8 ((y.toNat : Nat) : Int), .int .u8 131, .int .u8 ((S.size : Int) / 65536), .int .u8 ((S.size : Int) / 256 % 256), .int .u8 ((S.size : Int) % 256)] (by simp [bcell, hx0, hx1, hx2])
              obtain ⟨B1, hB1⟩ : ∃ B1 : ByteArray, B1 = ⟨[y, 131, x2, x1, x0].toArray⟩ := ⟨_, rfl⟩
              rw [← hB1] at cv HW
              have hb1 : B1.size ≤ 6 := by rw [hB1]; show 5 ≤ 6; omega
              clear hB1 hx0 hx1 hx2
              go_wp2_with fail
              go_ret2
              exact ⟨by rw [HF.out, ← HW.out]; rfl, belowNew2 _ _ _⟩

theorem rwrap_any (T : Int) (v : Value) (ss : List ByteArray) (w : World) (hv : Reads w v ss) (hn : ss.length < 4611686018427387904) (hb : (cat_t ss).length ≤ 1099511627776) :
    Calls Tryz.prog 62 #[.int .i64 T, v] w fun e w' => e = .returned (wrapVal T (cat_t ss)) ∧ Below w.heap.size w w' := by
  by_cases h0 : T < 0 ∨ 255 < T
  · have e : wrapErr T (cat_t ss).length = 5 := if_pos (by omega)
    unfold wrapVal wrapStr
    rw [e]
    exact (rwrap_out T v w h0).mono fun _ _ h => ⟨h.1, by rw [h.2]; exact Below.refl _ _⟩
  · obtain ⟨t, rfl⟩ := Int.eq_ofNat_of_zero_le (show 0 ≤ T by omega)
    have ht : t < 256 := by omega
    by_cases h1 : t % 32 = 31
    · have e : wrapErr (t : Int) (cat_t ss).length = 5 := if_pos (by omega)
      unfold wrapVal wrapStr
      rw [e]
      exact (rwrap_tag t v w ht h1).mono fun _ _ h => ⟨h.1, by rw [h.2]; exact Below.refl _ _⟩
    · obtain ⟨a, cap, rfl, hl⟩ := hv
      obtain ⟨y, rfl⟩ : ∃ y : UInt8, t = y.toNat := ⟨UInt8.ofNat t, by simp; omega⟩
      refine rwrap_fits y a cap ss w h1 hl hn hb _ ?_
      by_cases h2 : (cat_t ss).length ≤ 131072
      · have e : wrapErr ((y.toNat : Nat) : Int) (cat_t ss).length = 0 := by unfold wrapErr; rw [if_neg (by omega), if_neg (by omega)]
        unfold wrapVal wrapStr
        rw [e, if_neg (show ¬ 131072 < (cat_t ss).length by omega)]
        rfl
      · have e : wrapErr ((y.toNat : Nat) : Int) (cat_t ss).length = 6 := by unfold wrapErr; rw [if_neg (by omega), if_pos (by omega)]
        unfold wrapVal wrapStr
        rw [e, if_pos (show 131072 < (cat_t ss).length by omega)]
        rfl
end Go.Proofs.YtfpfgdbfigdooaaGreatDoor
