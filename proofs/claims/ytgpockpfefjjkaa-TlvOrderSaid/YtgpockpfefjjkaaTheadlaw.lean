/-
  The walk of the law TlvHeads: for all numbers it returns true, and leaves all that was there as it was.
-/
import Derived.Test.YtgpockpfefjjkaaTreadlaw
namespace Go.Proofs.Ytgpockpfefjjkaa
open Go.RowKit

theorem heads_make (h m : Nat) (hm : m = h % 700) : ∃ Z : Array Value, Z = ((List.replicate m (0 : UInt8)).map bcell).toArray ∧ ∀ W : World, (Instr.makeSlice 22 (.int .u16 ((h : Int) % 700)) (.int .u16 ((h : Int) % 700))).run Try.prog W = .ok (.slice (some ⟨W.heap.size, 0, none⟩) m m) (W.alloc (.cells Z 5)) := by
  obtain ⟨i0, hi, hz0, hz1, hz2⟩ := info_parts byteInfo
  refine ⟨_, rfl, fun W => ?_⟩
  have e : (h : Int) % 700 = (m : Int) := by omega
  rw [e]
  have hr := run_makeSlice (P := Try.prog) W 22 5 i0 (.int .u8 0) Try.underlying22 hi hz0 .u16 .u16 (m : Int) (m : Int) (by omega) (Int.le_refl _) (by rw [hz1]; simp; omega) (by rw [hz2]; omega) (by omega)
  rw [hr]
  have e2 : madeCells (Value.int .u8 0).cells ((m : Int).toNat * i0.size) = ((List.replicate m (0 : UInt8)).map bcell).toArray := by
    rw [hz1]
    apply Array.ext
    · simp [madeCells, Value.cells]
    · intro i h1 h2
      simp [madeCells, Value.cells, bcell, Nat.mod_one]
  rw [e2]
  simp
theorem row_lies (W : World) (g : Nat) (hg : g = W.heap.size) (l : List UInt8) (cs : Array Value) (hcs : cs = (l.map bcell).toArray) : BLies (W.alloc (.cells cs 5)) (some ⟨g, 0, none⟩) l := by
  subst hg hcs
  refine .inr ⟨_, _, rfl, fun i hi => ?_⟩
  rw [Lib.cell_of_heap (heap_alloc_new W _)]
  simp [hi]
theorem heads_conv (W : World) (a : Option Addr) (L : List UInt8) (k : Nat) (hk : k = L.length) (cap m : Nat) (Z : Array Value) (hl : BLies W a L) (hZ : Z = ((List.replicate m (0 : UInt8)).map bcell).toArray) :
    (convert 22 9 (.slice a k cap)).run Try.prog W.drew = .ok (.string ⟨L.toArray⟩) W.drew ∧
    (convert 22 9 (.slice a k cap)).run Try.prog (W.alloc (.cells Z 5)).drew = .ok (.string ⟨L.toArray⟩) (W.alloc (.cells Z 5)).drew ∧
    (convert 22 9 (.slice (some ⟨W.heap.size, 0, none⟩) m m)).run Try.prog (W.alloc (.cells Z 5)).drew = .ok (.string ⟨(List.replicate m (0 : UInt8)).toArray⟩) (W.alloc (.cells Z 5)).drew := by
  subst hk
  refine ⟨?_, ?_, ?_⟩
  · exact run_convert_lies (P := Try.prog) Try.underlying22 Try.underlying5 Try.underlying9 hl (Below.refl _ _).drew
  · exact run_convert_lies (P := Try.prog) Try.underlying22 Try.underlying5 Try.underlying9 hl (belowNew W _).drew
  · have := run_convert_lies (P := Try.prog) (src := 22) (dst := 9) (cap := m) Try.underlying22 Try.underlying5 Try.underlying9 (row_lies W W.heap.size rfl (List.replicate m 0) Z hZ) (Below.refl _ _).drew
    rwa [List.length_replicate] at this

theorem ext_le (b : ByteArray) (j : Nat) : (b.extract 0 j).size ≤ b.size := by rw [ByteArray.size_extract]; omega

set_option maxRecDepth 100000 in
set_option maxHeartbeats 2000000 in
theorem heads_zero (t f n h c : Nat) (w : World) (ht : t < 256) (hf : f < 256) (hn : n < 4294967296) (hh : h < 65536) (hc : c < 256) (h0 : f % 5 = 0) :
    Calls Try.prog 4 #[.int .u8 (t : Nat), .int .u8 (f : Nat), .int .u32 (n : Nat), .int .u16 (h : Nat), .int .u8 (c : Nat)] w fun e w' => e = .returned (.bool true) ∧ Below w.heap.size w w' := by
  obtain ⟨v, hv⟩ : ∃ v, v = n % 262144 := ⟨_, rfl⟩
  have hvI : (n : Int) % 262144 = (v : Int) := by omega
  have hvl : v < 262144 := by omega
  have d1 : ((f : Int) % 5 == 1) = false := beq_eq_false_iff_ne.2 (by omega)
  have d2 : ((f : Int) % 5 == 2) = false := beq_eq_false_iff_ne.2 (by omega)
  have d3 : ((f : Int) % 5 == 3) = false := beq_eq_false_iff_ne.2 (by omega)
  have d4 : ((f : Int) % 5 == 4) = false := beq_eq_false_iff_ne.2 (by omega)
  obtain ⟨y, rfl⟩ : ∃ y : UInt8, t = y.toNat := ⟨UInt8.ofNat t, by simp; omega⟩
  obtain ⟨x0, hx0⟩ : ∃ x : UInt8, (v : Int) % 256 = ((x.toNat : Nat) : Int) := ⟨UInt8.ofNat (v / 1), by simp⟩
  obtain ⟨m, hm⟩ : ∃ m, m = h % 700 := ⟨_, rfl⟩
  have hm7 : m < 700 := by omega
  obtain ⟨Z, hZ, hmk⟩ := heads_make h m hm
  obtain ⟨W0, hW0⟩ : ∃ W0, W0 = (w.alloc (.cells #[.int .u8 ((y.toNat : Nat) : Int), .int .u8 ((x0.toNat : Nat) : Int)] 5)) := ⟨_, rfl⟩
  have hl : BLies W0 (some ⟨w.heap.size, 0, none⟩) [y, x0] := by rw [hW0]; exact row_lies w _ rfl _ _ rfl
  have hbw : Below w.heap.size w W0 := by rw [hW0]; exact belowNew w _
  obtain ⟨cv1, cv2, cv3⟩ := heads_conv W0 _ [y, x0] 2 rfl 2 m Z hl hZ
  obtain ⟨B1, hB1⟩ : ∃ B1 : ByteArray, B1 = ⟨[y, x0].toArray⟩ := ⟨_, rfl⟩
  obtain ⟨B2, hB2⟩ : ∃ B2 : ByteArray, B2 = ⟨(List.replicate m (0 : UInt8)).toArray⟩ := ⟨_, rfl⟩
  have hs1 : B1.size = 2 := by rw [hB1]; rfl
  have hs2 : B2.size = m := by rw [hB2]; show (List.replicate m (0 : UInt8)).toArray.size = m; simp
  rw [← hB1] at cv1 cv2
  rw [← hB2] at cv3
  have HBW := Lib.hid hbw
  have HW0 := Lib.hid hW0
  have hb1 : B1.size ≤ 6 := by omega
  have hb2 : B2.size ≤ 700 := by omega
  clear hv hm hZ hl hbw hB1 hB2 hs1 hs2 h0 hW0
  go_enter Try.func4, Try.ntmps4
  go_wp2_with fail
  rw [← HW0.out]
  clear HW0
  go_region
  have hbs : (B1 ++ B2).size ≤ 1000 := by rw [ByteArray.size_append]; omega
  generalize B1 ++ B2 = b at hbs ⊢
  have HZ := Lib.hid ((HBW.out.alloc HBW.out.size (.cells Z 5)).drew)
  have HSB := Lib.hid (show b.size ≤ 1099511627776 by omega)
  clear cv1 cv2 cv3 hmk hb1 hb2
  go_wp2_with (first | (go_at_call 11; (with_reducible refine (awake_any _).mono ?_); rintro e w1 ⟨rfl, hb1⟩; have HZ := Lib.hid (below_next HZ.out hb1); clear hb1) | (go_at_call 12; (with_reducible refine (same_law _ _ (by first | exact HSB.out | exact Nat.le_trans (ext_le b _) HSB.out)).mono ?_); rintro e w2 ⟨rfl, hb2⟩; have HZ := Lib.hid (below_next HZ.out hb2); clear hb2))
  go_ret
  exact ⟨rfl, HZ.out⟩

set_option maxRecDepth 100000 in
set_option maxHeartbeats 2000000 in
theorem heads_one (t f n h c : Nat) (w : World) (ht : t < 256) (hf : f < 256) (hn : n < 4294967296) (hh : h < 65536) (hc : c < 256) (h0 : f % 5 = 1) :
    Calls Try.prog 4 #[.int .u8 (t : Nat), .int .u8 (f : Nat), .int .u32 (n : Nat), .int .u16 (h : Nat), .int .u8 (c : Nat)] w fun e w' => e = .returned (.bool true) ∧ Below w.heap.size w w' := by
  obtain ⟨v, hv⟩ : ∃ v, v = n % 262144 := ⟨_, rfl⟩
  have hvI : (n : Int) % 262144 = (v : Int) := by omega
  have hvl : v < 262144 := by omega
  have d1 : ((f : Int) % 5 == 1) = true := beq_iff_eq.2 (by omega)
  obtain ⟨y, rfl⟩ : ∃ y : UInt8, t = y.toNat := ⟨UInt8.ofNat t, by simp; omega⟩
  obtain ⟨x0, hx0⟩ : ∃ x : UInt8, (v : Int) % 256 = ((x.toNat : Nat) : Int) := ⟨UInt8.ofNat (v / 1), by simp⟩
  obtain ⟨m, hm⟩ : ∃ m, m = h % 700 := ⟨_, rfl⟩
  have hm7 : m < 700 := by omega
  obtain ⟨Z, hZ, hmk⟩ := heads_make h m hm
  obtain ⟨W0, hW0⟩ : ∃ W0, W0 = ((w.alloc (.cells #[.int .u8 ((y.toNat : Nat) : Int), .int .u8 ((x0.toNat : Nat) : Int)] 5)).alloc (.cells #[.int .u8 ((y.toNat : Nat) : Int), .int .u8 129, .int .u8 ((x0.toNat : Nat) : Int)] 5)) := ⟨_, rfl⟩
  have hl : BLies W0 (some ⟨w.heap.size + 1, 0, none⟩) [y, 129, x0] := by rw [hW0]; exact row_lies _ _ (by simp) _ _ rfl
  have hbw : Below w.heap.size w W0 := by rw [hW0]; exact belowNew2 w _ _
  obtain ⟨cv1, cv2, cv3⟩ := heads_conv W0 _ [y, 129, x0] 3 rfl 3 m Z hl hZ
  obtain ⟨B1, hB1⟩ : ∃ B1 : ByteArray, B1 = ⟨[y, 129, x0].toArray⟩ := ⟨_, rfl⟩
  obtain ⟨B2, hB2⟩ : ∃ B2 : ByteArray, B2 = ⟨(List.replicate m (0 : UInt8)).toArray⟩ := ⟨_, rfl⟩
  have hs1 : B1.size = 3 := by rw [hB1]; rfl
  have hs2 : B2.size = m := by rw [hB2]; show (List.replicate m (0 : UInt8)).toArray.size = m; simp
  rw [← hB1] at cv1 cv2
  rw [← hB2] at cv3
  have HBW := Lib.hid hbw
  have HW0 := Lib.hid hW0
  have hb1 : B1.size ≤ 6 := by omega
  have hb2 : B2.size ≤ 700 := by omega
  clear hv hm hZ hl hbw hB1 hB2 hs1 hs2 h0 hW0
  go_enter Try.func4, Try.ntmps4
  go_wp2_with fail
  rw [← HW0.out]
  clear HW0
  go_region
  have hbs : (B1 ++ B2).size ≤ 1000 := by rw [ByteArray.size_append]; omega
  generalize B1 ++ B2 = b at hbs ⊢
  have HZ := Lib.hid ((HBW.out.alloc HBW.out.size (.cells Z 5)).drew)
  have HSB := Lib.hid (show b.size ≤ 1099511627776 by omega)
  clear cv1 cv2 cv3 hmk hb1 hb2
  go_wp2_with (first | (go_at_call 11; (with_reducible refine (awake_any _).mono ?_); rintro e w1 ⟨rfl, hb1⟩; have HZ := Lib.hid (below_next HZ.out hb1); clear hb1) | (go_at_call 12; (with_reducible refine (same_law _ _ (by first | exact HSB.out | exact Nat.le_trans (ext_le b _) HSB.out)).mono ?_); rintro e w2 ⟨rfl, hb2⟩; have HZ := Lib.hid (below_next HZ.out hb2); clear hb2))
  go_ret
  exact ⟨rfl, HZ.out⟩

set_option maxRecDepth 100000 in
set_option maxHeartbeats 2000000 in
theorem heads_two (t f n h c : Nat) (w : World) (ht : t < 256) (hf : f < 256) (hn : n < 4294967296) (hh : h < 65536) (hc : c < 256) (h0 : f % 5 = 2) :
    Calls Try.prog 4 #[.int .u8 (t : Nat), .int .u8 (f : Nat), .int .u32 (n : Nat), .int .u16 (h : Nat), .int .u8 (c : Nat)] w fun e w' => e = .returned (.bool true) ∧ Below w.heap.size w w' := by
  obtain ⟨v, hv⟩ : ∃ v, v = n % 262144 := ⟨_, rfl⟩
  have hvI : (n : Int) % 262144 = (v : Int) := by omega
  have hvl : v < 262144 := by omega
  have d1 : ((f : Int) % 5 == 1) = false := beq_eq_false_iff_ne.2 (by omega)
  have d2 : ((f : Int) % 5 == 2) = true := beq_iff_eq.2 (by omega)
  obtain ⟨y, rfl⟩ : ∃ y : UInt8, t = y.toNat := ⟨UInt8.ofNat t, by simp; omega⟩
  obtain ⟨x0, hx0⟩ : ∃ x : UInt8, (v : Int) % 256 = ((x.toNat : Nat) : Int) := ⟨UInt8.ofNat (v / 1), by simp⟩
  obtain ⟨x1, hx1⟩ : ∃ x : UInt8, (v : Int) / 256 % 256 = ((x.toNat : Nat) : Int) := ⟨UInt8.ofNat (v / 256), by simp⟩
  obtain ⟨m, hm⟩ : ∃ m, m = h % 700 := ⟨_, rfl⟩
  have hm7 : m < 700 := by omega
  obtain ⟨Z, hZ, hmk⟩ := heads_make h m hm
  obtain ⟨W0, hW0⟩ : ∃ W0, W0 = ((w.alloc (.cells #[.int .u8 ((y.toNat : Nat) : Int), .int .u8 ((x0.toNat : Nat) : Int)] 5)).alloc (.cells #[.int .u8 ((y.toNat : Nat) : Int), .int .u8 130, .int .u8 ((x1.toNat : Nat) : Int), .int .u8 ((x0.toNat : Nat) : Int)] 5)) := ⟨_, rfl⟩
  have hl : BLies W0 (some ⟨w.heap.size + 1, 0, none⟩) [y, 130, x1, x0] := by rw [hW0]; exact row_lies _ _ (by simp) _ _ rfl
  have hbw : Below w.heap.size w W0 := by rw [hW0]; exact belowNew2 w _ _
  obtain ⟨cv1, cv2, cv3⟩ := heads_conv W0 _ [y, 130, x1, x0] 4 rfl 4 m Z hl hZ
  obtain ⟨B1, hB1⟩ : ∃ B1 : ByteArray, B1 = ⟨[y, 130, x1, x0].toArray⟩ := ⟨_, rfl⟩
  obtain ⟨B2, hB2⟩ : ∃ B2 : ByteArray, B2 = ⟨(List.replicate m (0 : UInt8)).toArray⟩ := ⟨_, rfl⟩
  have hs1 : B1.size = 4 := by rw [hB1]; rfl
  have hs2 : B2.size = m := by rw [hB2]; show (List.replicate m (0 : UInt8)).toArray.size = m; simp
  rw [← hB1] at cv1 cv2
  rw [← hB2] at cv3
  have HBW := Lib.hid hbw
  have HW0 := Lib.hid hW0
  have hb1 : B1.size ≤ 6 := by omega
  have hb2 : B2.size ≤ 700 := by omega
  clear hv hm hZ hl hbw hB1 hB2 hs1 hs2 h0 hW0
  go_enter Try.func4, Try.ntmps4
  go_wp2_with fail
  rw [← HW0.out]
  clear HW0
  go_region
  have hbs : (B1 ++ B2).size ≤ 1000 := by rw [ByteArray.size_append]; omega
  generalize B1 ++ B2 = b at hbs ⊢
  have HZ := Lib.hid ((HBW.out.alloc HBW.out.size (.cells Z 5)).drew)
  have HSB := Lib.hid (show b.size ≤ 1099511627776 by omega)
  clear cv1 cv2 cv3 hmk hb1 hb2
  go_wp2_with (first | (go_at_call 11; (with_reducible refine (awake_any _).mono ?_); rintro e w1 ⟨rfl, hb1⟩; have HZ := Lib.hid (below_next HZ.out hb1); clear hb1) | (go_at_call 12; (with_reducible refine (same_law _ _ (by first | exact HSB.out | exact Nat.le_trans (ext_le b _) HSB.out)).mono ?_); rintro e w2 ⟨rfl, hb2⟩; have HZ := Lib.hid (below_next HZ.out hb2); clear hb2))
  go_ret
  exact ⟨rfl, HZ.out⟩

set_option maxRecDepth 100000 in
set_option maxHeartbeats 2000000 in
theorem heads_three (t f n h c : Nat) (w : World) (ht : t < 256) (hf : f < 256) (hn : n < 4294967296) (hh : h < 65536) (hc : c < 256) (h0 : f % 5 = 3) :
    Calls Try.prog 4 #[.int .u8 (t : Nat), .int .u8 (f : Nat), .int .u32 (n : Nat), .int .u16 (h : Nat), .int .u8 (c : Nat)] w fun e w' => e = .returned (.bool true) ∧ Below w.heap.size w w' := by
  obtain ⟨v, hv⟩ : ∃ v, v = n % 262144 := ⟨_, rfl⟩
  have hvI : (n : Int) % 262144 = (v : Int) := by omega
  have hvl : v < 262144 := by omega
  have d1 : ((f : Int) % 5 == 1) = false := beq_eq_false_iff_ne.2 (by omega)
  have d2 : ((f : Int) % 5 == 2) = false := beq_eq_false_iff_ne.2 (by omega)
  have d3 : ((f : Int) % 5 == 3) = true := beq_iff_eq.2 (by omega)
  obtain ⟨y, rfl⟩ : ∃ y : UInt8, t = y.toNat := ⟨UInt8.ofNat t, by simp; omega⟩
  obtain ⟨x0, hx0⟩ : ∃ x : UInt8, (v : Int) % 256 = ((x.toNat : Nat) : Int) := ⟨UInt8.ofNat (v / 1), by simp⟩
  obtain ⟨x1, hx1⟩ : ∃ x : UInt8, (v : Int) / 256 % 256 = ((x.toNat : Nat) : Int) := ⟨UInt8.ofNat (v / 256), by simp⟩
  obtain ⟨x2, hx2⟩ : ∃ x : UInt8, (v : Int) / 65536 = ((x.toNat : Nat) : Int) := ⟨UInt8.ofNat (v / 65536), by simp; omega⟩
  obtain ⟨m, hm⟩ : ∃ m, m = h % 700 := ⟨_, rfl⟩
  have hm7 : m < 700 := by omega
  obtain ⟨Z, hZ, hmk⟩ := heads_make h m hm
  obtain ⟨W0, hW0⟩ : ∃ W0, W0 = ((w.alloc (.cells #[.int .u8 ((y.toNat : Nat) : Int), .int .u8 ((x0.toNat : Nat) : Int)] 5)).alloc (.cells #[.int .u8 ((y.toNat : Nat) : Int), .int .u8 131, .int .u8 ((x2.toNat : Nat) : Int), .int .u8 ((x1.toNat : Nat) : Int), .int .u8 ((x0.toNat : Nat) : Int)] 5)) := ⟨_, rfl⟩
  have hl : BLies W0 (some ⟨w.heap.size + 1, 0, none⟩) [y, 131, x2, x1, x0] := by rw [hW0]; exact row_lies _ _ (by simp) _ _ rfl
  have hbw : Below w.heap.size w W0 := by rw [hW0]; exact belowNew2 w _ _
  obtain ⟨cv1, cv2, cv3⟩ := heads_conv W0 _ [y, 131, x2, x1, x0] 5 rfl 5 m Z hl hZ
  obtain ⟨B1, hB1⟩ : ∃ B1 : ByteArray, B1 = ⟨[y, 131, x2, x1, x0].toArray⟩ := ⟨_, rfl⟩
  obtain ⟨B2, hB2⟩ : ∃ B2 : ByteArray, B2 = ⟨(List.replicate m (0 : UInt8)).toArray⟩ := ⟨_, rfl⟩
  have hs1 : B1.size = 5 := by rw [hB1]; rfl
  have hs2 : B2.size = m := by rw [hB2]; show (List.replicate m (0 : UInt8)).toArray.size = m; simp
  rw [← hB1] at cv1 cv2
  rw [← hB2] at cv3
  have HBW := Lib.hid hbw
  have HW0 := Lib.hid hW0
  have hb1 : B1.size ≤ 6 := by omega
  have hb2 : B2.size ≤ 700 := by omega
  clear hv hm hZ hl hbw hB1 hB2 hs1 hs2 h0 hW0
  go_enter Try.func4, Try.ntmps4
  go_wp2_with fail
  rw [← HW0.out]
  clear HW0
  go_region
  have hbs : (B1 ++ B2).size ≤ 1000 := by rw [ByteArray.size_append]; omega
  generalize B1 ++ B2 = b at hbs ⊢
  have HZ := Lib.hid ((HBW.out.alloc HBW.out.size (.cells Z 5)).drew)
  have HSB := Lib.hid (show b.size ≤ 1099511627776 by omega)
  clear cv1 cv2 cv3 hmk hb1 hb2
  go_wp2_with (first | (go_at_call 11; (with_reducible refine (awake_any _).mono ?_); rintro e w1 ⟨rfl, hb1⟩; have HZ := Lib.hid (below_next HZ.out hb1); clear hb1) | (go_at_call 12; (with_reducible refine (same_law _ _ (by first | exact HSB.out | exact Nat.le_trans (ext_le b _) HSB.out)).mono ?_); rintro e w2 ⟨rfl, hb2⟩; have HZ := Lib.hid (below_next HZ.out hb2); clear hb2))
  go_ret
  exact ⟨rfl, HZ.out⟩

set_option maxRecDepth 100000 in
set_option maxHeartbeats 2000000 in
theorem heads_four (t f n h c : Nat) (w : World) (ht : t < 256) (hf : f < 256) (hn : n < 4294967296) (hh : h < 65536) (hc : c < 256) (h0 : f % 5 = 4) :
    Calls Try.prog 4 #[.int .u8 (t : Nat), .int .u8 (f : Nat), .int .u32 (n : Nat), .int .u16 (h : Nat), .int .u8 (c : Nat)] w fun e w' => e = .returned (.bool true) ∧ Below w.heap.size w w' := by
  obtain ⟨v, hv⟩ : ∃ v, v = n % 262144 := ⟨_, rfl⟩
  have hvI : (n : Int) % 262144 = (v : Int) := by omega
  have hvl : v < 262144 := by omega
  obtain ⟨g, rfl⟩ : ∃ g : UInt8, f = g.toNat := ⟨UInt8.ofNat f, by simp; omega⟩
  have d1 : ((g.toNat : Int) % 5 == 1) = false := beq_eq_false_iff_ne.2 (by omega)
  have d2 : ((g.toNat : Int) % 5 == 2) = false := beq_eq_false_iff_ne.2 (by omega)
  have d3 : ((g.toNat : Int) % 5 == 3) = false := beq_eq_false_iff_ne.2 (by omega)
  have d4 : ((g.toNat : Int) % 5 == 4) = true := beq_iff_eq.2 (by omega)
  obtain ⟨y, rfl⟩ : ∃ y : UInt8, t = y.toNat := ⟨UInt8.ofNat t, by simp; omega⟩
  obtain ⟨x0, hx0⟩ : ∃ x : UInt8, (v : Int) % 256 = ((x.toNat : Nat) : Int) := ⟨UInt8.ofNat (v / 1), by simp⟩
  obtain ⟨x1, hx1⟩ : ∃ x : UInt8, (v : Int) / 256 % 256 = ((x.toNat : Nat) : Int) := ⟨UInt8.ofNat (v / 256), by simp⟩
  obtain ⟨x2, hx2⟩ : ∃ x : UInt8, (v : Int) / 65536 = ((x.toNat : Nat) : Int) := ⟨UInt8.ofNat (v / 65536), by simp; omega⟩
  obtain ⟨x3, hx3⟩ : ∃ x : UInt8, (v : Int) / 16777216 = ((x.toNat : Nat) : Int) := ⟨UInt8.ofNat (v / 16777216), by simp; omega⟩
  obtain ⟨m, hm⟩ : ∃ m, m = h % 700 := ⟨_, rfl⟩
  have hm7 : m < 700 := by omega
  obtain ⟨Z, hZ, hmk⟩ := heads_make h m hm
  obtain ⟨W0, hW0⟩ : ∃ W0, W0 = ((w.alloc (.cells #[.int .u8 ((y.toNat : Nat) : Int), .int .u8 ((x0.toNat : Nat) : Int)] 5)).alloc (.cells #[.int .u8 ((y.toNat : Nat) : Int), .int .u8 ((g.toNat : Nat) : Int), .int .u8 ((x3.toNat : Nat) : Int), .int .u8 ((x2.toNat : Nat) : Int), .int .u8 ((x1.toNat : Nat) : Int), .int .u8 ((x0.toNat : Nat) : Int)] 5)) := ⟨_, rfl⟩
  have hl : BLies W0 (some ⟨w.heap.size + 1, 0, none⟩) [y, g, x3, x2, x1, x0] := by rw [hW0]; exact row_lies _ _ (by simp) _ _ rfl
  have hbw : Below w.heap.size w W0 := by rw [hW0]; exact belowNew2 w _ _
  obtain ⟨cv1, cv2, cv3⟩ := heads_conv W0 _ [y, g, x3, x2, x1, x0] 6 rfl 6 m Z hl hZ
  obtain ⟨B1, hB1⟩ : ∃ B1 : ByteArray, B1 = ⟨[y, g, x3, x2, x1, x0].toArray⟩ := ⟨_, rfl⟩
  obtain ⟨B2, hB2⟩ : ∃ B2 : ByteArray, B2 = ⟨(List.replicate m (0 : UInt8)).toArray⟩ := ⟨_, rfl⟩
  have hs1 : B1.size = 6 := by rw [hB1]; rfl
  have hs2 : B2.size = m := by rw [hB2]; show (List.replicate m (0 : UInt8)).toArray.size = m; simp
  rw [← hB1] at cv1 cv2
  rw [← hB2] at cv3
  have HBW := Lib.hid hbw
  have HW0 := Lib.hid hW0
  have hb1 : B1.size ≤ 6 := by omega
  have hb2 : B2.size ≤ 700 := by omega
  clear hv hm hZ hl hbw hB1 hB2 hs1 hs2 h0 hW0
  go_enter Try.func4, Try.ntmps4
  go_wp2_with fail
  rw [← HW0.out]
  clear HW0
  go_region
  have hbs : (B1 ++ B2).size ≤ 1000 := by rw [ByteArray.size_append]; omega
  generalize B1 ++ B2 = b at hbs ⊢
  have HZ := Lib.hid ((HBW.out.alloc HBW.out.size (.cells Z 5)).drew)
  have HSB := Lib.hid (show b.size ≤ 1099511627776 by omega)
  clear cv1 cv2 cv3 hmk hb1 hb2
  go_wp2_with (first | (go_at_call 11; (with_reducible refine (awake_any _).mono ?_); rintro e w1 ⟨rfl, hb1⟩; have HZ := Lib.hid (below_next HZ.out hb1); clear hb1) | (go_at_call 12; (with_reducible refine (same_law _ _ (by first | exact HSB.out | exact Nat.le_trans (ext_le b _) HSB.out)).mono ?_); rintro e w2 ⟨rfl, hb2⟩; have HZ := Lib.hid (below_next HZ.out hb2); clear hb2))
  go_ret
  exact ⟨rfl, HZ.out⟩

theorem heads_law (t f n h c : Nat) (w : World) (ht : t < 256) (hf : f < 256) (hn : n < 4294967296) (hh : h < 65536) (hc : c < 256) :
    Calls Try.prog 4 #[.int .u8 (t : Nat), .int .u8 (f : Nat), .int .u32 (n : Nat), .int .u16 (h : Nat), .int .u8 (c : Nat)] w fun e w' => e = .returned (.bool true) ∧ Below w.heap.size w w' := by
  rcases (by omega : f % 5 = 0 ∨ f % 5 = 1 ∨ f % 5 = 2 ∨ f % 5 = 3 ∨ f % 5 = 4) with h0 | h0 | h0 | h0 | h0
  · exact heads_zero t f n h c w ht hf hn hh hc h0
  · exact heads_one t f n h c w ht hf hn hh hc h0
  · exact heads_two t f n h c w ht hf hn hh hc h0
  · exact heads_three t f n h c w ht hf hn hh hc h0
  · exact heads_four t f n h c w ht hf hn hh hc h0
end Go.Proofs.Ytgpockpfefjjkaa
