/-
  The walk of the law HashLengths: for every length and every byte it returns true, and leaves all that was there as it was.
-/
import Derived.Test.YtoickijglahipaaDoorHashStream
namespace Go.Proofs.YtoickijglahipaaDoor
open Go.RowKit

theorem OwnB.old {E : TypeId} {w w' : World} {B : Nat} {v : Value} {l : List UInt8} (h : OwnB E w B v l) (hb : Below w.heap.size w w') : OwnB E w' B v l :=
  World.ownsRow.kept (row := none) h ⟨hb.os, hb.tape, hb.output, hb.size, fun j hj _ => hb.block j hj⟩ (by cases hv : v.ownBlock <;> simp)
theorem OwnB.set {E : TypeId} {w : World} {B g cap : Nat} {l : List UInt8} (j : Nat) (x : UInt8) (h : OwnB E w B (.slice (some ⟨g, 0, none⟩) l.length cap) l) : OwnB E (w.setCell ⟨g, j, none⟩ (bcell x)) B (.slice (some ⟨g, 0, none⟩) l.length cap) (l.set j x) := by
  have := (World.ownsRow.stored h j (bcell x)).1
  unfold OwnB
  rw [List.length_set, List.map_set]; exact this
theorem fill_made {w : World} {B : Nat} {v : Value} (m : Nat) (h : w.ownsRow B 5 1 v m (madeCells (Value.int .u8 0).cells (m * 1)).toList) : OwnB 5 w B v (List.replicate m 0) := by
  unfold OwnB
  rw [List.length_replicate]
  have e : (madeCells (Value.int .u8 0).cells (m * 1)).toList = (List.replicate m (0 : UInt8)).map bcell := by
    simp only [madeCells, Value.cells, Nat.mul_one]
    apply List.ext_getElem
    · simp
    · intro i h1 h2
      simp [Nat.mod_one, bcell]
  rw [← e]; exact h

theorem row_plus (W : World) (c : ByteArray) : Reads ((W.alloc (.cells #[.string c] 9)).alloc (.cells #[.string c] 9)) (.slice (some ⟨W.heap.size + 1, 0, none⟩) 1 1) [c] := by
  have := reads_one (W.alloc (.cells #[.string c] 9)) c
  rwa [show (W.alloc (.cells #[.string c] 9)).heap.size = W.heap.size + 1 by simp] at this
theorem row_first (W : World) (c : ByteArray) : Reads ((W.alloc (.cells #[.string c] 9)).alloc (.cells #[.string c] 9)) (.slice (some ⟨W.heap.size, 0, none⟩) 1 1) [c] :=
  (reads_one W c).old ((Below.refl _ _).alloc (Nat.le_refl _) _)
theorem below_two {a W : World} (h : Below a.heap.size a W) (o1 o2 : Obj) : Below a.heap.size a ((W.alloc o1).alloc o2) := (h.alloc h.size o1).alloc (h.alloc h.size o1).size o2
/-- hash.Sum of one string that lies in a row. -/
theorem sum_in {v : Value} {c : ByteArray} {a W : World} (hv : Reads W v [c]) (hz : Below a.heap.size a W) (hK : Holds a 0 kWords) (hn : c.data.toList.length < 1024) :
    Calls Tryd.prog 10 #[v] W fun e w' => e = .returned (.string (shaStr c.data.toList)) ∧ Below W.heap.size W w' := by
  have := hsumStr_any v [c] W hv (by simp) (hK.old hz) (by rw [cat_one]; omega)
  rwa [cat_one] at this
theorem ref_in {v : Value} {c : ByteArray} {W : World} (hv : Reads W v [c]) (hn : c.data.toList.length < 1024) :
    Calls Tryd.prog 11 #[v] W fun e w' => e = .returned (.string (shaStr c.data.toList)) ∧ Below W.heap.size W w' := by
  have := refsum_any v [c] W hv (by simp) (by rw [cat_one]; omega)
  rwa [cat_one] at this

set_option maxRecDepth 100000 in
set_option maxHeartbeats 2000000 in
theorem len_law (n c : Nat) (hn : n ≤ 65535) (w : World) (hK : Holds w 0 kWords) :
    Calls Tryd.prog 4 #[.int .u16 (n : Int), .int .u8 (c : Int)] w fun e w' => e = .returned (.bool true) ∧ Below w.heap.size w w' := by
  obtain ⟨i0, hi, hz0, hz1, hz2⟩ := info_parts byteInfo
  have HK := Lib.hid hK
  obtain ⟨m, hm⟩ : ∃ m, m = n % 1024 := ⟨_, rfl⟩
  have HR := Lib.hid (show (n : Int) % 1024 = (m : Int) by omega)
  have hm2 : m < 1024 := by omega
  clear hK hm
  go_enter Tryd.func4, Tryd.ntmps4
  go_wp2_with (at_make; refine wpList_make_full _ rfl _ _ 28 rfl w.heap.size 5 i0 (.int .u8 0) 1 Tryd.underlying28 hi hz0 hz1 .u16 .u16 ((n : Int) % 1024) ((n : Int) % 1024) m rfl rfl HR.out HR.out (by rw [hz2]; omega) (by unfold maxLen; omega) (Nat.le_refl _) ?_; intro w1 hown1 hgr1; have HO1 := Lib.hid (fill_made m hown1); have HG1 := Lib.hid hgr1; clear hown1 hgr1)
  go_loopw [12] (fun i wx => ∃ (j : Nat) (l : List UInt8), j ≤ m ∧ i = .int .i64 j ∧ l.length = m ∧ OwnB 5 wx w.heap.size (.slice (some ⟨w.heap.size, 0, none⟩) m m) l ∧ Below w.heap.size w wx) (fun i _ => m - (intOf i).toNat)
  case atStart => exact ⟨0, _, Nat.zero_le _, rfl, List.length_replicate, HO1.out, (Below.refl _ _).grown HG1.out (Nat.le_refl _) (fun _ e => by cases e)⟩
  case round =>
    obtain ⟨j, l, hj, rfl, hl, ho, hb⟩ := hrel
    have HO := Lib.hid ho
    have HB := Lib.hid hb
    have HLL := Lib.hid hl
    by_cases hlt : j < m
    · have hd : decide ((j : Int) < (m : Int)) = true := by simp; omega
      have hcj := tail_cell ho hl j hlt
      have hfj := tail_free ho hl j
      obtain ⟨x, hx⟩ : ∃ x : UInt8, x = UInt8.ofNat (c + j) := ⟨_, rfl⟩
      have HX := Lib.hid hx
      clear ho hb hl hx
      go_wp2_with fail
      go_roundw
      case rel =>
        have ev : Value.int .u8 (((c : Int) + (j : Int)) % 256) = bcell x := by
          unfold bcell
          congr 1
          rw [HX.out]
          simp
        rw [ev]
        have hs := OwnB.set (cap := m) j x (by rw [HLL.out]; exact HO.out)
        rw [HLL.out] at hs
        exact ⟨j + 1, l.set j x, by omega, by go_num, by rw [List.length_set]; exact HLL.out, hs, HB.out.setCell (Nat.le_refl _) _⟩
      case measure => simp [intOf]; omega
    · have ej : j = m := by omega
      subst ej
      have hd : decide ((j : Int) < (j : Int)) = false := by simp
      obtain ⟨y, hy⟩ : ∃ y : ByteArray, (⟨l.toArray⟩ : ByteArray) = y := ⟨_, rfl⟩
      have hyd : y.data.toList = l := by rw [← hy]
      have HYN := Lib.hid (show y.data.toList.length < 1024 by rw [hyd, hl]; exact hm2)
      obtain ⟨E, hE⟩ : ∃ E, E = shaStr y.data.toList := ⟨_, rfl⟩
      have HE := Lib.hid hE
      have HY := Lib.hid hy
      have HZ := Lib.hid (Below.drew (Below.refl wr.heap.size wr))
      have HKR := Lib.hid (HK.out.old HB.out)
      clear ho hb hl hy hyd hE
      go_wp2_with fail
      go_region_with (first
        | (go_at_call 9; (with_reducible refine (awake_any _ (HKR.out.old HZ.out)).mono ?_); rintro e w4 ⟨rfl, hb4⟩; have HZ4 := Lib.hid (HZ.out.next hb4); have hconv := run_convert_own (P := Tryd.prog) (src := 28) (dst := 9) Tryd.underlying28 Tryd.underlying5 Tryd.underlying9 (HO.out.old HZ4.out); rw [HY.out] at hconv; have hconvA := run_convert_own (P := Tryd.prog) (src := 28) (dst := 9) Tryd.underlying28 Tryd.underlying5 Tryd.underlying9 (HO.out.old (HZ4.out.alloc HZ4.out.size (.cells #[.string y] 9))); rw [HY.out] at hconvA; clear hb4)
        | (go_at_call 10; (with_reducible refine (sum_in (reads_one w4 y) (HZ4.out.alloc HZ4.out.size (.cells #[.string y] 9)) HKR.out HYN.out).mono ?_); rintro e w6 ⟨he, hb6⟩; obtain rfl : e = .returned (.string E) := (by rw [he, HE.out]); have HZ6 := Lib.hid ((HZ4.out.alloc HZ4.out.size (.cells #[.string y] 9)).next hb6); have hconv6 := run_convert_own (P := Tryd.prog) (src := 28) (dst := 9) Tryd.underlying28 Tryd.underlying5 Tryd.underlying9 (HO.out.old HZ6.out); rw [HY.out] at hconv6; clear hb6 he)
        | (go_at_call 10; (with_reducible refine (sum_in (row_first w4 y) (below_two HZ4.out (.cells #[.string y] 9) (.cells #[.string y] 9)) HKR.out HYN.out).mono ?_); rintro e w6 ⟨he, hb6⟩; obtain rfl : e = .returned (.string E) := (by rw [he, HE.out]); have HZ6 := Lib.hid ((below_two HZ4.out (.cells #[.string y] 9) (.cells #[.string y] 9)).next hb6); have HRD := Lib.hid ((row_plus w4 y).old hb6); have hconv6 := run_convert_own (P := Tryd.prog) (src := 28) (dst := 9) Tryd.underlying28 Tryd.underlying5 Tryd.underlying9 (HO.out.old HZ6.out); rw [HY.out] at hconv6; clear hb6 he)
        | (go_at_call 10; (with_reducible refine (sum_in (row_plus w4 y) (below_two HZ4.out (.cells #[.string y] 9) (.cells #[.string y] 9)) HKR.out HYN.out).mono ?_); rintro e w6 ⟨he, hb6⟩; obtain rfl : e = .returned (.string E) := (by rw [he, HE.out]); have HZ6 := Lib.hid ((below_two HZ4.out (.cells #[.string y] 9) (.cells #[.string y] 9)).next hb6); have HRD := Lib.hid ((row_first w4 y).old hb6); have hconv6 := run_convert_own (P := Tryd.prog) (src := 28) (dst := 9) Tryd.underlying28 Tryd.underlying5 Tryd.underlying9 (HO.out.old HZ6.out); rw [HY.out] at hconv6; clear hb6 he)
        | (go_at_call 11; (with_reducible refine (ref_in (reads_one w6 y) HYN.out).mono ?_); rintro e w7 ⟨he, hb7⟩; obtain rfl : e = .returned (.string E) := (by rw [he, HE.out]); have HZ7 := Lib.hid ((HZ6.out.alloc HZ6.out.size _).next hb7); clear hb7 he)
        | (go_at_call 11; (with_reducible refine (ref_in HRD.out HYN.out).mono ?_); rintro e w7 ⟨he, hb7⟩; obtain rfl : e = .returned (.string E) := (by rw [he, HE.out]); have HZ7 := Lib.hid (HZ6.out.next hb7); clear hb7 he))
      all_goals
        go_wp2_with fail
        go_ret
        exact ⟨rfl, HB.out.next HZ7.out⟩
end Go.Proofs.YtoickijglahipaaDoor
