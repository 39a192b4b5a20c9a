/-
  The contracts of hash.Unhex and of the reference's Unhex and Hex: the string whose digits are the given ones, if there is one; nothing that was there before the call has changed.
-/
import Derived.Test.YtoickijglahipaaDoorDigit
namespace Go.Proofs.YtoickijglahipaaDoor
open Go.RowKit

theorem digit_some {c : UInt8} {v : Nat} (h : digV c.toNat = some v) (w : World) :
    Calls Tryd.prog 23 #[.int .u8 ((c.toNat : Nat) : Int)] w fun e w' => e = .returned (.tuple #[.int .u8 (v : Int), .bool true]) ∧ w = w' := by
  have := digit_any c w
  rwa [h] at this
theorem digit_none {c : UInt8} (h : digV c.toNat = none) (w : World) :
    Calls Tryd.prog 23 #[.int .u8 ((c.toNat : Nat) : Int)] w fun e w' => e = .returned (.tuple #[.int .u8 0, .bool false]) ∧ w = w' := by
  have := digit_any c w
  rwa [h] at this
theorem out_round {w wr w2 : World} {v v' : Value} {D : List UInt8} {y : UInt8} {X : Obj} (hown : OwnB 5 wr w.heap.size v D) (hb : Below w.heap.size w wr)
    (hown2 : w2.ownsRow w.heap.size 5 1 v' (D.length + 1) (D.map bcell ++ [bcell y])) (hgr2 : (wr.alloc X).grownBy w2 v.ownBlock) : OwnB 5 w2 w.heap.size v' (D ++ [y]) ∧ Below w.heap.size w w2 := by
  refine ⟨?_, ?_⟩
  · unfold OwnB
    rw [List.length_append, List.map_append]; exact hown2
  · exact (Below.alloc hb hb.size X).grown hgr2 (by simp; have := hb.size; omega) (fun k e => (World.ownsRow.lt hown k e).1)

set_option maxRecDepth 100000 in
theorem or_digits : ∀ a : Nat, a < 16 → ∀ b : Nat, b < 16 → bits BinOp.or .u8 ((a : Int) * 16) (b : Int) = ((16 * a + b : Nat) : Int) := by decide

set_option maxRecDepth 100000 in
set_option maxHeartbeats 1000000 in
theorem unhex_any (s : ByteArray) (w : World) (hn : s.size ≤ 1099511627776) :
    Calls Tryd.prog 15 #[.string s] w fun e w' => ∃ u ok, e = .returned (.tuple #[.string u, .bool ok]) ∧ Unh s.data.toList u ok ∧ Below w.heap.size w w' := by
  obtain ⟨i0, hi, hz0, hz1, hz2⟩ := info_parts byteInfo
  have hsl : s.data.toList.length = s.size := rfl
  have HSL := Lib.hid hsl
  clear hsl
  by_cases hpar : s.size % 2 = 1
  · have hr : (s.size : Int) % 2 = 1 := by omega
    go_enter Tryd.func15, Tryd.ntmps15
    go_wp2_with fail
    go_ret2
    exact ⟨_, _, rfl, unh_odd (by rw [HSL.out]; exact hpar), Below.refl _ _⟩
  · have hr : (s.size : Int) % 2 = 0 := by omega
    have HP := Lib.hid (show s.size % 2 = 0 by omega)
    clear hpar
    go_enter Tryd.func15, Tryd.ntmps15
    go_wp2_with (at_make; refine wpList_make_own _ rfl _ _ 28 rfl w.heap.size 5 i0 (.int .u8 0) 1 Tryd.underlying28 hi hz0 hz1 .i64 .i64 ((s.size : Int) / 2) (s.size / 2) rfl rfl (by omega) (by rw [hz2]; omega) (by unfold maxLen; omega) (Nat.le_refl _) ?_; intro w1 hown1 hgr1; have HO1 := Lib.hid hown1; have HG1 := Lib.hid hgr1; clear hown1 hgr1)
    go_loopw [4, 5] (fun v i wr => ∃ (j : Nat) (D : List UInt8), j ≤ s.size ∧ j % 2 = 0 ∧ i = .int .i64 j ∧ hexL D = s.data.toList.take j ∧ OwnB 5 wr w.heap.size v D ∧ Below w.heap.size w wr) (fun _ i _ => s.size - (intOf i).toNat)
    case atStart => exact ⟨0, [], Nat.zero_le _, rfl, rfl, rfl, HO1.out, (Below.refl _ _).grown HG1.out (Nat.le_refl _) (fun _ e => by cases e)⟩
    case round =>
      obtain ⟨j, D, hj, hj2, rfl, hD, hown, hb⟩ := hrel
      have HO := Lib.hid hown
      have HB := Lib.hid hb
      have HD := Lib.hid hD
      have hDl : 2 * D.length = j := by
        have := congrArg List.length hD
        rw [hexL_length, List.length_take, HSL.out] at this; omega
      clear hown hb hD
      by_cases hlt : j < s.size
      · have hd : decide ((j : Int) < (s.size : Int)) = true := by simp; omega
        have hlt1 : j + 1 < s.size := by have := HP.out; omega
        obtain ⟨c0, hc0⟩ : ∃ c, s[j] = c := ⟨_, rfl⟩
        obtain ⟨c1, hc1⟩ : ∃ c, s[j + 1] = c := ⟨_, rfl⟩
        have x0 := fun w => run_index_at (P := Tryd.prog) Tryd.underlying9 s j c0 hlt hc0 (j : Int) rfl w
        have x1 := fun w => run_index_at (P := Tryd.prog) Tryd.underlying9 s (j + 1) c1 hlt1 hc1 ((j : Int) + 1) (by omega) w
        have m0 : c0 ∈ s.data.toList := by rw [← hc0]; exact List.getElem_mem (show j < s.data.toList.length from hlt)
        have m1 : c1 ∈ s.data.toList := by rw [← hc1]; exact List.getElem_mem (show j + 1 < s.data.toList.length from hlt1)
        have HC0 := Lib.hid hc0
        have HC1 := Lib.hid hc1
        have M0 := Lib.hid m0
        have M1 := Lib.hid m1
        clear hc0 hc1 m0 m1
        cases ha : digV c0.toNat with
        | none =>
          have HA := Lib.hid ha
          clear ha
          go_wp2_with (first | (go_at_call 23; (with_reducible refine (digit_none HA.out _).mono ?_); rintro e w2 ⟨rfl, rfl⟩) | (go_at_call 23; (with_reducible refine (digit_any c1 _).mono ?_); rintro e w2 ⟨rfl, rfl⟩))
          go_ret2
          exact ⟨_, _, rfl, unh_bad M0.out HA.out, HB.out⟩
        | some a =>
          have HA := Lib.hid ha
          clear ha
          cases hb : digV c1.toNat with
          | none =>
            have HBB := Lib.hid hb
            clear hb
            go_wp2_with (first | (go_at_call 23; (with_reducible refine (digit_some HA.out _).mono ?_); rintro e w2 ⟨rfl, rfl⟩) | (go_at_call 23; (with_reducible refine (digit_none HBB.out _).mono ?_); rintro e w2 ⟨rfl, rfl⟩))
            go_ret2
            exact ⟨_, _, rfl, unh_bad M1.out HBB.out, HB.out⟩
          | some b =>
            have HBB := Lib.hid hb
            have ha16 := (digV_some HA.out).1
            have hb16 := (digV_some hb).1
            clear hb
            obtain ⟨y, hy⟩ : ∃ y : UInt8, y = UInt8.ofNat (16 * a + b) := ⟨_, rfl⟩
            have hyn : y.toNat = 16 * a + b := by rw [hy]; simp; omega
            have hor : bits BinOp.or .u8 ((a : Int) * 16) (b : Int) = ((y.toNat : Nat) : Int) := by rw [hyn]; exact or_digits a ha16 b hb16
            have HY := Lib.hid hy
            clear hy hyn
            have hsb := HB.out.size
            go_wp2_with (first | (go_at_call 23; (with_reducible refine (digit_some HA.out _).mono ?_); rintro e w2 ⟨rfl, rfl⟩) | (go_at_call 23; (with_reducible refine (digit_some HBB.out _).mono ?_); rintro e w2 ⟨rfl, rfl⟩) | (at_builtin; (refine wpList_append_own _ rfl (.tmp 45) (.tmp 50) 28 rfl w.heap.size 5 i0 (.int .u8 0) 1 1 Tryd.underlying28 hi hz0 hz1 hz2 rfl (by decide) _ _ _ rfl (HO.out.alloc _) ⟨wr.heap.size, 0, none⟩ 1 1 [bcell y] rfl rfl (news_row wr #[bcell y] 5) (bcells_one [y]) (by unfold maxLen; omega) (by omega) (by simp; omega) ?_); intro v' w2 hown2 hgr2 _; obtain ⟨P1, P2⟩ := out_round HO.out HB.out hown2 hgr2; have HP1 := Lib.hid P1; have HP2 := Lib.hid P2; clear hown2 hgr2 P1 P2))
            go_roundw
            case rel => exact ⟨j + 2, D ++ [y], by omega, by omega, by go_num, by rw [HY.out]; exact unh_step (s := s.data.toList) hlt1 HD.out HC0.out HC1.out HA.out HBB.out, HP1.out, HP2.out⟩
            case measure => simp [intOf]; omega
      · have ej : j = s.size := by omega
        subst ej
        have hd : decide ((s.size : Int) < (s.size : Int)) = false := by simp
        have hconv := run_convert_own (P := Tryd.prog) (src := 28) (dst := 9) Tryd.underlying28 Tryd.underlying5 Tryd.underlying9 HO.out
        go_wp2_with fail
        go_ret2
        refine ⟨_, _, rfl, Or.inl ⟨rfl, ?_⟩, HB.out⟩
        show hexL D = s.data.toList
        rw [HD.out]
        exact List.take_of_length_le (by rw [HSL.out]; exact Nat.le_refl _)
end Go.Proofs.YtoickijglahipaaDoor
