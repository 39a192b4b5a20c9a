/-
  The contracts of the reference's nibble, Unhex and Hex: the string whose digits are the given ones, if there is one, and a string's digits; nothing that was there before the call has changed.
  The contracts of the program's hash.Hex and hash.Unhex.
-/
import Derived.Test.YtflpajbcomhkpaaGreatDoorSam
import Derived.Test.YtflpajbcomhkpaaGreatDoorSaf
import Derived.WalkSpells
import Derived.Test.YtflpajbcomhkpaaGreatDoorSaa
namespace Go.Proofs.YtflpajbcomhkpaaGreatDoor
open Go.RowKit

set_option maxHeartbeats 400000 in
theorem nibble_any (c : UInt8) (w : World) :
    Calls Tryz.prog 98 #[.int .u8 ((c.toNat : Nat) : Int)] w fun e w' => e = .returned (.int .i64 (nibV (digV c.toNat))) ∧ w = w' := by
  obtain ⟨n, hn⟩ : ∃ n, n = c.toNat := ⟨_, rfl⟩
  have hlt : n < 256 := by rw [hn]; exact c.toNat_lt
  rw [← hn]
  clear hn
  obtain ⟨V, hV⟩ : ∃ V, V = digV n := ⟨_, rfl⟩
  rw [← hV]
  have HV := Lib.hid hV
  clear hV
  by_cases h1 : 48 ≤ n
  · have d1 : decide ((48 : Int) ≤ (n : Int)) = true := by simp; omega
    by_cases h2 : n ≤ 57
    · have d2 : decide ((n : Int) ≤ (57 : Int)) = true := by simp; omega
      go_enter Tryz.func98, Tryz.ntmps98
      go_wp2_with fail
      go_ret
      rw [HV.out, digV_low ⟨h1, h2⟩]
      refine ⟨?_, rfl⟩
      show Ending.returned (.int .i64 ((n : Int) - 48)) = Ending.returned (.int .i64 ((n - 48 : Nat) : Int))
      rw [show (n : Int) - 48 = ((n - 48 : Nat) : Int) by omega]
    · have d2 : decide ((n : Int) ≤ (57 : Int)) = false := by simp; omega
      by_cases h3 : 97 ≤ n
      · have d3 : decide ((97 : Int) ≤ (n : Int)) = true := by simp; omega
        by_cases h4 : n ≤ 102
        · have d4 : decide ((n : Int) ≤ (102 : Int)) = true := by simp; omega
          go_enter Tryz.func98, Tryz.ntmps98
          go_wp2_with fail
          go_ret
          rw [HV.out, digV_high ⟨h3, h4⟩]
          refine ⟨?_, rfl⟩
          show Ending.returned (.int .i64 ((n : Int) - 97 + 10)) = Ending.returned (.int .i64 ((n - 87 : Nat) : Int))
          rw [show (n : Int) - 97 + 10 = ((n - 87 : Nat) : Int) by omega]
        · have d4 : decide ((n : Int) ≤ (102 : Int)) = false := by simp; omega
          go_enter Tryz.func98, Tryz.ntmps98
          go_wp2_with fail
          go_ret
          rw [HV.out, digV_no (by omega) (by omega)]
          exact ⟨rfl, rfl⟩
      · have d3 : decide ((97 : Int) ≤ (n : Int)) = false := by simp; omega
        go_enter Tryz.func98, Tryz.ntmps98
        go_wp2_with fail
        go_ret
        rw [HV.out, digV_no (by omega) (by omega)]
        exact ⟨rfl, rfl⟩
  · have d1 : decide ((48 : Int) ≤ (n : Int)) = false := by simp; omega
    have d3 : decide ((97 : Int) ≤ (n : Int)) = false := by simp; omega
    go_enter Tryz.func98, Tryz.ntmps98
    go_wp2_with fail
    go_ret
    rw [HV.out, digV_no (by omega) (by omega)]
    exact ⟨rfl, rfl⟩
theorem nib_some {c : UInt8} {v : Nat} (h : digV c.toNat = some v) (w : World) :
    Calls Tryz.prog 98 #[.int .u8 ((c.toNat : Nat) : Int)] w fun e w' => e = .returned (.int .i64 (v : Int)) ∧ w' = w := by
  have := nibble_any c w
  rw [h] at this
  exact this.mono fun _ _ ⟨h1, h2⟩ => ⟨h1, h2.symm⟩
theorem nib_none {c : UInt8} (h : digV c.toNat = none) (w : World) :
    Calls Tryz.prog 98 #[.int .u8 ((c.toNat : Nat) : Int)] w fun e w' => e = .returned (.int .i64 (-1)) ∧ w' = w := by
  have := nibble_any c w
  rw [h] at this
  exact this.mono fun _ _ ⟨h1, h2⟩ => ⟨h1, h2.symm⟩
theorem nib_all (c : UInt8) (w : World) :
    Calls Tryz.prog 98 #[.int .u8 ((c.toNat : Nat) : Int)] w fun e w' => e = .returned (.int .i64 (nibV (digV c.toNat))) ∧ w' = w :=
  (nibble_any c w).mono fun _ _ ⟨h1, h2⟩ => ⟨h1, h2.symm⟩
set_option maxRecDepth 100000 in
set_option maxHeartbeats 2000000 in
theorem refunhex_any (s : ByteArray) (w : World) (hn : s.size ≤ 1099511627776) :
    Calls Tryz.prog 59 #[.string s] w fun e w' => ∃ u ok, e = .returned (.tuple #[.string u, .bool ok]) ∧ Unh s.data.toList u ok ∧ Below w.heap.size w w' := by
  obtain ⟨i0, hi, hz0, hz1, hz2⟩ := info_parts byteInfo
  have hsl : s.data.toList.length = s.size := rfl
  have HSL := Lib.hid hsl
  clear hsl
  by_cases hpar : s.size % 2 = 1
  · have hr : (s.size : Int) % 2 = 1 := by omega
    go_enter Tryz.func59, Tryz.ntmps59
    go_wp2_with fail
    go_ret2
    exact ⟨_, _, rfl, unh_odd (by rw [HSL.out]; exact hpar), Below.refl _ _⟩
  · have hr : (s.size : Int) % 2 = 0 := by omega
    have HP := Lib.hid (show s.size % 2 = 0 by omega)
    clear hpar
    go_enter Tryz.func59, Tryz.ntmps59
    go_wp2_with fail
    clear hr
    go_loopw [4, 5] (fun v i wr => ∃ (j : Nat) (D : List UInt8), j ≤ s.size ∧ j % 2 = 0 ∧ i = .int .i64 j ∧ hexL D = s.data.toList.take j ∧ OwnB 5 wr w.heap.size v D ∧ Below w.heap.size w wr) (fun _ i _ => s.size - (intOf i).toNat)
    case atStart => exact ⟨0, [], Nat.zero_le _, rfl, rfl, rfl, World.ownsRow_nil _ _ _ _, Below.refl _ _⟩
    case round =>
      obtain ⟨j, D, hj, hj2, rfl, hD, hown, hb⟩ := hrel
      have HO := Lib.hid hown
      have HB := Lib.hid hb
      have HD := Lib.hid hD
      have hDl : 2 * D.length = j := by
        have := congrArg List.length hD
        rw [hexL_length, List.length_take, HSL.out] at this; omega
      clear hown hb hD
      by_cases hlt : j < s.size
      · have hd : decide ((j : Int) < (s.size : Int)) = true := by simp; omega
        have hlt1 : j + 1 < s.size := by have := HP.out; omega
        obtain ⟨c0, hc0⟩ : ∃ c, s[j] = c := ⟨_, rfl⟩
        obtain ⟨c1, hc1⟩ : ∃ c, s[j + 1] = c := ⟨_, rfl⟩
        have x0 := fun w => run_index_at (P := Tryz.prog) Tryz.underlying9 s j c0 hlt hc0 (j : Int) rfl w
        have x1 := fun w => run_index_at (P := Tryz.prog) Tryz.underlying9 s (j + 1) c1 hlt1 hc1 ((j : Int) + 1) (by omega) w
        have m0 : c0 ∈ s.data.toList := by rw [← hc0]; exact List.getElem_mem (show j < s.data.toList.length from hlt)
        have m1 : c1 ∈ s.data.toList := by rw [← hc1]; exact List.getElem_mem (show j + 1 < s.data.toList.length from hlt1)
        have HC0 := Lib.hid hc0
        have HC1 := Lib.hid hc1
        have M0 := Lib.hid m0
        have M1 := Lib.hid m1
        clear hc0 hc1 m0 m1
        have hsb := HB.out.size
        cases ha : digV c0.toNat with
        | none =>
          have HA := Lib.hid ha
          clear ha
          go_wp2_with fail
          go_quiet (first | (go_at_call 98; with_reducible refine Calls.quiet_of_same (nib_none HA.out _)) | (go_at_call 98; with_reducible refine Calls.quiet_of_same (nib_all c1 _)))
          go_wp2_with fail
          go_ret2
          exact ⟨_, _, rfl, unh_bad M0.out HA.out, Below.drawn HB.out _⟩
        | some a =>
          have HA := Lib.hid ha
          clear ha
          cases hb : digV c1.toNat with
          | none =>
            have HBB := Lib.hid hb
            clear hb
            have hna : decide ((a : Int) < 0) = false := by simp
            go_wp2_with fail
            go_quiet (first | (go_at_call 98; with_reducible refine Calls.quiet_of_same (nib_some HA.out _)) | (go_at_call 98; with_reducible refine Calls.quiet_of_same (nib_none HBB.out _)))
            go_wp2_with fail
            go_ret2
            exact ⟨_, _, rfl, unh_bad M1.out HBB.out, Below.drawn HB.out _⟩
          | some b =>
            have HBB := Lib.hid hb
            have ha16 := (digV_some HA.out).1
            have hb16 := (digV_some hb).1
            clear hb
            have hna : decide ((a : Int) < 0) = false := by simp
            have hnb : decide ((b : Int) < 0) = false := by simp
            obtain ⟨y, hy⟩ : ∃ y : UInt8, y = UInt8.ofNat (16 * a + b) := ⟨_, rfl⟩
            have hyn : y.toNat = 16 * a + b := by rw [hy]; simp; omega
            have hor : 16 * (a : Int) + (b : Int) = ((y.toNat : Nat) : Int) := by omega
            have HY := Lib.hid hy
            clear hy hyn
            go_wp2_with fail
            go_quiet (first | (go_at_call 98; with_reducible refine Calls.quiet_of_same (nib_some HA.out _)) | (go_at_call 98; with_reducible refine Calls.quiet_of_same (nib_some HBB.out _)))
            go_wp2_with (at_builtin; (refine wpList_append_own _ rfl (.tmp 33) (.tmp 39) 55 rfl w.heap.size 5 i0 (.int .u8 0) 1 1 Tryz.underlying55 hi hz0 hz1 hz2 rfl (by decide) _ _ _ rfl ((HO.out.drawn _).alloc _) ⟨wr.heap.size, 0, none⟩ 1 1 [bcell y] rfl rfl (news_row (wr.drewN _) #[bcell y] 5) (bcells_one [y]) (by unfold maxLen; omega) (by omega) (by simp; omega) ?_); intro v' w2 hown2 hgr2 _; obtain ⟨P1, P2⟩ := out_round (HO.out.drawn _) (Below.drawn HB.out _) hown2 hgr2; have HP1 := Lib.hid P1; have HP2 := Lib.hid P2; clear hown2 hgr2 P1 P2)
            go_roundw
            case rel => exact ⟨j + 2, D ++ [y], by omega, by omega, by go_num, by rw [HY.out]; exact unh_step (s := s.data.toList) hlt1 HD.out HC0.out HC1.out HA.out HBB.out, HP1.out, HP2.out⟩
            case measure => simp [intOf]; omega
      · have ej : j = s.size := by omega
        subst ej
        have hd : decide ((s.size : Int) < (s.size : Int)) = false := by simp
        have hconv := run_convert_own (P := Tryz.prog) (src := 55) (dst := 9) Tryz.underlying55 Tryz.underlying5 Tryz.underlying9 HO.out
        go_wp2_with fail
        go_ret2
        refine ⟨_, _, rfl, Or.inl ⟨rfl, ?_⟩, HB.out⟩
        show hexL D = s.data.toList
        rw [HD.out]
        exact List.take_of_length_le (by rw [HSL.out]; exact Nat.le_refl _)

set_option maxRecDepth 100000 in
set_option maxHeartbeats 1000000 in
theorem refhex_any (s : ByteArray) (w : World) (hn : s.size ≤ 1099511627776) :
    Calls Tryz.prog 53 #[.string s] w fun e w' => e = .returned (.string ⟨(hexL s.data.toList).toArray⟩) ∧ Below w.heap.size w w' := by
  obtain ⟨i0, hi, hz0, hz1, hz2⟩ := info_parts byteInfo
  go_enter Tryz.func53, Tryz.ntmps53
  go_wp2_with (at_make; refine wpList_make_own _ rfl _ _ 55 rfl w.heap.size 5 i0 (.int .u8 0) 1 Tryz.underlying55 hi hz0 hz1 .i64 .i64 (2 * (s.size : Int)) (2 * s.size) rfl rfl (by omega) (by rw [hz2]; omega) (by unfold maxLen; omega) (Nat.le_refl _) ?_; intro w1 hown1 hgr1; have HO1 := Lib.hid hown1; have HG1 := Lib.hid hgr1; clear hown1 hgr1)
  go_loopw [3, 4] (fun v i wr => ∃ k : Nat, k ≤ s.size ∧ i = .int .i64 k ∧ OwnB 5 wr w.heap.size v (hexL (s.data.toList.take k)) ∧ Below w.heap.size w wr) (fun _ i _ => s.size - (intOf i).toNat)
  case atStart => exact ⟨0, Nat.zero_le _, rfl, HO1.out, (Below.refl _ _).grown HG1.out (Nat.le_refl _) (fun _ e => by cases e)⟩
  case round =>
    obtain ⟨k, hk, rfl, hown, hb⟩ := hrel
    have HO := Lib.hid hown
    have HB := Lib.hid hb
    clear hown hb
    by_cases hlt : k < s.size
    · have hd : decide ((k : Int) < (s.size : Int)) = true := by simp; omega
      obtain ⟨b, hbk⟩ : ∃ b, s[k] = b := ⟨_, rfl⟩
      obtain ⟨x, hx⟩ : ∃ x, x = b.toNat / 16 := ⟨_, rfl⟩
      obtain ⟨y, hy⟩ : ∃ y, y = b.toNat % 16 := ⟨_, rfl⟩
      have hq : ((b.toNat : Nat) : Int) / 16 = (x : Int) := by rw [hx]; rfl
      have hr : Int.tmod ((b.toNat : Nat) : Int) 16 = (y : Int) := by rw [hy]; rfl
      have hx16 : x < 16 := by have := b.toNat_lt; omega
      have hwx : IntKind.u8.wrap (x : Int) = (x : Int) := by simp [IntKind.wrap, IntKind.bits, IntKind.signed]; omega
      have h1 := digit_at x (by have := b.toNat_lt; omega)
      have h2 := digit_at y (by omega)
      have HX := Lib.hid hx
      have HY := Lib.hid hy
      clear hx hy
      go_wp2_with fail
      have hlen : (hexL (s.data.toList.take k)).length = 2 * k := by
        rw [hexL_length, List.length_take]
        have : s.data.toList.length = s.size := rfl
        omega
      have HLN := Lib.hid hlen
      clear hlen
      have hsb := HB.out.size
      go_region_law (refine step_append_own rfl (.tmp 15) (.tmp 26) 55 rfl w.heap.size 5 i0 (.int .u8 0) 1 Tryz.underlying55 hi hz0 hz1 hz2 rfl _ _ _ rfl ((HO.out.alloc _).drew) ⟨wr.heap.size, 0, none⟩ 2 2 [bcell (hexDigit x), bcell (hexDigit y)] rfl rfl (news_row wr #[bcell (hexDigit x), bcell (hexDigit y)] 5) (bcells_one [hexDigit x, hexDigit y]) (by rw [HLN.out]; unfold maxLen; omega) (by rw [HLN.out]; omega) (by simp; omega) ?_; intro v' w2 hown2 hgr2 _)
      all_goals
        have e1 : s.data.toList.take (k + 1) = s.data.toList.take k ++ [b] := by
          rw [List.take_succ_eq_append_getElem (by exact hlt)]
          congr 2
        have e2 : hexL (s.data.toList.take (k + 1)) = hexL (s.data.toList.take k) ++ [hexDigit x, hexDigit y] := by rw [e1, hexL_snoc, HX.out, HY.out]
        have hl2 : (hexL (s.data.toList.take (k + 1))).length = (hexL (s.data.toList.take k)).length + 2 := by rw [e2, List.length_append]; rfl
        have ho : OwnB 5 w2 w.heap.size v' (hexL (s.data.toList.take (k + 1))) := by
          unfold OwnB
          rw [hl2, e2, List.map_append]; exact hown2
        have hb2 : Below w.heap.size w w2 := OwnB.grown ((HO.out.alloc (.cells #[bcell (hexDigit x), bcell (hexDigit y)] 5)).drew) (Below.drew (Below.alloc HB.out hsb _)) hgr2 (by simp; omega) (Nat.le_refl _)
        have HO2 := Lib.hid ho
        have HB2 := Lib.hid hb2
        clear hown2 hgr2 e1 e2 hl2 ho hb2
        go_wp2_with fail
        go_roundw
        case rel => exact ⟨k + 1, by omega, by go_num, HO2.out, HB2.out⟩
        case measure => simp [intOf]; omega
    · have hconv := run_convert_own (P := Tryz.prog) (src := 55) (dst := 9) Tryz.underlying55 Tryz.underlying5 Tryz.underlying9 HO.out
      go_wp2_with fail
      go_ret
      refine ⟨?_, HB.out⟩
      have e : s.data.toList.take k = s.data.toList := List.take_of_length_le (by show s.size ≤ k; omega)
      rw [e]; rfl
end Go.Proofs.YtflpajbcomhkpaaGreatDoor
namespace Go.Proofs.YtflpajbcomhkpaaGreatDoor
open Go.RowKit

set_option maxRecDepth 100000 in
set_option maxHeartbeats 1000000 in
theorem hex_any (s : ByteArray) (w : World) (hn : s.size ≤ 1099511627776) :
    Calls Tryz.prog 90 #[.string s] w fun e w' => e = .returned (.string ⟨(hexL s.data.toList).toArray⟩) ∧ Below w.heap.size w w' := by
  obtain ⟨i0, hi, hz0, hz1, hz2⟩ := info_parts byteInfo
  go_enter Tryz.func90, Tryz.ntmps90
  go_wp2_with (at_make; refine wpList_make_own _ rfl _ _ 55 rfl w.heap.size 5 i0 (.int .u8 0) 1 Tryz.underlying55 hi hz0 hz1 .i64 .i64 (2 * (s.size : Int)) (2 * s.size) rfl rfl (by omega) (by rw [hz2]; omega) (by unfold maxLen; omega) (Nat.le_refl _) ?_; intro w1 hown1 hgr1; have HO1 := Lib.hid hown1; have HG1 := Lib.hid hgr1; clear hown1 hgr1)
  go_loopw [3, 11] (fun v i wr => ∃ k : Nat, k ≤ s.size ∧ i = .int .i64 k ∧ OwnB 5 wr w.heap.size v (hexL (s.data.toList.take k)) ∧ Below w.heap.size w wr) (fun _ i _ => s.size - (intOf i).toNat)
  case atStart => exact ⟨0, Nat.zero_le _, rfl, HO1.out, (Below.refl _ _).grown HG1.out (Nat.le_refl _) (fun _ e => by cases e)⟩
  case round =>
    obtain ⟨k, hk, rfl, hown, hb⟩ := hrel
    have HO := Lib.hid hown
    have HB := Lib.hid hb
    clear hown hb
    by_cases hlt : k < s.size
    · have hd : decide ((k : Int) < (s.size : Int)) = true := by simp; omega
      obtain ⟨b, hbk⟩ : ∃ b, s[k] = b := ⟨_, rfl⟩
      obtain ⟨x, hx⟩ : ∃ x, x = b.toNat / 16 := ⟨_, rfl⟩
      obtain ⟨y, hy⟩ : ∃ y, y = b.toNat % 16 := ⟨_, rfl⟩
      have hq : ((b.toNat : Nat) : Int) / 16 = (x : Int) := by rw [hx]; rfl
      have hr : bits BinOp.and .u8 ((b.toNat : Nat) : Int) 15 = (y : Int) := by
        have := u8_and_nat b.toNat 15 b.toNat_lt (by omega)
        rw [nat_mask4] at this
        rw [hy]; exact this
      have h1 := digit_at x (by have := b.toNat_lt; omega)
      have h2 := digit_at y (by omega)
      have HX := Lib.hid hx
      have HY := Lib.hid hy
      clear hx hy
      go_wp2_with fail
      have hlen : (hexL (s.data.toList.take k)).length = 2 * k := by
        rw [hexL_length, List.length_take]
        have : s.data.toList.length = s.size := rfl
        omega
      have HLN := Lib.hid hlen
      clear hlen
      have hsb := HB.out.size
      go_region_law (refine step_append_own rfl (.tmp 14) (.tmp 25) 55 rfl w.heap.size 5 i0 (.int .u8 0) 1 Tryz.underlying55 hi hz0 hz1 hz2 rfl _ _ _ rfl ((HO.out.alloc _).drew) ⟨wr.heap.size, 0, none⟩ 2 2 [bcell (hexDigit x), bcell (hexDigit y)] rfl rfl (news_row wr #[bcell (hexDigit x), bcell (hexDigit y)] 5) (bcells_one [hexDigit x, hexDigit y]) (by rw [HLN.out]; unfold maxLen; omega) (by rw [HLN.out]; omega) (by simp; omega) ?_; intro v' w2 hown2 hgr2 _)
      all_goals
        have e1 : s.data.toList.take (k + 1) = s.data.toList.take k ++ [b] := by
          rw [List.take_succ_eq_append_getElem (by exact hlt)]
          congr 2
        have e2 : hexL (s.data.toList.take (k + 1)) = hexL (s.data.toList.take k) ++ [hexDigit x, hexDigit y] := by rw [e1, hexL_snoc, HX.out, HY.out]
        have hl2 : (hexL (s.data.toList.take (k + 1))).length = (hexL (s.data.toList.take k)).length + 2 := by rw [e2, List.length_append]; rfl
        have ho : OwnB 5 w2 w.heap.size v' (hexL (s.data.toList.take (k + 1))) := by
          unfold OwnB
          rw [hl2, e2, List.map_append]; exact hown2
        have hb2 : Below w.heap.size w w2 := OwnB.grown ((HO.out.alloc (.cells #[bcell (hexDigit x), bcell (hexDigit y)] 5)).drew) (Below.drew (Below.alloc HB.out hsb _)) hgr2 (by simp; omega) (Nat.le_refl _)
        have HO2 := Lib.hid ho
        have HB2 := Lib.hid hb2
        clear hown2 hgr2 e1 e2 hl2 ho hb2
        go_wp2_with fail
        go_roundw
        case rel => exact ⟨k + 1, by omega, by go_num, HO2.out, HB2.out⟩
        case measure => simp [intOf]; omega
    · have hconv := run_convert_own (P := Tryz.prog) (src := 55) (dst := 9) Tryz.underlying55 Tryz.underlying5 Tryz.underlying9 HO.out
      go_wp2_with fail
      go_ret
      refine ⟨?_, HB.out⟩
      have e : s.data.toList.take k = s.data.toList := List.take_of_length_le (by show s.size ≤ k; omega)
      rw [e]; rfl
set_option maxHeartbeats 400000 in
theorem digit_any (c : UInt8) (w : World) :
    Calls Tryz.prog 139 #[.int .u8 ((c.toNat : Nat) : Int)] w fun e w' => e = .returned (.tuple #[.int .u8 (((digV c.toNat).getD 0 : Nat) : Int), .bool (digV c.toNat).isSome]) ∧ w = w' := by
  obtain ⟨n, hn⟩ : ∃ n, n = c.toNat := ⟨_, rfl⟩
  have hlt : n < 256 := by rw [hn]; exact c.toNat_lt
  rw [← hn]
  clear hn
  obtain ⟨V, hV⟩ : ∃ V, V = digV n := ⟨_, rfl⟩
  rw [← hV]
  have HV := Lib.hid hV
  clear hV
  by_cases h1 : 48 ≤ n
  · have d1 : decide ((48 : Int) ≤ (n : Int)) = true := by simp; omega
    by_cases h2 : n ≤ 57
    · have d2 : decide ((n : Int) ≤ (57 : Int)) = true := by simp; omega
      go_enter Tryz.func139, Tryz.ntmps139
      go_wp2_with fail
      go_ret2
      rw [HV.out, digV_low ⟨h1, h2⟩]
      refine ⟨?_, rfl⟩
      show Ending.returned (.tuple #[.int .u8 ((n : Int) - 48), .bool true]) = Ending.returned (.tuple #[.int .u8 ((n - 48 : Nat) : Int), .bool true])
      rw [show (n : Int) - 48 = ((n - 48 : Nat) : Int) by omega]
    · have d2 : decide ((n : Int) ≤ (57 : Int)) = false := by simp; omega
      by_cases h3 : 97 ≤ n
      · have d3 : decide ((97 : Int) ≤ (n : Int)) = true := by simp; omega
        by_cases h4 : n ≤ 102
        · have d4 : decide ((n : Int) ≤ (102 : Int)) = true := by simp; omega
          go_enter Tryz.func139, Tryz.ntmps139
          go_wp2_with fail
          go_ret2
          rw [HV.out, digV_high ⟨h3, h4⟩]
          refine ⟨?_, rfl⟩
          show Ending.returned (.tuple #[.int .u8 ((n : Int) - 97 + 10), .bool true]) = Ending.returned (.tuple #[.int .u8 ((n - 87 : Nat) : Int), .bool true])
          rw [show (n : Int) - 97 + 10 = ((n - 87 : Nat) : Int) by omega]
        · have d4 : decide ((n : Int) ≤ (102 : Int)) = false := by simp; omega
          go_enter Tryz.func139, Tryz.ntmps139
          go_wp2_with fail
          go_ret2
          rw [HV.out, digV_no (by omega) (by omega)]
          exact ⟨rfl, rfl⟩
      · have d3 : decide ((97 : Int) ≤ (n : Int)) = false := by simp; omega
        go_enter Tryz.func139, Tryz.ntmps139
        go_wp2_with fail
        go_ret2
        rw [HV.out, digV_no (by omega) (by omega)]
        exact ⟨rfl, rfl⟩
  · have d1 : decide ((48 : Int) ≤ (n : Int)) = false := by simp; omega
    have d3 : decide ((97 : Int) ≤ (n : Int)) = false := by simp; omega
    go_enter Tryz.func139, Tryz.ntmps139
    go_wp2_with fail
    go_ret2
    rw [HV.out, digV_no (by omega) (by omega)]
    exact ⟨rfl, rfl⟩

theorem digit_some {c : UInt8} {v : Nat} (h : digV c.toNat = some v) (w : World) :
    Calls Tryz.prog 139 #[.int .u8 ((c.toNat : Nat) : Int)] w fun e w' => e = .returned (.tuple #[.int .u8 (v : Int), .bool true]) ∧ w = w' := by
  have := digit_any c w
  rwa [h] at this
theorem digit_none {c : UInt8} (h : digV c.toNat = none) (w : World) :
    Calls Tryz.prog 139 #[.int .u8 ((c.toNat : Nat) : Int)] w fun e w' => e = .returned (.tuple #[.int .u8 0, .bool false]) ∧ w = w' := by
  have := digit_any c w
  rwa [h] at this
set_option maxRecDepth 100000 in
theorem or_digits8 : ∀ a : Nat, a < 16 → ∀ b : Nat, b < 16 → bits BinOp.or .u8 ((a : Int) * 16) (b : Int) = ((16 * a + b : Nat) : Int) := by decide

set_option maxRecDepth 100000 in
set_option maxHeartbeats 1000000 in
theorem unhex_any (s : ByteArray) (w : World) (hn : s.size ≤ 1099511627776) :
    Calls Tryz.prog 97 #[.string s] w fun e w' => ∃ u ok, e = .returned (.tuple #[.string u, .bool ok]) ∧ Unh s.data.toList u ok ∧ Below w.heap.size w w' := by
  obtain ⟨i0, hi, hz0, hz1, hz2⟩ := info_parts byteInfo
  have hsl : s.data.toList.length = s.size := rfl
  have HSL := Lib.hid hsl
  clear hsl
  by_cases hpar : s.size % 2 = 1
  · have hr : (s.size : Int) % 2 = 1 := by omega
    go_enter Tryz.func97, Tryz.ntmps97
    go_wp2_with fail
    go_ret2
    exact ⟨_, _, rfl, unh_odd (by rw [HSL.out]; exact hpar), Below.refl _ _⟩
  · have hr : (s.size : Int) % 2 = 0 := by omega
    have HP := Lib.hid (show s.size % 2 = 0 by omega)
    clear hpar
    go_enter Tryz.func97, Tryz.ntmps97
    go_wp2_with (at_make; refine wpList_make_own _ rfl _ _ 55 rfl w.heap.size 5 i0 (.int .u8 0) 1 Tryz.underlying55 hi hz0 hz1 .i64 .i64 ((s.size : Int) / 2) (s.size / 2) rfl rfl (by omega) (by rw [hz2]; omega) (by unfold maxLen; omega) (Nat.le_refl _) ?_; intro w1 hown1 hgr1; have HO1 := Lib.hid hown1; have HG1 := Lib.hid hgr1; clear hown1 hgr1)
    go_loopw [4, 5] (fun v i wr => ∃ (j : Nat) (D : List UInt8), j ≤ s.size ∧ j % 2 = 0 ∧ i = .int .i64 j ∧ hexL D = s.data.toList.take j ∧ OwnB 5 wr w.heap.size v D ∧ Below w.heap.size w wr) (fun _ i _ => s.size - (intOf i).toNat)
    case atStart => exact ⟨0, [], Nat.zero_le _, rfl, rfl, rfl, HO1.out, (Below.refl _ _).grown HG1.out (Nat.le_refl _) (fun _ e => by cases e)⟩
    case round =>
      obtain ⟨j, D, hj, hj2, rfl, hD, hown, hb⟩ := hrel
      have HO := Lib.hid hown
      have HB := Lib.hid hb
      have HD := Lib.hid hD
      have hDl : 2 * D.length = j := by
        have := congrArg List.length hD
        rw [hexL_length, List.length_take, HSL.out] at this; omega
      clear hown hb hD
      by_cases hlt : j < s.size
      · have hd : decide ((j : Int) < (s.size : Int)) = true := by simp; omega
        have hlt1 : j + 1 < s.size := by have := HP.out; omega
        obtain ⟨c0, hc0⟩ : ∃ c, s[j] = c := ⟨_, rfl⟩
        obtain ⟨c1, hc1⟩ : ∃ c, s[j + 1] = c := ⟨_, rfl⟩
        have x0 := fun w => run_index_at (P := Tryz.prog) Tryz.underlying9 s j c0 hlt hc0 (j : Int) rfl w
        have x1 := fun w => run_index_at (P := Tryz.prog) Tryz.underlying9 s (j + 1) c1 hlt1 hc1 ((j : Int) + 1) (by omega) w
        have m0 : c0 ∈ s.data.toList := by rw [← hc0]; exact List.getElem_mem (show j < s.data.toList.length from hlt)
        have m1 : c1 ∈ s.data.toList := by rw [← hc1]; exact List.getElem_mem (show j + 1 < s.data.toList.length from hlt1)
        have HC0 := Lib.hid hc0
        have HC1 := Lib.hid hc1
        have M0 := Lib.hid m0
        have M1 := Lib.hid m1
        clear hc0 hc1 m0 m1
        cases ha : digV c0.toNat with
        | none =>
          have HA := Lib.hid ha
          clear ha
          go_wp2_with (first | (go_at_call 139; (with_reducible refine (digit_none HA.out _).mono ?_); rintro e w2 ⟨rfl, rfl⟩) | (go_at_call 139; (with_reducible refine (digit_any c1 _).mono ?_); rintro e w2 ⟨rfl, rfl⟩))
          go_ret2
          exact ⟨_, _, rfl, unh_bad M0.out HA.out, HB.out⟩
        | some a =>
          have HA := Lib.hid ha
          clear ha
          cases hb : digV c1.toNat with
          | none =>
            have HBB := Lib.hid hb
            clear hb
            go_wp2_with (first | (go_at_call 139; (with_reducible refine (digit_some HA.out _).mono ?_); rintro e w2 ⟨rfl, rfl⟩) | (go_at_call 139; (with_reducible refine (digit_none HBB.out _).mono ?_); rintro e w2 ⟨rfl, rfl⟩))
            go_ret2
            exact ⟨_, _, rfl, unh_bad M1.out HBB.out, HB.out⟩
          | some b =>
            have HBB := Lib.hid hb
            have ha16 := (digV_some HA.out).1
            have hb16 := (digV_some hb).1
            clear hb
            obtain ⟨y, hy⟩ : ∃ y : UInt8, y = UInt8.ofNat (16 * a + b) := ⟨_, rfl⟩
            have hyn : y.toNat = 16 * a + b := by rw [hy]; simp; omega
            have hor : bits BinOp.or .u8 ((a : Int) * 16) (b : Int) = ((y.toNat : Nat) : Int) := by rw [hyn]; exact or_digits8 a ha16 b hb16
            have HY := Lib.hid hy
            clear hy hyn
            have hsb := HB.out.size
            go_wp2_with (first | (go_at_call 139; (with_reducible refine (digit_some HA.out _).mono ?_); rintro e w2 ⟨rfl, rfl⟩) | (go_at_call 139; (with_reducible refine (digit_some HBB.out _).mono ?_); rintro e w2 ⟨rfl, rfl⟩) | (at_builtin; (refine wpList_append_own _ rfl (.tmp 45) (.tmp 50) 55 rfl w.heap.size 5 i0 (.int .u8 0) 1 1 Tryz.underlying55 hi hz0 hz1 hz2 rfl (by decide) _ _ _ rfl (HO.out.alloc _) ⟨wr.heap.size, 0, none⟩ 1 1 [bcell y] rfl rfl (news_row wr #[bcell y] 5) (bcells_one [y]) (by unfold maxLen; omega) (by omega) (by simp; omega) ?_); intro v' w2 hown2 hgr2 _; obtain ⟨P1, P2⟩ := out_round HO.out HB.out hown2 hgr2; have HP1 := Lib.hid P1; have HP2 := Lib.hid P2; clear hown2 hgr2 P1 P2))
            go_roundw
            case rel => exact ⟨j + 2, D ++ [y], by omega, by omega, by go_num, by rw [HY.out]; exact unh_step (s := s.data.toList) hlt1 HD.out HC0.out HC1.out HA.out HBB.out, HP1.out, HP2.out⟩
            case measure => simp [intOf]; omega
      · have ej : j = s.size := by omega
        subst ej
        have hd : decide ((s.size : Int) < (s.size : Int)) = false := by simp
        have hconv := run_convert_own (P := Tryz.prog) (src := 55) (dst := 9) Tryz.underlying55 Tryz.underlying5 Tryz.underlying9 HO.out
        go_wp2_with fail
        go_ret2
        refine ⟨_, _, rfl, Or.inl ⟨rfl, ?_⟩, HB.out⟩
        show hexL D = s.data.toList
        rw [HD.out]
        exact List.take_of_length_le (by rw [HSL.out]; exact Nat.le_refl _)
end Go.Proofs.YtflpajbcomhkpaaGreatDoor
