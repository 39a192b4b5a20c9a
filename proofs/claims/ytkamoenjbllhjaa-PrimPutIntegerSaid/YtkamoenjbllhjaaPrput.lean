/-
  The contract of the reference's PutInteger.
-/
import Derived.Test.YtkamoenjbllhjaaPlenz
namespace Go.Proofs.Ytkamoenjbllhjaa
open Go.RowKit

theorem app_round {B : Nat} {w0 w w2 : World} {v v' : Value} {D : List UInt8} {y : UInt8} {X : Obj} (hown : OwnB 5 w B v D) (hb : Below B w0 w) (hB : B ≤ w.heap.size)
    (hown2 : w2.ownsRow B 5 1 v' (D.length + 1) (D.map bcell ++ [bcell y])) (hgr2 : (w.alloc X).grownBy w2 v.ownBlock) : OwnB 5 w2 B v' (D ++ [y]) ∧ Below B w0 w2 := by
  refine ⟨?_, ?_⟩
  · unfold OwnB
    rw [List.length_append, List.map_append]; exact hown2
  · exact (hb.alloc hB X).grown hgr2 (by simp; omega) (fun k e => (World.ownsRow.lt hown k e).1)
theorem own_nil (w : World) (B : Nat) : OwnB 5 w B (.slice none 0 0) [] := ⟨rfl, .inl ⟨rfl, rfl⟩⟩
theorem own_head {w : World} {B : Nat} {v : Value} {l : List UInt8} (h : OwnB 5 w B v l) (hl : l ≠ []) :
    ∃ g cap, v = .slice (some ⟨g, 0, none⟩) l.length cap ∧ l.length ≤ cap ∧ ∀ j, j < l.length → w.cell? ⟨g, j, none⟩ = some (.int .u8 (((l.getD j 0).toNat : Nat) : Int)) := by
  rcases h.2 with ⟨_, h0⟩ | ⟨g, cap, cur, hv, hB, hg, h1, h2, h3, h4⟩
  · exact absurd (List.eq_nil_of_length_eq_zero h0) hl
  · refine ⟨g, cap, hv, by omega, fun j hj => ?_⟩
    subst hv
    exact own_cell h rfl j hj
theorem putZ_take (v : Int) (n k : Nat) (h : k < n) : (putZ v n).take (k + 1) = (putZ v n).take k ++ [UInt8.ofNat (octZ v n k)] := by
  rw [List.take_succ_eq_append_getElem (by rw [putZ_length]; exact h)]
  simp [putZ]
theorem octZ_u64 (v : Int) (m : Nat) (h : m < 8) : v % 18446744073709551616 / 2 ^ (8 * m) % 256 = (((UInt8.ofNat (octZ v 8 (7 - m))).toNat : Nat) : Int) := by
  have e := octZ_at v 8 m h
  rw [show 8 - 1 - m = 7 - m by omega] at e
  rw [← e, pow_256]
  rcases (by omega : m = 0 ∨ m = 1 ∨ m = 2 ∨ m = 3 ∨ m = 4 ∨ m = 5 ∨ m = 6 ∨ m = 7) with rfl | rfl | rfl | rfl | rfl | rfl | rfl | rfl <;> simp <;> omega

theorem octZ_drop (v : Int) (o j : Nat) : octZ v 8 (o + j) = octZ v (8 - o) j := by
  unfold octZ
  rw [show 8 - 1 - (o + j) = 8 - o - 1 - j by omega]
/-- The text of the bytes from the one with index o on, where so many are needed. -/
theorem rput_conv (v : Int) (g o cap : Nat) (w : World) (h : lenZ v + o = 8) (hc : ∀ j, j < 8 → w.cell? ⟨g, j, none⟩ = some (.int .u8 ((octZ v 8 j : Nat) : Int))) :
    (convert 42 9 (.slice (some ⟨g, o, none⟩) (8 - o) cap)).run Try.prog w = .ok (.string (putInt v)) w := by
  have hl : (putZ v (lenZ v)).length = 8 - o := by rw [putZ_length]; omega
  have := run_convert_bytes_back (P := Try.prog) w 42 9 5 ⟨g, o, none⟩ cap (putZ v (lenZ v)) Try.underlying42 Try.underlying5 Try.underlying9 (fun j hj => by
    have hadd : (⟨g, o, none⟩ : Addr).add j = ⟨g, o + j, none⟩ := by unfold Addr.add; split <;> simp_all
    rw [hadd, hc (o + j) (by omega), octZ_drop, show 8 - o = lenZ v by omega]
    simp [putZ]
    have := octZ_lt v (lenZ v) j
    omega)
  rw [hl] at this
  exact this

set_option maxRecDepth 100000 in
set_option maxHeartbeats 4000000 in
theorem rput_any (v : Int) (w : World) (h0 : -9223372036854775808 ≤ v) (h1 : v < 9223372036854775808) :
    Calls Try.prog 17 #[.int .i64 v] w fun e w' => e = .returned (.string (putInt v)) ∧ Below w.heap.size w w' := by
  obtain ⟨i0, hi, hz0, hz1, hz2⟩ := info_parts byteInfo
  have hu : IntKind.u64.wrap v = v % 18446744073709551616 := wrap_u64 v
  obtain ⟨U, hU⟩ : ∃ U, U = v % 18446744073709551616 := ⟨_, rfl⟩
  rw [← hU] at hu
  have hU0 : 0 ≤ U := by omega
  have hU1 : U < 18446744073709551616 := by omega
  have HU := Lib.hid hU
  have H0 := Lib.hid h0
  have H1 := Lib.hid h1
  clear hU h0 h1
  go_enter Try.func17, Try.ntmps17
  go_wp2_with fail
  go_loopw [4, 5] (fun s i wr => ∃ j : Nat, j ≤ 8 ∧ i = .int .i64 ((j : Int) - 1) ∧ OwnB 5 wr w.heap.size s ((putZ v 8).take (8 - j)) ∧ Below w.heap.size w wr) (fun _ i _ => (intOf i + 1).toNat)
  case atStart => exact ⟨8, by omega, rfl, own_nil _ _, Below.refl _ _⟩
  case round =>
    obtain ⟨j, hj, rfl, ho, hb⟩ := hrel
    have HO := Lib.hid ho
    have HB := Lib.hid hb
    have HBB := Lib.hid hb.size
    clear ho hb
    cases j with
    | succ m =>
      rw [show (((m + 1 : Nat) : Int) - 1) = (m : Int) by omega]
      have hd : decide ((0 : Int) ≤ (m : Int)) = true := by simp
      have HL := Lib.hid (show ((putZ v 8).take (8 - (m + 1))).length ≤ 8 by rw [List.length_take, putZ_length]; omega)
      have HZ := Lib.hid (octZ_u64 v m (by omega))
      rw [← HU.out] at HZ
      obtain ⟨z, hz⟩ : ∃ z : UInt8, z = UInt8.ofNat (octZ v 8 (7 - m)) := ⟨_, rfl⟩
      rw [← hz] at HZ
      have hc := HZ.out
      have HT := Lib.hid (putZ_take v 8 (7 - m) (by omega))
      rw [← hz, show 7 - m + 1 = 8 - m by omega, show 7 - m = 8 - (m + 1) by omega] at HT
      obtain ⟨D, hD⟩ : ∃ D, D = (putZ v 8).take (8 - (m + 1)) := ⟨_, rfl⟩
      rw [← hD] at HO HL HT
      clear hD hz HZ
      go_wp2_with (at_builtin; (refine wpList_append_own _ rfl (.tmp 12) (.tmp 18) 42 rfl w.heap.size 5 i0 (.int .u8 0) 1 1 Try.underlying42 hi hz0 hz1 hz2 rfl (by decide) _ D.length (D.map bcell) rfl (HO.out.alloc _) ⟨_, 0, none⟩ 1 1 [bcell z] rfl rfl (news_row _ #[bcell z] 5) (bcells_one [z]) (by have := HL.out; unfold maxLen; omega) (by have := HL.out; omega) (by have := HBB.out; simp; omega) ?_); intro v' w2 hown2 hgr2 _; obtain ⟨P1, P2⟩ := app_round HO.out HB.out HBB.out hown2 hgr2; have HP1 := Lib.hid P1; have HP2 := Lib.hid P2; clear hown2 hgr2 P1 P2)
      go_roundw
      case rel => exact ⟨m, by omega, by go_num, by rw [HT.out]; exact HP1.out, HP2.out⟩
      case measure => simp [intOf]
    | zero =>
      rw [show (((0 : Nat) : Int) - 1) = (-1 : Int) by omega]
      obtain ⟨g, cap, hs, hcap, hcl⟩ := own_head HO.out (by intro e; have := congrArg List.length e; simp [putZ] at this)
      have hl8 : ((putZ v 8).take (8 - 0)).length = 8 := by rw [List.length_take, putZ_length]; rfl
      rw [hl8] at hs hcap hcl
      subst hs
      have hcells : ∀ o, o < 8 → wr.cell? ⟨g, o, none⟩ = some (.int .u8 ((octZ v 8 o : Nat) : Int)) := by
        intro o ho
        rw [hcl o ho]
        have : ((putZ v 8).take (8 - 0)).getD o 0 = UInt8.ofNat (octZ v 8 o) := by
          rw [List.take_of_length_le (by rw [putZ_length]; omega)]
          simp [putZ, ho]
        rw [this, ofNat_toNat (octZ_lt _ _ _)]
      have HC := Lib.hid hcells
      clear hcl hcells hl8 HO
      go_wp2_with fail
      obtain ⟨wo, rfl⟩ : ∃ wo : World, wo = wr := ⟨_, rfl⟩
      go_loopw [4] (fun s wx => ∃ o l C : Nat, o + l = 7 ∧ l + 1 ≤ C ∧ lenZ v ≤ l + 1 ∧ s = .slice (some ⟨g, o, none⟩) (l + 1) C ∧ wx = wo) (fun s _ => match s with | .slice _ n _ => n | _ => 0)
      case atStart => exact ⟨0, 7, cap, rfl, hcap, (lenZ_le v H0.out H1.out).2, rfl, rfl⟩
      case round =>
        obtain ⟨o, l, C, hol, hC, hlo, rfl, rfl⟩ := hrel
        have HLO := Lib.hid hlo
        clear hcap hlo
        cases l with
        | zero =>
          obtain rfl : o = 7 := by omega
          have hconv := rput_conv v g 7 C wr (by have := (lenZ_le v H0.out H1.out).1; have := HLO.out; omega) HC.out
          rw [show 8 - 7 = 1 from rfl] at hconv
          rw [show 0 + 1 = 1 from rfl]
          clear hol hC
          go_wp2_with fail
          go_ret
          exact ⟨rfl, HB.out⟩
        | succ m =>
          obtain ⟨x, hx⟩ : ∃ x, x = octZ v 8 o := ⟨_, rfl⟩
          obtain ⟨y, hy⟩ : ∃ y, y = octZ v 8 (o + 1) := ⟨_, rfl⟩
          have hc0 := HC.out o (by omega)
          have hc1 := HC.out (o + 1) (by omega)
          rw [← hx] at hc0
          rw [← hy] at hc1
          rw [show m + 1 + 1 = m + 2 from rfl]
          have hd : decide ((1 : Int) < ((m + 2 : Nat) : Int)) = true := by simp; omega
          have hxi : (x : Int) = v / (256 ^ (m + 1) : Nat) % 256 := by rw [hx, octZ, show 8 - 1 - o = m + 1 by omega]; omega
          have hyi : (y : Int) = v / (256 ^ m : Nat) % 256 := by rw [hy, octZ, show 8 - 1 - (o + 1) = m by omega]; omega
          have ht := trim_iff v H0.out H1.out m (by omega) HLO.out x y hxi hyi
          clear hx hy hxi hyi
          by_cases hle : lenZ v ≤ m + 1
          · have hw := ht.2 hle
            have HLE := Lib.hid hle
            clear ht hle
            rcases hw with ⟨rfl, hy⟩ | ⟨rfl, hy⟩
            · have d1 : decide ((y : Int) < 128) = true := by simp; omega
              clear hy
              go_wp2_with fail
              go_roundw
              case rel => exact ⟨o + 1, m, C - 1, by omega, by omega, HLE.out, rfl, trivial⟩
              case measure => exact Nat.lt_succ_self _
            · have d1 : decide ((128 : Int) ≤ (y : Int)) = true := by simp; omega
              clear hy
              go_wp2_with fail
              go_roundw
              case rel => exact ⟨o + 1, m, C - 1, by omega, by omega, HLE.out, rfl, trivial⟩
              case measure => exact Nat.lt_succ_self _
          · have hconv := rput_conv v g o C wr (by have := HLO.out; omega) HC.out
            rw [show 8 - o = m + 2 by omega] at hconv
            have hw : ¬ (x = 0 ∧ y < 128 ∨ x = 255 ∧ 128 ≤ y) := fun e => hle (ht.1 e)
            clear ht hle
            have hf : (x = 0 ∧ decide ((y : Int) < 128) = false) ∨ (x = 255 ∧ decide ((128 : Int) ≤ (y : Int)) = false) ∨ (((x : Int) == 0) = false ∧ ((x : Int) == 255) = false) := by
              by_cases e0 : x = 0
              · exact .inl ⟨e0, by simp; omega⟩
              · by_cases e1 : x = 255
                · exact .inr (.inl ⟨e1, by simp; omega⟩)
                · exact .inr (.inr ⟨beq_eq_false_iff_ne.2 (by omega), beq_eq_false_iff_ne.2 (by omega)⟩)
            clear hw
            rcases hf with ⟨rfl, d1⟩ | ⟨rfl, d1⟩ | ⟨d1, d2⟩
            all_goals
              go_wp2_with fail
              go_ret
              exact ⟨rfl, HB.out⟩
end Go.Proofs.Ytkamoenjbllhjaa
