/-
  The walk of the law SignerLoad, over what is wanted of the program's signers.
  The contracts of the program's Load.
  The contract of the program's Save of a signer.
  What is wanted of the program's signers.
  Nothing is left of this text.
  What every card of this seat's laws over gname needs: how a slice of bytes is opened, how seven arguments are opened, and that the laws' functions only read what they are handed.
  Nothing is left of this text.
  A slice of numbers that can be read: its numbers lie at its address.
  What every card of this seat's laws over ots needs: the table of constants that the rows list.
-/
import Derived.Test.YtphgpakfdhdklaaDoorAaq
import Derived.Test.YtphgpakfdhdklaaDoorAar
import Derived.Deep.RegionLaw
import Derived.Test.YtphgpakfdhdklaaDoorAap
import Derived.BigRegion
import Derived.Test.YtphgpakfdhdklaaDoorAaa
import Derived.Test.YtphgpakfdhdklaaDoorAai
import Derived.Test.YtphgpakfdhdklaaDoorCards
import Derived.Test.YtphgpakfdhdklaaDoorTie
import Derived.ProofKit
import Derived.OpenShut
import Derived.Deep.DeepHandedRow
import Derived.Deep.DeepWitnessRowRef
import Derived.Lay
import Derived.Stop.LaidErr
import Derived.Deep.Slices
import Derived.Deep.Strs
import Derived.Test.YtphgpakfdhdklaaDoorAae
import Derived.Lib.LaidTab
namespace Go.Proofs.YtphgpakfdhdklaaDoor
open Go.RowKit

set_option maxRecDepth 100000 in
set_option maxHeartbeats 1000000 in
theorem lod_out {SA : SignP} (hS : Signers SA) (b : ByteArray) (k x : Nat) (a : Option Addr) (cap n : Nat) (hbig : 100 < b.size) (w : World) (hK : Holds w 0 kWords) :
    Calls Tryd.prog 5 #[.string b, .int .u8 (k : Int), .int .u8 (x : Int), .slice a n cap] w fun e w' => e = .returned (.bool true) ∧ Below w.heap.size w w' := by
  have HAW := Lib.hid (awakev_any hS w hK)
  have d1 : decide ((100 : Int) < (b.size : Int)) = true := by simp; omega
  clear hS hK hbig
  go_enter Tryd.func5, Tryd.ntmps5
  go_wp2_with (go_at_call 25; (with_reducible refine HAW.out.mono ?_); rintro e w1 ⟨rfl, hb1⟩; have HB1 := Lib.hid hb1; clear hb1)
  go_ret
  exact ⟨rfl, HB1.out⟩

set_option maxRecDepth 100000 in
set_option maxHeartbeats 4000000 in
theorem lod_in {SA : SignP} (hS : Signers SA) (b : ByteArray) (k x : Nat) (a : Option Addr) (cap : Nat) (zs : List Int) (hk : k < 256) (hb : b.size ≤ 100) (w : World) (hK : Holds w 0 kWords) (hli : ILies w a zs) (hz : zs.length ≤ 9223372036854775807) :
    Calls Tryd.prog 5 #[.string b, .int .u8 (k : Int), .int .u8 (x : Int), .slice a zs.length cap] w fun e w' => e = .returned (.bool true) ∧ Below w.heap.size w w' := by
  have d1 : decide ((100 : Int) < (b.size : Int)) = false := by simp; omega
  obtain ⟨n, hn⟩ : ∃ n, n = x % 6 := ⟨_, rfl⟩
  have hni : (x : Int) % 6 = (n : Int) := by omega
  have hnt : (x : Int).tmod 6 = (n : Int) := by rw [Int.tmod_eq_emod_of_nonneg (by omega)]; exact hni
  have hnw : IntKind.i64.wrap (n : Int) = (n : Int) := by rw [wrap_i64]; omega
  obtain ⟨S, hSS⟩ : ∃ S, S = seedS k := ⟨_, rfl⟩
  have hSs : S.size = 32 := by rw [hSS]; exact seedS_size k
  have HSD : Hid (∀ W : World, Calls Tryd.prog 10 #[.int .i64 (k : Int)] W fun e w' => e = .returned (.string S) ∧ Below W.heap.size W w') := Lib.hid fun W => by rw [hSS]; exact seedq_any k (by omega) W
  have HSV : Hid (∀ (r : Nat) (W : World), r < 3 → Calls Tryd.prog 19 #[.string S, .int .i64 (r : Int), .int .i64 (n : Int)] W fun e w' => e = .returned (.string (saveS S r n)) ∧ Below W.heap.size W w') := Lib.hid fun r W hr => rsave_any S r n (by omega) (by omega) (by omega) W
  have HSZ : Hid (∀ r, (saveS S r n).size = 41) := Lib.hid fun r => saveS_size hSs r n
  have HAW := Lib.hid (fun W hk => awakev_any hS W hk)
  obtain ⟨z, hzz⟩ : ∃ z, z = zs.length := ⟨_, rfl⟩
  have HND : Hid (∀ W : World, ILies W a zs → Calls Tryd.prog 11 #[.slice a z cap] W fun e w' => e = .returned (.pointer (some ⟨W.heap.size, 0, none⟩)) ∧ DeckAt w' W.heap.size a cap zs 0 ∧ Below W.heap.size W w') := Lib.hid fun W hl => by rw [hzz]; exact new_any a cap zs W hl hz
  have HHS := Lib.hid hS
  have HK := Lib.hid hK
  have HLI := Lib.hid hli
  have hkw : IntKind.i64.wrap (k : Int) = (k : Int) := by rw [wrap_i64]; omega
  rw [← hzz]
  clear hSS hSs hn hzz hz hK hli hS hb
  go_enter Tryd.func5, Tryd.ntmps5
  go_wp2_with (first
    | (go_at_call 11; (with_reducible refine (HND.out _ HLI.out).mono ?_); rintro e w1 ⟨rfl, hd1, hb1⟩; have HB1 := Lib.hid hb1; have HD1 := Lib.hid hd1; clear hb1 hd1)
    | (go_at_call 10; (with_reducible refine (HSD.out _).mono ?_); rintro e w2 ⟨rfl, hb2⟩; have HB2 := Lib.hid (HB1.out.next hb2); have HD2 := Lib.hid (HD1.out.below hb2); clear hb2)
    | (go_at_call 13; (with_reducible refine (next3 w.heap.size a cap zs 0 _ HD2.out (by omega)).mono ?_); rintro e w3 ⟨r, k', hr, rfl, hd3, hk3, hb3⟩; have HD3 := Lib.hid hd3; have HK3 := Lib.hid hk3; have HRR := Lib.hid hr; have HB3 := Lib.hid (HB2.out.trans (but_base hb3 (Nat.le_refl _) HB2.out.size)); clear hd3 hk3 hr hb3)
    | (go_at_call 19; (with_reducible refine (HSV.out r _ HRR.out).mono ?_); rintro e w4 ⟨rfl, hb4⟩; have HB4 := Lib.hid (HB3.out.next hb4); have HD4 := Lib.hid (HD3.out.below hb4); clear hb4)
    | (go_at_call 28; (with_reducible refine (damage_but w.heap.size a cap zs k' (saveS S r n) _ HD4.out (by have := HK3.out; omega) (by rw [HSZ.out]; decide) (by rw [HSZ.out]; decide)).mono ?_); rintro e w5 ⟨X2, k5, rfl, _, hd5, _, hb5⟩; have HB5 := Lib.hid (HB4.out.trans (but_base hb5 (Nat.le_refl _) HB4.out.size)); clear hd5 hb5))
  -- LOOP
  obtain ⟨Y, hY⟩ : ∃ Y, Y = saveS S r n := ⟨_, rfl⟩
  obtain ⟨sb, hsb⟩ : ∃ sb, sb = w5.heap.size := ⟨_, rfl⟩
  rw [← hY]
  obtain ⟨W6, hW6⟩ : ∃ W6, W6 = w5.alloc (.cells #[.string b, .string Y, .string X2] 9) := ⟨_, rfl⟩
  rw [← hW6, ← hsb]
  have HQ6 : Hid (W6.heap[sb]? = some (.cells #[.string b, .string Y, .string X2] 9 (0, 0))) := Lib.hid (by rw [hW6, hsb]; exact heap_alloc_new w5 _)
  have HB6 : Hid (Below w.heap.size w W6) := Lib.hid (by rw [hW6]; exact HB5.out.next (belowNew w5 _))
  have HC6 : Hid (∀ j, j < 3 → ∃ s, W6.cell? ⟨sb, j, none⟩ = some (.string s)) := Lib.hid (fun j hj => by
    obtain ⟨c0, c1, c2, _⟩ := tcell HQ6.out
    obtain rfl | rfl | rfl : j = 0 ∨ j = 1 ∨ j = 2 := by omega
    · exact ⟨_, c0⟩
    · exact ⟨_, c1⟩
    · exact ⟨_, c2⟩)
  have HSB : Hid (sb < W6.heap.size) := Lib.hid (Array.getElem?_eq_some_iff.1 HQ6.out).1
  clear hY hsb hW6 d1 hni hnt hnw hkw
  go_loopw [39] (fun i wr => ∃ j : Nat, j ≤ 3 ∧ i = .int .i64 (j : Int) ∧ Below W6.heap.size W6 wr) (fun i _ => 3 - (intOf i).toNat)
  case atStart => exact ⟨0, by omega, rfl, Below.refl _ _⟩
  case round =>
    obtain ⟨j, hj, rfl, hb⟩ := hrel
    have HBR := Lib.hid hb
    clear hb
    by_cases hlt : j < 3
    · have hd : decide ((j : Int) < 3) = true := by simp; omega
      have hji : (j : Int) < 3 := by omega
      obtain ⟨s, hs⟩ := HC6.out j hlt
      have hc := (HBR.out.cell (p := ⟨sb, j, none⟩) HSB.out).trans hs
      have HLJ := Lib.hid hlt
      obtain ⟨z, hz⟩ : ∃ z, z = s.size := ⟨_, rfl⟩
      have hzi : (s.size : Int) = (z : Int) := by rw [hz]
      clear hs
      rcases Nat.decEq z 41 with hz1 | hz1
      · have d1 : ((z : Int) == 41) = false := by simp; omega
        have d2 : ¬ (z : Int) = 41 := by omega
        have HNO : Hid (¬ LoadOk s) := Lib.hid (fun h => hz1 (by rw [hz]; exact h.1))
        clear hz
        have HLX : Hid (∀ W : World, Holds W 0 kWords → Calls Tryd.prog 20 #[.string s] W fun e w' => e = .returned (.tuple #[.pointer none, .int .i64 7]) ∧ Below W.heap.size W w') := Lib.hid fun W hk => HHS.out.loadx s W HNO.out hk
        clear HNO
        go_wp2_with (go_at_call 20; (with_reducible refine (HLX.out _ (HK.out.old (HB6.out.next HBR.out))).mono ?_); rintro e w7 ⟨rfl, hb7⟩; have HB7 := Lib.hid (HBR.out.next hb7); clear hb7)
        go_roundw
        case rel => exact ⟨j + 1, HLJ.out, by go_num, HB7.out⟩
        case measure => have := HLJ.out; simp [intOf]; omega
      · subst hz1
        obtain ⟨v, hv⟩ : ∃ v, v = u8at s 36 := ⟨_, rfl⟩
        have hi36 : ∀ w, (Instr.index 9 (.string s) (.int .i64 36)).run Tryd.prog w = .ok (.int .u8 ((v : Nat) : Int)) w := fun w => by rw [hv]; exact run_index_u8 Tryd.underlying9 s 36 (by omega) 36 rfl w
        have hv8 : v < 256 := by rw [hv]; exact u8at_lt s 36
        obtain ⟨u, hu⟩ : ∃ u, u = s.extract 0 4 := ⟨_, rfl⟩
        have hex : s.extract 0 4 = u := hu.symm
        obtain ⟨Bw, hBw⟩ : ∃ Bw : Bool, Bw = decide (u = key1) := ⟨_, rfl⟩
        have hbe : (u.toList == (⟨#[75, 69, 89, 49]⟩ : ByteArray).toList) = Bw := by rw [hBw]; exact beq_strm u key1
        have hbe2 : (u.toList == [75, 69, 89, 49]) = Bw := by
          rw [← hbe, Lib.toList_data (⟨#[75, 69, 89, 49]⟩ : ByteArray)]
        by_cases hv1 : v ≤ 1
        · have e1 : decide ((v : Int) ≤ 1) = true := by simp; omega
          have e2 : decide ((1 : Int) < (v : Int)) = false := by simp; omega
          have hv1i : (v : Int) ≤ 1 := by omega
          cases Bw with
          | false =>
            have HNO : Hid (¬ LoadOk s) := Lib.hid (fun h => by
              have := h.2.1
              rw [← hu] at this
              rw [this] at hBw
              simp at hBw)
            clear hz hv hu hBw
            have HLX : Hid (∀ W : World, Holds W 0 kWords → Calls Tryd.prog 20 #[.string s] W fun e w' => e = .returned (.tuple #[.pointer none, .int .i64 7]) ∧ Below W.heap.size W w') := Lib.hid fun W hk => HHS.out.loadx s W HNO.out hk
            clear HNO
            go_wp2_with (go_at_call 20; (with_reducible refine (HLX.out _ (HK.out.old (HB6.out.next HBR.out))).mono ?_); rintro e w7 ⟨rfl, hb7⟩; have HB7 := Lib.hid (HBR.out.next hb7); clear hb7)
            go_roundw
            case rel => exact ⟨j + 1, HLJ.out, by go_num, HB7.out⟩
            case measure => have := HLJ.out; simp [intOf]; omega
          | true =>
            obtain ⟨x1, hx1⟩ : ∃ x, x = u8at s 37 := ⟨_, rfl⟩
            obtain ⟨x2, hx2⟩ : ∃ x, x = u8at s 38 := ⟨_, rfl⟩
            obtain ⟨x3, hx3⟩ : ∃ x, x = u8at s 39 := ⟨_, rfl⟩
            obtain ⟨x4, hx4⟩ : ∃ x, x = u8at s 40 := ⟨_, rfl⟩
            have l1 : x1 < 256 := by rw [hx1]; exact u8at_lt s 37
            have l2 : x2 < 256 := by rw [hx2]; exact u8at_lt s 38
            have l3 : x3 < 256 := by rw [hx3]; exact u8at_lt s 39
            have l4 : x4 < 256 := by rw [hx4]; exact u8at_lt s 40
            have hi37 : ∀ w, (Instr.index 9 (.string s) (.int .i64 37)).run Tryd.prog w = .ok (.int .u8 ((x1 : Nat) : Int)) w := fun w => by rw [hx1]; exact run_index_u8 Tryd.underlying9 s 37 (by omega) 37 rfl w
            have hi38 : ∀ w, (Instr.index 9 (.string s) (.int .i64 38)).run Tryd.prog w = .ok (.int .u8 ((x2 : Nat) : Int)) w := fun w => by rw [hx2]; exact run_index_u8 Tryd.underlying9 s 38 (by omega) 38 rfl w
            have hi39 : ∀ w, (Instr.index 9 (.string s) (.int .i64 39)).run Tryd.prog w = .ok (.int .u8 ((x3 : Nat) : Int)) w := fun w => by rw [hx3]; exact run_index_u8 Tryd.underlying9 s 39 (by omega) 39 rfl w
            have hi40 : ∀ w, (Instr.index 9 (.string s) (.int .i64 40)).run Tryd.prog w = .ok (.int .u8 ((x4 : Nat) : Int)) w := fun w => by rw [hx4]; exact run_index_u8 Tryd.underlying9 s 40 (by omega) 40 rfl w
            obtain ⟨nb, hnb⟩ : ∃ nb, nb = nextB s := ⟨_, rfl⟩
            have HNB : Hid (x1 * 16777216 + x2 * 65536 + x3 * 256 + x4 = nb) := Lib.hid (by rw [hnb, hx1, hx2, hx3, hx4]; rfl)
            obtain ⟨P, hP⟩ : ∃ P, P = 2 ^ v := ⟨_, rfl⟩
            have HW1 := Lib.hid (wrap_pow (show v ≤ 8 by omega) hP)
            have HW2 := Lib.hid (wrap_pow2v (show v ≤ 8 by omega) hP)
            have hkey : u = key1 := by simpa using hBw.symm
            by_cases hnp : nb ≤ P
            · have e3 : decide ((nb : Int) ≤ (P : Int)) = true := by simp; omega
              have hok : LoadOk s := ⟨hz.symm, by rw [← hu]; exact hkey, by rw [← hv]; omega, by rw [← hnb, ← hv, ← hP]; exact hnp⟩
              have HLD : Hid (∀ W : World, Holds W 0 kWords → Calls Tryd.prog 20 #[.string s] W fun e w' => (∃ p, W.heap.size ≤ p ∧ e = .returned (.tuple #[.pointer (some ⟨p, 0, none⟩), .int .i64 0]) ∧ SA w' p (s.extract 4 36) v nb) ∧ Below W.heap.size W w') := Lib.hid fun W hk => by
                have h1 := HHS.out.load s W hok hk
                rw [← hv, ← hnb] at h1
                exact h1
              have HSY : Hid (∀ (p : Nat) (W : World), SA W p (s.extract 4 36) v nb → Calls Tryd.prog 18 #[.pointer (some ⟨p, 0, none⟩)] W fun e w' => e = .returned (.string s) ∧ Below W.heap.size W w') := Lib.hid fun p W ht => by
                have h1 := HHS.out.save p (s.extract 4 36) v nb W ht
                rw [hv, hnb, ← save_load hok] at h1
                exact h1
              clear hz hv hu hBw hx1 hx2 hx3 hx4 hnb hP hkey hok
              have hw1 := HW1.out
              have hw2 := HW2.out
              go_wp2_with fail
              go_region
              clear hw1 hw2
              have y1 := or_add (x1 * 16777216) (x2 * 65536) 24 (by omega) (by omega) ⟨x1, by omega⟩ (by omega)
              have y2 := or_add (x1 * 16777216 + x2 * 65536) (x3 * 256) 16 (by omega) (by omega) ⟨x1 * 256 + x2, by omega⟩ (by omega)
              have y3 := or_add (x1 * 16777216 + x2 * 65536 + x3 * 256) x4 8 (by omega) (by omega) ⟨x1 * 65536 + x2 * 256 + x3, by omega⟩ (by omega)
              have eor : bits BinOp.or .i64 (bits BinOp.or .i64 (bits BinOp.or .i64 ((x1 : Int) * 16777216) ((x2 : Int) * 65536)) ((x3 : Int) * 256)) (x4 : Int) = (nb : Int) := by
                rw [show ((x1 : Int) * 16777216) = ((x1 * 16777216 : Nat) : Int) by omega, show ((x2 : Int) * 65536) = ((x2 * 65536 : Nat) : Int) by omega, y1, show ((x3 : Int) * 256) = ((x3 * 256 : Nat) : Int) by omega, y2, y3, HNB.out]
              rw [eor]
              clear y1 y2 y3 eor
              obtain ⟨W9, hW9⟩ : ∃ W9, W9 = wr.drew := ⟨_, rfl⟩
              have HBR : Hid (Below W6.heap.size W6 W9) := Lib.hid (by rw [hW9]; exact HBR.out.drew)
              rw [← hW9]
              clear hW9
              have hw1 := HW1.out
              have hw2 := HW2.out
              go_wp2_with (first
                | (go_at_call 20; (with_reducible refine (HLD.out _ (HK.out.old (HB6.out.next HBR.out))).mono ?_); rintro e w7 ⟨⟨p, hp, rfl, ht⟩, hb7⟩; have HT7 := Lib.hid ht; have HB7 := Lib.hid (HBR.out.next hb7); clear hb7 ht hp)
                | (go_at_call 18; (with_reducible refine (HSY.out _ _ HT7.out).mono ?_); rintro e w8 ⟨rfl, hb8⟩; have HB8 := Lib.hid (HB7.out.next hb8); clear hb8))
              go_roundw
              case rel => exact ⟨j + 1, HLJ.out, by go_num, HB8.out⟩
              case measure => have := HLJ.out; simp [intOf]; omega
            · have e3 : decide ((nb : Int) ≤ (P : Int)) = false := by simp; omega
              have HNO : Hid (¬ LoadOk s) := Lib.hid (fun h => hnp (by have := h.2.2.2; rw [← hnb, ← hv, ← hP] at this; exact this))
              clear hz hv hu hBw hx1 hx2 hx3 hx4 hnb hP hkey
              have HLX : Hid (∀ W : World, Holds W 0 kWords → Calls Tryd.prog 20 #[.string s] W fun e w' => e = .returned (.tuple #[.pointer none, .int .i64 7]) ∧ Below W.heap.size W w') := Lib.hid fun W hk => HHS.out.loadx s W HNO.out hk
              clear HNO
              have hw1 := HW1.out
              have hw2 := HW2.out
              go_wp2_with fail
              go_region
              clear hw1 hw2
              have y1 := or_add (x1 * 16777216) (x2 * 65536) 24 (by omega) (by omega) ⟨x1, by omega⟩ (by omega)
              have y2 := or_add (x1 * 16777216 + x2 * 65536) (x3 * 256) 16 (by omega) (by omega) ⟨x1 * 256 + x2, by omega⟩ (by omega)
              have y3 := or_add (x1 * 16777216 + x2 * 65536 + x3 * 256) x4 8 (by omega) (by omega) ⟨x1 * 65536 + x2 * 256 + x3, by omega⟩ (by omega)
              have eor : bits BinOp.or .i64 (bits BinOp.or .i64 (bits BinOp.or .i64 ((x1 : Int) * 16777216) ((x2 : Int) * 65536)) ((x3 : Int) * 256)) (x4 : Int) = (nb : Int) := by
                rw [show ((x1 : Int) * 16777216) = ((x1 * 16777216 : Nat) : Int) by omega, show ((x2 : Int) * 65536) = ((x2 * 65536 : Nat) : Int) by omega, y1, show ((x3 : Int) * 256) = ((x3 * 256 : Nat) : Int) by omega, y2, y3, HNB.out]
              rw [eor]
              clear y1 y2 y3 eor
              obtain ⟨W9, hW9⟩ : ∃ W9, W9 = wr.drew := ⟨_, rfl⟩
              have HBR : Hid (Below W6.heap.size W6 W9) := Lib.hid (by rw [hW9]; exact HBR.out.drew)
              rw [← hW9]
              clear hW9
              have hw1 := HW1.out
              have hw2 := HW2.out
              go_wp2_with (go_at_call 20; (with_reducible refine (HLX.out _ (HK.out.old (HB6.out.next HBR.out))).mono ?_); rintro e w7 ⟨rfl, hb7⟩; have HB7 := Lib.hid (HBR.out.next hb7); clear hb7)
              go_roundw
              case rel => exact ⟨j + 1, HLJ.out, by go_num, HB7.out⟩
              case measure => have := HLJ.out; simp [intOf]; omega
        · have e1 : decide ((v : Int) ≤ 1) = false := by simp; omega
          have e2 : decide ((1 : Int) < (v : Int)) = true := by simp; omega
          have hv1i : ¬ (v : Int) ≤ 1 := by omega
          by_cases hv9 : v ≤ 8
          · have e3 : decide ((v : Int) ≤ 8) = true := by simp; omega
            clear hz hv hu hBw
            cases Bw
            all_goals
              go_wp2_with fail
              go_roundw
              case rel => exact ⟨j + 1, HLJ.out, by go_num, HBR.out⟩
              case measure => have := HLJ.out; simp [intOf]; omega
          · have e3 : decide ((v : Int) ≤ 8) = false := by simp; omega
            have HNO : Hid (¬ LoadOk s) := Lib.hid (fun h => hv9 (by rw [hv]; exact h.2.2.1))
            clear hz hv hu hBw
            cases Bw
            all_goals
              have HLX : Hid (∀ W : World, Holds W 0 kWords → Calls Tryd.prog 20 #[.string s] W fun e w' => e = .returned (.tuple #[.pointer none, .int .i64 7]) ∧ Below W.heap.size W w') := Lib.hid fun W hk => HHS.out.loadx s W HNO.out hk
              clear HNO
              go_wp2_with (go_at_call 20; (with_reducible refine (HLX.out _ (HK.out.old (HB6.out.next HBR.out))).mono ?_); rintro e w7 ⟨rfl, hb7⟩; have HB7 := Lib.hid (HBR.out.next hb7); clear hb7)
              go_roundw
              case rel => exact ⟨j + 1, HLJ.out, by go_num, HB7.out⟩
              case measure => have := HLJ.out; simp [intOf]; omega
    · have hj3 : j = 3 := by omega
      subst hj3
      have hd : decide (((3 : Nat) : Int) < 3) = false := by simp
      go_wp2_with (go_at_call 25; (with_reducible refine (HAW.out _ (HK.out.old (HB6.out.next HBR.out))).mono ?_); rintro e w7 ⟨rfl, hb7⟩; have HB7 := Lib.hid ((HB6.out.next HBR.out).next hb7); clear hb7)
      go_ret
      exact ⟨rfl, HB7.out⟩
theorem lodlaw {SA : SignP} (hS : Signers SA) (b : ByteArray) (k x : Nat) (a : Option Addr) (cap : Nat) (zs : List Int) (hk : k < 256) (w : World) (hK : Holds w 0 kWords) (hli : ILies w a zs) (hz : zs.length ≤ 9223372036854775807) :
    Calls Tryd.prog 5 #[.string b, .int .u8 (k : Int), .int .u8 (x : Int), .slice a zs.length cap] w fun e w' => e = .returned (.bool true) ∧ Below w.heap.size w w' := by
  by_cases hb : 100 < b.size
  · exact lod_out hS b k x a cap zs.length hb w hK
  · exact lod_in hS b k x a cap zs hk (by omega) w hK hli hz
end Go.Proofs.YtphgpakfdhdklaaDoor
namespace Go.Proofs.YtphgpakfdhdklaaDoor
open Go.RowKit

theorem u8at_ext (b : ByteArray) (i j k : Nat) (h : i + k < j) : u8at (b.extract i j) k = u8at b (i + k) := by
  unfold u8at
  rw [extract_listq, List.getD_eq_getElem?_getD, List.getD_eq_getElem?_getD, List.getElem?_drop, List.getElem?_take, if_pos h]
theorem leaf_next (b : ByteArray) (hb : b.size = 41) : leafV (b.extract 37 41) = .tuple #[.int .i64 ((nextB b : Nat) : Int), .bool true] := by
  unfold leafV
  rw [if_neg (by rw [ByteArray.size_extract]; omega)]
  unfold leafS nextB
  rw [u8at_ext b 37 41 0 (by omega), u8at_ext b 37 41 1 (by omega), u8at_ext b 37 41 2 (by omega), u8at_ext b 37 41 3 (by omega)]
set_option maxRecDepth 100000 in
set_option maxHeartbeats 1000000 in
theorem load_size (b : ByteArray) (w : World) (hz : ¬ b.size = 41) :
    Calls Tryd.prog 20 #[.string b] w fun e w' => e = .returned (.tuple #[.pointer none, .int .i64 7]) ∧ Below w.heap.size w w' := by
  obtain ⟨z, hzz⟩ : ∃ z, z = b.size := ⟨_, rfl⟩
  have hzi : (b.size : Int) = (z : Int) := by rw [hzz]
  have d1 : ((z : Int) == 41) = false := by simp; omega
  have d2 : ¬ (z : Int) = 41 := by omega
  clear hzz hz
  go_enter Tryd.func20, Tryd.ntmps20
  go_wp2_with fail
  go_ret2
  exact ⟨rfl, Below.refl _ _⟩
set_option maxRecDepth 100000 in
set_option maxHeartbeats 1000000 in
theorem load_word (b : ByteArray) (w : World) (hz : b.size = 41) (hw : ¬ b.extract 0 4 = key1) :
    Calls Tryd.prog 20 #[.string b] w fun e w' => e = .returned (.tuple #[.pointer none, .int .i64 7]) ∧ Below w.heap.size w w' := by
  have hzi : (b.size : Int) = 41 := by omega
  have hz41 : b.size = 41 := hz
  obtain ⟨u, hu⟩ : ∃ u, u = b.extract 0 4 := ⟨_, rfl⟩
  have hex : b.extract 0 4 = u := hu.symm
  have hbe : (u.toList == (⟨#[75, 69, 89, 49]⟩ : ByteArray).toList) = false := (beq_strm u key1).trans (by rw [hu]; simp [hw])
  have hbe2 : (u.toList == [75, 69, 89, 49]) = false := by
    have h := hbe
    rw [Lib.toList_data ⟨#[75, 69, 89, 49]⟩] at h
    exact h
  clear hu hw hz
  go_enter Tryd.func20, Tryd.ntmps20
  go_wp2_with fail
  go_ret2
  exact ⟨rfl, Below.refl _ _⟩
set_option maxRecDepth 100000 in
set_option maxHeartbeats 1000000 in
theorem load_at (b : ByteArray) (w : World) (hz : b.size = 41) (hw : b.extract 0 4 = key1) (hK : Holds w 0 kWords)
    (hA : ∀ W : World, Holds W 0 kWords → Calls Tryd.prog 26 #[.string (b.extract 4 36), .int .i64 ((u8at b 36 : Nat) : Int), .int .i64 ((nextB b : Nat) : Int)] W fun e w' => e = .returned (.tuple #[.pointer none, .int .i64 1]) ∧ Below W.heap.size W w') :
    Calls Tryd.prog 20 #[.string b] w fun e w' => e = .returned (.tuple #[.pointer none, .int .i64 7]) ∧ Below w.heap.size w w' := by
  have hzi : (b.size : Int) = 41 := by omega
  have hz41 : b.size = 41 := hz
  obtain ⟨u, hu⟩ : ∃ u, u = b.extract 0 4 := ⟨_, rfl⟩
  have hex : b.extract 0 4 = u := hu.symm
  have hbe : (u.toList == (⟨#[75, 69, 89, 49]⟩ : ByteArray).toList) = true := (beq_strm u key1).trans (by rw [hu]; simp [hw])
  have hbe2 : (u.toList == [75, 69, 89, 49]) = true := by
    have h := hbe
    rw [Lib.toList_data ⟨#[75, 69, 89, 49]⟩] at h
    exact h
  obtain ⟨v, hv⟩ : ∃ v, v = u8at b 36 := ⟨_, rfl⟩
  have hi36 : ∀ w, (Instr.index 9 (.string b) (.int .i64 36)).run Tryd.prog w = .ok (.int .u8 ((v : Nat) : Int)) w := fun w => by rw [hv]; exact run_index_u8 Tryd.underlying9 b 36 (by omega) 36 rfl w
  have hv8 : v < 256 := by rw [hv]; exact u8at_lt b 36
  have hvw : IntKind.i64.wrap (v : Int) = (v : Int) := by rw [wrap_i64]; omega
  obtain ⟨X, hX⟩ : ∃ X, X = b.extract 37 41 := ⟨_, rfl⟩
  have hx37 : b.extract 37 41 = X := hX.symm
  obtain ⟨sd, hsd⟩ : ∃ sd, sd = b.extract 4 36 := ⟨_, rfl⟩
  have hx4 : b.extract 4 36 = sd := hsd.symm
  obtain ⟨n, hn⟩ : ∃ n, n = nextB b := ⟨_, rfl⟩
  have HLF : Hid (∀ W : World, Calls Tryd.prog 29 #[.string X] W fun e w' => e = .returned (.tuple #[.int .i64 (n : Int), .bool true]) ∧ Below W.heap.size W w') := Lib.hid fun W => by
    have := mleaf_any X W
    rw [hX, leaf_next b hz41, ← hX, ← hn] at this
    exact this
  rw [← hv, ← hsd, ← hn] at hA
  have HA := Lib.hid hA
  have HK := Lib.hid hK
  clear hu hw hz hv hX hsd hn hA hK
  go_enter Tryd.func20, Tryd.ntmps20
  go_wp2_with (go_at_call 29; (with_reducible refine (HLF.out _).mono ?_); rintro e w1 ⟨rfl, hb1⟩; have HB1 := Lib.hid hb1; clear hb1)
  go_region_law (go_simp; go_at_call 26; (with_reducible refine (HA.out _ (HK.out.old (by first | exact HB1.out | exact HB1.out.drew))).mono ?_); rintro e w2 ⟨rfl, hb2⟩; have HB2 := Lib.hid (show Below w.heap.size w w2 by first | exact HB1.out.next hb2 | exact HB1.out.drew.next hb2); clear hb2)
  all_goals
    go_wp2_with fail
    go_ret2
    exact ⟨rfl, HB2.out⟩
set_option maxRecDepth 100000 in
set_option maxHeartbeats 1000000 in
theorem load_ok (b : ByteArray) (w : World) (hl : LoadOk b) (hK : Holds w 0 kWords) :
    Calls Tryd.prog 20 #[.string b] w fun e w' => (∃ p, w.heap.size ≤ p ∧ e = .returned (.tuple #[.pointer (some ⟨p, 0, none⟩), .int .i64 0]) ∧ SignAt w' p (b.extract 4 36) (u8at b 36) (nextB b)) ∧ Below w.heap.size w w' := by
  obtain ⟨hz, hw, h8, hnx⟩ := hl
  have hA := fun (W : World) hk => sat_any (b.extract 4 36) (u8at b 36) (nextB b) W (by rw [ByteArray.size_extract]; omega) h8 hnx hk
  have hzi : (b.size : Int) = 41 := by omega
  have hz41 : b.size = 41 := hz
  obtain ⟨u, hu⟩ : ∃ u, u = b.extract 0 4 := ⟨_, rfl⟩
  have hex : b.extract 0 4 = u := hu.symm
  have hbe : (u.toList == (⟨#[75, 69, 89, 49]⟩ : ByteArray).toList) = true := (beq_strm u key1).trans (by rw [hu]; simp [hw])
  have hbe2 : (u.toList == [75, 69, 89, 49]) = true := by
    have h := hbe
    rw [Lib.toList_data ⟨#[75, 69, 89, 49]⟩] at h
    exact h
  obtain ⟨v, hv⟩ : ∃ v, v = u8at b 36 := ⟨_, rfl⟩
  have hi36 : ∀ w, (Instr.index 9 (.string b) (.int .i64 36)).run Tryd.prog w = .ok (.int .u8 ((v : Nat) : Int)) w := fun w => by rw [hv]; exact run_index_u8 Tryd.underlying9 b 36 (by omega) 36 rfl w
  have hv8 : v < 256 := by rw [hv]; exact u8at_lt b 36
  have hvw : IntKind.i64.wrap (v : Int) = (v : Int) := by rw [wrap_i64]; omega
  obtain ⟨X, hX⟩ : ∃ X, X = b.extract 37 41 := ⟨_, rfl⟩
  have hx37 : b.extract 37 41 = X := hX.symm
  obtain ⟨sd, hsd⟩ : ∃ sd, sd = b.extract 4 36 := ⟨_, rfl⟩
  have hx4 : b.extract 4 36 = sd := hsd.symm
  obtain ⟨n, hn⟩ : ∃ n, n = nextB b := ⟨_, rfl⟩
  have HLF : Hid (∀ W : World, Calls Tryd.prog 29 #[.string X] W fun e w' => e = .returned (.tuple #[.int .i64 (n : Int), .bool true]) ∧ Below W.heap.size W w') := Lib.hid fun W => by
    have := mleaf_any X W
    rw [hX, leaf_next b hz41, ← hX, ← hn] at this
    exact this
  rw [← hv, ← hsd, ← hn] at hA ⊢
  have HA := Lib.hid hA
  have HK := Lib.hid hK
  clear hu hw hz hv hX hsd hn hA hK h8 hnx
  go_enter Tryd.func20, Tryd.ntmps20
  go_wp2_with (go_at_call 29; (with_reducible refine (HLF.out _).mono ?_); rintro e w1 ⟨rfl, hb1⟩; have HB1 := Lib.hid hb1; clear hb1)
  go_region_law (go_simp; go_at_call 26; (with_reducible refine (HA.out _ (HK.out.old (by first | exact HB1.out | exact HB1.out.drew))).mono ?_); rintro e w2 ⟨⟨p, hp, rfl, ht⟩, hb2⟩; have HP := Lib.hid (Nat.le_trans HB1.out.size hp); have HT := Lib.hid ht; have HB2 := Lib.hid (show Below w.heap.size w w2 by first | exact HB1.out.next hb2 | exact HB1.out.drew.next hb2); clear hb2 hp ht)
  all_goals
    go_wp2_with fail
    go_ret2
    exact ⟨⟨_, HP.out, rfl, HT.out⟩, HB2.out⟩
theorem load_no (b : ByteArray) (w : World) (hl : ¬ LoadOk b) (hK : Holds w 0 kWords) :
    Calls Tryd.prog 20 #[.string b] w fun e w' => e = .returned (.tuple #[.pointer none, .int .i64 7]) ∧ Below w.heap.size w w' := by
  by_cases hz : b.size = 41
  · by_cases hw : b.extract 0 4 = key1
    · refine load_at b w hz hw hK fun W hk => ?_
      have hs : (b.extract 4 36).size = 32 := by rw [ByteArray.size_extract]; omega
      by_cases h8 : u8at b 36 ≤ 8
      · have hn : ¬ nextB b ≤ 2 ^ u8at b 36 := fun h => hl ⟨hz, hw, h8, h⟩
        exact sat_rng (b.extract 4 36) (u8at b 36) (nextB b : Int) W hs h8 (by omega) hk
      · have hg : genE (b.extract 4 36) ((u8at b 36 : Nat) : Int) = 1 := by
          unfold genE
          rw [if_pos hs, if_neg (by omega)]
        have := sat_bad (b.extract 4 36) ((u8at b 36 : Nat) : Int) ((nextB b : Nat) : Int) W (by rw [hg]; omega)
        rw [hg] at this
        exact this
    · exact load_word b w hz hw
  · exact load_size b w hz
end Go.Proofs.YtphgpakfdhdklaaDoor
namespace Go.Proofs.YtphgpakfdhdklaaDoor
open Go.RowKit

theorem text_five (a b c d e : UInt8) (w : World) : (convert 36 9 (.slice (some ⟨w.heap.size, 0, none⟩) 5 5)).run Tryd.prog (w.alloc (.cells #[bcell a, bcell b, bcell c, bcell d, bcell e] 5)) = .ok (.string (strOf [a, b, c, d, e])) (w.alloc (.cells #[bcell a, bcell b, bcell c, bcell d, bcell e] 5)) :=
  own_str (l := [a, b, c, d, e]) ⟨rfl, .inr ⟨w.heap.size, 5, _, rfl, Nat.le_refl _, heap_alloc_new w _, Nat.le_refl _, by decide, rfl, rfl⟩⟩
set_option maxRecDepth 100000 in
theorem kfield0 (q : Int) (a b : ByteArray) (w : World) : (Instr.field 46 (.agg #[.int .i64 q, .string a, .string b]) 0).run Tryd.prog w = .ok (.int .i64 q) w := by
  show (Instr.field 46 (.agg #[.int .i64 q, .string a, .string b]) 0).run Tryd.prog w = .ok (.int .i64 q) w
  kernel_rfl
theorem saveS_five (s : ByteArray) (h n : Nat) : saveS s h n = ((⟨#[75, 69, 89, 49]⟩ : ByteArray) ++ s) ++ strOf [UInt8.ofNat (h % 256), UInt8.ofNat (n / 16777216 % 256), UInt8.ofNat (n / 65536 % 256), UInt8.ofNat (n / 256 % 256), UInt8.ofNat (n % 256)] := by
  apply list_inj
  rw [saveS_list, str_add, str_add, strOf_list, List.append_assoc]
  rfl
set_option maxRecDepth 100000 in
set_option maxHeartbeats 1000000 in
theorem ssave_any (p : Nat) (s : ByteArray) (h n : Nat) (w : World) (t : SignAt w p s h n) :
    Calls Tryd.prog 18 #[.pointer (some ⟨p, 0, none⟩)] w fun e w' => e = .returned (.string (saveS s h n)) ∧ Below w.heap.size w w' := by
  have HE := Lib.hid (sempty_no t)
  obtain ⟨hs, h8, hle⟩ := t.fit
  have hp := (pow_small h8).1
  have HKY : Hid (∀ W : World, SignAt W p s h n → Calls Tryd.prog 23 #[.pointer (some ⟨p, 0, none⟩)] W fun e w' => e = .returned (.agg #[.int .i64 (h : Int), .string (idT s), .string (rootS s h)]) ∧ Below W.heap.size W w') := Lib.hid fun W hW => skey_any p s h n W hW
  obtain ⟨ID, hID⟩ : ∃ ID, ID = idT s := ⟨_, rfl⟩
  obtain ⟨R, hR⟩ : ∃ R, R = rootS s h := ⟨_, rfl⟩
  rw [← hID, ← hR] at HKY
  obtain ⟨S1, hS1⟩ : ∃ S, S = (⟨#[75, 69, 89, 49]⟩ : ByteArray) ++ s := ⟨_, rfl⟩
  have hS1s : S1.size = 36 := by rw [hS1, ByteArray.size_append, hs]; rfl
  have h1 := text_five (UInt8.ofNat (h % 256)) (UInt8.ofNat (n / 16777216 % 256)) (UInt8.ofNat (n / 65536 % 256)) (UInt8.ofNat (n / 256 % 256)) (UInt8.ofNat (n % 256))
  obtain ⟨X5, hX5⟩ : ∃ X, X = strOf [UInt8.ofNat (h % 256), UInt8.ofNat (n / 16777216 % 256), UInt8.ofNat (n / 65536 % 256), UInt8.ofNat (n / 256 % 256), UInt8.ofNat (n % 256)] := ⟨_, rfl⟩
  have hX5s : X5.size = 5 := by rw [hX5]; rfl
  rw [← hX5, bcell_of (h % 256) ((h : Int) % 256) (by omega), bcell_of (n / 16777216 % 256) ((n : Int) / 16777216) (by omega), bcell_of (n / 65536 % 256) ((n : Int) / 65536) (by omega), bcell_of (n / 256 % 256) ((n : Int) / 256) (by omega), bcell_of (n % 256) ((n : Int) % 256) (by omega)] at h1
  obtain ⟨S2, hS2⟩ : ∃ S, S = S1 ++ X5 := ⟨_, rfl⟩
  have HR : Hid (saveS s h n = S2) := Lib.hid (by rw [hS2, hS1, hX5]; exact saveS_five s h n)
  have a1 : (⟨#[75, 69, 89, 49]⟩ : ByteArray) ++ s = S1 := hS1.symm
  have a2 : S1 ++ X5 = S2 := hS2.symm
  have z1 : (4 : Int) + ((s.size : Nat) : Int) ≤ 9223372036854775807 := by omega
  have z1' : (((⟨#[75, 69, 89, 49]⟩ : ByteArray).size : Nat) : Int) + ((s.size : Nat) : Int) ≤ 9223372036854775807 := z1
  have z2 : ((S1.size : Nat) : Int) + ((X5.size : Nat) : Int) ≤ 9223372036854775807 := by omega
  have hn256 : n ≤ 256 := by omega
  have HT := Lib.hid t
  have hkf := kfield0 (h : Int) ID R
  rw [HR.out]
  clear hID hR hS1 hS1s hX5 hX5s hS2 hs h8 hle hp t
  go_enter Tryd.func18, Tryd.ntmps18
  go_wp2_with (go_at_call 33; (with_reducible refine HE.out.mono ?_); rintro e w1 ⟨rfl, hb1⟩; have HB1 := Lib.hid hb1; have HT1 := Lib.hid (HT.out.keep hb1); obtain ⟨tp, hq1, _⟩ := HT1.out.cells; obtain ⟨c0, c1, c2, hp⟩ := tcell hq1; have HP := Lib.hid hp; clear hb1 hq1)
  clear c0
  go_region_held3 (fun w' => w'.cell? ⟨p, 1, none⟩ = some (.string s) ∧ w'.cell? ⟨p, 2, none⟩ = some (.int .i64 (n : Int))) (first | with_reducible exact ⟨by assumption, by assumption⟩ | go_keep)
    (first | (go_at_call 23; (with_reducible refine (HKY.out _ (by first | exact HT1.out | exact HT1.out.keep (Below.refl _ _).drew)).mono ?_); rintro e w2 ⟨rfl, hb2⟩; have hx : Below w1.heap.size w1 w2 := (by first | exact hb2 | exact (Below.refl _ _).drew.trans hb2); have s1 := (hx.cell (p := ⟨p, 1, none⟩) HP.out).trans c1; have s2 := (hx.cell (p := ⟨p, 2, none⟩) HP.out).trans c2; have HB2 := Lib.hid (HB1.out.next hx); have HP2 := Lib.hid (Nat.lt_of_lt_of_le HP.out hx.size); clear hb2 hx))
  go_wp2_with fail
  have h3 : (convert 36 9 (.slice (some ⟨w2.heap.size, 0, none⟩) 5 5)).run Tryd.prog (w2.alloc (.cells #[.int .u8 ((h : Int) % 256), .int .u8 ((n : Int) / 16777216), .int .u8 ((n : Int) / 65536), .int .u8 ((n : Int) / 256), .int .u8 ((n : Int) % 256)] 5)).drew = .ok (.string X5) (w2.alloc (.cells #[.int .u8 ((h : Int) % 256), .int .u8 ((n : Int) / 16777216), .int .u8 ((n : Int) / 65536), .int .u8 ((n : Int) / 256), .int .u8 ((n : Int) % 256)] 5)).drew := h1 w2.drew
  have s3 : (w2.alloc (.cells #[.int .u8 ((h : Int) % 256), .int .u8 ((n : Int) / 16777216), .int .u8 ((n : Int) / 65536), .int .u8 ((n : Int) / 256), .int .u8 ((n : Int) % 256)] 5)).drew.cell? ⟨p, 1, none⟩ = some (.string s) := ((belowNew w2 _).cell (p := ⟨p, 1, none⟩) HP2.out).trans s1
  have z1n : ¬ 9223372036854775807 < 4 + s.size := by omega
  clear h1
  go_region
  all_goals go_wp2_with fail
  all_goals go_ret
  exact ⟨rfl, (HB2.out.next (belowNew w2 _)).drew⟩
end Go.Proofs.YtphgpakfdhdklaaDoor
namespace Go.Proofs.YtphgpakfdhdklaaDoor
open Go.RowKit

theorem signersP : Signers SignAt where
  keep := fun W W' p s h n t hb => t.keep hb
  typ := fun W p s h n t => by
    obtain ⟨tp, e, _⟩ := t.cells
    exact ⟨_, _, e⟩
  fit := fun W p s h n t => t.fit
  other := fun W W' p q s h n cs t fr hs hb hne hq ho => hs.other hb hne hq ho
  new := fun seed h w hs h8 hK => snew_any seed h w hs h8 hK
  at' := fun seed h n w hs h8 hn hK => sat_any seed h n w hs h8 hn hK
  key := fun p s h n w t => skey_any p s h n w t
  next := fun p s h n w t => snext_any p s h n w t
  left := fun p s h n w t => sleft_any p s h n w t
  save := fun p s h n w t => ssave_any p s h n w t
  sign := fun p s h n m w t hn hm hK => ssign_any p s h n m w t hn hm hK
  signx := fun p s h n m w t hn => ssignx_any p s h n m w t hn
  skip := fun p s h n m w t => sskip_any p s h n m w t
  fork := fun p s h n w t => sfork_any p s h n w t
  load := fun b w hl hK => load_ok b w hl hK
  loadx := fun b w hl hK => load_no b w hl hK
end Go.Proofs.YtphgpakfdhdklaaDoor

namespace Go.Proofs.YtphgpakfdhdklaaDoor
open Go.ChangeShapes Go.WideShapes Go.ChangeAt Go.RowKit Go.ChangeMaps

theorem own : ownKnob Tryd.prog.godebug = none := by kernel_rfl

/-- What was handed in reads as it read, for a call that leaves old memory alone. -/
theorem below_trodAll {H : Type} {enc : TypeId × Value → H} {W W' : World} (hb : Below W.heap.size W W') :
    ∀ (ts : List TypeId) (vs : List Value) (ds : List (DataW H)) (ps : List MemPlace), (∀ t ∈ ts, Tryd.prog.readableRec t = true ∧ t < Tryd.prog.types.size) → (∀ x ∈ ps, x.block < W.heap.size) →
      DataW.TrodAll enc Tryd.prog W 0 (fun _ => true) true ts vs ds ps → DataW.TrodAll enc Tryd.prog W' 0 (fun b => decide (b < W.heap.size)) true ts vs ds ps := by
  intro ts
  induction ts with
  | nil => intro vs ds ps _ _ h; obtain ⟨rfl, rfl, rfl⟩ := trodAll_nil h; exact trodAll_mk0
  | cons t ts ih =>
    intro vs ds ps ht hp h
    obtain ⟨v, vs', d, ds', p, q, rfl, rfl, rfl, h1, h2⟩ := trodAll_cons h
    exact trodAll_cons_mk (Below.trod laidOut (ht t (by simp)).1 (ht t (by simp)).2 h1 hb (fun x hx => hp x (by simp [hx]))) (ih vs' ds' q (fun u hu => ht u (by simp [hu])) (fun x hx => hp x (by simp [hx])) h2)

theorem trodAll_five {H : Type} {enc : TypeId × Value → H} {P : Program} {w : World} {base : Nat} {spare : Nat → Bool} {held : Bool} {t0 t1 t2 t3 t4 : TypeId} {args : Array Value} {ds : List (DataW H)} {ps : List MemPlace}
    (h : DataW.TrodAll enc P w base spare held [t0, t1, t2, t3, t4] args.toList ds ps) :
    ∃ v0 v1 v2 v3 v4 d0 d1 d2 d3 d4 p0 p1 p2 p3 p4, args = #[v0, v1, v2, v3, v4] ∧ ds = [d0, d1, d2, d3, d4] ∧ ps = p0 ++ (p1 ++ (p2 ++ (p3 ++ (p4)))) ∧ DataW.Trod enc P w base spare held t0 v0 d0 p0 ∧ DataW.Trod enc P w base spare held t1 v1 d1 p1 ∧ DataW.Trod enc P w base spare held t2 v2 d2 p2 ∧ DataW.Trod enc P w base spare held t3 v3 d3 p3 ∧ DataW.Trod enc P w base spare held t4 v4 d4 p4 := by
  obtain ⟨v0, vs1, d0, ds1, p0, ps1, e0, rfl, rfl, h0, k0⟩ := trodAll_cons h
  obtain ⟨v1, vs2, d1, ds2, p1, ps2, e1, rfl, rfl, h1, k1⟩ := trodAll_cons k0
  subst e1
  obtain ⟨v2, vs3, d2, ds3, p2, ps3, e2, rfl, rfl, h2, k2⟩ := trodAll_cons k1
  subst e2
  obtain ⟨v3, vs4, d3, ds4, p3, ps4, e3, rfl, rfl, h3, k3⟩ := trodAll_cons k2
  subst e3
  obtain ⟨v4, vs5, d4, ds5, p4, ps5, e4, rfl, rfl, h4, k4⟩ := trodAll_cons k3
  subst e4
  obtain ⟨rfl, rfl, rfl⟩ := trodAll_nil k4
  exact ⟨v0, v1, v2, v3, v4, d0, d1, d2, d3, d4, p0, p1, p2, p3, p4, Array.toList_inj.1 e0, rfl, by simp, h0, h1, h2, h3, h4⟩
end Go.Proofs.YtphgpakfdhdklaaDoor

namespace Go.Proofs.YtphgpakfdhdklaaDoor
open Go.ChangeShapes Go.WideShapes Go.ChangeAt Go.RowKit

set_option maxRecDepth 10000 in
theorem open_nums {H : Type} {enc : TypeId × Value → H} {W : World} {a0 : Option Addr} {len cap : Nat} {d : DataW H} {p : List MemPlace}
    (h : DataW.Trod enc Tryd.prog W 0 (fun _ => true) true 22 (.slice a0 len cap) d p) : ∃ zs : List Int, len = zs.length ∧ ILies W a0 zs ∧ zs.length ≤ 9223372036854775807 := by
  obtain ⟨fuel, hf⟩ := h
  have cb : Tryd.prog.cellsOf 3 = 1 := by kernel_rfl
  rcases open_ints Tryd.underlying22 Tryd.underlying3 cb hf with ⟨hcs, _⟩ | ⟨a, len', cap', zs, hcs, _, hl, hcm, hz, _, hcell, _⟩
  · simp [Value.cells] at hcs
    obtain ⟨rfl, rfl, rfl⟩ := hcs
    exact ⟨[], rfl, .inl rfl, by simp⟩
  · simp [Value.cells] at hcs
    obtain ⟨rfl, rfl, rfl⟩ := hcs
    by_cases h0 : len = 0
    · subst h0
      exact ⟨[], rfl, .inl rfl, by simp⟩
    · have hzl : len ≤ zs.length := by rw [hz]; simpa using hl
      obtain ⟨b, off, rfl, hc⟩ := ints_at hcell (by omega)
      have e : (zs.take len).length = len := by rw [List.length_take]; omega
      refine ⟨zs.take len, e.symm, .inr ⟨b, off, rfl, fun i hi => ?_⟩, by rw [e]; unfold maxLen at hcm; omega⟩
      rw [e] at hi
      rw [hc i (by omega)]
      congr 2
      rw [List.getD_eq_getElem?_getD, List.getD_eq_getElem?_getD, List.getElem?_take_of_lt hi]

end Go.Proofs.YtphgpakfdhdklaaDoor
namespace Go.Proofs.YtphgpakfdhdklaaDoor
open Go.ChangeShapes Go.WideShapes Go.ChangeAt Go.RowKit Go.ChangeMaps

theorem gTab : Tryd.prog.globalNamed Tryd.prog.globals[0]!.name = some 0 := by kernel_rfl
theorem gTabType : (Tryd.prog.globals[0]?).map (·.type) = some 96 := by kernel_rfl
theorem cellsTab : Tryd.prog.cellsOf 96 = 64 := by kernel_rfl
theorem cellsWord : Tryd.prog.cellsOf 80 = 1 := by kernel_rfl
def tabNums : List Int := [1116352408, 1899447441, 3049323471, 3921009573, 961987163, 1508970993, 2453635748, 2870763221, 3624381080, 310598401, 607225278, 1426881987, 1925078388, 2162078206, 2614888103, 3248222580, 3835390401, 4022224774, 264347078, 604807628, 770255983, 1249150122, 1555081692, 1996064986, 2554220882, 2821834349, 2952996808, 3210313671, 3336571891, 3584528711, 113926993, 338241895, 666307205, 773529912, 1294757372, 1396182291, 1695183700, 1986661051, 2177026350, 2456956037, 2730485921, 2820302411, 3259730800, 3345764771, 3516065817, 3600352804, 4094571909, 275423344, 430227734, 506948616, 659060556, 883997877, 958139571, 1322822218, 1537002063, 1747873779, 1955562222, 2024104815, 2227730452, 2361852424, 2428436474, 2756734187, 3204031479, 3329325298]
theorem tabNums_eq : tabNums = kWords.map u32 := by decide
/-- What the rows' list gives: the table's cells hold the constants. -/
theorem table {W : World} (h : laidMetH Tryd.prog Rows.signerNeverRow.laid W) : Holds W 0 kWords := by
  have t : Lib.TabIs Tryd.prog W _ .u32 tabNums := Lib.tabIs_of_head (rest := []) gTab gTabType Tryd.underlying96 Tryd.underlying80 cellsWord cellsTab h
  intro i hi
  have hl : i < kWords.length := hi
  have hc := t.cell gTab i (by rw [tabNums_eq, List.length_map]; exact hl)
  rw [hc, tabNums_eq]
  simp [at32, hl]
end Go.Proofs.YtphgpakfdhdklaaDoor
