/-
  The walk of the law TextEscape: for every string and every slice of bytes it returns true, and leaves all that was there as it was.
-/
import Derived.Test.YtnagonihkfpefaaDoorXresc
import Derived.Test.YtnagonihkfpefaaDoorXawake
import Derived.Test.YtnagonihkfpefaaDoorXpieces
namespace Go.Proofs.YtnagonihkfpefaaDoor
open Go.RowKit

theorem une_yes {s : ByteArray} {l : List UInt8} (h : escL l = s.data.toList) (w : World) (hn : s.size ≤ 1099511627776) :
    Calls Tryd.prog 18 #[.string s] w fun e w' => e = .returned (.tuple #[.string (strOf l), .bool true]) ∧ Below w.heap.size w w' :=
  (une_any s w hn).mono fun _ _ ⟨u, ok, h1, h2, h3⟩ => by
    obtain ⟨e1, e2⟩ := Une.eq (u := strOf l) (a := true) (.inl ⟨rfl, h⟩) h2
    rw [e1, e2] at h1
    exact ⟨h1, h3⟩
theorem une_none {s : ByteArray} (h : ∀ l, escL l ≠ s.data.toList) (w : World) (hn : s.size ≤ 1099511627776) :
    Calls Tryd.prog 18 #[.string s] w fun e w' => e = .returned (.tuple #[.string ⟨#[]⟩, .bool false]) ∧ Below w.heap.size w w' :=
  (une_any s w hn).mono fun _ _ ⟨u, ok, h1, h2, h3⟩ => by
    obtain ⟨e1, e2⟩ := Une.eq (u := ⟨#[]⟩) (a := false) (.inr ⟨rfl, rfl, h⟩) h2
    rw [e1, e2] at h1
    exact ⟨h1, h3⟩
theorem rune_yes {s : ByteArray} {l : List UInt8} (h : escL l = s.data.toList) (w : World) (hn : s.size ≤ 100000000000) :
    Calls Tryd.prog 19 #[.string s] w fun e w' => e = .returned (.tuple #[.string (strOf l), .bool true]) ∧ Below w.heap.size w w' :=
  (rune_any s w hn).mono fun _ _ ⟨u, ok, h1, h2, h3⟩ => by
    obtain ⟨e1, e2⟩ := Une.eq (u := strOf l) (a := true) (.inl ⟨rfl, h⟩) h2
    rw [e1, e2] at h1
    exact ⟨h1, h3⟩
theorem rune_none {s : ByteArray} (h : ∀ l, escL l ≠ s.data.toList) (w : World) (hn : s.size ≤ 100000000000) :
    Calls Tryd.prog 19 #[.string s] w fun e w' => e = .returned (.tuple #[.string ⟨#[]⟩, .bool false]) ∧ Below w.heap.size w w' :=
  (rune_any s w hn).mono fun _ _ ⟨u, ok, h1, h2, h3⟩ => by
    obtain ⟨e1, e2⟩ := Une.eq (u := ⟨#[]⟩) (a := false) (.inr ⟨rfl, rfl, h⟩) h2
    rw [e1, e2] at h1
    exact ⟨h1, h3⟩
theorem esc_or (H : List UInt8) : (∃ l, escL l = H) ∨ ∀ l, escL l ≠ H := (Classical.em _).imp id fun h a k => h ⟨a, k⟩

set_option maxRecDepth 100000 in
set_option maxHeartbeats 4000000 in
theorem esclaw (s : ByteArray) (a0 : Option Addr) (l : List UInt8) (cap : Nat) (w : World) (hl : BLies w a0 l) (hlen : l.length ≤ 9223372036854775807) (hT : Tab w) :
    Calls Tryd.prog 7 #[.string s, .slice a0 l.length cap] w fun e w' => e = .returned (.bool true) ∧ Below w.heap.size w w' := by
  have HT := Lib.hid hT
  clear hT
  by_cases h : 400 < s.size
  · have d : decide ((400 : Int) < (s.size : Int)) = true := by simp; omega
    clear h
    go_enter Tryd.func7, Tryd.ntmps7
    go_wp2_with (go_at_call 8; (with_reducible refine (awake_any _ HT.out).mono ?_); rintro e w1 ⟨rfl, hb1⟩; have HB1 := Lib.hid hb1; clear hb1)
    go_ret
    exact ⟨rfl, HB1.out⟩
  · have d : decide ((400 : Int) < (s.size : Int)) = false := by simp; omega
    have hs : s.size ≤ 400 := by omega
    have HL := Lib.hid hl
    have HLN := Lib.hid hlen
    clear h hl
    go_enter Tryd.func7, Tryd.ntmps7
    go_wp2_with (go_at_call 9; (with_reducible refine (pieces_any _ l cap _ HL.out HLN.out).mono ?_); rintro e w1 ⟨S1, rfl, hS1, hb1⟩; have HS1 := Lib.hid hS1; have HB1 := Lib.hid hb1; clear hb1)
    have HBA := Lib.hid (show Below w.heap.size w (w1.alloc (.cells #[.string s, .string S1] 9)) from below_next HB1.out (belowNew w1 _))
    obtain ⟨LL, hLL⟩ : ∃ LL : List ByteArray, LL = [s, S1] := ⟨_, rfl⟩
    have HSZ := Lib.hid (show ∀ k, k < 2 → (LL.getD k ⟨#[]⟩).size ≤ 400 from fun k hk => by
      rw [hLL]
      rcases (by omega : k = 0 ∨ k = 1) with rfl | rfl
      · exact hs
      · show S1.size ≤ _; omega)
    have HCL := Lib.hid (show ∀ k, k < 2 → (w1.alloc (.cells #[.string s, .string S1] 9)).cell? ⟨w1.heap.size, k, none⟩ = some (.string (LL.getD k ⟨#[]⟩)) from fun k hk => by
      rw [hLL]; exact row_strs w1 [s, S1] k hk)
    generalize hw3 : w1.alloc (.cells #[.string s, .string S1] 9) = w3 at HBA HCL ⊢
    have HSZ3 := Lib.hid (show w1.heap.size < w3.heap.size by rw [← hw3]; simp)
    clear hw3 hLL hS1
    go_loopw [23] (fun i wr => ∃ k : Nat, k ≤ 2 ∧ i = .int .i64 (k : Int) ∧ Below w3.heap.size w3 wr) (fun i _ => 2 - (intOf i).toNat)
    case atStart => exact ⟨0, by omega, rfl, Below.refl _ _⟩
    case round =>
      obtain ⟨k, hk, rfl, hb⟩ := hrel
      by_cases hlt : k < 2
      · have hd4 : decide ((k : Int) < 2) = true := by simp; omega
        have hcx : wr.cell? ⟨w1.heap.size, k, none⟩ = some (.string (LL.getD k ⟨#[]⟩)) := by
          rw [← HCL.out k hlt]; exact hb.cell HSZ3.out
        have hxz := HSZ.out k hlt
        generalize LL.getD k ⟨#[]⟩ = x at hcx hxz
        have HZ := Lib.hid hb
        have hez := escS_size x
        have HCE := Lib.hid (fun w => esc_any x w (by omega))
        have HCR := Lib.hid (fun w => resc_any x w (by omega))
        have HCU := Lib.hid (show ∀ w, Calls Tryd.prog 18 #[.string (escS x)] w fun e w' => e = .returned (.tuple #[.string x, .bool true]) ∧ Below w.heap.size w w' from fun w => by
          have := une_yes (s := escS x) (l := x.data.toList) rfl w (by omega)
          rwa [← strOf_of (b := x) rfl] at this)
        have HEX := Lib.hid (show ∀ A : ByteArray, escL A.data.toList = x.data.toList → escS A = x from fun A hA => by unfold escS; rw [hA]; exact (strOf_of rfl).symm)
        generalize escS x = E at HCE HCR HCU hez
        have hqE : (E.toList != E.toList) = false := by simp
        have hqx : (x.toList != x.toList) = false := by simp
        clear hb
        rcases esc_or x.data.toList with ⟨a, h⟩ | h
        · have haz := escL_ge a
          rw [h] at haz
          have haz2 : a.length ≤ 400 := Nat.le_trans haz hxz
          obtain ⟨A, hA⟩ : ∃ A, A = strOf a := ⟨_, rfl⟩
          have HU := Lib.hid (fun w => une_yes h w (by omega))
          have HR := Lib.hid (fun w => rune_yes h w (by omega))
          have HCA := Lib.hid (fun w => esc_any A w (by rw [hA, strOf_size]; omega))
          rw [HEX.out A (by rw [hA, strOf_list]; exact h)] at HCA
          rw [← hA] at HU HR
          have hqA : (A.toList != A.toList) = false := by simp
          clear h haz haz2 hA hez hxz
          go_wp2_with (first
            | (go_at_call 17; (with_reducible refine (HCE.out _).mono ?_); rintro e w4 ⟨rfl, hb4⟩; have HZ := Lib.hid (below_next HZ.out hb4); clear hb4)
            | (go_at_call 18; (with_reducible refine (HU.out _).mono ?_); rintro e w4 ⟨rfl, hb4⟩; have HZ := Lib.hid (below_next HZ.out hb4); clear hb4)
            | (go_at_call 19; (with_reducible refine (HR.out _).mono ?_); rintro e w4 ⟨rfl, hb4⟩; have HZ := Lib.hid (below_next HZ.out hb4); clear hb4)
            | (go_at_call 18; (with_reducible refine (HCU.out _).mono ?_); rintro e w4 ⟨rfl, hb4⟩; have HZ := Lib.hid (below_next HZ.out hb4); clear hb4)
            | (go_at_call 20; (with_reducible refine (HCR.out _).mono ?_); rintro e w4 ⟨rfl, hb4⟩; have HZ := Lib.hid (below_next HZ.out hb4); clear hb4)
            | (go_at_call 17; (with_reducible refine (HCA.out _).mono ?_); rintro e w4 ⟨rfl, hb4⟩; have HZ := Lib.hid (below_next HZ.out hb4); clear hb4))
          go_roundw
          case rel => exact ⟨k + 1, by omega, by go_num, HZ.out⟩
          case measure => simp [intOf]; omega
        · have HU := Lib.hid (fun w => une_none h w (by omega))
          have HR := Lib.hid (fun w => rune_none h w (by omega))
          clear h hez hxz
          go_wp2_with (first
            | (go_at_call 17; (with_reducible refine (HCE.out _).mono ?_); rintro e w4 ⟨rfl, hb4⟩; have HZ := Lib.hid (below_next HZ.out hb4); clear hb4)
            | (go_at_call 18; (with_reducible refine (HU.out _).mono ?_); rintro e w4 ⟨rfl, hb4⟩; have HZ := Lib.hid (below_next HZ.out hb4); clear hb4)
            | (go_at_call 19; (with_reducible refine (HR.out _).mono ?_); rintro e w4 ⟨rfl, hb4⟩; have HZ := Lib.hid (below_next HZ.out hb4); clear hb4)
            | (go_at_call 18; (with_reducible refine (HCU.out _).mono ?_); rintro e w4 ⟨rfl, hb4⟩; have HZ := Lib.hid (below_next HZ.out hb4); clear hb4)
            | (go_at_call 20; (with_reducible refine (HCR.out _).mono ?_); rintro e w4 ⟨rfl, hb4⟩; have HZ := Lib.hid (below_next HZ.out hb4); clear hb4))
          go_roundw
          case rel => exact ⟨k + 1, by omega, by go_num, HZ.out⟩
          case measure => simp [intOf]; omega
      · have ek : k = 2 := by omega
        subst ek
        have HBZ := Lib.hid (below_next HBA.out hb)
        go_wp2_with (go_at_call 8; (with_reducible refine (awake_any _ (HT.out.below HBZ.out)).mono ?_); rintro e w8 ⟨rfl, hb8⟩; have HB8 := Lib.hid (below_next HBZ.out hb8); clear hb8)
        go_ret
        exact ⟨rfl, HB8.out⟩
end Go.Proofs.YtnagonihkfpefaaDoor
