/-
  The walk of the law HashHex: for every two strings it returns true, and leaves all that was there as it was.
-/
import Derived.Test.YtoickijglahipaaDoorRefHex
namespace Go.Proofs.YtoickijglahipaaDoor
open Go.RowKit

theorem refhexStr_any (s : ByteArray) (w : World) (hn : s.size ≤ 1099511627776) :
    Calls Tryd.prog 17 #[.string s] w fun e w' => e = .returned (.string (hexStr s)) ∧ Below w.heap.size w w' := refhex_any s w hn
theorem hexStr_size (s : ByteArray) : (hexStr s).size = 2 * s.size := by
  show (hexL s.data.toList).toArray.size = _
  rw [List.size_toArray, hexL_length]; rfl
theorem hexStr_of {u x : ByteArray} (h : hexL u.data.toList = x.data.toList) : hexStr u = x := by
  apply ByteArray.ext
  unfold hexStr
  rw [h]
theorem unh_size {u x : ByteArray} {ok : Bool} (h : Unh x.data.toList u ok) (hx : x.size ≤ 1000) : u.size ≤ 1000 := by
  rcases h with ⟨_, h⟩ | ⟨_, rfl, _⟩
  · have := congrArg List.length h
    rw [hexL_length] at this
    have h1 : x.data.toList.length = x.size := rfl
    have h2 : u.data.toList.length = u.size := rfl
    omega
  · show 0 ≤ 1000; omega
theorem row_of (W : World) (ss : List ByteArray) (k : Nat) (hk : k < ss.length) : (W.alloc (.cells (ss.map Value.string).toArray 9)).cell? ⟨W.heap.size, k, none⟩ = some (.string (ss.getD k ByteArray.empty)) := by
  rw [cell_of_row _ _ _ _ _ _ (heap_alloc_new W _)]
  simp [hk]

theorem hex_far (b s : ByteArray) (w : World) (hK : Holds w 0 kWords) (h : 400 < b.size ∨ 400 < s.size) :
    Calls Tryd.prog 5 #[.string b, .string s] w fun e w' => e = .returned (.bool true) ∧ Below w.heap.size w w' := by
  have HK := Lib.hid hK
  clear hK
  by_cases h1 : 400 < b.size
  · have hd : decide ((400 : Int) < (b.size : Int)) = true := by simp; omega
    clear h
    go_enter Tryd.func5, Tryd.ntmps5
    go_wp2_with (go_at_call 9; (with_reducible refine (awake_any _ HK.out).mono ?_); rintro e w1 ⟨rfl, hb1⟩; have HB1 := Lib.hid hb1; clear hb1)
    go_ret
    exact ⟨rfl, HB1.out⟩
  · have hd : decide ((400 : Int) < (b.size : Int)) = false := by simp; omega
    have h2 : 400 < s.size := by omega
    have hd2 : decide ((400 : Int) < (s.size : Int)) = true := by simp; omega
    clear h
    go_enter Tryd.func5, Tryd.ntmps5
    go_wp2_with (go_at_call 9; (with_reducible refine (awake_any _ HK.out).mono ?_); rintro e w1 ⟨rfl, hb1⟩; have HB1 := Lib.hid hb1; clear hb1)
    go_ret
    exact ⟨rfl, HB1.out⟩

set_option maxRecDepth 100000 in
set_option maxHeartbeats 2000000 in
theorem hex_near (b s : ByteArray) (w : World) (hK : Holds w 0 kWords) (h1 : b.size ≤ 400) (h2 : s.size ≤ 400) :
    Calls Tryd.prog 5 #[.string b, .string s] w fun e w' => e = .returned (.bool true) ∧ Below w.heap.size w w' := by
  have HK := Lib.hid hK
  have hd : decide ((400 : Int) < (b.size : Int)) = false := by simp; omega
  have hd2 : decide ((400 : Int) < (s.size : Int)) = false := by simp; omega
  have hbz : b.size ≤ 1099511627776 := by omega
  have HBZ := Lib.hid hbz
  clear hK hbz
  go_enter Tryd.func5, Tryd.ntmps5
  go_wp2_with (go_at_call 14; (with_reducible refine (hexStr_any b _ HBZ.out).mono ?_); rintro e w1 ⟨rfl, hb1⟩; have HB1 := Lib.hid hb1; clear hb1)
  obtain ⟨L, hL⟩ : ∃ L : List ByteArray, L = [s, b, hexStr b] := ⟨_, rfl⟩
  have hcell : ∀ k, k < 3 → (w1.alloc (.cells #[.string s, .string b, .string (hexStr b)] 9)).cell? ⟨w1.heap.size, k, none⟩ = some (.string (L.getD k ByteArray.empty)) := by
    intro k hk
    rw [hL]
    exact row_of w1 [s, b, hexStr b] k hk
  have hsz : ∀ k, (L.getD k ByteArray.empty).size ≤ 1000 := by
    intro k
    rw [hL]
    match k with
    | 0 => show s.size ≤ 1000; omega
    | 1 => show b.size ≤ 1000; omega
    | 2 => show (hexStr b).size ≤ 1000; rw [hexStr_size]; omega
    | k + 3 => show (ByteArray.empty).size ≤ 1000; decide
  have HC := Lib.hid hcell
  have HSZ := Lib.hid hsz
  have HBA := Lib.hid (HB1.out.alloc HB1.out.size (.cells #[.string s, .string b, .string (hexStr b)] 9))
  clear hL hcell hsz
  go_loopw [26] (fun i wr => ∃ k : Nat, k ≤ 3 ∧ i = .int .i64 k ∧ Below (w1.heap.size + 1) (w1.alloc (.cells #[.string s, .string b, .string (hexStr b)] 9)) wr) (fun i _ => 3 - (intOf i).toNat)
  case atStart => exact ⟨0, by omega, rfl, Below.refl _ _⟩
  case round =>
    obtain ⟨k, hk, rfl, hb⟩ := hrel
    have HB := Lib.hid hb
    clear hb
    by_cases hlt : k < 3
    · have hd3 : decide ((k : Int) < 3) = true := by simp; omega
      obtain ⟨x, hx⟩ : ∃ x, x = L.getD k ByteArray.empty := ⟨_, rfl⟩
      have hcx : wr.cell? ⟨w1.heap.size, k, none⟩ = some (.string x) := by
        rw [hx]; exact (HB.out.cell (p := ⟨w1.heap.size, k, none⟩) (Nat.lt_succ_self _)).trans (HC.out k hlt)
      have hxz : x.size ≤ 1000 := by rw [hx]; exact HSZ.out k
      have hxz2 : x.size ≤ 1099511627776 := by omega
      have HXZ := Lib.hid hxz
      have HXZ2 := Lib.hid hxz2
      have HZ := Lib.hid (Below.refl wr.heap.size wr)
      clear hx hxz hxz2
      go_upto_region 8 with (first
        | (go_at_call 15; (with_reducible refine (unhex_any x _ HXZ2.out).mono ?_); rintro e w2 ⟨u, ok, rfl, hU, hb2⟩; have HU := Lib.hid hU; have HZ := Lib.hid (HZ.out.next hb2); clear hU hb2)
        | (go_at_call 16; (with_reducible refine (refunhex_any x _ HXZ2.out).mono ?_); rintro e w3 ⟨v, is, rfl, hV, hb3⟩; obtain ⟨e1, e2⟩ := Unh.eq HU.out hV; subst v; subst is; have HZ := Lib.hid (HZ.out.next hb3); clear hV hb3))
      have HUZ := Lib.hid (Nat.le_trans (unh_size HU.out HXZ.out) (by omega : (1000 : Nat) ≤ 1099511627776))
      cases ok with
      | false =>
        go_wp2_with (first
          | (go_at_call 14; (with_reducible refine (hexStr_any x _ HXZ2.out).mono ?_); rintro e w4 ⟨rfl, hb4⟩; have HZ := Lib.hid (HZ.out.next hb4); clear hb4)
          | (go_at_call 17; (with_reducible refine (refhexStr_any x _ HXZ2.out).mono ?_); rintro e w5 ⟨rfl, hb5⟩; have HZ := Lib.hid (HZ.out.next hb5); clear hb5))
        go_roundw
        case rel => exact ⟨k + 1, by omega, by go_num, HB.out.trans (HZ.out.mono (by have := HB.out.size; simp at this; omega))⟩
        case measure => simp [intOf]; omega
      | true =>
        have hux : hexStr u = x := by
          rcases HU.out with ⟨_, h⟩ | ⟨h, _⟩
          · exact hexStr_of h
          · cases h
        have HUX := Lib.hid hux
        clear hux
        go_wp2_with (first
          | (go_at_call 14; (with_reducible refine (hexStr_any u _ HUZ.out).mono ?_); rintro e w4 ⟨he, hb4⟩; obtain rfl : e = .returned (.string x) := (by rw [he, HUX.out]); have HZ := Lib.hid (HZ.out.next hb4); clear hb4 he)
          | (go_at_call 14; (with_reducible refine (hexStr_any x _ HXZ2.out).mono ?_); rintro e w4 ⟨rfl, hb4⟩; have HZ := Lib.hid (HZ.out.next hb4); clear hb4)
          | (go_at_call 17; (with_reducible refine (refhexStr_any x _ HXZ2.out).mono ?_); rintro e w5 ⟨rfl, hb5⟩; have HZ := Lib.hid (HZ.out.next hb5); clear hb5))
        go_roundw
        case rel => exact ⟨k + 1, by omega, by go_num, HB.out.trans (HZ.out.mono (by have := HB.out.size; simp at this; omega))⟩
        case measure => simp [intOf]; omega
    · have ek : k = 3 := by omega
      subst ek
      have HKR := Lib.hid ((HK.out.old HBA.out).below HB.out (by have := HK.out.lt; have := HB1.out.size; omega))
      go_wp2_with (go_at_call 9; (with_reducible refine (awake_any _ HKR.out).mono ?_); rintro e w4 ⟨rfl, hb4⟩; have HB4 := Lib.hid hb4; clear hb4)
      go_ret
      exact ⟨rfl, HBA.out.trans ((HB.out.mono (by have := HB1.out.size; omega)).trans (HB4.out.mono (by have := HB.out.size; simp at this; have := HB1.out.size; omega)))⟩

theorem hex_law (b s : ByteArray) (w : World) (hK : Holds w 0 kWords) :
    Calls Tryd.prog 5 #[.string b, .string s] w fun e w' => e = .returned (.bool true) ∧ Below w.heap.size w w' := by
  by_cases h : 400 < b.size ∨ 400 < s.size
  · exact hex_far b s w hK h
  · exact hex_near b s w hK (by omega) (by omega)
end Go.Proofs.YtoickijglahipaaDoor
