/-
  The contracts of the reference's Lower, Fold and MatchText; nothing that was there before the call has changed.
-/
import Derived.Test.YtnagonihkfpefaaDoorXrow
namespace Go.Proofs.YtnagonihkfpefaaDoor
open Go.RowKit

/-- The bytes when the first k have been made small. -/
def lowAt (l : List UInt8) (k : Nat) : List UInt8 := (l.take k).map small ++ l.drop k
theorem lowAt_zero (l : List UInt8) : lowAt l 0 = l := by simp [lowAt]
theorem lowAt_end (l : List UInt8) {k : Nat} (h : l.length ≤ k) : lowAt l k = l.map small := by
  unfold lowAt
  rw [List.take_of_length_le h, List.drop_eq_nil_of_le h, List.append_nil]
theorem lowAt_len (l : List UInt8) (k : Nat) : (lowAt l k).length = l.length := by
  unfold lowAt
  rw [List.length_append, List.length_map, List.length_take, List.length_drop]
  omega
theorem lowAt_get (l : List UInt8) {k : Nat} (h : k < l.length) : (lowAt l k).getD k 0 = l.getD k 0 := by
  unfold lowAt
  rw [List.getD_eq_getElem?_getD, List.getElem?_append_right (by rw [List.length_map, List.length_take]; omega), List.length_map, List.length_take, List.getElem?_drop, show k + (k - min k l.length) = k by omega, ← List.getD_eq_getElem?_getD]
theorem lowAt_step (l : List UInt8) {k : Nat} (h : k < l.length) : lowAt l (k + 1) = (lowAt l k).set k (small (l.getD k 0)) := by
  unfold lowAt
  rw [take_next l k h, byte_list l k h, List.map_append, List.set_append_right _ _ (by rw [List.length_map, List.length_take]; omega)]
  have e : k - ((l.take k).map small).length = 0 := by rw [List.length_map, List.length_take]; omega
  rw [e]
  simp
theorem lowAt_same (l : List UInt8) {k : Nat} (h : k < l.length) (hs : small (l.getD k 0) = l.getD k 0) : lowAt l (k + 1) = lowAt l k := by
  unfold lowAt
  rw [take_next l k h, byte_list l k h, List.map_append, List.map_cons, hs, List.map_nil, List.append_assoc]
  rfl

set_option maxRecDepth 100000 in
set_option maxHeartbeats 2000000 in
theorem lower_any (s : ByteArray) (w : World) (hn : s.size ≤ 1099511627776) :
    Calls Tryd.prog 12 #[.string s] w fun e w' => e = .returned (.string (strOf (s.data.toList.map small))) ∧ Below w.heap.size w w' := by
  obtain ⟨L, hL⟩ : ∃ L, L = s.data.toList := ⟨_, rfl⟩
  obtain rfl : s = strOf L := by rw [hL]; exact strOf_of rfl
  rw [strOf_list]
  clear hL
  have hz : L.length ≤ 1099511627776 := hn
  obtain ⟨cap, W, hcv, hbl, hbe⟩ := conv_made L w
  have HBL0 := Lib.hid hbl
  have HB0 := Lib.hid hbe
  clear hbl hbe hn
  go_enter Tryd.func12, Tryd.ntmps12
  go_wp2_with fail
  clear hcv
  go_loopw [9] (fun i wr => ∃ k : Nat, k ≤ L.length ∧ i = .int .i64 (k : Int) ∧ BL wr w.heap.size (lowAt L k) ∧ Below w.heap.size w wr) (fun i _ => L.length - (intOf i).toNat)
  case atStart => exact ⟨0, Nat.zero_le _, rfl, by rw [lowAt_zero]; exact HBL0.out, HB0.out⟩
  case round =>
    obtain ⟨k, hk, rfl, hbl, hb⟩ := hrel
    have HBL := Lib.hid hbl
    have HB := Lib.hid hb
    have hcv := hbl.text L.length cap (lowAt_len _ _).symm
    clear hbl hb
    by_cases hlt : k < L.length
    · clear hcv
      have hd : decide ((k : Int) < (L.length : Int)) = true := by simp; omega
      have hlr : k < (lowAt L k).length := by rw [lowAt_len]; exact hlt
      have hcell := (HBL.out.2 k hlr).1
      have hfro := (HBL.out.2 k hlr).2
      have hgl := HBL.out.1
      rw [lowAt_get L hlt] at hcell
      have hst := lowAt_step L hlt
      have hsm := fun h => lowAt_same L hlt h
      obtain ⟨c, hc⟩ : ∃ c, c = L.getD k 0 := ⟨_, rfl⟩
      rw [← hc] at hcell hst hsm
      have HST := Lib.hid hst
      have HSM := Lib.hid hsm
      clear hc hst hsm
      by_cases h : 65 ≤ c.toNat ∧ c.toNat ≤ 90
      · have d1 : decide ((65 : Int) ≤ ((c.toNat : Nat) : Int)) = true := by simp; omega
        have d2 : decide (((c.toNat : Nat) : Int) ≤ 90) = true := by simp; omega
        have HE := Lib.hid (show (((c.toNat : Nat) : Int) + 32) % 256 = (((small c).toNat : Nat) : Int) by rw [small_big h]; omega)
        clear h
        go_wp2_with fail
        go_roundw
        case rel => exact ⟨k + 1, by omega, by go_num, by rw [HST.out]; exact HBL.out.putv hlr _ _ HE.out, HB.out.setCell (by simp) _⟩
        case measure => simp [intOf]; omega
      · have HN := Lib.hid (HSM.out (small_low h))
        by_cases h1 : 65 ≤ c.toNat
        · have d1 : decide ((65 : Int) ≤ ((c.toNat : Nat) : Int)) = true := by simp; omega
          have d2 : decide (((c.toNat : Nat) : Int) ≤ 90) = false := by simp; omega
          clear h
          go_wp2_with fail
          go_roundw
          case rel => exact ⟨k + 1, by omega, by go_num, by rw [HN.out]; exact HBL.out, HB.out⟩
          case measure => simp [intOf]; omega
        · have d1 : decide ((65 : Int) ≤ ((c.toNat : Nat) : Int)) = false := by simp; omega
          clear h
          go_wp2_with fail
          go_roundw
          case rel => exact ⟨k + 1, by omega, by go_num, by rw [HN.out]; exact HBL.out, HB.out⟩
          case measure => simp [intOf]; omega
    · have ek : k = L.length := by omega
      subst ek
      have hd : decide ((L.length : Int) < (L.length : Int)) = false := by simp
      rw [lowAt_end L (Nat.le_refl _)] at hcv
      go_wp2_with fail
      go_ret
      exact ⟨rfl, HB.out⟩
end Go.Proofs.YtnagonihkfpefaaDoor
