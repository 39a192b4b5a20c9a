/-
  The contracts of tlv.Ascending and of the reference's Ascending: whether no element's Raw is less than the one before it.
-/
import Derived.Test.YtfpfgdbfigdooaaGreatDoorCbm
import Derived.Test.YtfpfgdbfigdooaaGreatDoorCbj
namespace Go.Proofs.YtfpfgdbfigdooaaGreatDoor
open Go.RowKit

/-- The bytes of the i-th element. -/
def rawAt (l : List El) (i : Nat) : List UInt8 := (l.getD i (0, ⟨#[]⟩, ⟨#[]⟩)).2.2.data.toList
theorem bl_iff : ∀ x y : List UInt8, Op.bytesLess x y = true ↔ x < y
  | _, [] => by simp [Op.bytesLess]
  | [], _ :: _ => by simp [Op.bytesLess]
  | a :: x, b :: y => by
    rw [List.cons_lt_cons_iff, ← bl_iff x y]
    simp [Op.bytesLess]
theorem cb_iff : ∀ x y : List UInt8, Lib.compareBytes x y < 0 ↔ x < y
  | [], [] => by simp [Lib.compareBytes]
  | [], _ :: _ => by simp [Lib.compareBytes]
  | _ :: _, [] => by simp [Lib.compareBytes]
  | a :: x, b :: y => by
    rw [List.cons_lt_cons_iff, ← cb_iff x y]
    rw [show Lib.compareBytes (a :: x) (b :: y) = if a < b then -1 else if b < a then 1 else Lib.compareBytes x y from rfl]
    by_cases h1 : a < b
    · simp [h1]
    · by_cases h2 : b < a
      · rw [if_neg h1, if_pos h2]
        have : ¬ a = b := fun e => by rw [e] at h2; exact absurd h2 (UInt8.lt_irrefl b)
        simp [h1, this]
      · rw [if_neg h1, if_neg h2]
        have : a = b := UInt8.le_antisymm (UInt8.not_lt.1 h2) (UInt8.not_lt.1 h1)
        simp [this]
def ascP (l : List El) (n : Nat) : Prop := ∀ i, 1 ≤ i → i < n → ¬ rawAt l i < rawAt l (i - 1)

/-- At the address lie the elements l. -/
def EAt (w : World) (a : Option Addr) (l : List El) : Prop := ∀ k (h : k < l.length), ∃ g, a = some ⟨g, 0, none⟩ ∧ ∀ j, j < 3 → w.cell? ⟨g, k * 3 + j, none⟩ = (elCells l[k])[j]?
theorem EAt.of {w : World} {B : Nat} {v : Value} {l : List El} (h : OwnE w B v l) : ∃ a c, v = .slice a l.length c ∧ EAt w a l := by
  have h' := own_base_t h
  rcases h.2 with ⟨hv, h0⟩ | ⟨g, cap, cur, hv, _⟩
  · exact ⟨none, 0, by rw [hv, h0], fun k hk => by omega⟩
  · rw [hv] at h'
    exact ⟨_, cap, hv, fun k hk => ⟨g, rfl, fun j hj => els_cell h' k hk j hj⟩⟩
theorem EAt.two {w wr : World} {a : Option Addr} {l : List El} (h : EAt w a l) (hb : Below w.heap.size w wr) (k : Nat) (hk1 : 1 ≤ k) (hk : k < l.length) :
    ∃ (g : Nat) (t c t' c' : Value) (x y : ByteArray), a = some ⟨g, 0, none⟩ ∧ wr.cell? ⟨g, k * 3, none⟩ = some t ∧ wr.cell? ⟨g, k * 3 + 1, none⟩ = some c ∧ wr.cell? ⟨g, k * 3 + 2, none⟩ = some (.string x) ∧
      wr.cell? ⟨g, (k - 1) * 3, none⟩ = some t' ∧ wr.cell? ⟨g, (k - 1) * 3 + 1, none⟩ = some c' ∧ wr.cell? ⟨g, (k - 1) * 3 + 2, none⟩ = some (.string y) ∧ rawAt l k = x.data.toList ∧ rawAt l (k - 1) = y.data.toList := by
  obtain ⟨g, rfl, h1⟩ := h k hk
  obtain ⟨g', e, h2⟩ := h (k - 1) (by omega)
  obtain rfl : g = g' := by simpa using e
  have hg : g < w.heap.size := block_lt_of_cell (a := ⟨g, k * 3 + 0, none⟩) (h1 0 (by omega))
  have o1 : ∀ j, j < 3 → wr.cell? ⟨g, k * 3 + j, none⟩ = (elCells l[k])[j]? := fun j hj => (hb.cell (p := ⟨g, k * 3 + j, none⟩) hg).trans (h1 j hj)
  have o2 : ∀ j, j < 3 → wr.cell? ⟨g, (k - 1) * 3 + j, none⟩ = (elCells (l[k - 1]'(by omega)))[j]? := fun j hj => (hb.cell (p := ⟨g, (k - 1) * 3 + j, none⟩) hg).trans (h2 j hj)
  exact ⟨g, _, _, _, _, _, _, rfl, o1 0 (by omega), o1 1 (by omega), o1 2 (by omega), o2 0 (by omega), o2 1 (by omega), o2 2 (by omega),
    by unfold rawAt; rw [List.getD_eq_getElem?_getD, List.getElem?_eq_getElem hk]; rfl, by unfold rawAt; rw [List.getD_eq_getElem?_getD, List.getElem?_eq_getElem (by omega)]; rfl⟩

set_option maxRecDepth 100000 in
set_option maxHeartbeats 1000000 in
theorem rasc_some (a : Option Addr) (c n : Nat) (l : List El) (w : World) (h : EAt w a l) (hn : n = l.length) (hL : n ≤ 1099511627776) :
    Calls Tryz.prog 44 #[.slice a n c] w fun e w' => (∃ b : Bool, e = .returned (.bool b) ∧ (b = true ↔ ascP l l.length)) ∧ Below w.heap.size w w' := by
  have H1 := Lib.hid h
  have HN := Lib.hid hn
  clear h
  rw [← hn]
  clear hn
  go_enter Tryz.func44, Tryz.ntmps44
  go_wp2_with fail
  go_loopw [3] (fun i wr => ∃ k : Nat, 1 ≤ k ∧ (k ≤ n ∨ k = 1) ∧ i = .int .i64 k ∧ ascP l k ∧ Below w.heap.size w wr) (fun i _ => n + 1 - (intOf i).toNat)
  case atStart => exact ⟨1, Nat.le_refl _, .inr rfl, rfl, fun i h1 h2 => by omega, Below.refl _ _⟩
  case round =>
    obtain ⟨k, hk1, hk, rfl, hA, hb⟩ := hrel
    have HB := Lib.hid hb
    have HA := Lib.hid hA
    clear hb hA
    by_cases hlt : k < n
    · have hd : decide ((k : Int) < (n : Int)) = true := by simp; omega
      obtain ⟨g, t, c1, t2, c2, x, y, rfl, a0, a1, a2, b0, b1, b2, hX, hY⟩ := H1.out.two HB.out k hk1 (by rw [← HN.out]; exact hlt)
      have HX := Lib.hid hX
      have HY := Lib.hid hY
      clear hX hY
      by_cases hless : x.data.toList < y.data.toList
      · have hbl : Op.bytesLess x.toList y.toList = true := by rw [ByteArray.toList_eq, ByteArray.toList_eq]; exact (bl_iff _ _).2 hless
        have HF := Lib.hid (show ¬ ascP l n from fun hh => hh k hk1 hlt (by rw [HX.out, HY.out]; exact hless))
        clear hless
        go_wp2_with fail
        go_region
        go_wp2_with fail
        go_ret
        exact ⟨⟨false, rfl, fun hh => absurd hh (by decide), fun hh => absurd hh HF.out⟩, HB.out.drew⟩
      · have hbl : Op.bytesLess x.toList y.toList = false := by
          rw [ByteArray.toList_eq, ByteArray.toList_eq, ← Bool.not_eq_true, bl_iff]; exact hless
        have HF := Lib.hid (show ascP l (k + 1) from fun i h1 h2 => by
          by_cases e : i = k
          · subst e; rw [HX.out, HY.out]; exact hless
          · exact HA.out i h1 (by omega))
        clear hless
        go_wp2_with fail
        go_region
        go_wp2_with fail
        go_roundw
        case rel => exact ⟨k + 1, by omega, .inl (by omega), by go_num, HF.out, HB.out.drew⟩
        case measure => simp [intOf]; omega
    · have hd : decide ((k : Int) < (n : Int)) = false := by simp; omega
      have HF := Lib.hid (show ascP l n from fun i h1 h2 => HA.out i h1 (by omega))
      go_wp2_with fail
      go_ret
      exact ⟨⟨true, rfl, fun _ => HF.out, fun _ => rfl⟩, HB.out⟩

set_option maxRecDepth 100000 in
theorem cmp_any_t (t c t2 c2 : Value) (x y : ByteArray) (w : World) :
    Calls Tryz.prog 143 #[.agg #[t, c, .string x], .agg #[t2, c2, .string y]] w fun e w' => e = .returned (.int .i64 (Lib.compareBytes x.data.toList y.data.toList)) ∧ Below w.heap.size w w' := by
  go_enter Tryz.func143, Tryz.ntmps143
  go_wp2_with (go_at_call 83; (with_reducible refine (compare_any x y _).mono ?_); rintro e w1 ⟨rfl, rfl⟩)
  go_ret
  exact ⟨rfl, belowNew2 w _ _⟩

set_option maxRecDepth 100000 in
set_option maxHeartbeats 1000000 in
theorem sorted_any (a : Option Addr) (c n : Nat) (l : List El) (w : World) (h : EAt w a l) (hn : n = l.length) (hL : n ≤ 1099511627776) :
    Calls Tryz.prog 142 #[.slice a n c, .func (.func 143) #[] #[]] w fun e w' => (∃ b : Bool, e = .returned (.bool b) ∧ (b = true ↔ ascP l l.length)) ∧ Below w.heap.size w w' := by
  have H1 := Lib.hid h
  have HN := Lib.hid hn
  clear h
  rw [← hn]
  clear hn
  go_enter Tryz.func142, Tryz.ntmps142
  go_wp2_with fail
  go_loopw [5] (fun i wr => ∃ k : Nat, k ≤ n ∧ i = .int .i64 ((k : Int) - 1) ∧ (∀ i, k ≤ i → 1 ≤ i → i < n → ¬ rawAt l i < rawAt l (i - 1)) ∧ Below w.heap.size w wr) (fun i _ => (intOf i + 1).toNat)
  case atStart => exact ⟨n, Nat.le_refl _, rfl, fun i h1 h2 h3 => by omega, Below.refl _ _⟩
  case round =>
    obtain ⟨k, hk, rfl, hA, hb⟩ := hrel
    have HB := Lib.hid hb
    have HA := Lib.hid hA
    clear hb hA
    by_cases hlt : 1 < k
    · obtain ⟨j, rfl⟩ : ∃ j, k = j + 1 := ⟨k - 1, by omega⟩
      have ej : ((j + 1 : Nat) : Int) - 1 = (j : Int) := by omega
      rw [ej]
      obtain ⟨g, t, c1, t2, c2, x, y, rfl, a0, a1, a2, b0, b1, b2, hX, hY⟩ := H1.out.two HB.out j (by omega) (by rw [← HN.out]; omega)
      have HX := Lib.hid hX
      have HY := Lib.hid hY
      have hd : decide (0 < (j : Int)) = true := by simp; omega
      have hjn : j < n := by omega
      have hjw : IntKind.i64.wrap ((j : Int) - 1) = ((j - 1 : Nat) : Int) := by simp [IntKind.wrap, IntKind.bits, IntKind.signed]; omega
      have hjm : j - 1 < n := by omega
      clear hX hY ej
      obtain ⟨z, hz⟩ : ∃ z, z = Lib.compareBytes x.data.toList y.data.toList := ⟨_, rfl⟩
      have hci := cb_iff x.data.toList y.data.toList
      rw [← hz] at hci
      have HZ := Lib.hid hz
      clear hz
      by_cases hless : z < 0
      · have dz : decide (z < 0) = true := by simpa using hless
        have HF := Lib.hid (show ¬ ascP l n from fun hh => hh j (by omega) hjn (by rw [HX.out, HY.out]; exact hci.1 hless))
        clear hci hless
        go_wp2_with fail
        go_region_with (go_at_call 143; (with_reducible refine (cmp_any_t t c1 t2 c2 x y _).mono ?_); rw [← HZ.out]; rintro e w1 ⟨rfl, hb1⟩; have HB1 := Lib.hid (below_next_t HB.out.drew hb1); clear hb1)
        all_goals
          go_wp2_with fail
          go_ret
          exact ⟨⟨false, rfl, fun hh => absurd hh (by decide), fun hh => absurd hh HF.out⟩, HB1.out⟩
      · have dz : decide (z < 0) = false := by simpa using hless
        have HF := Lib.hid (show ∀ i, j ≤ i → 1 ≤ i → i < n → ¬ rawAt l i < rawAt l (i - 1) from fun i h1 h2 h3 => by
          by_cases e : i = j
          · subst e; rw [HX.out, HY.out]; exact fun hh => hless (hci.2 hh)
          · exact HA.out i (by omega) h2 h3)
        clear hci hless
        go_wp2_with fail
        go_region_with (go_at_call 143; (with_reducible refine (cmp_any_t t c1 t2 c2 x y _).mono ?_); rw [← HZ.out]; rintro e w1 ⟨rfl, hb1⟩; have HB1 := Lib.hid (below_next_t HB.out.drew hb1); clear hb1)
        all_goals
          go_wp2_with fail
          go_roundw
          case rel => exact ⟨j, by omega, by go_num, HF.out, HB1.out⟩
          case measure => simp [intOf]; omega
    · have hd : decide (0 < (k : Int) - 1) = false := by simp; omega
      have HF := Lib.hid (show ascP l n from fun i h1 h2 => HA.out i (by omega) h1 h2)
      go_wp2_with fail
      go_ret
      exact ⟨⟨true, rfl, fun _ => HF.out, fun _ => rfl⟩, HB.out⟩

set_option maxRecDepth 100000 in
theorem asc_some (a : Option Addr) (c n : Nat) (l : List El) (w : World) (h : EAt w a l) (hn : n = l.length) (hL : n ≤ 1099511627776) :
    Calls Tryz.prog 110 #[.slice a n c] w fun e w' => (∃ b : Bool, e = .returned (.bool b) ∧ (b = true ↔ ascP l l.length)) ∧ Below w.heap.size w w' := by
  have HS := Lib.hid (sorted_any a c n l w h hn hL)
  clear h hn
  go_enter Tryz.func110, Tryz.ntmps110
  go_wp2_with (go_at_call 142; (with_reducible refine HS.out.mono ?_); rintro e w1 ⟨⟨b, rfl, hb⟩, hbb⟩; have HBB := Lib.hid hb; have HW := Lib.hid hbb; clear hb hbb)
  go_ret
  exact ⟨⟨b, rfl, HBB.out⟩, HW.out⟩
/-- Both, of a slice that the call has made. -/
theorem asc_any (B : Nat) (v : Value) (l : List El) (w : World) (h : OwnE w B v l) (hL : l.length ≤ 1099511627776) :
    Calls Tryz.prog 110 #[v] w fun e w' => (∃ b : Bool, e = .returned (.bool b) ∧ (b = true ↔ ascP l l.length)) ∧ Below w.heap.size w w' := by
  obtain ⟨a, c, rfl, hA⟩ := EAt.of h
  exact asc_some a c l.length l w hA rfl hL
theorem rasc_any (B : Nat) (v : Value) (l : List El) (w : World) (h : OwnE w B v l) (hL : l.length ≤ 1099511627776) :
    Calls Tryz.prog 44 #[v] w fun e w' => (∃ b : Bool, e = .returned (.bool b) ∧ (b = true ↔ ascP l l.length)) ∧ Below w.heap.size w w' := by
  obtain ⟨a, c, rfl, hA⟩ := EAt.of h
  exact rasc_some a c l.length l w hA rfl hL
end Go.Proofs.YtfpfgdbfigdooaaGreatDoor
