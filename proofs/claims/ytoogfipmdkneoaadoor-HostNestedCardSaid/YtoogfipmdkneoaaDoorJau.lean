/-
  Addresses and ranges as lists of bytes: when one lies within another. Nothing is claimed of the program here.
  The contracts of the reference's Address and Range: whether bytes are an address; whether they are a range.
-/
import Derived.Test.YtoogfipmdkneoaaDoorJae
import Derived.Test.YtoogfipmdkneoaaDoorJag
namespace Go.Proofs.YtoogfipmdkneoaaDoor
open Go.RowKit

def addrB (b : List UInt8) : Bool := decide (b.length = 4) || decide (b.length = 16)
def bitAt (b : List UInt8) (at' i : Nat) : Bool := decide ((b.getD (at' + i / 8) 0).toNat / 2 ^ (7 - i % 8) % 2 = 1)
/-- A bit of the mask; a bit of the address. -/
def mbit (b : List UInt8) (i : Nat) : Bool := bitAt b (b.length / 2) i
def abit (b : List UInt8) (i : Nat) : Bool := bitAt b 0 i
def onesTo (b : List UInt8) (i : Nat) : Bool := (List.range i).all (mbit b)
def bitOk (b : List UInt8) (i : Nat) : Bool := if mbit b i = true then onesTo b i else !abit b i
def rangeB (b : List UInt8) : Bool := (decide (b.length = 8) || decide (b.length = 32)) && (List.range (8 * (b.length / 2))).all (bitOk b)
def wholeB (a r : List UInt8) : Bool := addrB a && decide (a.length = r.length / 2)
def byteIn (a r : List UInt8) (h i : Nat) : Bool := decide (a.getD i 0 &&& r.getD (h + i) 0 = r.getD i 0) && (wholeB a r || decide (a.getD (h + i) 0 &&& r.getD (h + i) 0 = r.getD (h + i) 0))
def addrWithinB (a r : List UInt8) : Bool := rangeB r && (wholeB a r || (rangeB a && decide (a.length = r.length))) && (List.range (r.length / 2)).all (byteIn a r (r.length / 2))

/-! ### Ranges with a mask of some bits -/
def maskT (t : Nat) : UInt8 := [0, 128, 192, 224, 240, 248, 252, 254].getD t 255
def maskB (k i : Nat) : UInt8 := maskT (min 8 (k - 8 * i))
def netB (a : List UInt8) (k n : Nat) : List UInt8 := (List.range n).map (fun i => a.getD i 0 &&& maskB k i) ++ (List.range n).map (maskB k)
theorem maskT_and : ∀ s, s ≤ 8 → ∀ t, t ≤ 8 → maskT s &&& maskT t = maskT (min s t) := by decide
theorem mask_and (k l i : Nat) : maskB k i &&& maskB l i = maskB (min k l) i := by
  unfold maskB
  rw [maskT_and _ (Nat.min_le_left _ _) _ (Nat.min_le_left _ _)]
  congr 1
  omega
theorem net_len (a : List UInt8) (k n : Nat) : (netB a k n).length = 2 * n := by
  unfold netB
  rw [List.length_append, List.length_map, List.length_map, List.length_range]
  omega
theorem net_low {a : List UInt8} {k n i : Nat} (h : i < n) : (netB a k n).getD i 0 = a.getD i 0 &&& maskB k i := by
  unfold netB
  rw [List.getD_eq_getElem?_getD, List.getElem?_append_left (by simpa using h), List.getElem?_map, List.getElem?_range h]
  rfl
theorem net_high {a : List UInt8} {k n i : Nat} (h : i < n) : (netB a k n).getD (n + i) 0 = maskB k i := by
  unfold netB
  rw [List.getD_eq_getElem?_getD, List.getElem?_append_right (by simp), List.length_map, List.length_range, show n + i - n = i by omega, List.getElem?_map, List.getElem?_range h]
  rfl
theorem maskT_bit : ∀ t, t ≤ 8 → ∀ j, j < 8 → ((maskT t).toNat / 2 ^ (7 - j) % 2 = 1 ↔ j < t) := by decide
set_option maxRecDepth 100000 in
theorem and_bit : ∀ t, t ≤ 8 → ∀ j, j < 8 → t ≤ j → ∀ x : Nat, x < 256 → ¬ ((UInt8.ofNat x &&& maskT t).toNat / 2 ^ (7 - j) % 2 = 1) := by decide +kernel
theorem net_mbit {a : List UInt8} {k n i : Nat} (h : i < 8 * n) : mbit (netB a k n) i = decide (i < k) := by
  unfold mbit bitAt
  rw [net_len, show 2 * n / 2 = n by omega, net_high (by omega), decide_eq_decide]
  unfold maskB
  rw [maskT_bit _ (Nat.min_le_left _ _) _ (Nat.mod_lt _ (by decide))]
  omega
theorem net_abit {a : List UInt8} {k n i : Nat} (h : i < 8 * n) (hk : k ≤ i) : abit (netB a k n) i = false := by
  unfold abit bitAt
  rw [Nat.zero_add, net_low (by omega), decide_eq_false_iff_not]
  unfold maskB
  have := and_bit (min 8 (k - 8 * (i / 8))) (Nat.min_le_left _ _) (i % 8) (Nat.mod_lt _ (by decide)) (by omega) (a.getD (i / 8) 0).toNat (UInt8.toNat_lt _)
  rwa [show UInt8.ofNat (a.getD (i / 8) 0).toNat = a.getD (i / 8) 0 by simp] at this
theorem net_range {a : List UInt8} {k n : Nat} (hn : n = 4 ∨ n = 16) : rangeB (netB a k n) = true := by
  unfold rangeB
  rw [net_len, show 2 * n / 2 = n by omega, Bool.and_eq_true, Bool.or_eq_true, decide_eq_true_iff, decide_eq_true_iff, List.all_eq_true]
  refine ⟨by omega, fun i hi => ?_⟩
  have hi := List.mem_range.1 hi
  unfold bitOk
  rw [net_mbit hi]
  by_cases h : i < k
  · rw [if_pos (decide_eq_true h)]
    unfold onesTo
    rw [List.all_eq_true]
    intro j hj
    have hj := List.mem_range.1 hj
    rw [net_mbit (by omega)]
    exact decide_eq_true (by omega)
  · rw [if_neg (by simpa using h), net_abit hi (by omega)]
    rfl
theorem byteIn_net {a b : List UInt8} {k l n : Nat} (hn : n = 4 ∨ n = 16) (h : ∀ i, i < n → (a.getD i 0 &&& maskB k i) &&& maskB l i = b.getD i 0 &&& maskB l i) (hkl : l ≤ k) : addrWithinB (netB a k n) (netB b l n) = true := by
  unfold addrWithinB
  rw [net_range hn, net_range hn, net_len, net_len, decide_eq_true rfl, show 2 * n / 2 = n by omega, Bool.true_and, Bool.and_self, Bool.or_true, Bool.true_and, List.all_eq_true]
  intro i hi
  have hi := List.mem_range.1 hi
  unfold byteIn
  rw [net_low hi, net_low hi, net_high hi, net_high hi, h i hi, mask_and, Nat.min_eq_right hkl]
  simp
/-- Of two ranges of one address the one with the longer mask lies within the other. -/
theorem net_both {a : List UInt8} {k l n : Nat} (hn : n = 4 ∨ n = 16) : addrWithinB (netB a k n) (netB a l n) = true ∨ addrWithinB (netB a l n) (netB a k n) = true := by
  rcases Nat.le_total l k with h | h
  · refine .inl (byteIn_net hn (fun i _ => ?_) h)
    rw [UInt8.and_assoc, mask_and, Nat.min_eq_right h]
  · refine .inr (byteIn_net hn (fun i _ => ?_) h)
    rw [UInt8.and_assoc, mask_and, Nat.min_eq_right h]
/-- An address of a range that lies within another range: the ranges are nested. -/
theorem net_third {a b : List UInt8} {k l n : Nat} (hn : n = 4 ∨ n = 16) (h : addrWithinB ((netB a k n).take n) (netB b l n) = true) : addrWithinB (netB a k n) (netB b l n) = true ∨ addrWithinB (netB b l n) (netB a k n) = true := by
  unfold addrWithinB at h
  rw [Bool.and_eq_true] at h
  have h := h.2
  rw [net_len, show 2 * n / 2 = n by omega, List.all_eq_true] at h
  have key : ∀ i, i < n → (a.getD i 0 &&& maskB k i) &&& maskB l i = b.getD i 0 &&& maskB l i := by
    intro i hi
    have hb := h i (List.mem_range.2 hi)
    unfold byteIn at hb
    rw [Bool.and_eq_true, decide_eq_true_iff, net_high hi, net_low hi] at hb
    have e : ((netB a k n).take n).getD i 0 = a.getD i 0 &&& maskB k i := by
      rw [List.getD_eq_getElem?_getD, List.getElem?_take_of_lt hi, ← List.getD_eq_getElem?_getD, net_low hi]
    rw [e] at hb
    exact hb.1
  rcases Nat.le_total l k with g | g
  · exact .inl (byteIn_net hn key g)
  · refine .inr (byteIn_net hn (fun i hi => ?_) g)
    rw [← key i hi, UInt8.and_assoc, UInt8.and_assoc, mask_and, mask_and, Nat.min_eq_right (by omega)]
    congr 2
    omega
end Go.Proofs.YtoogfipmdkneoaaDoor
namespace Go.Proofs.YtoogfipmdkneoaaDoor
open Go.RowKit

set_option maxRecDepth 100000 in
set_option maxHeartbeats 1000000 in
theorem raddr_any (L : List UInt8) (w : World) :
    Calls Tryd.prog 34 #[.string (strOf L)] w fun e w' => e = .returned (.bool (addrB L)) ∧ Below w.heap.size w w' := by
  have e0 := strOf_size L
  by_cases h : L.length = 4
  · have d1 : ((L.length : Int) == (4 : Int)) = true := by rw [h]; rfl
    have HE := Lib.hid (show addrB L = true by unfold addrB; rw [decide_eq_true h]; rfl)
    clear h
    go_enter Tryd.func34, Tryd.ntmps34
    go_wp2_with fail
    go_ret
    exact ⟨by rw [HE.out]; rfl, Below.refl _ _⟩
  · have d1 : ((L.length : Int) == (4 : Int)) = false := by simp; omega
    by_cases h2 : L.length = 16
    · have d2 : ((L.length : Int) == (16 : Int)) = true := by rw [h2]; rfl
      have HE := Lib.hid (show addrB L = true by unfold addrB; rw [decide_eq_true h2, Bool.or_true])
      clear h2
      go_enter Tryd.func34, Tryd.ntmps34
      go_wp2_with fail
      go_ret
      exact ⟨by rw [HE.out]; rfl, Below.refl _ _⟩
    · have d2 : ((L.length : Int) == (16 : Int)) = false := by simp; omega
      have HE := Lib.hid (show addrB L = false by unfold addrB; rw [decide_eq_false h, decide_eq_false h2]; rfl)
      go_enter Tryd.func34, Tryd.ntmps34
      go_wp2_with fail
      go_ret
      exact ⟨by rw [HE.out]; rfl, Below.refl _ _⟩
theorem raddr_is {L : List UInt8} {b : Bool} (h : addrB L = b) (w : World) :
    Calls Tryd.prog 34 #[.string (strOf L)] w fun e w' => e = .returned (.bool b) ∧ Below w.heap.size w w' := by
  have := raddr_any L w
  rwa [h] at this

theorem range_all {L : List UInt8} {h : Nat} (hh : h = L.length / 2) (hl : L.length = 8 ∨ L.length = 32) (ha : ∀ j, j < 8 * h → bitOk L j = true) : rangeB L = true := by
  unfold rangeB
  rw [Bool.and_eq_true, Bool.or_eq_true, decide_eq_true_iff, decide_eq_true_iff, List.all_eq_true]
  exact ⟨hl, fun j hj => ha j (by rw [hh]; exact List.mem_range.1 hj)⟩
theorem range_bad {L : List UInt8} {h j : Nat} (hh : h = L.length / 2) (hj : j < 8 * h) (hb : bitOk L j = false) : rangeB L = false := by
  unfold rangeB
  rw [Bool.and_eq_false_iff]
  refine .inr ?_
  rw [Bool.eq_false_iff]
  intro k
  rw [List.all_eq_true] at k
  have := k j (List.mem_range.2 (by rw [← hh]; exact hj))
  rw [hb] at this
  cases this
theorem shr_two (M t : Nat) : ((M : Int) / 2 ^ t).tmod 2 = ((M / 2 ^ t % 2 : Nat) : Int) := by
  have e : (M : Int) / 2 ^ t = ((M / 2 ^ t : Nat) : Int) := by rw [Int.natCast_ediv, Int.natCast_pow]; rfl
  rw [e]
  generalize M / 2 ^ t = x
  rw [Int.tmod_eq_emod_of_nonneg (by omega)]
  omega
theorem tmod_one {M t : Nat} (h : M / 2 ^ t % 2 = 1) : ((M : Int) / 2 ^ t).tmod 2 = 1 := by rw [shr_two, h]; rfl
theorem tmod_zero {M t : Nat} (h : ¬ M / 2 ^ t % 2 = 1) : ((M : Int) / 2 ^ t).tmod 2 = 0 := by rw [shr_two, show M / 2 ^ t % 2 = 0 by omega]; rfl
theorem onesTo_succ (L : List UInt8) (i : Nat) : onesTo L (i + 1) = (onesTo L i && mbit L i) := by
  unfold onesTo
  rw [List.range_succ, List.all_append]
  simp

set_option maxRecDepth 100000 in
set_option maxHeartbeats 4000000 in
theorem rrange_any (L : List UInt8) (w : World) :
    Calls Tryd.prog 36 #[.string (strOf L)] w fun e w' => e = .returned (.bool (rangeB L)) ∧ Below w.heap.size w w' := by
  have e0 := strOf_size L
  by_cases hl : L.length = 8 ∨ L.length = 32
  · obtain ⟨h, hh⟩ : ∃ h, h = L.length / 2 := ⟨_, rfl⟩
    have HH := Lib.hid hh
    have HL := Lib.hid hl
    obtain ⟨n, hn⟩ : ∃ n, n = L.length := ⟨_, rfl⟩
    rw [← hn] at e0
    have HN := Lib.hid hn
    have hb : h ≤ 16 := by omega
    have hn2 : n = 2 * h := by omega
    have hq : (n : Int) / 2 = (h : Int) := by omega
    have HN2 := Lib.hid hn2
    have hor : (((n : Int) != 8) = false ∧ True) ∨ (((n : Int) != 8) = true ∧ ((n : Int) != 32) = false) := by
      rcases hl with h | h
      · rw [show n = 8 by omega]; exact .inl ⟨rfl, trivial⟩
      · rw [show n = 32 by omega]; exact .inr ⟨rfl, rfl⟩
    rcases hor with ⟨d8, d32⟩ | ⟨d8, d32⟩
    all_goals
      clear hl hh hn hn2
      go_enter Tryd.func36, Tryd.ntmps36
      go_wp2_with fail
      clear d8 d32 hq
      go_loopw [4, 5] (fun z i wr => ∃ (k : Nat) (Z : Bool), k ≤ 8 * h ∧ z = .bool Z ∧ Z = (!onesTo L k) ∧ i = .int .i64 (k : Int) ∧ (∀ j, j < k → bitOk L j = true) ∧ wr = w) (fun _ i _ => 8 * h - (intOf i).toNat)
      case atStart => exact ⟨0, false, Nat.zero_le _, rfl, rfl, rfl, fun j hj => absurd hj (Nat.not_lt_zero _), rfl⟩
      case round =>
        obtain ⟨k, Z, hk, rfl, hz, rfl, hall, rfl⟩ := hrel
        have HA := Lib.hid hall
        clear hall
        by_cases hlt : k < 8 * h
        · have hd : decide ((k : Int) < 8 * (h : Int)) = true := decide_eq_true (by omega)
          obtain ⟨q, hq⟩ : ∃ q, q = k / 8 := ⟨_, rfl⟩
          obtain ⟨r, hr⟩ : ∃ r, r = k % 8 := ⟨_, rfl⟩
          obtain ⟨t, ht⟩ : ∃ t, t = 7 - r := ⟨_, rfl⟩
          have q1 : (k : Int) / 8 = (q : Int) := by omega
          have q2 : (k : Int) % 8 = (r : Int) := by omega
          have q3 : (7 : Int) - (r : Int) = (t : Int) := by omega
          have ht7 : t ≤ 7 := by omega
          have hix := run_index_u8 (P := Tryd.prog) Tryd.underlying9 (strOf L) (h + q) (by rw [e0, HN2.out]; omega) ((h : Int) + (q : Int)) (by omega)
          have hiy := run_index_u8 (P := Tryd.prog) Tryd.underlying9 (strOf L) q (by rw [e0, HN2.out]; omega) (q : Int) rfl
          have hmb : mbit L k = decide (u8at (strOf L) (h + q) / 2 ^ t % 2 = 1) := by unfold mbit bitAt; rw [← HH.out, ← hq, ← hr, ← ht]; rfl
          have hab : abit L k = decide (u8at (strOf L) q / 2 ^ t % 2 = 1) := by unfold abit bitAt; rw [← hq, ← hr, ← ht, Nat.zero_add]; rfl
          have HBAD := Lib.hid (show bitOk L k = false → rangeB L = false from fun h => range_bad HH.out hlt h)
          have HNXT := Lib.hid (show bitOk L k = true → ∀ j, j < k + 1 → bitOk L j = true from fun h j hj => by
            rcases Nat.lt_or_ge j k with e | e
            · exact HA.out j e
            · rw [show j = k by omega]; exact h)
          have HT := Lib.hid ht
          clear hq hr ht
          generalize u8at (strOf L) (h + q) = M at hix hmb
          generalize u8at (strOf L) q = N at hiy hab
          cases hm : mbit L k with
          | true =>
            have f1 : ((M : Int) / 2 ^ t).tmod 2 = 1 := tmod_one (of_decide_eq_true (hmb.symm.trans hm))
            cases ho : onesTo L k with
            | true =>
              have hz' : Z = false := by rw [hz, ho]; rfl
              subst hz'
              have HO := Lib.hid (show false = !onesTo L (k + 1) by rw [onesTo_succ, ho, hm]; rfl)
              have HX := Lib.hid (HNXT.out (by unfold bitOk; rw [if_pos hm, ho]))
              clear hm ho hz hmb hab
              go_wp2_with fail
              go_roundw
              case rel => exact ⟨k + 1, _, by omega, rfl, HO.out, by go_num, HX.out, by first | exact trivial | rfl⟩
              case measure => simp [intOf]; omega
            | false =>
              have hz' : Z = true := by rw [hz, ho]; rfl
              subst hz'
              have HE := Lib.hid (HBAD.out (by unfold bitOk; rw [if_pos hm, ho]))
              clear hm ho hz hmb hab
              go_wp2_with fail
              go_ret
              exact ⟨by rw [HE.out]; rfl, Below.refl _ _⟩
          | false =>
            have f1 : ((M : Int) / 2 ^ t).tmod 2 = 0 := tmod_zero (of_decide_eq_false (hmb.symm.trans hm))
            cases ha : abit L k with
            | true =>
              have f2 : ((N : Int) / 2 ^ t).tmod 2 = 1 := tmod_one (of_decide_eq_true (hab.symm.trans ha))
              have HE := Lib.hid (HBAD.out (by unfold bitOk; rw [if_neg (by rw [hm]; simp), ha]; rfl))
              clear hm ha hmb hab
              go_wp2_with fail
              go_ret
              exact ⟨by rw [HE.out]; rfl, Below.refl _ _⟩
            | false =>
              have f2 : ((N : Int) / 2 ^ t).tmod 2 = 0 := tmod_zero (of_decide_eq_false (hab.symm.trans ha))
              have HO := Lib.hid (show true = !onesTo L (k + 1) by rw [onesTo_succ, hm, Bool.and_false]; rfl)
              have HX := Lib.hid (HNXT.out (by unfold bitOk; rw [if_neg (by rw [hm]; simp), ha]; rfl))
              cases ho : onesTo L k with
              | true =>
                have hz' : Z = false := by rw [hz, ho]; rfl
                subst hz'
                clear hm ha ho hz hmb hab
                go_wp2_with fail
                go_roundw
                case rel => exact ⟨k + 1, _, by omega, rfl, HO.out, by go_num, HX.out, by first | exact trivial | rfl⟩
                case measure => simp [intOf]; omega
              | false =>
                have hz' : Z = true := by rw [hz, ho]; rfl
                subst hz'
                clear hm ha ho hz hmb hab
                go_wp2_with fail
                go_roundw
                case rel => exact ⟨k + 1, _, by omega, rfl, HO.out, by go_num, HX.out, by first | exact trivial | rfl⟩
                case measure => simp [intOf]; omega
        · have ek : k = 8 * h := by omega
          have hd : decide ((k : Int) < 8 * (h : Int)) = false := decide_eq_false (by omega)
          have HE := Lib.hid (range_all HH.out HL.out fun j hj => HA.out j (by omega))
          clear ek
          go_wp2_with fail
          go_ret
          exact ⟨by rw [HE.out]; rfl, Below.refl _ _⟩
  · have HE := Lib.hid (show rangeB L = false by unfold rangeB; rw [decide_eq_false fun h => hl (.inl h), decide_eq_false fun h => hl (.inr h)]; rfl)
    have d1 : ((L.length : Int) != (8 : Int)) = true := by simp; omega
    have d2 : ((L.length : Int) != (32 : Int)) = true := by simp; omega
    clear hl
    go_enter Tryd.func36, Tryd.ntmps36
    go_wp2_with fail
    go_ret
    exact ⟨by rw [HE.out]; rfl, Below.refl _ _⟩
theorem rrange_is {L : List UInt8} {b : Bool} (h : rangeB L = b) (w : World) :
    Calls Tryd.prog 36 #[.string (strOf L)] w fun e w' => e = .returned (.bool b) ∧ Below w.heap.size w w' := by
  have := rrange_any L w
  rwa [h] at this
end Go.Proofs.YtoogfipmdkneoaaDoor
