/-
  The walk of the law HashSum: for every slice of strings it returns true, and leaves all that was there as it was.
  The contracts of the reference's numbers as bytes (B4, B1), and of its hash over a literal row of strings.
  The contract of the reference's walk: the further steps of a chain from one position to another one.
  Digits without a program, one byte after the other. Nothing is claimed of the program here.
  The contracts of the reference's check of a key and of its Digits.
-/
import Derived.Test.YtbmphhiafepnoaaDoorAag
import Derived.Test.YtbmphhiafepnoaaDoorAaa
namespace Go.Proofs.YtbmphhiafepnoaaDoor
open Go.RowKit

theorem refsum_any (v : Value) (ss : List ByteArray) (w : World) (hv : Reads_z w v ss) (hn : ss.length < 4611686018427387904) (hm : (cat_z ss).length ≤ 1099511627776) :
    Calls Tryd.prog 28 #[v] w fun e w' => e = .returned (.string (shaStr (cat_z ss))) ∧ Below w.heap.size w w' := by
  obtain ⟨a, cap, rfl, h⟩ := hv
  exact refsum_core a cap ss w h hn hm

set_option maxHeartbeats 400000 in
theorem refshort_any (v : Value) (ss : List ByteArray) (w : World) (hv : Reads_z w v ss) (hn : ss.length < 4611686018427387904) (hm : (cat_z ss).length ≤ 1099511627776) :
    Calls Tryd.prog 27 #[v] w fun e w' => e = .returned (.string (shortStr (cat_z ss))) ∧ Below w.heap.size w w' := by
  have HV := Lib.hid hv
  have HM := Lib.hid hm
  have hsz : (shaStr (cat_z ss)).size = 32 := shaStr_size _
  have hex := short_extract (cat_z ss)
  clear hv hm
  go_enter Tryd.func27, Tryd.ntmps27
  go_wp2_with (go_at_call 28; refine (refsum_any v ss _ HV.out hn HM.out).mono ?_; rintro e w1 ⟨he, hb1⟩; obtain rfl : e = .returned (.string (shaStr (cat_z ss))) := he; have HB1 := Lib.hid hb1; clear hb1)
  go_ret
  exact ⟨rfl, HB1.out⟩

end Go.Proofs.YtbmphhiafepnoaaDoor
namespace Go.Proofs.YtbmphhiafepnoaaDoor
open Go.RowKit

theorem shortStr_size (m : List UInt8) : (shortStr m).size = 16 := by
  show ((sha m).take 16).toArray.size = 16
  rw [List.size_toArray, List.length_take, sha_length]
  rfl
theorem text_four (a b c d : UInt8) (w : World) : (convert 51 9 (.slice (some ⟨w.heap.size, 0, none⟩) 4 4)).run Tryd.prog (w.alloc (.cells #[bcell a, bcell b, bcell c, bcell d] 5)) = .ok (.string (strOf [a, b, c, d])) (w.alloc (.cells #[bcell a, bcell b, bcell c, bcell d] 5)) :=
  own_str (l := [a, b, c, d]) ⟨rfl, .inr ⟨w.heap.size, 4, _, rfl, Nat.le_refl _, heap_alloc_new w _, Nat.le_refl _, by decide, rfl, rfl⟩⟩
theorem text_one (a : UInt8) (w : World) : (convert 51 9 (.slice (some ⟨w.heap.size, 0, none⟩) 1 1)).run Tryd.prog (w.alloc (.cells #[bcell a] 5)) = .ok (.string (strOf [a])) (w.alloc (.cells #[bcell a] 5)) :=
  own_str (l := [a]) ⟨rfl, .inr ⟨w.heap.size, 1, _, rfl, Nat.le_refl _, heap_alloc_new w _, Nat.le_refl _, by decide, rfl, rfl⟩⟩

theorem bcell_of (m : Nat) (z : Int) (h : z = ((m % 256 : Nat) : Int)) : bcell (UInt8.ofNat m) = .int .u8 z := by
  subst h
  rfl

set_option maxRecDepth 100000 in
set_option maxHeartbeats 1000000 in
theorem rb1_any (n : Nat) (hn : n < 256) (w : World) :
    Calls Tryd.prog 43 #[.int .i64 (n : Int)] w fun e w' => e = .returned (.string (strOf (b1 n))) ∧ Below w.heap.size w w' := by
  have h1 := text_one (UInt8.ofNat (n % 256))
  rw [bcell_of (n % 256) (n : Int) (by omega)] at h1
  go_enter Tryd.func43, Tryd.ntmps43
  go_wp2_with fail
  go_ret
  exact ⟨rfl, belowNew _ _⟩
set_option maxRecDepth 100000 in
set_option maxHeartbeats 1000000 in
theorem rb4_any (n : Nat) (hn : n < 4294967296) (w : World) :
    Calls Tryd.prog 29 #[.int .i64 (n : Int)] w fun e w' => e = .returned (.string (strOf (b4 n))) ∧ Below w.heap.size w w' := by
  have h1 := text_four (UInt8.ofNat (n / 16777216 % 256)) (UInt8.ofNat (n / 65536 % 256)) (UInt8.ofNat (n / 256 % 256)) (UInt8.ofNat (n % 256))
  rw [bcell_of (n / 16777216 % 256) ((n : Int) / 16777216) (by omega), bcell_of (n / 65536 % 256) ((n : Int) / 65536 % 256) (by omega), bcell_of (n / 256 % 256) ((n : Int) / 256 % 256) (by omega), bcell_of (n % 256) ((n : Int) % 256) (by omega)] at h1
  go_enter Tryd.func29, Tryd.ntmps29
  go_wp2_with fail
  go_ret
  exact ⟨rfl, belowNew _ _⟩

/-! ### What the hash is handed -/
theorem cat_step (id v : ByteArray) (leaf c p : Nat) : cat_z [⟨#[67]⟩, id, strOf (b4 leaf), strOf (b1 c), strOf (b1 p), v] = 67 :: (id.data.toList ++ b4 leaf ++ b1 c ++ b1 p ++ v.data.toList) := by
  simp [cat_z, strOf_list]
theorem cat_sec (seed : ByteArray) (leaf c : Nat) : cat_z [⟨#[83]⟩, seed, strOf (b4 leaf), strOf (b1 c)] = 83 :: (seed.data.toList ++ b4 leaf ++ b1 c) := by
  simp [cat_z, strOf_list]
theorem cat_key (id ends : ByteArray) (leaf : Nat) : cat_z [⟨#[76]⟩, id, strOf (b4 leaf), ends] = 76 :: (id.data.toList ++ b4 leaf ++ ends.data.toList) := by
  simp [cat_z, strOf_list]
theorem size_listq (b : ByteArray) : b.data.toList.length = b.size := rfl
theorem b4_len (n : Nat) : (b4 n).length = 4 := rfl
theorem b1_len (n : Nat) : (b1 n).length = 1 := rfl
abbrev hQ : List UInt8 → ByteArray := shortStr
def stepS (id : ByteArray) (leaf c p : Nat) (v : ByteArray) : ByteArray := stepQ hQ id.data.toList leaf c p v
def secS (seed : ByteArray) (leaf c : Nat) : ByteArray := secQ hQ seed.data.toList leaf c
theorem stepS_size (id : ByteArray) (leaf c p : Nat) (v : ByteArray) : (stepS id leaf c p v).size = 16 := shortStr_size _
theorem secS_size (seed : ByteArray) (leaf c : Nat) : (secS seed leaf c).size = 16 := shortStr_size _
theorem stepS_eq (id v : ByteArray) (leaf c p : Nat) : shortStr (cat_z [⟨#[67]⟩, id, strOf (b4 leaf), strOf (b1 c), strOf (b1 p), v]) = stepS id leaf c p v := by rw [cat_step]; rfl
theorem secS_eq (seed : ByteArray) (leaf c : Nat) : shortStr (cat_z [⟨#[83]⟩, seed, strOf (b4 leaf), strOf (b1 c)]) = secS seed leaf c := by rw [cat_sec]; rfl
theorem step_room {id v : ByteArray} (hi : id.size ≤ 1000) (hv : v.size ≤ 1000) (leaf c p : Nat) : (cat_z [⟨#[67]⟩, id, strOf (b4 leaf), strOf (b1 c), strOf (b1 p), v]).length ≤ 1099511627776 := by
  rw [cat_step]
  simp only [List.length_cons, List.length_append, b4_len, b1_len, size_listq]
  omega
theorem sec_room {seed : ByteArray} (hi : seed.size ≤ 1000) (leaf c : Nat) : (cat_z [⟨#[83]⟩, seed, strOf (b4 leaf), strOf (b1 c)]).length ≤ 1099511627776 := by
  rw [cat_sec]
  simp only [List.length_cons, List.length_append, b4_len, b1_len, size_listq]
  omega
theorem key_room {id ends : ByteArray} (hi : id.size ≤ 1000) (he : ends.size ≤ 1000) (leaf : Nat) : (cat_z [⟨#[76]⟩, id, strOf (b4 leaf), ends]).length ≤ 1099511627776 := by
  rw [cat_key]
  simp only [List.length_cons, List.length_append, b4_len, size_listq]
  omega

set_option maxRecDepth 100000 in
set_option maxHeartbeats 1000000 in
theorem rsec_any (seed : ByteArray) (leaf c : Nat) (hs : seed.size ≤ 1000) (hl : leaf < 4294967296) (hc : c < 256) (w : World) :
    Calls Tryd.prog 32 #[.string seed, .int .i64 (leaf : Int), .int .i64 (c : Int)] w fun e w' => e = .returned (.string (secS seed leaf c)) ∧ Below w.heap.size w w' := by
  have HS := Lib.hid hs
  have HL := Lib.hid hl
  have HC := Lib.hid hc
  have HE := Lib.hid (secS_eq seed leaf c)
  clear hs hl hc
  go_enter Tryd.func32, Tryd.ntmps32
  go_wp2_with (first | (go_at_call 29; (with_reducible refine (rb4_any leaf HL.out _).mono ?_); rintro e w1 ⟨rfl, hb1⟩; have HB1 := Lib.hid hb1; clear hb1) | (go_at_call 43; (with_reducible refine (rb1_any c HC.out _).mono ?_); rintro e w2 ⟨rfl, hb2⟩; have HB2 := Lib.hid hb2; clear hb2) | (go_at_call 27; refine (refshort_any _ [⟨#[83]⟩, seed, strOf (b4 leaf), strOf (b1 c)] _ (reads_row _ [⟨#[83]⟩, seed, strOf (b4 leaf), strOf (b1 c)] 9) (show (4 : Nat) < 4611686018427387904 by decide) (sec_room HS.out leaf c)).mono ?_; rintro e w3 ⟨he, hb3⟩; rw [HE.out] at he; obtain rfl : e = .returned (.string (secS seed leaf c)) := he; have HB3 := Lib.hid hb3; clear hb3))
  go_ret
  exact ⟨rfl, ((HB1.out.next HB2.out).alloc (HB1.out.next HB2.out).size _).next HB3.out⟩
end Go.Proofs.YtbmphhiafepnoaaDoor
namespace Go.Proofs.YtbmphhiafepnoaaDoor
open Go.RowKit

theorem rstep_any (id v : ByteArray) (leaf c p : Nat) (hi : id.size ≤ 1000) (hv : v.size ≤ 1000) (V : Value) (w : World) (hV : Reads_z w V [⟨#[67]⟩, id, strOf (b4 leaf), strOf (b1 c), strOf (b1 p), v]) :
    Calls Tryd.prog 27 #[V] w fun e w' => e = .returned (.string (stepS id leaf c p v)) ∧ Below w.heap.size w w' := by
  rw [← stepS_eq]
  exact refshort_any V _ w hV (show (6 : Nat) < 4611686018427387904 by decide) (step_room hi hv leaf c p)

set_option maxRecDepth 100000 in
set_option maxHeartbeats 1000000 in
theorem rwalk_any (id v : ByteArray) (leaf c a b : Nat) (hi : id.size ≤ 1000) (hv : v.size ≤ 1000) (hl : leaf < 4294967296) (hc : c < 256) (hab : a ≤ b) (hb : b < 256) (w : World) :
    Calls Tryd.prog 31 #[.string id, .int .i64 (leaf : Int), .int .i64 (c : Int), .int .i64 (a : Int), .int .i64 (b : Int), .string v] w fun e w' => e = .returned (.string (stepsF (stepS id leaf c) a (b - a) v)) ∧ Below w.heap.size w w' := by
  have HI := Lib.hid hi
  have HV := Lib.hid hv
  have HL := Lib.hid hl
  have HC := Lib.hid hc
  have HA := Lib.hid hab
  have HBB := Lib.hid hb
  clear hi hv hl hc
  go_enter Tryd.func31, Tryd.ntmps31
  go_wp2_with fail
  go_loopw [5, 13] (fun t i wr => ∃ (k : Nat) (u : ByteArray), a + k ≤ b ∧ i = .int .i64 ((a + k : Nat) : Int) ∧ t = .string u ∧ u = stepsF (stepS id leaf c) a k v ∧ u.size ≤ 1000 ∧ Below w.heap.size w wr) (fun _ i _ => b - (intOf i).toNat)
  case atStart => exact ⟨0, v, HA.out, rfl, rfl, rfl, HV.out, Below.refl _ _⟩
  case round =>
    obtain ⟨k, u, hk, rfl, rfl, hu, hus, hbw⟩ := hrel
    have HU := Lib.hid hu
    have HUS := Lib.hid hus
    have HW := Lib.hid hbw
    clear hu hus hbw
    obtain ⟨p, hp⟩ : ∃ p, p = a + k := ⟨_, rfl⟩
    rw [← hp] at hk ⊢
    have HP := Lib.hid hp
    clear hp
    by_cases hlt : p < b
    · have hd : decide ((p : Int) < (b : Int)) = true := by simp; omega
      have hp256 : p < 256 := by omega
      have HPL := Lib.hid hp256
      obtain ⟨u2, hu2⟩ : ∃ u2, u2 = stepS id leaf c p u := ⟨_, rfl⟩
      have HU2 := Lib.hid hu2
      have HST : ∀ (V : Value) (W : World), Reads_z W V [⟨#[67]⟩, id, strOf (b4 leaf), strOf (b1 c), strOf (b1 p), u] → Calls Tryd.prog 27 #[V] W fun e w' => e = .returned (.string u2) ∧ Below W.heap.size W w' := fun V W h => by rw [hu2]; exact rstep_any id u leaf c p HI.out HUS.out V W h
      have HST := Lib.hid HST
      clear hu2
      go_wp2_with (first | (go_at_call 29; (with_reducible refine (rb4_any leaf HL.out _).mono ?_); rintro e w1 ⟨rfl, hb1⟩; have HB1 := Lib.hid (HW.out.next hb1); clear hb1) | (go_at_call 43; (with_reducible refine (rb1_any c HC.out _).mono ?_); rintro e w2 ⟨rfl, hb2⟩; have HB2 := Lib.hid (HB1.out.next hb2); clear hb2) | (go_at_call 43; (with_reducible refine (rb1_any p HPL.out _).mono ?_); rintro e w3 ⟨rfl, hb3⟩; have HB3 := Lib.hid (HB2.out.next hb3); clear hb3) | (go_at_call 27; refine (HST.out _ _ (reads_row _ [⟨#[67]⟩, id, strOf (b4 leaf), strOf (b1 c), strOf (b1 p), u] 9)).mono ?_; rintro e w4 ⟨rfl, hb4⟩; have HB4 := Lib.hid ((HB3.out.alloc HB3.out.size _).next hb4); clear hb4))
      go_roundw
      case rel =>
        refine ⟨k + 1, u2, by have := HP.out; omega, by have := HP.out; subst this; go_num, rfl, ?_, by rw [HU2.out, stepS_size]; omega, HB4.out⟩
        rw [steps_last, ← HU.out, ← HP.out]
        exact HU2.out
      case measure => simp [intOf]; omega
    · have hpb : p = b := by omega
      have hd : decide ((p : Int) < (b : Int)) = false := by simp; omega
      go_wp2_with fail
      go_ret
      have e : u = stepsF (stepS id leaf c) a (b - a) v := by rw [show b - a = k by have := HP.out; omega]; exact HU.out
      rw [← e]
      exact ⟨rfl, HW.out⟩
end Go.Proofs.YtbmphhiafepnoaaDoor
namespace Go.Proofs.YtbmphhiafepnoaaDoor
open Go.RowKit

theorem halves_app : ∀ (l m : List UInt8), halves (l ++ m) = halves l ++ halves m
  | [], _ => rfl
  | b :: r, m => by
    show b.toNat / 16 :: b.toNat % 16 :: halves (r ++ m) = b.toNat / 16 :: b.toNat % 16 :: (halves r ++ halves m)
    rw [halves_app r m]
theorem lack_app : ∀ (l m : List Nat), lack (l ++ m) = lack l + lack m
  | [], m => by rw [List.nil_append]; exact (Nat.zero_add _).symm
  | d :: r, m => by
    show (15 - d) + lack (r ++ m) = (15 - d) + lack r + lack m
    rw [lack_app r m, Nat.add_assoc]
theorem halves_snoc (l : List UInt8) (b : UInt8) : halves (l ++ [b]) = halves l ++ [b.toNat / 16, b.toNat % 16] := halves_app l [b]
theorem lack_snoc (l : List UInt8) (b : UInt8) : lack (halves (l ++ [b])) = lack (halves l) + (30 - b.toNat / 16 - b.toNat % 16) := by
  have hb := b.toNat_lt
  rw [halves_snoc, lack_app]
  show lack (halves l) + ((15 - b.toNat / 16) + ((15 - b.toNat % 16) + 0)) = _
  omega
theorem lack_half_le (l : List UInt8) : lack (halves l) ≤ 30 * l.length := by
  have := lack_le (halves l)
  rw [halves_len] at this
  omega
/-- A row of numbers that is read off digit by digit. -/
theorem digs_getD_le (l : List UInt8) (hl : l.length ≤ 16) (c : Nat) : (digs l).getD c 0 ≤ 15 := by
  by_cases h : c < (digs l).length
  · rw [List.getD_eq_getElem?_getD, List.getElem?_eq_getElem h]
    exact digs_le l hl _ (List.getElem_mem h)
  · rw [List.getD_eq_getElem?_getD, List.getElem?_eq_none (by omega)]
    exact Nat.zero_le _
theorem digs_zero : digs (List.replicate 16 0) = List.replicate 32 0 ++ [1, 14, 0] := by decide
end Go.Proofs.YtbmphhiafepnoaaDoor
namespace Go.Proofs.YtbmphhiafepnoaaDoor
open Go.RowKit

/-- The first error of an id, a seed and a leaf (18: no key, 1: out of range). -/
def chkQ (id seed : ByteArray) (leaf : Int) : Nat := if id.size = 16 ∧ seed.size = 32 then (if 0 ≤ leaf ∧ leaf < 256 then 0 else 1) else 18
theorem chkQ_zero {id seed : ByteArray} {leaf : Int} (h : chkQ id seed leaf = 0) : id.size = 16 ∧ seed.size = 32 ∧ ∃ n : Nat, leaf = (n : Int) ∧ n < 256 := by
  unfold chkQ at h
  split at h
  · rename_i h1
    split at h
    · rename_i h2
      exact ⟨h1.1, h1.2, leaf.toNat, by omega, by omega⟩
    · cases h
  · cases h

set_option maxRecDepth 100000 in
set_option maxHeartbeats 1000000 in
theorem rchkq_any (id seed : ByteArray) (leaf : Int) (w : World) :
    Calls Tryd.prog 30 #[.string id, .string seed, .int .i64 leaf] w fun e w' => e = .returned (.int .i64 ((chkQ id seed leaf : Nat) : Int)) ∧ Below w.heap.size w w' := by
  obtain ⟨n, hn⟩ : ∃ n, n = id.size := ⟨_, rfl⟩
  obtain ⟨m, hm⟩ : ∃ m, m = seed.size := ⟨_, rfl⟩
  have HN := Lib.hid hn
  have HM := Lib.hid hm
  have hni : (id.size : Int) = (n : Int) := by rw [hn]
  have hmi : (seed.size : Int) = (m : Int) := by rw [hm]
  have HQ := Lib.hid (show chkQ id seed leaf = if n = 16 ∧ m = 32 then (if 0 ≤ leaf ∧ leaf < 256 then 0 else 1) else 18 by unfold chkQ; rw [hn, hm])
  clear hn hm
  rcases Nat.decEq n 16 with h1 | h1
  · have d1 : ((n : Int) == 16) = false := by simp; omega
    have HR := Lib.hid (show chkQ id seed leaf = 18 by rw [HQ.out, if_neg (fun h => h1 h.1)])
    clear HQ
    go_enter Tryd.func30, Tryd.ntmps30
    go_wp2_with fail
    go_ret
    rw [HR.out]
    exact ⟨rfl, Below.refl _ _⟩
  · subst h1
    rcases Nat.decEq m 32 with h2 | h2
    · have d2 : ((m : Int) == 32) = false := by simp; omega
      have HR := Lib.hid (show chkQ id seed leaf = 18 by rw [HQ.out, if_neg (fun h => h2 h.2)])
      clear HQ
      go_enter Tryd.func30, Tryd.ntmps30
      go_wp2_with fail
      go_ret
      rw [HR.out]
      exact ⟨rfl, Below.refl _ _⟩
    · subst h2
      by_cases h3 : leaf < 0
      · have d3 : decide (leaf < 0) = true := by simp; omega
        have HR := Lib.hid (show chkQ id seed leaf = 1 by rw [HQ.out, if_pos ⟨rfl, rfl⟩, if_neg (by omega)])
        clear HQ
        go_enter Tryd.func30, Tryd.ntmps30
        go_wp2_with fail
        go_ret
        rw [HR.out]
        exact ⟨rfl, Below.refl _ _⟩
      · have d3 : decide (leaf < 0) = false := by simp; omega
        by_cases h4 : 256 ≤ leaf
        · have d4 : decide (256 ≤ leaf) = true := by simp; omega
          have HR := Lib.hid (show chkQ id seed leaf = 1 by rw [HQ.out, if_pos ⟨rfl, rfl⟩, if_neg (by omega)])
          clear HQ
          go_enter Tryd.func30, Tryd.ntmps30
          go_wp2_with fail
          go_ret
          rw [HR.out]
          exact ⟨rfl, Below.refl _ _⟩
        · have d4 : decide (256 ≤ leaf) = false := by simp; omega
          have HR := Lib.hid (show chkQ id seed leaf = 0 by rw [HQ.out, if_pos ⟨rfl, rfl⟩, if_pos (by omega)])
          clear HQ
          go_enter Tryd.func30, Tryd.ntmps30
          go_wp2_with fail
          go_ret
          rw [HR.out]
          exact ⟨rfl, Below.refl _ _⟩
end Go.Proofs.YtbmphhiafepnoaaDoor
