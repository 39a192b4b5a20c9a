/-
  The contracts of halves, isMask and masked of the program.
  Ranges said by bytes: the mask is well-formed, and the first half keeps what the mask keeps. Nothing is claimed of the program here.
-/
import Derived.Test.YtbpdenfiifcfcaaGreatDoorMaz
import Derived.Test.YtbpdenfiifcfcaaGreatDoorMan
namespace Go.Proofs.YtbpdenfiifcfcaaGreatDoor
open Go.RowKit

theorem mixed_is : Tryz.prog.follows .mixedOrders = true := by kernel_rfl
set_option maxRecDepth 100000 in
theorem phalves_any (L : List UInt8) (h : Nat) (hh : h = 4 ∨ h = 16) (hL : L.length = 2 * h) (w : World) :
    Calls Tryz.prog 145 #[.string (strOf L)] w fun e w' => e = .returned (.tuple #[.string (strOf (L.take h)), .string (strOf (L.drop h))]) ∧ Below w.heap.size w w' := by
  have hmx := mixed_is
  have e1 : (strOf L).extract 0 h = strOf (L.take h) := strOf_of (by rw [ext_list_h, strOf_list, List.drop_zero, Nat.sub_zero])
  have e2 : (strOf L).extract h (2 * h) = strOf (L.drop h) := strOf_of (by rw [ext_list_h, strOf_list, List.take_of_length_le (by rw [List.length_drop]; omega)])
  generalize L.take h = A at *
  generalize L.drop h = B at *
  rcases hh with rfl | rfl
  · have es : (strOf L).size = 8 := hL
    have HE1 := Lib.hid (show (strOf L).extract 0 4 = strOf A from e1)
    have HE2 := Lib.hid (show (strOf L).extract 4 8 = strOf B from e2)
    clear e1 e2
    go_enter Tryz.func145, Tryz.ntmps145
    go_wp2_with fail
    go_region
    go_wp2
    go_ret2
    exact ⟨by rw [← HE1.out, ← HE2.out]; rfl, (Below.refl _ _).drew⟩
  · have es : (strOf L).size = 32 := hL
    have HE1 := Lib.hid (show (strOf L).extract 0 16 = strOf A from e1)
    have HE2 := Lib.hid (show (strOf L).extract 16 32 = strOf B from e2)
    clear e1 e2
    go_enter Tryz.func145, Tryz.ntmps145
    go_wp2_with fail
    go_region
    go_wp2
    go_ret2
    exact ⟨by rw [← HE1.out, ← HE2.out]; rfl, (Below.refl _ _).drew⟩
def mskL (S M : List UInt8) (k : Nat) : List UInt8 := (List.range S.length).map (fun i => if i < k then S.getD i 0 &&& M.getD i 0 else S.getD i 0)
def mskd (S M : List UInt8) : List UInt8 := (List.range S.length).map (fun i => S.getD i 0 &&& M.getD i 0)
theorem mskL_len (S M : List UInt8) (k : Nat) : (mskL S M k).length = S.length := by unfold mskL; rw [List.length_map, List.length_range]
theorem mskL_get (S M : List UInt8) (k : Nat) {i : Nat} (h : i < S.length) : (mskL S M k).getD i 0 = if i < k then S.getD i 0 &&& M.getD i 0 else S.getD i 0 := by
  unfold mskL
  rw [List.getD_eq_getElem?_getD, List.getElem?_map, List.getElem?_range h]
  rfl
theorem list_ext {a b : List UInt8} (h : a.length = b.length) (k : ∀ i, i < a.length → a.getD i 0 = b.getD i 0) : a = b := by
  refine List.ext_getElem h fun i h1 h2 => ?_
  have := k i h1
  rwa [List.getD_eq_getElem?_getD, List.getD_eq_getElem?_getD, List.getElem?_eq_getElem h1, List.getElem?_eq_getElem h2] at this
theorem mskL_zero (S M : List UInt8) : mskL S M 0 = S := list_ext (mskL_len _ _ _) fun i hi => by
  rw [mskL_len] at hi
  rw [mskL_get _ _ _ hi, if_neg (by omega)]
theorem mskL_end (S M : List UInt8) : mskL S M S.length = mskd S M := by
  unfold mskL mskd
  exact List.map_congr_left fun i hi => if_pos (List.mem_range.1 hi)
theorem mskL_step (S M : List UInt8) {k : Nat} (h : k < S.length) : mskL S M (k + 1) = (mskL S M k).set k (S.getD k 0 &&& M.getD k 0) := list_ext (by rw [mskL_len, List.length_set, mskL_len]) fun i hi => by
  rw [mskL_len] at hi
  rw [mskL_get _ _ _ hi]
  by_cases e : k = i
  · subst e
    rw [getD_set_same (by rw [mskL_len]; exact h), if_pos (by omega)]
  · rw [getD_set_other e, mskL_get _ _ _ hi]
    by_cases g : i < k
    · rw [if_pos (by omega), if_pos g]
    · rw [if_neg (by omega), if_neg g]
set_option maxRecDepth 100000 in
set_option maxHeartbeats 2000000 in
theorem pmasked_any (S M : List UInt8) (hS : S.length ≤ 150000) (hM : S.length ≤ M.length) (w : World) :
    Calls Tryz.prog 146 #[.string (strOf S), .string (strOf M)] w fun e w' => e = .returned (.string (strOf (mskd S M))) ∧ Below w.heap.size w w' := by
  have em := strOf_size M
  obtain ⟨cap, W, hcv, hbl, hbe⟩ := conv_made S w
  have HBL0 := Lib.hid hbl
  have HB0 := Lib.hid hbe
  clear hbl hbe
  go_enter Tryz.func146, Tryz.ntmps146
  go_wp2_with fail
  clear hcv
  go_loopw [11] (fun i wr => ∃ k : Nat, k ≤ S.length ∧ i = .int .i64 (k : Int) ∧ BL wr w.heap.size (mskL S M k) ∧ Below w.heap.size w wr) (fun i _ => S.length - (intOf i).toNat)
  case atStart => exact ⟨0, Nat.zero_le _, rfl, by rw [mskL_zero]; exact HBL0.out, HB0.out⟩
  case round =>
    obtain ⟨k, hk, rfl, hbl, hb⟩ := hrel
    have HBL := Lib.hid hbl
    have HB := Lib.hid hb
    have hcv := hbl.text S.length cap (mskL_len _ _ _).symm
    clear hbl hb
    by_cases hlt : k < S.length
    · clear hcv
      have hd : decide ((k : Int) < (S.length : Int)) = true := by simp; omega
      have hlr : k < (mskL S M k).length := by rw [mskL_len]; exact hlt
      have hcell := (HBL.out.2 k hlr).1
      have hfro := (HBL.out.2 k hlr).2
      have hgl := HBL.out.1
      rw [mskL_get _ _ _ hlt, if_neg (by omega)] at hcell
      obtain ⟨x, hx, hxn⟩ := u8at_list (strOf M) k (by rw [em]; omega)
      have hix := run_index_u8 (P := Tryz.prog) Tryz.underlying9 (strOf M) k (by rw [em]; omega) (k : Int) rfl
      rw [hxn] at hix
      rw [strOf_list] at hx
      have hsk : S[k] = S.getD k 0 := by rw [List.getD_eq_getElem?_getD, List.getElem?_eq_getElem hlt]; rfl
      have hmk : M.getD k 0 = x := by rw [List.getD_eq_getElem?_getD, hx]; rfl
      have HE := Lib.hid (show bits BinOp.and .u8 ((S[k].toNat : Nat) : Int) ((x.toNat : Nat) : Int) = (((S.getD k 0 &&& M.getD k 0).toNat : Nat) : Int) by rw [hsk, hmk]; exact and_u8 _ _)
      have HST := Lib.hid (mskL_step S M hlt)
      have hmx := mixed_is
      clear hsk hmk hx hxn
      go_wp2_with fail
      go_region
      go_wp2
      go_roundw
      case rel => exact ⟨k + 1, by omega, by go_num, by rw [HST.out]; exact (HBL.out.putv hlr _ _ HE.out).drew, (HB.out.setCell (by simp) _).drew⟩
      case measure => simp [intOf]; omega
    · have ek : k = S.length := by omega
      subst ek
      have hd : decide ((S.length : Int) < (S.length : Int)) = false := by simp
      rw [mskL_end S M] at hcv
      go_wp2_with fail
      go_ret
      exact ⟨rfl, HB.out⟩

/-! ### Masks -/
def byteOk (c : UInt8) : Bool := decide ((255 ^^^ c.toNat) &&& ((255 ^^^ c.toNat) + 1) % 256 = 0)
def maskOk : Bool → List UInt8 → Bool
  | _, [] => true
  | ones, c :: r => byteOk c && (ones || decide (c = 0)) && maskOk (decide (c = 255)) r
set_option maxRecDepth 100000 in
set_option maxHeartbeats 2000000 in
theorem pmask_any (M : List UInt8) (hM : M.length ≤ 150000) (w : World) :
    Calls Tryz.prog 152 #[.string (strOf M)] w fun e w' => e = .returned (.bool (maskOk true M)) ∧ Below w.heap.size w w' := by
  have em := strOf_size M
  go_enter Tryz.func152, Tryz.ntmps152
  go_wp2_with fail
  go_loopw [3, 8] (fun o i wr => ∃ (k : Nat) (b : Bool), k ≤ M.length ∧ i = .int .i64 (k : Int) ∧ o = .bool b ∧ maskOk true M = maskOk b (M.drop k) ∧ wr = w) (fun _ i _ => M.length - (intOf i).toNat)
  case atStart => exact ⟨0, true, Nat.zero_le _, rfl, rfl, rfl, rfl⟩
  case round =>
    obtain ⟨k, b, hk, rfl, rfl, hmo, rfl⟩ := hrel
    by_cases hlt : k < M.length
    · have hd : decide ((k : Int) < (M.length : Int)) = true := by simp; omega
      obtain ⟨c, hc, hcn⟩ := u8at_list (strOf M) k (by rw [em]; omega)
      have hix := run_index_u8 (P := Tryz.prog) Tryz.underlying9 (strOf M) k (by rw [em]; omega) (k : Int) rfl
      rw [hcn] at hix
      rw [strOf_list] at hc
      rw [drop_cons hc] at hmo
      have HMO := Lib.hid hmo
      clear hmo hc hcn
      have hsg : IntKind.u8.signed = false := rfl
      have hz : bits BinOp.xor .u8 IntKind.u8.max ((c.toNat : Nat) : Int) = ((255 ^^^ c.toNat : Nat) : Int) := u8_xor_nat 255 c.toNat (by decide) c.toNat_lt
      have hzl : 255 ^^^ c.toNat < 256 := Nat.xor_lt_two_pow (n := 8) (by decide) c.toNat_lt
      have hok : byteOk c = decide ((255 ^^^ c.toNat) &&& ((255 ^^^ c.toNat) + 1) % 256 = 0) := rfl
      have h255 : decide (c = 255) = decide (255 ^^^ c.toNat = 0) := by
        rw [decide_eq_decide, ← UInt8.toNat_inj]
        constructor
        · intro k
          rw [k]
          rfl
        · intro k
          have e : c.toNat = 255 ^^^ (255 ^^^ c.toNat) := by rw [← Nat.xor_assoc, Nat.xor_self, Nat.zero_xor]
          rw [k] at e
          exact e
      have h0 : decide (c = 0) = decide (c.toNat = 0) := by rw [decide_eq_decide, ← UInt8.toNat_inj]; rfl
      generalize 255 ^^^ c.toNat = z at *
      obtain ⟨z1, he1⟩ : ∃ z1, (z + 1) % 256 = z1 := ⟨_, rfl⟩
      have hz1 : ((z : Int) + 1) % 256 = (z1 : Int) := by omega
      have hy := u8_and_nat z z1 hzl (by omega)
      rw [he1] at hok
      generalize z &&& z1 = y at *
      clear he1
      have hlz : ((z : Int) == (0 : Int)) = decide (c = 255) := by rw [h255, Bool.eq_iff_iff, beq_iff_eq, decide_eq_true_iff]; omega
      obtain ⟨b2, hb2⟩ : ∃ b2, decide (c = 255) = b2 := ⟨_, rfl⟩
      rw [hb2] at hlz
      by_cases hyz : y = 0
      · have hok2 : byteOk c = true := by rw [hok]; exact decide_eq_true hyz
        have hn : ((y : Int) != 0) = false := by rw [hyz]; rfl
        cases b with
        | true =>
          have HN := Lib.hid (show maskOk true M = maskOk b2 (M.drop (k + 1)) by rw [HMO.out, maskOk, hok2, hb2]; rfl)
          clear hb2 h255 h0 hok hok2 hyz
          go_wp2_with fail
          go_roundw
          case rel => exact ⟨k + 1, b2, by omega, by go_num, rfl, HN.out, by first | exact trivial | rfl⟩
          case measure => simp [intOf]; omega
        | false =>
          by_cases hc0 : c = 0
          · have hc1 : (((c.toNat : Nat) : Int) != 0) = false := by rw [hc0]; rfl
            have HN := Lib.hid (show maskOk true M = maskOk b2 (M.drop (k + 1)) by rw [HMO.out, maskOk, hok2, hb2, decide_eq_true hc0]; rfl)
            clear hb2 h255 h0 hok hok2 hyz hc0
            go_wp2_with fail
            go_roundw
            case rel => exact ⟨k + 1, b2, by omega, by go_num, rfl, HN.out, by first | exact trivial | rfl⟩
            case measure => simp [intOf]; omega
          · have hc1 : (((c.toNat : Nat) : Int) != 0) = true := by
              have : ¬ c.toNat = 0 := fun k => hc0 (UInt8.toNat_inj.1 k)
              simp; omega
            have HN := Lib.hid (show maskOk true M = false by rw [HMO.out, maskOk, decide_eq_false hc0]; simp)
            clear hb2 h255 h0 hok hok2 hyz hc0
            go_wp2_with fail
            go_ret
            exact ⟨by rw [HN.out]; rfl, Below.refl _ _⟩
      · have hok2 : byteOk c = false := by rw [hok]; exact decide_eq_false hyz
        have hn : ((y : Int) != 0) = true := by simp; omega
        have HN := Lib.hid (show maskOk true M = false by rw [HMO.out, maskOk, hok2]; rfl)
        clear hb2 h255 h0 hok hok2 hyz
        go_wp2_with fail
        go_ret
        exact ⟨by rw [HN.out]; rfl, Below.refl _ _⟩
    · have HE := Lib.hid (show maskOk true M = true by rw [hmo, List.drop_eq_nil_of_le (by omega)]; rfl)
      have hd : decide ((k : Int) < (M.length : Int)) = false := by simp; omega
      clear hmo
      go_wp2_with fail
      go_ret
      exact ⟨by rw [HE.out]; rfl, Below.refl _ _⟩
end Go.Proofs.YtbpdenfiifcfcaaGreatDoor
namespace Go.Proofs.YtbpdenfiifcfcaaGreatDoor
open Go.RowKit

def cb (c : UInt8) (j : Nat) : Bool := decide (c.toNat / 2 ^ (7 - j) % 2 = 1)
def lb (M : List UInt8) (i : Nat) : Bool := cb (M.getD (i / 8) 0) (i % 8)
theorem cb_test (c : UInt8) (j : Nat) : cb c j = c.toNat.testBit (7 - j) := by
  unfold cb
  rw [Nat.testBit_eq_decide_div_mod_eq]
theorem and_iff (a m : UInt8) : a &&& m = a ↔ ∀ j, j < 8 → cb m j = false → cb a j = false := by
  constructor
  · intro h j hj hm
    rw [cb_test] at hm ⊢
    rw [← h, UInt8.toNat_and, Nat.testBit_and, hm, Bool.and_false]
  · intro h
    rw [← UInt8.toNat_inj, UInt8.toNat_and]
    refine Nat.eq_of_testBit_eq fun i => ?_
    rw [Nat.testBit_and]
    by_cases hi : i < 8
    · have := h (7 - i) (by omega)
      rw [cb_test, cb_test, show 7 - (7 - i) = i by omega] at this
      cases hm : m.toNat.testBit i with
      | true => rw [Bool.and_true]
      | false => rw [this hm, Bool.false_and]
    · rw [Nat.testBit_lt_two_pow (Nat.lt_of_lt_of_le a.toNat_lt (Nat.pow_le_pow_right (n := 2) (by decide) (show 8 ≤ i by omega))), Bool.false_and]
theorem mskd_iff (S M : List UInt8) : mskd S M = S ↔ ∀ q, q < S.length → S.getD q 0 &&& M.getD q 0 = S.getD q 0 := by
  have hl : (mskd S M).length = S.length := by unfold mskd; rw [List.length_map, List.length_range]
  have hg : ∀ q, q < S.length → (mskd S M).getD q 0 = S.getD q 0 &&& M.getD q 0 := fun q hq => by
    unfold mskd
    rw [List.getD_eq_getElem?_getD, List.getElem?_map, List.getElem?_range hq]
    rfl
  constructor
  · intro h q hq
    rw [← hg q hq, h]
  · intro h
    exact list_ext hl fun q hq => by
      rw [hl] at hq
      rw [hg q hq, h q hq]
theorem mskd_eq (S M T : List UInt8) (ht : T.length = S.length) : mskd S M = T ↔ ∀ q, q < S.length → S.getD q 0 &&& M.getD q 0 = T.getD q 0 := by
  have hl : (mskd S M).length = S.length := by unfold mskd; rw [List.length_map, List.length_range]
  have hg : ∀ q, q < S.length → (mskd S M).getD q 0 = S.getD q 0 &&& M.getD q 0 := fun q hq => by
    unfold mskd
    rw [List.getD_eq_getElem?_getD, List.getElem?_map, List.getElem?_range hq]
    rfl
  constructor
  · intro h q hq
    rw [← hg q hq, h]
  · intro h
    exact list_ext (by rw [hl, ht]) fun q hq => by
      rw [hl] at hq
      rw [hg q hq, h q hq]
theorem ok_tab : ∀ x : Nat, x < 256 → (decide ((255 ^^^ x) &&& ((255 ^^^ x) + 1) % 256 = 0) = (List.range 8).all fun i => !decide (x / 2 ^ (7 - i) % 2 = 1) || (List.range i).all fun j => decide (x / 2 ^ (7 - j) % 2 = 1)) := by decide +kernel
theorem full_tab : ∀ x : Nat, x < 256 → (decide (x = 255) = (List.range 8).all fun j => decide (x / 2 ^ (7 - j) % 2 = 1)) := by decide +kernel
theorem zero_tab : ∀ x : Nat, x < 256 → (decide (x = 0) = (List.range 8).all fun j => !decide (x / 2 ^ (7 - j) % 2 = 1)) := by decide +kernel
theorem byteOk_iff (c : UInt8) : byteOk c = true ↔ ∀ i, i < 8 → cb c i = true → ∀ j, j < i → cb c j = true := by
  unfold byteOk
  rw [ok_tab c.toNat c.toNat_lt, List.all_eq_true]
  constructor
  · intro h i hi hc j hj
    have := h i (List.mem_range.2 hi)
    unfold cb at hc
    rw [hc, Bool.not_true, Bool.false_or, List.all_eq_true] at this
    exact this j (List.mem_range.2 hj)
  · intro h i hi
    have h := h i (List.mem_range.1 hi)
    unfold cb at h
    cases hc : decide (c.toNat / 2 ^ (7 - i) % 2 = 1) with
    | false => rfl
    | true =>
      rw [Bool.not_true, Bool.false_or, List.all_eq_true]
      exact fun j hj => h hc j (List.mem_range.1 hj)
theorem full_iff (c : UInt8) : c = 255 ↔ ∀ j, j < 8 → cb c j = true := by
  have h := full_tab c.toNat c.toNat_lt
  rw [← UInt8.toNat_inj]
  show c.toNat = 255 ↔ _
  rw [← decide_eq_true_iff (p := c.toNat = 255), h, List.all_eq_true]
  exact ⟨fun h j hj => h j (List.mem_range.2 hj), fun h j hj => h j (List.mem_range.1 hj)⟩
theorem zero_iff (c : UInt8) : c = 0 ↔ ∀ j, j < 8 → cb c j = false := by
  have h := zero_tab c.toNat c.toNat_lt
  rw [← UInt8.toNat_inj]
  show c.toNat = 0 ↔ _
  rw [← decide_eq_true_iff (p := c.toNat = 0), h, List.all_eq_true]
  constructor
  · intro h j hj
    have := h j (List.mem_range.2 hj)
    unfold cb
    simpa using this
  · intro h j hj
    have := h j (List.mem_range.1 hj)
    unfold cb at this
    rw [this]; rfl
theorem lb_head (c : UInt8) (r : List UInt8) {i : Nat} (h : i < 8) : lb (c :: r) i = cb c i := by
  unfold lb
  rw [show i / 8 = 0 by omega, show i % 8 = i by omega]
  rfl
theorem lb_tail (c : UInt8) (r : List UInt8) (i : Nat) : lb (c :: r) (8 + i) = lb r i := by
  unfold lb
  rw [show (8 + i) / 8 = i / 8 + 1 by omega, show (8 + i) % 8 = i % 8 by omega]
  rfl
theorem mask_iff : ∀ (M : List UInt8) (ones : Bool), maskOk ones M = true ↔ ∀ i, i < 8 * M.length → lb M i = true → ones = true ∧ ∀ j, j < i → lb M j = true
  | [], _ => ⟨fun _ i hi => absurd hi (by simp), fun _ => rfl⟩
  | c :: r, ones => by
    rw [maskOk, Bool.and_eq_true, Bool.and_eq_true, Bool.or_eq_true, byteOk_iff, mask_iff r, decide_eq_true_iff, decide_eq_true_iff]
    constructor
    · rintro ⟨⟨h1, h2⟩, h3⟩ i hi hb
      by_cases h : i < 8
      · rw [lb_head c r h] at hb
        refine ⟨?_, fun j hj => by rw [lb_head c r (by omega)]; exact h1 i h hb j hj⟩
        rcases h2 with h2 | h2
        · exact h2
        · have := (zero_iff c).1 h2 i h
          rw [hb] at this
          cases this
      · obtain ⟨k, rfl⟩ : ∃ k, i = 8 + k := ⟨i - 8, by omega⟩
        rw [lb_tail] at hb
        rw [List.length_cons] at hi
        obtain ⟨g1, g2⟩ := h3 k (by omega) hb
        refine ⟨?_, fun j hj => ?_⟩
        · rcases h2 with h2 | h2
          · exact h2
          · rw [g1] at h2; exact absurd h2 (by decide)
        · by_cases hj8 : j < 8
          · rw [lb_head c r hj8]
            exact (full_iff c).1 g1 j hj8
          · obtain ⟨m, rfl⟩ : ∃ m, j = 8 + m := ⟨j - 8, by omega⟩
            rw [lb_tail]
            exact g2 m (by omega)
    · intro h
      rw [List.length_cons] at h
      refine ⟨⟨fun i hi hb j hj => ?_, ?_⟩, fun i hi hb => ⟨?_, fun j hj => ?_⟩⟩
      · have := (h i (by omega) (by rw [lb_head c r hi]; exact hb)).2 j hj
        rwa [lb_head c r (by omega)] at this
      · by_cases hz : c = 0
        · exact .inr hz
        · refine .inl ?_
          rw [zero_iff] at hz
          have : ∃ j, j < 8 ∧ cb c j = true := by
            refine Classical.byContradiction fun k => hz fun j hj => ?_
            cases e : cb c j with
            | false => rfl
            | true => exact absurd ⟨j, hj, e⟩ k
          obtain ⟨j, hj, e⟩ := this
          exact (h j (by omega) (by rw [lb_head c r hj]; exact e)).1
      · rw [full_iff]
        intro j hj
        have := (h (8 + i) (by omega) (by rw [lb_tail]; exact hb)).2 j (by omega)
        rwa [lb_head c r hj] at this
      · have := (h (8 + i) (by omega) (by rw [lb_tail]; exact hb)).2 (8 + j) (by omega)
        rwa [lb_tail] at this
theorem drop_getD (L : List UInt8) (h q : Nat) : (L.drop h).getD q 0 = L.getD (h + q) 0 := by
  rw [List.getD_eq_getElem?_getD, List.getD_eq_getElem?_getD, List.getElem?_drop]
theorem take_getD (L : List UInt8) (h q : Nat) (hq : q < h) : (L.take h).getD q 0 = L.getD q 0 := by
  rw [List.getD_eq_getElem?_getD, List.getD_eq_getElem?_getD, List.getElem?_take_of_lt hq]
theorem range_parts (L : List UInt8) (h : Nat) (hh : h = 4 ∨ h = 16) (hL : L.length = 2 * h) : rangeB L = (maskOk true (L.drop h) && decide (mskd (L.take h) (L.drop h) = L.take h)) := by
  have e2 : L.length / 2 = h := by omega
  have em : ∀ i, mbit L i = lb (L.drop h) i := fun i => by
    unfold mbit bitAt lb cb
    rw [drop_getD, e2]
  have ea : ∀ i, i < 8 * h → abit L i = lb (L.take h) i := fun i hi => by
    unfold abit bitAt lb cb
    rw [take_getD _ _ _ (by omega), Nat.zero_add]
  have hd : (L.drop h).length = h := by rw [List.length_drop]; omega
  have ht : (L.take h).length = h := by rw [List.length_take]; omega
  rw [Bool.eq_iff_iff, Bool.and_eq_true, decide_eq_true_iff, mask_iff, mskd_iff, hd, ht]
  unfold rangeB
  rw [e2, Bool.and_eq_true, Bool.or_eq_true, decide_eq_true_iff, decide_eq_true_iff, List.all_eq_true]
  constructor
  · rintro ⟨_, h1⟩
    refine ⟨fun i hi hb => ⟨rfl, fun j hj => ?_⟩, fun q hq => ?_⟩
    · have := h1 i (List.mem_range.2 hi)
      unfold bitOk onesTo at this
      rw [em, if_pos hb, List.all_eq_true] at this
      have := this j (List.mem_range.2 hj)
      rwa [em] at this
    · rw [and_iff]
      intro j hj hm
      have := h1 (8 * q + j) (List.mem_range.2 (by omega))
      unfold bitOk at this
      rw [em, ea _ (by omega)] at this
      unfold lb at this
      rw [show (8 * q + j) / 8 = q by omega, show (8 * q + j) % 8 = j by omega, hm, if_neg (by simp)] at this
      simpa using this
  · rintro ⟨h1, h2⟩
    refine ⟨by omega, fun i hi => ?_⟩
    have hi := List.mem_range.1 hi
    unfold bitOk onesTo
    by_cases hb : mbit L i = true
    · rw [if_pos hb, List.all_eq_true]
      intro j hj
      rw [em] at hb ⊢
      exact (h1 i hi hb).2 j (List.mem_range.1 hj)
    · rw [if_neg hb, ea i hi]
      rw [em] at hb
      have := (and_iff _ _).1 (h2 (i / 8) (by omega)) (i % 8) (by omega) (by unfold lb at hb; simpa using hb)
      unfold lb
      rw [this]; rfl
theorem range_sizes {L : List UInt8} (h : rangeB L = true) : L.length = 8 ∨ L.length = 32 := by
  unfold rangeB at h
  rw [Bool.and_eq_true, Bool.or_eq_true, decide_eq_true_iff, decide_eq_true_iff] at h
  exact h.1
theorem range_no {L : List UInt8} (h1 : L.length ≠ 8) (h2 : L.length ≠ 32) : rangeB L = false := by
  unfold rangeB
  rw [decide_eq_false h1, decide_eq_false h2]
  rfl
theorem within_range {a r : List UInt8} {h : Nat} (hh : h = 4 ∨ h = 16) (hr : r.length = 2 * h) (hrr : rangeB r = true) (ha : a.length = 2 * h) :
    addrWithinB a r = (rangeB a && decide (mskd (r.drop h) (a.drop h) = r.drop h) && decide (mskd (a.take h) (r.drop h) = r.take h)) := by
  have hw : wholeB a r = false := by
    unfold wholeB
    rw [decide_eq_false (show ¬ a.length = r.length / 2 by omega), Bool.and_false]
  have hd : (r.drop h).length = h := by rw [List.length_drop]; omega
  have ht : (a.take h).length = h := by rw [List.length_take]; omega
  have ht2 : (r.take h).length = h := by rw [List.length_take]; omega
  unfold addrWithinB
  rw [hrr, hw, decide_eq_true (show a.length = r.length by omega), show r.length / 2 = h by omega, Bool.true_and, Bool.false_or, Bool.and_true, Bool.and_assoc]
  congr 1
  rw [Bool.eq_iff_iff, Bool.and_eq_true, decide_eq_true_iff, decide_eq_true_iff, mskd_iff, mskd_eq _ _ _ (by rw [ht, ht2]), hd, ht, List.all_eq_true]
  constructor
  · intro k
    refine ⟨fun q hq => ?_, fun q hq => ?_⟩
    · have := k q (List.mem_range.2 hq)
      unfold byteIn at this
      rw [hw, Bool.false_or, Bool.and_eq_true, decide_eq_true_iff, decide_eq_true_iff] at this
      rw [drop_getD, drop_getD, UInt8.and_comm]
      exact this.2
    · have := k q (List.mem_range.2 hq)
      unfold byteIn at this
      rw [Bool.and_eq_true, decide_eq_true_iff] at this
      rw [drop_getD, take_getD _ _ _ hq, take_getD _ _ _ hq]
      exact this.1
  · rintro ⟨k1, k2⟩ q hq
    have hq := List.mem_range.1 hq
    have g1 := k1 q hq
    have g2 := k2 q hq
    rw [drop_getD, drop_getD, UInt8.and_comm] at g1
    rw [drop_getD, take_getD _ _ _ hq, take_getD _ _ _ hq] at g2
    unfold byteIn
    rw [hw, Bool.false_or, Bool.and_eq_true, decide_eq_true_iff, decide_eq_true_iff]
    exact ⟨g2, g1⟩
theorem within_addr {a r : List UInt8} {h : Nat} (hh : h = 4 ∨ h = 16) (hr : r.length = 2 * h) (hrr : rangeB r = true) (ha : a.length = h) :
    addrWithinB a r = decide (mskd a (r.drop h) = r.take h) := by
  have hw : wholeB a r = true := by
    unfold wholeB addrB
    rw [decide_eq_true (show a.length = r.length / 2 by omega), Bool.and_true, Bool.or_eq_true, decide_eq_true_iff, decide_eq_true_iff]
    omega
  have ht2 : (r.take h).length = h := by rw [List.length_take]; omega
  unfold addrWithinB
  rw [hrr, hw, show r.length / 2 = h by omega, Bool.true_and, Bool.true_or, Bool.true_and, Bool.eq_iff_iff, decide_eq_true_iff, mskd_eq _ _ _ (by rw [ha, ht2]), ha, List.all_eq_true]
  constructor
  · intro k q hq
    have := k q (List.mem_range.2 hq)
    unfold byteIn at this
    rw [Bool.and_eq_true, decide_eq_true_iff] at this
    rw [drop_getD, take_getD _ _ _ hq]
    exact this.1
  · intro k q hq
    have hq := List.mem_range.1 hq
    have g := k q hq
    rw [drop_getD, take_getD _ _ _ hq] at g
    unfold byteIn
    rw [hw, Bool.true_or, Bool.and_true, decide_eq_true_iff]
    exact g
theorem within_none {a r : List UInt8} {h : Nat} (hr : r.length = 2 * h) (h1 : a.length ≠ 2 * h) (h2 : a.length ≠ h) : addrWithinB a r = false := by
  unfold addrWithinB wholeB
  rw [decide_eq_false (show ¬ a.length = r.length / 2 by omega), decide_eq_false (show ¬ a.length = r.length by omega), Bool.and_false, Bool.and_false, Bool.or_false, Bool.and_false]
  rfl
theorem within_bad {a r : List UInt8} (h : rangeB r = false) : addrWithinB a r = false := by unfold addrWithinB; rw [h]; rfl
end Go.Proofs.YtbpdenfiifcfcaaGreatDoor
