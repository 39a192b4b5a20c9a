/-
  The contracts of halves, isMask and masked of the program.
-/
import Derived.Test.YtjdfgalcnbnobaaDoorAbe
import Derived.Test.YtjdfgalcnbnobaaDoorAak
namespace Go.Proofs.YtjdfgalcnbnobaaDoor
open Go.RowKit

theorem mixed_is : Tryd.prog.follows .mixedOrders = true := by kernel_rfl
set_option maxRecDepth 100000 in
theorem phalves_any (L : List UInt8) (h : Nat) (hh : h = 4 ∨ h = 16) (hL : L.length = 2 * h) (w : World) :
    Calls Tryd.prog 46 #[.string (strOf L)] w fun e w' => e = .returned (.tuple #[.string (strOf (L.take h)), .string (strOf (L.drop h))]) ∧ Below w.heap.size w w' := by
  have hmx := mixed_is
  have e1 : (strOf L).extract 0 h = strOf (L.take h) := strOf_of (by rw [ext_list_h, strOf_list, List.drop_zero, Nat.sub_zero])
  have e2 : (strOf L).extract h (2 * h) = strOf (L.drop h) := strOf_of (by rw [ext_list_h, strOf_list, List.take_of_length_le (by rw [List.length_drop]; omega)])
  generalize L.take h = A at *
  generalize L.drop h = B at *
  rcases hh with rfl | rfl
  · have es : (strOf L).size = 8 := hL
    have HE1 := Lib.hid (show (strOf L).extract 0 4 = strOf A from e1)
    have HE2 := Lib.hid (show (strOf L).extract 4 8 = strOf B from e2)
    clear e1 e2
    go_enter Tryd.func46, Tryd.ntmps46
    go_wp2_with fail
    go_region
    go_wp2
    go_ret2
    exact ⟨by rw [← HE1.out, ← HE2.out]; rfl, (Below.refl _ _).drew⟩
  · have es : (strOf L).size = 32 := hL
    have HE1 := Lib.hid (show (strOf L).extract 0 16 = strOf A from e1)
    have HE2 := Lib.hid (show (strOf L).extract 16 32 = strOf B from e2)
    clear e1 e2
    go_enter Tryd.func46, Tryd.ntmps46
    go_wp2_with fail
    go_region
    go_wp2
    go_ret2
    exact ⟨by rw [← HE1.out, ← HE2.out]; rfl, (Below.refl _ _).drew⟩
def mskL (S M : List UInt8) (k : Nat) : List UInt8 := (List.range S.length).map (fun i => if i < k then S.getD i 0 &&& M.getD i 0 else S.getD i 0)
def mskd (S M : List UInt8) : List UInt8 := (List.range S.length).map (fun i => S.getD i 0 &&& M.getD i 0)
theorem mskL_len (S M : List UInt8) (k : Nat) : (mskL S M k).length = S.length := by unfold mskL; rw [List.length_map, List.length_range]
theorem mskL_get (S M : List UInt8) (k : Nat) {i : Nat} (h : i < S.length) : (mskL S M k).getD i 0 = if i < k then S.getD i 0 &&& M.getD i 0 else S.getD i 0 := by
  unfold mskL
  rw [List.getD_eq_getElem?_getD, List.getElem?_map, List.getElem?_range h]
  rfl
theorem list_ext {a b : List UInt8} (h : a.length = b.length) (k : ∀ i, i < a.length → a.getD i 0 = b.getD i 0) : a = b := by
  refine List.ext_getElem h fun i h1 h2 => ?_
  have := k i h1
  rwa [List.getD_eq_getElem?_getD, List.getD_eq_getElem?_getD, List.getElem?_eq_getElem h1, List.getElem?_eq_getElem h2] at this
theorem mskL_zero (S M : List UInt8) : mskL S M 0 = S := list_ext (mskL_len _ _ _) fun i hi => by
  rw [mskL_len] at hi
  rw [mskL_get _ _ _ hi, if_neg (by omega)]
theorem mskL_end (S M : List UInt8) : mskL S M S.length = mskd S M := by
  unfold mskL mskd
  exact List.map_congr_left fun i hi => if_pos (List.mem_range.1 hi)
theorem mskL_step (S M : List UInt8) {k : Nat} (h : k < S.length) : mskL S M (k + 1) = (mskL S M k).set k (S.getD k 0 &&& M.getD k 0) := list_ext (by rw [mskL_len, List.length_set, mskL_len]) fun i hi => by
  rw [mskL_len] at hi
  rw [mskL_get _ _ _ hi]
  by_cases e : k = i
  · subst e
    rw [getD_set_same (by rw [mskL_len]; exact h), if_pos (by omega)]
  · rw [getD_set_other e, mskL_get _ _ _ hi]
    by_cases g : i < k
    · rw [if_pos (by omega), if_pos g]
    · rw [if_neg (by omega), if_neg g]
set_option maxRecDepth 100000 in
set_option maxHeartbeats 2000000 in
theorem pmasked_any (S M : List UInt8) (hS : S.length ≤ 100000) (hM : S.length ≤ M.length) (w : World) :
    Calls Tryd.prog 47 #[.string (strOf S), .string (strOf M)] w fun e w' => e = .returned (.string (strOf (mskd S M))) ∧ Below w.heap.size w w' := by
  have em := strOf_size M
  obtain ⟨cap, W, hcv, hbl, hbe⟩ := conv_made S w
  have HBL0 := Lib.hid hbl
  have HB0 := Lib.hid hbe
  clear hbl hbe
  go_enter Tryd.func47, Tryd.ntmps47
  go_wp2_with fail
  clear hcv
  go_loopw [11] (fun i wr => ∃ k : Nat, k ≤ S.length ∧ i = .int .i64 (k : Int) ∧ BL wr w.heap.size (mskL S M k) ∧ Below w.heap.size w wr) (fun i _ => S.length - (intOf i).toNat)
  case atStart => exact ⟨0, Nat.zero_le _, rfl, by rw [mskL_zero]; exact HBL0.out, HB0.out⟩
  case round =>
    obtain ⟨k, hk, rfl, hbl, hb⟩ := hrel
    have HBL := Lib.hid hbl
    have HB := Lib.hid hb
    have hcv := hbl.text S.length cap (mskL_len _ _ _).symm
    clear hbl hb
    by_cases hlt : k < S.length
    · clear hcv
      have hd : decide ((k : Int) < (S.length : Int)) = true := by simp; omega
      have hlr : k < (mskL S M k).length := by rw [mskL_len]; exact hlt
      have hcell := (HBL.out.2 k hlr).1
      have hfro := (HBL.out.2 k hlr).2
      have hgl := HBL.out.1
      rw [mskL_get _ _ _ hlt, if_neg (by omega)] at hcell
      obtain ⟨x, hx, hxn⟩ := u8at_list (strOf M) k (by rw [em]; omega)
      have hix := run_index_u8 (P := Tryd.prog) Tryd.underlying9 (strOf M) k (by rw [em]; omega) (k : Int) rfl
      rw [hxn] at hix
      rw [strOf_list] at hx
      have hsk : S[k] = S.getD k 0 := by rw [List.getD_eq_getElem?_getD, List.getElem?_eq_getElem hlt]; rfl
      have hmk : M.getD k 0 = x := by rw [List.getD_eq_getElem?_getD, hx]; rfl
      have HE := Lib.hid (show bits BinOp.and .u8 ((S[k].toNat : Nat) : Int) ((x.toNat : Nat) : Int) = (((S.getD k 0 &&& M.getD k 0).toNat : Nat) : Int) by rw [hsk, hmk]; exact and_u8 _ _)
      have HST := Lib.hid (mskL_step S M hlt)
      have hmx := mixed_is
      clear hsk hmk hx hxn
      go_wp2_with fail
      go_region
      go_wp2
      go_roundw
      case rel => exact ⟨k + 1, by omega, by go_num, by rw [HST.out]; exact (HBL.out.putv hlr _ _ HE.out).drew, (HB.out.setCell (by simp) _).drew⟩
      case measure => simp [intOf]; omega
    · have ek : k = S.length := by omega
      subst ek
      have hd : decide ((S.length : Int) < (S.length : Int)) = false := by simp
      rw [mskL_end S M] at hcv
      go_wp2_with fail
      go_ret
      exact ⟨rfl, HB.out⟩

/-! ### Masks -/
def byteOk (c : UInt8) : Bool := decide ((255 ^^^ c.toNat) &&& ((255 ^^^ c.toNat) + 1) % 256 = 0)
def maskOk : Bool → List UInt8 → Bool
  | _, [] => true
  | ones, c :: r => byteOk c && (ones || decide (c = 0)) && maskOk (decide (c = 255)) r
set_option maxRecDepth 100000 in
set_option maxHeartbeats 2000000 in
theorem pmask_any (M : List UInt8) (hM : M.length ≤ 100000) (w : World) :
    Calls Tryd.prog 58 #[.string (strOf M)] w fun e w' => e = .returned (.bool (maskOk true M)) ∧ Below w.heap.size w w' := by
  have em := strOf_size M
  go_enter Tryd.func58, Tryd.ntmps58
  go_wp2_with fail
  go_loopw [3, 8] (fun o i wr => ∃ (k : Nat) (b : Bool), k ≤ M.length ∧ i = .int .i64 (k : Int) ∧ o = .bool b ∧ maskOk true M = maskOk b (M.drop k) ∧ wr = w) (fun _ i _ => M.length - (intOf i).toNat)
  case atStart => exact ⟨0, true, Nat.zero_le _, rfl, rfl, rfl, rfl⟩
  case round =>
    obtain ⟨k, b, hk, rfl, rfl, hmo, rfl⟩ := hrel
    by_cases hlt : k < M.length
    · have hd : decide ((k : Int) < (M.length : Int)) = true := by simp; omega
      obtain ⟨c, hc, hcn⟩ := u8at_list (strOf M) k (by rw [em]; omega)
      have hix := run_index_u8 (P := Tryd.prog) Tryd.underlying9 (strOf M) k (by rw [em]; omega) (k : Int) rfl
      rw [hcn] at hix
      rw [strOf_list] at hc
      rw [drop_cons hc] at hmo
      have HMO := Lib.hid hmo
      clear hmo hc hcn
      have hsg : IntKind.u8.signed = false := rfl
      have hz : bits BinOp.xor .u8 IntKind.u8.max ((c.toNat : Nat) : Int) = ((255 ^^^ c.toNat : Nat) : Int) := u8_xor_nat 255 c.toNat (by decide) c.toNat_lt
      have hzl : 255 ^^^ c.toNat < 256 := Nat.xor_lt_two_pow (n := 8) (by decide) c.toNat_lt
      have hok : byteOk c = decide ((255 ^^^ c.toNat) &&& ((255 ^^^ c.toNat) + 1) % 256 = 0) := rfl
      have h255 : decide (c = 255) = decide (255 ^^^ c.toNat = 0) := by
        rw [decide_eq_decide, ← UInt8.toNat_inj]
        constructor
        · intro k
          rw [k]
          rfl
        · intro k
          have e : c.toNat = 255 ^^^ (255 ^^^ c.toNat) := by rw [← Nat.xor_assoc, Nat.xor_self, Nat.zero_xor]
          rw [k] at e
          exact e
      have h0 : decide (c = 0) = decide (c.toNat = 0) := by rw [decide_eq_decide, ← UInt8.toNat_inj]; rfl
      generalize 255 ^^^ c.toNat = z at *
      obtain ⟨z1, he1⟩ : ∃ z1, (z + 1) % 256 = z1 := ⟨_, rfl⟩
      have hz1 : ((z : Int) + 1) % 256 = (z1 : Int) := by omega
      have hy := u8_and_nat z z1 hzl (by omega)
      rw [he1] at hok
      generalize z &&& z1 = y at *
      clear he1
      have hlz : ((z : Int) == (0 : Int)) = decide (c = 255) := by rw [h255, Bool.eq_iff_iff, beq_iff_eq, decide_eq_true_iff]; omega
      obtain ⟨b2, hb2⟩ : ∃ b2, decide (c = 255) = b2 := ⟨_, rfl⟩
      rw [hb2] at hlz
      by_cases hyz : y = 0
      · have hok2 : byteOk c = true := by rw [hok]; exact decide_eq_true hyz
        have hn : ((y : Int) != 0) = false := by rw [hyz]; rfl
        cases b with
        | true =>
          have HN := Lib.hid (show maskOk true M = maskOk b2 (M.drop (k + 1)) by rw [HMO.out, maskOk, hok2, hb2]; rfl)
          clear hb2 h255 h0 hok hok2 hyz
          go_wp2_with fail
          go_roundw
          case rel => exact ⟨k + 1, b2, by omega, by go_num, rfl, HN.out, by first | exact trivial | rfl⟩
          case measure => simp [intOf]; omega
        | false =>
          by_cases hc0 : c = 0
          · have hc1 : (((c.toNat : Nat) : Int) != 0) = false := by rw [hc0]; rfl
            have HN := Lib.hid (show maskOk true M = maskOk b2 (M.drop (k + 1)) by rw [HMO.out, maskOk, hok2, hb2, decide_eq_true hc0]; rfl)
            clear hb2 h255 h0 hok hok2 hyz hc0
            go_wp2_with fail
            go_roundw
            case rel => exact ⟨k + 1, b2, by omega, by go_num, rfl, HN.out, by first | exact trivial | rfl⟩
            case measure => simp [intOf]; omega
          · have hc1 : (((c.toNat : Nat) : Int) != 0) = true := by
              have : ¬ c.toNat = 0 := fun k => hc0 (UInt8.toNat_inj.1 k)
              simp; omega
            have HN := Lib.hid (show maskOk true M = false by rw [HMO.out, maskOk, decide_eq_false hc0]; simp)
            clear hb2 h255 h0 hok hok2 hyz hc0
            go_wp2_with fail
            go_ret
            exact ⟨by rw [HN.out]; rfl, Below.refl _ _⟩
      · have hok2 : byteOk c = false := by rw [hok]; exact decide_eq_false hyz
        have hn : ((y : Int) != 0) = true := by simp; omega
        have HN := Lib.hid (show maskOk true M = false by rw [HMO.out, maskOk, hok2]; rfl)
        clear hb2 h255 h0 hok hok2 hyz
        go_wp2_with fail
        go_ret
        exact ⟨by rw [HN.out]; rfl, Below.refl _ _⟩
    · have HE := Lib.hid (show maskOk true M = true by rw [hmo, List.drop_eq_nil_of_le (by omega)]; rfl)
      have hd : decide ((k : Int) < (M.length : Int)) = false := by simp; omega
      clear hmo
      go_wp2_with fail
      go_ret
      exact ⟨by rw [HE.out]; rfl, Below.refl _ _⟩
end Go.Proofs.YtjdfgalcnbnobaaDoor
