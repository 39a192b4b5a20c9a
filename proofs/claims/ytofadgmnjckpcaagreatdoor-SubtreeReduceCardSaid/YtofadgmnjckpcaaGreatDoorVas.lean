/-
  The contracts of the program's functions that say of one byte whether it may stand in a label or in a local part, and of consists: whether each byte of a text is in a set.
  The contract of isLabel of the program: whether a text is a label of a DNS name.
  The contract of strings.SplitSeq at a point: the function that it hands back gives the pieces of the text, one after the other, to whatever function it is handed, until that one says no.
-/
import Derived.Test.YtofadgmnjckpcaaGreatDoorVac
import Derived.Test.YtofadgmnjckpcaaGreatDoorVaj
import Derived.Test.YtofadgmnjckpcaaGreatDoorVap
import Derived.RangeFuncOwn
import Derived.RangeFuncLeaves
import Derived.RangeFuncCalls
import Derived.Shelf.Abstract
import Derived.Shelf.RegionOpen
import Derived.OwnWalkIn
import Derived.TacticsInMore
import Derived.LoopNIn
import Derived.LoopIn
namespace Go.Proofs.YtofadgmnjckpcaaGreatDoor
open Go.RowKit

theorem pidx_any (s : ByteArray) (c : UInt8) (w : World) : Calls Tryz.prog 141 #[.string s, .int .u8 ((c.toNat : Nat) : Int)] w fun e w' => e = .returned (.int .i64 (Lib.indexByte s.data.toList c)) ∧ w' = w := by
  have h := Any.strings_IndexByte lays137 s ((c.toNat : Nat) : Int) w
  have e : ((c.toNat : Nat) : Int).toNat.toUInt8 = c := by simp
  rw [e] at h
  exact h
set_option maxHeartbeats 1000000 in
theorem palnum_any (n : Nat) (w : World) :
    Calls Tryz.prog 140 #[.int .u8 (n : Int)] w fun e w' => e = .returned (.bool (alnum n)) ∧ w' = w := by
  rcases (by omega : (n < 48) ∨ (48 ≤ n ∧ n ≤ 57) ∨ (58 ≤ n ∧ n ≤ 64) ∨ (65 ≤ n ∧ n ≤ 90) ∨ (91 ≤ n ∧ n ≤ 96) ∨ (97 ≤ n ∧ n ≤ 122) ∨ (123 ≤ n)) with h | h | h | h | h | h | h
  · have hr : alnum n = false := by simp [alnum]; omega
    have d0 : decide ((65 : Int) ≤ (n : Int)) = false := by simp; omega
    have d1 : decide ((n : Int) ≤ 90) = true := by simp; omega
    have d2 : decide ((97 : Int) ≤ (n : Int)) = false := by simp; omega
    have d3 : decide ((n : Int) ≤ 122) = true := by simp; omega
    have d4 : decide ((48 : Int) ≤ (n : Int)) = false := by simp; omega
    have d5 : decide ((n : Int) ≤ 57) = true := by simp; omega
    have HR := Lib.hid hr
    clear hr h
    go_enter Tryz.func140, Tryz.ntmps140
    go_wp2_with fail
    go_ret
    exact ⟨by rw [HR.out]; rfl, rfl⟩
  · have hr : alnum n = true := by simp [alnum]; omega
    have d0 : decide ((65 : Int) ≤ (n : Int)) = false := by simp; omega
    have d1 : decide ((n : Int) ≤ 90) = true := by simp; omega
    have d2 : decide ((97 : Int) ≤ (n : Int)) = false := by simp; omega
    have d3 : decide ((n : Int) ≤ 122) = true := by simp; omega
    have d4 : decide ((48 : Int) ≤ (n : Int)) = true := by simp; omega
    have d5 : decide ((n : Int) ≤ 57) = true := by simp; omega
    have HR := Lib.hid hr
    clear hr h
    go_enter Tryz.func140, Tryz.ntmps140
    go_wp2_with fail
    go_ret
    exact ⟨by rw [HR.out]; rfl, rfl⟩
  · have hr : alnum n = false := by simp [alnum]; omega
    have d0 : decide ((65 : Int) ≤ (n : Int)) = false := by simp; omega
    have d1 : decide ((n : Int) ≤ 90) = true := by simp; omega
    have d2 : decide ((97 : Int) ≤ (n : Int)) = false := by simp; omega
    have d3 : decide ((n : Int) ≤ 122) = true := by simp; omega
    have d4 : decide ((48 : Int) ≤ (n : Int)) = true := by simp; omega
    have d5 : decide ((n : Int) ≤ 57) = false := by simp; omega
    have HR := Lib.hid hr
    clear hr h
    go_enter Tryz.func140, Tryz.ntmps140
    go_wp2_with fail
    go_ret
    exact ⟨by rw [HR.out]; rfl, rfl⟩
  · have hr : alnum n = true := by simp [alnum]; omega
    have d0 : decide ((65 : Int) ≤ (n : Int)) = true := by simp; omega
    have d1 : decide ((n : Int) ≤ 90) = true := by simp; omega
    have d2 : decide ((97 : Int) ≤ (n : Int)) = false := by simp; omega
    have d3 : decide ((n : Int) ≤ 122) = true := by simp; omega
    have d4 : decide ((48 : Int) ≤ (n : Int)) = true := by simp; omega
    have d5 : decide ((n : Int) ≤ 57) = false := by simp; omega
    have HR := Lib.hid hr
    clear hr h
    go_enter Tryz.func140, Tryz.ntmps140
    go_wp2_with fail
    go_ret
    exact ⟨by rw [HR.out]; rfl, rfl⟩
  · have hr : alnum n = false := by simp [alnum]; omega
    have d0 : decide ((65 : Int) ≤ (n : Int)) = true := by simp; omega
    have d1 : decide ((n : Int) ≤ 90) = false := by simp; omega
    have d2 : decide ((97 : Int) ≤ (n : Int)) = false := by simp; omega
    have d3 : decide ((n : Int) ≤ 122) = true := by simp; omega
    have d4 : decide ((48 : Int) ≤ (n : Int)) = true := by simp; omega
    have d5 : decide ((n : Int) ≤ 57) = false := by simp; omega
    have HR := Lib.hid hr
    clear hr h
    go_enter Tryz.func140, Tryz.ntmps140
    go_wp2_with fail
    go_ret
    exact ⟨by rw [HR.out]; rfl, rfl⟩
  · have hr : alnum n = true := by simp [alnum]; omega
    have d0 : decide ((65 : Int) ≤ (n : Int)) = true := by simp; omega
    have d1 : decide ((n : Int) ≤ 90) = false := by simp; omega
    have d2 : decide ((97 : Int) ≤ (n : Int)) = true := by simp; omega
    have d3 : decide ((n : Int) ≤ 122) = true := by simp; omega
    have d4 : decide ((48 : Int) ≤ (n : Int)) = true := by simp; omega
    have d5 : decide ((n : Int) ≤ 57) = false := by simp; omega
    have HR := Lib.hid hr
    clear hr h
    go_enter Tryz.func140, Tryz.ntmps140
    go_wp2_with fail
    go_ret
    exact ⟨by rw [HR.out]; rfl, rfl⟩
  · have hr : alnum n = false := by simp [alnum]; omega
    have d0 : decide ((65 : Int) ≤ (n : Int)) = true := by simp; omega
    have d1 : decide ((n : Int) ≤ 90) = false := by simp; omega
    have d2 : decide ((97 : Int) ≤ (n : Int)) = true := by simp; omega
    have d3 : decide ((n : Int) ≤ 122) = false := by simp; omega
    have d4 : decide ((48 : Int) ≤ (n : Int)) = true := by simp; omega
    have d5 : decide ((n : Int) ≤ 57) = false := by simp; omega
    have HR := Lib.hid hr
    clear hr h
    go_enter Tryz.func140, Tryz.ntmps140
    go_wp2_with fail
    go_ret
    exact ⟨by rw [HR.out]; rfl, rfl⟩


theorem palnum_is {c : UInt8} {b : Bool} (h : alnum c.toNat = b) (w : World) : Calls Tryz.prog 140 #[.int .u8 ((c.toNat : Nat) : Int)] w fun e w' => e = .returned (.bool b) ∧ w' = w := by
  have := palnum_any c.toNat w
  rwa [h] at this
set_option maxHeartbeats 1000000 in
theorem plb_any (c : UInt8) (w : World) : Calls Tryz.prog 143 #[.int .u8 ((c.toNat : Nat) : Int)] w fun e w' => e = .returned (.bool (lblB c)) ∧ w' = w := by
  cases ha : alnum c.toNat with
  | true =>
    have HR := Lib.hid (show lblB c = true by unfold lblB; rw [ha]; rfl)
    have HA := Lib.hid (fun w => palnum_is ha w)
    clear ha
    go_enter Tryz.func143, Tryz.ntmps143
    go_wp2_with (go_at_call 140; (with_reducible refine (HA.out _).mono ?_); rintro e w1 ⟨rfl, rfl⟩)
    go_ret
    exact ⟨by rw [HR.out]; rfl, rfl⟩
  | false =>
    have HA := Lib.hid (fun w => palnum_is ha w)
    by_cases h : c = 45
    · have d : (((c.toNat : Nat) : Int) == (45 : Int)) = true := by rw [h]; rfl
      have HR := Lib.hid (show lblB c = true by unfold lblB; rw [h]; rfl)
      clear ha h
      go_enter Tryz.func143, Tryz.ntmps143
      go_wp2_with (go_at_call 140; (with_reducible refine (HA.out _).mono ?_); rintro e w1 ⟨rfl, rfl⟩)
      go_ret
      exact ⟨by rw [HR.out]; rfl, rfl⟩
    · have d : (((c.toNat : Nat) : Int) == (45 : Int)) = false := by
        have : ¬ c.toNat = 45 := fun k => h (UInt8.toNat_inj.1 k)
        simp; omega
      have HR := Lib.hid (show lblB c = false by unfold lblB; rw [ha, beq_eq_false_iff_ne.2 h]; rfl)
      clear ha h
      go_enter Tryz.func143, Tryz.ntmps143
      go_wp2_with (go_at_call 140; (with_reducible refine (HA.out _).mono ?_); rintro e w1 ⟨rfl, rfl⟩)
      go_ret
      exact ⟨by rw [HR.out]; rfl, rfl⟩

def locB (c : UInt8) : Bool := alnum c.toNat || signsL.contains c
theorem pidx_signs (c : UInt8) (w : World) : Calls Tryz.prog 141 #[.string ⟨#[33, 35, 36, 37, 38, 39, 42, 43, 45, 47, 61, 63, 94, 95, 96, 123, 124, 125, 126, 46]⟩, .int .u8 ((c.toNat : Nat) : Int)] w fun e w' => e = .returned (.int .i64 (Lib.indexByte signsL c)) ∧ w' = w :=
  pidx_any ⟨#[33, 35, 36, 37, 38, 39, 42, 43, 45, 47, 61, 63, 94, 95, 96, 123, 124, 125, 126, 46]⟩ c w
set_option maxHeartbeats 1000000 in
theorem pxb_any (c : UInt8) (w : World) : Calls Tryz.prog 127 #[.int .u8 ((c.toNat : Nat) : Int)] w fun e w' => e = .returned (.bool (locB c)) ∧ w' = w := by
  cases ha : alnum c.toNat with
  | true =>
    have HR := Lib.hid (show locB c = true by unfold locB; rw [ha]; rfl)
    have HA := Lib.hid (fun w => palnum_is ha w)
    clear ha
    go_enter Tryz.func127, Tryz.ntmps127
    go_wp2_with (go_at_call 140; (with_reducible refine (HA.out _).mono ?_); rintro e w1 ⟨rfl, rfl⟩)
    go_ret
    exact ⟨by rw [HR.out]; rfl, rfl⟩
  | false =>
    have HA := Lib.hid (fun w => palnum_is ha w)
    have HX := Lib.hid (fun w => pidx_signs c w)
    have HR := Lib.hid (show locB c = decide (0 ≤ Lib.indexByte signsL c) by unfold locB; rw [ha, idx_has]; rfl)
    generalize Lib.indexByte signsL c = z at HX HR
    clear ha
    cases hz : decide ((0 : Int) ≤ z)
    · rw [hz] at HR
      go_enter Tryz.func127, Tryz.ntmps127
      go_wp2_with (first
        | (go_at_call 140; (with_reducible refine (HA.out _).mono ?_); rintro e w1 ⟨rfl, rfl⟩)
        | (go_at_call 141; (with_reducible refine (HX.out _).mono ?_); rintro e w1 ⟨rfl, rfl⟩))
      go_ret
      exact ⟨by rw [HR.out]; rfl, rfl⟩
    · rw [hz] at HR
      go_enter Tryz.func127, Tryz.ntmps127
      go_wp2_with (first
        | (go_at_call 140; (with_reducible refine (HA.out _).mono ?_); rintro e w1 ⟨rfl, rfl⟩)
        | (go_at_call 141; (with_reducible refine (HX.out _).mono ?_); rintro e w1 ⟨rfl, rfl⟩))
      go_ret
      exact ⟨by rw [HR.out]; rfl, rfl⟩

/-- The function numbered g says of each byte whether p holds. -/
def PaysB (g : Nat) (p : UInt8 → Bool) : Prop := ∀ (c : UInt8) w, Calls Tryz.prog g #[.int .u8 ((c.toNat : Nat) : Int)] w fun e w' => e = .returned (.bool (p c)) ∧ w' = w
set_option maxRecDepth 100000 in
set_option maxHeartbeats 2000000 in
theorem pcons_any (g : Nat) (eg : ∀ args w, (callFunc g args).run Tryz.prog w = .ok (.enter g args) w) (p : UInt8 → Bool) (hp : PaysB g p) (L : List UInt8) (hL : L.length ≤ 100000) (w : World) :
    Calls Tryz.prog 126 #[.string (strOf L), .func (.func g) #[] #[]] w fun e w' => e = .returned (.bool (L.all p)) ∧ w' = w := by
  have es := strOf_size L
  have HP := Lib.hid hp
  clear hp
  go_enter Tryz.func126, Tryz.ntmps126
  go_wp2_with fail
  go_loopw [8] (fun i wr => ∃ m : Nat, m ≤ L.length ∧ i = .int .i64 (m : Int) ∧ L.all p = (L.drop m).all p ∧ wr = w) (fun i _ => L.length - (intOf i).toNat)
  case atStart => exact ⟨0, Nat.zero_le _, rfl, rfl, rfl⟩
  case round =>
    obtain ⟨m, hm, rfl, hal, rfl⟩ := hrel
    by_cases hmt : m < L.length
    · have hd : decide ((m : Int) < (L.length : Int)) = true := by simp; omega
      obtain ⟨c, hc, hcn⟩ := u8at_list (strOf L) m (by rw [es]; exact hmt)
      have hix := run_index_u8 (P := Tryz.prog) Tryz.underlying9 (strOf L) m (by rw [es]; exact hmt) (m : Int) rfl
      rw [hcn] at hix
      rw [strOf_list] at hc
      rw [drop_cons hc, List.all_cons] at hal
      have HAL := Lib.hid hal
      have HC := Lib.hid (HP.out c wr)
      clear hc hcn hal
      cases ha : p c with
      | true =>
        rw [ha] at HAL HC
        have HN2 := Lib.hid (show L.all p = (L.drop (m + 1)).all p by rw [HAL.out, Bool.true_and])
        clear ha
        go_wp2_with (go_at_fn g; refine HC.out.mono ?_; rintro e W' ⟨rfl, rfl⟩)
        go_roundw
        case rel => exact ⟨m + 1, by omega, by go_num, HN2.out, by first | exact trivial | rfl⟩
        case measure => simp [intOf]; omega
      | false =>
        rw [ha] at HAL HC
        have HF := Lib.hid (show L.all p = false by rw [HAL.out, Bool.false_and])
        clear ha
        go_wp2_with (go_at_fn g; refine HC.out.mono ?_; rintro e W' ⟨rfl, rfl⟩)
        go_ret
        exact ⟨by rw [HF.out]; rfl, rfl⟩
    · have hd : decide ((m : Int) < (L.length : Int)) = false := by simp; omega
      have HF := Lib.hid (show L.all p = true by rw [hal, List.drop_eq_nil_of_le (by omega)]; rfl)
      clear hal
      go_wp2_with fail
      go_ret
      exact ⟨by rw [HF.out]; rfl, rfl⟩
theorem pcons_lb (L : List UInt8) (hL : L.length ≤ 100000) (w : World) : Calls Tryz.prog 126 #[.string (strOf L), .func (.func 143) #[] #[]] w fun e w' => e = .returned (.bool (L.all lblB)) ∧ w' = w :=
  pcons_any _ (enters_of Tryz.func143 (by kernel_rfl) rfl) lblB plb_any L hL w
theorem pcons_xb (L : List UInt8) (hL : L.length ≤ 100000) (w : World) : Calls Tryz.prog 126 #[.string (strOf L), .func (.func 127) #[] #[]] w fun e w' => e = .returned (.bool (L.all locB)) ∧ w' = w :=
  pcons_any _ (enters_of Tryz.func127 (by kernel_rfl) rfl) locB pxb_any L hL w
end Go.Proofs.YtofadgmnjckpcaaGreatDoor
namespace Go.Proofs.YtofadgmnjckpcaaGreatDoor
open Go.RowKit

set_option maxRecDepth 100000 in
set_option maxHeartbeats 2000000 in
theorem plabel_any (p : List UInt8) (hL : p.length ≤ 100000) (w : World) :
    Calls Tryz.prog 129 #[.string (strOf p)] w fun e w' => e = .returned (.bool (lbl p)) ∧ w' = w := by
  have es := strOf_size p
  by_cases h1 : p.length < 1
  · have HF2 := Lib.hid (show lbl p = false by rw [List.eq_nil_of_length_eq_zero (show p.length = 0 by omega)]; exact lbl_nil)
    have dl : decide ((0 : Int) ≤ (p.length : Int) - 1) = false := decide_eq_false (by omega)
    go_enter Tryz.func129, Tryz.ntmps129
    go_wp2_with fail
    go_ret
    exact ⟨by rw [HF2.out]; rfl, rfl⟩
  · have dl : decide ((0 : Int) ≤ (p.length : Int) - 1) = true := decide_eq_true (by omega)
    by_cases h2 : 63 < p.length
    · have HF2 := Lib.hid (lbl_long h2)
      have dm : decide ((p.length : Int) - 1 < (63 : Int)) = false := decide_eq_false (by omega)
      go_enter Tryz.func129, Tryz.ntmps129
      go_wp2_with fail
      go_ret
      exact ⟨by rw [HF2.out]; rfl, rfl⟩
    · have dm : decide ((p.length : Int) - 1 < (63 : Int)) = true := decide_eq_true (by omega)
      obtain ⟨x, hx, hxn⟩ := u8at_list (strOf p) 0 (by rw [es]; omega)
      have hix := run_index_u8 (P := Tryz.prog) Tryz.underlying9 (strOf p) 0 (by rw [es]; omega) 0 rfl
      rw [hxn] at hix
      obtain ⟨y, hy, hyn⟩ := u8at_list (strOf p) (p.length - 1) (by rw [es]; omega)
      have hiy := run_index_u8 (P := Tryz.prog) Tryz.underlying9 (strOf p) (p.length - 1) (by rw [es]; omega) ((p.length : Int) - 1) (by omega)
      rw [hyn] at hiy
      rw [strOf_list] at hx hy
      by_cases h3 : x = 45
      · have HF2 := Lib.hid (lbl_head (p := p) (by rw [List.head?_eq_getElem?, hx, h3]))
        have dx : (((x.toNat : Nat) : Int) != (45 : Int)) = false := by rw [h3]; rfl
        clear hx hy hxn hyn hiy
        go_enter Tryz.func129, Tryz.ntmps129
        go_wp2_with fail
        go_ret
        exact ⟨by rw [HF2.out]; rfl, rfl⟩
      · have dx : (((x.toNat : Nat) : Int) != (45 : Int)) = true := by
          have : ¬ x.toNat = 45 := fun h => h3 (UInt8.toNat_inj.1 h)
          simp; omega
        by_cases h4 : y = 45
        · have HF2 := Lib.hid (lbl_last (p := p) (by rw [List.getLast?_eq_getElem?, hy, h4]))
          have dy : (((y.toNat : Nat) : Int) != (45 : Int)) = false := by rw [h4]; rfl
          clear hx hy hxn hyn
          go_enter Tryz.func129, Tryz.ntmps129
          go_wp2_with fail
          go_ret
          exact ⟨by rw [HF2.out]; rfl, rfl⟩
        · have dy : (((y.toNat : Nat) : Int) != (45 : Int)) = true := by
            have : ¬ y.toNat = 45 := fun h => h4 (UInt8.toNat_inj.1 h)
            simp; omega
          have HQ := Lib.hid (show lbl p = p.all lblB from lbl_all (by omega) (by omega) (by rw [List.head?_eq_getElem?, hx]; exact fun h => h3 (Option.some.inj h)) (by rw [List.getLast?_eq_getElem?, hy]; exact fun h => h4 (Option.some.inj h)))
          have HC := Lib.hid (fun w => pcons_lb p hL w)
          clear hx hy hxn hyn h3 h4
          go_enter Tryz.func129, Tryz.ntmps129
          go_wp2_with (go_at_call 126; (with_reducible refine (HC.out _).mono ?_); rintro e w2 ⟨rfl, rfl⟩)
          go_ret
          exact ⟨by rw [HQ.out]; rfl, rfl⟩
theorem plabel_is {p : List UInt8} {b : Bool} (h : lbl p = b) (hL : p.length ≤ 100000) (w : World) :
    Calls Tryz.prog 129 #[.string (strOf p)] w fun e w' => e = .returned (.bool b) ∧ w' = w := by
  have := plabel_any p hL w
  rwa [h] at this
end Go.Proofs.YtofadgmnjckpcaaGreatDoor
namespace Go.Proofs.YtofadgmnjckpcaaGreatDoor
open Go.RowKit Go.Shelf
attribute [local go_sem] Oper.semAt_some

theorem pcs_more {c : UInt8} {l : List UInt8} {i : Nat} (h : Lib.indexByte l c = i) : pcsL c l = l.take i :: pcsL c (l.drop (i + 1)) := by
  obtain ⟨e1, e2⟩ := first_cut h
  have := spl_cons e2 (pcsL_spl c (l.drop (i + 1)))
  rw [← e1] at this
  exact spl_inj (pcsL_spl c l) this
theorem pcs_last {c : UInt8} {l : List UInt8} (h : c ∉ l) : pcsL c l = [l] := spl_inj (pcsL_spl c l) (spl_one h)
theorem psindex_any (L : List UInt8) (w : World) :
    Calls Tryz.prog 135 #[.string (strOf L), .string ⟨#[46]⟩] w fun e w' => e = .returned (.int .i64 (Lib.indexByte L 46)) ∧ w' = w :=
  Any.strings_Index_one { lays144 with } (strOf L) 46 w
theorem psindex_is {L : List UInt8} {z : Int} (h : Lib.indexByte L 46 = z) (w : World) :
    Calls Tryz.prog 135 #[.string (strOf L), .string ⟨#[46]⟩] w fun e w' => e = .returned (.int .i64 z) ∧ w' = w := by
  have := psindex_any L w
  rwa [h] at this
def sLen (b : Nat) (W : World) : Nat := match W.cell? ⟨b, 0, none⟩ with | some (.string s) => s.size | _ => 0
theorem sLen_of {b : Nat} {W : World} {s : ByteArray} (h : W.cell? ⟨b, 0, none⟩ = some (.string s)) : sLen b W = s.size := by unfold sLen; rw [h]

theorem slice_front (L : List UInt8) (j : Nat) (hj : j ≤ L.length) (w : World) :
    (Instr.slice 9 (.string (strOf L)) none (some (.int .i64 (j : Int))) none).run Tryz.prog w = .ok (.string (strOf (L.take j))) w := by
  have := run_slice_string_to_if (P := Tryz.prog) w 9 (strOf L) .i64 (j : Int) Tryz.underlying9
  rw [this, if_pos ⟨by omega, by rw [strOf_size]; omega⟩]
  have e : ((strOf L).extract 0 j).data.toList = L.take j := by
    rw [ext_list_h, strOf_list, List.drop_zero, Nat.sub_zero]
  rw [← strOf_of e]
  simp
theorem slice_back (L : List UInt8) (j : Nat) (hj : j ≤ L.length) (a : Int) (ha : a = (j : Int)) (w : World) :
    (Instr.slice 9 (.string (strOf L)) (some (.int .i64 a)) none none).run Tryz.prog w = .ok (.string (strOf (L.drop j))) w := by
  have := slice_tail_h (strOf L) j (by rw [strOf_size]; exact hj) a ha w
  rwa [strOf_list] at this
theorem pseq_made (L : List UInt8) (w : World) :
    Calls Tryz.prog 142 #[.string (strOf L), .string ⟨#[46]⟩, .int .i64 0] w fun e w' =>
      e = .returned (.func (.func 152) #[] #[.pointer (some ⟨w.heap.size + 1, 0, none⟩), .pointer (some ⟨w.heap.size, 0, none⟩), .pointer (some ⟨w.heap.size + 2, 0, none⟩)]) ∧
      w' = ((w.alloc (.cells #[.string (strOf L)] 9)).alloc (.cells #[.string ⟨#[46]⟩] 9)).alloc (.cells #[.int .i64 0] 3) := by
  go_enter Tryz.func142, Tryz.ntmps142
  go_wp2
  go_ret
  exact ⟨rfl, rfl⟩
theorem pseq_any (L : List UInt8) (w : World) :
    Calls Tryz.prog 128 #[.string (strOf L), .string ⟨#[46]⟩] w fun e w' =>
      e = .returned (.func (.func 152) #[] #[.pointer (some ⟨w.heap.size + 1, 0, none⟩), .pointer (some ⟨w.heap.size, 0, none⟩), .pointer (some ⟨w.heap.size + 2, 0, none⟩)]) ∧
      w' = ((w.alloc (.cells #[.string (strOf L)] 9)).alloc (.cells #[.string ⟨#[46]⟩] 9)).alloc (.cells #[.int .i64 0] 3) := by
  go_enter Tryz.func128, Tryz.ntmps128
  go_wp2_with (go_at_call 142; (with_reducible refine (pseq_made L _).mono ?_); rintro e w1 ⟨rfl, rfl⟩)
  go_ret
  exact ⟨rfl, rfl⟩

set_option maxRecDepth 100000 in
set_option maxHeartbeats 2000000 in
theorem iter_any (l bs n : Nat) (hn : 1 ≤ n) (L : List UInt8) (hL : L.length ≤ 100000) (J : List (List UInt8) → World → Prop) (Jx : World → Prop)
    (hset : ∀ pre W v, J pre W → J pre (W.setCell ⟨bs, 0, none⟩ v))
    (hY : ∀ pre x rest W, J pre W → pcsL 46 L = pre ++ x :: rest → YieldAt Fence.wide (n - 1) Tryz.prog l #[.string (strOf x)] W fun e W' =>
      (e = .returned (.bool true) ∧ J (pre ++ [x]) W' ∧ Below (bs + 3) W W') ∨ (e = .returned (.bool false) ∧ Jx W'))
    (W : World) (hs : W.cell? ⟨bs, 0, none⟩ = some (.string (strOf L))) (hf : W.frozen? ⟨bs, 0, none⟩ = false) (hp : W.cell? ⟨bs + 1, 0, none⟩ = some (.string ⟨#[46]⟩)) (hv : W.cell? ⟨bs + 2, 0, none⟩ = some (.int .i64 0)) (h0 : J [] W) :
    CallsIn Fence.wide n Tryz.prog 152 #[.func (.yield l) #[] #[], .pointer (some ⟨bs + 1, 0, none⟩), .pointer (some ⟨bs, 0, none⟩), .pointer (some ⟨bs + 2, 0, none⟩)] W fun e W' => (∃ v, e = .returned v) ∧ (J (pcsL 46 L) W' ∨ Jx W') := by
  have HSET := Lib.hid hset
  have HY := Lib.hid hY
  have HJ := Lib.hid h0
  have HL := Lib.hid hL
  clear hset hY h0 hL
  refine callsIn_of_wp Tryz.func152 rfl trivial ?_ rfl
  simp only [Tryz.ntmps152, List.size_toArray, List.length_cons, List.length_nil, Nat.reduceAdd, Nat.reduceSub, Array.replicate_succ, Array.replicate_zero, List.push_toArray, List.append_toArray, List.nil_append, List.cons_append]
  gi_wp2
  gi_loopw [] (fun wr => ∃ (pre : List (List UInt8)) (r : List UInt8), pcsL 46 L = pre ++ pcsL 46 r ∧ r.length ≤ L.length ∧ J pre wr ∧ wr.cell? ⟨bs, 0, none⟩ = some (.string (strOf r)) ∧ wr.frozen? ⟨bs, 0, none⟩ = false ∧ wr.cell? ⟨bs + 1, 0, none⟩ = some (.string ⟨#[46]⟩) ∧ wr.cell? ⟨bs + 2, 0, none⟩ = some (.int .i64 0))
    (fun wr => sLen bs wr)
  case atStart => exact ⟨[], L, rfl, Nat.le_refl _, HJ.out, hs, hf, hp, hv⟩
  case round =>
    obtain ⟨pre, r, hpc, hrl, hj, hs, hf, hp, hv⟩ := hrel
    have HJ1 := Lib.hid hj
    have HPC := Lib.hid hpc
    have es := strOf_size r
    have hsl := sLen_of hs
    clear hj hpc
    rcases index_cases r 46 with ⟨hi, hno⟩ | ⟨i, hi, hlt⟩
    · have HI := Lib.hid (fun w => psindex_is hi w)
      have HP1 := Lib.hid (show pcsL 46 L = pre ++ r :: [] by rw [HPC.out, pcs_last hno])
      obtain ⟨fn, tmps, assign, body, hy, hR⟩ := HY.out pre r [] wr HJ1.out HP1.out
      clear hi hno
      gi_wp2_with (refine ⟨trivial, ?_⟩; gi_at_call 135; (with_reducible refine (callsIn_wide.2 (HI.out _)).mono ?_); rintro e w1 ⟨rfl, rfl⟩)
      refine hR.mono ?_
      rintro e W3 (⟨rfl, hj3, _⟩ | ⟨rfl, hjx⟩)
      · gi_wp2
        go_end0
        exact ⟨⟨_, rfl⟩, .inl (by rw [HP1.out]; exact hj3)⟩
      · gi_wp2
        go_end0
        exact ⟨⟨_, rfl⟩, .inr hjx⟩
    · have HI := Lib.hid (fun w => psindex_is hi w)
      have HP1 := Lib.hid (show pcsL 46 L = pre ++ r.take i :: pcsL 46 (r.drop (i + 1)) by rw [HPC.out, pcs_more hi])
      obtain ⟨fn, tmps, assign, body, hy, hR⟩ := HY.out pre (r.take i) _ wr HJ1.out HP1.out
      have hb : r.length ≤ 100000 := by have := HL.out; omega
      have d0 : decide ((i : Int) < 0) = false := by simp
      have hw0 : wrap64 ((i : Int) + 0) = (i : Int) := by unfold wrap64; omega
      have hw1 : wrap64 ((i : Int) + 1) = (i : Int) + 1 := by unfold wrap64; omega
      have hs1 := slice_front r i (by omega)
      have hs2 := slice_back r (i + 1) (by omega) ((i : Int) + 1) (by omega)
      clear hi
      gi_wp2_with (refine ⟨trivial, ?_⟩; gi_at_call 135; (with_reducible refine (callsIn_wide.2 (HI.out _)).mono ?_); rintro e w1 ⟨rfl, rfl⟩)
      refine hR.mono ?_
      rintro e W3 (⟨rfl, hj3, hk3⟩ | ⟨rfl, hjx⟩)
      · have hs3 := (hk3.cell (p := ⟨bs, 0, none⟩) (show bs < bs + 3 by omega)).trans hs
        have hf3 := (hk3.frozen (p := ⟨bs, 0, none⟩) (show bs < bs + 3 by omega)).trans hf
        have hp3 := (hk3.cell (p := ⟨bs + 1, 0, none⟩) (show bs + 1 < bs + 3 by omega)).trans hp
        have hv3 := (hk3.cell (p := ⟨bs + 2, 0, none⟩) (show bs + 2 < bs + 3 by omega)).trans hv
        have HJ3 := Lib.hid (HSET.out _ _ (.string (strOf (r.drop (i + 1)))) hj3)
        have hs4 := World.cell?_setCell_same W3 ⟨bs, 0, none⟩ (.string (strOf (r.drop (i + 1)))) hs3
        have hp4 := (World.cell?_setCell_other W3 ⟨bs, 0, none⟩ ⟨bs + 1, 0, none⟩ (.string (strOf (r.drop (i + 1)))) (addr_ne (by omega))).trans hp3
        have hv4 := (World.cell?_setCell_other W3 ⟨bs, 0, none⟩ ⟨bs + 2, 0, none⟩ (.string (strOf (r.drop (i + 1)))) (addr_ne (by omega))).trans hv3
        have HS4 := Lib.hid hs4
        have HP4 := Lib.hid hp4
        have HV4 := Lib.hid hv4
        have HF4 := Lib.hid ((by rw [World.frozen?_setCell]; exact hf3 : (W3.setCell ⟨bs, 0, none⟩ (.string (strOf (r.drop (i + 1))))).frozen? ⟨bs, 0, none⟩ = false))
        clear hs4 hp4 hv4 hj3 hk3 hs hf hp hv
        gi_wp2
        go_roundw
        case rel => exact ⟨pre ++ [r.take i], r.drop (i + 1), by rw [HP1.out]; simp, by simp; omega, HJ3.out, HS4.out, HF4.out, HP4.out, HV4.out⟩
        case measure => rw [sLen_of HS4.out, hsl, strOf_size, strOf_size, List.length_drop]; omega
      · gi_wp2
        refine bodyPost_ret (results_none rfl _ _ _) rfl ?_
        exact ⟨⟨_, rfl⟩, .inr hjx⟩
end Go.Proofs.YtofadgmnjckpcaaGreatDoor
