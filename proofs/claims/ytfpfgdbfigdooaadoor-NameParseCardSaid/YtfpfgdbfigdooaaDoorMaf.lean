/-
  The contracts of isPlain of the program, and of Among and plain of the reference: whether a byte is one that is not escaped.
  The contracts of text.Fold and text.Match: the folded form of a string, and whether two strings have the same; nothing that was there before the call has changed.
  The contract of text.Escape: the escaped form of a string; nothing that was there before the call has changed.
-/
import Derived.Test.YtfpfgdbfigdooaaDoorMae
import Derived.Test.YtfpfgdbfigdooaaDoorXset
namespace Go.Proofs.YtfpfgdbfigdooaaDoor
open Go.RowKit

theorem isal_is {n : Nat} {b : Bool} (h : alnum n = b) (w : World) : Calls Tryd.prog 78 #[.int .i32 (n : Int)] w fun e w' => e = .returned (.bool b) ∧ w' = w := by
  have := isal_any n w
  rwa [h] at this
theorem ralnum_is {n : Nat} {b : Bool} (h : alnum n = b) (w : World) : Calls Tryd.prog 46 #[.int .u8 (n : Int)] w fun e w' => e = .returned (.bool b) ∧ w' = w := by
  have := ralnum_any n w
  rwa [h] at this
theorem idx_is {s : ByteArray} {c : UInt8} {b : Int} (h : Lib.indexByte s.data.toList c = b) (w : World) : Calls Tryd.prog 93 #[.string s, .int .u8 ((c.toNat : Nat) : Int)] w fun e w' => e = .returned (.int .i64 b) ∧ w' = w := by
  have := idx_any s c w
  rwa [h] at this

set_option maxHeartbeats 1000000 in
theorem isplain_any (c : UInt8) (w : World) :
    Calls Tryd.prog 85 #[.int .u8 ((c.toNat : Nat) : Int)] w fun e w' => e = .returned (.bool (plainB c)) ∧ w' = w := by
  have hlt := c.toNat_lt
  cases ha : alnum c.toNat with
  | true =>
    have HP := Lib.hid (show plainB c = true by unfold plainB; rw [ha]; rfl)
    have HA := Lib.hid ha
    clear ha
    go_enter Tryd.func85, Tryd.ntmps85
    go_wp2_with (go_at_call 78; (with_reducible refine (isal_is HA.out _).mono ?_); rintro e w1 ⟨rfl, rfl⟩)
    go_ret
    exact ⟨by rw [HP.out]; rfl, rfl⟩
  | false =>
    obtain ⟨ix, hix⟩ : ∃ ix, Lib.indexByte plainL c = ix := ⟨_, rfl⟩
    have HP := Lib.hid (show plainB c = decide (0 ≤ ix) by unfold plainB; rw [ha, idx_has, hix]; rfl)
    have HA := Lib.hid ha
    have HI := Lib.hid (show Lib.indexByte (⟨#[32, 39, 40, 41, 45, 46, 47, 58, 63, 64, 95]⟩ : ByteArray).data.toList c = ix from hix)
    clear ha hix
    go_enter Tryd.func85, Tryd.ntmps85
    go_wp2_with (first
      | (go_at_call 78; (with_reducible refine (isal_is HA.out _).mono ?_); rintro e w1 ⟨rfl, rfl⟩)
      | (go_at_call 93; (with_reducible refine (idx_is HI.out _).mono ?_); rintro e w1 ⟨rfl, rfl⟩))
    go_ret
    exact ⟨by rw [HP.out]; rfl, rfl⟩

set_option maxHeartbeats 1000000 in
theorem among_any (c : UInt8) (l : ByteArray) (hl : l.size ≤ 1000000) (w : World) :
    Calls Tryd.prog 47 #[.int .u8 ((c.toNat : Nat) : Int), .string l] w fun e w' => e = .returned (.bool (l.data.toList.contains c)) ∧ w' = w := by
  go_enter Tryd.func47, Tryd.ntmps47
  go_wp2_with fail
  go_loopw [5] (fun i wr => ∃ k : Nat, k ≤ l.size ∧ i = .int .i64 (k : Int) ∧ wr = w ∧ l.data.toList.contains c = (l.data.toList.drop k).contains c) (fun i _ => l.size - (intOf i).toNat)
  case atStart => exact ⟨0, by omega, rfl, rfl, by simp⟩
  case round =>
    obtain ⟨k, hk, rfl, rfl, hc⟩ := hrel
    by_cases hlt : k < l.size
    · have hd : decide ((k : Int) < (l.size : Int)) = true := by simp; omega
      obtain ⟨x, hx, hxn⟩ := u8at_list l k hlt
      have hix := run_index_u8 (P := Tryd.prog) Tryd.underlying9 l k hlt (k : Int) rfl wr
      rw [hxn] at hix
      rw [drop_cons hx, List.contains_cons] at hc
      by_cases e : x = c
      · have hq : ((x.toNat : Nat) : Int) == ((c.toNat : Nat) : Int) := by rw [e]; simp
        have HC := Lib.hid (show l.data.toList.contains c = true by rw [hc, e]; simp)
        clear hc hx hxn e
        go_wp2_with fail
        go_ret
        exact ⟨by rw [HC.out]; rfl, rfl⟩
      · have hne : ¬ x.toNat = c.toNat := fun h => e (UInt8.toNat_inj.1 h)
        have hq : (((x.toNat : Nat) : Int) == ((c.toNat : Nat) : Int)) = false := by simp; omega
        have HC := Lib.hid (show l.data.toList.contains c = (l.data.toList.drop (k + 1)).contains c by
          rw [hc, show (c == x) = false by simp; exact fun h => e h.symm, Bool.false_or])
        clear hc hx hxn e hne
        go_wp2_with fail
        go_roundw
        case rel => exact ⟨k + 1, by omega, by go_num, by first | exact trivial | rfl, HC.out⟩
        case measure => simp [intOf]; omega
    · have hd : decide ((k : Int) < (l.size : Int)) = false := by simp; omega
      have HC := Lib.hid (show l.data.toList.contains c = false by
        rw [hc, List.drop_eq_nil_of_le (show l.data.toList.length ≤ k by show l.size ≤ k; omega)]; rfl)
      clear hc
      go_wp2_with fail
      go_ret
      exact ⟨by rw [HC.out]; rfl, rfl⟩
theorem among_is {c : UInt8} {l : ByteArray} {b : Bool} (h : l.data.toList.contains c = b) (hl : l.size ≤ 1000000) (w : World) :
    Calls Tryd.prog 47 #[.int .u8 ((c.toNat : Nat) : Int), .string l] w fun e w' => e = .returned (.bool b) ∧ w' = w := by
  have := among_any c l hl w
  rwa [h] at this

set_option maxHeartbeats 1000000 in
theorem plain_any (c : UInt8) (w : World) :
    Calls Tryd.prog 57 #[.int .u8 ((c.toNat : Nat) : Int)] w fun e w' => e = .returned (.bool (plainB c)) ∧ w' = w := by
  cases ha : alnum c.toNat with
  | true =>
    have HP := Lib.hid (show plainB c = true by unfold plainB; rw [ha]; rfl)
    have HA := Lib.hid ha
    clear ha
    go_enter Tryd.func57, Tryd.ntmps57
    go_wp2_with (go_at_call 46; (with_reducible refine (ralnum_is HA.out _).mono ?_); rintro e w1 ⟨rfl, rfl⟩)
    go_ret
    exact ⟨by rw [HP.out]; rfl, rfl⟩
  | false =>
    obtain ⟨b, hb⟩ : ∃ b, plainL.contains c = b := ⟨_, rfl⟩
    have HP := Lib.hid (show plainB c = b by unfold plainB; rw [ha, hb]; rfl)
    have HA := Lib.hid ha
    have HI := Lib.hid (show (⟨#[32, 39, 40, 41, 45, 46, 47, 58, 63, 64, 95]⟩ : ByteArray).data.toList.contains c = b from hb)
    clear ha hb
    go_enter Tryd.func57, Tryd.ntmps57
    go_wp2_with (first
      | (go_at_call 46; (with_reducible refine (ralnum_is HA.out _).mono ?_); rintro e w1 ⟨rfl, rfl⟩)
      | (go_at_call 47; (with_reducible refine (among_is HI.out (by decide) _).mono ?_); rintro e w1 ⟨rfl, rfl⟩))
    go_ret
    exact ⟨by rw [HP.out]; rfl, rfl⟩
theorem isplain_is {c : UInt8} {b : Bool} (h : plainB c = b) (w : World) : Calls Tryd.prog 85 #[.int .u8 ((c.toNat : Nat) : Int)] w fun e w' => e = .returned (.bool b) ∧ w' = w := by
  have := isplain_any c w
  rwa [h] at this
theorem plain_is {c : UInt8} {b : Bool} (h : plainB c = b) (w : World) : Calls Tryd.prog 57 #[.int .u8 ((c.toNat : Nat) : Int)] w fun e w' => e = .returned (.bool b) ∧ w' = w := by
  have := plain_any c w
  rwa [h] at this
end Go.Proofs.YtfpfgdbfigdooaaDoor
namespace Go.Proofs.YtfpfgdbfigdooaaDoor
open Go.RowKit

theorem own_form {E : TypeId} {w : World} {B : Nat} {v : Value} {l : List UInt8} (h : OwnB E w B v l) : ∃ a cp, v = .slice a l.length cp := by
  rcases h.2 with ⟨rfl, h0⟩ | ⟨g, cap, cur, rfl, _⟩
  · rw [h0]; exact ⟨_, _, rfl⟩
  · exact ⟨_, _, rfl⟩
theorem own_form2 {E : TypeId} {w : World} {B : Nat} {v : Value} {l : List UInt8} (h : OwnB E w B v l) (hne : l ≠ []) : ∃ g cp, v = .slice (some ⟨g, 0, none⟩) l.length cp := by
  rcases h.2 with ⟨rfl, h0⟩ | ⟨g, cap, cur, rfl, _⟩
  · exact absurd (List.eq_nil_of_length_eq_zero h0) hne
  · exact ⟨_, _, rfl⟩
theorem take_len (s : ByteArray) {k : Nat} (h : k ≤ s.size) : (s.data.toList.take k).length = k := by
  rw [List.length_take]
  have : s.data.toList.length = s.size := rfl
  omega
theorem take_all (s : ByteArray) {k : Nat} (h : s.size ≤ k) : s.data.toList.take k = s.data.toList := List.take_of_length_le (show s.data.toList.length ≤ k from h)

set_option maxRecDepth 100000 in
set_option maxHeartbeats 2000000 in
theorem fold_any (s : ByteArray) (w : World) (hn : s.size ≤ 1099511627776) :
    Calls Tryd.prog 52 #[.string s] w fun e w' => e = .returned (.string (strOf (foldL s.data.toList))) ∧ Below w.heap.size w w' := by
  obtain ⟨i0, hi, hz0, hz1, hz2⟩ := info_parts byteInfo
  go_enter Tryd.func52, Tryd.ntmps52
  go_wp2_with (at_make; refine wpList_make_own _ rfl _ _ 46 rfl w.heap.size 5 i0 (.int .u8 0) 1 Tryd.underlying46 hi hz0 hz1 .i64 .i64 (s.size : Int) s.size rfl rfl (by omega) (by rw [hz2]; omega) (by unfold maxLen; omega) (Nat.le_refl _) ?_; intro w1 hown1 hgr1; have HO1 := Lib.hid hown1; have HG1 := Lib.hid hgr1; clear hown1 hgr1)
  go_loopw [3, 4, 11] (fun v g i wr => ∃ (k : Nat) (D : List UInt8) (gp : Bool), k ≤ s.size ∧ i = .int .i64 k ∧ g = .bool gp ∧ foldRun (s.data.toList.take k) = (D, gp) ∧ OwnB 5 wr w.heap.size v D ∧ Below w.heap.size w wr) (fun _ _ i _ => s.size - (intOf i).toNat)
  case atStart => exact ⟨0, [], false, Nat.zero_le _, rfl, rfl, rfl, HO1.out, (Below.refl _ _).grown HG1.out (Nat.le_refl _) (fun _ e => by cases e)⟩
  case round =>
    obtain ⟨k, D, gp, hk, rfl, rfl, hD, hown, hb⟩ := hrel
    obtain ⟨a, cp, rfl⟩ := own_form hown
    have HO := Lib.hid hown
    have HB := Lib.hid hb
    have HD := Lib.hid hD
    have hDl : D.length ≤ k := by
      have h1 := foldL_len (s.data.toList.take k)
      rw [take_len s hk] at h1
      unfold foldL at h1
      rwa [hD] at h1
    clear hown hb hD
    by_cases hlt : k < s.size
    · have hd : decide ((k : Int) < (s.size : Int)) = true := by simp; omega
      obtain ⟨c, hc, hcn⟩ := u8at_list s k hlt
      have hix := fun w => run_index_u8 (P := Tryd.prog) Tryd.underlying9 s k hlt (k : Int) rfl w
      rw [hcn] at hix
      have HS := Lib.hid (show foldRun (s.data.toList.take (k + 1)) = foldStep (D, gp) c by rw [take_snoc hc, foldRun_snoc, HD.out])
      clear hc hcn
      by_cases h32 : c = 32
      · have hq : (((c.toNat : Nat) : Int) == 32) = true := by rw [h32]; rfl
        have HN := Lib.hid (show foldRun (s.data.toList.take (k + 1)) = (D, decide (0 < D.length)) by
          rw [HS.out]
          unfold foldStep
          rw [if_pos h32]
          cases D <;> simp)
        clear h32
        go_wp2_with fail
        go_roundw
        case rel => exact ⟨k + 1, D, decide (0 < D.length), by omega, by go_num, by first | rfl | simp, HN.out, HO.out, HB.out⟩
        case measure => simp [intOf]; omega
      · have h32n : ¬ c.toNat = 32 := fun h => h32 (UInt8.toNat_inj.1 h)
        have hq : (((c.toNat : Nat) : Int) == 32) = false := by simp; omega
        obtain ⟨y, hy⟩ : ∃ y, y = small c := ⟨_, rfl⟩
        have HSM := Lib.hid (fun w => small_any c w)
        rw [← hy] at HSM
        cases gp with
        | true =>
          have HN := Lib.hid (show foldRun (s.data.toList.take (k + 1)) = (D ++ [32] ++ [y], false) by
            rw [HS.out]
            unfold foldStep
            rw [if_neg h32, hy]
            rfl)
          clear h32 hy h32n
          go_wp2_with (first
            | (at_builtin; (refine wpList_append_own _ rfl (.tmp 22) (.tmp 23) 46 rfl w.heap.size 5 i0 (.int .u8 0) 1 1 Tryd.underlying46 hi hz0 hz1 hz2 rfl (by decide) _ _ _ rfl (HO.out.alloc _) ⟨wr.heap.size, 0, none⟩ 1 1 [bcell 32] rfl rfl (news_row wr #[bcell 32] 5) (bcells_one [32]) (by unfold maxLen; omega) (by omega) (by simp; have := HB.out.size; omega) ?_); intro v' w2 hown2 hgr2 _; obtain ⟨P1, P2⟩ := out_round HO.out HB.out hown2 hgr2; have HP1 := Lib.hid P1; have HP2 := Lib.hid P2; clear hown2 hgr2 P1 P2)
            | (go_at_call 66; (with_reducible refine (HSM.out _).mono ?_); rintro e w3 ⟨rfl, rfl⟩)
            | (at_builtin; (refine wpList_append_own _ rfl (.tmp 25) (.tmp 30) 46 rfl w.heap.size 5 i0 (.int .u8 0) 1 1 Tryd.underlying46 hi hz0 hz1 hz2 rfl (by decide) _ _ _ rfl (HP1.out.alloc _) ⟨w3.heap.size, 0, none⟩ 1 1 [bcell y] rfl rfl (news_row w3 #[bcell y] 5) (bcells_one [y]) (by simp; unfold maxLen; omega) (by simp; omega) (by simp; have := HP2.out.size; omega) ?_); intro v'' w4 hown2 hgr2 _; obtain ⟨P1, P2⟩ := out_round HP1.out HP2.out hown2 hgr2; have HQ1 := Lib.hid P1; have HQ2 := Lib.hid P2; clear hown2 hgr2 P1 P2))
          go_roundw
          case rel => exact ⟨k + 1, D ++ [32] ++ [y], false, by omega, by go_num, rfl, HN.out, HQ1.out, HQ2.out⟩
          case measure => simp [intOf]; omega
        | false =>
          have HN := Lib.hid (show foldRun (s.data.toList.take (k + 1)) = (D ++ [y], false) by
            rw [HS.out]
            unfold foldStep
            rw [if_neg h32, hy]
            simp)
          clear h32 hy h32n
          go_wp2_with (first
            | (go_at_call 66; (with_reducible refine (HSM.out _).mono ?_); rintro e w3 ⟨rfl, rfl⟩)
            | (at_builtin; (refine wpList_append_own _ rfl (.tmp 25) (.tmp 30) 46 rfl w.heap.size 5 i0 (.int .u8 0) 1 1 Tryd.underlying46 hi hz0 hz1 hz2 rfl (by decide) _ _ _ rfl (HO.out.alloc _) ⟨w3.heap.size, 0, none⟩ 1 1 [bcell y] rfl rfl (news_row w3 #[bcell y] 5) (bcells_one [y]) (by unfold maxLen; omega) (by omega) (by simp; have := HB.out.size; omega) ?_); intro v' w2 hown2 hgr2 _; obtain ⟨P1, P2⟩ := out_round HO.out HB.out hown2 hgr2; have HP1 := Lib.hid P1; have HP2 := Lib.hid P2; clear hown2 hgr2 P1 P2))
          go_roundw
          case rel => exact ⟨k + 1, D ++ [y], false, by omega, by go_num, rfl, HN.out, HP1.out, HP2.out⟩
          case measure => simp [intOf]; omega
    · have ek : k = s.size := by omega
      subst ek
      have hd : decide ((s.size : Int) < (s.size : Int)) = false := by simp
      have hconv := own_str HO.out
      go_wp2_with fail
      go_ret
      refine ⟨?_, HB.out⟩
      have e1 := HD.out
      rw [take_all s (Nat.le_refl _)] at e1
      unfold foldL
      rw [e1]
      rfl

/-- The folded form as a text. -/
def foldS (s : ByteArray) : ByteArray := strOf (foldL s.data.toList)
theorem foldS_size (s : ByteArray) : (foldS s).size ≤ s.size := foldL_len s.data.toList
theorem foldS_foldS (s : ByteArray) : foldS (foldS s) = foldS s := by
  unfold foldS
  rw [strOf_list, foldL_foldL]
theorem foldS_any (s : ByteArray) (w : World) (hn : s.size ≤ 1099511627776) :
    Calls Tryd.prog 52 #[.string s] w fun e w' => e = .returned (.string (foldS s)) ∧ Below w.heap.size w w' := fold_any s w hn

/-- Whether two texts have the same folded form. -/
def matchB (a b : ByteArray) : Bool := (foldS a).toList == (foldS b).toList
theorem toList_inj {a b : ByteArray} : a.toList = b.toList ↔ a = b :=
  ⟨fun h => list_inj (by rw [← toList_eq_list, ← toList_eq_list, h]), fun h => by rw [h]⟩
theorem matchB_iff (a b : ByteArray) : matchB a b = true ↔ foldS a = foldS b := by
  unfold matchB
  rw [beq_iff_eq, toList_inj]
theorem matchB_self (a : ByteArray) : matchB a a = true := (matchB_iff a a).2 rfl
theorem matchB_symm (a b : ByteArray) : matchB a b = matchB b a := by
  rw [Bool.eq_iff_iff, matchB_iff, matchB_iff]
  exact ⟨fun h => h.symm, fun h => h.symm⟩
theorem matchB_trans {a b c : ByteArray} (h1 : matchB a b = true) (h2 : matchB b c = true) : matchB a c = true :=
  (matchB_iff a c).2 (((matchB_iff a b).1 h1).trans ((matchB_iff b c).1 h2))
theorem matchB_fold (a : ByteArray) : matchB a (foldS a) = true := (matchB_iff _ _).2 (foldS_foldS a).symm

end Go.Proofs.YtfpfgdbfigdooaaDoor
namespace Go.Proofs.YtfpfgdbfigdooaaDoor
open Go.RowKit

theorem digit_at (h : Nat) (hh : h < 16) (w : World) : (Instr.index 9 (.string ⟨#[48, 49, 50, 51, 52, 53, 54, 55, 56, 57, 97, 98, 99, 100, 101, 102]⟩) (.int .u8 (h : Int))).run Tryd.prog w = .ok (.int .u8 (((hexDigit h).toNat : Nat) : Int)) w := by
  obtain rfl | rfl | rfl | rfl | rfl | rfl | rfl | rfl | rfl | rfl | rfl | rfl | rfl | rfl | rfl | rfl : h = 0 ∨ h = 1 ∨ h = 2 ∨ h = 3 ∨ h = 4 ∨ h = 5 ∨ h = 6 ∨ h = 7 ∨ h = 8 ∨ h = 9 ∨ h = 10 ∨ h = 11 ∨ h = 12 ∨ h = 13 ∨ h = 14 ∨ h = 15 := by omega
  all_goals kernel_rfl
/-- The escaped form as a text. -/
def escS (s : ByteArray) : ByteArray := strOf (escL s.data.toList)
theorem escS_size (s : ByteArray) : (escS s).size ≤ 3 * s.size := escL_len s.data.toList
theorem hex_mask (n : Nat) (h : n < 256) : bits BinOp.and .u8 ((n : Nat) : Int) 15 = ((n % 16 : Nat) : Int) := by
  revert n; decide +kernel

end Go.Proofs.YtfpfgdbfigdooaaDoor
