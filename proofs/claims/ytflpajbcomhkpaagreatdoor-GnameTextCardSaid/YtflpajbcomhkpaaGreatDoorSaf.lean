/-
  The contracts of isPlain of the program, and of Among and plain of the reference: whether a byte is one that is not escaped.
  The contract of text.Escape: the escaped form of a string; nothing that was there before the call has changed.
  The contracts of escaped and text.Unescape of the program: the string whose escaped form is the given one, if there is one; nothing that was there before the call has changed.
  The contracts of isPrintable (with strings.ContainsRune at characters beyond ASCII) and of consists: whether each character of a text is in a set; nothing that was there before the call has changed.
  The contracts of isPrintable and of consists of the program: whether each character of a text is in a set; nothing that was there before the call has changed.
-/
import Derived.Test.YtflpajbcomhkpaaGreatDoorSae
import Derived.Test.YtflpajbcomhkpaaGreatDoorSad
import Derived.Deep.QuietTactic
import Derived.BigQuiet
import Derived.Laws.Runes
import Derived.Lib.OthersKept
import Derived.Deep.LoopGhost
import Derived.Deep.RegionWith
namespace Go.Proofs.YtflpajbcomhkpaaGreatDoor
open Go.RowKit

theorem isal_is {n : Nat} {b : Bool} (h : alnum n = b) (w : World) : Calls Tryz.prog 173 #[.int .i32 (n : Int)] w fun e w' => e = .returned (.bool b) ∧ w' = w := by
  have := isal_any n w
  rwa [h] at this
theorem ralnum_is {n : Nat} {b : Bool} (h : alnum n = b) (w : World) : Calls Tryz.prog 134 #[.int .u8 (n : Int)] w fun e w' => e = .returned (.bool b) ∧ w' = w := by
  have := ralnum_any n w
  rwa [h] at this
theorem idx_is {s : ByteArray} {c : UInt8} {b : Int} (h : Lib.indexByte s.data.toList c = b) (w : World) : Calls Tryz.prog 174 #[.string s, .int .u8 ((c.toNat : Nat) : Int)] w fun e w' => e = .returned (.int .i64 b) ∧ w' = w := by
  have := idx_any s c w
  rwa [h] at this

set_option maxHeartbeats 1000000 in
theorem isplain_any (c : UInt8) (w : World) :
    Calls Tryz.prog 133 #[.int .u8 ((c.toNat : Nat) : Int)] w fun e w' => e = .returned (.bool (plainB c)) ∧ w' = w := by
  have hlt := c.toNat_lt
  cases ha : alnum c.toNat with
  | true =>
    have HP := Lib.hid (show plainB c = true by unfold plainB; rw [ha]; rfl)
    have HA := Lib.hid ha
    clear ha
    go_enter Tryz.func133, Tryz.ntmps133
    go_wp2_with (go_at_call 173; (with_reducible refine (isal_is HA.out _).mono ?_); rintro e w1 ⟨rfl, rfl⟩)
    go_ret
    exact ⟨by rw [HP.out]; rfl, rfl⟩
  | false =>
    obtain ⟨ix, hix⟩ : ∃ ix, Lib.indexByte plainL c = ix := ⟨_, rfl⟩
    have HP := Lib.hid (show plainB c = decide (0 ≤ ix) by unfold plainB; rw [ha, idx_has, hix]; rfl)
    have HA := Lib.hid ha
    have HI := Lib.hid (show Lib.indexByte (⟨#[32, 39, 40, 41, 45, 46, 47, 58, 63, 64, 95]⟩ : ByteArray).data.toList c = ix from hix)
    clear ha hix
    go_enter Tryz.func133, Tryz.ntmps133
    go_wp2_with (first
      | (go_at_call 173; (with_reducible refine (isal_is HA.out _).mono ?_); rintro e w1 ⟨rfl, rfl⟩)
      | (go_at_call 174; (with_reducible refine (idx_is HI.out _).mono ?_); rintro e w1 ⟨rfl, rfl⟩))
    go_ret
    exact ⟨by rw [HP.out]; rfl, rfl⟩

set_option maxHeartbeats 1000000 in
theorem among_any (c : UInt8) (l : ByteArray) (hl : l.size ≤ 1000000) (w : World) :
    Calls Tryz.prog 135 #[.int .u8 ((c.toNat : Nat) : Int), .string l] w fun e w' => e = .returned (.bool (l.data.toList.contains c)) ∧ w' = w := by
  go_enter Tryz.func135, Tryz.ntmps135
  go_wp2_with fail
  go_loopw [5] (fun i wr => ∃ k : Nat, k ≤ l.size ∧ i = .int .i64 (k : Int) ∧ wr = w ∧ l.data.toList.contains c = (l.data.toList.drop k).contains c) (fun i _ => l.size - (intOf i).toNat)
  case atStart => exact ⟨0, by omega, rfl, rfl, by simp⟩
  case round =>
    obtain ⟨k, hk, rfl, rfl, hc⟩ := hrel
    by_cases hlt : k < l.size
    · have hd : decide ((k : Int) < (l.size : Int)) = true := by simp; omega
      obtain ⟨x, hx, hxn⟩ := u8at_list l k hlt
      have hix := run_index_u8 (P := Tryz.prog) Tryz.underlying9 l k hlt (k : Int) rfl wr
      rw [hxn] at hix
      rw [drop_cons hx, List.contains_cons] at hc
      by_cases e : x = c
      · have hq : ((x.toNat : Nat) : Int) == ((c.toNat : Nat) : Int) := by rw [e]; simp
        have HC := Lib.hid (show l.data.toList.contains c = true by rw [hc, e]; simp)
        clear hc hx hxn e
        go_wp2_with fail
        go_ret
        exact ⟨by rw [HC.out]; rfl, rfl⟩
      · have hne : ¬ x.toNat = c.toNat := fun h => e (UInt8.toNat_inj.1 h)
        have hq : (((x.toNat : Nat) : Int) == ((c.toNat : Nat) : Int)) = false := by simp; omega
        have HC := Lib.hid (show l.data.toList.contains c = (l.data.toList.drop (k + 1)).contains c by
          rw [hc, show (c == x) = false by simp; exact fun h => e h.symm, Bool.false_or])
        clear hc hx hxn e hne
        go_wp2_with fail
        go_roundw
        case rel => exact ⟨k + 1, by omega, by go_num, by first | exact trivial | rfl, HC.out⟩
        case measure => simp [intOf]; omega
    · have hd : decide ((k : Int) < (l.size : Int)) = false := by simp; omega
      have HC := Lib.hid (show l.data.toList.contains c = false by
        rw [hc, List.drop_eq_nil_of_le (show l.data.toList.length ≤ k by show l.size ≤ k; omega)]; rfl)
      clear hc
      go_wp2_with fail
      go_ret
      exact ⟨by rw [HC.out]; rfl, rfl⟩
theorem among_is {c : UInt8} {l : ByteArray} {b : Bool} (h : l.data.toList.contains c = b) (hl : l.size ≤ 1000000) (w : World) :
    Calls Tryz.prog 135 #[.int .u8 ((c.toNat : Nat) : Int), .string l] w fun e w' => e = .returned (.bool b) ∧ w' = w := by
  have := among_any c l hl w
  rwa [h] at this

set_option maxHeartbeats 1000000 in
theorem plain_any (c : UInt8) (w : World) :
    Calls Tryz.prog 92 #[.int .u8 ((c.toNat : Nat) : Int)] w fun e w' => e = .returned (.bool (plainB c)) ∧ w' = w := by
  cases ha : alnum c.toNat with
  | true =>
    have HP := Lib.hid (show plainB c = true by unfold plainB; rw [ha]; rfl)
    have HA := Lib.hid ha
    clear ha
    go_enter Tryz.func92, Tryz.ntmps92
    go_wp2_with (go_at_call 134; (with_reducible refine (ralnum_is HA.out _).mono ?_); rintro e w1 ⟨rfl, rfl⟩)
    go_ret
    exact ⟨by rw [HP.out]; rfl, rfl⟩
  | false =>
    obtain ⟨b, hb⟩ : ∃ b, plainL.contains c = b := ⟨_, rfl⟩
    have HP := Lib.hid (show plainB c = b by unfold plainB; rw [ha, hb]; rfl)
    have HA := Lib.hid ha
    have HI := Lib.hid (show (⟨#[32, 39, 40, 41, 45, 46, 47, 58, 63, 64, 95]⟩ : ByteArray).data.toList.contains c = b from hb)
    clear ha hb
    go_enter Tryz.func92, Tryz.ntmps92
    go_wp2_with (first
      | (go_at_call 134; (with_reducible refine (ralnum_is HA.out _).mono ?_); rintro e w1 ⟨rfl, rfl⟩)
      | (go_at_call 135; (with_reducible refine (among_is HI.out (by decide) _).mono ?_); rintro e w1 ⟨rfl, rfl⟩))
    go_ret
    exact ⟨by rw [HP.out]; rfl, rfl⟩
theorem isplain_is {c : UInt8} {b : Bool} (h : plainB c = b) (w : World) : Calls Tryz.prog 133 #[.int .u8 ((c.toNat : Nat) : Int)] w fun e w' => e = .returned (.bool b) ∧ w' = w := by
  have := isplain_any c w
  rwa [h] at this
theorem plain_is {c : UInt8} {b : Bool} (h : plainB c = b) (w : World) : Calls Tryz.prog 92 #[.int .u8 ((c.toNat : Nat) : Int)] w fun e w' => e = .returned (.bool b) ∧ w' = w := by
  have := plain_any c w
  rwa [h] at this
end Go.Proofs.YtflpajbcomhkpaaGreatDoor
namespace Go.Proofs.YtflpajbcomhkpaaGreatDoor
open Go.RowKit

theorem digit_at (h : Nat) (hh : h < 16) (w : World) : (Instr.index 9 (.string ⟨#[48, 49, 50, 51, 52, 53, 54, 55, 56, 57, 97, 98, 99, 100, 101, 102]⟩) (.int .u8 (h : Int))).run Tryz.prog w = .ok (.int .u8 (((hexDigit h).toNat : Nat) : Int)) w := by
  obtain rfl | rfl | rfl | rfl | rfl | rfl | rfl | rfl | rfl | rfl | rfl | rfl | rfl | rfl | rfl | rfl : h = 0 ∨ h = 1 ∨ h = 2 ∨ h = 3 ∨ h = 4 ∨ h = 5 ∨ h = 6 ∨ h = 7 ∨ h = 8 ∨ h = 9 ∨ h = 10 ∨ h = 11 ∨ h = 12 ∨ h = 13 ∨ h = 14 ∨ h = 15 := by omega
  all_goals kernel_rfl
/-- The escaped form as a text. -/
def escS (s : ByteArray) : ByteArray := strOf (escL s.data.toList)
theorem escS_size (s : ByteArray) : (escS s).size ≤ 3 * s.size := escL_len s.data.toList
theorem hex_mask (n : Nat) (h : n < 256) : bits BinOp.and .u8 ((n : Nat) : Int) 15 = ((n % 16 : Nat) : Int) := by
  revert n; decide +kernel

set_option maxRecDepth 100000 in
set_option maxHeartbeats 2000000 in
theorem esc_any (s : ByteArray) (w : World) (hn : s.size ≤ 1099511627776) :
    Calls Tryz.prog 91 #[.string s] w fun e w' => e = .returned (.string (escS s)) ∧ Below w.heap.size w w' := by
  obtain ⟨i0, hi, hz0, hz1, hz2⟩ := info_parts byteInfo
  go_enter Tryz.func91, Tryz.ntmps91
  go_wp2_with (at_make; refine wpList_make_own _ rfl _ _ 55 rfl w.heap.size 5 i0 (.int .u8 0) 1 Tryz.underlying55 hi hz0 hz1 .i64 .i64 (s.size : Int) s.size rfl rfl (by omega) (by rw [hz2]; omega) (by unfold maxLen; omega) (Nat.le_refl _) ?_; intro w1 hown1 hgr1; have HO1 := Lib.hid hown1; have HG1 := Lib.hid hgr1; clear hown1 hgr1)
  go_loopw [3, 10] (fun v i wr => ∃ k : Nat, k ≤ s.size ∧ i = .int .i64 k ∧ OwnB 5 wr w.heap.size v (escL (s.data.toList.take k)) ∧ Below w.heap.size w wr) (fun _ i _ => s.size - (intOf i).toNat)
  case atStart => exact ⟨0, Nat.zero_le _, rfl, HO1.out, (Below.refl _ _).grown HG1.out (Nat.le_refl _) (fun _ e => by cases e)⟩
  case round =>
    obtain ⟨k, hk, rfl, hown, hb⟩ := hrel
    have HO := Lib.hid hown
    have HB := Lib.hid hb
    have hsb := hb.size
    have HLN := Lib.hid (show (escL (s.data.toList.take k)).length ≤ 3 * k by
      have := escL_len (s.data.toList.take k)
      rwa [take_len s hk] at this)
    clear hown hb
    by_cases hlt : k < s.size
    · have hd : decide ((k : Int) < (s.size : Int)) = true := by simp; omega
      obtain ⟨c, hc, hcn⟩ := u8at_list s k hlt
      have hix := fun w => run_index_u8 (P := Tryz.prog) Tryz.underlying9 s k hlt (k : Int) rfl w
      rw [hcn] at hix
      have HS := Lib.hid (show escL (s.data.toList.take (k + 1)) = escL (s.data.toList.take k) ++ escB c by rw [take_snoc hc, escL_snoc])
      clear hc hcn
      generalize escL (s.data.toList.take k) = D at HO HLN HS
      cases hp : plainB c with
      | true =>
        have HP := Lib.hid (fun w => isplain_is hp w)
        have HN := Lib.hid (show escL (s.data.toList.take (k + 1)) = D ++ [c] by rw [HS.out, escB_plain hp])
        have hDl := HLN.out
        clear hp
        go_wp2_with (first
          | (go_at_call 133; (with_reducible refine (HP.out _).mono ?_); rintro e w3 ⟨rfl, rfl⟩)
          | (at_builtin; (refine wpList_append_own _ rfl (.tmp 17) (.tmp 21) 55 rfl w.heap.size 5 i0 (.int .u8 0) 1 1 Tryz.underlying55 hi hz0 hz1 hz2 rfl (by decide) _ _ _ rfl (HO.out.alloc _) ⟨w3.heap.size, 0, none⟩ 1 1 [bcell c] rfl rfl (news_row w3 #[bcell c] 5) (bcells_one [c]) (by unfold maxLen; omega) (by omega) (by simp; omega) ?_); intro v' w2 hown2 hgr2 _; obtain ⟨P1, P2⟩ := out_round HO.out HB.out hown2 hgr2; have HP1 := Lib.hid P1; have HP2 := Lib.hid P2; clear hown2 hgr2 P1 P2))
        go_roundw
        case rel => exact ⟨k + 1, by omega, by go_num, by rw [HN.out]; exact HP1.out, HP2.out⟩
        case measure => simp [intOf]; omega
      | false =>
        have HP := Lib.hid (fun w => isplain_is hp w)
        obtain ⟨x, hx⟩ : ∃ x, x = c.toNat / 16 := ⟨_, rfl⟩
        obtain ⟨y, hy⟩ : ∃ y, y = c.toNat % 16 := ⟨_, rfl⟩
        have HN := Lib.hid (show escL (s.data.toList.take (k + 1)) = D ++ [92, hexDigit x, hexDigit y] by rw [HS.out, escB_other hp, hx, hy])
        have hq : ((c.toNat : Nat) : Int) / 16 = (x : Int) := by rw [hx]; rfl
        have hr : bits BinOp.and .u8 ((c.toNat : Nat) : Int) 15 = (y : Int) := by rw [hy]; exact hex_mask c.toNat c.toNat_lt
        have h1 := digit_at x (by have := c.toNat_lt; omega)
        have h2 := digit_at y (by omega)
        clear hx hy hp
        go_wp2_with (go_at_call 133; (with_reducible refine (HP.out _).mono ?_); rintro e w3 ⟨rfl, rfl⟩)
        go_region_law (refine step_append_own rfl (.tmp 23) (.tmp 34) 55 rfl w.heap.size 5 i0 (.int .u8 0) 1 Tryz.underlying55 hi hz0 hz1 hz2 rfl _ _ _ rfl ((HO.out.alloc _).drew) ⟨w3.heap.size, 0, none⟩ 3 3 [bcell 92, bcell (hexDigit x), bcell (hexDigit y)] rfl rfl (news_row w3 #[bcell 92, bcell (hexDigit x), bcell (hexDigit y)] 5) (bcells_one [92, hexDigit x, hexDigit y]) (by have := HLN.out; unfold maxLen; omega) (by have := HLN.out; omega) (by simp; omega) ?_; intro v' w2 hown2 hgr2 _)
        all_goals
          have ho : OwnB 5 w2 w.heap.size v' (D ++ [92, hexDigit x, hexDigit y]) := by
            unfold OwnB
            rw [List.length_append, List.map_append]; exact hown2
          have hb2 : Below w.heap.size w w2 := OwnB.grown ((HO.out.alloc (.cells #[bcell 92, bcell (hexDigit x), bcell (hexDigit y)] 5)).drew) (Below.drew (Below.alloc HB.out hsb _)) hgr2 (by simp; omega) (Nat.le_refl _)
          have HO2 := Lib.hid ho
          have HB2 := Lib.hid hb2
          clear hown2 hgr2 ho hb2
          go_wp2_with fail
          go_roundw
          case rel => exact ⟨k + 1, by omega, by go_num, by rw [HN.out]; exact HO2.out, HB2.out⟩
          case measure => simp [intOf]; omega
    · have ek : k = s.size := by omega
      subst ek
      have hd : decide ((s.size : Int) < (s.size : Int)) = false := by simp
      have hconv := own_str HO.out
      go_wp2_with fail
      go_ret
      refine ⟨?_, HB.out⟩
      rw [take_all s (Nat.le_refl _)]
      rfl
end Go.Proofs.YtflpajbcomhkpaaGreatDoor
namespace Go.Proofs.YtflpajbcomhkpaaGreatDoor
open Go.RowKit

theorem byte_at0 (b : ByteArray) (k : Nat) : u8at b k = (b.data.toList.getD k 0).toNat := rfl
theorem ext_list_x (r : ByteArray) (i j : Nat) : (r.extract i j).data.toList = (r.data.toList.drop i).take (j - i) := by
  rw [ByteArray.data_extract, Array.toList_extract, List.extract_eq_take_drop]
theorem slice_two (s : ByteArray) (i j : Nat) (hij : i ≤ j) (hj : j ≤ s.size) (a b : Int) (ha : a = (i : Int)) (hb : b = (j : Int)) (w : World) :
    (Instr.slice 9 (.string s) (some (.int .i64 a)) (some (.int .i64 b)) none).run Tryz.prog w = .ok (.string (strOf ((s.data.toList.drop i).take (j - i)))) w := by
  subst ha hb
  have := run_slice_string (P := Tryz.prog) w 9 s .i64 .i64 (i : Int) (j : Int) Tryz.underlying9 (by omega) (by omega) (by omega)
  rw [← strOf_of (ext_list_x s i j)]
  simpa using this
theorem slice_tail (s : ByteArray) (i : Nat) (hi : i ≤ s.size) (a : Int) (ha : a = (i : Int)) (w : World) :
    (Instr.slice 9 (.string s) (some (.int .i64 a)) none none).run Tryz.prog w = .ok (.string (strOf (s.data.toList.drop i))) w := by
  subst ha
  have := run_slice_string_from_if (P := Tryz.prog) w 9 s .i64 (i : Int) Tryz.underlying9
  rw [this, if_pos ⟨by omega, by omega⟩]
  have e : (s.extract i s.size).data.toList = s.data.toList.drop i := by
    rw [ext_list_x]
    exact List.take_of_length_le (by rw [List.length_drop]; exact Nat.le_refl _)
  rw [← strOf_of e]
  congr 3

/-! ### One byte in digits -/
def nibV (o : Option Nat) : Int := match o with | some v => (v : Int) | none => -1
def digitsL : List UInt8 := [48, 49, 50, 51, 52, 53, 54, 55, 56, 57, 97, 98, 99, 100, 101, 102]
set_option maxRecDepth 100000 in
theorem idx_dig_all : ∀ n, n < 256 → Lib.indexByte digitsL (UInt8.ofNat n) = nibV (digV n) := by decide +kernel
theorem idx_dig (c : UInt8) (w : World) : Calls Tryz.prog 174 #[.string ⟨#[48, 49, 50, 51, 52, 53, 54, 55, 56, 57, 97, 98, 99, 100, 101, 102]⟩, .int .u8 ((c.toNat : Nat) : Int)] w fun e w' => e = .returned (.int .i64 (nibV (digV c.toNat))) ∧ w' = w := by
  have h := idx_any ⟨#[48, 49, 50, 51, 52, 53, 54, 55, 56, 57, 97, 98, 99, 100, 101, 102]⟩ c w
  have e := idx_dig_all c.toNat c.toNat_lt
  rw [show UInt8.ofNat c.toNat = c by simp] at e
  rw [show (⟨#[48, 49, 50, 51, 52, 53, 54, 55, 56, 57, 97, 98, 99, 100, 101, 102]⟩ : ByteArray).data.toList = digitsL from rfl, e] at h
  exact h
theorem idx_some {c : UInt8} {v : Nat} (h : digV c.toNat = some v) (w : World) : Calls Tryz.prog 174 #[.string ⟨#[48, 49, 50, 51, 52, 53, 54, 55, 56, 57, 97, 98, 99, 100, 101, 102]⟩, .int .u8 ((c.toNat : Nat) : Int)] w fun e w' => e = .returned (.int .i64 (v : Int)) ∧ w' = w := by
  have := idx_dig c w
  rwa [h] at this
theorem idx_none {c : UInt8} (h : digV c.toNat = none) (w : World) : Calls Tryz.prog 174 #[.string ⟨#[48, 49, 50, 51, 52, 53, 54, 55, 56, 57, 97, 98, 99, 100, 101, 102]⟩, .int .u8 ((c.toNat : Nat) : Int)] w fun e w' => e = .returned (.int .i64 (-1)) ∧ w' = w := by
  have := idx_dig c w
  rwa [h] at this
set_option maxRecDepth 100000 in
theorem or_digits : ∀ a : Nat, a < 16 → ∀ b : Nat, b < 16 → bits BinOp.or .i64 ((a : Int) * 16) (b : Int) = ((16 * a + b : Nat) : Int) := by decide +kernel
/-- What escaped answers for the text r. -/
def Escd (r : List UInt8) (e : Ending) : Prop := ∃ (y : UInt8) (ok : Bool), e = .returned (.tuple #[.int .u8 ((y.toNat : Nat) : Int), .bool ok]) ∧ (ok = true ∧ escd r = some y ∨ ok = false ∧ escd r = none)
theorem escd_first {r : List UInt8} {c0 c1 : UInt8} (h0 : r.getD 0 0 = c0) (h1 : r.getD 1 0 = c1) {a b : Nat} (ha : digV c0.toNat = some a) (hb : digV c1.toNat = some b) : escd r = if plainB (UInt8.ofNat (16 * a + b)) = true then none else some (UInt8.ofNat (16 * a + b)) := by
  unfold escd
  rw [h0, h1, ha, hb]
theorem escd_no0 {r : List UInt8} {c0 : UInt8} (h0 : r.getD 0 0 = c0) (ha : digV c0.toNat = none) : escd r = none := by
  unfold escd
  rw [h0, ha]
theorem escd_no1 {r : List UInt8} {c1 : UInt8} (h1 : r.getD 1 0 = c1) (hb : digV c1.toNat = none) : escd r = none := by
  unfold escd
  rw [h1, hb]
  split
  · rename_i h; cases h
  · rfl
theorem escd_short {r : List UInt8} (h : r.length < 2) : escd r = none := by
  cases e : escd r with
  | none => rfl
  | some c => have := (escd_some e).1; omega

set_option maxRecDepth 100000 in
set_option maxHeartbeats 2000000 in
theorem escaped_any (r : List UInt8) (w : World) (hr : r.length ≤ 1099511627776) :
    Calls Tryz.prog 138 #[.string (strOf r)] w fun e w' => Escd r e ∧ Below w.heap.size w w' := by
  have hz : (strOf r).size = r.length := rfl
  by_cases h2 : r.length < 2
  · have d : decide ((r.length : Int) < 2) = true := by simp; omega
    have HE := Lib.hid (escd_short h2)
    clear h2
    go_enter Tryz.func138, Tryz.ntmps138
    go_wp2_with fail
    go_ret2
    exact ⟨⟨0, false, rfl, .inr ⟨rfl, HE.out⟩⟩, Below.refl _ _⟩
  · have d : decide ((r.length : Int) < 2) = false := by simp; omega
    have x0 := fun w => run_index_u8 (P := Tryz.prog) Tryz.underlying9 (strOf r) 0 (by omega) 0 rfl w
    have x1 := fun w => run_index_u8 (P := Tryz.prog) Tryz.underlying9 (strOf r) 1 (by omega) 1 rfl w
    rw [byte_at0, strOf_list] at x0 x1
    obtain ⟨c0, h0⟩ : ∃ c0, r.getD 0 0 = c0 := ⟨_, rfl⟩
    obtain ⟨c1, h1⟩ : ∃ c1, r.getD 1 0 = c1 := ⟨_, rfl⟩
    rw [h0] at x0
    rw [h1] at x1
    have H0 := Lib.hid h0
    have H1 := Lib.hid h1
    clear h0 h1 h2
    cases ha : digV c0.toNat with
    | none =>
      have HA := Lib.hid (fun w => idx_none ha w)
      have HE := Lib.hid (escd_no0 H0.out ha)
      clear ha
      go_enter Tryz.func138, Tryz.ntmps138
      go_wp2_with fail
      go_quiet (first | (go_at_call 174; with_reducible refine Calls.quiet_of_same (HA.out _)) | (go_at_call 174; with_reducible refine Calls.quiet_of_same (idx_dig c1 _)))
      go_wp2_with fail
      go_ret2
      exact ⟨⟨0, false, rfl, .inr ⟨rfl, HE.out⟩⟩, Below.drawn (Below.refl _ _) _⟩
    | some a =>
      have ha16 := (digV_some ha).1
      have HA := Lib.hid (fun w => idx_some ha w)
      have hna : decide ((a : Int) < 0) = false := by simp
      cases hb : digV c1.toNat with
      | none =>
        have HB := Lib.hid (fun w => idx_none hb w)
        have HE := Lib.hid (escd_no1 H1.out hb)
        clear ha hb
        go_enter Tryz.func138, Tryz.ntmps138
        go_wp2_with fail
        go_quiet (first | (go_at_call 174; with_reducible refine Calls.quiet_of_same (HA.out _)) | (go_at_call 174; with_reducible refine Calls.quiet_of_same (HB.out _)))
        go_wp2_with fail
        go_ret2
        exact ⟨⟨0, false, rfl, .inr ⟨rfl, HE.out⟩⟩, Below.drawn (Below.refl _ _) _⟩
      | some b =>
        have hb16 := (digV_some hb).1
        have HB := Lib.hid (fun w => idx_some hb w)
        have hnb : decide ((b : Int) < 0) = false := by simp
        have HE := Lib.hid (escd_first H0.out H1.out ha hb)
        have hyn : (UInt8.ofNat (16 * a + b)).toNat = 16 * a + b := by simp; omega
        have hor := or_digits a ha16 b hb16
        rw [← hyn] at hor
        generalize UInt8.ofNat (16 * a + b) = y at hor HE
        obtain ⟨p, hp⟩ : ∃ p, plainB y = p := ⟨_, rfl⟩
        have HP := Lib.hid (fun w => isplain_is hp w)
        rw [hp] at HE
        have hy := y.toNat_lt
        clear ha hb hp hyn
        go_enter Tryz.func138, Tryz.ntmps138
        go_wp2_with fail
        go_quiet (first | (go_at_call 174; with_reducible refine Calls.quiet_of_same (HA.out _)) | (go_at_call 174; with_reducible refine Calls.quiet_of_same (HB.out _)))
        go_wp2_with (go_at_call 133; (with_reducible refine (HP.out _).mono ?_); rintro e w3 ⟨rfl, rfl⟩)
        go_ret2
        refine ⟨⟨y, !p, rfl, ?_⟩, Below.drawn (Below.refl _ _) _⟩
        rw [HE.out]
        cases p
        · exact .inl ⟨rfl, rfl⟩
        · exact .inr ⟨rfl, rfl⟩
theorem escaped_yes {r : List UInt8} {c : UInt8} (h : escd r = some c) (w : World) (hr : r.length ≤ 1099511627776) :
    Calls Tryz.prog 138 #[.string (strOf r)] w fun e w' => e = .returned (.tuple #[.int .u8 ((c.toNat : Nat) : Int), .bool true]) ∧ Below w.heap.size w w' :=
  (escaped_any r w hr).mono fun _ _ ⟨⟨y, ok, h1, h2⟩, h3⟩ => by
    rcases h2 with ⟨rfl, h4⟩ | ⟨_, h4⟩
    · obtain rfl := Option.some.inj (h.symm.trans h4)
      exact ⟨h1, h3⟩
    · rw [h] at h4; cases h4
theorem escaped_no {r : List UInt8} (h : escd r = none) (w : World) (hr : r.length ≤ 1099511627776) :
    Calls Tryz.prog 138 #[.string (strOf r)] w fun e w' => (∃ y : UInt8, e = .returned (.tuple #[.int .u8 ((y.toNat : Nat) : Int), .bool false])) ∧ Below w.heap.size w w' :=
  (escaped_any r w hr).mono fun _ _ ⟨⟨y, ok, h1, h2⟩, h3⟩ => by
    rcases h2 with ⟨_, h4⟩ | ⟨rfl, _⟩
    · rw [h] at h4; cases h4
    · exact ⟨⟨y, h1⟩, h3⟩
end Go.Proofs.YtflpajbcomhkpaaGreatDoor
namespace Go.Proofs.YtflpajbcomhkpaaGreatDoor
open Go.RowKit

def printL : List UInt8 := [32, 39, 40, 41, 43, 44, 45, 46, 47, 58, 61, 63]
def isP (n : Nat) : Bool := alnum n || (decide (n < 128) && printL.contains (UInt8.ofNat n))

set_option maxHeartbeats 1000000 in
theorem vrune_any (n : Nat) (h : n ≤ 1114111) (w : World) :
    Calls Tryz.prog 289 #[.int .i32 (n : Int)] w fun e w' => e = .returned (.bool (Utf8.valid (n : Int))) ∧ w' = w := by
  rcases (by omega : (n < 55296) ∨ (55296 ≤ n ∧ n ≤ 57343) ∨ (57344 ≤ n)) with h1 | h1 | h1
  · have d0 : decide ((0 : Int) ≤ (n : Int)) = true := by simp
    have d1 : decide ((n : Int) < 55296) = true := by simp; omega
    have HR := Lib.hid (show Utf8.valid (n : Int) = true by unfold Utf8.valid; simp; omega)
    clear h1
    go_enter Tryz.func289, Tryz.ntmps289
    go_wp2_with fail
    go_ret
    exact ⟨by rw [HR.out]; rfl, rfl⟩
  · have d0 : decide ((0 : Int) ≤ (n : Int)) = true := by simp
    have d1 : decide ((n : Int) < 55296) = false := by simp; omega
    have d2 : decide ((57343 : Int) < (n : Int)) = false := by simp; omega
    have HR := Lib.hid (show Utf8.valid (n : Int) = false by unfold Utf8.valid; simp; omega)
    clear h1
    go_enter Tryz.func289, Tryz.ntmps289
    go_wp2_with fail
    go_ret
    exact ⟨by rw [HR.out]; rfl, rfl⟩
  · have d0 : decide ((0 : Int) ≤ (n : Int)) = true := by simp
    have d1 : decide ((n : Int) < 55296) = false := by simp; omega
    have d2 : decide ((57343 : Int) < (n : Int)) = true := by simp; omega
    have d3 : decide ((n : Int) ≤ 1114111) = true := by simp; omega
    have HR := Lib.hid (show Utf8.valid (n : Int) = true by unfold Utf8.valid; simp; omega)
    clear h1
    go_enter Tryz.func289, Tryz.ntmps289
    go_wp2_with fail
    go_ret
    exact ⟨by rw [HR.out]; rfl, rfl⟩
theorem vrune_is {n : Nat} {b : Bool} (hb : Utf8.valid (n : Int) = b) (h : n ≤ 1114111) (w : World) :
    Calls Tryz.prog 289 #[.int .i32 (n : Int)] w fun e w' => e = .returned (.bool b) ∧ w' = w := by
  have := vrune_any n h w
  rwa [hb] at this
theorem idx_absent {l : List UInt8} {c : UInt8} (h : l.contains c = false) : Lib.indexByte l c = -1 := by
  have h1 := idx_has l c
  have h2 := idx_ge l c
  rw [h] at h1
  have := of_decide_eq_false h1.symm
  omega

/-! ### A character beyond ASCII in an ASCII text -/
set_option maxRecDepth 100000 in
set_option maxHeartbeats 4000000 in
theorem irune_big (s : ByteArray) (hs : 4 ≤ s.size ∧ s.size ≤ 1000) (hasc : ∀ j, j < s.size → u8at s j < 128) (n : Nat) (h128 : 128 ≤ n) (hmax : n ≤ 1114111) (w : World) :
    Calls Tryz.prog 285 #[.string s, .int .i32 (n : Int)] w fun e w' => e = .returned (.int .i64 (-1)) ∧ Below w.heap.size w w' := by
  have HAS := Lib.hid hasc
  have d0 : decide ((0 : Int) ≤ (n : Int)) = true := by simp
  have d1 : decide ((n : Int) < 128) = false := by simp; omega
  clear hasc
  by_cases he : n = 65533
  · have d2 : ((n : Int) == 65533) = true := by rw [he]; rfl
    clear he
    go_enter Tryz.func285, Tryz.ntmps285
    go_wp2_with fail
    go_loopg [] s.size (fun gf wx => ∃ pos : Nat, wx.heap[w.heap.size]? = some (.stringIter s pos) ∧ Below w.heap.size w wx ∧ s.size ≤ pos + gf)
    case atStart => exact ⟨0, World.iter_heap w s 0, (Below.refl _ w).alloc (Nat.le_refl _) _, by omega⟩
    case round =>
      obtain ⟨pos, hit, hbw, hfu⟩ := hrel
      by_cases hps : pos < s.size
      · obtain ⟨g', rfl⟩ : ∃ g', gk = g' + 1 := ⟨gk - 1, by omega⟩
        have hnx : ∀ ty, (Instr.next (.pointer (some ⟨w.heap.size, 0, none⟩)) true ty).run Tryz.prog wr = _ := fun ty => Lib.run_next_any_at wr w.heap.size s pos ty hit hps
        have ha := HAS.out pos hps
        rw [u8at_get s pos hps] at ha
        rw [decode_ascii s pos hps ha] at hnx
        have hit2 := Lib.iterAt_heap wr w.heap.size s pos (pos + 1) hit
        have hbw2 := Lib.below_iterAt hbw (k := w.heap.size) (Nat.le_refl _) s (pos + 1)
        obtain ⟨W, hWd⟩ : ∃ W, wr.iterAt w.heap.size s (pos + 1) = W := ⟨_, rfl⟩
        simp only [hWd] at hnx hit2 hbw2
        generalize (s[pos]'hps).toNat = R at hnx ha
        have d3 : ((R : Int) == 65533) = false := by simp; omega
        have HIT := Lib.hid hit2
        have HBW := Lib.hid hbw2
        clear hit hbw hit2 hbw2 hWd
        go_wp2_with fail
        go_roundg g'
        case measure => omega
        case rel => exact ⟨pos + 1, HIT.out, HBW.out, by omega⟩
      · have hnx : ∀ ty, (Instr.next (.pointer (some ⟨w.heap.size, 0, none⟩)) true ty).run Tryz.prog wr = _ := fun ty => Lib.run_next_end_at wr w.heap.size s pos ty hit hps
        have HBW := Lib.hid hbw
        clear hbw
        go_wp2_with fail
        go_ret
        exact ⟨rfl, HBW.out⟩
  · have d2 : ((n : Int) == 65533) = false := by simp; omega
    clear he
    cases hv : Utf8.valid (n : Int) with
    | false =>
      have HV := Lib.hid (fun w => vrune_is hv hmax w)
      clear hv
      go_enter Tryz.func285, Tryz.ntmps285
      go_wp2_with (go_at_call 289; (with_reducible refine (HV.out _).mono ?_); rintro e w3 ⟨rfl, rfl⟩)
      go_ret
      exact ⟨rfl, Below.refl _ _⟩
    | true =>
      have HV := Lib.hid (fun w => vrune_is hv hmax w)
      obtain ⟨he1, he2, he3⟩ := encode_facts (n : Int) hv (by omega)
      have hcv := fun w => run_convert_int_string (P := Tryz.prog) w 21 9 .i32 (n : Int) (by kernel_rfl) Tryz.underlying9
      generalize Utf8.encode (n : Int) = E at he1 he2 he3 hcv
      obtain ⟨m, hm⟩ : ∃ m, E.size = m + 1 := ⟨E.size - 1, by omega⟩
      have hmi : (E.size : Int) - 1 = (m : Int) := by omega
      have hm3 : m ≤ 3 := by omega
      have hmE : m < E.size := by omega
      have hms : m < s.size := by omega
      have hx0 : 128 ≤ u8at E m := by
        rw [u8at_get E m hmE]
        have := he3 (by omega)
        simpa only [show E.size - 1 = m by omega] using this
      obtain ⟨x, hx, hxn⟩ := u8at_list E m hmE
      have hiE := fun w => run_index_u8 (P := Tryz.prog) Tryz.underlying9 E m hmE (m : Int) rfl w
      have hiS := fun w => run_index_u8 (P := Tryz.prog) Tryz.underlying9 s m hms (m : Int) rfl w
      have hp := HAS.out m hms
      rw [hxn] at hiE hx0
      generalize u8at s m = p at hiS hp
      have hne : ((p : Int) != ((x.toNat : Nat) : Int)) = true := by simp; omega
      obtain ⟨k1, hk1⟩ : ∃ k1, k1 = m + 1 := ⟨_, rfl⟩
      have hk1i : (m : Int) + 1 = (k1 : Int) := by omega
      have hk1b : (k1 : Int) ≤ (s.size : Int) := by omega
      have hk1n : k1 ≤ s.size := by omega
      have hmEi : (m : Int) < (E.size : Int) := by omega
      have hwr : IntKind.i64.wrap (k1 : Int) = (k1 : Int) := by rw [wrap_i64]; omega
      have hlt : decide ((m : Int) < (s.size : Int)) = true := by simp; omega
      have HI := Lib.hid (show Lib.indexByte (s.extract k1 s.size).data.toList x = -1 by
        have hex : (s.extract k1 s.size).data.toList = s.data.toList.drop k1 := by
          rw [ext_list_x]
          exact List.take_of_length_le (by rw [List.length_drop]; exact Nat.le_refl _)
        rw [hex]
        refine idx_absent ?_
        rw [List.contains_eq_any_beq, List.any_eq_false]
        intro b hb hbe
        have hb2 := List.mem_of_mem_drop hb
        obtain ⟨j, hj, hjb⟩ := List.getElem_of_mem hb2
        have h1 := HAS.out j hj
        rw [u8at_get s j hj] at h1
        have e3 : (s[j]'hj).toNat = (s.data.toList[j]).toNat := rfl
        have e4 : x = b := by first | exact eq_of_beq hbe | exact (eq_of_beq hbe).symm
        rw [e3, hjb, ← e4] at h1
        omega)
      clear hv he1 he2 he3 hm hx hxn hx0 hp hk1
      go_enter Tryz.func285, Tryz.ntmps285
      go_wp2_with (go_at_call 289; (with_reducible refine (HV.out _).mono ?_); rintro e w3 ⟨rfl, rfl⟩)
      go_step3
      go_wp2_with fail
      go_loopw [9] (fun i wx => i = .int .i64 (m : Int) ∧ wx = w3) (fun _ _ => 0)
      case atStart => exact ⟨rfl, rfl⟩
      case round =>
        obtain ⟨rfl, rfl⟩ := hrel
        go_wp2_with fail
        go_step3
        go_wp2_with fail
        go_region
        go_wp2_with fail
        have HBQ := Lib.hid (Below.drew (Below.refl wr.heap.size wr))
        generalize wr.drew = wq at HBQ ⊢
        go_quiet (first | (go_at_call 174; with_reducible refine Calls.quiet_of_same (idx_is HI.out _)))
        go_wp2_with fail
        rw [Exit.noGoto_ret]
        simp only [Exit.inBlock]
        simp +zetaDelta only [Exit.inBlock, Exit.then, Exit.noGoto_ret]
        go_ret
        exact ⟨rfl, Below.drawn HBQ.out _⟩
end Go.Proofs.YtflpajbcomhkpaaGreatDoor
namespace Go.Proofs.YtflpajbcomhkpaaGreatDoor
open Go.RowKit

theorem print_ascii : ∀ j, j < 12 → u8at ⟨#[32, 39, 40, 41, 43, 44, 45, 46, 47, 58, 61, 63]⟩ j < 128 := by decide
theorem crune_print (n : Nat) (hmax : n ≤ 1114111) (w : World) :
    Calls Tryz.prog 272 #[.string ⟨#[32, 39, 40, 41, 43, 44, 45, 46, 47, 58, 61, 63]⟩, .int .i32 (n : Int)] w fun e w' => e = .returned (.bool (decide (n < 128) && printL.contains (UInt8.ofNat n))) ∧ Below w.heap.size w w' := by
  by_cases h : n < 128
  · have := crune_any ⟨#[32, 39, 40, 41, 43, 44, 45, 46, 47, 58, 61, 63]⟩ n h w
    refine this.mono fun e w' ⟨h1, h2⟩ => ?_
    rw [h2, h1, decide_eq_true h, Bool.true_and]
    exact ⟨rfl, Below.refl _ _⟩
  · have HI := Lib.hid (fun w => irune_big ⟨#[32, 39, 40, 41, 43, 44, 45, 46, 47, 58, 61, 63]⟩ (by decide) print_ascii n (by omega) hmax w)
    rw [decide_eq_false h, Bool.false_and]
    clear h hmax
    go_enter Tryz.func272, Tryz.ntmps272
    go_wp2_with (go_at_call 285; (with_reducible refine (HI.out _).mono ?_); rintro e w1 ⟨rfl, hb1⟩; have HB1 := Lib.hid hb1; clear hb1)
    go_ret
    exact ⟨rfl, HB1.out⟩
theorem isp_any (n : Nat) (hmax : n ≤ 1114111) (w : World) :
    Calls Tryz.prog 234 #[.int .i32 (n : Int)] w fun e w' => e = .returned (.bool (isP n)) ∧ Below w.heap.size w w' := by
  obtain ⟨b, hb⟩ : ∃ b, (decide (n < 128) && printL.contains (UInt8.ofNat n)) = b := ⟨_, rfl⟩
  have HC := Lib.hid (fun w => crune_print n hmax w)
  rw [hb] at HC
  cases ha : alnum n with
  | true =>
    have HR := Lib.hid (show isP n = true by unfold isP; rw [ha]; rfl)
    have HA := Lib.hid (fun w => isal_is ha w)
    clear ha hb
    go_enter Tryz.func234, Tryz.ntmps234
    go_wp2_with (go_at_call 173; (with_reducible refine (HA.out _).mono ?_); rintro e w1 ⟨rfl, rfl⟩)
    go_ret
    exact ⟨by rw [HR.out]; rfl, Below.refl _ _⟩
  | false =>
    have HR := Lib.hid (show isP n = b by unfold isP; rw [ha, hb]; rfl)
    have HA := Lib.hid (fun w => isal_is ha w)
    clear ha hb
    go_enter Tryz.func234, Tryz.ntmps234
    go_wp2_with (first
      | (go_at_call 173; (with_reducible refine (HA.out _).mono ?_); rintro e w1 ⟨rfl, rfl⟩)
      | (go_at_call 272; (with_reducible refine (HC.out _).mono ?_); rintro e w2 ⟨rfl, hb1⟩; have HB1 := Lib.hid hb1; clear hb1))
    go_ret
    exact ⟨by rw [HR.out]; rfl, HB1.out⟩

/-- The function numbered g says of each character whether p holds, and leaves old memory alone. -/
def Pays (g : Nat) (p : Nat → Bool) : Prop := ∀ (n : Nat), n ≤ 1114111 → ∀ w, Calls Tryz.prog g #[.int .i32 (n : Int)] w fun e w' => e = .returned (.bool (p n)) ∧ Below w.heap.size w w'

set_option maxRecDepth 100000 in
set_option maxHeartbeats 4000000 in
theorem cons_any (g : Nat) (eg : ∀ args w, (callFunc g args).run Tryz.prog w = .ok (.enter g args) w) (p : Nat → Bool) (hp : Pays g p) (s : ByteArray) (w : World) :
    Calls Tryz.prog 232 #[.string s, .func (.func g) #[] #[]] w fun e w' => e = .returned (.bool (allD p s.data.toList)) ∧ Below w.heap.size w w' := by
  obtain ⟨ANS, hANS⟩ : ∃ ANS, allD p s.data.toList = ANS := ⟨_, rfl⟩
  rw [hANS]
  have HANS := Lib.hid hANS
  have HP := Lib.hid hp
  clear hANS hp
  go_enter Tryz.func232, Tryz.ntmps232
  go_wp2_with fail
  go_loopg [] s.size (fun gf wx => ∃ pos : Nat, wx.heap[w.heap.size]? = some (.stringIter s pos) ∧ Below w.heap.size w wx ∧ allD p (s.data.toList.drop pos) = ANS ∧ s.size ≤ pos + gf)
  case atStart => exact ⟨0, World.iter_heap w s 0, (Below.refl _ w).alloc (Nat.le_refl _) _, HANS.out, by omega⟩
  case round =>
    obtain ⟨pos, hit, hbw, hA, hfu⟩ := hrel
    by_cases hps : pos < s.size
    · obtain ⟨g', rfl⟩ : ∃ g', gk = g' + 1 := ⟨gk - 1, by omega⟩
      have hnx : ∀ ty, (Instr.next (.pointer (some ⟨w.heap.size, 0, none⟩)) true ty).run Tryz.prog wr = _ := fun ty => Lib.run_next_any_at wr w.heap.size s pos ty hit hps
      have hwd := Lib.width_pos s pos
      have hrl := Lib.rune_le s pos
      rw [allD_step p _ (by rw [Ne, List.drop_eq_nil_iff]; show ¬ s.size ≤ pos; omega), Lib.decodeL_drop, List.drop_drop] at hA
      obtain ⟨R, hR⟩ : ∃ R, (Utf8.decode s pos).1 = R := ⟨_, rfl⟩
      obtain ⟨K, hK⟩ : ∃ K, (Utf8.decode s pos).2 = K := ⟨_, rfl⟩
      rw [hR, hK] at hA
      rw [hR, hK] at hnx
      rw [hK] at hwd
      rw [hR] at hrl
      have hit2 := Lib.iterAt_heap wr w.heap.size s pos (pos + K) hit
      have hbw2 := Lib.below_iterAt hbw (k := w.heap.size) (Nat.le_refl _) s (pos + K)
      obtain ⟨W, hWd⟩ : ∃ W, wr.iterAt w.heap.size s (pos + K) = W := ⟨_, rfl⟩
      simp only [hWd] at hnx hit2 hbw2
      have hltW : w.heap.size < W.heap.size := (Array.getElem?_eq_some_iff.1 hit2).1
      have HC := Lib.hid (HP.out R hrl W)
      have HIT := Lib.hid hit2
      have HBW := Lib.hid hbw2
      have HLW := Lib.hid hltW
      clear hit hbw hit2 hbw2 hWd hltW hR hK
      cases hsp : p R with
      | true =>
        rw [hsp] at HC
        rw [hsp, Bool.true_and] at hA
        have HAA := Lib.hid hA
        clear hsp hA
        go_wp2_with (go_at_fn g; refine HC.out.mono ?_; rintro e W' ⟨rfl, hbc⟩; have HBC := Lib.hid hbc; clear hbc)
        go_roundg g'
        case measure => omega
        case rel => exact ⟨pos + K, (HBC.out.block _ HLW.out).trans HIT.out, HBW.out.trans (HBC.out.mono HBW.out.size), HAA.out, by omega⟩
      | false =>
        rw [hsp] at HC
        rw [hsp, Bool.false_and] at hA
        have HAA := Lib.hid hA
        clear hsp hA
        go_wp2_with (go_at_fn g; refine HC.out.mono ?_; rintro e W' ⟨rfl, hbc⟩; have HBC := Lib.hid hbc; clear hbc)
        go_ret
        exact ⟨by rw [← HAA.out]; rfl, HBW.out.trans (HBC.out.mono HBW.out.size)⟩
    · have hnx : ∀ ty, (Instr.next (.pointer (some ⟨w.heap.size, 0, none⟩)) true ty).run Tryz.prog wr = _ := fun ty => Lib.run_next_end_at wr w.heap.size s pos ty hit hps
      have HBW := Lib.hid hbw
      have HR := Lib.hid (show ANS = true by
        rw [← hA, List.drop_eq_nil_of_le (show s.data.toList.length ≤ pos by show s.size ≤ pos; omega)]
        rfl)
      clear hbw hA
      go_wp2_with fail
      go_ret
      exact ⟨by rw [HR.out]; rfl, HBW.out⟩
end Go.Proofs.YtflpajbcomhkpaaGreatDoor
