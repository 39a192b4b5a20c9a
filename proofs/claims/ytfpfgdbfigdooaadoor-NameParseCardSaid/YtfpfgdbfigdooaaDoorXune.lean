/-
  The contracts of escaped and text.Unescape of the program: the string whose escaped form is the given one, if there is one; nothing that was there before the call has changed.
-/
import Derived.Test.YtfpfgdbfigdooaaDoorMaf
import Derived.Deep.QuietTactic
import Derived.BigQuiet
namespace Go.Proofs.YtfpfgdbfigdooaaDoor
open Go.RowKit

theorem byte_at0 (b : ByteArray) (k : Nat) : u8at b k = (b.data.toList.getD k 0).toNat := rfl
theorem ext_list_x (r : ByteArray) (i j : Nat) : (r.extract i j).data.toList = (r.data.toList.drop i).take (j - i) := by
  rw [ByteArray.data_extract, Array.toList_extract, List.extract_eq_take_drop]
theorem slice_two (s : ByteArray) (i j : Nat) (hij : i ≤ j) (hj : j ≤ s.size) (a b : Int) (ha : a = (i : Int)) (hb : b = (j : Int)) (w : World) :
    (Instr.slice 9 (.string s) (some (.int .i64 a)) (some (.int .i64 b)) none).run Tryd.prog w = .ok (.string (strOf ((s.data.toList.drop i).take (j - i)))) w := by
  subst ha hb
  have := run_slice_string (P := Tryd.prog) w 9 s .i64 .i64 (i : Int) (j : Int) Tryd.underlying9 (by omega) (by omega) (by omega)
  rw [← strOf_of (ext_list_x s i j)]
  simpa using this
theorem slice_tail (s : ByteArray) (i : Nat) (hi : i ≤ s.size) (a : Int) (ha : a = (i : Int)) (w : World) :
    (Instr.slice 9 (.string s) (some (.int .i64 a)) none none).run Tryd.prog w = .ok (.string (strOf (s.data.toList.drop i))) w := by
  subst ha
  have := run_slice_string_from_if (P := Tryd.prog) w 9 s .i64 (i : Int) Tryd.underlying9
  rw [this, if_pos ⟨by omega, by omega⟩]
  have e : (s.extract i s.size).data.toList = s.data.toList.drop i := by
    rw [ext_list_x]
    exact List.take_of_length_le (by rw [List.length_drop]; exact Nat.le_refl _)
  rw [← strOf_of e]
  congr 3

/-! ### One byte in digits -/
def nibV (o : Option Nat) : Int := match o with | some v => (v : Int) | none => -1
def digitsL : List UInt8 := [48, 49, 50, 51, 52, 53, 54, 55, 56, 57, 97, 98, 99, 100, 101, 102]
set_option maxRecDepth 100000 in
theorem idx_dig_all : ∀ n, n < 256 → Lib.indexByte digitsL (UInt8.ofNat n) = nibV (digV n) := by decide +kernel
theorem idx_dig (c : UInt8) (w : World) : Calls Tryd.prog 93 #[.string ⟨#[48, 49, 50, 51, 52, 53, 54, 55, 56, 57, 97, 98, 99, 100, 101, 102]⟩, .int .u8 ((c.toNat : Nat) : Int)] w fun e w' => e = .returned (.int .i64 (nibV (digV c.toNat))) ∧ w' = w := by
  have h := idx_any ⟨#[48, 49, 50, 51, 52, 53, 54, 55, 56, 57, 97, 98, 99, 100, 101, 102]⟩ c w
  have e := idx_dig_all c.toNat c.toNat_lt
  rw [show UInt8.ofNat c.toNat = c by simp] at e
  rw [show (⟨#[48, 49, 50, 51, 52, 53, 54, 55, 56, 57, 97, 98, 99, 100, 101, 102]⟩ : ByteArray).data.toList = digitsL from rfl, e] at h
  exact h
theorem idx_some {c : UInt8} {v : Nat} (h : digV c.toNat = some v) (w : World) : Calls Tryd.prog 93 #[.string ⟨#[48, 49, 50, 51, 52, 53, 54, 55, 56, 57, 97, 98, 99, 100, 101, 102]⟩, .int .u8 ((c.toNat : Nat) : Int)] w fun e w' => e = .returned (.int .i64 (v : Int)) ∧ w' = w := by
  have := idx_dig c w
  rwa [h] at this
theorem idx_none {c : UInt8} (h : digV c.toNat = none) (w : World) : Calls Tryd.prog 93 #[.string ⟨#[48, 49, 50, 51, 52, 53, 54, 55, 56, 57, 97, 98, 99, 100, 101, 102]⟩, .int .u8 ((c.toNat : Nat) : Int)] w fun e w' => e = .returned (.int .i64 (-1)) ∧ w' = w := by
  have := idx_dig c w
  rwa [h] at this
set_option maxRecDepth 100000 in
theorem or_digits : ∀ a : Nat, a < 16 → ∀ b : Nat, b < 16 → bits BinOp.or .i64 ((a : Int) * 16) (b : Int) = ((16 * a + b : Nat) : Int) := by decide +kernel
/-- What escaped answers for the text r. -/
def Escd (r : List UInt8) (e : Ending) : Prop := ∃ (y : UInt8) (ok : Bool), e = .returned (.tuple #[.int .u8 ((y.toNat : Nat) : Int), .bool ok]) ∧ (ok = true ∧ escd r = some y ∨ ok = false ∧ escd r = none)
theorem escd_first {r : List UInt8} {c0 c1 : UInt8} (h0 : r.getD 0 0 = c0) (h1 : r.getD 1 0 = c1) {a b : Nat} (ha : digV c0.toNat = some a) (hb : digV c1.toNat = some b) : escd r = if plainB (UInt8.ofNat (16 * a + b)) = true then none else some (UInt8.ofNat (16 * a + b)) := by
  unfold escd
  rw [h0, h1, ha, hb]
theorem escd_no0 {r : List UInt8} {c0 : UInt8} (h0 : r.getD 0 0 = c0) (ha : digV c0.toNat = none) : escd r = none := by
  unfold escd
  rw [h0, ha]
theorem escd_no1 {r : List UInt8} {c1 : UInt8} (h1 : r.getD 1 0 = c1) (hb : digV c1.toNat = none) : escd r = none := by
  unfold escd
  rw [h1, hb]
  split
  · rename_i h; cases h
  · rfl
theorem escd_short {r : List UInt8} (h : r.length < 2) : escd r = none := by
  cases e : escd r with
  | none => rfl
  | some c => have := (escd_some e).1; omega

set_option maxRecDepth 100000 in
set_option maxHeartbeats 2000000 in
theorem escaped_any (r : List UInt8) (w : World) (hr : r.length ≤ 1099511627776) :
    Calls Tryd.prog 86 #[.string (strOf r)] w fun e w' => Escd r e ∧ Below w.heap.size w w' := by
  have hz : (strOf r).size = r.length := rfl
  by_cases h2 : r.length < 2
  · have d : decide ((r.length : Int) < 2) = true := by simp; omega
    have HE := Lib.hid (escd_short h2)
    clear h2
    go_enter Tryd.func86, Tryd.ntmps86
    go_wp2_with fail
    go_ret2
    exact ⟨⟨0, false, rfl, .inr ⟨rfl, HE.out⟩⟩, Below.refl _ _⟩
  · have d : decide ((r.length : Int) < 2) = false := by simp; omega
    have x0 := fun w => run_index_u8 (P := Tryd.prog) Tryd.underlying9 (strOf r) 0 (by omega) 0 rfl w
    have x1 := fun w => run_index_u8 (P := Tryd.prog) Tryd.underlying9 (strOf r) 1 (by omega) 1 rfl w
    rw [byte_at0, strOf_list] at x0 x1
    obtain ⟨c0, h0⟩ : ∃ c0, r.getD 0 0 = c0 := ⟨_, rfl⟩
    obtain ⟨c1, h1⟩ : ∃ c1, r.getD 1 0 = c1 := ⟨_, rfl⟩
    rw [h0] at x0
    rw [h1] at x1
    have H0 := Lib.hid h0
    have H1 := Lib.hid h1
    clear h0 h1 h2
    cases ha : digV c0.toNat with
    | none =>
      have HA := Lib.hid (fun w => idx_none ha w)
      have HE := Lib.hid (escd_no0 H0.out ha)
      clear ha
      go_enter Tryd.func86, Tryd.ntmps86
      go_wp2_with fail
      go_quiet (first | (go_at_call 93; with_reducible refine Calls.quiet_of_same (HA.out _)) | (go_at_call 93; with_reducible refine Calls.quiet_of_same (idx_dig c1 _)))
      go_wp2_with fail
      go_ret2
      exact ⟨⟨0, false, rfl, .inr ⟨rfl, HE.out⟩⟩, Below.drawn (Below.refl _ _) _⟩
    | some a =>
      have ha16 := (digV_some ha).1
      have HA := Lib.hid (fun w => idx_some ha w)
      have hna : decide ((a : Int) < 0) = false := by simp
      cases hb : digV c1.toNat with
      | none =>
        have HB := Lib.hid (fun w => idx_none hb w)
        have HE := Lib.hid (escd_no1 H1.out hb)
        clear ha hb
        go_enter Tryd.func86, Tryd.ntmps86
        go_wp2_with fail
        go_quiet (first | (go_at_call 93; with_reducible refine Calls.quiet_of_same (HA.out _)) | (go_at_call 93; with_reducible refine Calls.quiet_of_same (HB.out _)))
        go_wp2_with fail
        go_ret2
        exact ⟨⟨0, false, rfl, .inr ⟨rfl, HE.out⟩⟩, Below.drawn (Below.refl _ _) _⟩
      | some b =>
        have hb16 := (digV_some hb).1
        have HB := Lib.hid (fun w => idx_some hb w)
        have hnb : decide ((b : Int) < 0) = false := by simp
        have HE := Lib.hid (escd_first H0.out H1.out ha hb)
        have hyn : (UInt8.ofNat (16 * a + b)).toNat = 16 * a + b := by simp; omega
        have hor := or_digits a ha16 b hb16
        rw [← hyn] at hor
        generalize UInt8.ofNat (16 * a + b) = y at hor HE
        obtain ⟨p, hp⟩ : ∃ p, plainB y = p := ⟨_, rfl⟩
        have HP := Lib.hid (fun w => isplain_is hp w)
        rw [hp] at HE
        have hy := y.toNat_lt
        clear ha hb hp hyn
        go_enter Tryd.func86, Tryd.ntmps86
        go_wp2_with fail
        go_quiet (first | (go_at_call 93; with_reducible refine Calls.quiet_of_same (HA.out _)) | (go_at_call 93; with_reducible refine Calls.quiet_of_same (HB.out _)))
        go_wp2_with (go_at_call 85; (with_reducible refine (HP.out _).mono ?_); rintro e w3 ⟨rfl, rfl⟩)
        go_ret2
        refine ⟨⟨y, !p, rfl, ?_⟩, Below.drawn (Below.refl _ _) _⟩
        rw [HE.out]
        cases p
        · exact .inl ⟨rfl, rfl⟩
        · exact .inr ⟨rfl, rfl⟩
theorem escaped_yes {r : List UInt8} {c : UInt8} (h : escd r = some c) (w : World) (hr : r.length ≤ 1099511627776) :
    Calls Tryd.prog 86 #[.string (strOf r)] w fun e w' => e = .returned (.tuple #[.int .u8 ((c.toNat : Nat) : Int), .bool true]) ∧ Below w.heap.size w w' :=
  (escaped_any r w hr).mono fun _ _ ⟨⟨y, ok, h1, h2⟩, h3⟩ => by
    rcases h2 with ⟨rfl, h4⟩ | ⟨_, h4⟩
    · obtain rfl := Option.some.inj (h.symm.trans h4)
      exact ⟨h1, h3⟩
    · rw [h] at h4; cases h4
theorem escaped_no {r : List UInt8} (h : escd r = none) (w : World) (hr : r.length ≤ 1099511627776) :
    Calls Tryd.prog 86 #[.string (strOf r)] w fun e w' => (∃ y : UInt8, e = .returned (.tuple #[.int .u8 ((y.toNat : Nat) : Int), .bool false])) ∧ Below w.heap.size w w' :=
  (escaped_any r w hr).mono fun _ _ ⟨⟨y, ok, h1, h2⟩, h3⟩ => by
    rcases h2 with ⟨_, h4⟩ | ⟨rfl, _⟩
    · rw [h] at h4; cases h4
    · exact ⟨⟨y, h1⟩, h3⟩
end Go.Proofs.YtfpfgdbfigdooaaDoor
