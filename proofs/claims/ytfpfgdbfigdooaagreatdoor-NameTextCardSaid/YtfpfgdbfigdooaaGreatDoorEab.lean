/-
  The contracts of the functions that say of one character or byte whether it is in a set, and of the functions that make a letter small: isAlphanumeric, isUTF8, isIA5 and small of the program, Alnum of the reference.
  The contracts of strings.IndexByte and of strings.ContainsRune at an ASCII character: the library's theorems, laid at the program's own numbers. Nothing is claimed of the program beyond its bodies.
  Plain laws of texts as sequences of characters: which texts consist of characters of a set, and which are well-formed without control characters. Nothing is claimed of the program here.
  The contracts of isPlain of the program, and of Among and plain of the reference: whether a byte is one that is not escaped.
-/
import Derived.Test.YtfpfgdbfigdooaaGreatDoorEaa
import Derived.Shelf.Strings.Runes
import Derived.Lib.ValidLaws
namespace Go.Proofs.YtfpfgdbfigdooaaGreatDoor
open Go.RowKit

set_option maxHeartbeats 1000000 in
theorem isal_any (n : Nat) (w : World) :
    Calls Tryz.prog 147 #[.int .i32 (n : Int)] w fun e w' => e = .returned (.bool (alnum n)) ∧ w' = w := by
  rcases (by omega : (n < 48) ∨ (48 ≤ n ∧ n ≤ 57) ∨ (58 ≤ n ∧ n ≤ 64) ∨ (65 ≤ n ∧ n ≤ 90) ∨ (91 ≤ n ∧ n ≤ 96) ∨ (97 ≤ n ∧ n ≤ 122) ∨ (123 ≤ n)) with h | h | h | h | h | h | h
  · have hr : alnum n = false := by simp [alnum]; omega
    have d0 : decide ((65 : Int) ≤ (n : Int)) = false := by simp; omega
    have d1 : decide ((n : Int) ≤ 90) = true := by simp; omega
    have d2 : decide ((97 : Int) ≤ (n : Int)) = false := by simp; omega
    have d3 : decide ((n : Int) ≤ 122) = true := by simp; omega
    have d4 : decide ((48 : Int) ≤ (n : Int)) = false := by simp; omega
    have d5 : decide ((n : Int) ≤ 57) = true := by simp; omega
    have HR := Lib.hid hr
    clear hr h
    go_enter Tryz.func147, Tryz.ntmps147
    go_wp2_with fail
    go_ret
    exact ⟨by rw [HR.out]; rfl, rfl⟩
  · have hr : alnum n = true := by simp [alnum]; omega
    have d0 : decide ((65 : Int) ≤ (n : Int)) = false := by simp; omega
    have d1 : decide ((n : Int) ≤ 90) = true := by simp; omega
    have d2 : decide ((97 : Int) ≤ (n : Int)) = false := by simp; omega
    have d3 : decide ((n : Int) ≤ 122) = true := by simp; omega
    have d4 : decide ((48 : Int) ≤ (n : Int)) = true := by simp; omega
    have d5 : decide ((n : Int) ≤ 57) = true := by simp; omega
    have HR := Lib.hid hr
    clear hr h
    go_enter Tryz.func147, Tryz.ntmps147
    go_wp2_with fail
    go_ret
    exact ⟨by rw [HR.out]; rfl, rfl⟩
  · have hr : alnum n = false := by simp [alnum]; omega
    have d0 : decide ((65 : Int) ≤ (n : Int)) = false := by simp; omega
    have d1 : decide ((n : Int) ≤ 90) = true := by simp; omega
    have d2 : decide ((97 : Int) ≤ (n : Int)) = false := by simp; omega
    have d3 : decide ((n : Int) ≤ 122) = true := by simp; omega
    have d4 : decide ((48 : Int) ≤ (n : Int)) = true := by simp; omega
    have d5 : decide ((n : Int) ≤ 57) = false := by simp; omega
    have HR := Lib.hid hr
    clear hr h
    go_enter Tryz.func147, Tryz.ntmps147
    go_wp2_with fail
    go_ret
    exact ⟨by rw [HR.out]; rfl, rfl⟩
  · have hr : alnum n = true := by simp [alnum]; omega
    have d0 : decide ((65 : Int) ≤ (n : Int)) = true := by simp; omega
    have d1 : decide ((n : Int) ≤ 90) = true := by simp; omega
    have d2 : decide ((97 : Int) ≤ (n : Int)) = false := by simp; omega
    have d3 : decide ((n : Int) ≤ 122) = true := by simp; omega
    have d4 : decide ((48 : Int) ≤ (n : Int)) = true := by simp; omega
    have d5 : decide ((n : Int) ≤ 57) = false := by simp; omega
    have HR := Lib.hid hr
    clear hr h
    go_enter Tryz.func147, Tryz.ntmps147
    go_wp2_with fail
    go_ret
    exact ⟨by rw [HR.out]; rfl, rfl⟩
  · have hr : alnum n = false := by simp [alnum]; omega
    have d0 : decide ((65 : Int) ≤ (n : Int)) = true := by simp; omega
    have d1 : decide ((n : Int) ≤ 90) = false := by simp; omega
    have d2 : decide ((97 : Int) ≤ (n : Int)) = false := by simp; omega
    have d3 : decide ((n : Int) ≤ 122) = true := by simp; omega
    have d4 : decide ((48 : Int) ≤ (n : Int)) = true := by simp; omega
    have d5 : decide ((n : Int) ≤ 57) = false := by simp; omega
    have HR := Lib.hid hr
    clear hr h
    go_enter Tryz.func147, Tryz.ntmps147
    go_wp2_with fail
    go_ret
    exact ⟨by rw [HR.out]; rfl, rfl⟩
  · have hr : alnum n = true := by simp [alnum]; omega
    have d0 : decide ((65 : Int) ≤ (n : Int)) = true := by simp; omega
    have d1 : decide ((n : Int) ≤ 90) = false := by simp; omega
    have d2 : decide ((97 : Int) ≤ (n : Int)) = true := by simp; omega
    have d3 : decide ((n : Int) ≤ 122) = true := by simp; omega
    have d4 : decide ((48 : Int) ≤ (n : Int)) = true := by simp; omega
    have d5 : decide ((n : Int) ≤ 57) = false := by simp; omega
    have HR := Lib.hid hr
    clear hr h
    go_enter Tryz.func147, Tryz.ntmps147
    go_wp2_with fail
    go_ret
    exact ⟨by rw [HR.out]; rfl, rfl⟩
  · have hr : alnum n = false := by simp [alnum]; omega
    have d0 : decide ((65 : Int) ≤ (n : Int)) = true := by simp; omega
    have d1 : decide ((n : Int) ≤ 90) = false := by simp; omega
    have d2 : decide ((97 : Int) ≤ (n : Int)) = true := by simp; omega
    have d3 : decide ((n : Int) ≤ 122) = false := by simp; omega
    have d4 : decide ((48 : Int) ≤ (n : Int)) = true := by simp; omega
    have d5 : decide ((n : Int) ≤ 57) = false := by simp; omega
    have HR := Lib.hid hr
    clear hr h
    go_enter Tryz.func147, Tryz.ntmps147
    go_wp2_with fail
    go_ret
    exact ⟨by rw [HR.out]; rfl, rfl⟩
set_option maxHeartbeats 1000000 in
theorem ralnum_any (n : Nat) (w : World) :
    Calls Tryz.prog 107 #[.int .u8 (n : Int)] w fun e w' => e = .returned (.bool (alnum n)) ∧ w' = w := by
  rcases (by omega : (n < 48) ∨ (48 ≤ n ∧ n ≤ 57) ∨ (58 ≤ n ∧ n ≤ 64) ∨ (65 ≤ n ∧ n ≤ 90) ∨ (91 ≤ n ∧ n ≤ 96) ∨ (97 ≤ n ∧ n ≤ 122) ∨ (123 ≤ n)) with h | h | h | h | h | h | h
  · have hr : alnum n = false := by simp [alnum]; omega
    have d0 : decide ((65 : Int) ≤ (n : Int)) = false := by simp; omega
    have d1 : decide ((n : Int) ≤ 90) = true := by simp; omega
    have d2 : decide ((97 : Int) ≤ (n : Int)) = false := by simp; omega
    have d3 : decide ((n : Int) ≤ 122) = true := by simp; omega
    have d4 : decide ((48 : Int) ≤ (n : Int)) = false := by simp; omega
    have d5 : decide ((n : Int) ≤ 57) = true := by simp; omega
    have HR := Lib.hid hr
    clear hr h
    go_enter Tryz.func107, Tryz.ntmps107
    go_wp2_with fail
    go_ret
    exact ⟨by rw [HR.out]; rfl, rfl⟩
  · have hr : alnum n = true := by simp [alnum]; omega
    have d0 : decide ((65 : Int) ≤ (n : Int)) = false := by simp; omega
    have d1 : decide ((n : Int) ≤ 90) = true := by simp; omega
    have d2 : decide ((97 : Int) ≤ (n : Int)) = false := by simp; omega
    have d3 : decide ((n : Int) ≤ 122) = true := by simp; omega
    have d4 : decide ((48 : Int) ≤ (n : Int)) = true := by simp; omega
    have d5 : decide ((n : Int) ≤ 57) = true := by simp; omega
    have HR := Lib.hid hr
    clear hr h
    go_enter Tryz.func107, Tryz.ntmps107
    go_wp2_with fail
    go_ret
    exact ⟨by rw [HR.out]; rfl, rfl⟩
  · have hr : alnum n = false := by simp [alnum]; omega
    have d0 : decide ((65 : Int) ≤ (n : Int)) = false := by simp; omega
    have d1 : decide ((n : Int) ≤ 90) = true := by simp; omega
    have d2 : decide ((97 : Int) ≤ (n : Int)) = false := by simp; omega
    have d3 : decide ((n : Int) ≤ 122) = true := by simp; omega
    have d4 : decide ((48 : Int) ≤ (n : Int)) = true := by simp; omega
    have d5 : decide ((n : Int) ≤ 57) = false := by simp; omega
    have HR := Lib.hid hr
    clear hr h
    go_enter Tryz.func107, Tryz.ntmps107
    go_wp2_with fail
    go_ret
    exact ⟨by rw [HR.out]; rfl, rfl⟩
  · have hr : alnum n = true := by simp [alnum]; omega
    have d0 : decide ((65 : Int) ≤ (n : Int)) = true := by simp; omega
    have d1 : decide ((n : Int) ≤ 90) = true := by simp; omega
    have d2 : decide ((97 : Int) ≤ (n : Int)) = false := by simp; omega
    have d3 : decide ((n : Int) ≤ 122) = true := by simp; omega
    have d4 : decide ((48 : Int) ≤ (n : Int)) = true := by simp; omega
    have d5 : decide ((n : Int) ≤ 57) = false := by simp; omega
    have HR := Lib.hid hr
    clear hr h
    go_enter Tryz.func107, Tryz.ntmps107
    go_wp2_with fail
    go_ret
    exact ⟨by rw [HR.out]; rfl, rfl⟩
  · have hr : alnum n = false := by simp [alnum]; omega
    have d0 : decide ((65 : Int) ≤ (n : Int)) = true := by simp; omega
    have d1 : decide ((n : Int) ≤ 90) = false := by simp; omega
    have d2 : decide ((97 : Int) ≤ (n : Int)) = false := by simp; omega
    have d3 : decide ((n : Int) ≤ 122) = true := by simp; omega
    have d4 : decide ((48 : Int) ≤ (n : Int)) = true := by simp; omega
    have d5 : decide ((n : Int) ≤ 57) = false := by simp; omega
    have HR := Lib.hid hr
    clear hr h
    go_enter Tryz.func107, Tryz.ntmps107
    go_wp2_with fail
    go_ret
    exact ⟨by rw [HR.out]; rfl, rfl⟩
  · have hr : alnum n = true := by simp [alnum]; omega
    have d0 : decide ((65 : Int) ≤ (n : Int)) = true := by simp; omega
    have d1 : decide ((n : Int) ≤ 90) = false := by simp; omega
    have d2 : decide ((97 : Int) ≤ (n : Int)) = true := by simp; omega
    have d3 : decide ((n : Int) ≤ 122) = true := by simp; omega
    have d4 : decide ((48 : Int) ≤ (n : Int)) = true := by simp; omega
    have d5 : decide ((n : Int) ≤ 57) = false := by simp; omega
    have HR := Lib.hid hr
    clear hr h
    go_enter Tryz.func107, Tryz.ntmps107
    go_wp2_with fail
    go_ret
    exact ⟨by rw [HR.out]; rfl, rfl⟩
  · have hr : alnum n = false := by simp [alnum]; omega
    have d0 : decide ((65 : Int) ≤ (n : Int)) = true := by simp; omega
    have d1 : decide ((n : Int) ≤ 90) = false := by simp; omega
    have d2 : decide ((97 : Int) ≤ (n : Int)) = true := by simp; omega
    have d3 : decide ((n : Int) ≤ 122) = false := by simp; omega
    have d4 : decide ((48 : Int) ≤ (n : Int)) = true := by simp; omega
    have d5 : decide ((n : Int) ≤ 57) = false := by simp; omega
    have HR := Lib.hid hr
    clear hr h
    go_enter Tryz.func107, Tryz.ntmps107
    go_wp2_with fail
    go_ret
    exact ⟨by rw [HR.out]; rfl, rfl⟩

def isU (n : Nat) : Bool := decide (31 < n) && !(n == 127)
def isI (n : Nat) : Bool := decide (31 < n) && decide (n < 127)
set_option maxHeartbeats 1000000 in
theorem isu_any (n : Nat) (w : World) :
    Calls Tryz.prog 137 #[.int .i32 (n : Int)] w fun e w' => e = .returned (.bool (isU n)) ∧ w' = w := by
  obtain ⟨b1, h1⟩ : ∃ b, decide ((31 : Int) < (n : Int)) = b := ⟨_, rfl⟩
  obtain ⟨b2, h2⟩ : ∃ b, ((n : Int) == 127) = b := ⟨_, rfl⟩
  have h3 : ((n : Int) != 127) = !b2 := by rw [← h2]; rfl
  have HR := Lib.hid (show isU n = (b1 && !b2) by
    rw [← h1, ← h2, Bool.eq_iff_iff]
    simp [isU]; omega)
  clear h2
  cases b1 <;> cases b2
  all_goals
    go_enter Tryz.func137, Tryz.ntmps137
    go_wp2_with fail
    go_ret
    exact ⟨by rw [HR.out]; rfl, rfl⟩
set_option maxHeartbeats 1000000 in
theorem isi_any (n : Nat) (w : World) :
    Calls Tryz.prog 139 #[.int .i32 (n : Int)] w fun e w' => e = .returned (.bool (isI n)) ∧ w' = w := by
  obtain ⟨b1, h1⟩ : ∃ b, decide ((31 : Int) < (n : Int)) = b := ⟨_, rfl⟩
  obtain ⟨b2, h2⟩ : ∃ b, decide ((n : Int) < (127 : Int)) = b := ⟨_, rfl⟩
  have HR := Lib.hid (show isI n = (b1 && b2) by
    rw [← h1, ← h2, Bool.eq_iff_iff]
    simp [isI]; omega)
  cases b1 <;> cases b2
  all_goals
    go_enter Tryz.func139, Tryz.ntmps139
    go_wp2_with fail
    go_ret
    exact ⟨by rw [HR.out]; rfl, rfl⟩
set_option maxHeartbeats 1000000 in
theorem small_any (c : UInt8) (w : World) :
    Calls Tryz.prog 76 #[.int .u8 ((c.toNat : Nat) : Int)] w fun e w' => e = .returned (.int .u8 (((small c).toNat : Nat) : Int)) ∧ w' = w := by
  by_cases h : 65 ≤ c.toNat ∧ c.toNat ≤ 90
  · have HS := Lib.hid (small_big h)
    obtain ⟨n, hn⟩ : ∃ n, n = c.toNat := ⟨_, rfl⟩
    rw [← hn] at h HS ⊢
    have d1 : decide ((65 : Int) ≤ (n : Int)) = true := by simp; omega
    have d2 : decide ((n : Int) ≤ 90) = true := by simp; omega
    obtain ⟨m, hm⟩ : ∃ m, m = (small c).toNat := ⟨_, rfl⟩
    rw [← hm] at HS ⊢
    have HM := Lib.hid (show (m : Int) = (n : Int) - 65 + 97 by have := HS.out; omega)
    clear hm hn
    go_enter Tryz.func76, Tryz.ntmps76
    go_wp2_with fail
    go_ret
    exact ⟨by rw [HM.out]; rfl, rfl⟩
  · have HS := Lib.hid (small_low h)
    obtain ⟨n, hn⟩ : ∃ n, n = c.toNat := ⟨_, rfl⟩
    have HN := Lib.hid (show small c = c → (small c).toNat = n from fun e => by rw [e, hn])
    rw [← hn] at h ⊢
    clear hn
    by_cases h1 : 65 ≤ n
    · have d1 : decide ((65 : Int) ≤ (n : Int)) = true := by simp; omega
      have d2 : decide ((n : Int) ≤ 90) = false := by simp; omega
      clear h
      go_enter Tryz.func76, Tryz.ntmps76
      go_wp2_with fail
      go_ret
      exact ⟨by rw [HN.out HS.out]; rfl, rfl⟩
    · have d1 : decide ((65 : Int) ≤ (n : Int)) = false := by simp; omega
      clear h
      go_enter Tryz.func76, Tryz.ntmps76
      go_wp2_with fail
      go_ret
      exact ⟨by rw [HN.out HS.out]; rfl, rfl⟩
end Go.Proofs.YtfpfgdbfigdooaaGreatDoor
namespace Go.Proofs.YtfpfgdbfigdooaaGreatDoor
open Go.Shelf Go.RowKit

def lays137_ren : Go.Shelf.Ren := ⟨fun | 137 => 148 | 217 => 181 | 266 => 195 | n => n, fun | 3 => 3 | 5 => 5 | 9 => 9 | n => n, fun | n => n⟩
theorem lays137 : Go.Proofs.Lays.n137 Tryz.prog lays137_ren := {
  mixed := by kernel_rfl
  f137 := Tryz.func148.trans (congrArg some (by kernel_rfl))
  f217 := Tryz.func181.trans (congrArg some (by kernel_rfl))
  f266 := Tryz.func195.trans (congrArg some (by kernel_rfl))
  t3 := Tryz.underlying3
  a3 := Tryz.isAgg3
  z3 := Tryz.sizeOf3
  v3 := Tryz.zeroValue3
  t5 := Tryz.underlying5
  a5 := Tryz.isAgg5
  z5 := Tryz.sizeOf5
  v5 := Tryz.zeroValue5
  t9 := Tryz.underlying9
  a9 := Tryz.isAgg9
  z9 := Tryz.sizeOf9
  v9 := Tryz.zeroValue9 }
def lays152_ren : Go.Shelf.Ren := ⟨fun | 119 => 201 | 137 => 148 | 152 => 193 | 217 => 181 | 224 => 199 | 225 => 198 | 266 => 195 | n => n, fun | 0 => 0 | 3 => 3 | 4 => 4 | 5 => 5 | 9 => 9 | 21 => 21 | 46 => 101 | n => n, fun | n => n⟩
theorem lays152 : Go.Proofs.Lays.n152 Tryz.prog lays152_ren := {
  mixed := by kernel_rfl
  f119 := Tryz.func201.trans (congrArg some (by kernel_rfl))
  f137 := Tryz.func148.trans (congrArg some (by kernel_rfl))
  f152 := Tryz.func193.trans (congrArg some (by kernel_rfl))
  f217 := Tryz.func181.trans (congrArg some (by kernel_rfl))
  f224 := Tryz.func199.trans (congrArg some (by kernel_rfl))
  f225 := Tryz.func198.trans (congrArg some (by kernel_rfl))
  f266 := Tryz.func195.trans (congrArg some (by kernel_rfl))
  t0 := Tryz.underlying0
  a0 := Tryz.isAgg0
  z0 := Tryz.sizeOf0
  v0 := Tryz.zeroValue0
  t3 := Tryz.underlying3
  a3 := Tryz.isAgg3
  z3 := Tryz.sizeOf3
  v3 := Tryz.zeroValue3
  t4 := Tryz.underlying4
  a4 := Tryz.isAgg4
  z4 := Tryz.sizeOf4
  v4 := Tryz.zeroValue4
  t5 := Tryz.underlying5
  a5 := Tryz.isAgg5
  z5 := Tryz.sizeOf5
  v5 := Tryz.zeroValue5
  t9 := Tryz.underlying9
  a9 := Tryz.isAgg9
  z9 := Tryz.sizeOf9
  v9 := Tryz.zeroValue9
  t21 := Tryz.underlying21
  a21 := Tryz.isAgg21
  z21 := Tryz.sizeOf21
  v21 := Tryz.zeroValue21
  t46 := Tryz.underlying101
  a46 := Tryz.isAgg101
  z46 := Tryz.sizeOf101
  v46 := Tryz.zeroValue101 }
def lays151_ren : Go.Shelf.Ren := ⟨fun | 119 => 201 | 137 => 148 | 151 => 177 | 152 => 193 | 217 => 181 | 224 => 199 | 225 => 198 | 266 => 195 | n => n, fun | 0 => 0 | 3 => 3 | 4 => 4 | 5 => 5 | 9 => 9 | 21 => 21 | 46 => 101 | n => n, fun | n => n⟩
theorem lays151 : Go.Proofs.Lays.n151 Tryz.prog lays151_ren := {
  mixed := by kernel_rfl
  f119 := Tryz.func201.trans (congrArg some (by kernel_rfl))
  f137 := Tryz.func148.trans (congrArg some (by kernel_rfl))
  f151 := Tryz.func177.trans (congrArg some (by kernel_rfl))
  f152 := Tryz.func193.trans (congrArg some (by kernel_rfl))
  f217 := Tryz.func181.trans (congrArg some (by kernel_rfl))
  f224 := Tryz.func199.trans (congrArg some (by kernel_rfl))
  f225 := Tryz.func198.trans (congrArg some (by kernel_rfl))
  f266 := Tryz.func195.trans (congrArg some (by kernel_rfl))
  t0 := Tryz.underlying0
  a0 := Tryz.isAgg0
  z0 := Tryz.sizeOf0
  v0 := Tryz.zeroValue0
  t3 := Tryz.underlying3
  a3 := Tryz.isAgg3
  z3 := Tryz.sizeOf3
  v3 := Tryz.zeroValue3
  t4 := Tryz.underlying4
  a4 := Tryz.isAgg4
  z4 := Tryz.sizeOf4
  v4 := Tryz.zeroValue4
  t5 := Tryz.underlying5
  a5 := Tryz.isAgg5
  z5 := Tryz.sizeOf5
  v5 := Tryz.zeroValue5
  t9 := Tryz.underlying9
  a9 := Tryz.isAgg9
  z9 := Tryz.sizeOf9
  v9 := Tryz.zeroValue9
  t21 := Tryz.underlying21
  a21 := Tryz.isAgg21
  z21 := Tryz.sizeOf21
  v21 := Tryz.zeroValue21
  t46 := Tryz.underlying101
  a46 := Tryz.isAgg101
  z46 := Tryz.sizeOf101
  v46 := Tryz.zeroValue101 }

theorem idx_ge : ∀ (l : List UInt8) (b : UInt8), -1 ≤ Lib.indexByte l b
  | [], _ => by simp [Lib.indexByte]
  | c :: l, b => by
    have := idx_ge l b
    simp only [Lib.indexByte]
    split
    · omega
    · split <;> omega
theorem idx_has : ∀ (l : List UInt8) (b : UInt8), l.contains b = decide (0 ≤ Lib.indexByte l b)
  | [], _ => rfl
  | c :: l, b => by
    have ih := idx_has l b
    have hg := idx_ge l b
    rw [List.contains_cons, ih, Bool.eq_iff_iff]
    simp only [Lib.indexByte, Bool.or_eq_true, decide_eq_true_eq, beq_iff_eq]
    by_cases e : c = b
    · subst e; simp
    · rw [if_neg e]
      have e1 : ¬ b = c := fun h => e h.symm
      by_cases k : Lib.indexByte l b = -1
      · rw [if_pos k, k]; simp [e1]
      · rw [if_neg k]
        constructor
        · rintro (h | h)
          · exact absurd h e1
          · omega
        · intro h
          right; omega
theorem idx_any (s : ByteArray) (c : UInt8) (w : World) : Calls Tryz.prog 148 #[.string s, .int .u8 ((c.toNat : Nat) : Int)] w fun e w' => e = .returned (.int .i64 (Lib.indexByte s.data.toList c)) ∧ w' = w := by
  have h := Any.strings_IndexByte lays137 s ((c.toNat : Nat) : Int) w
  have e : ((c.toNat : Nat) : Int).toNat.toUInt8 = c := by simp
  rw [e] at h
  exact h
theorem crune_any (s : ByteArray) (n : Nat) (hn : n < 128) (w : World) : Calls Tryz.prog 177 #[.string s, .int .i32 ((n : Nat) : Int)] w fun e w' => e = .returned (.bool (s.data.toList.contains (UInt8.ofNat n))) ∧ w' = w := by
  have h := Any.strings_ContainsRune_ascii lays151 s ((n : Nat) : Int) w (by omega) (by omega)
  have e : ((n : Nat) : Int).toNat.toUInt8 = UInt8.ofNat n := rfl
  rw [e, ← idx_has] at h
  exact h
end Go.Proofs.YtfpfgdbfigdooaaGreatDoor
namespace Go.Proofs.YtfpfgdbfigdooaaGreatDoor
open Go.RowKit

/-- Whether each character of a text is in a set. -/
def allGo (p : Nat → Bool) : Nat → List UInt8 → Bool
  | 0, _ => true
  | n + 1, l => if l = [] then true else p (Lib.decodeL l).1 && allGo p n (l.drop (Lib.decodeL l).2)
def allD (p : Nat → Bool) (l : List UInt8) : Bool := allGo p l.length l
theorem allGo_nil (p : Nat → Bool) : ∀ n, allGo p n [] = true
  | 0 => rfl
  | _ + 1 => by simp [allGo]
theorem allGo_fuel (p : Nat → Bool) : ∀ (n m : Nat) (l : List UInt8), l.length ≤ n → l.length ≤ m → allGo p n l = allGo p m l
  | 0, m, l, hn, _ => by
    obtain rfl : l = [] := List.eq_nil_of_length_eq_zero (by omega)
    rw [allGo_nil, allGo_nil]
  | n + 1, 0, l, _, hm => by
    obtain rfl : l = [] := List.eq_nil_of_length_eq_zero (by omega)
    rw [allGo_nil, allGo_nil]
  | n + 1, m + 1, l, hn, hm => by
    unfold allGo
    by_cases hne : l = []
    · simp [hne]
    · have hw := Lib.decodeL_width l
      have hl : 0 < l.length := List.length_pos_iff.2 hne
      rw [if_neg hne, if_neg hne, allGo_fuel p n m (l.drop (Lib.decodeL l).2) (by rw [List.length_drop]; omega) (by rw [List.length_drop]; omega)]
theorem allD_nil (p : Nat → Bool) : allD p [] = true := rfl
theorem allD_step (p : Nat → Bool) (l : List UInt8) (hne : l ≠ []) : allD p l = (p (Lib.decodeL l).1 && allD p (l.drop (Lib.decodeL l).2)) := by
  have hl : 0 < l.length := List.length_pos_iff.2 hne
  have hw := Lib.decodeL_width l
  obtain ⟨n, hn⟩ : ∃ n, l.length = n + 1 := ⟨l.length - 1, by omega⟩
  unfold allD
  rw [hn]
  show (if l = [] then true else _) = _
  rw [if_neg hne, allGo_fuel p n (l.drop (Lib.decodeL l).2).length _ (by rw [List.length_drop]; omega) (Nat.le_refl _)]
theorem high_rune (b : UInt8) (t : List UInt8) (h : 128 ≤ b.toNat) : 128 ≤ (Lib.decodeL (b :: t)).1 :=
  (decode_high ⟨(b :: t).toArray⟩ 0 (by show 0 < (b :: t).length; simp) h).1
/-- A set of ASCII characters is asked byte by byte. -/
theorem allD_ascii (p : Nat → Bool) (hp : ∀ n, 128 ≤ n → p n = false) : ∀ (n : Nat) (l : List UInt8), l.length ≤ n → allD p l = l.all fun b => p b.toNat
  | _, [], _ => rfl
  | 0, b :: t, h => by simp at h
  | n + 1, b :: t, h => by
    rw [allD_step p _ (by simp), List.all_cons]
    by_cases hb : b.toNat < 128
    · rw [Lib.decodeL_ascii b t hb]
      show (p b.toNat && allD p t) = _
      rw [allD_ascii p hp n t (by simp at h; omega)]
    · rw [hp _ (high_rune b t (by omega)), hp b.toNat (by omega), Bool.false_and, Bool.false_and]

/-- The texts that may be contents of a string of TagUTF8. -/
def okU (l : List UInt8) : Bool := Lib.validD l && allD isU l
theorem okU_nil : okU [] = true := rfl
theorem okU_low (b : UInt8) (t : List UInt8) (h : b.toNat < 128) : okU (b :: t) = (isU b.toNat && okU t) := by
  unfold okU
  rw [Lib.validD_cons b t h, allD_step _ _ (by simp), Lib.decodeL_ascii b t h]
  show (Lib.validD t && (isU b.toNat && allD isU t)) = _
  rw [← Bool.and_assoc, Bool.and_comm (Lib.validD t), Bool.and_assoc]
theorem okU_high (b : UInt8) (t : List UInt8) (h : 128 ≤ b.toNat) : okU (b :: t) = if (Lib.decodeL (b :: t)).1 = 65533 ∧ (Lib.decodeL (b :: t)).2 = 1 then false else okU ((b :: t).drop (Lib.decodeL (b :: t)).2) := by
  unfold okU
  rw [Lib.validD_step _ (by simp), allD_step _ _ (by simp)]
  split
  · simp
  · have h1 := high_rune b t h
    have : isU (Lib.decodeL (b :: t)).1 = true := by
      unfold isU
      simp
      omega
    rw [this, Bool.true_and]
theorem getD_drop (l : List UInt8) (i j : Nat) : (l.drop i).getD j 0 = l.getD (i + j) 0 := by
  rw [List.getD_eq_getElem?_getD, List.getD_eq_getElem?_getD, List.getElem?_drop]
/-- What the decoder finds at a place. -/
theorem dec_at (s : ByteArray) (i : Nat) : Lib.decodeL (s.data.toList.drop i) = Lib.decodeN (s.size - i) (u8at s i) (u8at s (i + 1)) (u8at s (i + 2)) (u8at s (i + 3)) := by
  rw [Lib.decodeL_N, List.length_drop, getD_drop, getD_drop, getD_drop, getD_drop]
  rfl
theorem okU_end (s : ByteArray) (i : Nat) (h : s.size ≤ i) : okU (s.data.toList.drop i) = true := by
  rw [List.drop_eq_nil_of_le (show s.data.toList.length ≤ i from h)]
  rfl
theorem okU_at (s : ByteArray) (i : Nat) (hi : i < s.size) (h : 128 ≤ u8at s i) :
    okU (s.data.toList.drop i) = if (Lib.decodeN (s.size - i) (u8at s i) (u8at s (i + 1)) (u8at s (i + 2)) (u8at s (i + 3))).1 = 65533 ∧ (Lib.decodeN (s.size - i) (u8at s i) (u8at s (i + 1)) (u8at s (i + 2)) (u8at s (i + 3))).2 = 1 then false
      else okU (s.data.toList.drop (i + (Lib.decodeN (s.size - i) (u8at s i) (u8at s (i + 1)) (u8at s (i + 2)) (u8at s (i + 3))).2)) := by
  obtain ⟨c, hc, hcn⟩ := u8at_list s i hi
  have hd := drop_cons hc
  have hk := okU_high c (s.data.toList.drop (i + 1)) (by omega)
  rw [← hd, dec_at, List.drop_drop] at hk
  exact hk
theorem okU_one (s : ByteArray) (i : Nat) (hi : i < s.size) (h : u8at s i < 128) : okU (s.data.toList.drop i) = (isU (u8at s i) && okU (s.data.toList.drop (i + 1))) := by
  obtain ⟨c, hc, hcn⟩ := u8at_list s i hi
  rw [drop_cons hc, okU_low _ _ (by omega), hcn]
theorem okU_no (s : ByteArray) (i : Nat) (hi : i < s.size) (h : (128 ≤ u8at s i ∧ u8at s i < 192) ∨ 248 ≤ u8at s i) : okU (s.data.toList.drop i) = false := by
  rw [okU_at s i hi (by omega)]
  generalize u8at s i = b0 at h ⊢
  have : Lib.decodeN (s.size - i) b0 (u8at s (i + 1)) (u8at s (i + 2)) (u8at s (i + 3)) = (65533, 1) := by
    unfold Lib.decodeN
    rw [if_neg (by omega), if_neg (by omega), if_neg (by omega), if_neg (by omega)]
  rw [this]
  simp
theorem okU_2 (s : ByteArray) (i : Nat) (hi : i < s.size) (h : 192 ≤ u8at s i ∧ u8at s i < 224) :
    okU (s.data.toList.drop i) = if (i + 1 < s.size ∧ u8at s (i + 1) / 64 = 2) ∧ 128 ≤ 64 * (u8at s i % 32) + u8at s (i + 1) % 64 then okU (s.data.toList.drop (i + 2)) else false := by
  rw [okU_at s i hi (by omega)]
  generalize u8at s i = b0 at h ⊢
  generalize u8at s (i + 1) = b1
  by_cases hc : (i + 1 < s.size ∧ b1 / 64 = 2) ∧ 128 ≤ 64 * (b0 % 32) + b1 % 64
  · have : Lib.decodeN (s.size - i) b0 b1 (u8at s (i + 2)) (u8at s (i + 3)) = (b0 % 32 * 64 + b1 % 64, 2) := by
      unfold Lib.decodeN
      rw [if_neg (by omega), if_pos (by omega), if_pos (by omega)]
    rw [this, if_pos hc, if_neg (by simp)]
  · have : Lib.decodeN (s.size - i) b0 b1 (u8at s (i + 2)) (u8at s (i + 3)) = (65533, 1) := by
      unfold Lib.decodeN
      rw [if_neg (by omega)]
      by_cases h1 : b0 / 32 = 6 ∧ (1 < s.size - i ∧ b1 / 64 = 2)
      · rw [if_pos h1, if_neg (by omega)]
      · rw [if_neg h1, if_neg (by omega), if_neg (by omega)]
    rw [this, if_neg hc]
    simp
theorem okU_3 (s : ByteArray) (i : Nat) (hi : i < s.size) (h : 224 ≤ u8at s i ∧ u8at s i < 240) :
    okU (s.data.toList.drop i) = if (i + 2 < s.size ∧ u8at s (i + 1) / 64 = 2 ∧ u8at s (i + 2) / 64 = 2) ∧ 2048 ≤ 64 * (64 * (u8at s i % 16) + u8at s (i + 1) % 64) + u8at s (i + 2) % 64 ∧ ¬ (55296 ≤ 64 * (64 * (u8at s i % 16) + u8at s (i + 1) % 64) + u8at s (i + 2) % 64 ∧ 64 * (64 * (u8at s i % 16) + u8at s (i + 1) % 64) + u8at s (i + 2) % 64 < 57344) then okU (s.data.toList.drop (i + 3)) else false := by
  rw [okU_at s i hi (by omega)]
  generalize u8at s i = b0 at h ⊢
  generalize u8at s (i + 1) = b1
  generalize u8at s (i + 2) = b2
  have hv : 64 * (64 * (b0 % 16) + b1 % 64) + b2 % 64 = b0 % 16 * 4096 + b1 % 64 * 64 + b2 % 64 := by omega
  rw [hv]
  by_cases hc : (i + 2 < s.size ∧ b1 / 64 = 2 ∧ b2 / 64 = 2) ∧ 2048 ≤ b0 % 16 * 4096 + b1 % 64 * 64 + b2 % 64 ∧ ¬ (55296 ≤ b0 % 16 * 4096 + b1 % 64 * 64 + b2 % 64 ∧ b0 % 16 * 4096 + b1 % 64 * 64 + b2 % 64 < 57344)
  · have : Lib.decodeN (s.size - i) b0 b1 b2 (u8at s (i + 3)) = (b0 % 16 * 4096 + b1 % 64 * 64 + b2 % 64, 3) := by
      unfold Lib.decodeN
      rw [if_neg (by omega), if_neg (by omega), if_pos (by omega), if_pos (by omega)]
    rw [this, if_pos hc, if_neg (by simp)]
  · have : Lib.decodeN (s.size - i) b0 b1 b2 (u8at s (i + 3)) = (65533, 1) := by
      unfold Lib.decodeN
      rw [if_neg (by omega), if_neg (by omega)]
      by_cases h1 : b0 / 16 = 14 ∧ (1 < s.size - i ∧ b1 / 64 = 2) ∧ (2 < s.size - i ∧ b2 / 64 = 2)
      · rw [if_pos h1, if_neg (by omega)]
      · rw [if_neg h1, if_neg (by omega)]
    rw [this, if_neg hc]
    simp
theorem okU_4 (s : ByteArray) (i : Nat) (hi : i < s.size) (h : 240 ≤ u8at s i ∧ u8at s i < 248) :
    okU (s.data.toList.drop i) = if (i + 3 < s.size ∧ u8at s (i + 1) / 64 = 2 ∧ u8at s (i + 2) / 64 = 2 ∧ u8at s (i + 3) / 64 = 2) ∧ 65536 ≤ 64 * (64 * (64 * (u8at s i % 8) + u8at s (i + 1) % 64) + u8at s (i + 2) % 64) + u8at s (i + 3) % 64 ∧ 64 * (64 * (64 * (u8at s i % 8) + u8at s (i + 1) % 64) + u8at s (i + 2) % 64) + u8at s (i + 3) % 64 ≤ 1114111 then okU (s.data.toList.drop (i + 4)) else false := by
  rw [okU_at s i hi (by omega)]
  generalize u8at s i = b0 at h ⊢
  generalize u8at s (i + 1) = b1
  generalize u8at s (i + 2) = b2
  generalize u8at s (i + 3) = b3
  have hv : 64 * (64 * (64 * (b0 % 8) + b1 % 64) + b2 % 64) + b3 % 64 = b0 % 8 * 262144 + b1 % 64 * 4096 + b2 % 64 * 64 + b3 % 64 := by omega
  rw [hv]
  by_cases hc : (i + 3 < s.size ∧ b1 / 64 = 2 ∧ b2 / 64 = 2 ∧ b3 / 64 = 2) ∧ 65536 ≤ b0 % 8 * 262144 + b1 % 64 * 4096 + b2 % 64 * 64 + b3 % 64 ∧ b0 % 8 * 262144 + b1 % 64 * 4096 + b2 % 64 * 64 + b3 % 64 ≤ 1114111
  · have : Lib.decodeN (s.size - i) b0 b1 b2 b3 = (b0 % 8 * 262144 + b1 % 64 * 4096 + b2 % 64 * 64 + b3 % 64, 4) := by
      unfold Lib.decodeN
      rw [if_neg (by omega), if_neg (by omega), if_neg (by omega), if_pos (by omega), if_pos (by omega)]
    rw [this, if_pos hc, if_neg (by simp)]
  · have : Lib.decodeN (s.size - i) b0 b1 b2 b3 = (65533, 1) := by
      unfold Lib.decodeN
      rw [if_neg (by omega), if_neg (by omega), if_neg (by omega)]
      by_cases h1 : b0 / 8 = 30 ∧ (1 < s.size - i ∧ b1 / 64 = 2) ∧ (2 < s.size - i ∧ b2 / 64 = 2) ∧ (3 < s.size - i ∧ b3 / 64 = 2)
      · rw [if_pos h1, if_neg (by omega)]
      · rw [if_neg h1]
    rw [this, if_neg hc]
    simp
end Go.Proofs.YtfpfgdbfigdooaaGreatDoor
namespace Go.Proofs.YtfpfgdbfigdooaaGreatDoor
open Go.RowKit

theorem isal_is {n : Nat} {b : Bool} (h : alnum n = b) (w : World) : Calls Tryz.prog 147 #[.int .i32 (n : Int)] w fun e w' => e = .returned (.bool b) ∧ w' = w := by
  have := isal_any n w
  rwa [h] at this
theorem ralnum_is {n : Nat} {b : Bool} (h : alnum n = b) (w : World) : Calls Tryz.prog 107 #[.int .u8 (n : Int)] w fun e w' => e = .returned (.bool b) ∧ w' = w := by
  have := ralnum_any n w
  rwa [h] at this
theorem idx_is {s : ByteArray} {c : UInt8} {b : Int} (h : Lib.indexByte s.data.toList c = b) (w : World) : Calls Tryz.prog 148 #[.string s, .int .u8 ((c.toNat : Nat) : Int)] w fun e w' => e = .returned (.int .i64 b) ∧ w' = w := by
  have := idx_any s c w
  rwa [h] at this

set_option maxHeartbeats 1000000 in
theorem isplain_any (c : UInt8) (w : World) :
    Calls Tryz.prog 113 #[.int .u8 ((c.toNat : Nat) : Int)] w fun e w' => e = .returned (.bool (plainB c)) ∧ w' = w := by
  have hlt := c.toNat_lt
  cases ha : alnum c.toNat with
  | true =>
    have HP := Lib.hid (show plainB c = true by unfold plainB; rw [ha]; rfl)
    have HA := Lib.hid ha
    clear ha
    go_enter Tryz.func113, Tryz.ntmps113
    go_wp2_with (go_at_call 147; (with_reducible refine (isal_is HA.out _).mono ?_); rintro e w1 ⟨rfl, rfl⟩)
    go_ret
    exact ⟨by rw [HP.out]; rfl, rfl⟩
  | false =>
    obtain ⟨ix, hix⟩ : ∃ ix, Lib.indexByte plainL c = ix := ⟨_, rfl⟩
    have HP := Lib.hid (show plainB c = decide (0 ≤ ix) by unfold plainB; rw [ha, idx_has, hix]; rfl)
    have HA := Lib.hid ha
    have HI := Lib.hid (show Lib.indexByte (⟨#[32, 39, 40, 41, 45, 46, 47, 58, 63, 64, 95]⟩ : ByteArray).data.toList c = ix from hix)
    clear ha hix
    go_enter Tryz.func113, Tryz.ntmps113
    go_wp2_with (first
      | (go_at_call 147; (with_reducible refine (isal_is HA.out _).mono ?_); rintro e w1 ⟨rfl, rfl⟩)
      | (go_at_call 148; (with_reducible refine (idx_is HI.out _).mono ?_); rintro e w1 ⟨rfl, rfl⟩))
    go_ret
    exact ⟨by rw [HP.out]; rfl, rfl⟩

set_option maxHeartbeats 1000000 in
theorem among_any (c : UInt8) (l : ByteArray) (hl : l.size ≤ 1000000) (w : World) :
    Calls Tryz.prog 108 #[.int .u8 ((c.toNat : Nat) : Int), .string l] w fun e w' => e = .returned (.bool (l.data.toList.contains c)) ∧ w' = w := by
  go_enter Tryz.func108, Tryz.ntmps108
  go_wp2_with fail
  go_loopw [5] (fun i wr => ∃ k : Nat, k ≤ l.size ∧ i = .int .i64 (k : Int) ∧ wr = w ∧ l.data.toList.contains c = (l.data.toList.drop k).contains c) (fun i _ => l.size - (intOf i).toNat)
  case atStart => exact ⟨0, by omega, rfl, rfl, by simp⟩
  case round =>
    obtain ⟨k, hk, rfl, rfl, hc⟩ := hrel
    by_cases hlt : k < l.size
    · have hd : decide ((k : Int) < (l.size : Int)) = true := by simp; omega
      obtain ⟨x, hx, hxn⟩ := u8at_list l k hlt
      have hix := run_index_u8 (P := Tryz.prog) Tryz.underlying9 l k hlt (k : Int) rfl wr
      rw [hxn] at hix
      rw [drop_cons hx, List.contains_cons] at hc
      by_cases e : x = c
      · have hq : ((x.toNat : Nat) : Int) == ((c.toNat : Nat) : Int) := by rw [e]; simp
        have HC := Lib.hid (show l.data.toList.contains c = true by rw [hc, e]; simp)
        clear hc hx hxn e
        go_wp2_with fail
        go_ret
        exact ⟨by rw [HC.out]; rfl, rfl⟩
      · have hne : ¬ x.toNat = c.toNat := fun h => e (UInt8.toNat_inj.1 h)
        have hq : (((x.toNat : Nat) : Int) == ((c.toNat : Nat) : Int)) = false := by simp; omega
        have HC := Lib.hid (show l.data.toList.contains c = (l.data.toList.drop (k + 1)).contains c by
          rw [hc, show (c == x) = false by simp; exact fun h => e h.symm, Bool.false_or])
        clear hc hx hxn e hne
        go_wp2_with fail
        go_roundw
        case rel => exact ⟨k + 1, by omega, by go_num, by first | exact trivial | rfl, HC.out⟩
        case measure => simp [intOf]; omega
    · have hd : decide ((k : Int) < (l.size : Int)) = false := by simp; omega
      have HC := Lib.hid (show l.data.toList.contains c = false by
        rw [hc, List.drop_eq_nil_of_le (show l.data.toList.length ≤ k by show l.size ≤ k; omega)]; rfl)
      clear hc
      go_wp2_with fail
      go_ret
      exact ⟨by rw [HC.out]; rfl, rfl⟩
theorem among_is {c : UInt8} {l : ByteArray} {b : Bool} (h : l.data.toList.contains c = b) (hl : l.size ≤ 1000000) (w : World) :
    Calls Tryz.prog 108 #[.int .u8 ((c.toNat : Nat) : Int), .string l] w fun e w' => e = .returned (.bool b) ∧ w' = w := by
  have := among_any c l hl w
  rwa [h] at this

set_option maxHeartbeats 1000000 in
theorem plain_any (c : UInt8) (w : World) :
    Calls Tryz.prog 85 #[.int .u8 ((c.toNat : Nat) : Int)] w fun e w' => e = .returned (.bool (plainB c)) ∧ w' = w := by
  cases ha : alnum c.toNat with
  | true =>
    have HP := Lib.hid (show plainB c = true by unfold plainB; rw [ha]; rfl)
    have HA := Lib.hid ha
    clear ha
    go_enter Tryz.func85, Tryz.ntmps85
    go_wp2_with (go_at_call 107; (with_reducible refine (ralnum_is HA.out _).mono ?_); rintro e w1 ⟨rfl, rfl⟩)
    go_ret
    exact ⟨by rw [HP.out]; rfl, rfl⟩
  | false =>
    obtain ⟨b, hb⟩ : ∃ b, plainL.contains c = b := ⟨_, rfl⟩
    have HP := Lib.hid (show plainB c = b by unfold plainB; rw [ha, hb]; rfl)
    have HA := Lib.hid ha
    have HI := Lib.hid (show (⟨#[32, 39, 40, 41, 45, 46, 47, 58, 63, 64, 95]⟩ : ByteArray).data.toList.contains c = b from hb)
    clear ha hb
    go_enter Tryz.func85, Tryz.ntmps85
    go_wp2_with (first
      | (go_at_call 107; (with_reducible refine (ralnum_is HA.out _).mono ?_); rintro e w1 ⟨rfl, rfl⟩)
      | (go_at_call 108; (with_reducible refine (among_is HI.out (by decide) _).mono ?_); rintro e w1 ⟨rfl, rfl⟩))
    go_ret
    exact ⟨by rw [HP.out]; rfl, rfl⟩
theorem isplain_is {c : UInt8} {b : Bool} (h : plainB c = b) (w : World) : Calls Tryz.prog 113 #[.int .u8 ((c.toNat : Nat) : Int)] w fun e w' => e = .returned (.bool b) ∧ w' = w := by
  have := isplain_any c w
  rwa [h] at this
theorem plain_is {c : UInt8} {b : Bool} (h : plainB c = b) (w : World) : Calls Tryz.prog 85 #[.int .u8 ((c.toNat : Nat) : Int)] w fun e w' => e = .returned (.bool b) ∧ w' = w := by
  have := plain_any c w
  rwa [h] at this
end Go.Proofs.YtfpfgdbfigdooaaGreatDoor
