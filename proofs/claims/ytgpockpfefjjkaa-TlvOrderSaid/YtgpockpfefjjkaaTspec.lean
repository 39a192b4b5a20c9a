/-
  What stands at the beginning of a string of elements, as numbers: the error, the length of the header, the length of the contents; and the errors within an element. Nothing is claimed of the program here.
-/
import Derived.Test.YtgpockpfefjjkaaTbase
namespace Go.Proofs.Ytgpockpfefjjkaa
open Go.RowKit

/-- The byte at a place (0 behind the end). -/
def u8at (b : ByteArray) (i : Nat) : Nat := (b.data.toList.getD i 0).toNat
theorem u8at_lt (b : ByteArray) (i : Nat) : u8at b i < 256 := (b.data.toList.getD i 0).toNat_lt
theorem u8at_get (b : ByteArray) (i : Nat) (h : i < b.size) : u8at b i = (b[i]).toNat := by
  have : i < b.data.toList.length := h
  unfold u8at
  rw [List.getD_eq_getElem?_getD, List.getElem?_eq_getElem this]
  rfl
theorem run_index_u8 {P : Program} {t : TypeId} (ht : P.underlying t = some .string) (b : ByteArray) (j : Nat) (h : j < b.size) (i : Int) (hi : i = (j : Int)) (w : World) :
    (Instr.index t (.string b) (.int .i64 i)).run P w = .ok (.int .u8 ((u8at b j : Nat) : Int)) w := by
  rw [u8at_get b j h]
  exact run_index_at ht b j b[j] h rfl i hi w

/-- The number that k bytes from place o on are, the most significant one first. -/
def be (b : ByteArray) (o : Nat) : Nat → Nat
  | 0 => 0
  | k + 1 => 256 * be b o k + u8at b (o + k)
theorem be_lt (b : ByteArray) (o k : Nat) : be b o k < 256 ^ k := by
  induction k with
  | zero => simp [be]
  | succ k ih => have := u8at_lt b (o + k); simp only [be, Nat.pow_succ]; omega
def least (k : Nat) : Nat := if k = 1 then 128 else if k = 2 then 256 else if k = 3 then 65536 else 0

/-- What readLength answers for the octets from place o on: the length, how many octets it has, the error. -/
def lnAt (b : ByteArray) (o : Nat) : Nat × Nat × Nat :=
  if b.size ≤ o then (0, 0, 3)
  else if u8at b o < 128 then (u8at b o, 1, 0)
  else if u8at b o = 128 ∨ 131 < u8at b o then (0, 0, 6)
  else if b.size < o + 1 + (u8at b o - 128) then (0, 0, 3)
  else if be b (o + 1) (u8at b o - 128) < least (u8at b o - 128) ∨ 131072 < be b (o + 1) (u8at b o - 128) then (0, 0, 6)
  else (be b (o + 1) (u8at b o - 128), 1 + (u8at b o - 128), 0)

/-- The element at the beginning: the error, the place of the contents, their length. -/
def rd (b : ByteArray) : Nat × Nat × Nat :=
  if b.size = 0 then (3, 0, 0)
  else if u8at b 0 % 32 = 31 then (5, 0, 0)
  else if (lnAt b 1).2.2 ≠ 0 then ((lnAt b 1).2.2, 0, 0)
  else if b.size < 1 + (lnAt b 1).2.1 + (lnAt b 1).1 then (3, 0, 0)
  else (0, 1 + (lnAt b 1).2.1, (lnAt b 1).1)

def rdErr (b : ByteArray) : Nat := (rd b).1
def rdTag (b : ByteArray) : Nat := u8at b 0
def rdContent (b : ByteArray) : ByteArray := b.extract (rd b).2.1 ((rd b).2.1 + (rd b).2.2)
def rdRaw (b : ByteArray) : ByteArray := b.extract 0 ((rd b).2.1 + (rd b).2.2)
def rdRest (b : ByteArray) : ByteArray := b.extract ((rd b).2.1 + (rd b).2.2) b.size

/-- An element as a value. -/
def elV (tag : Nat) (c r : ByteArray) : Value := .agg #[.int .i64 (tag : Int), .string c, .string r]
def noEl : Value := .agg #[.int .i64 0, .string ⟨#[]⟩, .string ⟨#[]⟩]
def rdEl (b : ByteArray) : Value := if rdErr b = 0 then elV (rdTag b) (rdContent b) (rdRaw b) else noEl
def rdVal (b : ByteArray) : Value :=
  if rdErr b = 0 then .tuple #[elV (rdTag b) (rdContent b) (rdRaw b), .string (rdRest b), .int .i64 0]
  else .tuple #[noEl, .string ⟨#[]⟩, .int .i64 ((rdErr b : Nat) : Int)]

/-- Where an element is read, it is longer than its header and its contents reach no further than the end. -/
theorem rd_ok {b : ByteArray} (h : rdErr b = 0) : 2 ≤ (rd b).2.1 ∧ (rd b).2.1 ≤ 5 ∧ (rd b).2.1 + (rd b).2.2 ≤ b.size ∧ u8at b 0 % 32 ≠ 31 ∧ b.size ≠ 0 := by
  unfold rdErr rd at h
  unfold rd
  by_cases h0 : b.size = 0
  · simp [h0] at h
  · by_cases h1 : u8at b 0 % 32 = 31
    · simp [h0, h1] at h
    · by_cases h2 : (lnAt b 1).2.2 ≠ 0
      · rw [if_neg h0, if_neg h1, if_pos h2] at h
        exact absurd h h2
      · by_cases h3 : b.size < 1 + (lnAt b 1).2.1 + (lnAt b 1).1
        · rw [if_neg h0, if_neg h1, if_neg h2, if_pos h3] at h
          cases h
        · rw [if_neg h0, if_neg h1, if_neg h2, if_neg h3]
          have hs : 1 ≤ (lnAt b 1).2.1 ∧ (lnAt b 1).2.1 ≤ 4 := by
            have h2' : (lnAt b 1).2.2 = 0 := by omega
            revert h2'
            unfold lnAt
            split
            · intro h; cases h
            · split
              · intro _; simp
              · split
                · intro h; cases h
                · split
                  · intro h; cases h
                  · split
                    · intro h; cases h
                    · intro _; simp; omega
          refine ⟨by simp; omega, by simp; omega, by simp; omega, h1, h0⟩
theorem rdRest_size {b : ByteArray} (h : rdErr b = 0) : (rdRest b).size < b.size := by
  obtain ⟨h1, _, h2, _, _⟩ := rd_ok h
  unfold rdRest
  rw [ByteArray.size_extract]
  omega
theorem rdContent_size {b : ByteArray} (h : rdErr b = 0) : (rdContent b).size < b.size := by
  obtain ⟨h1, _, h2, _, _⟩ := rd_ok h
  unfold rdContent
  rw [ByteArray.size_extract]
  omega
end Go.Proofs.Ytgpockpfefjjkaa
