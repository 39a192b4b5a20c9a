/-
  The contracts of strings.IndexByte and of strings.ContainsRune at an ASCII character: the library's theorems, laid at the program's own numbers. Nothing is claimed of the program beyond its bodies.
  Plain laws of texts as sequences of characters: which texts consist of characters of a set, and which are well-formed without control characters. Nothing is claimed of the program here.
-/
import Derived.Shelf.Strings.Runes
import Derived.Test.YtfpfgdbfigdooaaDoorXset
import Derived.Lib.ValidLaws
import Derived.Test.YtfpfgdbfigdooaaDoorMab
namespace Go.Proofs.YtfpfgdbfigdooaaDoor
open Go.Shelf Go.RowKit

def lays137_ren : Go.Shelf.Ren := ⟨fun | 137 => 93 | 217 => 89 | 266 => 95 | n => n, fun | 3 => 3 | 5 => 5 | 9 => 9 | n => n, fun | n => n⟩
theorem lays137 : Go.Proofs.Lays.n137 Tryd.prog lays137_ren := {
  mixed := by kernel_rfl
  f137 := Tryd.func93.trans (congrArg some (by kernel_rfl))
  f217 := Tryd.func89.trans (congrArg some (by kernel_rfl))
  f266 := Tryd.func95.trans (congrArg some (by kernel_rfl))
  t3 := Tryd.underlying3
  a3 := Tryd.isAgg3
  z3 := Tryd.sizeOf3
  v3 := Tryd.zeroValue3
  t5 := Tryd.underlying5
  a5 := Tryd.isAgg5
  z5 := Tryd.sizeOf5
  v5 := Tryd.zeroValue5
  t9 := Tryd.underlying9
  a9 := Tryd.isAgg9
  z9 := Tryd.sizeOf9
  v9 := Tryd.zeroValue9 }
def lays152_ren : Go.Shelf.Ren := ⟨fun | 119 => 94 | 137 => 93 | 152 => 87 | 217 => 89 | 224 => 91 | 225 => 90 | 266 => 95 | n => n, fun | 0 => 0 | 3 => 3 | 4 => 4 | 5 => 5 | 9 => 9 | 21 => 21 | 46 => 104 | n => n, fun | n => n⟩
theorem lays152 : Go.Proofs.Lays.n152 Tryd.prog lays152_ren := {
  mixed := by kernel_rfl
  f119 := Tryd.func94.trans (congrArg some (by kernel_rfl))
  f137 := Tryd.func93.trans (congrArg some (by kernel_rfl))
  f152 := Tryd.func87.trans (congrArg some (by kernel_rfl))
  f217 := Tryd.func89.trans (congrArg some (by kernel_rfl))
  f224 := Tryd.func91.trans (congrArg some (by kernel_rfl))
  f225 := Tryd.func90.trans (congrArg some (by kernel_rfl))
  f266 := Tryd.func95.trans (congrArg some (by kernel_rfl))
  t0 := Tryd.underlying0
  a0 := Tryd.isAgg0
  z0 := Tryd.sizeOf0
  v0 := Tryd.zeroValue0
  t3 := Tryd.underlying3
  a3 := Tryd.isAgg3
  z3 := Tryd.sizeOf3
  v3 := Tryd.zeroValue3
  t4 := Tryd.underlying4
  a4 := Tryd.isAgg4
  z4 := Tryd.sizeOf4
  v4 := Tryd.zeroValue4
  t5 := Tryd.underlying5
  a5 := Tryd.isAgg5
  z5 := Tryd.sizeOf5
  v5 := Tryd.zeroValue5
  t9 := Tryd.underlying9
  a9 := Tryd.isAgg9
  z9 := Tryd.sizeOf9
  v9 := Tryd.zeroValue9
  t21 := Tryd.underlying21
  a21 := Tryd.isAgg21
  z21 := Tryd.sizeOf21
  v21 := Tryd.zeroValue21
  t46 := Tryd.underlying104
  a46 := Tryd.isAgg104
  z46 := Tryd.sizeOf104
  v46 := Tryd.zeroValue104 }
def lays151_ren : Go.Shelf.Ren := ⟨fun | 119 => 94 | 137 => 93 | 151 => 79 | 152 => 87 | 217 => 89 | 224 => 91 | 225 => 90 | 266 => 95 | n => n, fun | 0 => 0 | 3 => 3 | 4 => 4 | 5 => 5 | 9 => 9 | 21 => 21 | 46 => 104 | n => n, fun | n => n⟩
theorem lays151 : Go.Proofs.Lays.n151 Tryd.prog lays151_ren := {
  mixed := by kernel_rfl
  f119 := Tryd.func94.trans (congrArg some (by kernel_rfl))
  f137 := Tryd.func93.trans (congrArg some (by kernel_rfl))
  f151 := Tryd.func79.trans (congrArg some (by kernel_rfl))
  f152 := Tryd.func87.trans (congrArg some (by kernel_rfl))
  f217 := Tryd.func89.trans (congrArg some (by kernel_rfl))
  f224 := Tryd.func91.trans (congrArg some (by kernel_rfl))
  f225 := Tryd.func90.trans (congrArg some (by kernel_rfl))
  f266 := Tryd.func95.trans (congrArg some (by kernel_rfl))
  t0 := Tryd.underlying0
  a0 := Tryd.isAgg0
  z0 := Tryd.sizeOf0
  v0 := Tryd.zeroValue0
  t3 := Tryd.underlying3
  a3 := Tryd.isAgg3
  z3 := Tryd.sizeOf3
  v3 := Tryd.zeroValue3
  t4 := Tryd.underlying4
  a4 := Tryd.isAgg4
  z4 := Tryd.sizeOf4
  v4 := Tryd.zeroValue4
  t5 := Tryd.underlying5
  a5 := Tryd.isAgg5
  z5 := Tryd.sizeOf5
  v5 := Tryd.zeroValue5
  t9 := Tryd.underlying9
  a9 := Tryd.isAgg9
  z9 := Tryd.sizeOf9
  v9 := Tryd.zeroValue9
  t21 := Tryd.underlying21
  a21 := Tryd.isAgg21
  z21 := Tryd.sizeOf21
  v21 := Tryd.zeroValue21
  t46 := Tryd.underlying104
  a46 := Tryd.isAgg104
  z46 := Tryd.sizeOf104
  v46 := Tryd.zeroValue104 }

theorem idx_ge : ∀ (l : List UInt8) (b : UInt8), -1 ≤ Lib.indexByte l b
  | [], _ => by simp [Lib.indexByte]
  | c :: l, b => by
    have := idx_ge l b
    simp only [Lib.indexByte]
    split
    · omega
    · split <;> omega
theorem idx_has : ∀ (l : List UInt8) (b : UInt8), l.contains b = decide (0 ≤ Lib.indexByte l b)
  | [], _ => rfl
  | c :: l, b => by
    have ih := idx_has l b
    have hg := idx_ge l b
    rw [List.contains_cons, ih, Bool.eq_iff_iff]
    simp only [Lib.indexByte, Bool.or_eq_true, decide_eq_true_eq, beq_iff_eq]
    by_cases e : c = b
    · subst e; simp
    · rw [if_neg e]
      have e1 : ¬ b = c := fun h => e h.symm
      by_cases k : Lib.indexByte l b = -1
      · rw [if_pos k, k]; simp [e1]
      · rw [if_neg k]
        constructor
        · rintro (h | h)
          · exact absurd h e1
          · omega
        · intro h
          right; omega
theorem idx_any (s : ByteArray) (c : UInt8) (w : World) : Calls Tryd.prog 93 #[.string s, .int .u8 ((c.toNat : Nat) : Int)] w fun e w' => e = .returned (.int .i64 (Lib.indexByte s.data.toList c)) ∧ w' = w := by
  have h := Any.strings_IndexByte lays137 s ((c.toNat : Nat) : Int) w
  have e : ((c.toNat : Nat) : Int).toNat.toUInt8 = c := by simp
  rw [e] at h
  exact h
theorem crune_any (s : ByteArray) (n : Nat) (hn : n < 128) (w : World) : Calls Tryd.prog 79 #[.string s, .int .i32 ((n : Nat) : Int)] w fun e w' => e = .returned (.bool (s.data.toList.contains (UInt8.ofNat n))) ∧ w' = w := by
  have h := Any.strings_ContainsRune_ascii lays151 s ((n : Nat) : Int) w (by omega) (by omega)
  have e : ((n : Nat) : Int).toNat.toUInt8 = UInt8.ofNat n := rfl
  rw [e, ← idx_has] at h
  exact h
end Go.Proofs.YtfpfgdbfigdooaaDoor
namespace Go.Proofs.YtfpfgdbfigdooaaDoor
open Go.RowKit

/-- Whether each character of a text is in a set. -/
def allGo (p : Nat → Bool) : Nat → List UInt8 → Bool
  | 0, _ => true
  | n + 1, l => if l = [] then true else p (Lib.decodeL l).1 && allGo p n (l.drop (Lib.decodeL l).2)
def allD (p : Nat → Bool) (l : List UInt8) : Bool := allGo p l.length l
theorem allGo_nil (p : Nat → Bool) : ∀ n, allGo p n [] = true
  | 0 => rfl
  | _ + 1 => by simp [allGo]
theorem allGo_fuel (p : Nat → Bool) : ∀ (n m : Nat) (l : List UInt8), l.length ≤ n → l.length ≤ m → allGo p n l = allGo p m l
  | 0, m, l, hn, _ => by
    obtain rfl : l = [] := List.eq_nil_of_length_eq_zero (by omega)
    rw [allGo_nil, allGo_nil]
  | n + 1, 0, l, _, hm => by
    obtain rfl : l = [] := List.eq_nil_of_length_eq_zero (by omega)
    rw [allGo_nil, allGo_nil]
  | n + 1, m + 1, l, hn, hm => by
    unfold allGo
    by_cases hne : l = []
    · simp [hne]
    · have hw := Lib.decodeL_width l
      have hl : 0 < l.length := List.length_pos_iff.2 hne
      rw [if_neg hne, if_neg hne, allGo_fuel p n m (l.drop (Lib.decodeL l).2) (by rw [List.length_drop]; omega) (by rw [List.length_drop]; omega)]
theorem allD_nil (p : Nat → Bool) : allD p [] = true := rfl
theorem allD_step (p : Nat → Bool) (l : List UInt8) (hne : l ≠ []) : allD p l = (p (Lib.decodeL l).1 && allD p (l.drop (Lib.decodeL l).2)) := by
  have hl : 0 < l.length := List.length_pos_iff.2 hne
  have hw := Lib.decodeL_width l
  obtain ⟨n, hn⟩ : ∃ n, l.length = n + 1 := ⟨l.length - 1, by omega⟩
  unfold allD
  rw [hn]
  show (if l = [] then true else _) = _
  rw [if_neg hne, allGo_fuel p n (l.drop (Lib.decodeL l).2).length _ (by rw [List.length_drop]; omega) (Nat.le_refl _)]
theorem high_rune (b : UInt8) (t : List UInt8) (h : 128 ≤ b.toNat) : 128 ≤ (Lib.decodeL (b :: t)).1 :=
  (decode_high ⟨(b :: t).toArray⟩ 0 (by show 0 < (b :: t).length; simp) h).1
/-- A set of ASCII characters is asked byte by byte. -/
theorem allD_ascii (p : Nat → Bool) (hp : ∀ n, 128 ≤ n → p n = false) : ∀ (n : Nat) (l : List UInt8), l.length ≤ n → allD p l = l.all fun b => p b.toNat
  | _, [], _ => rfl
  | 0, b :: t, h => by simp at h
  | n + 1, b :: t, h => by
    rw [allD_step p _ (by simp), List.all_cons]
    by_cases hb : b.toNat < 128
    · rw [Lib.decodeL_ascii b t hb]
      show (p b.toNat && allD p t) = _
      rw [allD_ascii p hp n t (by simp at h; omega)]
    · rw [hp _ (high_rune b t (by omega)), hp b.toNat (by omega), Bool.false_and, Bool.false_and]

/-- The texts that may be contents of a string of TagUTF8. -/
def okU (l : List UInt8) : Bool := Lib.validD l && allD isU l
theorem okU_nil : okU [] = true := rfl
theorem okU_low (b : UInt8) (t : List UInt8) (h : b.toNat < 128) : okU (b :: t) = (isU b.toNat && okU t) := by
  unfold okU
  rw [Lib.validD_cons b t h, allD_step _ _ (by simp), Lib.decodeL_ascii b t h]
  show (Lib.validD t && (isU b.toNat && allD isU t)) = _
  rw [← Bool.and_assoc, Bool.and_comm (Lib.validD t), Bool.and_assoc]
theorem okU_high (b : UInt8) (t : List UInt8) (h : 128 ≤ b.toNat) : okU (b :: t) = if (Lib.decodeL (b :: t)).1 = 65533 ∧ (Lib.decodeL (b :: t)).2 = 1 then false else okU ((b :: t).drop (Lib.decodeL (b :: t)).2) := by
  unfold okU
  rw [Lib.validD_step _ (by simp), allD_step _ _ (by simp)]
  split
  · simp
  · have h1 := high_rune b t h
    have : isU (Lib.decodeL (b :: t)).1 = true := by
      unfold isU
      simp
      omega
    rw [this, Bool.true_and]
theorem getD_drop (l : List UInt8) (i j : Nat) : (l.drop i).getD j 0 = l.getD (i + j) 0 := by
  rw [List.getD_eq_getElem?_getD, List.getD_eq_getElem?_getD, List.getElem?_drop]
/-- What the decoder finds at a place. -/
theorem dec_at (s : ByteArray) (i : Nat) : Lib.decodeL (s.data.toList.drop i) = Lib.decodeN (s.size - i) (u8at s i) (u8at s (i + 1)) (u8at s (i + 2)) (u8at s (i + 3)) := by
  rw [Lib.decodeL_N, List.length_drop, getD_drop, getD_drop, getD_drop, getD_drop]
  rfl
theorem okU_end (s : ByteArray) (i : Nat) (h : s.size ≤ i) : okU (s.data.toList.drop i) = true := by
  rw [List.drop_eq_nil_of_le (show s.data.toList.length ≤ i from h)]
  rfl
theorem okU_at (s : ByteArray) (i : Nat) (hi : i < s.size) (h : 128 ≤ u8at s i) :
    okU (s.data.toList.drop i) = if (Lib.decodeN (s.size - i) (u8at s i) (u8at s (i + 1)) (u8at s (i + 2)) (u8at s (i + 3))).1 = 65533 ∧ (Lib.decodeN (s.size - i) (u8at s i) (u8at s (i + 1)) (u8at s (i + 2)) (u8at s (i + 3))).2 = 1 then false
      else okU (s.data.toList.drop (i + (Lib.decodeN (s.size - i) (u8at s i) (u8at s (i + 1)) (u8at s (i + 2)) (u8at s (i + 3))).2)) := by
  obtain ⟨c, hc, hcn⟩ := u8at_list s i hi
  have hd := drop_cons hc
  have hk := okU_high c (s.data.toList.drop (i + 1)) (by omega)
  rw [← hd, dec_at, List.drop_drop] at hk
  exact hk
theorem okU_one (s : ByteArray) (i : Nat) (hi : i < s.size) (h : u8at s i < 128) : okU (s.data.toList.drop i) = (isU (u8at s i) && okU (s.data.toList.drop (i + 1))) := by
  obtain ⟨c, hc, hcn⟩ := u8at_list s i hi
  rw [drop_cons hc, okU_low _ _ (by omega), hcn]
theorem okU_no (s : ByteArray) (i : Nat) (hi : i < s.size) (h : (128 ≤ u8at s i ∧ u8at s i < 192) ∨ 248 ≤ u8at s i) : okU (s.data.toList.drop i) = false := by
  rw [okU_at s i hi (by omega)]
  generalize u8at s i = b0 at h ⊢
  have : Lib.decodeN (s.size - i) b0 (u8at s (i + 1)) (u8at s (i + 2)) (u8at s (i + 3)) = (65533, 1) := by
    unfold Lib.decodeN
    rw [if_neg (by omega), if_neg (by omega), if_neg (by omega), if_neg (by omega)]
  rw [this]
  simp
theorem okU_2 (s : ByteArray) (i : Nat) (hi : i < s.size) (h : 192 ≤ u8at s i ∧ u8at s i < 224) :
    okU (s.data.toList.drop i) = if (i + 1 < s.size ∧ u8at s (i + 1) / 64 = 2) ∧ 128 ≤ 64 * (u8at s i % 32) + u8at s (i + 1) % 64 then okU (s.data.toList.drop (i + 2)) else false := by
  rw [okU_at s i hi (by omega)]
  generalize u8at s i = b0 at h ⊢
  generalize u8at s (i + 1) = b1
  by_cases hc : (i + 1 < s.size ∧ b1 / 64 = 2) ∧ 128 ≤ 64 * (b0 % 32) + b1 % 64
  · have : Lib.decodeN (s.size - i) b0 b1 (u8at s (i + 2)) (u8at s (i + 3)) = (b0 % 32 * 64 + b1 % 64, 2) := by
      unfold Lib.decodeN
      rw [if_neg (by omega), if_pos (by omega), if_pos (by omega)]
    rw [this, if_pos hc, if_neg (by simp)]
  · have : Lib.decodeN (s.size - i) b0 b1 (u8at s (i + 2)) (u8at s (i + 3)) = (65533, 1) := by
      unfold Lib.decodeN
      rw [if_neg (by omega)]
      by_cases h1 : b0 / 32 = 6 ∧ (1 < s.size - i ∧ b1 / 64 = 2)
      · rw [if_pos h1, if_neg (by omega)]
      · rw [if_neg h1, if_neg (by omega), if_neg (by omega)]
    rw [this, if_neg hc]
    simp
theorem okU_3 (s : ByteArray) (i : Nat) (hi : i < s.size) (h : 224 ≤ u8at s i ∧ u8at s i < 240) :
    okU (s.data.toList.drop i) = if (i + 2 < s.size ∧ u8at s (i + 1) / 64 = 2 ∧ u8at s (i + 2) / 64 = 2) ∧ 2048 ≤ 64 * (64 * (u8at s i % 16) + u8at s (i + 1) % 64) + u8at s (i + 2) % 64 ∧ ¬ (55296 ≤ 64 * (64 * (u8at s i % 16) + u8at s (i + 1) % 64) + u8at s (i + 2) % 64 ∧ 64 * (64 * (u8at s i % 16) + u8at s (i + 1) % 64) + u8at s (i + 2) % 64 < 57344) then okU (s.data.toList.drop (i + 3)) else false := by
  rw [okU_at s i hi (by omega)]
  generalize u8at s i = b0 at h ⊢
  generalize u8at s (i + 1) = b1
  generalize u8at s (i + 2) = b2
  have hv : 64 * (64 * (b0 % 16) + b1 % 64) + b2 % 64 = b0 % 16 * 4096 + b1 % 64 * 64 + b2 % 64 := by omega
  rw [hv]
  by_cases hc : (i + 2 < s.size ∧ b1 / 64 = 2 ∧ b2 / 64 = 2) ∧ 2048 ≤ b0 % 16 * 4096 + b1 % 64 * 64 + b2 % 64 ∧ ¬ (55296 ≤ b0 % 16 * 4096 + b1 % 64 * 64 + b2 % 64 ∧ b0 % 16 * 4096 + b1 % 64 * 64 + b2 % 64 < 57344)
  · have : Lib.decodeN (s.size - i) b0 b1 b2 (u8at s (i + 3)) = (b0 % 16 * 4096 + b1 % 64 * 64 + b2 % 64, 3) := by
      unfold Lib.decodeN
      rw [if_neg (by omega), if_neg (by omega), if_pos (by omega), if_pos (by omega)]
    rw [this, if_pos hc, if_neg (by simp)]
  · have : Lib.decodeN (s.size - i) b0 b1 b2 (u8at s (i + 3)) = (65533, 1) := by
      unfold Lib.decodeN
      rw [if_neg (by omega), if_neg (by omega)]
      by_cases h1 : b0 / 16 = 14 ∧ (1 < s.size - i ∧ b1 / 64 = 2) ∧ (2 < s.size - i ∧ b2 / 64 = 2)
      · rw [if_pos h1, if_neg (by omega)]
      · rw [if_neg h1, if_neg (by omega)]
    rw [this, if_neg hc]
    simp
theorem okU_4 (s : ByteArray) (i : Nat) (hi : i < s.size) (h : 240 ≤ u8at s i ∧ u8at s i < 248) :
    okU (s.data.toList.drop i) = if (i + 3 < s.size ∧ u8at s (i + 1) / 64 = 2 ∧ u8at s (i + 2) / 64 = 2 ∧ u8at s (i + 3) / 64 = 2) ∧ 65536 ≤ 64 * (64 * (64 * (u8at s i % 8) + u8at s (i + 1) % 64) + u8at s (i + 2) % 64) + u8at s (i + 3) % 64 ∧ 64 * (64 * (64 * (u8at s i % 8) + u8at s (i + 1) % 64) + u8at s (i + 2) % 64) + u8at s (i + 3) % 64 ≤ 1114111 then okU (s.data.toList.drop (i + 4)) else false := by
  rw [okU_at s i hi (by omega)]
  generalize u8at s i = b0 at h ⊢
  generalize u8at s (i + 1) = b1
  generalize u8at s (i + 2) = b2
  generalize u8at s (i + 3) = b3
  have hv : 64 * (64 * (64 * (b0 % 8) + b1 % 64) + b2 % 64) + b3 % 64 = b0 % 8 * 262144 + b1 % 64 * 4096 + b2 % 64 * 64 + b3 % 64 := by omega
  rw [hv]
  by_cases hc : (i + 3 < s.size ∧ b1 / 64 = 2 ∧ b2 / 64 = 2 ∧ b3 / 64 = 2) ∧ 65536 ≤ b0 % 8 * 262144 + b1 % 64 * 4096 + b2 % 64 * 64 + b3 % 64 ∧ b0 % 8 * 262144 + b1 % 64 * 4096 + b2 % 64 * 64 + b3 % 64 ≤ 1114111
  · have : Lib.decodeN (s.size - i) b0 b1 b2 b3 = (b0 % 8 * 262144 + b1 % 64 * 4096 + b2 % 64 * 64 + b3 % 64, 4) := by
      unfold Lib.decodeN
      rw [if_neg (by omega), if_neg (by omega), if_neg (by omega), if_pos (by omega), if_pos (by omega)]
    rw [this, if_pos hc, if_neg (by simp)]
  · have : Lib.decodeN (s.size - i) b0 b1 b2 b3 = (65533, 1) := by
      unfold Lib.decodeN
      rw [if_neg (by omega), if_neg (by omega), if_neg (by omega)]
      by_cases h1 : b0 / 8 = 30 ∧ (1 < s.size - i ∧ b1 / 64 = 2) ∧ (2 < s.size - i ∧ b2 / 64 = 2) ∧ (3 < s.size - i ∧ b3 / 64 = 2)
      · rw [if_pos h1, if_neg (by omega)]
      · rw [if_neg h1]
    rw [this, if_neg hc]
    simp
end Go.Proofs.YtfpfgdbfigdooaaDoor
