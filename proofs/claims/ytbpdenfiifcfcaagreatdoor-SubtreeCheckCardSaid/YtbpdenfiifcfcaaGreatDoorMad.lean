/-
  Addresses and ranges as lists of bytes: when one lies within another. Nothing is claimed of the program here.
  Mail addresses, DNS names and addresses that are the same lie within the same bases; how long a text of each kind can be. Nothing is claimed of the program here.
  The two tables of unicode/utf8: what the program's text lays, and that calls which leave old memory alone leave them. Nothing is claimed of the program here.
  The contracts of strings.IndexByte and of strings.ContainsRune at an ASCII character: the library's theorems, laid at the program's own numbers. Nothing is claimed of the program beyond its bodies.
  Plain laws of texts as sequences of characters: which texts consist of characters of a set, and which are well-formed without control characters. Nothing is claimed of the program here.
  The contracts of isPlain of the program, and of Among and plain of the reference: whether a byte is one that is not escaped.
  The contract of text.Escape: the escaped form of a string; nothing that was there before the call has changed.
  The contracts of escaped and text.Unescape of the program: the string whose escaped form is the given one, if there is one; nothing that was there before the call has changed.
  The contracts of isPrintable (with strings.ContainsRune at characters beyond ASCII) and of consists: whether each character of a text is in a set; nothing that was there before the call has changed.
  The contracts of isPrintable and of consists of the program: whether each character of a text is in a set; nothing that was there before the call has changed.
-/
import Derived.Test.YtbpdenfiifcfcaaGreatDoorMac
import Derived.Test.YtbpdenfiifcfcaaGreatDoorMaa
import Derived.Lib.DecodeN
import Derived.Shelf.Strings.Runes
import Derived.Lib.ValidLaws
import Derived.Deep.QuietTactic
import Derived.BigQuiet
import Derived.Laws.Runes
import Derived.Lib.OthersKept
import Derived.Deep.LoopGhost
import Derived.Deep.RegionWith
namespace Go.Proofs.YtbpdenfiifcfcaaGreatDoor
open Go.RowKit

def addrB (b : List UInt8) : Bool := decide (b.length = 4) || decide (b.length = 16)
def bitAt (b : List UInt8) (at' i : Nat) : Bool := decide ((b.getD (at' + i / 8) 0).toNat / 2 ^ (7 - i % 8) % 2 = 1)
/-- A bit of the mask; a bit of the address. -/
def mbit (b : List UInt8) (i : Nat) : Bool := bitAt b (b.length / 2) i
def abit (b : List UInt8) (i : Nat) : Bool := bitAt b 0 i
def onesTo (b : List UInt8) (i : Nat) : Bool := (List.range i).all (mbit b)
def bitOk (b : List UInt8) (i : Nat) : Bool := if mbit b i = true then onesTo b i else !abit b i
def rangeB (b : List UInt8) : Bool := (decide (b.length = 8) || decide (b.length = 32)) && (List.range (8 * (b.length / 2))).all (bitOk b)
def wholeB (a r : List UInt8) : Bool := addrB a && decide (a.length = r.length / 2)
def byteIn (a r : List UInt8) (h i : Nat) : Bool := decide (a.getD i 0 &&& r.getD (h + i) 0 = r.getD i 0) && (wholeB a r || decide (a.getD (h + i) 0 &&& r.getD (h + i) 0 = r.getD (h + i) 0))
def addrWithinB (a r : List UInt8) : Bool := rangeB r && (wholeB a r || (rangeB a && decide (a.length = r.length))) && (List.range (r.length / 2)).all (byteIn a r (r.length / 2))

/-! ### Ranges with a mask of some bits -/
end Go.Proofs.YtbpdenfiifcfcaaGreatDoor
namespace Go.Proofs.YtbpdenfiifcfcaaGreatDoor
open Go.RowKit

/-! ### Lengths -/
theorem dns_len {l : List UInt8} (h : dnsB l = true) : l.length ≤ 128 := by
  unfold dnsB at h; rw [Bool.and_eq_true] at h; exact of_decide_eq_true h.1
theorem pat_len {l : List UInt8} (h : patB l = true) : l.length ≤ 128 := by
  unfold patB at h
  rw [Bool.or_eq_true] at h
  rcases h with h | h
  · exact dns_len h
  · simp only [Bool.and_eq_true] at h
    exact of_decide_eq_true h.1.1.1.1
theorem base_len {l : List UInt8} (h : baseB l = true) : l.length ≤ 128 := by
  unfold baseB at h
  rw [Bool.or_eq_true] at h
  rcases h with h | h
  · rw [of_decide_eq_true h]; simp
  · exact dns_len h
theorem mail_len {l : List UInt8} (h : mailB l = true) : l.length ≤ 128 := by
  unfold mailB at h
  simp only [Bool.and_eq_true] at h
  exact of_decide_eq_true h.1.1.1.1.1.1.1
theorem mailBase_len {l : List UInt8} (h : mailBaseB l = true) : l.length ≤ 128 := by
  unfold mailBaseB at h
  rw [Bool.or_eq_true, Bool.or_eq_true] at h
  rcases h with (h | h) | h
  · exact mail_len h
  · exact dns_len h
  · simp only [Bool.and_eq_true] at h
    exact of_decide_eq_true h.1.1.1
theorem addr_le {l : List UInt8} (h : addrB l = true) : l.length ≤ 128 := by
  unfold addrB at h
  rw [Bool.or_eq_true, decide_eq_true_iff, decide_eq_true_iff] at h
  omega
theorem range_le {l : List UInt8} (h : rangeB l = true) : l.length ≤ 128 := by
  unfold rangeB at h
  rw [Bool.and_eq_true, Bool.or_eq_true, decide_eq_true_iff, decide_eq_true_iff] at h
  omega
end Go.Proofs.YtbpdenfiifcfcaaGreatDoor
namespace Go.Proofs.YtbpdenfiifcfcaaGreatDoor
open Go.RowKit

/-! ### The tables -/
/-- The two tables of unicode/utf8 lie as the library's text lays them. -/
def Tab (w : World) : Prop :=
  (∀ c, c < 256 → w.cell? ⟨2, c, none⟩ = some (.int .u8 (Lib.firstT c))) ∧
  (∀ i, i < 16 → w.cell? ⟨3, 2 * i, none⟩ = some (.int .u8 (Lib.accLo i)) ∧ w.cell? ⟨3, 2 * i + 1, none⟩ = some (.int .u8 (Lib.accHi i)))
theorem Tab.lt {w : World} (h : Tab w) : 2 < w.heap.size ∧ 3 < w.heap.size :=
  ⟨block_lt_of_cell (h.1 0 (by omega)), block_lt_of_cell (h.2 0 (by omega)).1⟩
theorem Tab.below {w w' : World} (h : Tab w) (hb : Below w.heap.size w w') : Tab w' :=
  ⟨fun c hc => (hb.cell (p := ⟨2, c, none⟩) h.lt.1).trans (h.1 c hc),
   fun i hi => ⟨(hb.cell (p := ⟨3, 2 * i, none⟩) h.lt.2).trans (h.2 i hi).1, (hb.cell (p := ⟨3, 2 * i + 1, none⟩) h.lt.2).trans (h.2 i hi).2⟩⟩
theorem Tab.alloc {w : World} (h : Tab w) (o : Obj) : Tab (w.alloc o) := h.below (belowNew w o)
theorem Tab.drawn {w : World} (h : Tab w) (n : Nat) : Tab (w.drewN n) := h
end Go.Proofs.YtbpdenfiifcfcaaGreatDoor
namespace Go.Proofs.YtbpdenfiifcfcaaGreatDoor
open Go.Shelf Go.RowKit

def lays137_ren : Go.Shelf.Ren := ⟨fun | 137 => 200 | 217 => 207 | 266 => 231 | n => n, fun | 3 => 3 | 5 => 5 | 9 => 9 | n => n, fun | n => n⟩
theorem lays137 : Go.Proofs.Lays.n137 Tryz.prog lays137_ren := {
  mixed := by kernel_rfl
  f137 := Tryz.func200.trans (congrArg some (by kernel_rfl))
  f217 := Tryz.func207.trans (congrArg some (by kernel_rfl))
  f266 := Tryz.func231.trans (congrArg some (by kernel_rfl))
  t3 := Tryz.underlying3
  a3 := Tryz.isAgg3
  z3 := Tryz.sizeOf3
  v3 := Tryz.zeroValue3
  t5 := Tryz.underlying5
  a5 := Tryz.isAgg5
  z5 := Tryz.sizeOf5
  v5 := Tryz.zeroValue5
  t9 := Tryz.underlying9
  a9 := Tryz.isAgg9
  z9 := Tryz.sizeOf9
  v9 := Tryz.zeroValue9 }
def lays151_ren : Go.Shelf.Ren := ⟨fun | 119 => 241 | 137 => 200 | 151 => 205 | 152 => 228 | 217 => 207 | 224 => 209 | 225 => 208 | 266 => 231 | n => n, fun | 0 => 0 | 3 => 3 | 4 => 4 | 5 => 5 | 9 => 9 | 21 => 21 | 46 => 127 | n => n, fun | n => n⟩
theorem lays151 : Go.Proofs.Lays.n151 Tryz.prog lays151_ren := {
  mixed := by kernel_rfl
  f119 := Tryz.func241.trans (congrArg some (by kernel_rfl))
  f137 := Tryz.func200.trans (congrArg some (by kernel_rfl))
  f151 := Tryz.func205.trans (congrArg some (by kernel_rfl))
  f152 := Tryz.func228.trans (congrArg some (by kernel_rfl))
  f217 := Tryz.func207.trans (congrArg some (by kernel_rfl))
  f224 := Tryz.func209.trans (congrArg some (by kernel_rfl))
  f225 := Tryz.func208.trans (congrArg some (by kernel_rfl))
  f266 := Tryz.func231.trans (congrArg some (by kernel_rfl))
  t0 := Tryz.underlying0
  a0 := Tryz.isAgg0
  z0 := Tryz.sizeOf0
  v0 := Tryz.zeroValue0
  t3 := Tryz.underlying3
  a3 := Tryz.isAgg3
  z3 := Tryz.sizeOf3
  v3 := Tryz.zeroValue3
  t4 := Tryz.underlying4
  a4 := Tryz.isAgg4
  z4 := Tryz.sizeOf4
  v4 := Tryz.zeroValue4
  t5 := Tryz.underlying5
  a5 := Tryz.isAgg5
  z5 := Tryz.sizeOf5
  v5 := Tryz.zeroValue5
  t9 := Tryz.underlying9
  a9 := Tryz.isAgg9
  z9 := Tryz.sizeOf9
  v9 := Tryz.zeroValue9
  t21 := Tryz.underlying21
  a21 := Tryz.isAgg21
  z21 := Tryz.sizeOf21
  v21 := Tryz.zeroValue21
  t46 := Tryz.underlying127
  a46 := Tryz.isAgg127
  z46 := Tryz.sizeOf127
  v46 := Tryz.zeroValue127 }

theorem idx_ge : ∀ (l : List UInt8) (b : UInt8), -1 ≤ Lib.indexByte l b
  | [], _ => by simp [Lib.indexByte]
  | c :: l, b => by
    have := idx_ge l b
    simp only [Lib.indexByte]
    split
    · omega
    · split <;> omega
theorem idx_has : ∀ (l : List UInt8) (b : UInt8), l.contains b = decide (0 ≤ Lib.indexByte l b)
  | [], _ => rfl
  | c :: l, b => by
    have ih := idx_has l b
    have hg := idx_ge l b
    rw [List.contains_cons, ih, Bool.eq_iff_iff]
    simp only [Lib.indexByte, Bool.or_eq_true, decide_eq_true_eq, beq_iff_eq]
    by_cases e : c = b
    · subst e; simp
    · rw [if_neg e]
      have e1 : ¬ b = c := fun h => e h.symm
      by_cases k : Lib.indexByte l b = -1
      · rw [if_pos k, k]; simp [e1]
      · rw [if_neg k]
        constructor
        · rintro (h | h)
          · exact absurd h e1
          · omega
        · intro h
          right; omega
theorem idx_any (s : ByteArray) (c : UInt8) (w : World) : Calls Tryz.prog 200 #[.string s, .int .u8 ((c.toNat : Nat) : Int)] w fun e w' => e = .returned (.int .i64 (Lib.indexByte s.data.toList c)) ∧ w' = w := by
  have h := Any.strings_IndexByte lays137 s ((c.toNat : Nat) : Int) w
  have e : ((c.toNat : Nat) : Int).toNat.toUInt8 = c := by simp
  rw [e] at h
  exact h
theorem crune_any (s : ByteArray) (n : Nat) (hn : n < 128) (w : World) : Calls Tryz.prog 205 #[.string s, .int .i32 ((n : Nat) : Int)] w fun e w' => e = .returned (.bool (s.data.toList.contains (UInt8.ofNat n))) ∧ w' = w := by
  have h := Any.strings_ContainsRune_ascii lays151 s ((n : Nat) : Int) w (by omega) (by omega)
  have e : ((n : Nat) : Int).toNat.toUInt8 = UInt8.ofNat n := rfl
  rw [e, ← idx_has] at h
  exact h
end Go.Proofs.YtbpdenfiifcfcaaGreatDoor
namespace Go.Proofs.YtbpdenfiifcfcaaGreatDoor
open Go.RowKit

/-- Whether each character of a text is in a set. -/
def allGo (p : Nat → Bool) : Nat → List UInt8 → Bool
  | 0, _ => true
  | n + 1, l => if l = [] then true else p (Lib.decodeL l).1 && allGo p n (l.drop (Lib.decodeL l).2)
def allD (p : Nat → Bool) (l : List UInt8) : Bool := allGo p l.length l
theorem allGo_nil (p : Nat → Bool) : ∀ n, allGo p n [] = true
  | 0 => rfl
  | _ + 1 => by simp [allGo]
theorem allGo_fuel (p : Nat → Bool) : ∀ (n m : Nat) (l : List UInt8), l.length ≤ n → l.length ≤ m → allGo p n l = allGo p m l
  | 0, m, l, hn, _ => by
    obtain rfl : l = [] := List.eq_nil_of_length_eq_zero (by omega)
    rw [allGo_nil, allGo_nil]
  | n + 1, 0, l, _, hm => by
    obtain rfl : l = [] := List.eq_nil_of_length_eq_zero (by omega)
    rw [allGo_nil, allGo_nil]
  | n + 1, m + 1, l, hn, hm => by
    unfold allGo
    by_cases hne : l = []
    · simp [hne]
    · have hw := Lib.decodeL_width l
      have hl : 0 < l.length := List.length_pos_iff.2 hne
      rw [if_neg hne, if_neg hne, allGo_fuel p n m (l.drop (Lib.decodeL l).2) (by rw [List.length_drop]; omega) (by rw [List.length_drop]; omega)]
theorem allD_step (p : Nat → Bool) (l : List UInt8) (hne : l ≠ []) : allD p l = (p (Lib.decodeL l).1 && allD p (l.drop (Lib.decodeL l).2)) := by
  have hl : 0 < l.length := List.length_pos_iff.2 hne
  have hw := Lib.decodeL_width l
  obtain ⟨n, hn⟩ : ∃ n, l.length = n + 1 := ⟨l.length - 1, by omega⟩
  unfold allD
  rw [hn]
  show (if l = [] then true else _) = _
  rw [if_neg hne, allGo_fuel p n (l.drop (Lib.decodeL l).2).length _ (by rw [List.length_drop]; omega) (Nat.le_refl _)]
theorem high_rune (b : UInt8) (t : List UInt8) (h : 128 ≤ b.toNat) : 128 ≤ (Lib.decodeL (b :: t)).1 :=
  (decode_high ⟨(b :: t).toArray⟩ 0 (by show 0 < (b :: t).length; simp) h).1
/-- A set of ASCII characters is asked byte by byte. -/
theorem allD_ascii (p : Nat → Bool) (hp : ∀ n, 128 ≤ n → p n = false) : ∀ (n : Nat) (l : List UInt8), l.length ≤ n → allD p l = l.all fun b => p b.toNat
  | _, [], _ => rfl
  | 0, b :: t, h => by simp at h
  | n + 1, b :: t, h => by
    rw [allD_step p _ (by simp), List.all_cons]
    by_cases hb : b.toNat < 128
    · rw [Lib.decodeL_ascii b t hb]
      show (p b.toNat && allD p t) = _
      rw [allD_ascii p hp n t (by simp at h; omega)]
    · rw [hp _ (high_rune b t (by omega)), hp b.toNat (by omega), Bool.false_and, Bool.false_and]

/-- The texts that may be contents of a string of TagUTF8. -/
def okU (l : List UInt8) : Bool := Lib.validD l && allD isU l
theorem okU_low (b : UInt8) (t : List UInt8) (h : b.toNat < 128) : okU (b :: t) = (isU b.toNat && okU t) := by
  unfold okU
  rw [Lib.validD_cons b t h, allD_step _ _ (by simp), Lib.decodeL_ascii b t h]
  show (Lib.validD t && (isU b.toNat && allD isU t)) = _
  rw [← Bool.and_assoc, Bool.and_comm (Lib.validD t), Bool.and_assoc]
theorem okU_high (b : UInt8) (t : List UInt8) (h : 128 ≤ b.toNat) : okU (b :: t) = if (Lib.decodeL (b :: t)).1 = 65533 ∧ (Lib.decodeL (b :: t)).2 = 1 then false else okU ((b :: t).drop (Lib.decodeL (b :: t)).2) := by
  unfold okU
  rw [Lib.validD_step _ (by simp), allD_step _ _ (by simp)]
  split
  · simp
  · have h1 := high_rune b t h
    have : isU (Lib.decodeL (b :: t)).1 = true := by
      unfold isU
      simp
      omega
    rw [this, Bool.true_and]
theorem getD_drop (l : List UInt8) (i j : Nat) : (l.drop i).getD j 0 = l.getD (i + j) 0 := by
  rw [List.getD_eq_getElem?_getD, List.getD_eq_getElem?_getD, List.getElem?_drop]
/-- What the decoder finds at a place. -/
theorem dec_at (s : ByteArray) (i : Nat) : Lib.decodeL (s.data.toList.drop i) = Lib.decodeN (s.size - i) (u8at s i) (u8at s (i + 1)) (u8at s (i + 2)) (u8at s (i + 3)) := by
  rw [Lib.decodeL_N, List.length_drop, getD_drop, getD_drop, getD_drop, getD_drop]
  rfl
theorem okU_end (s : ByteArray) (i : Nat) (h : s.size ≤ i) : okU (s.data.toList.drop i) = true := by
  rw [List.drop_eq_nil_of_le (show s.data.toList.length ≤ i from h)]
  rfl
theorem okU_at (s : ByteArray) (i : Nat) (hi : i < s.size) (h : 128 ≤ u8at s i) :
    okU (s.data.toList.drop i) = if (Lib.decodeN (s.size - i) (u8at s i) (u8at s (i + 1)) (u8at s (i + 2)) (u8at s (i + 3))).1 = 65533 ∧ (Lib.decodeN (s.size - i) (u8at s i) (u8at s (i + 1)) (u8at s (i + 2)) (u8at s (i + 3))).2 = 1 then false
      else okU (s.data.toList.drop (i + (Lib.decodeN (s.size - i) (u8at s i) (u8at s (i + 1)) (u8at s (i + 2)) (u8at s (i + 3))).2)) := by
  obtain ⟨c, hc, hcn⟩ := u8at_list s i hi
  have hd := drop_cons hc
  have hk := okU_high c (s.data.toList.drop (i + 1)) (by omega)
  rw [← hd, dec_at, List.drop_drop] at hk
  exact hk
theorem okU_one (s : ByteArray) (i : Nat) (hi : i < s.size) (h : u8at s i < 128) : okU (s.data.toList.drop i) = (isU (u8at s i) && okU (s.data.toList.drop (i + 1))) := by
  obtain ⟨c, hc, hcn⟩ := u8at_list s i hi
  rw [drop_cons hc, okU_low _ _ (by omega), hcn]
theorem okU_no (s : ByteArray) (i : Nat) (hi : i < s.size) (h : (128 ≤ u8at s i ∧ u8at s i < 192) ∨ 248 ≤ u8at s i) : okU (s.data.toList.drop i) = false := by
  rw [okU_at s i hi (by omega)]
  generalize u8at s i = b0 at h ⊢
  have : Lib.decodeN (s.size - i) b0 (u8at s (i + 1)) (u8at s (i + 2)) (u8at s (i + 3)) = (65533, 1) := by
    unfold Lib.decodeN
    rw [if_neg (by omega), if_neg (by omega), if_neg (by omega), if_neg (by omega)]
  rw [this]
  simp
theorem okU_2 (s : ByteArray) (i : Nat) (hi : i < s.size) (h : 192 ≤ u8at s i ∧ u8at s i < 224) :
    okU (s.data.toList.drop i) = if (i + 1 < s.size ∧ u8at s (i + 1) / 64 = 2) ∧ 128 ≤ 64 * (u8at s i % 32) + u8at s (i + 1) % 64 then okU (s.data.toList.drop (i + 2)) else false := by
  rw [okU_at s i hi (by omega)]
  generalize u8at s i = b0 at h ⊢
  generalize u8at s (i + 1) = b1
  by_cases hc : (i + 1 < s.size ∧ b1 / 64 = 2) ∧ 128 ≤ 64 * (b0 % 32) + b1 % 64
  · have : Lib.decodeN (s.size - i) b0 b1 (u8at s (i + 2)) (u8at s (i + 3)) = (b0 % 32 * 64 + b1 % 64, 2) := by
      unfold Lib.decodeN
      rw [if_neg (by omega), if_pos (by omega), if_pos (by omega)]
    rw [this, if_pos hc, if_neg (by simp)]
  · have : Lib.decodeN (s.size - i) b0 b1 (u8at s (i + 2)) (u8at s (i + 3)) = (65533, 1) := by
      unfold Lib.decodeN
      rw [if_neg (by omega)]
      by_cases h1 : b0 / 32 = 6 ∧ (1 < s.size - i ∧ b1 / 64 = 2)
      · rw [if_pos h1, if_neg (by omega)]
      · rw [if_neg h1, if_neg (by omega), if_neg (by omega)]
    rw [this, if_neg hc]
    simp
theorem okU_3 (s : ByteArray) (i : Nat) (hi : i < s.size) (h : 224 ≤ u8at s i ∧ u8at s i < 240) :
    okU (s.data.toList.drop i) = if (i + 2 < s.size ∧ u8at s (i + 1) / 64 = 2 ∧ u8at s (i + 2) / 64 = 2) ∧ 2048 ≤ 64 * (64 * (u8at s i % 16) + u8at s (i + 1) % 64) + u8at s (i + 2) % 64 ∧ ¬ (55296 ≤ 64 * (64 * (u8at s i % 16) + u8at s (i + 1) % 64) + u8at s (i + 2) % 64 ∧ 64 * (64 * (u8at s i % 16) + u8at s (i + 1) % 64) + u8at s (i + 2) % 64 < 57344) then okU (s.data.toList.drop (i + 3)) else false := by
  rw [okU_at s i hi (by omega)]
  generalize u8at s i = b0 at h ⊢
  generalize u8at s (i + 1) = b1
  generalize u8at s (i + 2) = b2
  have hv : 64 * (64 * (b0 % 16) + b1 % 64) + b2 % 64 = b0 % 16 * 4096 + b1 % 64 * 64 + b2 % 64 := by omega
  rw [hv]
  by_cases hc : (i + 2 < s.size ∧ b1 / 64 = 2 ∧ b2 / 64 = 2) ∧ 2048 ≤ b0 % 16 * 4096 + b1 % 64 * 64 + b2 % 64 ∧ ¬ (55296 ≤ b0 % 16 * 4096 + b1 % 64 * 64 + b2 % 64 ∧ b0 % 16 * 4096 + b1 % 64 * 64 + b2 % 64 < 57344)
  · have : Lib.decodeN (s.size - i) b0 b1 b2 (u8at s (i + 3)) = (b0 % 16 * 4096 + b1 % 64 * 64 + b2 % 64, 3) := by
      unfold Lib.decodeN
      rw [if_neg (by omega), if_neg (by omega), if_pos (by omega), if_pos (by omega)]
    rw [this, if_pos hc, if_neg (by simp)]
  · have : Lib.decodeN (s.size - i) b0 b1 b2 (u8at s (i + 3)) = (65533, 1) := by
      unfold Lib.decodeN
      rw [if_neg (by omega), if_neg (by omega)]
      by_cases h1 : b0 / 16 = 14 ∧ (1 < s.size - i ∧ b1 / 64 = 2) ∧ (2 < s.size - i ∧ b2 / 64 = 2)
      · rw [if_pos h1, if_neg (by omega)]
      · rw [if_neg h1, if_neg (by omega)]
    rw [this, if_neg hc]
    simp
theorem okU_4 (s : ByteArray) (i : Nat) (hi : i < s.size) (h : 240 ≤ u8at s i ∧ u8at s i < 248) :
    okU (s.data.toList.drop i) = if (i + 3 < s.size ∧ u8at s (i + 1) / 64 = 2 ∧ u8at s (i + 2) / 64 = 2 ∧ u8at s (i + 3) / 64 = 2) ∧ 65536 ≤ 64 * (64 * (64 * (u8at s i % 8) + u8at s (i + 1) % 64) + u8at s (i + 2) % 64) + u8at s (i + 3) % 64 ∧ 64 * (64 * (64 * (u8at s i % 8) + u8at s (i + 1) % 64) + u8at s (i + 2) % 64) + u8at s (i + 3) % 64 ≤ 1114111 then okU (s.data.toList.drop (i + 4)) else false := by
  rw [okU_at s i hi (by omega)]
  generalize u8at s i = b0 at h ⊢
  generalize u8at s (i + 1) = b1
  generalize u8at s (i + 2) = b2
  generalize u8at s (i + 3) = b3
  have hv : 64 * (64 * (64 * (b0 % 8) + b1 % 64) + b2 % 64) + b3 % 64 = b0 % 8 * 262144 + b1 % 64 * 4096 + b2 % 64 * 64 + b3 % 64 := by omega
  rw [hv]
  by_cases hc : (i + 3 < s.size ∧ b1 / 64 = 2 ∧ b2 / 64 = 2 ∧ b3 / 64 = 2) ∧ 65536 ≤ b0 % 8 * 262144 + b1 % 64 * 4096 + b2 % 64 * 64 + b3 % 64 ∧ b0 % 8 * 262144 + b1 % 64 * 4096 + b2 % 64 * 64 + b3 % 64 ≤ 1114111
  · have : Lib.decodeN (s.size - i) b0 b1 b2 b3 = (b0 % 8 * 262144 + b1 % 64 * 4096 + b2 % 64 * 64 + b3 % 64, 4) := by
      unfold Lib.decodeN
      rw [if_neg (by omega), if_neg (by omega), if_neg (by omega), if_pos (by omega), if_pos (by omega)]
    rw [this, if_pos hc, if_neg (by simp)]
  · have : Lib.decodeN (s.size - i) b0 b1 b2 b3 = (65533, 1) := by
      unfold Lib.decodeN
      rw [if_neg (by omega), if_neg (by omega), if_neg (by omega)]
      by_cases h1 : b0 / 8 = 30 ∧ (1 < s.size - i ∧ b1 / 64 = 2) ∧ (2 < s.size - i ∧ b2 / 64 = 2) ∧ (3 < s.size - i ∧ b3 / 64 = 2)
      · rw [if_pos h1, if_neg (by omega)]
      · rw [if_neg h1]
    rw [this, if_neg hc]
    simp
end Go.Proofs.YtbpdenfiifcfcaaGreatDoor
namespace Go.Proofs.YtbpdenfiifcfcaaGreatDoor
open Go.RowKit

theorem isal_is {n : Nat} {b : Bool} (h : alnum n = b) (w : World) : Calls Tryz.prog 204 #[.int .i32 (n : Int)] w fun e w' => e = .returned (.bool b) ∧ w' = w := by
  have := isal_any n w
  rwa [h] at this
theorem ralnum_is {n : Nat} {b : Bool} (h : alnum n = b) (w : World) : Calls Tryz.prog 110 #[.int .u8 (n : Int)] w fun e w' => e = .returned (.bool b) ∧ w' = w := by
  have := ralnum_any n w
  rwa [h] at this
theorem idx_is {s : ByteArray} {c : UInt8} {b : Int} (h : Lib.indexByte s.data.toList c = b) (w : World) : Calls Tryz.prog 200 #[.string s, .int .u8 ((c.toNat : Nat) : Int)] w fun e w' => e = .returned (.int .i64 b) ∧ w' = w := by
  have := idx_any s c w
  rwa [h] at this

set_option maxHeartbeats 1000000 in
theorem among_any (c : UInt8) (l : ByteArray) (hl : l.size ≤ 1000000) (w : World) :
    Calls Tryz.prog 111 #[.int .u8 ((c.toNat : Nat) : Int), .string l] w fun e w' => e = .returned (.bool (l.data.toList.contains c)) ∧ w' = w := by
  go_enter Tryz.func111, Tryz.ntmps111
  go_wp2_with fail
  go_loopw [5] (fun i wr => ∃ k : Nat, k ≤ l.size ∧ i = .int .i64 (k : Int) ∧ wr = w ∧ l.data.toList.contains c = (l.data.toList.drop k).contains c) (fun i _ => l.size - (intOf i).toNat)
  case atStart => exact ⟨0, by omega, rfl, rfl, by simp⟩
  case round =>
    obtain ⟨k, hk, rfl, rfl, hc⟩ := hrel
    by_cases hlt : k < l.size
    · have hd : decide ((k : Int) < (l.size : Int)) = true := by simp; omega
      obtain ⟨x, hx, hxn⟩ := u8at_list l k hlt
      have hix := run_index_u8 (P := Tryz.prog) Tryz.underlying9 l k hlt (k : Int) rfl wr
      rw [hxn] at hix
      rw [drop_cons hx, List.contains_cons] at hc
      by_cases e : x = c
      · have hq : ((x.toNat : Nat) : Int) == ((c.toNat : Nat) : Int) := by rw [e]; simp
        have HC := Lib.hid (show l.data.toList.contains c = true by rw [hc, e]; simp)
        clear hc hx hxn e
        go_wp2_with fail
        go_ret
        exact ⟨by rw [HC.out]; rfl, rfl⟩
      · have hne : ¬ x.toNat = c.toNat := fun h => e (UInt8.toNat_inj.1 h)
        have hq : (((x.toNat : Nat) : Int) == ((c.toNat : Nat) : Int)) = false := by simp; omega
        have HC := Lib.hid (show l.data.toList.contains c = (l.data.toList.drop (k + 1)).contains c by
          rw [hc, show (c == x) = false by simp; exact fun h => e h.symm, Bool.false_or])
        clear hc hx hxn e hne
        go_wp2_with fail
        go_roundw
        case rel => exact ⟨k + 1, by omega, by go_num, by first | exact trivial | rfl, HC.out⟩
        case measure => simp [intOf]; omega
    · have hd : decide ((k : Int) < (l.size : Int)) = false := by simp; omega
      have HC := Lib.hid (show l.data.toList.contains c = false by
        rw [hc, List.drop_eq_nil_of_le (show l.data.toList.length ≤ k by show l.size ≤ k; omega)]; rfl)
      clear hc
      go_wp2_with fail
      go_ret
      exact ⟨by rw [HC.out]; rfl, rfl⟩
theorem among_is {c : UInt8} {l : ByteArray} {b : Bool} (h : l.data.toList.contains c = b) (hl : l.size ≤ 1000000) (w : World) :
    Calls Tryz.prog 111 #[.int .u8 ((c.toNat : Nat) : Int), .string l] w fun e w' => e = .returned (.bool b) ∧ w' = w := by
  have := among_any c l hl w
  rwa [h] at this

end Go.Proofs.YtbpdenfiifcfcaaGreatDoor
namespace Go.Proofs.YtbpdenfiifcfcaaGreatDoor
open Go.RowKit

end Go.Proofs.YtbpdenfiifcfcaaGreatDoor
namespace Go.Proofs.YtbpdenfiifcfcaaGreatDoor
open Go.RowKit

theorem ext_list_x (r : ByteArray) (i j : Nat) : (r.extract i j).data.toList = (r.data.toList.drop i).take (j - i) := by
  rw [ByteArray.data_extract, Array.toList_extract, List.extract_eq_take_drop]
/-! ### One byte in digits -/
end Go.Proofs.YtbpdenfiifcfcaaGreatDoor
namespace Go.Proofs.YtbpdenfiifcfcaaGreatDoor
open Go.RowKit

def printL : List UInt8 := [32, 39, 40, 41, 43, 44, 45, 46, 47, 58, 61, 63]
def isP (n : Nat) : Bool := alnum n || (decide (n < 128) && printL.contains (UInt8.ofNat n))

set_option maxHeartbeats 1000000 in
theorem vrune_any (n : Nat) (h : n ≤ 1114111) (w : World) :
    Calls Tryz.prog 241 #[.int .i32 (n : Int)] w fun e w' => e = .returned (.bool (Utf8.valid (n : Int))) ∧ w' = w := by
  rcases (by omega : (n < 55296) ∨ (55296 ≤ n ∧ n ≤ 57343) ∨ (57344 ≤ n)) with h1 | h1 | h1
  · have d0 : decide ((0 : Int) ≤ (n : Int)) = true := by simp
    have d1 : decide ((n : Int) < 55296) = true := by simp; omega
    have HR := Lib.hid (show Utf8.valid (n : Int) = true by unfold Utf8.valid; simp; omega)
    clear h1
    go_enter Tryz.func241, Tryz.ntmps241
    go_wp2_with fail
    go_ret
    exact ⟨by rw [HR.out]; rfl, rfl⟩
  · have d0 : decide ((0 : Int) ≤ (n : Int)) = true := by simp
    have d1 : decide ((n : Int) < 55296) = false := by simp; omega
    have d2 : decide ((57343 : Int) < (n : Int)) = false := by simp; omega
    have HR := Lib.hid (show Utf8.valid (n : Int) = false by unfold Utf8.valid; simp; omega)
    clear h1
    go_enter Tryz.func241, Tryz.ntmps241
    go_wp2_with fail
    go_ret
    exact ⟨by rw [HR.out]; rfl, rfl⟩
  · have d0 : decide ((0 : Int) ≤ (n : Int)) = true := by simp
    have d1 : decide ((n : Int) < 55296) = false := by simp; omega
    have d2 : decide ((57343 : Int) < (n : Int)) = true := by simp; omega
    have d3 : decide ((n : Int) ≤ 1114111) = true := by simp; omega
    have HR := Lib.hid (show Utf8.valid (n : Int) = true by unfold Utf8.valid; simp; omega)
    clear h1
    go_enter Tryz.func241, Tryz.ntmps241
    go_wp2_with fail
    go_ret
    exact ⟨by rw [HR.out]; rfl, rfl⟩
theorem vrune_is {n : Nat} {b : Bool} (hb : Utf8.valid (n : Int) = b) (h : n ≤ 1114111) (w : World) :
    Calls Tryz.prog 241 #[.int .i32 (n : Int)] w fun e w' => e = .returned (.bool b) ∧ w' = w := by
  have := vrune_any n h w
  rwa [hb] at this
theorem idx_absent {l : List UInt8} {c : UInt8} (h : l.contains c = false) : Lib.indexByte l c = -1 := by
  have h1 := idx_has l c
  have h2 := idx_ge l c
  rw [h] at h1
  have := of_decide_eq_false h1.symm
  omega

/-! ### A character beyond ASCII in an ASCII text -/
set_option maxRecDepth 100000 in
set_option maxHeartbeats 4000000 in
theorem irune_big (s : ByteArray) (hs : 4 ≤ s.size ∧ s.size ≤ 1000) (hasc : ∀ j, j < s.size → u8at s j < 128) (n : Nat) (h128 : 128 ≤ n) (hmax : n ≤ 1114111) (w : World) :
    Calls Tryz.prog 228 #[.string s, .int .i32 (n : Int)] w fun e w' => e = .returned (.int .i64 (-1)) ∧ Below w.heap.size w w' := by
  have HAS := Lib.hid hasc
  have d0 : decide ((0 : Int) ≤ (n : Int)) = true := by simp
  have d1 : decide ((n : Int) < 128) = false := by simp; omega
  clear hasc
  by_cases he : n = 65533
  · have d2 : ((n : Int) == 65533) = true := by rw [he]; rfl
    clear he
    go_enter Tryz.func228, Tryz.ntmps228
    go_wp2_with fail
    go_loopg [] s.size (fun gf wx => ∃ pos : Nat, wx.heap[w.heap.size]? = some (.stringIter s pos) ∧ Below w.heap.size w wx ∧ s.size ≤ pos + gf)
    case atStart => exact ⟨0, World.iter_heap w s 0, (Below.refl _ w).alloc (Nat.le_refl _) _, by omega⟩
    case round =>
      obtain ⟨pos, hit, hbw, hfu⟩ := hrel
      by_cases hps : pos < s.size
      · obtain ⟨g', rfl⟩ : ∃ g', gk = g' + 1 := ⟨gk - 1, by omega⟩
        have hnx : ∀ ty, (Instr.next (.pointer (some ⟨w.heap.size, 0, none⟩)) true ty).run Tryz.prog wr = _ := fun ty => Lib.run_next_any_at wr w.heap.size s pos ty hit hps
        have ha := HAS.out pos hps
        rw [u8at_get s pos hps] at ha
        rw [decode_ascii s pos hps ha] at hnx
        have hit2 := Lib.iterAt_heap wr w.heap.size s pos (pos + 1) hit
        have hbw2 := Lib.below_iterAt hbw (k := w.heap.size) (Nat.le_refl _) s (pos + 1)
        obtain ⟨W, hWd⟩ : ∃ W, wr.iterAt w.heap.size s (pos + 1) = W := ⟨_, rfl⟩
        simp only [hWd] at hnx hit2 hbw2
        generalize (s[pos]'hps).toNat = R at hnx ha
        have d3 : ((R : Int) == 65533) = false := by simp; omega
        have HIT := Lib.hid hit2
        have HBW := Lib.hid hbw2
        clear hit hbw hit2 hbw2 hWd
        go_wp2_with fail
        go_roundg g'
        case measure => omega
        case rel => exact ⟨pos + 1, HIT.out, HBW.out, by omega⟩
      · have hnx : ∀ ty, (Instr.next (.pointer (some ⟨w.heap.size, 0, none⟩)) true ty).run Tryz.prog wr = _ := fun ty => Lib.run_next_end_at wr w.heap.size s pos ty hit hps
        have HBW := Lib.hid hbw
        clear hbw
        go_wp2_with fail
        go_ret
        exact ⟨rfl, HBW.out⟩
  · have d2 : ((n : Int) == 65533) = false := by simp; omega
    clear he
    cases hv : Utf8.valid (n : Int) with
    | false =>
      have HV := Lib.hid (fun w => vrune_is hv hmax w)
      clear hv
      go_enter Tryz.func228, Tryz.ntmps228
      go_wp2_with (go_at_call 241; (with_reducible refine (HV.out _).mono ?_); rintro e w3 ⟨rfl, rfl⟩)
      go_ret
      exact ⟨rfl, Below.refl _ _⟩
    | true =>
      have HV := Lib.hid (fun w => vrune_is hv hmax w)
      obtain ⟨he1, he2, he3⟩ := encode_facts (n : Int) hv (by omega)
      have hcv := fun w => run_convert_int_string (P := Tryz.prog) w 21 9 .i32 (n : Int) (by kernel_rfl) Tryz.underlying9
      generalize Utf8.encode (n : Int) = E at he1 he2 he3 hcv
      obtain ⟨m, hm⟩ : ∃ m, E.size = m + 1 := ⟨E.size - 1, by omega⟩
      have hmi : (E.size : Int) - 1 = (m : Int) := by omega
      have hm3 : m ≤ 3 := by omega
      have hmE : m < E.size := by omega
      have hms : m < s.size := by omega
      have hx0 : 128 ≤ u8at E m := by
        rw [u8at_get E m hmE]
        have := he3 (by omega)
        simpa only [show E.size - 1 = m by omega] using this
      obtain ⟨x, hx, hxn⟩ := u8at_list E m hmE
      have hiE := fun w => run_index_u8 (P := Tryz.prog) Tryz.underlying9 E m hmE (m : Int) rfl w
      have hiS := fun w => run_index_u8 (P := Tryz.prog) Tryz.underlying9 s m hms (m : Int) rfl w
      have hp := HAS.out m hms
      rw [hxn] at hiE hx0
      generalize u8at s m = p at hiS hp
      have hne : ((p : Int) != ((x.toNat : Nat) : Int)) = true := by simp; omega
      obtain ⟨k1, hk1⟩ : ∃ k1, k1 = m + 1 := ⟨_, rfl⟩
      have hk1i : (m : Int) + 1 = (k1 : Int) := by omega
      have hk1b : (k1 : Int) ≤ (s.size : Int) := by omega
      have hk1n : k1 ≤ s.size := by omega
      have hmEi : (m : Int) < (E.size : Int) := by omega
      have hwr : IntKind.i64.wrap (k1 : Int) = (k1 : Int) := by rw [wrap_i64]; omega
      have hlt : decide ((m : Int) < (s.size : Int)) = true := by simp; omega
      have HI := Lib.hid (show Lib.indexByte (s.extract k1 s.size).data.toList x = -1 by
        have hex : (s.extract k1 s.size).data.toList = s.data.toList.drop k1 := by
          rw [ext_list_x]
          exact List.take_of_length_le (by rw [List.length_drop]; exact Nat.le_refl _)
        rw [hex]
        refine idx_absent ?_
        rw [List.contains_eq_any_beq, List.any_eq_false]
        intro b hb hbe
        have hb2 := List.mem_of_mem_drop hb
        obtain ⟨j, hj, hjb⟩ := List.getElem_of_mem hb2
        have h1 := HAS.out j hj
        rw [u8at_get s j hj] at h1
        have e3 : (s[j]'hj).toNat = (s.data.toList[j]).toNat := rfl
        have e4 : x = b := by first | exact eq_of_beq hbe | exact (eq_of_beq hbe).symm
        rw [e3, hjb, ← e4] at h1
        omega)
      clear hv he1 he2 he3 hm hx hxn hx0 hp hk1
      go_enter Tryz.func228, Tryz.ntmps228
      go_wp2_with (go_at_call 241; (with_reducible refine (HV.out _).mono ?_); rintro e w3 ⟨rfl, rfl⟩)
      go_step3
      go_wp2_with fail
      go_loopw [9] (fun i wx => i = .int .i64 (m : Int) ∧ wx = w3) (fun _ _ => 0)
      case atStart => exact ⟨rfl, rfl⟩
      case round =>
        obtain ⟨rfl, rfl⟩ := hrel
        go_wp2_with fail
        go_step3
        go_wp2_with fail
        go_region
        go_wp2_with fail
        have HBQ := Lib.hid (Below.drew (Below.refl wr.heap.size wr))
        generalize wr.drew = wq at HBQ ⊢
        go_quiet (first | (go_at_call 200; with_reducible refine Calls.quiet_of_same (idx_is HI.out _)))
        go_wp2_with fail
        rw [Exit.noGoto_ret]
        simp only [Exit.inBlock]
        simp +zetaDelta only [Exit.inBlock, Exit.then, Exit.noGoto_ret]
        go_ret
        exact ⟨rfl, Below.drawn HBQ.out _⟩
end Go.Proofs.YtbpdenfiifcfcaaGreatDoor
namespace Go.Proofs.YtbpdenfiifcfcaaGreatDoor
open Go.RowKit

theorem print_ascii : ∀ j, j < 12 → u8at ⟨#[32, 39, 40, 41, 43, 44, 45, 46, 47, 58, 61, 63]⟩ j < 128 := by decide
theorem crune_print (n : Nat) (hmax : n ≤ 1114111) (w : World) :
    Calls Tryz.prog 205 #[.string ⟨#[32, 39, 40, 41, 43, 44, 45, 46, 47, 58, 61, 63]⟩, .int .i32 (n : Int)] w fun e w' => e = .returned (.bool (decide (n < 128) && printL.contains (UInt8.ofNat n))) ∧ Below w.heap.size w w' := by
  by_cases h : n < 128
  · have := crune_any ⟨#[32, 39, 40, 41, 43, 44, 45, 46, 47, 58, 61, 63]⟩ n h w
    refine this.mono fun e w' ⟨h1, h2⟩ => ?_
    rw [h2, h1, decide_eq_true h, Bool.true_and]
    exact ⟨rfl, Below.refl _ _⟩
  · have HI := Lib.hid (fun w => irune_big ⟨#[32, 39, 40, 41, 43, 44, 45, 46, 47, 58, 61, 63]⟩ (by decide) print_ascii n (by omega) hmax w)
    rw [decide_eq_false h, Bool.false_and]
    clear h hmax
    go_enter Tryz.func205, Tryz.ntmps205
    go_wp2_with (go_at_call 228; (with_reducible refine (HI.out _).mono ?_); rintro e w1 ⟨rfl, hb1⟩; have HB1 := Lib.hid hb1; clear hb1)
    go_ret
    exact ⟨rfl, HB1.out⟩
theorem isp_any (n : Nat) (hmax : n ≤ 1114111) (w : World) :
    Calls Tryz.prog 184 #[.int .i32 (n : Int)] w fun e w' => e = .returned (.bool (isP n)) ∧ Below w.heap.size w w' := by
  obtain ⟨b, hb⟩ : ∃ b, (decide (n < 128) && printL.contains (UInt8.ofNat n)) = b := ⟨_, rfl⟩
  have HC := Lib.hid (fun w => crune_print n hmax w)
  rw [hb] at HC
  cases ha : alnum n with
  | true =>
    have HR := Lib.hid (show isP n = true by unfold isP; rw [ha]; rfl)
    have HA := Lib.hid (fun w => isal_is ha w)
    clear ha hb
    go_enter Tryz.func184, Tryz.ntmps184
    go_wp2_with (go_at_call 204; (with_reducible refine (HA.out _).mono ?_); rintro e w1 ⟨rfl, rfl⟩)
    go_ret
    exact ⟨by rw [HR.out]; rfl, Below.refl _ _⟩
  | false =>
    have HR := Lib.hid (show isP n = b by unfold isP; rw [ha, hb]; rfl)
    have HA := Lib.hid (fun w => isal_is ha w)
    clear ha hb
    go_enter Tryz.func184, Tryz.ntmps184
    go_wp2_with (first
      | (go_at_call 204; (with_reducible refine (HA.out _).mono ?_); rintro e w1 ⟨rfl, rfl⟩)
      | (go_at_call 205; (with_reducible refine (HC.out _).mono ?_); rintro e w2 ⟨rfl, hb1⟩; have HB1 := Lib.hid hb1; clear hb1))
    go_ret
    exact ⟨by rw [HR.out]; rfl, HB1.out⟩

/-- The function numbered g says of each character whether p holds, and leaves old memory alone. -/
def Pays (g : Nat) (p : Nat → Bool) : Prop := ∀ (n : Nat), n ≤ 1114111 → ∀ w, Calls Tryz.prog g #[.int .i32 (n : Int)] w fun e w' => e = .returned (.bool (p n)) ∧ Below w.heap.size w w'

set_option maxRecDepth 100000 in
set_option maxHeartbeats 4000000 in
theorem cons_any (g : Nat) (eg : ∀ args w, (callFunc g args).run Tryz.prog w = .ok (.enter g args) w) (p : Nat → Bool) (hp : Pays g p) (s : ByteArray) (w : World) :
    Calls Tryz.prog 182 #[.string s, .func (.func g) #[] #[]] w fun e w' => e = .returned (.bool (allD p s.data.toList)) ∧ Below w.heap.size w w' := by
  obtain ⟨ANS, hANS⟩ : ∃ ANS, allD p s.data.toList = ANS := ⟨_, rfl⟩
  rw [hANS]
  have HANS := Lib.hid hANS
  have HP := Lib.hid hp
  clear hANS hp
  go_enter Tryz.func182, Tryz.ntmps182
  go_wp2_with fail
  go_loopg [] s.size (fun gf wx => ∃ pos : Nat, wx.heap[w.heap.size]? = some (.stringIter s pos) ∧ Below w.heap.size w wx ∧ allD p (s.data.toList.drop pos) = ANS ∧ s.size ≤ pos + gf)
  case atStart => exact ⟨0, World.iter_heap w s 0, (Below.refl _ w).alloc (Nat.le_refl _) _, HANS.out, by omega⟩
  case round =>
    obtain ⟨pos, hit, hbw, hA, hfu⟩ := hrel
    by_cases hps : pos < s.size
    · obtain ⟨g', rfl⟩ : ∃ g', gk = g' + 1 := ⟨gk - 1, by omega⟩
      have hnx : ∀ ty, (Instr.next (.pointer (some ⟨w.heap.size, 0, none⟩)) true ty).run Tryz.prog wr = _ := fun ty => Lib.run_next_any_at wr w.heap.size s pos ty hit hps
      have hwd := Lib.width_pos s pos
      have hrl := Lib.rune_le s pos
      rw [allD_step p _ (by rw [Ne, List.drop_eq_nil_iff]; show ¬ s.size ≤ pos; omega), Lib.decodeL_drop, List.drop_drop] at hA
      obtain ⟨R, hR⟩ : ∃ R, (Utf8.decode s pos).1 = R := ⟨_, rfl⟩
      obtain ⟨K, hK⟩ : ∃ K, (Utf8.decode s pos).2 = K := ⟨_, rfl⟩
      rw [hR, hK] at hA
      rw [hR, hK] at hnx
      rw [hK] at hwd
      rw [hR] at hrl
      have hit2 := Lib.iterAt_heap wr w.heap.size s pos (pos + K) hit
      have hbw2 := Lib.below_iterAt hbw (k := w.heap.size) (Nat.le_refl _) s (pos + K)
      obtain ⟨W, hWd⟩ : ∃ W, wr.iterAt w.heap.size s (pos + K) = W := ⟨_, rfl⟩
      simp only [hWd] at hnx hit2 hbw2
      have hltW : w.heap.size < W.heap.size := (Array.getElem?_eq_some_iff.1 hit2).1
      have HC := Lib.hid (HP.out R hrl W)
      have HIT := Lib.hid hit2
      have HBW := Lib.hid hbw2
      have HLW := Lib.hid hltW
      clear hit hbw hit2 hbw2 hWd hltW hR hK
      cases hsp : p R with
      | true =>
        rw [hsp] at HC
        rw [hsp, Bool.true_and] at hA
        have HAA := Lib.hid hA
        clear hsp hA
        go_wp2_with (go_at_fn g; refine HC.out.mono ?_; rintro e W' ⟨rfl, hbc⟩; have HBC := Lib.hid hbc; clear hbc)
        go_roundg g'
        case measure => omega
        case rel => exact ⟨pos + K, (HBC.out.block _ HLW.out).trans HIT.out, HBW.out.trans (HBC.out.mono HBW.out.size), HAA.out, by omega⟩
      | false =>
        rw [hsp] at HC
        rw [hsp, Bool.false_and] at hA
        have HAA := Lib.hid hA
        clear hsp hA
        go_wp2_with (go_at_fn g; refine HC.out.mono ?_; rintro e W' ⟨rfl, hbc⟩; have HBC := Lib.hid hbc; clear hbc)
        go_ret
        exact ⟨by rw [← HAA.out]; rfl, HBW.out.trans (HBC.out.mono HBW.out.size)⟩
    · have hnx : ∀ ty, (Instr.next (.pointer (some ⟨w.heap.size, 0, none⟩)) true ty).run Tryz.prog wr = _ := fun ty => Lib.run_next_end_at wr w.heap.size s pos ty hit hps
      have HBW := Lib.hid hbw
      have HR := Lib.hid (show ANS = true by
        rw [← hA, List.drop_eq_nil_of_le (show s.data.toList.length ≤ pos by show s.size ≤ pos; omega)]
        rfl)
      clear hbw hA
      go_wp2_with fail
      go_ret
      exact ⟨by rw [HR.out]; rfl, HBW.out⟩
end Go.Proofs.YtbpdenfiifcfcaaGreatDoor
