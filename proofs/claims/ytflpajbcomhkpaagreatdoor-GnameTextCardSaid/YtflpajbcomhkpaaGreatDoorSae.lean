/-
  The contracts of the reference's Lower, Fold and MatchText; nothing that was there before the call has changed.
  DNS names, patterns, bases and mail addresses as lists of bytes; when one lies within another, and that what lies within two bases makes them nested. Nothing is claimed of the program here.
  Addresses and ranges as lists of bytes: when one lies within another. Nothing is claimed of the program here.
  Mail addresses, DNS names and addresses that are the same lie within the same bases; how long a text of each kind can be. Nothing is claimed of the program here.
  The two tables of unicode/utf8: what the program's text lays, and that calls which leave old memory alone leave them. Nothing is claimed of the program here.
  The contracts of strings.IndexByte and of strings.ContainsRune at an ASCII character: the library's theorems, laid at the program's own numbers. Nothing is claimed of the program beyond its bodies.
  Plain laws of texts as sequences of characters: which texts consist of characters of a set, and which are well-formed without control characters. Nothing is claimed of the program here.
-/
import Derived.Test.YtflpajbcomhkpaaGreatDoorSad
import Derived.Test.YtflpajbcomhkpaaGreatDoorSac
import Derived.Test.YtflpajbcomhkpaaGreatDoorSaa
import Derived.Lib.DecodeN
import Derived.Shelf.Strings.Runes
import Derived.Lib.ValidLaws
namespace Go.Proofs.YtflpajbcomhkpaaGreatDoor
open Go.RowKit

end Go.Proofs.YtflpajbcomhkpaaGreatDoor
namespace Go.Proofs.YtflpajbcomhkpaaGreatDoor
open Go.RowKit

def lowL (l : List UInt8) : List UInt8 := l.map small
def pcsL (c : UInt8) (l : List UInt8) : List (List UInt8) := (pcsS c (strOf l)).map (·.data.toList)
theorem pcsL_spl (c : UInt8) (l : List UInt8) : Spl c l (pcsL c l) := pcsS_spl c (strOf l)
def lbl (p : List UInt8) : Bool := decide (1 ≤ p.length) && decide (p.length ≤ 63) && p.head? != some 45 && p.getLast? != some 45 && p.all (fun c => alnum c.toNat || c == 45)
def dnsB (l : List UInt8) : Bool := decide (l.length ≤ 128) && (pcsL 46 l).all lbl
def patB (l : List UInt8) : Bool := dnsB l || (decide (l.length ≤ 128) && decide (2 < l.length) && decide (l.take 2 = [42, 46]) && dnsB (l.drop 2) && decide (2 < (pcsL 46 l).length))
def baseB (l : List UInt8) : Bool := decide (l = []) || dnsB l
def alikeB (a b : List UInt8) : Bool := decide (lowL a = lowL b)
def firstK (s : List UInt8) : Nat := ((pcsL 46 s).headD []).length
def dnsMatchB (p s : List UInt8) : Bool := patB p && dnsB s && (if p.head? ≠ some 42 then alikeB p s else decide (firstK s < s.length) && alikeB (s.drop (firstK s)) (p.drop 1))
def signsL : List UInt8 := [33, 35, 36, 37, 38, 39, 42, 43, 45, 47, 61, 63, 94, 95, 96, 123, 124, 125, 126, 46]
def atK (l : List UInt8) : Nat := (l.takeWhile (fun c => c != 64)).length
/-- The local part is well-formed: allowed bytes, and no two points one after the other. -/
def localB : List UInt8 → Bool
  | [] => true
  | c :: r => (alnum c.toNat || signsL.contains c) && !(c == 46 && r.head? == some 46) && localB r
def mailB (l : List UInt8) : Bool := decide (l.length ≤ 128) && decide (1 ≤ atK l) && decide (atK l ≤ 64) && decide (atK l < l.length) && dnsB (l.drop (atK l + 1)) && l.head? != some 46 && (l.take (atK l)).getLast? != some 46 && localB (l.take (atK l))
def localP (l : List UInt8) : List UInt8 := l.take (atK l)
def domP (l : List UInt8) : List UInt8 := l.drop (atK l + 1)
def mailBaseB (l : List UInt8) : Bool := mailB l || dnsB l || (decide (l.length ≤ 128) && decide (1 < l.length) && l.head? == some 46 && dnsB (l.drop 1))
def mailMatchB (a b : List UInt8) : Bool := mailB a && mailB b && decide (localP a = localP b) && alikeB (domP a) (domP b)
/-! ### Ends -/
theorem lowL_length (l : List UInt8) : (lowL l).length = l.length := List.length_map _
theorem alikeB_iff (a b : List UInt8) : alikeB a b = true ↔ lowL a = lowL b := by unfold alikeB; rw [decide_eq_true_iff]
/-- One list lies within another one: it is the other, or ends with a point and it; everything lies within nothing. -/
def Rel (S X : List UInt8) : Prop := X = [] ∨ S = X ∨ (46 :: X) <:+ S
theorem Rel.trans {A B C : List UInt8} (h : Rel A B) (k : Rel B C) : Rel A C := by
  rcases k with k | k | k
  · exact .inl k
  · exact k ▸ h
  · rcases h with h | h | h
    · rw [h] at k
      have := k.length_le
      simp at this
    · exact .inr (.inr (h ▸ k))
    · exact .inr (.inr (k.trans ((List.suffix_cons _ _).trans h)))
def RelM (D B : List UInt8) : Prop := D = B ∨ (B.head? = some 46 ∧ B <:+ D)
theorem RelM.trans {A B C : List UInt8} (h : RelM A B) (k : RelM B C) : RelM A C := by
  rcases k with k | ⟨k1, k2⟩
  · exact k ▸ h
  · rcases h with h | ⟨_, h2⟩
    · exact .inr ⟨k1, h ▸ k2⟩
    · exact .inr ⟨k1, k2.trans h2⟩
end Go.Proofs.YtflpajbcomhkpaaGreatDoor
namespace Go.Proofs.YtflpajbcomhkpaaGreatDoor
open Go.RowKit

def addrB (b : List UInt8) : Bool := decide (b.length = 4) || decide (b.length = 16)
def bitAt (b : List UInt8) (at' i : Nat) : Bool := decide ((b.getD (at' + i / 8) 0).toNat / 2 ^ (7 - i % 8) % 2 = 1)
/-- A bit of the mask; a bit of the address. -/
def mbit (b : List UInt8) (i : Nat) : Bool := bitAt b (b.length / 2) i
def abit (b : List UInt8) (i : Nat) : Bool := bitAt b 0 i
def onesTo (b : List UInt8) (i : Nat) : Bool := (List.range i).all (mbit b)
def bitOk (b : List UInt8) (i : Nat) : Bool := if mbit b i = true then onesTo b i else !abit b i
def rangeB (b : List UInt8) : Bool := (decide (b.length = 8) || decide (b.length = 32)) && (List.range (8 * (b.length / 2))).all (bitOk b)
/-! ### Ranges with a mask of some bits -/
end Go.Proofs.YtflpajbcomhkpaaGreatDoor
namespace Go.Proofs.YtflpajbcomhkpaaGreatDoor
open Go.RowKit

theorem alikeB_refl (a : List UInt8) : alikeB a a = true := (alikeB_iff a a).2 rfl
/-! ### Lengths -/
theorem dns_len {l : List UInt8} (h : dnsB l = true) : l.length ≤ 128 := by
  unfold dnsB at h; rw [Bool.and_eq_true] at h; exact of_decide_eq_true h.1
theorem pat_len {l : List UInt8} (h : patB l = true) : l.length ≤ 128 := by
  unfold patB at h
  rw [Bool.or_eq_true] at h
  rcases h with h | h
  · exact dns_len h
  · simp only [Bool.and_eq_true] at h
    exact of_decide_eq_true h.1.1.1.1
theorem base_len {l : List UInt8} (h : baseB l = true) : l.length ≤ 128 := by
  unfold baseB at h
  rw [Bool.or_eq_true] at h
  rcases h with h | h
  · rw [of_decide_eq_true h]; simp
  · exact dns_len h
theorem mail_len {l : List UInt8} (h : mailB l = true) : l.length ≤ 128 := by
  unfold mailB at h
  simp only [Bool.and_eq_true] at h
  exact of_decide_eq_true h.1.1.1.1.1.1.1
theorem mailBase_len {l : List UInt8} (h : mailBaseB l = true) : l.length ≤ 128 := by
  unfold mailBaseB at h
  rw [Bool.or_eq_true, Bool.or_eq_true] at h
  rcases h with (h | h) | h
  · exact mail_len h
  · exact dns_len h
  · simp only [Bool.and_eq_true] at h
    exact of_decide_eq_true h.1.1.1
theorem addr_le {l : List UInt8} (h : addrB l = true) : l.length ≤ 128 := by
  unfold addrB at h
  rw [Bool.or_eq_true, decide_eq_true_iff, decide_eq_true_iff] at h
  omega
theorem range_le {l : List UInt8} (h : rangeB l = true) : l.length ≤ 128 := by
  unfold rangeB at h
  rw [Bool.and_eq_true, Bool.or_eq_true, decide_eq_true_iff, decide_eq_true_iff] at h
  omega
end Go.Proofs.YtflpajbcomhkpaaGreatDoor
namespace Go.Proofs.YtflpajbcomhkpaaGreatDoor
open Go.RowKit

/-! ### The tables -/
/-- The two tables of unicode/utf8 lie as the library's text lays them. -/
def Tab (w : World) : Prop :=
  (∀ c, c < 256 → w.cell? ⟨6, c, none⟩ = some (.int .u8 (Lib.firstT c))) ∧
  (∀ i, i < 16 → w.cell? ⟨7, 2 * i, none⟩ = some (.int .u8 (Lib.accLo i)) ∧ w.cell? ⟨7, 2 * i + 1, none⟩ = some (.int .u8 (Lib.accHi i)))
theorem Tab.lt {w : World} (h : Tab w) : 6 < w.heap.size ∧ 7 < w.heap.size :=
  ⟨block_lt_of_cell (h.1 0 (by omega)), block_lt_of_cell (h.2 0 (by omega)).1⟩
theorem Tab.below {w w' : World} (h : Tab w) (hb : Below w.heap.size w w') : Tab w' :=
  ⟨fun c hc => (hb.cell (p := ⟨6, c, none⟩) h.lt.1).trans (h.1 c hc),
   fun i hi => ⟨(hb.cell (p := ⟨7, 2 * i, none⟩) h.lt.2).trans (h.2 i hi).1, (hb.cell (p := ⟨7, 2 * i + 1, none⟩) h.lt.2).trans (h.2 i hi).2⟩⟩
theorem Tab.alloc {w : World} (h : Tab w) (o : Obj) : Tab (w.alloc o) := h.below (belowNew w o)
theorem Tab.drawn {w : World} (h : Tab w) (n : Nat) : Tab (w.drewN n) := h
end Go.Proofs.YtflpajbcomhkpaaGreatDoor
namespace Go.Proofs.YtflpajbcomhkpaaGreatDoor
open Go.Shelf Go.RowKit

def lays137_ren : Go.Shelf.Ren := ⟨fun | 137 => 174 | 217 => 206 | 266 => 248 | n => n, fun | 3 => 3 | 5 => 5 | 9 => 9 | n => n, fun | n => n⟩
theorem lays137 : Go.Proofs.Lays.n137 Tryz.prog lays137_ren := {
  mixed := by kernel_rfl
  f137 := Tryz.func174.trans (congrArg some (by kernel_rfl))
  f217 := Tryz.func206.trans (congrArg some (by kernel_rfl))
  f266 := Tryz.func248.trans (congrArg some (by kernel_rfl))
  t3 := Tryz.underlying3
  a3 := Tryz.isAgg3
  z3 := Tryz.sizeOf3
  v3 := Tryz.zeroValue3
  t5 := Tryz.underlying5
  a5 := Tryz.isAgg5
  z5 := Tryz.sizeOf5
  v5 := Tryz.zeroValue5
  t9 := Tryz.underlying9
  a9 := Tryz.isAgg9
  z9 := Tryz.sizeOf9
  v9 := Tryz.zeroValue9 }
def lays151_ren : Go.Shelf.Ren := ⟨fun | 119 => 289 | 137 => 174 | 151 => 272 | 152 => 285 | 217 => 206 | 224 => 216 | 225 => 215 | 266 => 248 | n => n, fun | 0 => 0 | 3 => 3 | 4 => 4 | 5 => 5 | 9 => 9 | 21 => 21 | 46 => 135 | n => n, fun | n => n⟩
theorem lays151 : Go.Proofs.Lays.n151 Tryz.prog lays151_ren := {
  mixed := by kernel_rfl
  f119 := Tryz.func289.trans (congrArg some (by kernel_rfl))
  f137 := Tryz.func174.trans (congrArg some (by kernel_rfl))
  f151 := Tryz.func272.trans (congrArg some (by kernel_rfl))
  f152 := Tryz.func285.trans (congrArg some (by kernel_rfl))
  f217 := Tryz.func206.trans (congrArg some (by kernel_rfl))
  f224 := Tryz.func216.trans (congrArg some (by kernel_rfl))
  f225 := Tryz.func215.trans (congrArg some (by kernel_rfl))
  f266 := Tryz.func248.trans (congrArg some (by kernel_rfl))
  t0 := Tryz.underlying0
  a0 := Tryz.isAgg0
  z0 := Tryz.sizeOf0
  v0 := Tryz.zeroValue0
  t3 := Tryz.underlying3
  a3 := Tryz.isAgg3
  z3 := Tryz.sizeOf3
  v3 := Tryz.zeroValue3
  t4 := Tryz.underlying4
  a4 := Tryz.isAgg4
  z4 := Tryz.sizeOf4
  v4 := Tryz.zeroValue4
  t5 := Tryz.underlying5
  a5 := Tryz.isAgg5
  z5 := Tryz.sizeOf5
  v5 := Tryz.zeroValue5
  t9 := Tryz.underlying9
  a9 := Tryz.isAgg9
  z9 := Tryz.sizeOf9
  v9 := Tryz.zeroValue9
  t21 := Tryz.underlying21
  a21 := Tryz.isAgg21
  z21 := Tryz.sizeOf21
  v21 := Tryz.zeroValue21
  t46 := Tryz.underlying135
  a46 := Tryz.isAgg135
  z46 := Tryz.sizeOf135
  v46 := Tryz.zeroValue135 }

theorem idx_ge : ∀ (l : List UInt8) (b : UInt8), -1 ≤ Lib.indexByte l b
  | [], _ => by simp [Lib.indexByte]
  | c :: l, b => by
    have := idx_ge l b
    simp only [Lib.indexByte]
    split
    · omega
    · split <;> omega
theorem idx_has : ∀ (l : List UInt8) (b : UInt8), l.contains b = decide (0 ≤ Lib.indexByte l b)
  | [], _ => rfl
  | c :: l, b => by
    have ih := idx_has l b
    have hg := idx_ge l b
    rw [List.contains_cons, ih, Bool.eq_iff_iff]
    simp only [Lib.indexByte, Bool.or_eq_true, decide_eq_true_eq, beq_iff_eq]
    by_cases e : c = b
    · subst e; simp
    · rw [if_neg e]
      have e1 : ¬ b = c := fun h => e h.symm
      by_cases k : Lib.indexByte l b = -1
      · rw [if_pos k, k]; simp [e1]
      · rw [if_neg k]
        constructor
        · rintro (h | h)
          · exact absurd h e1
          · omega
        · intro h
          right; omega
theorem idx_any (s : ByteArray) (c : UInt8) (w : World) : Calls Tryz.prog 174 #[.string s, .int .u8 ((c.toNat : Nat) : Int)] w fun e w' => e = .returned (.int .i64 (Lib.indexByte s.data.toList c)) ∧ w' = w := by
  have h := Any.strings_IndexByte lays137 s ((c.toNat : Nat) : Int) w
  have e : ((c.toNat : Nat) : Int).toNat.toUInt8 = c := by simp
  rw [e] at h
  exact h
theorem crune_any (s : ByteArray) (n : Nat) (hn : n < 128) (w : World) : Calls Tryz.prog 272 #[.string s, .int .i32 ((n : Nat) : Int)] w fun e w' => e = .returned (.bool (s.data.toList.contains (UInt8.ofNat n))) ∧ w' = w := by
  have h := Any.strings_ContainsRune_ascii lays151 s ((n : Nat) : Int) w (by omega) (by omega)
  have e : ((n : Nat) : Int).toNat.toUInt8 = UInt8.ofNat n := rfl
  rw [e, ← idx_has] at h
  exact h
end Go.Proofs.YtflpajbcomhkpaaGreatDoor
namespace Go.Proofs.YtflpajbcomhkpaaGreatDoor
open Go.RowKit

/-- Whether each character of a text is in a set. -/
def allGo (p : Nat → Bool) : Nat → List UInt8 → Bool
  | 0, _ => true
  | n + 1, l => if l = [] then true else p (Lib.decodeL l).1 && allGo p n (l.drop (Lib.decodeL l).2)
def allD (p : Nat → Bool) (l : List UInt8) : Bool := allGo p l.length l
theorem allGo_nil (p : Nat → Bool) : ∀ n, allGo p n [] = true
  | 0 => rfl
  | _ + 1 => by simp [allGo]
theorem allGo_fuel (p : Nat → Bool) : ∀ (n m : Nat) (l : List UInt8), l.length ≤ n → l.length ≤ m → allGo p n l = allGo p m l
  | 0, m, l, hn, _ => by
    obtain rfl : l = [] := List.eq_nil_of_length_eq_zero (by omega)
    rw [allGo_nil, allGo_nil]
  | n + 1, 0, l, _, hm => by
    obtain rfl : l = [] := List.eq_nil_of_length_eq_zero (by omega)
    rw [allGo_nil, allGo_nil]
  | n + 1, m + 1, l, hn, hm => by
    unfold allGo
    by_cases hne : l = []
    · simp [hne]
    · have hw := Lib.decodeL_width l
      have hl : 0 < l.length := List.length_pos_iff.2 hne
      rw [if_neg hne, if_neg hne, allGo_fuel p n m (l.drop (Lib.decodeL l).2) (by rw [List.length_drop]; omega) (by rw [List.length_drop]; omega)]
theorem allD_step (p : Nat → Bool) (l : List UInt8) (hne : l ≠ []) : allD p l = (p (Lib.decodeL l).1 && allD p (l.drop (Lib.decodeL l).2)) := by
  have hl : 0 < l.length := List.length_pos_iff.2 hne
  have hw := Lib.decodeL_width l
  obtain ⟨n, hn⟩ : ∃ n, l.length = n + 1 := ⟨l.length - 1, by omega⟩
  unfold allD
  rw [hn]
  show (if l = [] then true else _) = _
  rw [if_neg hne, allGo_fuel p n (l.drop (Lib.decodeL l).2).length _ (by rw [List.length_drop]; omega) (Nat.le_refl _)]
theorem high_rune (b : UInt8) (t : List UInt8) (h : 128 ≤ b.toNat) : 128 ≤ (Lib.decodeL (b :: t)).1 :=
  (decode_high ⟨(b :: t).toArray⟩ 0 (by show 0 < (b :: t).length; simp) h).1
/-- A set of ASCII characters is asked byte by byte. -/
theorem allD_ascii (p : Nat → Bool) (hp : ∀ n, 128 ≤ n → p n = false) : ∀ (n : Nat) (l : List UInt8), l.length ≤ n → allD p l = l.all fun b => p b.toNat
  | _, [], _ => rfl
  | 0, b :: t, h => by simp at h
  | n + 1, b :: t, h => by
    rw [allD_step p _ (by simp), List.all_cons]
    by_cases hb : b.toNat < 128
    · rw [Lib.decodeL_ascii b t hb]
      show (p b.toNat && allD p t) = _
      rw [allD_ascii p hp n t (by simp at h; omega)]
    · rw [hp _ (high_rune b t (by omega)), hp b.toNat (by omega), Bool.false_and, Bool.false_and]

/-- The texts that may be contents of a string of TagUTF8. -/
def okU (l : List UInt8) : Bool := Lib.validD l && allD isU l
theorem okU_low (b : UInt8) (t : List UInt8) (h : b.toNat < 128) : okU (b :: t) = (isU b.toNat && okU t) := by
  unfold okU
  rw [Lib.validD_cons b t h, allD_step _ _ (by simp), Lib.decodeL_ascii b t h]
  show (Lib.validD t && (isU b.toNat && allD isU t)) = _
  rw [← Bool.and_assoc, Bool.and_comm (Lib.validD t), Bool.and_assoc]
theorem okU_high (b : UInt8) (t : List UInt8) (h : 128 ≤ b.toNat) : okU (b :: t) = if (Lib.decodeL (b :: t)).1 = 65533 ∧ (Lib.decodeL (b :: t)).2 = 1 then false else okU ((b :: t).drop (Lib.decodeL (b :: t)).2) := by
  unfold okU
  rw [Lib.validD_step _ (by simp), allD_step _ _ (by simp)]
  split
  · simp
  · have h1 := high_rune b t h
    have : isU (Lib.decodeL (b :: t)).1 = true := by
      unfold isU
      simp
      omega
    rw [this, Bool.true_and]
theorem getD_drop (l : List UInt8) (i j : Nat) : (l.drop i).getD j 0 = l.getD (i + j) 0 := by
  rw [List.getD_eq_getElem?_getD, List.getD_eq_getElem?_getD, List.getElem?_drop]
/-- What the decoder finds at a place. -/
theorem dec_at (s : ByteArray) (i : Nat) : Lib.decodeL (s.data.toList.drop i) = Lib.decodeN (s.size - i) (u8at s i) (u8at s (i + 1)) (u8at s (i + 2)) (u8at s (i + 3)) := by
  rw [Lib.decodeL_N, List.length_drop, getD_drop, getD_drop, getD_drop, getD_drop]
  rfl
theorem okU_end (s : ByteArray) (i : Nat) (h : s.size ≤ i) : okU (s.data.toList.drop i) = true := by
  rw [List.drop_eq_nil_of_le (show s.data.toList.length ≤ i from h)]
  rfl
theorem okU_at (s : ByteArray) (i : Nat) (hi : i < s.size) (h : 128 ≤ u8at s i) :
    okU (s.data.toList.drop i) = if (Lib.decodeN (s.size - i) (u8at s i) (u8at s (i + 1)) (u8at s (i + 2)) (u8at s (i + 3))).1 = 65533 ∧ (Lib.decodeN (s.size - i) (u8at s i) (u8at s (i + 1)) (u8at s (i + 2)) (u8at s (i + 3))).2 = 1 then false
      else okU (s.data.toList.drop (i + (Lib.decodeN (s.size - i) (u8at s i) (u8at s (i + 1)) (u8at s (i + 2)) (u8at s (i + 3))).2)) := by
  obtain ⟨c, hc, hcn⟩ := u8at_list s i hi
  have hd := drop_cons hc
  have hk := okU_high c (s.data.toList.drop (i + 1)) (by omega)
  rw [← hd, dec_at, List.drop_drop] at hk
  exact hk
theorem okU_one (s : ByteArray) (i : Nat) (hi : i < s.size) (h : u8at s i < 128) : okU (s.data.toList.drop i) = (isU (u8at s i) && okU (s.data.toList.drop (i + 1))) := by
  obtain ⟨c, hc, hcn⟩ := u8at_list s i hi
  rw [drop_cons hc, okU_low _ _ (by omega), hcn]
theorem okU_no (s : ByteArray) (i : Nat) (hi : i < s.size) (h : (128 ≤ u8at s i ∧ u8at s i < 192) ∨ 248 ≤ u8at s i) : okU (s.data.toList.drop i) = false := by
  rw [okU_at s i hi (by omega)]
  generalize u8at s i = b0 at h ⊢
  have : Lib.decodeN (s.size - i) b0 (u8at s (i + 1)) (u8at s (i + 2)) (u8at s (i + 3)) = (65533, 1) := by
    unfold Lib.decodeN
    rw [if_neg (by omega), if_neg (by omega), if_neg (by omega), if_neg (by omega)]
  rw [this]
  simp
theorem okU_2 (s : ByteArray) (i : Nat) (hi : i < s.size) (h : 192 ≤ u8at s i ∧ u8at s i < 224) :
    okU (s.data.toList.drop i) = if (i + 1 < s.size ∧ u8at s (i + 1) / 64 = 2) ∧ 128 ≤ 64 * (u8at s i % 32) + u8at s (i + 1) % 64 then okU (s.data.toList.drop (i + 2)) else false := by
  rw [okU_at s i hi (by omega)]
  generalize u8at s i = b0 at h ⊢
  generalize u8at s (i + 1) = b1
  by_cases hc : (i + 1 < s.size ∧ b1 / 64 = 2) ∧ 128 ≤ 64 * (b0 % 32) + b1 % 64
  · have : Lib.decodeN (s.size - i) b0 b1 (u8at s (i + 2)) (u8at s (i + 3)) = (b0 % 32 * 64 + b1 % 64, 2) := by
      unfold Lib.decodeN
      rw [if_neg (by omega), if_pos (by omega), if_pos (by omega)]
    rw [this, if_pos hc, if_neg (by simp)]
  · have : Lib.decodeN (s.size - i) b0 b1 (u8at s (i + 2)) (u8at s (i + 3)) = (65533, 1) := by
      unfold Lib.decodeN
      rw [if_neg (by omega)]
      by_cases h1 : b0 / 32 = 6 ∧ (1 < s.size - i ∧ b1 / 64 = 2)
      · rw [if_pos h1, if_neg (by omega)]
      · rw [if_neg h1, if_neg (by omega), if_neg (by omega)]
    rw [this, if_neg hc]
    simp
theorem okU_3 (s : ByteArray) (i : Nat) (hi : i < s.size) (h : 224 ≤ u8at s i ∧ u8at s i < 240) :
    okU (s.data.toList.drop i) = if (i + 2 < s.size ∧ u8at s (i + 1) / 64 = 2 ∧ u8at s (i + 2) / 64 = 2) ∧ 2048 ≤ 64 * (64 * (u8at s i % 16) + u8at s (i + 1) % 64) + u8at s (i + 2) % 64 ∧ ¬ (55296 ≤ 64 * (64 * (u8at s i % 16) + u8at s (i + 1) % 64) + u8at s (i + 2) % 64 ∧ 64 * (64 * (u8at s i % 16) + u8at s (i + 1) % 64) + u8at s (i + 2) % 64 < 57344) then okU (s.data.toList.drop (i + 3)) else false := by
  rw [okU_at s i hi (by omega)]
  generalize u8at s i = b0 at h ⊢
  generalize u8at s (i + 1) = b1
  generalize u8at s (i + 2) = b2
  have hv : 64 * (64 * (b0 % 16) + b1 % 64) + b2 % 64 = b0 % 16 * 4096 + b1 % 64 * 64 + b2 % 64 := by omega
  rw [hv]
  by_cases hc : (i + 2 < s.size ∧ b1 / 64 = 2 ∧ b2 / 64 = 2) ∧ 2048 ≤ b0 % 16 * 4096 + b1 % 64 * 64 + b2 % 64 ∧ ¬ (55296 ≤ b0 % 16 * 4096 + b1 % 64 * 64 + b2 % 64 ∧ b0 % 16 * 4096 + b1 % 64 * 64 + b2 % 64 < 57344)
  · have : Lib.decodeN (s.size - i) b0 b1 b2 (u8at s (i + 3)) = (b0 % 16 * 4096 + b1 % 64 * 64 + b2 % 64, 3) := by
      unfold Lib.decodeN
      rw [if_neg (by omega), if_neg (by omega), if_pos (by omega), if_pos (by omega)]
    rw [this, if_pos hc, if_neg (by simp)]
  · have : Lib.decodeN (s.size - i) b0 b1 b2 (u8at s (i + 3)) = (65533, 1) := by
      unfold Lib.decodeN
      rw [if_neg (by omega), if_neg (by omega)]
      by_cases h1 : b0 / 16 = 14 ∧ (1 < s.size - i ∧ b1 / 64 = 2) ∧ (2 < s.size - i ∧ b2 / 64 = 2)
      · rw [if_pos h1, if_neg (by omega)]
      · rw [if_neg h1, if_neg (by omega)]
    rw [this, if_neg hc]
    simp
theorem okU_4 (s : ByteArray) (i : Nat) (hi : i < s.size) (h : 240 ≤ u8at s i ∧ u8at s i < 248) :
    okU (s.data.toList.drop i) = if (i + 3 < s.size ∧ u8at s (i + 1) / 64 = 2 ∧ u8at s (i + 2) / 64 = 2 ∧ u8at s (i + 3) / 64 = 2) ∧ 65536 ≤ 64 * (64 * (64 * (u8at s i % 8) + u8at s (i + 1) % 64) + u8at s (i + 2) % 64) + u8at s (i + 3) % 64 ∧ 64 * (64 * (64 * (u8at s i % 8) + u8at s (i + 1) % 64) + u8at s (i + 2) % 64) + u8at s (i + 3) % 64 ≤ 1114111 then okU (s.data.toList.drop (i + 4)) else false := by
  rw [okU_at s i hi (by omega)]
  generalize u8at s i = b0 at h ⊢
  generalize u8at s (i + 1) = b1
  generalize u8at s (i + 2) = b2
  generalize u8at s (i + 3) = b3
  have hv : 64 * (64 * (64 * (b0 % 8) + b1 % 64) + b2 % 64) + b3 % 64 = b0 % 8 * 262144 + b1 % 64 * 4096 + b2 % 64 * 64 + b3 % 64 := by omega
  rw [hv]
  by_cases hc : (i + 3 < s.size ∧ b1 / 64 = 2 ∧ b2 / 64 = 2 ∧ b3 / 64 = 2) ∧ 65536 ≤ b0 % 8 * 262144 + b1 % 64 * 4096 + b2 % 64 * 64 + b3 % 64 ∧ b0 % 8 * 262144 + b1 % 64 * 4096 + b2 % 64 * 64 + b3 % 64 ≤ 1114111
  · have : Lib.decodeN (s.size - i) b0 b1 b2 b3 = (b0 % 8 * 262144 + b1 % 64 * 4096 + b2 % 64 * 64 + b3 % 64, 4) := by
      unfold Lib.decodeN
      rw [if_neg (by omega), if_neg (by omega), if_neg (by omega), if_pos (by omega), if_pos (by omega)]
    rw [this, if_pos hc, if_neg (by simp)]
  · have : Lib.decodeN (s.size - i) b0 b1 b2 b3 = (65533, 1) := by
      unfold Lib.decodeN
      rw [if_neg (by omega), if_neg (by omega), if_neg (by omega)]
      by_cases h1 : b0 / 8 = 30 ∧ (1 < s.size - i ∧ b1 / 64 = 2) ∧ (2 < s.size - i ∧ b2 / 64 = 2) ∧ (3 < s.size - i ∧ b3 / 64 = 2)
      · rw [if_pos h1, if_neg (by omega)]
      · rw [if_neg h1]
    rw [this, if_neg hc]
    simp
end Go.Proofs.YtflpajbcomhkpaaGreatDoor
