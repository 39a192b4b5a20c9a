/-
  DNS names, patterns, bases and mail addresses as lists of bytes; when one lies within another, and that what lies within two bases makes them nested. Nothing is claimed of the program here.
  Addresses and ranges as lists of bytes: when one lies within another. Nothing is claimed of the program here.
  Mail addresses, DNS names and addresses that are the same lie within the same bases; how long a text of each kind can be. Nothing is claimed of the program here.
  The two tables of unicode/utf8: what the program's text lays, and that calls which leave old memory alone leave them. Nothing is claimed of the program here.
  The contracts of strings.IndexByte and of strings.ContainsRune at an ASCII character: the library's theorems, laid at the program's own numbers. Nothing is claimed of the program beyond its bodies.
  Plain laws of texts as sequences of characters: which texts consist of characters of a set, and which are well-formed without control characters. Nothing is claimed of the program here.
  The contracts of isPlain of the program, and of Among and plain of the reference: whether a byte is one that is not escaped.
  The contract of text.Escape: the escaped form of a string; nothing that was there before the call has changed.
-/
import Derived.Test.YtflpajbcomhkpaaGreatDoorUac
import Derived.Test.YtflpajbcomhkpaaGreatDoorUad
import Derived.Test.YtflpajbcomhkpaaGreatDoorUaa
import Derived.Lib.DecodeN
import Derived.Shelf.Strings.Runes
import Derived.Lib.ValidLaws
namespace Go.Proofs.YtflpajbcomhkpaaGreatDoor
open Go.RowKit

def lowL (l : List UInt8) : List UInt8 := l.map small
def pcsL (c : UInt8) (l : List UInt8) : List (List UInt8) := (pcsS c (strOf l)).map (·.data.toList)
theorem pcsL_spl (c : UInt8) (l : List UInt8) : Spl c l (pcsL c l) := pcsS_spl c (strOf l)
def lbl (p : List UInt8) : Bool := decide (1 ≤ p.length) && decide (p.length ≤ 63) && p.head? != some 45 && p.getLast? != some 45 && p.all (fun c => alnum c.toNat || c == 45)
def dnsB (l : List UInt8) : Bool := decide (l.length ≤ 128) && (pcsL 46 l).all lbl
def patB (l : List UInt8) : Bool := dnsB l || (decide (l.length ≤ 128) && decide (2 < l.length) && decide (l.take 2 = [42, 46]) && dnsB (l.drop 2) && decide (2 < (pcsL 46 l).length))
def baseB (l : List UInt8) : Bool := decide (l = []) || dnsB l
def alikeB (a b : List UInt8) : Bool := decide (lowL a = lowL b)
def firstK (s : List UInt8) : Nat := ((pcsL 46 s).headD []).length
def dnsMatchB (p s : List UInt8) : Bool := patB p && dnsB s && (if p.head? ≠ some 42 then alikeB p s else decide (firstK s < s.length) && alikeB (s.drop (firstK s)) (p.drop 1))
def signsL : List UInt8 := [33, 35, 36, 37, 38, 39, 42, 43, 45, 47, 61, 63, 94, 95, 96, 123, 124, 125, 126, 46]
def atK (l : List UInt8) : Nat := (l.takeWhile (fun c => c != 64)).length
/-- The local part is well-formed: allowed bytes, and no two points one after the other. -/
def localB : List UInt8 → Bool
  | [] => true
  | c :: r => (alnum c.toNat || signsL.contains c) && !(c == 46 && r.head? == some 46) && localB r
def mailB (l : List UInt8) : Bool := decide (l.length ≤ 128) && decide (1 ≤ atK l) && decide (atK l ≤ 64) && decide (atK l < l.length) && dnsB (l.drop (atK l + 1)) && l.head? != some 46 && (l.take (atK l)).getLast? != some 46 && localB (l.take (atK l))
def localP (l : List UInt8) : List UInt8 := l.take (atK l)
def domP (l : List UInt8) : List UInt8 := l.drop (atK l + 1)
def mailBaseB (l : List UInt8) : Bool := mailB l || dnsB l || (decide (l.length ≤ 128) && decide (1 < l.length) && l.head? == some 46 && dnsB (l.drop 1))
def mailMatchB (a b : List UInt8) : Bool := mailB a && mailB b && decide (localP a = localP b) && alikeB (domP a) (domP b)
/-! ### Ends -/
theorem lowL_length (l : List UInt8) : (lowL l).length = l.length := List.length_map _
theorem alikeB_iff (a b : List UInt8) : alikeB a b = true ↔ lowL a = lowL b := by unfold alikeB; rw [decide_eq_true_iff]
/-- One list lies within another one: it is the other, or ends with a point and it; everything lies within nothing. -/
def Rel (S X : List UInt8) : Prop := X = [] ∨ S = X ∨ (46 :: X) <:+ S
theorem Rel.trans {A B C : List UInt8} (h : Rel A B) (k : Rel B C) : Rel A C := by
  rcases k with k | k | k
  · exact .inl k
  · exact k ▸ h
  · rcases h with h | h | h
    · rw [h] at k
      have := k.length_le
      simp at this
    · exact .inr (.inr (h ▸ k))
    · exact .inr (.inr (k.trans ((List.suffix_cons _ _).trans h)))
def RelM (D B : List UInt8) : Prop := D = B ∨ (B.head? = some 46 ∧ B <:+ D)
theorem RelM.trans {A B C : List UInt8} (h : RelM A B) (k : RelM B C) : RelM A C := by
  rcases k with k | ⟨k1, k2⟩
  · exact k ▸ h
  · rcases h with h | ⟨_, h2⟩
    · exact .inr ⟨k1, h ▸ k2⟩
    · exact .inr ⟨k1, k2.trans h2⟩
theorem match_iffM (a b : List UInt8) : mailMatchB a b = true ↔ mailB a = true ∧ mailB b = true ∧ localP a = localP b ∧ lowL (domP a) = lowL (domP b) := by
  unfold mailMatchB
  rw [Bool.and_eq_true, Bool.and_eq_true, Bool.and_eq_true, decide_eq_true_iff, alikeB_iff, and_assoc, and_assoc]
end Go.Proofs.YtflpajbcomhkpaaGreatDoor
namespace Go.Proofs.YtflpajbcomhkpaaGreatDoor
open Go.RowKit

def addrB (b : List UInt8) : Bool := decide (b.length = 4) || decide (b.length = 16)
def bitAt (b : List UInt8) (at' i : Nat) : Bool := decide ((b.getD (at' + i / 8) 0).toNat / 2 ^ (7 - i % 8) % 2 = 1)
/-- A bit of the mask; a bit of the address. -/
def mbit (b : List UInt8) (i : Nat) : Bool := bitAt b (b.length / 2) i
def abit (b : List UInt8) (i : Nat) : Bool := bitAt b 0 i
def onesTo (b : List UInt8) (i : Nat) : Bool := (List.range i).all (mbit b)
def bitOk (b : List UInt8) (i : Nat) : Bool := if mbit b i = true then onesTo b i else !abit b i
def rangeB (b : List UInt8) : Bool := (decide (b.length = 8) || decide (b.length = 32)) && (List.range (8 * (b.length / 2))).all (bitOk b)
/-! ### Ranges with a mask of some bits -/
end Go.Proofs.YtflpajbcomhkpaaGreatDoor
namespace Go.Proofs.YtflpajbcomhkpaaGreatDoor
open Go.RowKit

theorem alikeB_refl (a : List UInt8) : alikeB a a = true := (alikeB_iff a a).2 rfl
theorem mailMatch_refl {a : List UInt8} (h : mailB a = true) : mailMatchB a a = true := (match_iffM a a).2 ⟨h, h, rfl, rfl⟩
/-! ### Lengths -/
theorem dns_len {l : List UInt8} (h : dnsB l = true) : l.length ≤ 128 := by
  unfold dnsB at h; rw [Bool.and_eq_true] at h; exact of_decide_eq_true h.1
theorem pat_len {l : List UInt8} (h : patB l = true) : l.length ≤ 128 := by
  unfold patB at h
  rw [Bool.or_eq_true] at h
  rcases h with h | h
  · exact dns_len h
  · simp only [Bool.and_eq_true] at h
    exact of_decide_eq_true h.1.1.1.1
theorem base_len {l : List UInt8} (h : baseB l = true) : l.length ≤ 128 := by
  unfold baseB at h
  rw [Bool.or_eq_true] at h
  rcases h with h | h
  · rw [of_decide_eq_true h]; simp
  · exact dns_len h
theorem mail_len {l : List UInt8} (h : mailB l = true) : l.length ≤ 128 := by
  unfold mailB at h
  simp only [Bool.and_eq_true] at h
  exact of_decide_eq_true h.1.1.1.1.1.1.1
theorem mailBase_len {l : List UInt8} (h : mailBaseB l = true) : l.length ≤ 128 := by
  unfold mailBaseB at h
  rw [Bool.or_eq_true, Bool.or_eq_true] at h
  rcases h with (h | h) | h
  · exact mail_len h
  · exact dns_len h
  · simp only [Bool.and_eq_true] at h
    exact of_decide_eq_true h.1.1.1
theorem addr_le {l : List UInt8} (h : addrB l = true) : l.length ≤ 128 := by
  unfold addrB at h
  rw [Bool.or_eq_true, decide_eq_true_iff, decide_eq_true_iff] at h
  omega
theorem range_le {l : List UInt8} (h : rangeB l = true) : l.length ≤ 128 := by
  unfold rangeB at h
  rw [Bool.and_eq_true, Bool.or_eq_true, decide_eq_true_iff, decide_eq_true_iff] at h
  omega
end Go.Proofs.YtflpajbcomhkpaaGreatDoor
namespace Go.Proofs.YtflpajbcomhkpaaGreatDoor
open Go.RowKit

/-! ### The tables -/
/-- The two tables of unicode/utf8 lie as the library's text lays them. -/
def Tab (w : World) : Prop :=
  (∀ c, c < 256 → w.cell? ⟨6, c, none⟩ = some (.int .u8 (Lib.firstT c))) ∧
  (∀ i, i < 16 → w.cell? ⟨7, 2 * i, none⟩ = some (.int .u8 (Lib.accLo i)) ∧ w.cell? ⟨7, 2 * i + 1, none⟩ = some (.int .u8 (Lib.accHi i)))
theorem Tab.lt {w : World} (h : Tab w) : 6 < w.heap.size ∧ 7 < w.heap.size :=
  ⟨block_lt_of_cell (h.1 0 (by omega)), block_lt_of_cell (h.2 0 (by omega)).1⟩
theorem Tab.below {w w' : World} (h : Tab w) (hb : Below w.heap.size w w') : Tab w' :=
  ⟨fun c hc => (hb.cell (p := ⟨6, c, none⟩) h.lt.1).trans (h.1 c hc),
   fun i hi => ⟨(hb.cell (p := ⟨7, 2 * i, none⟩) h.lt.2).trans (h.2 i hi).1, (hb.cell (p := ⟨7, 2 * i + 1, none⟩) h.lt.2).trans (h.2 i hi).2⟩⟩
theorem Tab.alloc {w : World} (h : Tab w) (o : Obj) : Tab (w.alloc o) := h.below (belowNew w o)
theorem Tab.drawn {w : World} (h : Tab w) (n : Nat) : Tab (w.drewN n) := h
end Go.Proofs.YtflpajbcomhkpaaGreatDoor
namespace Go.Proofs.YtflpajbcomhkpaaGreatDoor
open Go.Shelf Go.RowKit

def lays137_ren : Go.Shelf.Ren := ⟨fun | 137 => 174 | 217 => 206 | 266 => 248 | n => n, fun | 3 => 3 | 5 => 5 | 9 => 9 | n => n, fun | n => n⟩
theorem lays137 : Go.Proofs.Lays.n137 Tryz.prog lays137_ren := {
  mixed := by kernel_rfl
  f137 := Tryz.func174.trans (congrArg some (by kernel_rfl))
  f217 := Tryz.func206.trans (congrArg some (by kernel_rfl))
  f266 := Tryz.func248.trans (congrArg some (by kernel_rfl))
  t3 := Tryz.underlying3
  a3 := Tryz.isAgg3
  z3 := Tryz.sizeOf3
  v3 := Tryz.zeroValue3
  t5 := Tryz.underlying5
  a5 := Tryz.isAgg5
  z5 := Tryz.sizeOf5
  v5 := Tryz.zeroValue5
  t9 := Tryz.underlying9
  a9 := Tryz.isAgg9
  z9 := Tryz.sizeOf9
  v9 := Tryz.zeroValue9 }
def lays151_ren : Go.Shelf.Ren := ⟨fun | 119 => 289 | 137 => 174 | 151 => 272 | 152 => 285 | 217 => 206 | 224 => 216 | 225 => 215 | 266 => 248 | n => n, fun | 0 => 0 | 3 => 3 | 4 => 4 | 5 => 5 | 9 => 9 | 21 => 21 | 46 => 135 | n => n, fun | n => n⟩
theorem lays151 : Go.Proofs.Lays.n151 Tryz.prog lays151_ren := {
  mixed := by kernel_rfl
  f119 := Tryz.func289.trans (congrArg some (by kernel_rfl))
  f137 := Tryz.func174.trans (congrArg some (by kernel_rfl))
  f151 := Tryz.func272.trans (congrArg some (by kernel_rfl))
  f152 := Tryz.func285.trans (congrArg some (by kernel_rfl))
  f217 := Tryz.func206.trans (congrArg some (by kernel_rfl))
  f224 := Tryz.func216.trans (congrArg some (by kernel_rfl))
  f225 := Tryz.func215.trans (congrArg some (by kernel_rfl))
  f266 := Tryz.func248.trans (congrArg some (by kernel_rfl))
  t0 := Tryz.underlying0
  a0 := Tryz.isAgg0
  z0 := Tryz.sizeOf0
  v0 := Tryz.zeroValue0
  t3 := Tryz.underlying3
  a3 := Tryz.isAgg3
  z3 := Tryz.sizeOf3
  v3 := Tryz.zeroValue3
  t4 := Tryz.underlying4
  a4 := Tryz.isAgg4
  z4 := Tryz.sizeOf4
  v4 := Tryz.zeroValue4
  t5 := Tryz.underlying5
  a5 := Tryz.isAgg5
  z5 := Tryz.sizeOf5
  v5 := Tryz.zeroValue5
  t9 := Tryz.underlying9
  a9 := Tryz.isAgg9
  z9 := Tryz.sizeOf9
  v9 := Tryz.zeroValue9
  t21 := Tryz.underlying21
  a21 := Tryz.isAgg21
  z21 := Tryz.sizeOf21
  v21 := Tryz.zeroValue21
  t46 := Tryz.underlying135
  a46 := Tryz.isAgg135
  z46 := Tryz.sizeOf135
  v46 := Tryz.zeroValue135 }

theorem idx_ge : ∀ (l : List UInt8) (b : UInt8), -1 ≤ Lib.indexByte l b
  | [], _ => by simp [Lib.indexByte]
  | c :: l, b => by
    have := idx_ge l b
    simp only [Lib.indexByte]
    split
    · omega
    · split <;> omega
theorem idx_has : ∀ (l : List UInt8) (b : UInt8), l.contains b = decide (0 ≤ Lib.indexByte l b)
  | [], _ => rfl
  | c :: l, b => by
    have ih := idx_has l b
    have hg := idx_ge l b
    rw [List.contains_cons, ih, Bool.eq_iff_iff]
    simp only [Lib.indexByte, Bool.or_eq_true, decide_eq_true_eq, beq_iff_eq]
    by_cases e : c = b
    · subst e; simp
    · rw [if_neg e]
      have e1 : ¬ b = c := fun h => e h.symm
      by_cases k : Lib.indexByte l b = -1
      · rw [if_pos k, k]; simp [e1]
      · rw [if_neg k]
        constructor
        · rintro (h | h)
          · exact absurd h e1
          · omega
        · intro h
          right; omega
theorem idx_any (s : ByteArray) (c : UInt8) (w : World) : Calls Tryz.prog 174 #[.string s, .int .u8 ((c.toNat : Nat) : Int)] w fun e w' => e = .returned (.int .i64 (Lib.indexByte s.data.toList c)) ∧ w' = w := by
  have h := Any.strings_IndexByte lays137 s ((c.toNat : Nat) : Int) w
  have e : ((c.toNat : Nat) : Int).toNat.toUInt8 = c := by simp
  rw [e] at h
  exact h
theorem crune_any (s : ByteArray) (n : Nat) (hn : n < 128) (w : World) : Calls Tryz.prog 272 #[.string s, .int .i32 ((n : Nat) : Int)] w fun e w' => e = .returned (.bool (s.data.toList.contains (UInt8.ofNat n))) ∧ w' = w := by
  have h := Any.strings_ContainsRune_ascii lays151 s ((n : Nat) : Int) w (by omega) (by omega)
  have e : ((n : Nat) : Int).toNat.toUInt8 = UInt8.ofNat n := rfl
  rw [e, ← idx_has] at h
  exact h
end Go.Proofs.YtflpajbcomhkpaaGreatDoor
namespace Go.Proofs.YtflpajbcomhkpaaGreatDoor
open Go.RowKit

/-- Whether each character of a text is in a set. -/
def allGo (p : Nat → Bool) : Nat → List UInt8 → Bool
  | 0, _ => true
  | n + 1, l => if l = [] then true else p (Lib.decodeL l).1 && allGo p n (l.drop (Lib.decodeL l).2)
def allD (p : Nat → Bool) (l : List UInt8) : Bool := allGo p l.length l
theorem allGo_nil (p : Nat → Bool) : ∀ n, allGo p n [] = true
  | 0 => rfl
  | _ + 1 => by simp [allGo]
theorem allGo_fuel (p : Nat → Bool) : ∀ (n m : Nat) (l : List UInt8), l.length ≤ n → l.length ≤ m → allGo p n l = allGo p m l
  | 0, m, l, hn, _ => by
    obtain rfl : l = [] := List.eq_nil_of_length_eq_zero (by omega)
    rw [allGo_nil, allGo_nil]
  | n + 1, 0, l, _, hm => by
    obtain rfl : l = [] := List.eq_nil_of_length_eq_zero (by omega)
    rw [allGo_nil, allGo_nil]
  | n + 1, m + 1, l, hn, hm => by
    unfold allGo
    by_cases hne : l = []
    · simp [hne]
    · have hw := Lib.decodeL_width l
      have hl : 0 < l.length := List.length_pos_iff.2 hne
      rw [if_neg hne, if_neg hne, allGo_fuel p n m (l.drop (Lib.decodeL l).2) (by rw [List.length_drop]; omega) (by rw [List.length_drop]; omega)]
theorem allD_step (p : Nat → Bool) (l : List UInt8) (hne : l ≠ []) : allD p l = (p (Lib.decodeL l).1 && allD p (l.drop (Lib.decodeL l).2)) := by
  have hl : 0 < l.length := List.length_pos_iff.2 hne
  have hw := Lib.decodeL_width l
  obtain ⟨n, hn⟩ : ∃ n, l.length = n + 1 := ⟨l.length - 1, by omega⟩
  unfold allD
  rw [hn]
  show (if l = [] then true else _) = _
  rw [if_neg hne, allGo_fuel p n (l.drop (Lib.decodeL l).2).length _ (by rw [List.length_drop]; omega) (Nat.le_refl _)]
theorem high_rune (b : UInt8) (t : List UInt8) (h : 128 ≤ b.toNat) : 128 ≤ (Lib.decodeL (b :: t)).1 :=
  (decode_high ⟨(b :: t).toArray⟩ 0 (by show 0 < (b :: t).length; simp) h).1
/-- A set of ASCII characters is asked byte by byte. -/
theorem allD_ascii (p : Nat → Bool) (hp : ∀ n, 128 ≤ n → p n = false) : ∀ (n : Nat) (l : List UInt8), l.length ≤ n → allD p l = l.all fun b => p b.toNat
  | _, [], _ => rfl
  | 0, b :: t, h => by simp at h
  | n + 1, b :: t, h => by
    rw [allD_step p _ (by simp), List.all_cons]
    by_cases hb : b.toNat < 128
    · rw [Lib.decodeL_ascii b t hb]
      show (p b.toNat && allD p t) = _
      rw [allD_ascii p hp n t (by simp at h; omega)]
    · rw [hp _ (high_rune b t (by omega)), hp b.toNat (by omega), Bool.false_and, Bool.false_and]

/-- The texts that may be contents of a string of TagUTF8. -/
def okU (l : List UInt8) : Bool := Lib.validD l && allD isU l
end Go.Proofs.YtflpajbcomhkpaaGreatDoor
namespace Go.Proofs.YtflpajbcomhkpaaGreatDoor
open Go.RowKit

theorem isal_is {n : Nat} {b : Bool} (h : alnum n = b) (w : World) : Calls Tryz.prog 173 #[.int .i32 (n : Int)] w fun e w' => e = .returned (.bool b) ∧ w' = w := by
  have := isal_any n w
  rwa [h] at this
theorem ralnum_is {n : Nat} {b : Bool} (h : alnum n = b) (w : World) : Calls Tryz.prog 134 #[.int .u8 (n : Int)] w fun e w' => e = .returned (.bool b) ∧ w' = w := by
  have := ralnum_any n w
  rwa [h] at this
theorem idx_is {s : ByteArray} {c : UInt8} {b : Int} (h : Lib.indexByte s.data.toList c = b) (w : World) : Calls Tryz.prog 174 #[.string s, .int .u8 ((c.toNat : Nat) : Int)] w fun e w' => e = .returned (.int .i64 b) ∧ w' = w := by
  have := idx_any s c w
  rwa [h] at this

set_option maxHeartbeats 1000000 in
theorem isplain_any (c : UInt8) (w : World) :
    Calls Tryz.prog 133 #[.int .u8 ((c.toNat : Nat) : Int)] w fun e w' => e = .returned (.bool (plainB c)) ∧ w' = w := by
  have hlt := c.toNat_lt
  cases ha : alnum c.toNat with
  | true =>
    have HP := Lib.hid (show plainB c = true by unfold plainB; rw [ha]; rfl)
    have HA := Lib.hid ha
    clear ha
    go_enter Tryz.func133, Tryz.ntmps133
    go_wp2_with (go_at_call 173; (with_reducible refine (isal_is HA.out _).mono ?_); rintro e w1 ⟨rfl, rfl⟩)
    go_ret
    exact ⟨by rw [HP.out]; rfl, rfl⟩
  | false =>
    obtain ⟨ix, hix⟩ : ∃ ix, Lib.indexByte plainL c = ix := ⟨_, rfl⟩
    have HP := Lib.hid (show plainB c = decide (0 ≤ ix) by unfold plainB; rw [ha, idx_has, hix]; rfl)
    have HA := Lib.hid ha
    have HI := Lib.hid (show Lib.indexByte (⟨#[32, 39, 40, 41, 45, 46, 47, 58, 63, 64, 95]⟩ : ByteArray).data.toList c = ix from hix)
    clear ha hix
    go_enter Tryz.func133, Tryz.ntmps133
    go_wp2_with (first
      | (go_at_call 173; (with_reducible refine (isal_is HA.out _).mono ?_); rintro e w1 ⟨rfl, rfl⟩)
      | (go_at_call 174; (with_reducible refine (idx_is HI.out _).mono ?_); rintro e w1 ⟨rfl, rfl⟩))
    go_ret
    exact ⟨by rw [HP.out]; rfl, rfl⟩

set_option maxHeartbeats 1000000 in
theorem among_any (c : UInt8) (l : ByteArray) (hl : l.size ≤ 1000000) (w : World) :
    Calls Tryz.prog 135 #[.int .u8 ((c.toNat : Nat) : Int), .string l] w fun e w' => e = .returned (.bool (l.data.toList.contains c)) ∧ w' = w := by
  go_enter Tryz.func135, Tryz.ntmps135
  go_wp2_with fail
  go_loopw [5] (fun i wr => ∃ k : Nat, k ≤ l.size ∧ i = .int .i64 (k : Int) ∧ wr = w ∧ l.data.toList.contains c = (l.data.toList.drop k).contains c) (fun i _ => l.size - (intOf i).toNat)
  case atStart => exact ⟨0, by omega, rfl, rfl, by simp⟩
  case round =>
    obtain ⟨k, hk, rfl, rfl, hc⟩ := hrel
    by_cases hlt : k < l.size
    · have hd : decide ((k : Int) < (l.size : Int)) = true := by simp; omega
      obtain ⟨x, hx, hxn⟩ := u8at_list l k hlt
      have hix := run_index_u8 (P := Tryz.prog) Tryz.underlying9 l k hlt (k : Int) rfl wr
      rw [hxn] at hix
      rw [drop_cons hx, List.contains_cons] at hc
      by_cases e : x = c
      · have hq : ((x.toNat : Nat) : Int) == ((c.toNat : Nat) : Int) := by rw [e]; simp
        have HC := Lib.hid (show l.data.toList.contains c = true by rw [hc, e]; simp)
        clear hc hx hxn e
        go_wp2_with fail
        go_ret
        exact ⟨by rw [HC.out]; rfl, rfl⟩
      · have hne : ¬ x.toNat = c.toNat := fun h => e (UInt8.toNat_inj.1 h)
        have hq : (((x.toNat : Nat) : Int) == ((c.toNat : Nat) : Int)) = false := by simp; omega
        have HC := Lib.hid (show l.data.toList.contains c = (l.data.toList.drop (k + 1)).contains c by
          rw [hc, show (c == x) = false by simp; exact fun h => e h.symm, Bool.false_or])
        clear hc hx hxn e hne
        go_wp2_with fail
        go_roundw
        case rel => exact ⟨k + 1, by omega, by go_num, by first | exact trivial | rfl, HC.out⟩
        case measure => simp [intOf]; omega
    · have hd : decide ((k : Int) < (l.size : Int)) = false := by simp; omega
      have HC := Lib.hid (show l.data.toList.contains c = false by
        rw [hc, List.drop_eq_nil_of_le (show l.data.toList.length ≤ k by show l.size ≤ k; omega)]; rfl)
      clear hc
      go_wp2_with fail
      go_ret
      exact ⟨by rw [HC.out]; rfl, rfl⟩
theorem among_is {c : UInt8} {l : ByteArray} {b : Bool} (h : l.data.toList.contains c = b) (hl : l.size ≤ 1000000) (w : World) :
    Calls Tryz.prog 135 #[.int .u8 ((c.toNat : Nat) : Int), .string l] w fun e w' => e = .returned (.bool b) ∧ w' = w := by
  have := among_any c l hl w
  rwa [h] at this

theorem isplain_is {c : UInt8} {b : Bool} (h : plainB c = b) (w : World) : Calls Tryz.prog 133 #[.int .u8 ((c.toNat : Nat) : Int)] w fun e w' => e = .returned (.bool b) ∧ w' = w := by
  have := isplain_any c w
  rwa [h] at this
end Go.Proofs.YtflpajbcomhkpaaGreatDoor
namespace Go.Proofs.YtflpajbcomhkpaaGreatDoor
open Go.RowKit

theorem digit_at (h : Nat) (hh : h < 16) (w : World) : (Instr.index 9 (.string ⟨#[48, 49, 50, 51, 52, 53, 54, 55, 56, 57, 97, 98, 99, 100, 101, 102]⟩) (.int .u8 (h : Int))).run Tryz.prog w = .ok (.int .u8 (((hexDigit h).toNat : Nat) : Int)) w := by
  obtain rfl | rfl | rfl | rfl | rfl | rfl | rfl | rfl | rfl | rfl | rfl | rfl | rfl | rfl | rfl | rfl : h = 0 ∨ h = 1 ∨ h = 2 ∨ h = 3 ∨ h = 4 ∨ h = 5 ∨ h = 6 ∨ h = 7 ∨ h = 8 ∨ h = 9 ∨ h = 10 ∨ h = 11 ∨ h = 12 ∨ h = 13 ∨ h = 14 ∨ h = 15 := by omega
  all_goals kernel_rfl
/-- The escaped form as a text. -/
def escS (s : ByteArray) : ByteArray := strOf (escL s.data.toList)
theorem escS_size (s : ByteArray) : (escS s).size ≤ 3 * s.size := escL_len s.data.toList
theorem hex_mask (n : Nat) (h : n < 256) : bits BinOp.and .u8 ((n : Nat) : Int) 15 = ((n % 16 : Nat) : Int) := by
  revert n; decide +kernel

set_option maxRecDepth 100000 in
set_option maxHeartbeats 2000000 in
theorem esc_any (s : ByteArray) (w : World) (hn : s.size ≤ 1099511627776) :
    Calls Tryz.prog 91 #[.string s] w fun e w' => e = .returned (.string (escS s)) ∧ Below w.heap.size w w' := by
  obtain ⟨i0, hi, hz0, hz1, hz2⟩ := info_parts byteInfo
  go_enter Tryz.func91, Tryz.ntmps91
  go_wp2_with (at_make; refine wpList_make_own _ rfl _ _ 55 rfl w.heap.size 5 i0 (.int .u8 0) 1 Tryz.underlying55 hi hz0 hz1 .i64 .i64 (s.size : Int) s.size rfl rfl (by omega) (by rw [hz2]; omega) (by unfold maxLen; omega) (Nat.le_refl _) ?_; intro w1 hown1 hgr1; have HO1 := Lib.hid hown1; have HG1 := Lib.hid hgr1; clear hown1 hgr1)
  go_loopw [3, 10] (fun v i wr => ∃ k : Nat, k ≤ s.size ∧ i = .int .i64 k ∧ OwnB 5 wr w.heap.size v (escL (s.data.toList.take k)) ∧ Below w.heap.size w wr) (fun _ i _ => s.size - (intOf i).toNat)
  case atStart => exact ⟨0, Nat.zero_le _, rfl, HO1.out, (Below.refl _ _).grown HG1.out (Nat.le_refl _) (fun _ e => by cases e)⟩
  case round =>
    obtain ⟨k, hk, rfl, hown, hb⟩ := hrel
    have HO := Lib.hid hown
    have HB := Lib.hid hb
    have hsb := hb.size
    have HLN := Lib.hid (show (escL (s.data.toList.take k)).length ≤ 3 * k by
      have := escL_len (s.data.toList.take k)
      rwa [take_len s hk] at this)
    clear hown hb
    by_cases hlt : k < s.size
    · have hd : decide ((k : Int) < (s.size : Int)) = true := by simp; omega
      obtain ⟨c, hc, hcn⟩ := u8at_list s k hlt
      have hix := fun w => run_index_u8 (P := Tryz.prog) Tryz.underlying9 s k hlt (k : Int) rfl w
      rw [hcn] at hix
      have HS := Lib.hid (show escL (s.data.toList.take (k + 1)) = escL (s.data.toList.take k) ++ escB c by rw [take_snoc hc, escL_snoc])
      clear hc hcn
      generalize escL (s.data.toList.take k) = D at HO HLN HS
      cases hp : plainB c with
      | true =>
        have HP := Lib.hid (fun w => isplain_is hp w)
        have HN := Lib.hid (show escL (s.data.toList.take (k + 1)) = D ++ [c] by rw [HS.out, escB_plain hp])
        have hDl := HLN.out
        clear hp
        go_wp2_with (first
          | (go_at_call 133; (with_reducible refine (HP.out _).mono ?_); rintro e w3 ⟨rfl, rfl⟩)
          | (at_builtin; (refine wpList_append_own _ rfl (.tmp 17) (.tmp 21) 55 rfl w.heap.size 5 i0 (.int .u8 0) 1 1 Tryz.underlying55 hi hz0 hz1 hz2 rfl (by decide) _ _ _ rfl (HO.out.alloc _) ⟨w3.heap.size, 0, none⟩ 1 1 [bcell c] rfl rfl (news_row w3 #[bcell c] 5) (bcells_one [c]) (by unfold maxLen; omega) (by omega) (by simp; omega) ?_); intro v' w2 hown2 hgr2 _; obtain ⟨P1, P2⟩ := out_round HO.out HB.out hown2 hgr2; have HP1 := Lib.hid P1; have HP2 := Lib.hid P2; clear hown2 hgr2 P1 P2))
        go_roundw
        case rel => exact ⟨k + 1, by omega, by go_num, by rw [HN.out]; exact HP1.out, HP2.out⟩
        case measure => simp [intOf]; omega
      | false =>
        have HP := Lib.hid (fun w => isplain_is hp w)
        obtain ⟨x, hx⟩ : ∃ x, x = c.toNat / 16 := ⟨_, rfl⟩
        obtain ⟨y, hy⟩ : ∃ y, y = c.toNat % 16 := ⟨_, rfl⟩
        have HN := Lib.hid (show escL (s.data.toList.take (k + 1)) = D ++ [92, hexDigit x, hexDigit y] by rw [HS.out, escB_other hp, hx, hy])
        have hq : ((c.toNat : Nat) : Int) / 16 = (x : Int) := by rw [hx]; rfl
        have hr : bits BinOp.and .u8 ((c.toNat : Nat) : Int) 15 = (y : Int) := by rw [hy]; exact hex_mask c.toNat c.toNat_lt
        have h1 := digit_at x (by have := c.toNat_lt; omega)
        have h2 := digit_at y (by omega)
        clear hx hy hp
        go_wp2_with (go_at_call 133; (with_reducible refine (HP.out _).mono ?_); rintro e w3 ⟨rfl, rfl⟩)
        go_region_law (refine step_append_own rfl (.tmp 23) (.tmp 34) 55 rfl w.heap.size 5 i0 (.int .u8 0) 1 Tryz.underlying55 hi hz0 hz1 hz2 rfl _ _ _ rfl ((HO.out.alloc _).drew) ⟨w3.heap.size, 0, none⟩ 3 3 [bcell 92, bcell (hexDigit x), bcell (hexDigit y)] rfl rfl (news_row w3 #[bcell 92, bcell (hexDigit x), bcell (hexDigit y)] 5) (bcells_one [92, hexDigit x, hexDigit y]) (by have := HLN.out; unfold maxLen; omega) (by have := HLN.out; omega) (by simp; omega) ?_; intro v' w2 hown2 hgr2 _)
        all_goals
          have ho : OwnB 5 w2 w.heap.size v' (D ++ [92, hexDigit x, hexDigit y]) := by
            unfold OwnB
            rw [List.length_append, List.map_append]; exact hown2
          have hb2 : Below w.heap.size w w2 := OwnB.grown ((HO.out.alloc (.cells #[bcell 92, bcell (hexDigit x), bcell (hexDigit y)] 5)).drew) (Below.drew (Below.alloc HB.out hsb _)) hgr2 (by simp; omega) (Nat.le_refl _)
          have HO2 := Lib.hid ho
          have HB2 := Lib.hid hb2
          clear hown2 hgr2 ho hb2
          go_wp2_with fail
          go_roundw
          case rel => exact ⟨k + 1, by omega, by go_num, by rw [HN.out]; exact HO2.out, HB2.out⟩
          case measure => simp [intOf]; omega
    · have ek : k = s.size := by omega
      subst ek
      have hd : decide ((s.size : Int) < (s.size : Int)) = false := by simp
      have hconv := own_str HO.out
      go_wp2_with fail
      go_ret
      refine ⟨?_, HB.out⟩
      rw [take_all s (Nat.le_refl _)]
      rfl
end Go.Proofs.YtflpajbcomhkpaaGreatDoor
