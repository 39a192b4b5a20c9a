/-
  Addresses and ranges as lists of bytes: when one lies within another. Nothing is claimed of the program here.
  Mail addresses, DNS names and addresses that are the same lie within the same bases; how long a text of each kind can be. Nothing is claimed of the program here.
  The two tables of unicode/utf8: what the program's text lays, and that calls which leave old memory alone leave them. Nothing is claimed of the program here.
  The contracts of strings.IndexByte and of strings.ContainsRune at an ASCII character: the library's theorems, laid at the program's own numbers. Nothing is claimed of the program beyond its bodies.
  Plain laws of texts as sequences of characters: which texts consist of characters of a set, and which are well-formed without control characters. Nothing is claimed of the program here.
  The contracts of isPlain of the program, and of Among and plain of the reference: whether a byte is one that is not escaped.
  The contract of text.Escape: the escaped form of a string; nothing that was there before the call has changed.
  The contracts of escaped and text.Unescape of the program: the string whose escaped form is the given one, if there is one; nothing that was there before the call has changed.
  The contracts of isPrintable (with strings.ContainsRune at characters beyond ASCII) and of consists: whether each character of a text is in a set; nothing that was there before the call has changed.
  The contracts of isPrintable and of consists of the program: whether each character of a text is in a set; nothing that was there before the call has changed.
  The contract of the reference's utf8: whether a text is well-formed without control characters; nothing has changed.
  The contract of utf8.ValidString: the library's theorem, laid at the program's own numbers. Nothing is claimed of the program beyond its bodies.
  The contracts of text.Valid and of the reference's ValidText: whether a text may be the contents of a string of a kind; nothing that was there before the call has changed.
  The contract of oid.arcOf: the number whose decimal digits the text is, if there is one up to the greatest arc.
  The contract of oid.arcsOf: the numbers of the object identifier that the text is, if it is one.
  The contract of the reference's arcs: the numbers of the object identifier that the text is, if it is one.
  Plain laws on names as lists: what an attribute is, which error a name has, when two names match. Nothing is claimed of the program here.
-/
import Derived.Test.YtofadgmnjckpcaaGreatDoorUac
import Derived.Test.YtofadgmnjckpcaaGreatDoorUaa
import Derived.Lib.DecodeN
import Derived.Shelf.Strings.Runes
import Derived.Lib.ValidLaws
import Derived.Deep.QuietTactic
import Derived.BigQuiet
import Derived.Laws.Runes
import Derived.Lib.OthersKept
import Derived.Deep.LoopGhost
import Derived.Deep.RegionWith
import Derived.Shelf.Unicode.ValidAny
import Derived.Test.YtofadgmnjckpcaaGreatDoorUab
import Derived.Deep.DeepCutAuto
namespace Go.Proofs.YtofadgmnjckpcaaGreatDoor
open Go.RowKit

def addrB (b : List UInt8) : Bool := decide (b.length = 4) || decide (b.length = 16)
def bitAt (b : List UInt8) (at' i : Nat) : Bool := decide ((b.getD (at' + i / 8) 0).toNat / 2 ^ (7 - i % 8) % 2 = 1)
/-- A bit of the mask; a bit of the address. -/
def mbit (b : List UInt8) (i : Nat) : Bool := bitAt b (b.length / 2) i
def abit (b : List UInt8) (i : Nat) : Bool := bitAt b 0 i
def onesTo (b : List UInt8) (i : Nat) : Bool := (List.range i).all (mbit b)
def bitOk (b : List UInt8) (i : Nat) : Bool := if mbit b i = true then onesTo b i else !abit b i
def rangeB (b : List UInt8) : Bool := (decide (b.length = 8) || decide (b.length = 32)) && (List.range (8 * (b.length / 2))).all (bitOk b)
def wholeB (a r : List UInt8) : Bool := addrB a && decide (a.length = r.length / 2)
def byteIn (a r : List UInt8) (h i : Nat) : Bool := decide (a.getD i 0 &&& r.getD (h + i) 0 = r.getD i 0) && (wholeB a r || decide (a.getD (h + i) 0 &&& r.getD (h + i) 0 = r.getD (h + i) 0))
def addrWithinB (a r : List UInt8) : Bool := rangeB r && (wholeB a r || (rangeB a && decide (a.length = r.length))) && (List.range (r.length / 2)).all (byteIn a r (r.length / 2))

/-! ### Ranges with a mask of some bits -/
def maskT (t : Nat) : UInt8 := [0, 128, 192, 224, 240, 248, 252, 254].getD t 255
def maskB (k i : Nat) : UInt8 := maskT (min 8 (k - 8 * i))
def netB (a : List UInt8) (k n : Nat) : List UInt8 := (List.range n).map (fun i => a.getD i 0 &&& maskB k i) ++ (List.range n).map (maskB k)
theorem maskT_and : ∀ s, s ≤ 8 → ∀ t, t ≤ 8 → maskT s &&& maskT t = maskT (min s t) := by decide
theorem mask_and (k l i : Nat) : maskB k i &&& maskB l i = maskB (min k l) i := by
  unfold maskB
  rw [maskT_and _ (Nat.min_le_left _ _) _ (Nat.min_le_left _ _)]
  congr 1
  omega
theorem net_len (a : List UInt8) (k n : Nat) : (netB a k n).length = 2 * n := by
  unfold netB
  rw [List.length_append, List.length_map, List.length_map, List.length_range]
  omega
theorem net_low {a : List UInt8} {k n i : Nat} (h : i < n) : (netB a k n).getD i 0 = a.getD i 0 &&& maskB k i := by
  unfold netB
  rw [List.getD_eq_getElem?_getD, List.getElem?_append_left (by simpa using h), List.getElem?_map, List.getElem?_range h]
  rfl
theorem net_high {a : List UInt8} {k n i : Nat} (h : i < n) : (netB a k n).getD (n + i) 0 = maskB k i := by
  unfold netB
  rw [List.getD_eq_getElem?_getD, List.getElem?_append_right (by simp), List.length_map, List.length_range, show n + i - n = i by omega, List.getElem?_map, List.getElem?_range h]
  rfl
theorem maskT_bit : ∀ t, t ≤ 8 → ∀ j, j < 8 → ((maskT t).toNat / 2 ^ (7 - j) % 2 = 1 ↔ j < t) := by decide
set_option maxRecDepth 100000 in
theorem and_bit : ∀ t, t ≤ 8 → ∀ j, j < 8 → t ≤ j → ∀ x : Nat, x < 256 → ¬ ((UInt8.ofNat x &&& maskT t).toNat / 2 ^ (7 - j) % 2 = 1) := by decide +kernel
theorem net_mbit {a : List UInt8} {k n i : Nat} (h : i < 8 * n) : mbit (netB a k n) i = decide (i < k) := by
  unfold mbit bitAt
  rw [net_len, show 2 * n / 2 = n by omega, net_high (by omega), decide_eq_decide]
  unfold maskB
  rw [maskT_bit _ (Nat.min_le_left _ _) _ (Nat.mod_lt _ (by decide))]
  omega
theorem net_abit {a : List UInt8} {k n i : Nat} (h : i < 8 * n) (hk : k ≤ i) : abit (netB a k n) i = false := by
  unfold abit bitAt
  rw [Nat.zero_add, net_low (by omega), decide_eq_false_iff_not]
  unfold maskB
  have := and_bit (min 8 (k - 8 * (i / 8))) (Nat.min_le_left _ _) (i % 8) (Nat.mod_lt _ (by decide)) (by omega) (a.getD (i / 8) 0).toNat (UInt8.toNat_lt _)
  rwa [show UInt8.ofNat (a.getD (i / 8) 0).toNat = a.getD (i / 8) 0 by simp] at this
theorem net_range {a : List UInt8} {k n : Nat} (hn : n = 4 ∨ n = 16) : rangeB (netB a k n) = true := by
  unfold rangeB
  rw [net_len, show 2 * n / 2 = n by omega, Bool.and_eq_true, Bool.or_eq_true, decide_eq_true_iff, decide_eq_true_iff, List.all_eq_true]
  refine ⟨by omega, fun i hi => ?_⟩
  have hi := List.mem_range.1 hi
  unfold bitOk
  rw [net_mbit hi]
  by_cases h : i < k
  · rw [if_pos (decide_eq_true h)]
    unfold onesTo
    rw [List.all_eq_true]
    intro j hj
    have hj := List.mem_range.1 hj
    rw [net_mbit (by omega)]
    exact decide_eq_true (by omega)
  · rw [if_neg (by simpa using h), net_abit hi (by omega)]
    rfl
theorem byteIn_net {a b : List UInt8} {k l n : Nat} (hn : n = 4 ∨ n = 16) (h : ∀ i, i < n → (a.getD i 0 &&& maskB k i) &&& maskB l i = b.getD i 0 &&& maskB l i) (hkl : l ≤ k) : addrWithinB (netB a k n) (netB b l n) = true := by
  unfold addrWithinB
  rw [net_range hn, net_range hn, net_len, net_len, decide_eq_true rfl, show 2 * n / 2 = n by omega, Bool.true_and, Bool.and_self, Bool.or_true, Bool.true_and, List.all_eq_true]
  intro i hi
  have hi := List.mem_range.1 hi
  unfold byteIn
  rw [net_low hi, net_low hi, net_high hi, net_high hi, h i hi, mask_and, Nat.min_eq_right hkl]
  simp
end Go.Proofs.YtofadgmnjckpcaaGreatDoor
namespace Go.Proofs.YtofadgmnjckpcaaGreatDoor
open Go.RowKit

theorem bool_iff {a b : Bool} (h : a = true ↔ b = true) : a = b := Bool.eq_iff_iff.2 h
theorem alikeB_refl (a : List UInt8) : alikeB a a = true := (alikeB_iff a a).2 rfl
/-! ### Lengths -/
end Go.Proofs.YtofadgmnjckpcaaGreatDoor
namespace Go.Proofs.YtofadgmnjckpcaaGreatDoor
open Go.RowKit

/-! ### The tables -/
/-- The two tables of unicode/utf8 lie as the library's text lays them. -/
def Tab (w : World) : Prop :=
  (∀ c, c < 256 → w.cell? ⟨6, c, none⟩ = some (.int .u8 (Lib.firstT c))) ∧
  (∀ i, i < 16 → w.cell? ⟨7, 2 * i, none⟩ = some (.int .u8 (Lib.accLo i)) ∧ w.cell? ⟨7, 2 * i + 1, none⟩ = some (.int .u8 (Lib.accHi i)))
theorem Tab.lt {w : World} (h : Tab w) : 6 < w.heap.size ∧ 7 < w.heap.size :=
  ⟨block_lt_of_cell (h.1 0 (by omega)), block_lt_of_cell (h.2 0 (by omega)).1⟩
theorem Tab.below {w w' : World} (h : Tab w) (hb : Below w.heap.size w w') : Tab w' :=
  ⟨fun c hc => (hb.cell (p := ⟨6, c, none⟩) h.lt.1).trans (h.1 c hc),
   fun i hi => ⟨(hb.cell (p := ⟨7, 2 * i, none⟩) h.lt.2).trans (h.2 i hi).1, (hb.cell (p := ⟨7, 2 * i + 1, none⟩) h.lt.2).trans (h.2 i hi).2⟩⟩
theorem Tab.alloc {w : World} (h : Tab w) (o : Obj) : Tab (w.alloc o) := h.below (belowNew w o)
end Go.Proofs.YtofadgmnjckpcaaGreatDoor
namespace Go.Proofs.YtofadgmnjckpcaaGreatDoor
open Go.Shelf Go.RowKit

def lays137_ren : Go.Shelf.Ren := ⟨fun | 137 => 141 | 217 => 145 | 266 => 153 | n => n, fun | 3 => 3 | 5 => 5 | 9 => 9 | n => n, fun | n => n⟩
theorem lays137 : Go.Proofs.Lays.n137 Tryz.prog lays137_ren := {
  mixed := by kernel_rfl
  f137 := Tryz.func141.trans (congrArg some (by kernel_rfl))
  f217 := Tryz.func145.trans (congrArg some (by kernel_rfl))
  f266 := Tryz.func153.trans (congrArg some (by kernel_rfl))
  t3 := Tryz.underlying3
  a3 := Tryz.isAgg3
  z3 := Tryz.sizeOf3
  v3 := Tryz.zeroValue3
  t5 := Tryz.underlying5
  a5 := Tryz.isAgg5
  z5 := Tryz.sizeOf5
  v5 := Tryz.zeroValue5
  t9 := Tryz.underlying9
  a9 := Tryz.isAgg9
  z9 := Tryz.sizeOf9
  v9 := Tryz.zeroValue9 }
theorem idx_ge : ∀ (l : List UInt8) (b : UInt8), -1 ≤ Lib.indexByte l b
  | [], _ => by simp [Lib.indexByte]
  | c :: l, b => by
    have := idx_ge l b
    simp only [Lib.indexByte]
    split
    · omega
    · split <;> omega
theorem idx_has : ∀ (l : List UInt8) (b : UInt8), l.contains b = decide (0 ≤ Lib.indexByte l b)
  | [], _ => rfl
  | c :: l, b => by
    have ih := idx_has l b
    have hg := idx_ge l b
    rw [List.contains_cons, ih, Bool.eq_iff_iff]
    simp only [Lib.indexByte, Bool.or_eq_true, decide_eq_true_eq, beq_iff_eq]
    by_cases e : c = b
    · subst e; simp
    · rw [if_neg e]
      have e1 : ¬ b = c := fun h => e h.symm
      by_cases k : Lib.indexByte l b = -1
      · rw [if_pos k, k]; simp [e1]
      · rw [if_neg k]
        constructor
        · rintro (h | h)
          · exact absurd h e1
          · omega
        · intro h
          right; omega
end Go.Proofs.YtofadgmnjckpcaaGreatDoor
namespace Go.Proofs.YtofadgmnjckpcaaGreatDoor
open Go.RowKit

end Go.Proofs.YtofadgmnjckpcaaGreatDoor
namespace Go.Proofs.YtofadgmnjckpcaaGreatDoor
open Go.RowKit

end Go.Proofs.YtofadgmnjckpcaaGreatDoor
namespace Go.Proofs.YtofadgmnjckpcaaGreatDoor
open Go.RowKit

end Go.Proofs.YtofadgmnjckpcaaGreatDoor
namespace Go.Proofs.YtofadgmnjckpcaaGreatDoor
open Go.RowKit

/-! ### One byte in digits -/
end Go.Proofs.YtofadgmnjckpcaaGreatDoor
namespace Go.Proofs.YtofadgmnjckpcaaGreatDoor
open Go.RowKit

/-! ### A character beyond ASCII in an ASCII text -/
end Go.Proofs.YtofadgmnjckpcaaGreatDoor
namespace Go.Proofs.YtofadgmnjckpcaaGreatDoor
open Go.RowKit

end Go.Proofs.YtofadgmnjckpcaaGreatDoor
namespace Go.Proofs.YtofadgmnjckpcaaGreatDoor
open Go.RowKit

end Go.Proofs.YtofadgmnjckpcaaGreatDoor
namespace Go.Proofs.YtofadgmnjckpcaaGreatDoor
open Go.Shelf Go.RowKit

end Go.Proofs.YtofadgmnjckpcaaGreatDoor
namespace Go.Proofs.YtofadgmnjckpcaaGreatDoor
open Go.RowKit

end Go.Proofs.YtofadgmnjckpcaaGreatDoor
namespace Go.Proofs.YtofadgmnjckpcaaGreatDoor
open Go.RowKit

end Go.Proofs.YtofadgmnjckpcaaGreatDoor
namespace Go.Proofs.YtofadgmnjckpcaaGreatDoor
open Go.RowKit

end Go.Proofs.YtofadgmnjckpcaaGreatDoor
namespace Go.Proofs.YtofadgmnjckpcaaGreatDoor
open Go.RowKit

end Go.Proofs.YtofadgmnjckpcaaGreatDoor
namespace Go.Proofs.YtofadgmnjckpcaaGreatDoor
open Go.RowKit

/-- An attribute: its type, its kind, its value. A name: its relative names. -/
abbrev At := ByteArray × Int × ByteArray
abbrev Nm := List (List At)
def atV (a : At) : Value := .agg #[.string a.1, .int .i64 a.2.1, .string a.2.2]
def atCells (a : At) : List Value := [.string a.1, .int .i64 a.2.1, .string a.2.2]
def noAt : At := (⟨#[]⟩, 0, ⟨#[]⟩)

/-! ### The first error of a name -/
theorem takeD {α : Type} (l : List α) (k : Nat) (h : k < l.length) (d : α) : l.take (k + 1) = l.take k ++ [l.getD k d] := by
  rw [List.take_add_one, List.getD_eq_getElem?_getD, List.getElem?_eq_getElem h]; rfl
/-! ### When names match -/
def fa (a : At) : ByteArray × ByteArray := (a.1, foldS a.2.2)
def MatchR (r s : List At) : Prop := r.length = s.length ∧ (∀ x ∈ r, ∃ y ∈ s, fa y = fa x) ∧ (∀ y ∈ s, ∃ x ∈ r, fa x = fa y)
instance (r s : List At) : Decidable (MatchR r s) := by unfold MatchR; infer_instance
theorem MatchR.refl (r : List At) : MatchR r r := ⟨rfl, fun x h => ⟨x, h, rfl⟩, fun x h => ⟨x, h, rfl⟩⟩
theorem MatchR.symm {r s : List At} (h : MatchR r s) : MatchR s r := ⟨h.1.symm, h.2.2, h.2.1⟩
theorem MatchR.trans {r s t : List At} (h : MatchR r s) (k : MatchR s t) : MatchR r t := by
  refine ⟨h.1.trans k.1, fun x hx => ?_, fun x hx => ?_⟩
  · obtain ⟨y, hy, e1⟩ := h.2.1 x hx
    obtain ⟨z, hz, e2⟩ := k.2.1 y hy
    exact ⟨z, hz, e2.trans e1⟩
  · obtain ⟨y, hy, e1⟩ := k.2.2 x hx
    obtain ⟨z, hz, e2⟩ := h.2.2 y hy
    exact ⟨z, hz, e2.trans e1⟩
/-- The relative names of b match the first ones of n. -/
def WithinN (n b : Nm) : Prop := b.length ≤ n.length ∧ ∀ i, i < b.length → MatchR (n.getD i []) (b.getD i [])
def MatchN (n m : Nm) : Prop := n.length = m.length ∧ ∀ i, i < n.length → MatchR (n.getD i []) (m.getD i [])
instance (n b : Nm) : Decidable (WithinN n b) := by unfold WithinN; infer_instance
instance (n b : Nm) : Decidable (MatchN n b) := by unfold MatchN; infer_instance
theorem MatchN.refl (n : Nm) : MatchN n n := ⟨rfl, fun _ _ => MatchR.refl _⟩
theorem MatchN.symm {n m : Nm} (h : MatchN n m) : MatchN m n := ⟨h.1.symm, fun i hi => (h.2 i (by rw [h.1]; exact hi)).symm⟩
theorem MatchN.within {n m : Nm} (h : MatchN n m) : WithinN n m := ⟨Nat.le_of_eq h.1.symm, fun i hi => h.2 i (by rw [h.1]; exact hi)⟩
theorem WithinN.trans {a b c : Nm} (h : WithinN a b) (k : WithinN b c) : WithinN a c := ⟨Nat.le_trans k.1 h.1, fun i hi => (h.2 i (Nat.lt_of_lt_of_le hi k.1)).trans (k.2 i hi)⟩
theorem getD_take {α : Type} (l : List α) (k i : Nat) (h : i < k) (d : α) : (l.take k).getD i d = l.getD i d := by
  rw [List.getD_eq_getElem?_getD, List.getD_eq_getElem?_getD, List.getElem?_take_of_lt h]
theorem within_take (n b : Nm) (h : b.length ≤ n.length) : WithinN n b ↔ MatchN (n.take b.length) b := by
  have e : (n.take b.length).length = b.length := by rw [List.length_take]; omega
  constructor
  · intro k
    exact ⟨e, fun i hi => by rw [e] at hi; rw [getD_take _ _ _ hi]; exact k.2 i hi⟩
  · intro k
    exact ⟨h, fun i hi => by have := k.2 i (by rw [e]; exact hi); rw [getD_take _ _ _ hi] at this; exact this⟩
end Go.Proofs.YtofadgmnjckpcaaGreatDoor
