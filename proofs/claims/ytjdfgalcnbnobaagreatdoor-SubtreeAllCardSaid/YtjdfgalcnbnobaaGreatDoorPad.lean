/-
  The contracts of strings.IndexByte and of strings.ContainsRune at an ASCII character: the library's theorems, laid at the program's own numbers. Nothing is claimed of the program beyond its bodies.
  Plain laws of texts as sequences of characters: which texts consist of characters of a set, and which are well-formed without control characters. Nothing is claimed of the program here.
  The contracts of isPlain of the program, and of Among and plain of the reference: whether a byte is one that is not escaped.
  The contract of text.Escape: the escaped form of a string; nothing that was there before the call has changed.
  The contracts of escaped and text.Unescape of the program: the string whose escaped form is the given one, if there is one; nothing that was there before the call has changed.
  The contracts of isPrintable (with strings.ContainsRune at characters beyond ASCII) and of consists: whether each character of a text is in a set; nothing that was there before the call has changed.
  The contracts of isPrintable and of consists of the program: whether each character of a text is in a set; nothing that was there before the call has changed.
  The contract of the reference's utf8: whether a text is well-formed without control characters; nothing has changed.
  The contract of utf8.ValidString: the library's theorem, laid at the program's own numbers. Nothing is claimed of the program beyond its bodies.
  The contracts of text.Valid and of the reference's ValidText: whether a text may be the contents of a string of a kind; nothing that was there before the call has changed.
  The contract of oid.arcOf: the number whose decimal digits the text is, if there is one up to the greatest arc.
  The contract of oid.arcsOf: the numbers of the object identifier that the text is, if it is one.
  The contract of the reference's arcs: the numbers of the object identifier that the text is, if it is one.
  Plain laws on names as lists: what an attribute is, which error a name has, when two names match. Nothing is claimed of the program here.
-/
import Derived.Shelf.Strings.Runes
import Derived.Test.YtjdfgalcnbnobaaGreatDoorPab
import Derived.Lib.ValidLaws
import Derived.Test.YtjdfgalcnbnobaaGreatDoorPac
import Derived.Deep.QuietTactic
import Derived.BigQuiet
import Derived.Laws.Runes
import Derived.Lib.OthersKept
import Derived.Deep.LoopGhost
import Derived.Deep.RegionWith
import Derived.Shelf.Unicode.ValidAny
import Derived.Test.YtjdfgalcnbnobaaGreatDoorPaa
import Derived.Deep.DeepCutAuto
namespace Go.Proofs.YtjdfgalcnbnobaaGreatDoor
open Go.Shelf Go.RowKit

def lays137_ren : Go.Shelf.Ren := ⟨fun | 137 => 141 | 217 => 145 | 266 => 153 | n => n, fun | 3 => 3 | 5 => 5 | 9 => 9 | n => n, fun | n => n⟩
theorem lays137 : Go.Proofs.Lays.n137 Tryz.prog lays137_ren := {
  mixed := by kernel_rfl
  f137 := Tryz.func141.trans (congrArg some (by kernel_rfl))
  f217 := Tryz.func145.trans (congrArg some (by kernel_rfl))
  f266 := Tryz.func153.trans (congrArg some (by kernel_rfl))
  t3 := Tryz.underlying3
  a3 := Tryz.isAgg3
  z3 := Tryz.sizeOf3
  v3 := Tryz.zeroValue3
  t5 := Tryz.underlying5
  a5 := Tryz.isAgg5
  z5 := Tryz.sizeOf5
  v5 := Tryz.zeroValue5
  t9 := Tryz.underlying9
  a9 := Tryz.isAgg9
  z9 := Tryz.sizeOf9
  v9 := Tryz.zeroValue9 }
theorem idx_ge : ∀ (l : List UInt8) (b : UInt8), -1 ≤ Lib.indexByte l b
  | [], _ => by simp [Lib.indexByte]
  | c :: l, b => by
    have := idx_ge l b
    simp only [Lib.indexByte]
    split
    · omega
    · split <;> omega
theorem idx_has : ∀ (l : List UInt8) (b : UInt8), l.contains b = decide (0 ≤ Lib.indexByte l b)
  | [], _ => rfl
  | c :: l, b => by
    have ih := idx_has l b
    have hg := idx_ge l b
    rw [List.contains_cons, ih, Bool.eq_iff_iff]
    simp only [Lib.indexByte, Bool.or_eq_true, decide_eq_true_eq, beq_iff_eq]
    by_cases e : c = b
    · subst e; simp
    · rw [if_neg e]
      have e1 : ¬ b = c := fun h => e h.symm
      by_cases k : Lib.indexByte l b = -1
      · rw [if_pos k, k]; simp [e1]
      · rw [if_neg k]
        constructor
        · rintro (h | h)
          · exact absurd h e1
          · omega
        · intro h
          right; omega
end Go.Proofs.YtjdfgalcnbnobaaGreatDoor
namespace Go.Proofs.YtjdfgalcnbnobaaGreatDoor
open Go.RowKit

end Go.Proofs.YtjdfgalcnbnobaaGreatDoor
namespace Go.Proofs.YtjdfgalcnbnobaaGreatDoor
open Go.RowKit

theorem ralnum_is {n : Nat} {b : Bool} (h : alnum n = b) (w : World) : Calls Tryz.prog 109 #[.int .u8 (n : Int)] w fun e w' => e = .returned (.bool b) ∧ w' = w := by
  have := ralnum_any n w
  rwa [h] at this
set_option maxHeartbeats 1000000 in
theorem among_any (c : UInt8) (l : ByteArray) (hl : l.size ≤ 1000000) (w : World) :
    Calls Tryz.prog 110 #[.int .u8 ((c.toNat : Nat) : Int), .string l] w fun e w' => e = .returned (.bool (l.data.toList.contains c)) ∧ w' = w := by
  go_enter Tryz.func110, Tryz.ntmps110
  go_wp2_with fail
  go_loopw [5] (fun i wr => ∃ k : Nat, k ≤ l.size ∧ i = .int .i64 (k : Int) ∧ wr = w ∧ l.data.toList.contains c = (l.data.toList.drop k).contains c) (fun i _ => l.size - (intOf i).toNat)
  case atStart => exact ⟨0, by omega, rfl, rfl, by simp⟩
  case round =>
    obtain ⟨k, hk, rfl, rfl, hc⟩ := hrel
    by_cases hlt : k < l.size
    · have hd : decide ((k : Int) < (l.size : Int)) = true := by simp; omega
      obtain ⟨x, hx, hxn⟩ := u8at_list l k hlt
      have hix := run_index_u8 (P := Tryz.prog) Tryz.underlying9 l k hlt (k : Int) rfl wr
      rw [hxn] at hix
      rw [drop_cons hx, List.contains_cons] at hc
      by_cases e : x = c
      · have hq : ((x.toNat : Nat) : Int) == ((c.toNat : Nat) : Int) := by rw [e]; simp
        have HC := Lib.hid (show l.data.toList.contains c = true by rw [hc, e]; simp)
        clear hc hx hxn e
        go_wp2_with fail
        go_ret
        exact ⟨by rw [HC.out]; rfl, rfl⟩
      · have hne : ¬ x.toNat = c.toNat := fun h => e (UInt8.toNat_inj.1 h)
        have hq : (((x.toNat : Nat) : Int) == ((c.toNat : Nat) : Int)) = false := by simp; omega
        have HC := Lib.hid (show l.data.toList.contains c = (l.data.toList.drop (k + 1)).contains c by
          rw [hc, show (c == x) = false by simp; exact fun h => e h.symm, Bool.false_or])
        clear hc hx hxn e hne
        go_wp2_with fail
        go_roundw
        case rel => exact ⟨k + 1, by omega, by go_num, by first | exact trivial | rfl, HC.out⟩
        case measure => simp [intOf]; omega
    · have hd : decide ((k : Int) < (l.size : Int)) = false := by simp; omega
      have HC := Lib.hid (show l.data.toList.contains c = false by
        rw [hc, List.drop_eq_nil_of_le (show l.data.toList.length ≤ k by show l.size ≤ k; omega)]; rfl)
      clear hc
      go_wp2_with fail
      go_ret
      exact ⟨by rw [HC.out]; rfl, rfl⟩
theorem among_is {c : UInt8} {l : ByteArray} {b : Bool} (h : l.data.toList.contains c = b) (hl : l.size ≤ 1000000) (w : World) :
    Calls Tryz.prog 110 #[.int .u8 ((c.toNat : Nat) : Int), .string l] w fun e w' => e = .returned (.bool b) ∧ w' = w := by
  have := among_any c l hl w
  rwa [h] at this

end Go.Proofs.YtjdfgalcnbnobaaGreatDoor
namespace Go.Proofs.YtjdfgalcnbnobaaGreatDoor
open Go.RowKit

end Go.Proofs.YtjdfgalcnbnobaaGreatDoor
namespace Go.Proofs.YtjdfgalcnbnobaaGreatDoor
open Go.RowKit

/-! ### One byte in digits -/
end Go.Proofs.YtjdfgalcnbnobaaGreatDoor
namespace Go.Proofs.YtjdfgalcnbnobaaGreatDoor
open Go.RowKit

/-! ### A character beyond ASCII in an ASCII text -/
end Go.Proofs.YtjdfgalcnbnobaaGreatDoor
namespace Go.Proofs.YtjdfgalcnbnobaaGreatDoor
open Go.RowKit

end Go.Proofs.YtjdfgalcnbnobaaGreatDoor
namespace Go.Proofs.YtjdfgalcnbnobaaGreatDoor
open Go.RowKit

end Go.Proofs.YtjdfgalcnbnobaaGreatDoor
namespace Go.Proofs.YtjdfgalcnbnobaaGreatDoor
open Go.Shelf Go.RowKit

end Go.Proofs.YtjdfgalcnbnobaaGreatDoor
namespace Go.Proofs.YtjdfgalcnbnobaaGreatDoor
open Go.RowKit

end Go.Proofs.YtjdfgalcnbnobaaGreatDoor
namespace Go.Proofs.YtjdfgalcnbnobaaGreatDoor
open Go.RowKit

end Go.Proofs.YtjdfgalcnbnobaaGreatDoor
namespace Go.Proofs.YtjdfgalcnbnobaaGreatDoor
open Go.RowKit

end Go.Proofs.YtjdfgalcnbnobaaGreatDoor
namespace Go.Proofs.YtjdfgalcnbnobaaGreatDoor
open Go.RowKit

theorem part_snoc {L : List UInt8} {a i : Nat} {c : UInt8} (ha : a ≤ i) (h : L[i]? = some c) : (L.take (i + 1)).drop a = (L.take i).drop a ++ [c] := by
  have hi : i < L.length := (List.getElem?_eq_some_iff.1 h).1
  rw [take_snoc h, List.drop_append_of_le_length (by simp; omega)]
end Go.Proofs.YtjdfgalcnbnobaaGreatDoor
namespace Go.Proofs.YtjdfgalcnbnobaaGreatDoor
open Go.RowKit

/-- An attribute: its type, its kind, its value. A name: its relative names. -/
abbrev At := ByteArray × Int × ByteArray
abbrev Nm := List (List At)
def atV (a : At) : Value := .agg #[.string a.1, .int .i64 a.2.1, .string a.2.2]
def atCells (a : At) : List Value := [.string a.1, .int .i64 a.2.1, .string a.2.2]
def noAt : At := (⟨#[]⟩, 0, ⟨#[]⟩)

/-! ### The first error of a name -/
theorem takeD {α : Type} (l : List α) (k : Nat) (h : k < l.length) (d : α) : l.take (k + 1) = l.take k ++ [l.getD k d] := by
  rw [List.take_add_one, List.getD_eq_getElem?_getD, List.getElem?_eq_getElem h]; rfl
/-! ### When names match -/
def fa (a : At) : ByteArray × ByteArray := (a.1, foldS a.2.2)
def MatchR (r s : List At) : Prop := r.length = s.length ∧ (∀ x ∈ r, ∃ y ∈ s, fa y = fa x) ∧ (∀ y ∈ s, ∃ x ∈ r, fa x = fa y)
instance (r s : List At) : Decidable (MatchR r s) := by unfold MatchR; infer_instance
theorem MatchR.refl (r : List At) : MatchR r r := ⟨rfl, fun x h => ⟨x, h, rfl⟩, fun x h => ⟨x, h, rfl⟩⟩
theorem MatchR.symm {r s : List At} (h : MatchR r s) : MatchR s r := ⟨h.1.symm, h.2.2, h.2.1⟩
theorem MatchR.trans {r s t : List At} (h : MatchR r s) (k : MatchR s t) : MatchR r t := by
  refine ⟨h.1.trans k.1, fun x hx => ?_, fun x hx => ?_⟩
  · obtain ⟨y, hy, e1⟩ := h.2.1 x hx
    obtain ⟨z, hz, e2⟩ := k.2.1 y hy
    exact ⟨z, hz, e2.trans e1⟩
  · obtain ⟨y, hy, e1⟩ := k.2.2 x hx
    obtain ⟨z, hz, e2⟩ := h.2.2 y hy
    exact ⟨z, hz, e2.trans e1⟩
/-- The relative names of b match the first ones of n. -/
def WithinN (n b : Nm) : Prop := b.length ≤ n.length ∧ ∀ i, i < b.length → MatchR (n.getD i []) (b.getD i [])
def MatchN (n m : Nm) : Prop := n.length = m.length ∧ ∀ i, i < n.length → MatchR (n.getD i []) (m.getD i [])
instance (n b : Nm) : Decidable (WithinN n b) := by unfold WithinN; infer_instance
instance (n b : Nm) : Decidable (MatchN n b) := by unfold MatchN; infer_instance
theorem MatchN.refl (n : Nm) : MatchN n n := ⟨rfl, fun _ _ => MatchR.refl _⟩
theorem MatchN.symm {n m : Nm} (h : MatchN n m) : MatchN m n := ⟨h.1.symm, fun i hi => (h.2 i (by rw [h.1]; exact hi)).symm⟩
theorem MatchN.within {n m : Nm} (h : MatchN n m) : WithinN n m := ⟨Nat.le_of_eq h.1.symm, fun i hi => h.2 i (by rw [h.1]; exact hi)⟩
theorem WithinN.trans {a b c : Nm} (h : WithinN a b) (k : WithinN b c) : WithinN a c := ⟨Nat.le_trans k.1 h.1, fun i hi => (h.2 i (Nat.lt_of_lt_of_le hi k.1)).trans (k.2 i hi)⟩
theorem getD_take {α : Type} (l : List α) (k i : Nat) (h : i < k) (d : α) : (l.take k).getD i d = l.getD i d := by
  rw [List.getD_eq_getElem?_getD, List.getD_eq_getElem?_getD, List.getElem?_take_of_lt h]
theorem within_take (n b : Nm) (h : b.length ≤ n.length) : WithinN n b ↔ MatchN (n.take b.length) b := by
  have e : (n.take b.length).length = b.length := by rw [List.length_take]; omega
  constructor
  · intro k
    exact ⟨e, fun i hi => by rw [e] at hi; rw [getD_take _ _ _ hi]; exact k.2 i hi⟩
  · intro k
    exact ⟨h, fun i hi => by have := k.2 i (by rw [e]; exact hi); rw [getD_take _ _ _ hi] at this; exact this⟩
end Go.Proofs.YtjdfgalcnbnobaaGreatDoor
