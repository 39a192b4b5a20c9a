/-
  Nothing is left of this text.
  Nothing is left of this text.
  A hash.Stream in memory: its 73 cells, and what it stands for. Nothing is claimed of the program here.
  Nothing is left of this text.
  The contract of (*hash.Stream).Write on a stream that is not nil: the bytes are put behind those that it stands for; of what was there before the call only the stream has changed.
  Nothing is left of this text.
  Nothing is left of this text.
  The contracts of hash.Sum, hash.Short, hash.Start and the stream's Len: for every list of strings of fewer than 2^61 bytes together, the SHA-256 of its strings, one after the other.
  Nothing is left of this text.
  The contract of the law package's sanity check: the two examples of the chapter hold.
-/
import Derived.Test.YtbmphhiafepnoaaCad
import Derived.Test.YtbmphhiafepnoaaCaa
import Derived.Laws.CopyRow
import Derived.Deep.OwnRows
import Derived.Deep.RegionHeld3
import Derived.Deep.RegionLaw
import Derived.Lib.Bytes
import Derived.WalkSpells
import Derived.Deep.DeepCutAuto
import Derived.OwnWalk
import Derived.Laws.BytesString


namespace Go.Proofs.Ytbmphhiafepnoaa
open Go.RowKit

def strCells (s : St) (blk : List UInt8) (n : Nat) : List Value := (stRow s).toList ++ (blk.map bcell ++ [.int .i64 (n : Int)])
def strRow (s : St) (blk : List UInt8) (n : Nat) : Array Value := (strCells s blk n).toArray
/-- The state with which the next block is compressed. -/
def nextSt (s : St) (n : Nat) : St := if n < 64 then iv else s

/-- The stream in block p stands for the bytes m. -/
def IsStr (T : TypeId) (w : World) (p : Nat) (m : List UInt8) : Prop := ∃ s blk, blk.length = 64 ∧ w.heap[p]? = some (.cells (strRow s blk m.length) T (0, 0)) ∧
  blk.take (m.length % 64) = m.drop (64 * (m.length / 64)) ∧ nextSt s m.length = chain m (m.length / 64)
theorem IsStr.lt {T : TypeId} {w : World} {p : Nat} {m : List UInt8} (h : IsStr T w p m) : p < w.heap.size := by
  obtain ⟨s, blk, _, hg, _⟩ := h; exact (Array.getElem?_eq_some_iff.1 hg).1
/-! The blocks of a list, and of a longer one. -/
/-! The end of a stream's bytes, padded. -/
end Go.Proofs.Ytbmphhiafepnoaa

namespace Go.Proofs.Ytbmphhiafepnoaa
open Go.RowKit

theorem Holds.grown {w w' : World} {b p : Nat} {L : List (BitVec 32)} (h : Holds w b L) (hg : w.grownBy w' (some p)) (hb : b ≠ p) : Holds w' b L := fun i hi =>
  hg.cell (h i hi) (by simpa using hb)

end Go.Proofs.Ytbmphhiafepnoaa


namespace Go.Proofs.Ytbmphhiafepnoaa
open Go.RowKit

def cat_z (ss : List ByteArray) : List UInt8 := ss.flatMap fun s => s.data.toList
theorem cat_append_z (a b : List ByteArray) : cat_z (a ++ b) = cat_z a ++ cat_z b := by simp [cat_z]
theorem cat_take_succ_z (ss : List ByteArray) (k : Nat) (h : k < ss.length) : cat_z (ss.take (k + 1)) = cat_z (ss.take k) ++ (ss.getD k ByteArray.empty).data.toList := by
  rw [List.take_succ_eq_append_getElem h, cat_append_z]
  simp [cat_z, h]
theorem cat_take_le_z (ss : List ByteArray) (k : Nat) : (cat_z (ss.take k)).length ≤ (cat_z ss).length := by
  have : cat_z ss = cat_z (ss.take k) ++ cat_z (ss.drop k) := by rw [← cat_append_z, List.take_append_drop]
  rw [this, List.length_append]; omega

/-- The slice value v reads as the strings ss. -/
def Reads_z (w : World) (v : Value) (ss : List ByteArray) : Prop := ∃ a cap, v = .slice a ss.length cap ∧ (ss = [] ∨ ∃ b o, a = some ⟨b, o, none⟩ ∧ ∀ i, i < ss.length → w.cell? ⟨b, o + i, none⟩ = some (.string (ss.getD i ByteArray.empty)))
theorem Reads_z.old {w w' : World} {v : Value} {ss : List ByteArray} (h : Reads_z w v ss) (hb : Below w.heap.size w w') : Reads_z w' v ss := by
  obtain ⟨a, cap, rfl, h⟩ := h
  refine ⟨a, cap, rfl, ?_⟩
  rcases h with h | ⟨b, o, rfl, h⟩
  · exact Or.inl h
  · exact Or.inr ⟨b, o, rfl, fun i hi => (hb.cell (p := ⟨b, o + i, none⟩) (block_lt_of_cell (h i hi))).trans (h i hi)⟩

def shaStr (m : List UInt8) : ByteArray := ⟨(sha m).toArray⟩
theorem sha_length (m : List UInt8) : (sha m).length = 32 := by unfold sha; exact stBytes_length _
theorem shaStr_size (m : List UInt8) : (shaStr m).size = 32 := by
  show (sha m).toArray.size = 32
  rw [List.size_toArray, sha_length]
def shortStr (m : List UInt8) : ByteArray := ⟨((sha m).take 16).toArray⟩
theorem short_extract (m : List UInt8) : (shaStr m).extract 0 16 = shortStr m := by
  unfold shaStr shortStr
  apply ByteArray.ext
  simp

end Go.Proofs.Ytbmphhiafepnoaa

namespace Go.Proofs.Ytbmphhiafepnoaa
open Go.RowKit

theorem _root_.Go.RowKit.Below.next {a w w' : World} (h : Below a.heap.size a w) (k : Below w.heap.size w w') : Below a.heap.size a w' := h.trans (k.mono h.size)

theorem reads_row (W : World) (ss : List ByteArray) (E : TypeId) : Reads_z (W.alloc (.cells (ss.map Value.string).toArray E)) (.slice (some ⟨W.heap.size, 0, none⟩) ss.length ss.length) ss :=
  ⟨_, _, rfl, Or.inr ⟨W.heap.size, 0, rfl, fun i hi => by
    rw [Nat.zero_add, cell_of_row _ _ _ _ _ _ (heap_alloc_new W _)]
    simp [hi]⟩⟩
end Go.Proofs.Ytbmphhiafepnoaa
