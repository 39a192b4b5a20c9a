/-
  Nothing is left of this text.
  The contracts of checkAttribute and what it calls (the closure, slices.ContainsFunc): the first error of an attribute that stands behind others.
  Nothing is left of this text.
  The table of short types and the contracts of typeOf and kindOf.
  Nothing is left of this text.
  Nothing is left of this text.
  Nothing is left of this text.
  Nothing is left of this text.
  Nothing is left of this text.
  The contract of foldedSet: a map whose keys are the pairs of type and folded value of a relative name's attributes.
  Nothing is left of this text.
  Nothing is left of this text.
  Nothing is left of this text.
  Nothing is left of this text.
  Nothing is left of this text.
  Nothing is left of this text.
  Rows of bytes that can be read and written: what a conversion of a string lays, and stores into it. Nothing is claimed of the program here.
  Nothing is left of this text.
  The contract of the laws' spelled: a name in another spelling, which matches the one handed in; of the memory that was there only the deck's block has changed.
  Nothing is left of this text.
  Nothing is left of this text.
  Nothing is left of this text.
  Nothing is left of this text.
  Names that a law holds in blocks of its own; the calls of Match and awake in a region that draws.
  What stands at the beginning of a string of elements, as numbers: the error, the length of the header, the length of the contents; and the errors within an element. Nothing is claimed of the program here.
  Nothing is left of this text.
  Nothing is left of this text.
  The contract of tlv.totalLength: how long the strings of a slice are together, if not longer than an element may be.
  Nothing is left of this text.
  Nothing is left of this text.
  Nothing is left of this text.
  Nothing is left of this text.
  Nothing is left of this text.
  Nothing is left of this text.
  Nothing is left of this text.
  The contracts of tlv.One and of the reference's One: the element that a string consists of, or the error; nothing that was there before the call has changed.
  What List answers, as a function of the string; the contracts of tlv.List and of the reference's List.
  Nothing is left of this text.
  Nothing is left of this text.
  Nothing is left of this text.
  Nothing is left of this text.
  Nothing is left of this text.
  Plain laws: a slice of bytes that lies in memory, converted to a string; a new row of bytes lies. Nothing is claimed of the program here.
  The contract of the reference's Wrap: the same answer as that of tlv.Wrap.
  The contract of the reference's EncodeOID: the contents of the object identifier that the text is, if it is one.
  Nothing is left of this text.
  Nothing is left of this text.
  The contracts of tlv.Ascending and of the reference's Ascending: whether no element's Raw is less than the one before it.
  The contract of the reference's Order: the strings in ascending order, one after the other; nothing that was there before the call has changed.
  Nothing is left of this text.
  Nothing is left of this text.
  The contract of certpathmade's Damage: a string that is at most one byte longer; nothing below the deck has changed.
  The contracts of certpathmade's Damage and replaced, with the deck kept.
-/
import Derived.Test.YtphgpakfdhdklaaDoorAai
import Derived.Deep.CutRange
import Derived.Test.YtphgpakfdhdklaaDoorAaa
import Derived.Lib.SplitLaws
import Derived.Lib.CutLaws
import Derived.Maps.OwnSet
import Derived.Maps.RangeWalk
import Derived.Maps.Ext
import Derived.Lib.SlMapEqual
import Derived.DeepKeys4
import Derived.ProofKit
import Derived.Laws.IdiomRangeMap
import Derived.Lib.QuietBelow
import Derived.BigQuiet
import Derived.Laws.IdiomStrings
import Derived.Laws.AppendOwnNone
import Derived.Deep.DeepCutAuto
import Derived.Deep.RegionHeld3
import Derived.Shelf.Strings.Builder1
import Derived.Test.YtphgpakfdhdklaaDoorChecked
import Derived.Deep.LoopGhost
import Derived.Lib.Builder
import Derived.Sort.OwnSorted
import Derived.Lib.Join
import Derived.Laws.Cover1

namespace Go.Proofs.YtphgpakfdhdklaaDoor
open Go.RowKit

def SmallA (a : At) : Prop := a.1.size ≤ 1000000 ∧ a.2.2.size ≤ 1000000
def SmallR (r : List At) : Prop := r.length ≤ 1000000 ∧ ∀ i, i < r.length → SmallA (r.getD i noAt)
def SmallN (n : Nm) : Prop := n.length ≤ 1000000 ∧ ∀ i, i < n.length → SmallR (n.getD i [])
end Go.Proofs.YtphgpakfdhdklaaDoor

namespace Go.Proofs.YtphgpakfdhdklaaDoor
open Go.RowKit

/-- The short types and their object identifiers. -/
def SH : List (ByteArray × ByteArray) := [(⟨#[67, 78]⟩, ⟨#[50, 46, 53, 46, 52, 46, 51]⟩), (⟨#[67]⟩, ⟨#[50, 46, 53, 46, 52, 46, 54]⟩), (⟨#[76]⟩, ⟨#[50, 46, 53, 46, 52, 46, 55]⟩), (⟨#[79]⟩, ⟨#[50, 46, 53, 46, 52, 46, 49, 48]⟩), (⟨#[79, 85]⟩, ⟨#[50, 46, 53, 46, 52, 46, 49, 49]⟩), (⟨#[68, 67]⟩, ⟨#[48, 46, 57, 46, 50, 51, 52, 50, 46, 49, 57, 50, 48, 48, 51, 48, 48, 46, 49, 48, 48, 46, 49, 46, 50, 53]⟩), (⟨#[69]⟩, ⟨#[49, 46, 50, 46, 56, 52, 48, 46, 49, 49, 51, 53, 52, 57, 46, 49, 46, 57, 46, 49]⟩)]
/-- The type that a word stands for, and whether it stands for one. -/
noncomputable def typ (x : ByteArray) : ByteArray × Bool := match SH.find? (fun p => decide (p.1 = x)) with | some p => (p.2, true) | none => (x, oidB x)
end Go.Proofs.YtphgpakfdhdklaaDoor





namespace Go.Proofs.YtphgpakfdhdklaaDoor
open Go.RowKit Go.Maps

theorem laidOut : laidOutB Tryd.prog = true := by kernel_rfl
end Go.Proofs.YtphgpakfdhdklaaDoor






namespace Go.Proofs.YtphgpakfdhdklaaDoor
open Go.RowKit

/-- The bytes l lie from the beginning of block g on, and may be written. -/
def BL (w : World) (g : Nat) (l : List UInt8) : Prop := g < w.heap.size ∧ ∀ j, j < l.length → w.cell? ⟨g, j, none⟩ = some (.int .u8 (((l.getD j 0).toNat : Nat) : Int)) ∧ w.frozen? ⟨g, j, none⟩ = false
theorem addr_ne {g h i j : Nat} (e : g ≠ h) : (⟨g, i, none⟩ : Addr) ≠ ⟨h, j, none⟩ := fun k => e (by injection k)
theorem addr_ne2 {g i j : Nat} (e : i ≠ j) : (⟨g, i, none⟩ : Addr) ≠ ⟨g, j, none⟩ := fun k => e (by injection k)
theorem getD_set_same {α : Type} {l : List α} {j : Nat} (h : j < l.length) (v d : α) : (l.set j v).getD j d = v := by
  rw [List.getD_eq_getElem?_getD]; simp [h]
theorem getD_set_other {α : Type} {l : List α} {i j : Nat} (h : i ≠ j) (v d : α) : (l.set i v).getD j d = l.getD j d := by
  rw [List.getD_eq_getElem?_getD, List.getD_eq_getElem?_getD, List.getElem?_set_ne h]
theorem BL.put {w : World} {g : Nat} {l : List UInt8} (h : BL w g l) {j : Nat} (hj : j < l.length) (b : UInt8) : BL (w.setCell ⟨g, j, none⟩ (.int .u8 ((b.toNat : Nat) : Int))) g (l.set j b) := by
  refine ⟨by simpa using h.1, fun i hi => ?_⟩
  rw [List.length_set] at hi
  rw [World.frozen?_setCell]
  refine ⟨?_, (h.2 i hi).2⟩
  by_cases e : j = i
  · subst e
    rw [World.cell?_setCell_same _ _ _ (h.2 j hj).1, getD_set_same hj]
  · rw [World.cell?_setCell_other _ _ _ _ (addr_ne2 e), getD_set_other e]
    exact (h.2 i hi).1
theorem BL.other {w : World} {g : Nat} {l : List UInt8} (h : BL w g l) {k : Nat} (hk : k ≠ g) (j : Nat) (v : Value) : BL (w.setCell ⟨k, j, none⟩ v) g l := by
  refine ⟨by simpa using h.1, fun i hi => ?_⟩
  rw [World.frozen?_setCell, World.cell?_setCell_other _ _ _ _ (addr_ne hk)]
  exact h.2 i hi
theorem BL.drew {w : World} {g : Nat} {l : List UInt8} (h : BL w g l) : BL w.drew g l := h
theorem BL.new (w : World) (s : ByteArray) (cap : Nat) (t : TypeId) : BL (w.alloc (.cells (bytesRow s cap) t ((bytesRow s cap).size, (bytesRow s cap).size + 1))) w.heap.size s.data.toList := by
  refine ⟨by simp, fun j hj => ?_⟩
  have hj2 : j < s.data.size := hj
  refine ⟨?_, ?_⟩
  · rw [cell_of_row _ _ j _ _ _ (heap_alloc_new w _)]
    unfold bytesRow
    rw [Array.getElem?_append_left (by simpa using hj2)]
    rw [List.getD_eq_getElem?_getD]
    simp
    exact ⟨s.data[j], Array.getElem?_eq_getElem hj2, by rw [Array.getElem?_eq_getElem hj2]; rfl⟩
  · rw [World.frozen?_alloc_mark]
    have : (bytesRow s cap).size ≥ s.data.size := by unfold bytesRow; simp
    have h2 : ¬ (bytesRow s cap).size ≤ j := by omega
    rw [decide_eq_false h2]; rfl

theorem BL.text {w : World} {g : Nat} {l : List UInt8} (h : BL w g l) (n cap : Nat) (hn : n = l.length) : (convert 36 9 (.slice (some ⟨g, 0, none⟩) n cap)).run Tryd.prog w = .ok (.string (strOf l)) w := by
  subst hn
  refine run_convert_bytes_back w _ _ _ ⟨g, 0, none⟩ cap l Tryd.underlying36 Tryd.underlying5 Tryd.underlying9 (fun j hj => ?_)
  have hadd : (⟨g, 0, none⟩ : Addr).add j = ⟨g, j, none⟩ := by unfold Addr.add; split <;> simp_all
  rw [hadd, (h.2 j hj).1, List.getD_eq_getElem?_getD, List.getElem?_eq_getElem hj]
  rfl

theorem BL.below {w w' : World} {g : Nat} {l : List UInt8} (h : BL w g l) (hb : Below w.heap.size w w') : BL w' g l :=
  ⟨Nat.lt_of_lt_of_le h.1 hb.size, fun j hj => ⟨(hb.cell (p := ⟨g, j, none⟩) h.1).trans (h.2 j hj).1, (hb.frozen (p := ⟨g, j, none⟩) h.1).trans (h.2 j hj).2⟩⟩
end Go.Proofs.YtphgpakfdhdklaaDoor

namespace Go.Proofs.YtphgpakfdhdklaaDoor
open Go.RowKit

theorem next3 (p : Nat) (a : Option Addr) (cap : Nat) (zs : List Int) (k : Nat) (w : World) (h : DeckAt w p a cap zs k) (hk2 : k < 30000) :
    Calls Tryd.prog 13 #[.pointer (some ⟨p, 0, none⟩), .int .i64 3] w fun e w' => ∃ r k' : Nat, r < 3 ∧ e = .returned (.int .i64 (r : Int)) ∧ DeckAt w' p a cap zs k' ∧ k' ≤ k + 1 ∧ But p w w' :=
  next_any p a cap zs k 3 w h hk2 (by omega) (by omega)

end Go.Proofs.YtphgpakfdhdklaaDoor




namespace Go.Proofs.YtphgpakfdhdklaaDoor
open Go.RowKit

theorem deck_up {w : World} {p : Nat} {a : Option Addr} {cap : Nat} {zs : List Int} {k : Nat} (h : DeckAt w p a cap zs k) : DeckAt w.drew p a cap zs k := h.below (Below.refl _ w).drew
/-- A name that can be read: its slice lies in block q. -/
def HoldAt (V : World) (q : Nat) (a : Option Addr) (N c : Nat) (n : Nm) : Prop := V.cell? ⟨q, 0, none⟩ = some (.slice a N c) ∧ N = n.length ∧ N ≤ c ∧ RLies V a n ∧ SmallN n
theorem HoldAt.below {w w' : World} {q N c : Nat} {a : Option Addr} {n : Nm} (h : HoldAt w q a N c n) (hb : Below w.heap.size w w') : HoldAt w' q a N c n :=
  ⟨(hb.cell (p := ⟨q, 0, none⟩) (block_lt h.1)).trans h.1, h.2.1, h.2.2.1, h.2.2.2.1.below hb, h.2.2.2.2⟩
end Go.Proofs.YtphgpakfdhdklaaDoor
namespace Go.Proofs.YtphgpakfdhdklaaDoor
open Go.RowKit

/-- The number that k bytes from place o on are, the most significant one first. -/
def be (b : ByteArray) (o : Nat) : Nat → Nat
  | 0 => 0
  | k + 1 => 256 * be b o k + u8at b (o + k)
end Go.Proofs.YtphgpakfdhdklaaDoor


namespace Go.Proofs.YtphgpakfdhdklaaDoor
open Go.RowKit

/-- At the address lie the strings ss. -/
def Lies (w : World) (a : Option Addr) (ss : List ByteArray) : Prop := ss = [] ∨ ∃ b o, a = some ⟨b, o, none⟩ ∧ ∀ i, i < ss.length → w.cell? ⟨b, o + i, none⟩ = some (.string (ss.getD i ByteArray.empty))
/-- The slice value v reads as the strings ss. -/
def Reads (w : World) (v : Value) (ss : List ByteArray) : Prop := ∃ a cap, v = .slice a ss.length cap ∧ Lies w a ss
theorem Lies.old {w w' : World} {a : Option Addr} {ss : List ByteArray} (h : Lies w a ss) (hb : Below w.heap.size w w') : Lies w' a ss := by
  rcases h with h | ⟨b, o, rfl, h⟩
  · exact Or.inl h
  · exact Or.inr ⟨b, o, rfl, fun i hi => (hb.cell (p := ⟨b, o + i, none⟩) (block_lt_of_cell (h i hi))).trans (h i hi)⟩
theorem Reads.old {w w' : World} {v : Value} {ss : List ByteArray} (h : Reads w v ss) (hb : Below w.heap.size w w') : Reads w' v ss := by
  obtain ⟨a, cap, rfl, h⟩ := h
  exact ⟨a, cap, rfl, h.old hb⟩
theorem Lies.at {w : World} {a : Option Addr} {ss : List ByteArray} (h : Lies w a ss) (k : Nat) (hk : k < ss.length) : ∃ b o, a = some ⟨b, o, none⟩ ∧ w.cell? ⟨b, o + k, none⟩ = some (.string (ss.getD k ByteArray.empty)) := by
  rcases h with h | ⟨b, o, h1, h2⟩
  · rw [h] at hk; exact absurd hk (Nat.not_lt_zero _)
  · exact ⟨b, o, h1, h2 k hk⟩

end Go.Proofs.YtphgpakfdhdklaaDoor







namespace Go.Proofs.YtphgpakfdhdklaaDoor
open Go.RowKit

theorem heap_keep {w : World} {g : Nat} {x : Obj} (h : w.heap[g]? = some x) (o : Obj) : (w.alloc o).heap[g]? = some x := by
  have hlt : g < w.heap.size := by
    rcases Nat.lt_or_ge g w.heap.size with h' | h'
    · exact h'
    · simp [Array.getElem?_eq_none h'] at h
  show (w.heap.push o)[g]? = _
  rw [Array.getElem?_push, if_neg (Nat.ne_of_lt hlt)]
  exact h
end Go.Proofs.YtphgpakfdhdklaaDoor
namespace Go.Proofs.YtphgpakfdhdklaaDoor
open Go.RowKit

/-- An element: identifier octet, contents, the whole of it. -/
abbrev El := Nat × ByteArray × ByteArray
def elCells (e : El) : List Value := [.int .i64 ((e.1 : Nat) : Int), .string e.2.1, .string e.2.2]
end Go.Proofs.YtphgpakfdhdklaaDoor





namespace Go.Proofs.YtphgpakfdhdklaaDoor
open Go.RowKit

theorem run_convert_lies {P : Program} {src dst e : TypeId} (hs : P.underlying src = some (.slice e)) (he : P.underlying e = some (.int .u8)) (hd : P.underlying dst = some .string) {w : World} {a : Option Addr} {cap : Nat} {l : List UInt8} (h : BLies w a l) {w' : World} (hb : Below w.heap.size w w') :
    (convert src dst (.slice a l.length cap)).run P w' = .ok (.string ⟨l.toArray⟩) w' := by
  cases a with
  | none =>
    rcases h with rfl | ⟨b, o, h, _⟩
    · rw [List.length_nil, run_convert_bytes_string w' src dst e none 0 cap hs he hd]
      unfold Conv.bytesToString
      simp
      rfl
    · cases h
  | some ad =>
    refine run_convert_bytes_back w' src dst e ad cap l hs he hd (fun j hj => ?_)
    rcases h with rfl | ⟨b, o, h, hc⟩
    · exact absurd hj (Nat.not_lt_zero _)
    · obtain rfl := Option.some.inj h
      have hadd : (⟨b, o, none⟩ : Addr).add j = ⟨b, o + j, none⟩ := by unfold Addr.add; split <;> simp_all
      rw [hadd, hb.cell (p := ⟨b, o + j, none⟩) (block_lt_of_cell (hc j hj))]
      exact hc j hj
theorem row_lies (W : World) (g : Nat) (hg : g = W.heap.size) (l : List UInt8) (cs : Array Value) (hcs : cs = (l.map bcell).toArray) : BLies (W.alloc (.cells cs 5)) (some ⟨g, 0, none⟩) l := by
  subst hg hcs
  refine .inr ⟨_, _, rfl, fun i hi => ?_⟩
  rw [Lib.cell_of_heap (heap_alloc_new W _)]
  simp [hi]
end Go.Proofs.YtphgpakfdhdklaaDoor
namespace Go.Proofs.YtphgpakfdhdklaaDoor
open Go.RowKit

theorem row_conv (W : World) (g k : Nat) (hg : g = W.heap.size) (L : List UInt8) (hk : k = L.length) (cs : Array Value) (hcs : cs = (L.map bcell).toArray) :
    (convert 36 9 (.slice (some ⟨g, 0, none⟩) k k)).run Tryd.prog (W.alloc (.cells cs 5)) = .ok (.string ⟨L.toArray⟩) (W.alloc (.cells cs 5)) := by
  subst hk
  exact run_convert_lies (P := Tryd.prog) Tryd.underlying36 Tryd.underlying5 Tryd.underlying9 (row_lies W g hg L cs hcs) (Below.refl _ _)

end Go.Proofs.YtphgpakfdhdklaaDoor
namespace Go.Proofs.YtphgpakfdhdklaaDoor
open Go.RowKit

/-- 128 added to all digits but the last one. -/
def mark : List UInt8 → List UInt8
  | [] => []
  | [x] => [x]
  | x :: y :: r => UInt8.ofNat (128 + x.toNat) :: mark (y :: r)
theorem OwnB.open {w : World} {B : Nat} {v : Value} {l : List UInt8} (h : OwnB 5 w B v l) (hl : l ≠ []) : ∃ g cap, v = .slice (some ⟨g, 0, none⟩) l.length cap ∧ B ≤ g ∧ g < w.heap.size ∧ l.length ≤ cap := by
  rcases h.2 with ⟨rfl, h0⟩ | ⟨g, cap, cur, rfl, hB, hg, hn, _, _, _⟩
  · exact absurd (List.eq_nil_of_length_eq_zero h0) hl
  · exact ⟨g, cap, rfl, hB, (Array.getElem?_eq_some_iff.1 hg).1, hn⟩
theorem OwnB.news {w w' : World} {B g n cap : Nat} {l : List UInt8} (h : OwnB 5 w B (.slice (some ⟨g, 0, none⟩) n cap) l) (hb : Below w.heap.size w w') : ∀ j u, (l.map bcell)[j]? = some u → w'.cell? ((⟨g, 0, none⟩ : Addr).add j) = some u := fun j u hu => by
  rw [← World.ownsRow.cells h rfl j u hu]
  exact hb.cell (p := (⟨g, 0, none⟩ : Addr).add j) (by
    have : ((⟨g, 0, none⟩ : Addr).add j).block = g := by unfold Addr.add; split <;> rfl
    rw [this]; exact (World.ownsRow.lt h g rfl).2)

end Go.Proofs.YtphgpakfdhdklaaDoor


namespace Go.Proofs.YtphgpakfdhdklaaDoor
open Go.RowKit

/-- The bytes of the i-th element. -/
def rawAt (l : List El) (i : Nat) : List UInt8 := (l.getD i (0, ⟨#[]⟩, ⟨#[]⟩)).2.2.data.toList
/-- At the address lie the elements l. -/
def EAt (w : World) (a : Option Addr) (l : List El) : Prop := ∀ k (h : k < l.length), ∃ g, a = some ⟨g, 0, none⟩ ∧ ∀ j, j < 3 → w.cell? ⟨g, k * 3 + j, none⟩ = (elCells l[k])[j]?
theorem EAt.two {w wr : World} {a : Option Addr} {l : List El} (h : EAt w a l) (hb : Below w.heap.size w wr) (k : Nat) (hk1 : 1 ≤ k) (hk : k < l.length) :
    ∃ (g : Nat) (t c t' c' : Value) (x y : ByteArray), a = some ⟨g, 0, none⟩ ∧ wr.cell? ⟨g, k * 3, none⟩ = some t ∧ wr.cell? ⟨g, k * 3 + 1, none⟩ = some c ∧ wr.cell? ⟨g, k * 3 + 2, none⟩ = some (.string x) ∧
      wr.cell? ⟨g, (k - 1) * 3, none⟩ = some t' ∧ wr.cell? ⟨g, (k - 1) * 3 + 1, none⟩ = some c' ∧ wr.cell? ⟨g, (k - 1) * 3 + 2, none⟩ = some (.string y) ∧ rawAt l k = x.data.toList ∧ rawAt l (k - 1) = y.data.toList := by
  obtain ⟨g, rfl, h1⟩ := h k hk
  obtain ⟨g', e, h2⟩ := h (k - 1) (by omega)
  obtain rfl : g = g' := by simpa using e
  have hg : g < w.heap.size := block_lt_of_cell (a := ⟨g, k * 3 + 0, none⟩) (h1 0 (by omega))
  have o1 : ∀ j, j < 3 → wr.cell? ⟨g, k * 3 + j, none⟩ = (elCells l[k])[j]? := fun j hj => (hb.cell (p := ⟨g, k * 3 + j, none⟩) hg).trans (h1 j hj)
  have o2 : ∀ j, j < 3 → wr.cell? ⟨g, (k - 1) * 3 + j, none⟩ = (elCells (l[k - 1]'(by omega)))[j]? := fun j hj => (hb.cell (p := ⟨g, (k - 1) * 3 + j, none⟩) hg).trans (h2 j hj)
  exact ⟨g, _, _, _, _, _, _, rfl, o1 0 (by omega), o1 1 (by omega), o1 2 (by omega), o2 0 (by omega), o2 1 (by omega), o2 2 (by omega),
    by unfold rawAt; rw [List.getD_eq_getElem?_getD, List.getElem?_eq_getElem hk]; rfl, by unfold rawAt; rw [List.getD_eq_getElem?_getD, List.getElem?_eq_getElem (by omega)]; rfl⟩

end Go.Proofs.YtphgpakfdhdklaaDoor
namespace Go.Proofs.YtphgpakfdhdklaaDoor
open Go.RowKit

/-- The slice value v, of memory from block B on, holds the strings D. -/
def OwnS_t (w : World) (B : Nat) (v : Value) (D : List ByteArray) : Prop := w.ownsRow B 9 1 v D.length (D.map Value.string)
theorem OwnS_t.lies {w : World} {B : Nat} {v : Value} {D : List ByteArray} (h : OwnS_t w B v D) : ∃ a c, v = .slice a D.length c ∧ Lies w a D := by
  rcases h.2 with ⟨hv, h0⟩ | ⟨g, cap, cur, hv, _⟩
  · exact ⟨none, 0, by rw [hv, h0], .inl (List.eq_nil_of_length_eq_zero h0)⟩
  · have h' := h
    rw [hv] at h'
    refine ⟨_, cap, hv, .inr ⟨g, 0, rfl, fun i hi => ?_⟩⟩
    rw [Nat.zero_add, World.ownsRow.cellAt h' i (by omega)]
    simp [hi]
end Go.Proofs.YtphgpakfdhdklaaDoor


namespace Go.Proofs.YtphgpakfdhdklaaDoor
open Go.RowKit

theorem deck_alloc {w : World} {p : Nat} {a : Option Addr} {cap : Nat} {zs : List Int} {k : Nat} (h : DeckAt w p a cap zs k) (o : Obj) : DeckAt (w.alloc o) p a cap zs k := by
  obtain ⟨h1, h2, h3, h5, h4⟩ := h
  have hp : p < w.heap.size := (Array.getElem?_eq_some_iff.1 h1).1
  exact ⟨heap_keep h1 o, h2.below ((Below.refl p w).alloc (by omega) o) h3, h3, h5, h4⟩
end Go.Proofs.YtphgpakfdhdklaaDoor
namespace Go.Proofs.YtphgpakfdhdklaaDoor
open Go.RowKit

theorem next_intN (p : Nat) (a : Option Addr) (cap : Nat) (zs : List Int) (k : Nat) (N : Nat) (M : Int) (w : World) (h : DeckAt w p a cap zs k) (hk2 : k < 30000) (hN : 0 < N) (hN2 : N ≤ 1099511627776) (hM : M = (N : Int)) :
    Calls Tryd.prog 13 #[.pointer (some ⟨p, 0, none⟩), .int .i64 M] w fun e w' => ∃ r k' : Nat, r < N ∧ e = .returned (.int .i64 (r : Int)) ∧ DeckAt w' p a cap zs k' ∧ k' ≤ k + 1 ∧ But p w w' := by
  rw [hM]
  exact next_any p a cap zs k N w h hk2 hN hN2
theorem but_any {p : Nat} {w w1 w2 w3 : World} {o : Obj} (h1 : But p w w1) (h2 : But p w1 w2) (h3 : But p (w2.alloc o) w3) : But p w w3 :=
  ((h1.next h2).next (But.of (belowNew w2 o))).next h3
theorem but_drew {p : Nat} {w w' : World} (h : But p w w') : But p w w'.drew := h.next (But.of (Below.refl _ w').drew)
set_option maxRecDepth 100000 in
set_option maxHeartbeats 2000000 in
theorem damage_but (p : Nat) (a : Option Addr) (cap : Nat) (zs : List Int) (k : Nat) (s : ByteArray) (w : World) (h : DeckAt w p a cap zs k) (hk : k ≤ 29990) (h0 : s.size ≠ 0) (hs : s.size ≤ 1099511627000) :
    Calls Tryd.prog 28 #[.pointer (some ⟨p, 0, none⟩), .string s] w fun e w' => ∃ (u : ByteArray) (k' : Nat), e = .returned (.string u) ∧ u.size ≤ s.size + 1 ∧ DeckAt w' p a cap zs k' ∧ k' ≤ k + 3 ∧ But p w w' := by
  have he := nonempty_list h0
  have HD := Lib.hid h
  have HK := Lib.hid hk
  have HP := Lib.hid (show 0 < s.size by omega)
  have HS := Lib.hid hs
  clear h hk h0
  go_enter Tryd.func28, Tryd.ntmps28
  go_wp2_with (first | (go_at_call 13; (with_reducible refine (next_intN p a cap zs k s.size (s.size : Int) _ HD.out (by have := HK.out; omega) HP.out (by have := HS.out; omega) rfl).mono ?_); rintro e w1 ⟨r1, k1, hr1, rfl, hd1, hk1, hb1⟩; have HD1 := Lib.hid hd1; have HK1 := Lib.hid hk1; have HB1 := Lib.hid hb1; clear hd1 hk1 hb1) | (go_at_call 13; (with_reducible refine (next_intN p a cap zs k1 256 256 _ HD1.out (by have := HK.out; have := HK1.out; omega) (by omega) (by omega) rfl).mono ?_); rintro e w2 ⟨r2, k2, hr2, rfl, hd2, hk2, hb2⟩; have HD2 := Lib.hid hd2; have HK2 := Lib.hid hk2; have HB2 := Lib.hid hb2; clear hd2 hk2 hb2; obtain ⟨y, rfl⟩ : ∃ y : UInt8, r2 = y.toNat := ⟨UInt8.ofNat r2, by simp; omega⟩; have hymod : ((y.toNat : Nat) : Int) % 256 = ((y.toNat : Nat) : Int) := (by omega); have hcv := row_conv w2 w2.heap.size 1 rfl [y] rfl #[.int .u8 ((y.toNat : Nat) : Int)] rfl; obtain ⟨C, hC⟩ : ∃ C : ByteArray, C = ⟨[y].toArray⟩ := ⟨_, rfl⟩; rw [← hC] at hcv; have hC1 : C.size = 1 := (by rw [hC]; rfl); clear hC) | (go_at_call 13; (with_reducible refine (next_intN p a cap zs k2 5 5 _ (deck_alloc HD2.out _) (by have := HK.out; have := HK1.out; have := HK2.out; omega) (by omega) (by omega) rfl).mono ?_); rintro e w3 ⟨r3, k3, hr3, rfl, hd3, hk3, hb3⟩; have HD3 := Lib.hid hd3; have HKK := Lib.hid (show k3 ≤ k + 3 by have := HK1.out; have := HK2.out; omega); have HB3 := Lib.hid (but_any HB1.out HB2.out hb3); clear hb3 hd3 hk3))
  · have q1 : (s.extract 0 r1).size = r1 := by rw [ByteArray.size_extract]; omega
    have q2 : (s.extract (r1 + 1) s.size).size = s.size - (r1 + 1) := by rw [ByteArray.size_extract]; omega
    have q3 : (s.extract 0 r1 ++ C).size = r1 + 1 := by rw [ByteArray.size_append, q1, hC1]
    have hs := HS.out
    go_region
    go_wp2_with fail
    go_ret
    exact ⟨_, _, rfl, by rw [ByteArray.size_append, q3, q2]; omega, deck_up HD3.out, HKK.out, but_drew HB3.out⟩
  · have q1 : (s.extract 0 r1).size = r1 := by rw [ByteArray.size_extract]; omega
    have q2 : (s.extract r1 s.size).size = s.size - r1 := by rw [ByteArray.size_extract]; omega
    have q3 : (s.extract 0 r1 ++ C).size = r1 + 1 := by rw [ByteArray.size_append, q1, hC1]
    have hs := HS.out
    go_region
    go_wp2_with fail
    go_ret
    exact ⟨_, _, rfl, by rw [ByteArray.size_append, q3, q2]; omega, deck_up HD3.out, HKK.out, but_drew HB3.out⟩
  · have q1 : (s.extract 0 r1).size = r1 := by rw [ByteArray.size_extract]; omega
    have q2 : (s.extract (r1 + 1) s.size).size = s.size - (r1 + 1) := by rw [ByteArray.size_extract]; omega
    have hs := HS.out
    go_region
    go_wp2_with fail
    go_ret
    exact ⟨_, _, rfl, by rw [ByteArray.size_append, q1, q2]; omega, deck_up HD3.out, HKK.out, but_drew HB3.out⟩
  · have hs := HS.out
    go_ret
    exact ⟨_, _, rfl, by rw [ByteArray.size_extract]; omega, HD3.out, HKK.out, HB3.out⟩
  · go_ret
    exact ⟨_, _, rfl, by omega, HD3.out, HKK.out, HB3.out⟩
end Go.Proofs.YtphgpakfdhdklaaDoor
