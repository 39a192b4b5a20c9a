/-
  The contract of the reference's EncodeList: the encodings of general names one after the other, or the first error.
  Slices of general names of a call's own: one that grows, and one that is made and filled.
  The contracts of gname's checkNumber, EncodeList and DecodeList.
  The contract of the reference's DecodeList.
  The contracts of the reference's ExactGenerals, for two rows of the same general names, and of the law's short.
  The contracts of the reference's SameGeneral, MatchGeneral and WithinGeneral.
  What the laws over gname want of the program's functions, each said as a proposition; and that the law's awake then returns true.
  The walk of the law GnameCheck: for every general name and every slice of ints it returns true, and leaves all that was there as it was.
  How long encodings of made general names are, and the reference's One. Nothing is claimed of the program here but what One returns.
  The contract of the reference's SameName at names whose relative names hold each other's attributes.
-/
import Derived.Test.YtbpdenfiifcfcaaGreatDoorKax
import Derived.Test.YtbpdenfiifcfcaaGreatDoorKbe
import Derived.Test.YtbpdenfiifcfcaaGreatDoorKay
import Derived.Test.YtbpdenfiifcfcaaGreatDoorKaq
import Derived.Test.YtbpdenfiifcfcaaGreatDoorKal
import Derived.Test.YtbpdenfiifcfcaaGreatDoorKbd
import Derived.Test.YtbpdenfiifcfcaaGreatDoorKaj
import Derived.Lib.QuietBelow
import Derived.BigQuiet
import Derived.Test.YtbpdenfiifcfcaaGreatDoorKar
import Derived.Test.YtbpdenfiifcfcaaGreatDoorKac
import Derived.Test.YtbpdenfiifcfcaaGreatDoorKbb
import Derived.Deep.CutRange
import Derived.Deep.DeepCutAuto
import Derived.Deep.RegionWith
namespace Go.Proofs.YtbpdenfiifcfcaaGreatDoor
open Go.RowKit

end Go.Proofs.YtbpdenfiifcfcaaGreatDoor
namespace Go.Proofs.YtbpdenfiifcfcaaGreatDoor
open Go.RowKit

def noS : Value := .slice none 0 0
def gCells (g : Gn) (s : Value) : List Value := [.int .i64 g.1, .string (strOf g.2.1), s]
def gsCells : List Gn → List Value → List Value
  | g :: l, s :: ss => gCells g s ++ gsCells l ss
  | _, _ => []
theorem gsCells_snoc : ∀ (l : List Gn) (ss : List Value) (g : Gn) (s : Value), ss.length = l.length → gsCells (l ++ [g]) (ss ++ [s]) = gsCells l ss ++ gCells g s
  | [], [], g, s, _ => by simp [gsCells, gCells]
  | x :: l, y :: ss, g, s, h => by
    have := gsCells_snoc l ss g s (by simpa using h)
    simp only [List.cons_append, gsCells, this, List.append_assoc]
theorem gs_at : ∀ (l : List Gn) (ss : List Value) (i j : Nat), ss.length = l.length → i < l.length → j < 3 → (gsCells l ss)[i * 3 + j]? = (gCells (l.getD i noG) (ss.getD i noS))[j]?
  | [], _, i, _, _, h, _ => absurd h (Nat.not_lt_zero _)
  | g :: l, s :: ss, 0, j, _, _, hj => by
    show (gCells g s ++ gsCells l ss)[0 * 3 + j]? = (gCells g s)[j]?
    rw [List.getElem?_append_left (by simp [gCells]; omega)]
    simp
  | g :: l, s :: ss, i + 1, j, h, hi, hj => by
    have := gs_at l ss i j (by simpa using h) (by simpa using hi) hj
    show (gCells g s ++ gsCells l ss)[(i + 1) * 3 + j]? = _
    rw [List.getElem?_append_right (by simp [gCells]; omega), show (i + 1) * 3 + j - (gCells g s).length = i * 3 + j by simp [gCells]; omega, this]
    rfl
theorem gCells_one (g : Gn) (a : Option Addr) (n c : Nat) : ∀ u ∈ gCells g (.slice a n c), u.oneCell' = true := by
  intro u hu
  simp only [gCells, List.mem_cons, List.not_mem_nil, or_false] at hu
  rcases hu with rfl | rfl | rfl <;> rfl
theorem gInfo : (Tryz.prog.info? 29).map (fun i => (i.zero, i.size, i.bytes)) = some (some (.agg #[.int .i64 0, .string ⟨#[]⟩, .slice none 0 0]), 3, 48) := by kernel_rfl
/-- The slice value v, of memory from block B on, holds the general names l, each name in memory of its own. -/
def OwnG (w : World) (B : Nat) (v : Value) (l : List Gn) : Prop := ∃ ss : List Value, ss.length = l.length ∧ w.ownsRow B 29 3 v l.length (gsCells l ss) ∧ ∀ i, i < l.length → OwnN w B (ss.getD i noS) (l.getD i noG).2.2
theorem OwnG.nil (w : World) (B : Nat) : OwnG w B (.slice none 0 0) [] := ⟨[], rfl, World.ownsRow_nil _ _ _ _, fun _ hi => absurd hi (Nat.not_lt_zero _)⟩
theorem OwnG.below {w w' : World} {B : Nat} {v : Value} {l : List Gn} (h : OwnG w B v l) (hb : Below w.heap.size w w') : OwnG w' B v l := by
  obtain ⟨ss, h1, h2, h3⟩ := h
  exact ⟨ss, h1, own_below h2 hb, fun i hi => (h3 i hi).below hb⟩
theorem OwnG.lies {w : World} {B : Nat} {v : Value} {l : List Gn} (h : OwnG w B v l) : ∃ a c, v = .slice a l.length c ∧ l.length ≤ c ∧ GLies w a l := by
  obtain ⟨ss, h1, h2, h3⟩ := h
  have hh := h2
  rcases h2.2 with ⟨hv, h0⟩ | ⟨g, cap, cur, hv, _, _, hcap, _⟩
  · exact ⟨none, 0, by rw [hv, h0], by omega, .inl (List.eq_nil_of_length_eq_zero h0)⟩
  · refine ⟨_, cap, hv, hcap, .inr ⟨g, 0, rfl, fun i hi => ?_⟩⟩
    rw [hv] at hh
    obtain ⟨a', c', e, q3, q⟩ := (h3 i hi).lies
    have hc : ∀ j, j < 3 → w.cell? ⟨g, i * 3 + j, none⟩ = (gCells (l.getD i noG) (ss.getD i noS))[j]? := fun j hj => by
      rw [World.ownsRow.cellAt hh (i * 3 + j) (by omega)]
      exact gs_at l ss i j h1 hi hj
    rw [Nat.zero_add]
    refine ⟨hc 0 (by omega), hc 1 (by omega), a', c', ?_, q3, q⟩
    rw [hc 2 (by omega), ← e]
    rfl
theorem OwnN.keptG {w w' : World} {B B' k m : Nat} {v u : Value} {n : Nm} {xs : List Value} (h : OwnN w B u n) (ho : w.ownsRow B' 29 k v m xs) (hg : w.grownBy w' v.ownBlock) : OwnN w' B u n := by
  obtain ⟨vs, h1, h2, h3⟩ := h
  exact ⟨vs, h1, World.ownsRow.kept h2 hg (rows_apart h2 ho (by decide)), fun i hi => World.ownsRow.kept (h3 i hi) hg (rows_apart (h3 i hi) ho (by decide))⟩
/-- One general name more. -/
theorem OwnG.snoc {w w' : World} {B : Nat} {v v' s : Value} {l : List Gn} {g : Gn} {ss : List Value} (h1 : ss.length = l.length) (h2 : w.ownsRow B 29 3 v l.length (gsCells l ss)) (h3 : ∀ i, i < l.length → OwnN w B (ss.getD i noS) (l.getD i noG).2.2)
    (hr : OwnN w B s g.2.2) (hg : w.grownBy w' v.ownBlock) (h4 : w'.ownsRow B 29 3 v' (l.length + 1) (gsCells l ss ++ gCells g s)) : OwnG w' B v' (l ++ [g]) := by
  refine ⟨ss ++ [s], by simp [h1], by rw [List.length_append, gsCells_snoc l ss g s h1]; exact h4, fun i hi => ?_⟩
  by_cases hlt : i < l.length
  · rw [getD_snoc_lt _ _ _ _ (by omega), getD_snoc_lt _ _ _ _ hlt]
    exact (h3 i hlt).keptG h2 hg
  · rw [List.length_append, List.length_singleton] at hi
    obtain rfl : i = l.length := by omega
    rw [getD_snoc_eq, ← h1, getD_snoc_eq]
    exact hr.keptG h2 hg
theorem OwnG.base {w : World} {B B' : Nat} {v : Value} {l : List Gn} (h : OwnG w B v l) (hB : B' ≤ B) : OwnG w B' v l := by
  obtain ⟨ss, h1, h2, h3⟩ := h
  exact ⟨ss, h1, own_base h2 hB, fun i hi => (h3 i hi).base hB⟩
theorem OwnG.apart {w w' : World} {B g : Nat} {T : TypeId} {v : Value} {l : List Gn} {cs : Array Value} {f : Nat × Nat} (h : OwnG w B v l) (hc : w.heap[g]? = some (.cells cs T f)) (h0 : T ≠ 29) (h1 : T ≠ 86) (h2 : T ≠ 84) (hg : But g w w') : OwnG w' B v l := by
  obtain ⟨ss, q1, q2, q3⟩ := h
  exact ⟨ss, q1, own_apart q2 hc h0 hg, fun i hi => (q3 i hi).apart hc h1 h2 hg⟩
/-! ### A row that is made and filled -/
def GRow (w : World) (B G n : Nat) (l : List Gn) : Prop := ∃ cs : Array Value, w.heap[G]? = some (.cells cs 29 (0, 0)) ∧ cs.size = n * 3 ∧ ∃ ss : List Value, ss.length = l.length ∧
  (∀ i j, i < l.length → j < 3 → cs[i * 3 + j]? = (gCells (l.getD i noG) (ss.getD i noS))[j]?) ∧ ∀ i, i < l.length → OwnN w B (ss.getD i noS) (l.getD i noG).2.2
theorem GRow.below {w w' : World} {B G n : Nat} {l : List Gn} (h : GRow w B G n l) (hb : Below w.heap.size w w') : GRow w' B G n l := by
  obtain ⟨cs, h1, h2, ss, h3, h4, h5⟩ := h
  exact ⟨cs, (hb.block G (Array.getElem?_eq_some_iff.1 h1).1).trans h1, h2, ss, h3, h4, fun i hi => (h5 i hi).below hb⟩
theorem GRow.lies {w : World} {B G n : Nat} {l : List Gn} (h : GRow w B G n l) : GLies w (some ⟨G, 0, none⟩) l := by
  obtain ⟨cs, h1, h2, ss, h3, h4, h5⟩ := h
  refine .inr ⟨G, 0, rfl, fun i hi => ?_⟩
  obtain ⟨a', c', e, q3, q⟩ := (h5 i hi).lies
  have hc : ∀ j, j < 3 → w.cell? ⟨G, i * 3 + j, none⟩ = (gCells (l.getD i noG) (ss.getD i noS))[j]? := fun j hj => by
    rw [Lib.cell_of_heap h1]; exact h4 i j hi hj
  rw [Nat.zero_add]
  refine ⟨hc 0 (by omega), hc 1 (by omega), a', c', ?_, q3, q⟩
  rw [hc 2 (by omega), ← e]
  rfl
theorem gset_three {w : World} {G k : Nat} {cs : Array Value} {T : TypeId} {x y z : Value} (h : w.heap[G]? = some (.cells cs T (0, 0))) :
    (((w.setCell ⟨G, k, none⟩ x).setCell ⟨G, k + 1, none⟩ y).setCell ⟨G, k + 2, none⟩ z).heap[G]? = some (.cells (((cs.setIfInBounds k x).setIfInBounds (k + 1) y).setIfInBounds (k + 2) z) T (0, 0)) := by
  simp [World.setCell, Array.getElem?_modify, h]
theorem GRow.put {w : World} {B G n k : Nat} {l : List Gn} {g : Gn} {s : Value} (h : GRow w B G n l) (hk : k = l.length) (hn : k < n) (ho : OwnN w B s g.2.2) :
    GRow (((w.setCell ⟨G, k * 3, none⟩ (.int .i64 g.1)).setCell ⟨G, k * 3 + 1, none⟩ (.string (strOf g.2.1))).setCell ⟨G, k * 3 + 2, none⟩ s) B G n (l ++ [g]) := by
  obtain ⟨cs, h1, h2, ss, h3, h4, h5⟩ := h
  have hs := ((But.set G (k * 3) w (.int .i64 g.1)).next (But.set G (k * 3 + 1) _ (.string (strOf g.2.1)))).next (But.set G (k * 3 + 2) _ s)
  refine ⟨_, gset_three h1, by simp [h2], ss ++ [s], by simp [h3], fun i j hi hj => ?_, fun i hi => ?_⟩
  · by_cases hlt : i < l.length
    · rw [getD_snoc_lt _ _ _ _ hlt, getD_snoc_lt _ _ _ _ (by omega), ← h4 i j hlt hj]
      rw [Array.getElem?_setIfInBounds_ne (by omega), Array.getElem?_setIfInBounds_ne (by omega), Array.getElem?_setIfInBounds_ne (by omega)]
    · rw [List.length_append, List.length_singleton] at hi
      obtain rfl : i = l.length := by omega
      rw [getD_snoc_eq, ← h3, getD_snoc_eq, h3, ← hk]
      have hsz : k * 3 + 2 < cs.size := by omega
      rcases (by omega : j = 0 ∨ j = 1 ∨ j = 2) with rfl | rfl | rfl
      · rw [Array.getElem?_setIfInBounds_ne (by omega), Array.getElem?_setIfInBounds_ne (by omega), Nat.add_zero, Array.getElem?_setIfInBounds_self_of_lt (by omega)]; rfl
      · rw [Array.getElem?_setIfInBounds_ne (by omega), Array.getElem?_setIfInBounds_self_of_lt (by simp; omega)]; rfl
      · rw [Array.getElem?_setIfInBounds_self_of_lt (by simp; omega)]; rfl
  · by_cases hlt : i < l.length
    · rw [getD_snoc_lt _ _ _ _ hlt, getD_snoc_lt _ _ _ _ (by omega)]
      obtain ⟨vs, q1, q2, q3⟩ := h5 i hlt
      exact ⟨vs, q1, own_apart q2 h1 (by decide) hs, fun i hi => own_apart (q3 i hi) h1 (by decide) hs⟩
    · rw [List.length_append, List.length_singleton] at hi
      obtain rfl : i = l.length := by omega
      rw [getD_snoc_eq, ← h3, getD_snoc_eq]
      exact ho.apart h1 (by decide) (by decide) hs
theorem GRow.cell {w : World} {B G n : Nat} {l : List Gn} (h : GRow w B G n l) (j : Nat) (hj : j < n * 3) : (∃ x, w.cell? ⟨G, j, none⟩ = some x) ∧ w.frozen? ⟨G, j, none⟩ = false := by
  obtain ⟨cs, h1, h2, _⟩ := h
  exact ⟨⟨cs[j], by rw [Lib.cell_of_heap h1]; exact Array.getElem?_eq_getElem (by omega)⟩, Lib.frozen_of_heap h1 j⟩
end Go.Proofs.YtbpdenfiifcfcaaGreatDoor
namespace Go.Proofs.YtbpdenfiifcfcaaGreatDoor
open Go.RowKit

theorem Bld.below {B b : Nat} {l : List UInt8} {w w' : World} (h : Bld B b l w) (hb : Below w.heap.size w w') : Bld B b l w' := by
  have key : ∀ p, Lib.BuilderAt 118 5 B b p (Lib.byteCells l) w → Lib.BuilderAt 118 5 B b p (Lib.byteCells l) w' := fun p hq => by
    have hlt := hq.lt
    obtain ⟨hB, v, hv, hown, hne⟩ := hq
    exact ⟨hB, v, (hb.block b hlt).trans hv, World.ownsRow.kept (row := none) hown ⟨hb.os, hb.tape, hb.output, hb.size, fun k hk _ => hb.block k hk⟩ (Classical.em _), hne⟩
  exact h.elim (fun x => .inl (key _ x)) (fun x => .inr (key _ x))
theorem Bld.fresh (w : World) : Bld w.heap.size w.heap.size [] (w.alloc (.cells #[.pointer none, .slice none 0 0] 118)) := Lib.fresh_isBuilder _ _ w
end Go.Proofs.YtbpdenfiifcfcaaGreatDoor
namespace Go.Proofs.YtbpdenfiifcfcaaGreatDoor
open Go.RowKit

end Go.Proofs.YtbpdenfiifcfcaaGreatDoor
namespace Go.Proofs.YtbpdenfiifcfcaaGreatDoor
open Go.RowKit

end Go.Proofs.YtbpdenfiifcfcaaGreatDoor
namespace Go.Proofs.YtbpdenfiifcfcaaGreatDoor
open Go.RowKit


theorem box_two (w : World) (x0 x1 x2 y0 y1 y2 : Value) (T : TypeId) :
    ((w.alloc (.cells #[x0, x1, x2] T)).alloc (.cells #[y0, y1, y2] T)).cell? ⟨w.heap.size, 0, none⟩ = some x0 ∧ ((w.alloc (.cells #[x0, x1, x2] T)).alloc (.cells #[y0, y1, y2] T)).cell? ⟨w.heap.size, 1, none⟩ = some x1 ∧ ((w.alloc (.cells #[x0, x1, x2] T)).alloc (.cells #[y0, y1, y2] T)).cell? ⟨w.heap.size, 2, none⟩ = some x2 ∧
    ((w.alloc (.cells #[x0, x1, x2] T)).alloc (.cells #[y0, y1, y2] T)).cell? ⟨w.heap.size + 1, 0, none⟩ = some y0 ∧ ((w.alloc (.cells #[x0, x1, x2] T)).alloc (.cells #[y0, y1, y2] T)).cell? ⟨w.heap.size + 1, 1, none⟩ = some y1 ∧ ((w.alloc (.cells #[x0, x1, x2] T)).alloc (.cells #[y0, y1, y2] T)).cell? ⟨w.heap.size + 1, 2, none⟩ = some y2 ∧
    w.heap.size + 1 < ((w.alloc (.cells #[x0, x1, x2] T)).alloc (.cells #[y0, y1, y2] T)).heap.size := by
  have h1 := heap_alloc_new (w.alloc (.cells #[x0, x1, x2] T)) (.cells #[y0, y1, y2] T)
  rw [show (w.alloc (.cells #[x0, x1, x2] T)).heap.size = w.heap.size + 1 by simp] at h1
  obtain ⟨f0, f1, f2, f3⟩ := three_facts h1
  obtain ⟨g0, g1, g2, g3⟩ := three_facts (heap_alloc_new w (.cells #[x0, x1, x2] T))
  exact ⟨(World.cell?_alloc_old _ _ _ (Nat.ne_of_lt g3)).trans g0, (World.cell?_alloc_old _ _ _ (Nat.ne_of_lt g3)).trans g1, (World.cell?_alloc_old _ _ _ (Nat.ne_of_lt g3)).trans g2, f0, f1, f2, f3⟩

end Go.Proofs.YtbpdenfiifcfcaaGreatDoor
namespace Go.Proofs.YtbpdenfiifcfcaaGreatDoor
open Go.RowKit

end Go.Proofs.YtbpdenfiifcfcaaGreatDoor
namespace Go.Proofs.YtbpdenfiifcfcaaGreatDoor
open Go.RowKit

theorem ShG.small {g : Gn} (h : ShG g) : SmallN g.2.2 := ShN.small h.2
theorem madeN_small {n : Nm} (h : MadeN n) : SmallN n := small_of_sp (spN_of_made h) (by omega)
end Go.Proofs.YtbpdenfiifcfcaaGreatDoor
namespace Go.Proofs.YtbpdenfiifcfcaaGreatDoor
open Go.RowKit

theorem encG_small {con : Bool} {k : Int} {t : List UInt8} {n : Nm} (ht : t.length ≤ 64) (hn : MadeN n) : (encG con k t n).size ≤ 660 := by
  unfold encG
  split
  · rename_i h
    split
    · rename_i h4
      subst h4
      rw [chkG_dir] at h
      have hz : chkN n = 0 := by
        by_cases h0 : t = []
        · rwa [if_pos h0] at h
        · rw [if_neg h0] at h; cases h
      have h1 := encV_le (spN_of_made hn)
      rw [show encV n = encN n by unfold encV; rw [if_pos hz]] at h1
      have h2 := wrapStr_le 164 (encN n).data.toList
      have e : (encN n).data.toList.length = (encN n).size := rfl
      show (wrapStr 164 (encN n).data.toList).size ≤ 660
      omega
    · have h2 := wrapStr_le (128 + k) (strOf t).data.toList
      have e : (strOf t).data.toList.length = t.length := by rw [strOf_list]
      show (wrapStr (128 + k) (strOf t).data.toList).size ≤ 660
      omega
  · exact Nat.zero_le _
theorem decG_small {con : Bool} {T : Int} {ct : ByteArray} (h : ct.size ≤ 150000) : SmallN (decG con T ct).2.2.2 := by
  have h0 : SmallN [] := ⟨by decide, fun i hi => absurd hi (Nat.not_lt_zero _)⟩
  unfold decG
  split
  · split <;> exact h0
  · split
    · split
      · exact decN_small (by omega)
      · exact h0
    · exact h0
end Go.Proofs.YtbpdenfiifcfcaaGreatDoor
namespace Go.Proofs.YtbpdenfiifcfcaaGreatDoor
open Go.RowKit

set_option maxRecDepth 100000 in
set_option maxHeartbeats 4000000 in
theorem same_core (a0 b0 : Option Addr) (c d n : Nat) (r s : Nm) (w : World) (h1 : RLies w a0 r) (h2 : RLies w b0 s) (hn : n = r.length) (hm : n = s.length) (hr : SmallN r) (hl : ∀ i, i < n → (s.getD i []).length = (r.getD i []).length) (hin : ∀ i, i < n → ∀ x ∈ r.getD i [], x ∈ s.getD i []) :
    Calls Tryz.prog 69 #[.agg #[.slice a0 n c], .agg #[.slice b0 n d]] w fun e w' => e = .returned (.bool true) ∧ Below w.heap.size w w' := by
  obtain ⟨W, hW⟩ : ∃ W, W = (w.alloc (.cells #[.slice a0 n c] 27)).alloc (.cells #[.slice b0 n d] 27) := ⟨_, rfl⟩
  have hwr : (w.alloc (.cells #[.slice a0 n c] 27)).alloc (.cells #[.slice b0 n d] 27) = W := hW.symm
  have hb : Below w.heap.size w W := by rw [hW]; exact belowTwo w _ _
  have k0 : W.cell? ⟨w.heap.size, 0, none⟩ = some (.slice a0 n c) := by
    rw [hW, World.cell?_alloc_old _ _ _ (by simp), cell_of_row _ _ 0 _ _ _ (heap_alloc_new w _)]; rfl
  have k1 : W.cell? ⟨w.heap.size + 1, 0, none⟩ = some (.slice b0 n d) := by
    rw [hW]
    have := cell_of_row (w := (w.alloc (.cells #[.slice a0 n c] 27)).alloc (.cells #[.slice b0 n d] 27)) (w.heap.size + 1) 0 #[.slice b0 n d] 27 (0, 0) (by have := heap_alloc_new (w.alloc (.cells #[.slice a0 n c] 27)) (.cells #[.slice b0 n d] 27); simpa using this)
    rw [this]; rfl
  have HB := Lib.hid hb
  have H1 := Lib.hid (h1.below hb)
  have H2 := Lib.hid (h2.below hb)
  have HN := Lib.hid hn
  have HR := Lib.hid hr
  have HM := Lib.hid hm
  have HLL := Lib.hid hl
  have HIN := Lib.hid hin
  have hns : n ≤ 1000000 := by rw [hn]; exact hr.1
  have hd0 : ((n : Int) != (n : Int)) = false := by simp
  clear h1 h2 hn hr hW hb hm hl hin
  go_enter Tryz.func69, Tryz.ntmps69
  go_wp2_with fail
  have K0 := Lib.hid k0
  have K1 := Lib.hid k1
  obtain ⟨g, hg⟩ : ∃ g, g = w.heap.size := ⟨_, rfl⟩
  have HG := Lib.hid hg
  rw [← hg] at K0 K1 ⊢
  clear hwr k0 k1 hd0 hg
  go_loopw [21] (fun i wr => ∃ k : Nat, k ≤ n ∧ i = .int .i64 k ∧ Below W.heap.size W wr) (fun i _ => n - (intOf i).toNat)
  case atStart => exact ⟨0, Nat.zero_le _, rfl, Below.refl _ _⟩
  case round =>
    obtain ⟨wo, hwo⟩ : ∃ wo, wo = wr := ⟨_, rfl⟩
    subst hwo
    obtain ⟨k, hk, rfl, hb⟩ := hrel
    have HBR := Lib.hid hb
    clear hb
    by_cases hlt : k < n
    · have hd : decide ((k : Int) < (n : Int)) = true := by simp; omega
      obtain ⟨b, o, rfl, hb, a1, c1, e1, _, hL1⟩ := H1.out.at k (by rw [← HN.out]; exact hlt)
      have f1 : wo.cell? ⟨b, o + k, none⟩ = _ := (HBR.out.cell (p := ⟨b, o + k, none⟩) hb).trans e1
      obtain ⟨b', o', rfl, hb', a2, c2, e2, _, hL2⟩ := H2.out.at k (by rw [← HM.out]; exact hlt)
      have f2 : wo.cell? ⟨b', o' + k, none⟩ = _ := (HBR.out.cell (p := ⟨b', o' + k, none⟩) hb').trans e2
      have q0 := (HBR.out.cell (p := ⟨g, 0, none⟩) (block_lt K0.out)).trans K0.out
      have q1 := (HBR.out.cell (p := ⟨g + 1, 0, none⟩) (block_lt K1.out)).trans K1.out
      have hs1 := HR.out.2 k (by rw [← HN.out]; exact hlt)
      obtain ⟨x, hx⟩ : ∃ x, x = r.getD k [] := ⟨_, rfl⟩
      obtain ⟨z, hzz⟩ : ∃ z, z = s.getD k [] := ⟨_, rfl⟩
      have hlz := HLL.out k hlt
      have hiz := HIN.out k hlt
      rw [← hx] at f1 hs1 hL1 hlz hiz
      rw [← hzz] at f2 hL2 hlz hiz
      have HIZ := Lib.hid hiz
      have HLZ := Lib.hid hlz
      obtain ⟨p, hp⟩ : ∃ p, p = x.length := ⟨_, rfl⟩
      rw [← hp] at f1
      rw [hlz, ← hp] at f2
      have hpz : p ≤ 1000000 := by rw [hp]; exact hs1.1
      have HL1 := Lib.hid hL1
      have HL2 := Lib.hid hL2
      have HP := Lib.hid hp
      have HF1 := Lib.hid e1
      have HF2 := Lib.hid e2
      have hdp : ((p : Int) != (p : Int)) = false := by simp
      rw [← hx, ← hp] at HF1
      rw [← hzz, hlz, ← hp] at HF2
      clear e1 e2 hb hb' hs1 hL1 hL2 hx hp hlz hiz hzz
      go_wp2_with fail
      go_region
      go_wp2_with fail
      clear q0 q1 f1 f2 hdp
      have HBD := Lib.hid (HBR.out.trans ((Below.refl wo.heap.size wo).drew.mono HBR.out.size))
      go_loopw [43] (fun i ws => ∃ j : Nat, j ≤ p ∧ i = .int .i64 j ∧ Below W.heap.size W ws) (fun i _ => p - (intOf i).toNat)
      case atStart => exact ⟨0, Nat.zero_le _, rfl, HBD.out⟩
      case round =>
        obtain ⟨ws, hws⟩ : ∃ ws, ws = wr := ⟨_, rfl⟩
        subst hws
        obtain ⟨j, hj, rfl, hb⟩ := hrel
        have HBS := Lib.hid hb
        clear hb
        by_cases hjl : j < p
        · have hdj : decide ((j : Int) < (p : Int)) = true := by simp; omega
          have q1 := (HBS.out.cell (p := ⟨g + 1, 0, none⟩) (block_lt K1.out)).trans K1.out
          have f2 := (HBS.out.cell (p := ⟨b', o' + k, none⟩) (block_lt HF2.out)).trans HF2.out
          obtain ⟨b3, o3, rfl, h3, m0, m1, m2⟩ := HL1.out.at j (by rw [← HP.out]; exact hjl)
          have hmem := HIZ.out _ (memD x j (by rw [← HP.out]; exact hjl) noAt)
          obtain ⟨m, hm1, hm2⟩ := List.getElem_of_mem hmem
          have hm3 : z.getD m noAt = x.getD j noAt := by rw [List.getD_eq_getElem?_getD, List.getElem?_eq_getElem hm1]; exact hm2
          have hmp : m < p := by have := HLZ.out; have := HP.out; omega
          have HM3 := Lib.hid hm3
          have l0 := (HBS.out.cell (p := ⟨b3, o3 + j * 3, none⟩) h3).trans m0
          have l1 := (HBS.out.cell (p := ⟨b3, o3 + j * 3 + 1, none⟩) h3).trans m1
          have l2 := (HBS.out.cell (p := ⟨b3, o3 + j * 3 + 2, none⟩) h3).trans m2
          generalize x.getD j noAt = y at l0 l1 l2 HM3
          obtain ⟨t, kd, v⟩ := y
          simp only at l0 l1 l2
          obtain ⟨G, hG⟩ : ∃ G, G = ws.heap.size := ⟨_, rfl⟩
          obtain ⟨V, hV⟩ : ∃ V, V = ws.alloc (.cells #[.string t, .int .i64 kd, .string v] 86) := ⟨_, rfl⟩
          have hbV : Below ws.heap.size ws V := by rw [hV]; exact belowNew ws _
          obtain ⟨y0, y1, y2, _, _, _, yl⟩ := at_facts (show V.heap[G]? = _ from by rw [hV, hG]; exact heap_alloc_new ws _)
          have HBV := Lib.hid (below_next HBS.out hbV)
          have HY0 := Lib.hid y0
          have HY1 := Lib.hid y1
          have HY2 := Lib.hid y2
          have q1' := (hbV.cell (p := ⟨g + 1, 0, none⟩) (block_lt q1)).trans q1
          have f2' := (hbV.cell (p := ⟨b', o' + k, none⟩) (block_lt f2)).trans f2
          have HVE := Lib.hid hV.symm
          have HGE := Lib.hid hG
          clear m0 m1 m2 h3 hmem hm1 hm2 hm3 hbV hV hG q1 f2
          go_upto_region 11 with fail
          rw [HVE.out, ← HGE.out]
          clear l0 l1 l2
          go_wp2_with fail
          clear q1' f2' y0 y1 y2
          go_loopw [8, 53] (fun f i wt => ∃ (q : Nat) (B : Bool), q ≤ p ∧ f = .bool B ∧ i = .int .i64 q ∧ (m < q → B = true) ∧ Below V.heap.size V wt) (fun _ i _ => p - (intOf i).toNat)
          case atStart => exact ⟨0, false, Nat.zero_le _, rfl, rfl, fun h => absurd h (Nat.not_lt_zero _), Below.refl _ _⟩
          case round =>
            obtain ⟨wt, hwt⟩ : ∃ wt, wt = wr := ⟨_, rfl⟩
            subst hwt
            obtain ⟨q, B, hq, rfl, rfl, hB, hb⟩ := hrel
            have HBT := Lib.hid hb
            have HBB := Lib.hid hB
            clear hb hB
            by_cases hql : q < p
            · have hdq : decide ((q : Int) < (p : Int)) = true := by simp; omega
              obtain ⟨b4, o4, rfl, h4, n0, n1, n2⟩ := HL2.out.at q (by rw [HLZ.out, ← HP.out]; exact hql)
              have hWt : Below W.heap.size W wt := HBV.out.trans (HBT.out.mono HBV.out.size)
              have r0 := (hWt.cell (p := ⟨b4, o4 + q * 3, none⟩) h4).trans n0
              have r1 := (hWt.cell (p := ⟨b4, o4 + q * 3 + 1, none⟩) h4).trans n1
              have r2 := (hWt.cell (p := ⟨b4, o4 + q * 3 + 2, none⟩) h4).trans n2
              have HQM := Lib.hid (show m = q → z.getD q noAt = (t, kd, v) from fun e => by rw [← e]; exact HM3.out)
              generalize z.getD q noAt = y at r0 r1 r2 HQM
              obtain ⟨t5, kd5, v5⟩ := y
              simp only at r0 r1 r2
              have i0 := (HBT.out.cell (p := ⟨G, 0, none⟩) (block_lt HY0.out)).trans HY0.out
              have i1 := (HBT.out.cell (p := ⟨G, 1, none⟩) (block_lt HY1.out)).trans HY1.out
              have i2 := (HBT.out.cell (p := ⟨G, 2, none⟩) (block_lt HY2.out)).trans HY2.out
              obtain ⟨W2, hW2⟩ : ∃ W2, W2 = wt.alloc (.cells #[.string t5, .int .i64 kd5, .string v5] 86) := ⟨_, rfl⟩
              have hb2 : Below wt.heap.size wt W2 := by rw [hW2]; exact belowNew wt _
              obtain ⟨G2, hG2⟩ : ∃ G2, G2 = wt.heap.size := ⟨_, rfl⟩
              obtain ⟨j0, j1, j2, _, _, _, _⟩ := at_facts (show W2.heap[G2]? = _ from by rw [hW2, hG2]; exact heap_alloc_new wt _)
              have i0 := (hb2.cell (p := ⟨G, 0, none⟩) (block_lt i0)).trans i0
              have i1 := (hb2.cell (p := ⟨G, 1, none⟩) (block_lt i1)).trans i1
              have i2 := (hb2.cell (p := ⟨G, 2, none⟩) (block_lt i2)).trans i2
              have HB2 := Lib.hid (below_next HBT.out hb2)
              have HWE2 := Lib.hid hW2.symm
              have HGE2 := Lib.hid hG2
              clear h4 n0 n1 n2 hWt hb2 hW2 hG2
              go_upto_region 15 with fail
              rw [HWE2.out, ← HGE2.out]
              clear r0 r1 r2
              cases B with
              | true =>
                go_wp2_with fail
                go_roundw
                case rel => exact ⟨q + 1, true, by omega, rfl, by go_num, fun _ => rfl, HB2.out⟩
                case measure => simp [intOf]; omega
              | false =>
                by_cases he : (t5, kd5, v5) = (t, kd, v)
                · obtain ⟨rfl, rfl, rfl⟩ : t5 = t ∧ kd5 = kd ∧ v5 = v := by simpa using he
                  clear he
                  go_wp2_with fail
                  go_roundw
                  case rel => exact ⟨q + 1, true, by omega, rfl, by go_num, fun _ => rfl, HB2.out⟩
                  case measure => simp [intOf]; omega
                · have hne : ¬ m = q := fun e => he (HQM.out e)
                  have hmq : m < q + 1 → m < q := fun h => by omega
                  go_wp2_with fail
                  all_goals first
                    | (exact ⟨⟨q + 1, false, by omega, rfl, by go_num, fun h => HBB.out (hmq h), HB2.out⟩, by simp [intOf]; omega⟩)
                    | (exact ⟨⟨q + 1, true, by omega, rfl, by go_num, fun _ => rfl, HB2.out⟩, by simp [intOf]; omega⟩)
                    | (exact absurd (show (t5, kd5, v5) = (t, kd, v) from by rename_i e1 e2 e3; rw [toList_inj.1 e1, e2, toList_inj.1 e3]) he)
                    | (rename_i e1 e2 e3; subst e2; exact ⟨⟨_, _, _, _, _, _, _, _, _, _, _, _, _, ⟨q + 1, false, by omega, rfl, by go_num, fun h => HBB.out (hmq h), HB2.out⟩, rfl⟩, by simp [intOf]; omega⟩)
            · have hdq : decide ((q : Int) < (p : Int)) = false := by simp; omega
              obtain rfl : B = true := HBB.out (by omega)
              go_wp2_with fail
              go_roundw
              case rel => exact ⟨j + 1, by omega, by go_num, HBV.out.trans (HBT.out.mono HBV.out.size)⟩
              case measure => simp [intOf]; omega
        · have hdj : decide ((j : Int) < (p : Int)) = false := by simp; omega
          go_wp2_with fail
          go_roundw
          case rel => exact ⟨k + 1, by omega, by go_num, HBS.out⟩
          case measure => simp [intOf]; omega
    · have hd : decide ((k : Int) < (n : Int)) = false := by simp; omega
      go_wp2_with fail
      go_ret
      exact ⟨rfl, below_next HB.out HBR.out⟩
end Go.Proofs.YtbpdenfiifcfcaaGreatDoor
