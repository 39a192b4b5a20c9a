/-
  Small laws for the texts on object identifiers: a string's bytes at numbers that have been reckoned, slices of numbers and of bytes that a call has made itself. Nothing is claimed of the program here.
  The contracts of strings.Split and strings.Cut at a point of one byte, off the shelf.
-/
import Derived.Test.YtoogfipmdkneoaaDoorJaa
import Derived.Test.YtoogfipmdkneoaaDoorJab
import Derived.Lib.SplitLaws
import Derived.Lib.CutLaws
namespace Go.Proofs.YtoogfipmdkneoaaDoor
open Go.RowKit

/-! ### Rows that a call has made itself -/
def OwnI (w : World) (B : Nat) (v : Value) (a : List Nat) : Prop := w.ownsRow B 3 1 v a.length (a.map icell)
/-- The numbers a lie from the beginning of block g on. -/
def ILie (w : World) (g : Nat) (a : List Nat) : Prop := g < w.heap.size ∧ ∀ j, j < a.length → w.cell? ⟨g, j, none⟩ = some (.int .i64 ((a.getD j 0 : Nat) : Int))
theorem ILie.cell {w : World} {g : Nat} {a : List Nat} (h : ILie w g a) (j : Nat) (hj : j < a.length) : w.cell? ⟨g, j, none⟩ = some (.int .i64 ((a.getD j 0 : Nat) : Int)) := h.2 j hj
theorem ILie.below {w w' : World} {g : Nat} {a : List Nat} (h : ILie w g a) (hb : Below w.heap.size w w') : ILie w' g a :=
  ⟨Nat.lt_of_lt_of_le h.1 hb.size, fun j hj => by
    have e := h.2 j hj
    rw [← e]
    exact hb.cell h.1⟩
theorem ILie.alloc {w : World} {g : Nat} {a : List Nat} (h : ILie w g a) (o : Obj) : ILie (w.alloc o) g a := h.below (belowNew w o)
theorem ILie.drawn {w : World} {g : Nat} {a : List Nat} (h : ILie w g a) (n : Nat) : ILie (w.drewN n) g a := h
theorem OwnI.open {w : World} {B : Nat} {v : Value} {a : List Nat} (h : OwnI w B v a) (ha : a ≠ []) : ∃ g cap, v = .slice (some ⟨g, 0, none⟩) a.length cap ∧ B ≤ g ∧ ILie w g a ∧ a.length ≤ cap := by
  rcases h.2 with ⟨rfl, h0⟩ | ⟨g, cap, cur, rfl, hB, hg, hn, _, hcs, htk⟩
  · exact absurd (List.eq_nil_of_length_eq_zero h0) ha
  · refine ⟨g, cap, rfl, hB, ⟨(Array.getElem?_eq_some_iff.1 hg).1, fun j hj => ?_⟩, hn⟩
    rw [cell_of_row w g j _ _ _ hg]
    have : (cur.toList.take (a.length * 1))[j]? = some (icell (a.getD j 0)) := by rw [htk]; simp [hj]
    rw [List.getElem?_take_of_lt (by omega)] at this
    simpa [icell] using this
theorem own_round {w wr w2 : World} {v v' : Value} {D : List Nat} {y : Nat} {X : Obj} (hown : OwnI wr w.heap.size v D) (hb : Below w.heap.size w wr)
    (hown2 : w2.ownsRow w.heap.size 3 1 v' (D.length + 1) (D.map icell ++ [icell y])) (hgr2 : (wr.alloc X).grownBy w2 v.ownBlock) : OwnI w2 w.heap.size v' (D ++ [y]) ∧ Below w.heap.size w w2 := by
  refine ⟨?_, ?_⟩
  · unfold OwnI
    rw [List.length_append, List.map_append]; exact hown2
  · exact (Below.alloc hb hb.size X).grown hgr2 (by simp; have := hb.size; omega) (fun k e => (World.ownsRow.lt hown k e).1)
theorem intInfo : (Tryd.prog.info? 3).map (fun i => (i.zero, i.size, i.bytes)) = some (some (.int .i64 0), 1, 8) := by kernel_rfl
theorem strInfo : (Tryd.prog.info? 9).map (fun i => (i.zero, i.size, i.bytes)) = some (some (.string ByteArray.empty), 1, 16) := by kernel_rfl
theorem int_made {w : World} {B : Nat} {v : Value} (m : Nat) (h : w.ownsRow B 3 1 v m (madeCells (Value.int .i64 0).cells (m * 1)).toList) : OwnI w B v (List.replicate m 0) := by
  unfold OwnI
  rw [List.length_replicate]
  have e : (madeCells (Value.int .i64 0).cells (m * 1)).toList = (List.replicate m 0).map icell := by
    simp only [madeCells, Value.cells, Nat.mul_one]
    apply List.ext_getElem
    · simp
    · intro i h1 h2
      simp [Nat.mod_one, icell]
  rw [← e]; exact h
theorem int_cell {w : World} {B g n cap : Nat} {l : List Nat} (h : OwnI w B (.slice (some ⟨g, 0, none⟩) n cap) l) (hl : l.length = n) (j : Nat) (hj : j < n) : w.cell? ⟨g, j, none⟩ = some (.int .i64 ((l.getD j 0 : Nat) : Int)) := by
  subst hl
  have := World.ownsRow.cellAt h j (by omega)
  rw [this]
  simp [hj, icell]
theorem int_free {w : World} {B g n cap : Nat} {l : List Nat} (h : OwnI w B (.slice (some ⟨g, 0, none⟩) n cap) l) (hl : l.length = n) (j : Nat) : w.frozen? ⟨g, j, none⟩ = false := by
  subst hl
  exact World.ownsRow.frozenAt h j
theorem int_set {w : World} {B g n cap : Nat} {l : List Nat} (h : OwnI w B (.slice (some ⟨g, 0, none⟩) n cap) l) (hl : l.length = n) (j : Nat) (b : Nat) :
    OwnI (w.setCell ⟨g, j, none⟩ (.int .i64 ((b : Nat) : Int))) B (.slice (some ⟨g, 0, none⟩) n cap) (l.set j b) := by
  subst hl
  unfold OwnI at h ⊢
  have := (World.ownsRow.stored h j (icell b)).1
  rw [List.length_set, List.map_set]
  exact this
theorem filled_set (A : List Nat) (n b : Nat) (h : A.length < n) : (A ++ List.replicate (n - A.length) 0).set A.length b = (A ++ [b]) ++ List.replicate (n - (A ++ [b]).length) 0 := by
  have e : n - A.length = (n - (A ++ [b]).length) + 1 := by simp; omega
  rw [e, List.replicate_succ, List.set_append_right _ _ (Nat.le_refl _)]
  simp
theorem filled_len (A : List Nat) (n : Nat) (h : A.length ≤ n) : (A ++ List.replicate (n - A.length) 0).length = n := by simp; omega
theorem OwnI.form {w : World} {B : Nat} {v : Value} {a : List Nat} (h : OwnI w B v a) : ∃ p cap, v = .slice p a.length cap := by
  rcases h.2 with ⟨rfl, h0⟩ | ⟨g, cap, cur, rfl, _⟩
  · exact ⟨none, 0, by rw [h0]⟩
  · exact ⟨_, cap, rfl⟩
/-- The cells of a new array of strings. -/
theorem row_pcs (W : World) (xs : List ByteArray) (N : Nat) (k : Nat) (hk : k < xs.length) : (W.alloc (.cells (Lib.cellsOf xs N) 9)).cell? ⟨W.heap.size, k, none⟩ = some (.string (xs.getD k ⟨#[]⟩)) := by
  rw [cell_of_row _ _ k _ _ _ (heap_alloc_new W _)]
  unfold Lib.cellsOf
  rw [List.getElem?_toArray, List.getElem?_append_left (by simpa using hk)]
  simp [hk]
end Go.Proofs.YtoogfipmdkneoaaDoor
namespace Go.Proofs.YtoogfipmdkneoaaDoor
open Go.RowKit

/-- The pieces of a text between the bytes c. -/
def pcsS (c : UInt8) (s : ByteArray) : List ByteArray := Lib.splitB ⟨#[c]⟩ 0 (Lib.countB s ⟨#[c]⟩) s
theorem pcsS_spl (c : UInt8) (s : ByteArray) : Spl c s.data.toList ((pcsS c s).map (·.data.toList)) := split_pieces c s
theorem pcsS_len (c : UInt8) (s : ByteArray) : (pcsS c s).length = Lib.countB s ⟨#[c]⟩ + 1 := Lib.splitB_all ⟨#[c]⟩ (by show 1 ≤ 1; omega) 0 _ s rfl
theorem count_le (s : ByteArray) (c : UInt8) : Lib.countB s ⟨#[c]⟩ ≤ s.size := Lib.countB_le ⟨#[c]⟩ (by show 1 ≤ 1; omega) s.size s (Nat.le_refl _)
theorem pcs_cell (c : UInt8) (s : ByteArray) (W : World) (k : Nat) (hk : k < (pcsS c s).length) : (W.alloc (.cells ((pcsS c s).map Value.string).toArray 9)).cell? ⟨W.heap.size, k, none⟩ = some (.string ((pcsS c s).getD k ⟨#[]⟩)) := row_strs W _ k hk

/-- What Cut answers. -/
def cutV (s : ByteArray) (c : UInt8) : Value :=
  if Lib.indexByte s.data.toList c = -1 then .tuple #[.string s, .string ⟨#[]⟩, .bool false]
  else .tuple #[.string (s.extract 0 (Lib.indexByte s.data.toList c).toNat), .string (s.extract ((Lib.indexByte s.data.toList c).toNat + 1) s.size), .bool true]
end Go.Proofs.YtoogfipmdkneoaaDoor
