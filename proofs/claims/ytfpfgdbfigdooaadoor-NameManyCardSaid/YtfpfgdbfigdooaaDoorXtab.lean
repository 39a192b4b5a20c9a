/-
  The two tables of unicode/utf8: what the program's text lays, and that calls which leave old memory alone leave them. Nothing is claimed of the program here.
-/
import Derived.Test.YtfpfgdbfigdooaaDoorXbase
import Derived.Lib.DecodeN
namespace Go.Proofs.YtfpfgdbfigdooaaDoor
open Go.RowKit

/-! ### The tables -/
/-- The two tables of unicode/utf8 lie as the library's text lays them. -/
def Tab (w : World) : Prop :=
  (∀ c, c < 256 → w.cell? ⟨0, c, none⟩ = some (.int .u8 (Lib.firstT c))) ∧
  (∀ i, i < 16 → w.cell? ⟨1, 2 * i, none⟩ = some (.int .u8 (Lib.accLo i)) ∧ w.cell? ⟨1, 2 * i + 1, none⟩ = some (.int .u8 (Lib.accHi i)))
theorem Tab.lt {w : World} (h : Tab w) : 0 < w.heap.size ∧ 1 < w.heap.size :=
  ⟨block_lt_of_cell (h.1 0 (by omega)), block_lt_of_cell (h.2 0 (by omega)).1⟩
theorem Tab.below {w w' : World} (h : Tab w) (hb : Below w.heap.size w w') : Tab w' :=
  ⟨fun c hc => (hb.cell (p := ⟨0, c, none⟩) h.lt.1).trans (h.1 c hc),
   fun i hi => ⟨(hb.cell (p := ⟨1, 2 * i, none⟩) h.lt.2).trans (h.2 i hi).1, (hb.cell (p := ⟨1, 2 * i + 1, none⟩) h.lt.2).trans (h.2 i hi).2⟩⟩
theorem Tab.alloc {w : World} (h : Tab w) (o : Obj) : Tab (w.alloc o) := h.below (belowNew w o)
theorem Tab.drawn {w : World} (h : Tab w) (n : Nat) : Tab (w.drewN n) := h
end Go.Proofs.YtfpfgdbfigdooaaDoor
