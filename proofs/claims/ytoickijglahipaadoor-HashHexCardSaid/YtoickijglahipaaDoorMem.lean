/-
  Small laws on worlds: what a table holds, and that it still holds behind a call that leaves old memory alone. Nothing is claimed of the program here.
-/
import Derived.Test.YtoickijglahipaaDoorRow
import Derived.Deep.QuietTactic
import Derived.BigQuiet
import Derived.RegionTactic
import Derived.ChangeAlike
import Derived.LoopTactic
namespace Go.Proofs.YtoickijglahipaaDoor
open Go.RowKit

/-- Block b holds the words of L as its first 64 cells. -/
def Holds (w : World) (b : Nat) (L : List (BitVec 32)) : Prop := ∀ i, i < 64 → w.cell? ⟨b, i, none⟩ = some (.int .u32 (u32 (at32 L i)))
theorem Holds.at {w : World} {b : Nat} {L : List (BitVec 32)} (h : Holds w b L) (i : Nat) (hi : i < 64) : w.cell? ⟨b, i, none⟩ = some (.int .u32 (u32 (at32 L i))) := h i hi
theorem Holds.lt {w : World} {b : Nat} {L : List (BitVec 32)} (h : Holds w b L) : b < w.heap.size := block_lt_of_cell (h 0 (by omega))
theorem Holds.below {w w' : World} {b B : Nat} {L : List (BitVec 32)} (h : Holds w b L) (hb : Below B w w') (hB : b < B) : Holds w' b L := fun i hi => (hb.cell (p := ⟨b, i, none⟩) hB).trans (h i hi)
theorem Holds.old {w w' : World} {b : Nat} {L : List (BitVec 32)} (h : Holds w b L) (hb : Below w.heap.size w w') : Holds w' b L := h.below hb h.lt
theorem Holds.of_row {w : World} {b : Nat} {L : List (BitVec 32)} {t : TypeId} {fr : Nat × Nat} (h : w.heap[b]? = some (.cells (wordRow L) t fr)) : Holds w b L := fun i hi => by
  rw [cell_of_row w b i _ t fr h, wordRow_get L i hi]

/-- A call that only draws, for a caller that has drawn. -/
theorem quiet_drawn {P : Program} {f : FuncId} {args : Array Value} {w : World} {n : Nat} {v : Value}
    (h : ∀ W : World, Calls P f args W fun e w' => e = .returned v ∧ W = w') : Calls P f args (w.drewN n) fun e w'' => e = .returned v ∧ ∃ m, w'' = w.drewN m :=
  (h _).mono fun _ _ hh => ⟨hh.1, n, hh.2.symm⟩
theorem quiet_drawn2 {P : Program} {f : FuncId} {args : Array Value} {w : World} {a n : Nat} {v : Value}
    (h : ∀ W : World, Calls P f args W fun e w' => e = .returned v ∧ W = w') : Calls P f args (w.drewN (a + n)) fun e w'' => e = .returned v ∧ ∃ m, w'' = w.drewN (a + m) :=
  (h _).mono fun _ _ hh => ⟨hh.1, n, hh.2.symm⟩

/-- The state in eight cells. -/
abbrev stRow (s : St) : Array Value := #[.int .u32 (u32 s.a), .int .u32 (u32 s.b), .int .u32 (u32 s.c), .int .u32 (u32 s.d), .int .u32 (u32 s.e), .int .u32 (u32 s.f), .int .u32 (u32 s.g), .int .u32 (u32 s.h)]

theorem stRow_one (s : St) : (stRow s).all (·.oneCell') = true := by simp [Value.oneCell']
theorem stRow_size (s : St) : (stRow s).size = 8 := rfl

end Go.Proofs.YtoickijglahipaaDoor
