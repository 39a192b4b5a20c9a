/-
  The contract of certpathmade's attribute: one of twelve attributes; of the memory that was there only the deck's block has changed.
  The contract of foldedSet: a map whose keys are the pairs of type and folded value of a relative name's attributes.
-/
import Derived.Test.YtfpfgdbfigdooaaGreatDoorCao
import Derived.Test.YtfpfgdbfigdooaaGreatDoorCar
import Derived.Test.YtfpfgdbfigdooaaGreatDoorCap
import Derived.Maps.OwnSet
import Derived.Maps.RangeWalk
import Derived.Maps.Ext
import Derived.Lib.SlMapEqual
import Derived.DeepKeys4
import Derived.ProofKit
import Derived.Laws.IdiomRangeMap
namespace Go.Proofs.YtfpfgdbfigdooaaGreatDoor
open Go.RowKit

/-- The twelve attributes of the generator. -/
def madeL : List At := [(⟨#[50, 46, 53, 46, 52, 46, 51]⟩, 12, ⟨#[65, 110, 110]⟩), (⟨#[50, 46, 53, 46, 52, 46, 51]⟩, 19, ⟨#[32, 97, 110, 110]⟩), (⟨#[50, 46, 53, 46, 52, 46, 51]⟩, 12, ⟨#[103, 114, 195, 182, 195, 159, 101]⟩), (⟨#[50, 46, 53, 46, 52, 46, 54]⟩, 19, ⟨#[85, 83]⟩), (⟨#[50, 46, 53, 46, 52, 46, 49, 48]⟩, 19, ⟨#[69, 120, 97, 109, 112, 108, 101, 32, 32, 67, 111, 114, 112]⟩), (⟨#[50, 46, 53, 46, 52, 46, 49, 48]⟩, 12, ⟨#[101, 120, 97, 109, 112, 108, 101, 32, 99, 111, 114, 112]⟩), (⟨#[50, 46, 53, 46, 52, 46, 49, 49]⟩, 22, ⟨#[97, 44, 98, 43, 99, 61, 100, 92, 101]⟩), (⟨#[48, 46, 57, 46, 50, 51, 52, 50, 46, 49, 57, 50, 48, 48, 51, 48, 48, 46, 49, 48, 48, 46, 49, 46, 50, 53]⟩, 22, ⟨#[111, 114, 103]⟩), (⟨#[49, 46, 50, 46, 56, 52, 48, 46, 49, 49, 51, 53, 52, 57, 46, 49, 46, 57, 46, 49]⟩, 22, ⟨#[97, 110, 110, 64, 101, 120, 97, 109, 112, 108, 101, 46, 111, 114, 103]⟩), (⟨#[49, 46, 50, 46, 56, 52, 48, 46, 49, 49, 51, 53, 52, 57, 46, 49, 46, 57, 46, 49]⟩, 22, ⟨#[110, 111, 32, 97, 100, 100, 114, 101, 115, 115]⟩), (⟨#[50, 46, 53, 46, 52, 46, 57, 57]⟩, 19, ⟨#[120]⟩), (⟨#[50, 46, 53, 46, 52, 46, 55]⟩, 12, ⟨#[76]⟩)]
theorem made_cells : atsCells madeL = (.string ⟨#[50, 46, 53, 46, 52, 46, 51]⟩ :: .int .i64 12 :: .string ⟨#[65, 110, 110]⟩ :: .string ⟨#[50, 46, 53, 46, 52, 46, 51]⟩ :: .int .i64 19 :: .string ⟨#[32, 97, 110, 110]⟩ :: .string ⟨#[50, 46, 53, 46, 52, 46, 51]⟩ :: .int .i64 12 :: .string ⟨#[103, 114, 195, 182, 195, 159, 101]⟩ :: .string ⟨#[50, 46, 53, 46, 52, 46, 54]⟩ :: .int .i64 19 :: .string ⟨#[85, 83]⟩ :: .string ⟨#[50, 46, 53, 46, 52, 46, 49, 48]⟩ :: .int .i64 19 :: .string ⟨#[69, 120, 97, 109, 112, 108, 101, 32, 32, 67, 111, 114, 112]⟩ :: .string ⟨#[50, 46, 53, 46, 52, 46, 49, 48]⟩ :: .int .i64 12 :: .string ⟨#[101, 120, 97, 109, 112, 108, 101, 32, 99, 111, 114, 112]⟩ :: .string ⟨#[50, 46, 53, 46, 52, 46, 49, 49]⟩ :: .int .i64 22 :: .string ⟨#[97, 44, 98, 43, 99, 61, 100, 92, 101]⟩ :: .string ⟨#[48, 46, 57, 46, 50, 51, 52, 50, 46, 49, 57, 50, 48, 48, 51, 48, 48, 46, 49, 48, 48, 46, 49, 46, 50, 53]⟩ :: .int .i64 22 :: .string ⟨#[111, 114, 103]⟩ :: .string ⟨#[49, 46, 50, 46, 56, 52, 48, 46, 49, 49, 51, 53, 52, 57, 46, 49, 46, 57, 46, 49]⟩ :: .int .i64 22 :: .string ⟨#[97, 110, 110, 64, 101, 120, 97, 109, 112, 108, 101, 46, 111, 114, 103]⟩ :: .string ⟨#[49, 46, 50, 46, 56, 52, 48, 46, 49, 49, 51, 53, 52, 57, 46, 49, 46, 57, 46, 49]⟩ :: .int .i64 22 :: .string ⟨#[110, 111, 32, 97, 100, 100, 114, 101, 115, 115]⟩ :: .string ⟨#[50, 46, 53, 46, 52, 46, 57, 57]⟩ :: .int .i64 19 :: .string ⟨#[120]⟩ :: .string ⟨#[50, 46, 53, 46, 52, 46, 55]⟩ :: .int .i64 12 :: .string ⟨#[76]⟩ :: [] : List Value) := rfl
theorem made_own (w : World) (B : Nat) (hB : B ≤ w.heap.size) : OwnA (w.alloc (.cells ((.string ⟨#[50, 46, 53, 46, 52, 46, 51]⟩ :: .int .i64 12 :: .string ⟨#[65, 110, 110]⟩ :: .string ⟨#[50, 46, 53, 46, 52, 46, 51]⟩ :: .int .i64 19 :: .string ⟨#[32, 97, 110, 110]⟩ :: .string ⟨#[50, 46, 53, 46, 52, 46, 51]⟩ :: .int .i64 12 :: .string ⟨#[103, 114, 195, 182, 195, 159, 101]⟩ :: .string ⟨#[50, 46, 53, 46, 52, 46, 54]⟩ :: .int .i64 19 :: .string ⟨#[85, 83]⟩ :: .string ⟨#[50, 46, 53, 46, 52, 46, 49, 48]⟩ :: .int .i64 19 :: .string ⟨#[69, 120, 97, 109, 112, 108, 101, 32, 32, 67, 111, 114, 112]⟩ :: .string ⟨#[50, 46, 53, 46, 52, 46, 49, 48]⟩ :: .int .i64 12 :: .string ⟨#[101, 120, 97, 109, 112, 108, 101, 32, 99, 111, 114, 112]⟩ :: .string ⟨#[50, 46, 53, 46, 52, 46, 49, 49]⟩ :: .int .i64 22 :: .string ⟨#[97, 44, 98, 43, 99, 61, 100, 92, 101]⟩ :: .string ⟨#[48, 46, 57, 46, 50, 51, 52, 50, 46, 49, 57, 50, 48, 48, 51, 48, 48, 46, 49, 48, 48, 46, 49, 46, 50, 53]⟩ :: .int .i64 22 :: .string ⟨#[111, 114, 103]⟩ :: .string ⟨#[49, 46, 50, 46, 56, 52, 48, 46, 49, 49, 51, 53, 52, 57, 46, 49, 46, 57, 46, 49]⟩ :: .int .i64 22 :: .string ⟨#[97, 110, 110, 64, 101, 120, 97, 109, 112, 108, 101, 46, 111, 114, 103]⟩ :: .string ⟨#[49, 46, 50, 46, 56, 52, 48, 46, 49, 49, 51, 53, 52, 57, 46, 49, 46, 57, 46, 49]⟩ :: .int .i64 22 :: .string ⟨#[110, 111, 32, 97, 100, 100, 114, 101, 115, 115]⟩ :: .string ⟨#[50, 46, 53, 46, 52, 46, 57, 57]⟩ :: .int .i64 19 :: .string ⟨#[120]⟩ :: .string ⟨#[50, 46, 53, 46, 52, 46, 55]⟩ :: .int .i64 12 :: .string ⟨#[76]⟩ :: [] : List Value).toArray) 27)) B (.slice (some ⟨w.heap.size, 0, none⟩) 12 12) madeL := by
  have h := World.ownsRow_lit (base := B) (e := 27) (size := 3) w ((.string ⟨#[50, 46, 53, 46, 52, 46, 51]⟩ :: .int .i64 12 :: .string ⟨#[65, 110, 110]⟩ :: .string ⟨#[50, 46, 53, 46, 52, 46, 51]⟩ :: .int .i64 19 :: .string ⟨#[32, 97, 110, 110]⟩ :: .string ⟨#[50, 46, 53, 46, 52, 46, 51]⟩ :: .int .i64 12 :: .string ⟨#[103, 114, 195, 182, 195, 159, 101]⟩ :: .string ⟨#[50, 46, 53, 46, 52, 46, 54]⟩ :: .int .i64 19 :: .string ⟨#[85, 83]⟩ :: .string ⟨#[50, 46, 53, 46, 52, 46, 49, 48]⟩ :: .int .i64 19 :: .string ⟨#[69, 120, 97, 109, 112, 108, 101, 32, 32, 67, 111, 114, 112]⟩ :: .string ⟨#[50, 46, 53, 46, 52, 46, 49, 48]⟩ :: .int .i64 12 :: .string ⟨#[101, 120, 97, 109, 112, 108, 101, 32, 99, 111, 114, 112]⟩ :: .string ⟨#[50, 46, 53, 46, 52, 46, 49, 49]⟩ :: .int .i64 22 :: .string ⟨#[97, 44, 98, 43, 99, 61, 100, 92, 101]⟩ :: .string ⟨#[48, 46, 57, 46, 50, 51, 52, 50, 46, 49, 57, 50, 48, 48, 51, 48, 48, 46, 49, 48, 48, 46, 49, 46, 50, 53]⟩ :: .int .i64 22 :: .string ⟨#[111, 114, 103]⟩ :: .string ⟨#[49, 46, 50, 46, 56, 52, 48, 46, 49, 49, 51, 53, 52, 57, 46, 49, 46, 57, 46, 49]⟩ :: .int .i64 22 :: .string ⟨#[97, 110, 110, 64, 101, 120, 97, 109, 112, 108, 101, 46, 111, 114, 103]⟩ :: .string ⟨#[49, 46, 50, 46, 56, 52, 48, 46, 49, 49, 51, 53, 52, 57, 46, 49, 46, 57, 46, 49]⟩ :: .int .i64 22 :: .string ⟨#[110, 111, 32, 97, 100, 100, 114, 101, 115, 115]⟩ :: .string ⟨#[50, 46, 53, 46, 52, 46, 57, 57]⟩ :: .int .i64 19 :: .string ⟨#[120]⟩ :: .string ⟨#[50, 46, 53, 46, 52, 46, 55]⟩ :: .int .i64 12 :: .string ⟨#[76]⟩ :: [] : List Value).toArray) 12 hB (by unfold maxLen; omega) rfl
  unfold OwnA
  rw [made_cells]
  exact h
theorem atRes1 {fn : Func} {p : Tmp} (h : fn.results = #[.cell p 27]) (tmps : Array Value) (w w0 : World) (x y z : Value)
    (hp : tmps.getD p undef = .pointer (some ⟨w0.heap.size, 0, none⟩)) (hg : w.heap[w0.heap.size]? = some (.cells #[x, y, z] 27 (0, 0))) :
    (results fn tmps).run Tryz.prog w = .ok (.agg #[x, y, z]) w :=
  results_cell_row h tmps w w0.heap.size 27 #[x, y, z] (0, 0) _ hp hg Tryz.underlying27 rfl atSize

theorem belowTwo' (w : World) (o p : Obj) : Below w.heap.size w ((w.alloc o).alloc p) := below_next (belowNew w o) (belowNew _ p)
theorem But.fresh {p g : Nat} {a b c : World} (h : But p a b) (k : But g b c) (hg : a.heap.size ≤ g) : But p a c := World.grownBy.andThen h k (fun j e => .inl (by obtain rfl := Option.some.inj e; exact hg))
theorem cell_same {w w' : World} {b : Nat} (h : w'.heap[b]? = w.heap[b]?) (o : Nat) : w'.cell? ⟨b, o, none⟩ = w.cell? ⟨b, o, none⟩ := by
  simp only [World.cell?, h]
set_option maxRecDepth 100000 in
set_option maxHeartbeats 4000000 in
theorem attr_any (p : Nat) (a : Option Addr) (cap : Nat) (zs : List Int) (k : Nat) (w : World) (h : DeckAt w p a cap zs k) (hk : k < 1000) :
    Calls Tryz.prog 31 #[.pointer (some ⟨p, 0, none⟩)] w fun e w' => ∃ r k' : Nat, r < 12 ∧ e = .returned (atV (madeL.getD r noAt)) ∧ DeckAt w' p a cap zs k' ∧ k' ≤ k + 1 ∧ But p w w' := by
  obtain ⟨W1, hW1⟩ : ∃ W1, W1 = w.alloc (.cells #[.string ⟨#[]⟩, .int .i64 0, .string ⟨#[]⟩] 27) := ⟨_, rfl⟩
  obtain ⟨W2, hW2⟩ : ∃ W2, W2 = W1.alloc (.cells ((.string ⟨#[50, 46, 53, 46, 52, 46, 51]⟩ :: .int .i64 12 :: .string ⟨#[65, 110, 110]⟩ :: .string ⟨#[50, 46, 53, 46, 52, 46, 51]⟩ :: .int .i64 19 :: .string ⟨#[32, 97, 110, 110]⟩ :: .string ⟨#[50, 46, 53, 46, 52, 46, 51]⟩ :: .int .i64 12 :: .string ⟨#[103, 114, 195, 182, 195, 159, 101]⟩ :: .string ⟨#[50, 46, 53, 46, 52, 46, 54]⟩ :: .int .i64 19 :: .string ⟨#[85, 83]⟩ :: .string ⟨#[50, 46, 53, 46, 52, 46, 49, 48]⟩ :: .int .i64 19 :: .string ⟨#[69, 120, 97, 109, 112, 108, 101, 32, 32, 67, 111, 114, 112]⟩ :: .string ⟨#[50, 46, 53, 46, 52, 46, 49, 48]⟩ :: .int .i64 12 :: .string ⟨#[101, 120, 97, 109, 112, 108, 101, 32, 99, 111, 114, 112]⟩ :: .string ⟨#[50, 46, 53, 46, 52, 46, 49, 49]⟩ :: .int .i64 22 :: .string ⟨#[97, 44, 98, 43, 99, 61, 100, 92, 101]⟩ :: .string ⟨#[48, 46, 57, 46, 50, 51, 52, 50, 46, 49, 57, 50, 48, 48, 51, 48, 48, 46, 49, 48, 48, 46, 49, 46, 50, 53]⟩ :: .int .i64 22 :: .string ⟨#[111, 114, 103]⟩ :: .string ⟨#[49, 46, 50, 46, 56, 52, 48, 46, 49, 49, 51, 53, 52, 57, 46, 49, 46, 57, 46, 49]⟩ :: .int .i64 22 :: .string ⟨#[97, 110, 110, 64, 101, 120, 97, 109, 112, 108, 101, 46, 111, 114, 103]⟩ :: .string ⟨#[49, 46, 50, 46, 56, 52, 48, 46, 49, 49, 51, 53, 52, 57, 46, 49, 46, 57, 46, 49]⟩ :: .int .i64 22 :: .string ⟨#[110, 111, 32, 97, 100, 100, 114, 101, 115, 115]⟩ :: .string ⟨#[50, 46, 53, 46, 52, 46, 57, 57]⟩ :: .int .i64 19 :: .string ⟨#[120]⟩ :: .string ⟨#[50, 46, 53, 46, 52, 46, 55]⟩ :: .int .i64 12 :: .string ⟨#[76]⟩ :: [] : List Value).toArray) 27) := ⟨_, rfl⟩
  have hz : W1.heap.size = w.heap.size + 1 := by rw [hW1]; simp
  have hb : Below w.heap.size w W2 := by rw [hW2, hW1]; exact belowTwo' w _ _
  have hl : ALies W2 (some ⟨w.heap.size + 1, 0, none⟩) madeL := by
    obtain ⟨a1, c1, e1, _, e2⟩ := (made_own W1 0 (Nat.zero_le _)).lies
    rw [hz] at e1
    obtain ⟨rfl, _⟩ : some ⟨w.heap.size + 1, 0, none⟩ = a1 ∧ 12 = c1 := by simpa [madeL] using e1
    rw [hW2]; exact e2
  have hc : W2.heap[w.heap.size]? = some (.cells #[.string ⟨#[]⟩, .int .i64 0, .string ⟨#[]⟩] 27 (0, 0)) := by
    rw [hW2]
    refine ((belowNew W1 _).block _ (by rw [hz]; omega)).trans ?_
    rw [hW1]; exact heap_alloc_new w _
  have hp := h.lt
  have HN := Lib.hid (next_any p a cap zs k 12 W2 (h.below hb) hk (by omega) (by omega))
  have HL := Lib.hid hl
  have HC := Lib.hid hc
  have HB := Lib.hid hb
  rw [hW2, hW1, show ((12 : Nat) : Int) = (12 : Int) from rfl] at HN
  have HW := Lib.hid hW2
  rw [hW1] at HW
  clear h hl hc hb hz hW2 hW1
  go_enter Tryz.func31, Tryz.ntmps31
  go_wp2_with (go_at_call 12; (with_reducible refine HN.out.mono ?_); rintro e w3 ⟨r, k', hr, rfl, hd, hk', hb3⟩; rw [← HW.out] at hb3; have hc3 := (hb3.block w.heap.size (Array.getElem?_eq_some_iff.1 HC.out).1 (by simp; omega)).trans HC.out; obtain ⟨b, o, e0, _, q0, q1, q2⟩ := HL.out.at r hr; obtain ⟨rfl, rfl⟩ : w.heap.size + 1 = b ∧ 0 = o := (by simpa using e0); rw [Nat.zero_add] at q0 q1 q2; have g0 := (hb3.block _ (block_lt q0) (by simp; omega)); have d0 := (cell_same g0 _).trans q0; have d1 := (cell_same g0 _).trans q1; have d2 := (cell_same g0 _).trans q2; obtain ⟨c0, c1, c2, f0, f1, f2, hlt⟩ := at_facts hc3; generalize hE : madeL.getD r noAt = E at d0 d1 d2; have HE := Lib.hid hE; have HD := Lib.hid hd; have HK := Lib.hid hk'; have HB3 := Lib.hid hb3; have HC3 := Lib.hid hc3; have HR := Lib.hid hr; clear hE hd hk' hb3 hc3 q0 q1 q2 e0 g0)
  have hs := ((But.set w.heap.size 0 w3 (.string E.1)).next (But.set w.heap.size 1 _ (.int .i64 E.2.1))).next (But.set w.heap.size 2 _ (.string E.2.2))
  exact bodyPost_ret (atRes1 rfl _ _ w _ _ _ rfl (at_set HC3.out)) rfl ⟨r, k', HR.out, by rw [HE.out]; rfl, HD.out.grown hs (fun j e => by obtain rfl := Option.some.inj e; exact hp), HK.out, ((But.of HB.out).next HB3.out).fresh hs (Nat.le_refl _)⟩
end Go.Proofs.YtfpfgdbfigdooaaGreatDoor
namespace Go.Proofs.YtfpfgdbfigdooaaGreatDoor
open Go.RowKit Go.Maps

theorem laidOut : laidOutB Tryz.prog = true := by kernel_rfl
theorem fLaw : Keyed Tryz.prog 113 := Keyed.of_law (deep_law_laid laidOut (m := 2) (by omega) (by decide +kernel) (by kernel_rfl) (by kernel_rfl))
/-- A pair as a value and as a key. -/
def fV (p : ByteArray × ByteArray) : Value := .agg #[.string p.1, .string p.2]
def fK (p : ByteArray × ByteArray) : Lit := .string (keyBytes [.string p.1.data.toList, .string p.2.data.toList])
theorem fLits (d : Nat) (a b : ByteArray) (h1 : a.size ≤ maxLen) (h2 : b.size ≤ maxLen) : Tryz.prog.keyLits (d + 2) 113 [.string a, .string b] = some [.string a.data.toList, .string b.data.toList] := by
  have c1 : Tryz.prog.cellsOf 9 = 1 := by kernel_rfl
  have c2 : Tryz.prog.cellsOf 113 = 2 := by kernel_rfl
  simp [Program.keyLits, Tryz.underlying113, Tryz.underlying9, c1, c2, h1, h2]
theorem fKey (p : ByteArray × ByteArray) (h1 : p.1.size ≤ maxLen) (h2 : p.2.size ≤ maxLen) : keyOf Tryz.prog 113 (fV p) = some (fK p) := by
  have hk : Tryz.prog.keyType 113 = true := by kernel_rfl
  have c2 : Tryz.prog.cellsOf 113 = 2 := by kernel_rfl
  have hf : (fV p).formed Tryz.prog 113 = true := by simp [Value.formed, fV, Tryz.underlying113, c2]
  have hsz : 1 < Tryz.prog.types.size := by decide +kernel
  obtain ⟨d, hd⟩ : ∃ d, Tryz.prog.types.size + 1 = d + 2 := ⟨Tryz.prog.types.size - 1, by omega⟩
  unfold keyOf
  rw [Tryz.underlying113]
  show (if (Tryz.prog.keyType 113 && (fV p).formed Tryz.prog 113) = true then (Tryz.prog.keyLits (Tryz.prog.types.size + 1) 113 (fV p).cells.toList).map (fun ls => Lit.string (keyBytes ls)) else none) = _
  rw [if_pos (by rw [hk, hf]; rfl), hd]
  show ((Tryz.prog.keyLits (d + 2) 113 [.string p.1, .string p.2]).map (fun ls => Lit.string (keyBytes ls))) = _
  rw [fLits d _ _ h1 h2]
  rfl
def sU {H : Type} : DataW H := .lit (.bool true)
/-- What foldedSet's map reads as. -/
def setD {H : Type} (l : List At) : DataW H := setOf sU (l.map fun a => fK (fa a))
noncomputable def Rb : Value → Option (DataW Unit × List MemPlace) := plainElem Tryz.prog 4
theorem rb_true : Rb (.bool true) = some (sU, []) := by
  show plainElem Tryz.prog 4 (.bool true) = _
  unfold plainElem
  rw [Tryz.underlying4]; rfl
theorem setD_snoc (l : List At) (a : At) : setD (H := Unit) (l ++ [a]) = (setD l).put (fK (fa a)) sU := by
  unfold setD
  rw [List.map_append, List.map_singleton, setOf_snoc]

theorem make_hint (n : Int) (w : World) : (Instr.makeMap 111 (some (.int .i64 n))).run Tryz.prog w = .ok (.map (some w.heap.size)) (w.alloc (.map #[] 0)) := by
  simp [Instr.makeMap, run_underlying Tryz.underlying111, asInt, asIntOf, Result.andThen]
/-- One key more. -/
theorem set_more {W : World} {B k : Nat} {D : DataW Unit} (h : W.ownsMap Tryz.prog 113 Rb B k D) (hk : k ≤ 1000000) (t f : ByteArray) (h1 : t.size ≤ 1000000) (h2 : f.size ≤ 1000000) :
    ∃ w2, (Instr.mapUpdate 111 (.map (some B)) (.agg #[.string t, .string f]) (.bool true)).run Tryz.prog W = .ok () w2 ∧ w2.ownsMap Tryz.prog 113 Rb B (k + 1) (D.put (fK (t, f)) sU) ∧ W.grownBy w2 (some B) :=
  h.update fLaw Tryz.underlying111 (by unfold maxLen; omega) (fKey (t, f) (by show t.size ≤ _; unfold maxLen; omega) (by show f.size ≤ _; unfold maxLen; omega)) rb_true
set_option maxRecDepth 100000 in
set_option maxHeartbeats 4000000 in
theorem fset_any (a0 : Option Addr) (c n : Nat) (l : List At) (w : World) (h : ALies w a0 l) (hn : n = l.length) (hs : SmallR l) :
    Calls Tryz.prog 90 #[.slice a0 n c] w fun e w' => e = .returned (.map (some w.heap.size)) ∧ w'.ownsMap Tryz.prog 113 Rb w.heap.size n (setD l) ∧ Below w.heap.size w w' := by
  have hL : n ≤ 1000000 := by rw [hn]; exact hs.1
  have H1 := Lib.hid h
  have HN := Lib.hid hn
  have HS := Lib.hid hs
  have hmm := make_hint
  clear h hn hs
  go_enter Tryz.func90, Tryz.ntmps90
  go_wp2_with fail
  go_loopw [11] (fun i wr => ∃ k : Nat, k ≤ n ∧ i = .int .i64 k ∧ wr.ownsMap Tryz.prog 113 Rb w.heap.size k (setD (l.take k)) ∧ Below w.heap.size w wr) (fun i _ => n - (intOf i).toNat)
  case atStart => exact ⟨0, Nat.zero_le _, rfl, World.ownsMap_made _ _ _ _, belowNew w _⟩
  case round =>
    obtain ⟨k, hk, rfl, hA, hb⟩ := hrel
    have HB := Lib.hid hb
    have HA := Lib.hid hA
    clear hb hA
    by_cases hlt : k < n
    · have hd : decide ((k : Int) < (n : Int)) = true := by simp; omega
      obtain ⟨b, o, rfl, hb, c0, c1, c2⟩ := H1.out.at k (by rw [← HN.out]; exact hlt)
      have a0 : wr.cell? ⟨b, o + k * 3, none⟩ = _ := (HB.out.cell (p := ⟨b, o + k * 3, none⟩) hb).trans c0
      have a1 : wr.cell? ⟨b, o + k * 3 + 1, none⟩ = _ := (HB.out.cell (p := ⟨b, o + k * 3 + 1, none⟩) hb).trans c1
      have a2 : wr.cell? ⟨b, o + k * 3 + 2, none⟩ = _ := (HB.out.cell (p := ⟨b, o + k * 3 + 2, none⟩) hb).trans c2
      have HT := Lib.hid (takeD l k (by rw [← HN.out]; exact hlt) noAt)
      have hsm := HS.out.2 k (by rw [← HN.out]; exact hlt)
      generalize l.getD k noAt = y at a0 a1 a2 HT hsm
      obtain ⟨t, kd, v⟩ := y
      have HM1 := Lib.hid hsm.1
      have HM2 := Lib.hid hsm.2
      clear c0 c1 c2 hb hsm
      go_wp2_with fail
      obtain ⟨f, hf⟩ : ∃ f, f = foldS v := ⟨_, rfl⟩
      have HFZ := Lib.hid (show f.size ≤ 1000000 by rw [hf]; exact Nat.le_trans (foldS_size v) HM2.out)
      have HTZ := Lib.hid (show t.size ≤ 1000000 from HM1.out)
      have HKZ := Lib.hid (show k ≤ 1000000 by omega)
      have HFO := Lib.hid (fun W => foldS_any v W (Nat.le_trans (show v.size ≤ 1000000 from HM2.out) (by omega)))
      rw [← hf] at HFO
      have HST := Lib.hid (show setD (H := Unit) (l.take (k + 1)) = (setD (l.take k)).put (fK (t, f)) sU by rw [HT.out, setD_snoc, hf]; rfl)
      have HBA := Lib.hid (show Below w.heap.size w (wr.alloc (.cells #[.string t, .int .i64 kd, .string v] 27)) from below_next HB.out (belowNew wr _))
      have HUP := Lib.hid (fun W1 (hb1 : Below (wr.alloc (.cells #[.string t, .int .i64 kd, .string v] 27)).drew.heap.size (wr.alloc (.cells #[.string t, .int .i64 kd, .string v] 27)).drew W1) => set_more (((HA.out.alloc (.cells #[.string t, .int .i64 kd, .string v] 27)).drew).kept (Below.only hb1) (by simp)) HKZ.out t f HTZ.out HFZ.out)
      have HG0 := Lib.hid (fun W1 (hb1 : Below (wr.alloc (.cells #[.string t, .int .i64 kd, .string v] 27)).drew.heap.size (wr.alloc (.cells #[.string t, .int .i64 kd, .string v] 27)).drew W1) => (hb1.cell (p := ⟨wr.heap.size, 0, none⟩) (block_lt (box_cell wr (.string t) (.int .i64 kd) (.string v) 27))).trans (box_cell wr (.string t) (.int .i64 kd) (.string v) 27))
      clear hf
      go_region_with (go_at_call 50; (with_reducible refine (HFO.out _).mono ?_); rintro e w1 ⟨rfl, hb1⟩; obtain ⟨w2, hrun, hown2, hg2⟩ := HUP.out _ hb1; have g0 := HG0.out _ hb1; have HB1 := Lib.hid (below_next HBA.out.drew hb1); have HO := Lib.hid hown2; have HG := Lib.hid hg2; clear hb1 hown2 hg2)
      all_goals
        go_wp2_with fail
        go_roundw
        case rel => exact ⟨k + 1, by omega, by go_num, by rw [HST.out]; exact HO.out, HB1.out.grown HG.out HB1.out.size (fun j e => by cases e; exact Nat.le_refl _)⟩
        case measure => simp [intOf]; omega
    · have hd : decide ((k : Int) < (n : Int)) = false := by simp; omega
      have HF := Lib.hid (show l.take k = l by rw [List.take_of_length_le (by rw [← HN.out]; omega)])
      go_wp2_with fail
      go_ret
      exact ⟨rfl, by have := HA.out; rw [HF.out] at this; exact this.mono hk, HB.out⟩
end Go.Proofs.YtfpfgdbfigdooaaGreatDoor
