/-
  What there is no tree at, and what is wanted of the program there.
  How a tree of the program lies; the contracts of its Key and Leaves, and of what a tree that there isn't answers.
  The contracts of strings.Builder's WriteString and String and of strings.Clone at this program: the library's theorems, laid at the program's own numbers. Nothing is claimed of the program beyond its bodies.
  The contracts of the program's siblings of a leaf and of its Sign.
-/
import Derived.Test.YtnmcocolahgfnaaDoorAah
import Derived.Test.YtnmcocolahgfnaaDoorAag
import Derived.Shelf.Strings.Builder1
import Derived.Shelf.Strconv.Clone
import Derived.Test.YtnmcocolahgfnaaDoorChecked
import Derived.Test.YtnmcocolahgfnaaDoorAaj
import Derived.Test.YtnmcocolahgfnaaDoorAak
namespace Go.Proofs.YtnmcocolahgfnaaDoor
open Go.RowKit

/-- The cells of a tree that nothing was written to: as the landed struct has them. -/
def zeroTc : Array Value := #[.int .i64 0, .string ⟨#[]⟩, .string ⟨#[]⟩, .string ⟨#[]⟩, .slice none 0 0]
/-- No tree: the nil pointer, or a pointer to a tree that nothing was written to. -/
def NoTree (W : World) (v : Value) : Prop := v = .pointer none ∨ ∃ p, v = .pointer (some ⟨p, 0, none⟩) ∧ W.heap[p]? = some (.cells zeroTc 45 (0, 0))
theorem NoTree.below {W W' : World} {v : Value} (h : NoTree W v) (hb : Below W.heap.size W W') : NoTree W' v := by
  rcases h with h | ⟨p, h, hp⟩
  · exact .inl h
  · exact .inr ⟨p, h, (hb.block p (Array.getElem?_eq_some_iff.1 hp).1).trans hp⟩
structure NoTrees : Prop where
  gen : ∀ (seed : ByteArray) (h : Int) (w : World), genE seed h ≠ 0 → Calls Tryd.prog 9 #[.string seed, .int .i64 h] w fun e w' => e = .returned (.tuple #[.pointer none, .int .i64 ((genE seed h : Nat) : Int)]) ∧ Below w.heap.size w w'
  sign : ∀ (v : Value) (leaf : Int) (m : ByteArray) (w : World), NoTree w v → Calls Tryd.prog 17 #[v, .int .i64 leaf, .string m] w fun e w' => e = .returned (.tuple #[.string ⟨#[]⟩, .int .i64 18]) ∧ Below w.heap.size w w'
  leaves : ∀ (v : Value) (w : World), NoTree w v → Calls Tryd.prog 15 #[v] w fun e w' => e = .returned (.int .i64 0) ∧ Below w.heap.size w w'
  key : ∀ (v : Value) (w : World), NoTree w v → Calls Tryd.prog 12 #[v] w fun e w' => e = .returned (.agg #[.int .i64 0, .string ⟨#[]⟩, .string ⟨#[]⟩]) ∧ Below w.heap.size w w'

end Go.Proofs.YtnmcocolahgfnaaDoor
namespace Go.Proofs.YtnmcocolahgfnaaDoor
open Go.RowKit

def TreeAt : TreeP := fun W p seed h => h ≤ 8 ∧ ∃ a c, W.heap[p]? = some (.cells #[.int .i64 (h : Int), .string (idT seed), .string (rootS seed h), .string seed, .slice a (h + 1) c] 45 (0, 0)) ∧ h + 1 ≤ c ∧ RowsAt W a (levelsS seed h (h + 1))
theorem TreeAt.keep (W W' : World) (p : Nat) (seed : ByteArray) (h : Nat) (t : TreeAt W p seed h) (hb : Below W.heap.size W W') : TreeAt W' p seed h := by
  obtain ⟨hh, a, c, e, hc, hr⟩ := t
  exact ⟨hh, a, c, (hb.block p (Array.getElem?_eq_some_iff.1 e).1).trans e, hc, hr.below hb⟩
theorem TreeAt.open {w : World} {p : Nat} {seed : ByteArray} {h : Nat} (t : TreeAt w p seed h) : ∃ b o c, w.heap[p]? = some (.cells #[.int .i64 (h : Int), .string (idT seed), .string (rootS seed h), .string seed, .slice (some ⟨b, o, none⟩) (h + 1) c] 45 (0, 0)) ∧ h + 1 ≤ c ∧ b < w.heap.size ∧
    ∀ l, l ≤ h → ∃ b' o' c', w.cell? ⟨b, o + l, none⟩ = some (.slice (some ⟨b', o', none⟩) (2 ^ (h - l)) c') ∧ 2 ^ (h - l) ≤ c' ∧ b' < w.heap.size ∧ ∀ i, i < 2 ^ (h - l) → w.cell? ⟨b', o' + i, none⟩ = some (.string (nodeS seed l i)) := by
  obtain ⟨_, a, c, e, hc, hr⟩ := t
  have tv : TreeV w (.agg #[.string seed, .string (idT seed), .slice a (h + 1) c]) seed h := ⟨a, c, rfl, hc, hr⟩
  obtain ⟨b, o, c', e1, h1, h2, h3⟩ := tv.open
  simp at e1
  obtain ⟨rfl, rfl⟩ := e1
  exact ⟨b, o, c, e, hc, h2, h3⟩
theorem cell5 {w : World} {g : Nat} {a b c d e : Value} {t : TypeId} (h : w.heap[g]? = some (.cells #[a, b, c, d, e] t (0, 0))) : w.cell? ⟨g, 0, none⟩ = some a ∧ w.cell? ⟨g, 1, none⟩ = some b ∧ w.cell? ⟨g, 2, none⟩ = some c ∧ w.cell? ⟨g, 3, none⟩ = some d ∧ w.cell? ⟨g, 4, none⟩ = some e ∧ g < w.heap.size :=
  ⟨by rw [cell_of_row w g _ _ _ _ h]; rfl, by rw [cell_of_row w g _ _ _ _ h]; rfl, by rw [cell_of_row w g _ _ _ _ h]; rfl, by rw [cell_of_row w g _ _ _ _ h]; rfl, by rw [cell_of_row w g _ _ _ _ h]; rfl, (Array.getElem?_eq_some_iff.1 h).1⟩

set_option maxRecDepth 100000 in
set_option maxHeartbeats 1000000 in
theorem mempty_no {w : World} {p : Nat} {seed : ByteArray} {h : Nat} (t : TreeAt w p seed h) :
    Calls Tryd.prog 36 #[.pointer (some ⟨p, 0, none⟩)] w fun e w' => e = .returned (.bool false) ∧ Below w.heap.size w w' := by
  obtain ⟨b, o, c, hq, _, _, _⟩ := t.open
  obtain ⟨_, _, _, _, c4, hp⟩ := cell5 hq
  obtain ⟨n, hn⟩ : ∃ n, n = h + 1 := ⟨_, rfl⟩
  rw [← hn] at c4
  have d0 : ((n : Int) == 0) = false := by simp; omega
  have d1 : ¬ (n : Int) = 0 := by omega
  have d2 : ¬ n = 0 := by omega
  clear hq hn t
  go_enter Tryd.func36, Tryd.ntmps36
  go_wp2_with fail
  go_ret
  exact ⟨rfl, Below.refl _ _⟩
set_option maxRecDepth 100000 in
set_option maxHeartbeats 1000000 in
theorem mempty_yes {w : World} {v : Value} (t : NoTree w v) :
    Calls Tryd.prog 36 #[v] w fun e w' => e = .returned (.bool true) ∧ Below w.heap.size w w' := by
  rcases t with rfl | ⟨p, rfl, hq⟩
  · go_enter Tryd.func36, Tryd.ntmps36
    go_wp2_with fail
    go_ret
    exact ⟨rfl, Below.refl _ _⟩
  · obtain ⟨_, _, _, _, c4, hp⟩ := cell5 hq
    clear hq
    go_enter Tryd.func36, Tryd.ntmps36
    go_wp2_with fail
    go_ret
    exact ⟨rfl, Below.refl _ _⟩
set_option maxRecDepth 100000 in
set_option maxHeartbeats 1000000 in
theorem mleavest_any (p : Nat) (seed : ByteArray) (h : Nat) (w : World) (t : TreeAt w p seed h) :
    Calls Tryd.prog 15 #[.pointer (some ⟨p, 0, none⟩)] w fun e w' => e = .returned (.int .i64 ((2 ^ h : Nat) : Int)) ∧ Below w.heap.size w w' := by
  obtain ⟨ID, hID⟩ : ∃ ID, ID = idT seed := ⟨_, rfl⟩
  obtain ⟨R, hR⟩ : ∃ R, R = rootS seed h := ⟨_, rfl⟩
  have HE := Lib.hid (mempty_no t)
  have HL : Hid (∀ W : World, Calls Tryd.prog 37 #[.agg #[.int .i64 (h : Int), .string ID, .string R]] W fun e w' => e = .returned (.int .i64 ((2 ^ h : Nat) : Int)) ∧ Below W.heap.size W w') := Lib.hid fun W => mleaves_any h t.1 ID R W
  obtain ⟨b, o, c, hq, _, _, _⟩ := t.open
  rw [← hID, ← hR] at hq
  obtain ⟨N, hN⟩ : ∃ N, N = 2 ^ h := ⟨_, rfl⟩
  rw [← hN] at HL ⊢
  have HQ := Lib.hid hq
  clear hq hID hR hN t
  go_enter Tryd.func15, Tryd.ntmps15
  go_wp2_with (first
    | (go_at_call 36; (with_reducible refine HE.out.mono ?_); rintro e w1 ⟨rfl, hb1⟩; have HB1 := Lib.hid hb1; have hq1 := (hb1.block p (Array.getElem?_eq_some_iff.1 HQ.out).1).trans HQ.out; obtain ⟨c0, c1, c2, c3, c4, hp⟩ := cell5 hq1; clear hb1 hq1)
    | (go_at_call 37; (with_reducible refine (HL.out _).mono ?_); rintro e w2 ⟨rfl, hb2⟩; have HB2 := Lib.hid (HB1.out.next hb2); clear hb2))
  go_ret
  exact ⟨rfl, HB2.out⟩
set_option maxRecDepth 100000 in
set_option maxHeartbeats 1000000 in
theorem mkey_any (p : Nat) (seed : ByteArray) (h : Nat) (w : World) (t : TreeAt w p seed h) :
    Calls Tryd.prog 12 #[.pointer (some ⟨p, 0, none⟩)] w fun e w' => e = .returned (keyV (h : Int) (idT seed) (rootS seed h)) ∧ Below w.heap.size w w' := by
  obtain ⟨g, hg⟩ : ∃ g, g = w.heap.size := ⟨_, rfl⟩
  obtain ⟨W1, hW1⟩ : ∃ W1, W1 = w.alloc (.cells #[.int .i64 0, .string ⟨#[]⟩, .string ⟨#[]⟩] 29) := ⟨_, rfl⟩
  have HB1 : Hid (Below w.heap.size w W1) := Lib.hid (by rw [hW1]; exact belowNew w _)
  have HG1 : Hid (W1.heap[g]? = some (.cells #[.int .i64 0, .string ⟨#[]⟩, .string ⟨#[]⟩] 29 (0, 0))) := Lib.hid (by rw [hW1, hg]; exact heap_alloc_new w _)
  have t1 := TreeAt.keep w W1 p seed h t HB1.out
  have HE := Lib.hid (mempty_no t1)
  obtain ⟨b, o, c, hq, _, _, _⟩ := t1.open
  obtain ⟨_, _, _, hq0, _, _, _⟩ := t.open
  have hpl : p < w.heap.size := (Array.getElem?_eq_some_iff.1 hq0).1
  obtain ⟨ID, hID⟩ : ∃ ID, ID = idT seed := ⟨_, rfl⟩
  obtain ⟨R, hR⟩ : ∃ R, R = rootS seed h := ⟨_, rfl⟩
  unfold keyV
  rw [← hID, ← hR] at hq ⊢
  have HQ := Lib.hid hq
  have HW1 := Lib.hid hW1.symm
  have hne : ¬ p = g := by omega
  have hne2 : ¬ g = p := by omega
  subst hg
  clear hq hID hR t t1 hW1 hq0 hpl
  go_enter Tryd.func12, Tryd.ntmps12
  go_wp2_with (go_at_call 36; rw [HW1.out]; (with_reducible refine HE.out.mono ?_); rintro e w1 ⟨rfl, hb1⟩; have HB2 := Lib.hid (HB1.out.next hb1); have hq1 := (hb1.block p (Array.getElem?_eq_some_iff.1 HQ.out).1).trans HQ.out; obtain ⟨c0, c1, c2, c3, c4, hp⟩ := cell5 hq1; have hg1 := (hb1.block w.heap.size (Array.getElem?_eq_some_iff.1 HG1.out).1).trans HG1.out; obtain ⟨k0, k1, k2, hgl⟩ := tcell hg1; have f0 := Lib.frozen_of_heap hg1 0; have f1 := Lib.frozen_of_heap hg1 1; have f2 := Lib.frozen_of_heap hg1 2; have HG2 := Lib.hid hg1; clear hb1 hq1 hg1)
  exact bodyPost_ret (results_cell_row rfl _ _ w.heap.size 29 _ (0, 0) _ rfl (tset3 HG2.out) Tryd.underlying29 rfl keySizeM) rfl ⟨rfl, ((HB2.out.setCell (p := ⟨w.heap.size, 0, none⟩) (Nat.le_refl _) _).setCell (p := ⟨w.heap.size, 1, none⟩) (Nat.le_refl _) _).setCell (p := ⟨w.heap.size, 2, none⟩) (Nat.le_refl _) _⟩

set_option maxRecDepth 100000 in
set_option maxHeartbeats 1000000 in
theorem nleaves_any (v : Value) (w : World) (t : NoTree w v) :
    Calls Tryd.prog 15 #[v] w fun e w' => e = .returned (.int .i64 0) ∧ Below w.heap.size w w' := by
  have HE := Lib.hid (mempty_yes t)
  clear t
  go_enter Tryd.func15, Tryd.ntmps15
  go_wp2_with (go_at_call 36; (with_reducible refine HE.out.mono ?_); rintro e w1 ⟨rfl, hb1⟩; have HB1 := Lib.hid hb1; clear hb1)
  go_ret
  exact ⟨rfl, HB1.out⟩
set_option maxRecDepth 100000 in
set_option maxHeartbeats 1000000 in
theorem nsign_any (v : Value) (leaf : Int) (m : ByteArray) (w : World) (t : NoTree w v) :
    Calls Tryd.prog 17 #[v, .int .i64 leaf, .string m] w fun e w' => e = .returned (.tuple #[.string ⟨#[]⟩, .int .i64 18]) ∧ Below w.heap.size w w' := by
  have HE := Lib.hid (mempty_yes t)
  clear t
  go_enter Tryd.func17, Tryd.ntmps17
  go_wp2_with (go_at_call 36; (with_reducible refine HE.out.mono ?_); rintro e w1 ⟨rfl, hb1⟩; have HB1 := Lib.hid hb1; clear hb1)
  go_ret2
  exact ⟨rfl, HB1.out⟩
set_option maxRecDepth 100000 in
set_option maxHeartbeats 1000000 in
theorem nkey_any (v : Value) (w : World) (t : NoTree w v) :
    Calls Tryd.prog 12 #[v] w fun e w' => e = .returned (.agg #[.int .i64 0, .string ⟨#[]⟩, .string ⟨#[]⟩]) ∧ Below w.heap.size w w' := by
  obtain ⟨g, hg⟩ : ∃ g, g = w.heap.size := ⟨_, rfl⟩
  obtain ⟨W1, hW1⟩ : ∃ W1, W1 = w.alloc (.cells #[.int .i64 0, .string ⟨#[]⟩, .string ⟨#[]⟩] 29) := ⟨_, rfl⟩
  have HB1 : Hid (Below w.heap.size w W1) := Lib.hid (by rw [hW1]; exact belowNew w _)
  have HG1 : Hid (W1.heap[g]? = some (.cells #[.int .i64 0, .string ⟨#[]⟩, .string ⟨#[]⟩] 29 (0, 0))) := Lib.hid (by rw [hW1, hg]; exact heap_alloc_new w _)
  have HE := Lib.hid (mempty_yes (t.below HB1.out))
  have HW1 := Lib.hid hW1.symm
  subst hg
  clear t hW1
  go_enter Tryd.func12, Tryd.ntmps12
  go_wp2_with (go_at_call 36; rw [HW1.out]; (with_reducible refine HE.out.mono ?_); rintro e w1 ⟨rfl, hb1⟩; have HB2 := Lib.hid (HB1.out.next hb1); have hg1 := (hb1.block w.heap.size (Array.getElem?_eq_some_iff.1 HG1.out).1).trans HG1.out; obtain ⟨k0, k1, k2, hgl⟩ := tcell hg1; have f0 := Lib.frozen_of_heap hg1 0; have f1 := Lib.frozen_of_heap hg1 1; have f2 := Lib.frozen_of_heap hg1 2; have HG2 := Lib.hid hg1; clear hb1 hg1)
  exact bodyPost_ret (results_cell_row rfl _ _ w.heap.size 29 _ (0, 0) _ rfl (tset3 HG2.out) Tryd.underlying29 rfl keySizeM) rfl ⟨rfl, ((HB2.out.setCell (p := ⟨w.heap.size, 0, none⟩) (Nat.le_refl _) _).setCell (p := ⟨w.heap.size, 1, none⟩) (Nat.le_refl _) _).setCell (p := ⟨w.heap.size, 2, none⟩) (Nat.le_refl _) _⟩
end Go.Proofs.YtnmcocolahgfnaaDoor
namespace Go.Proofs.YtnmcocolahgfnaaDoor
open Go.Shelf Go.RowKit

def renS : Go.Shelf.Ren := ⟨fun | 166 => 63 | 169 => 64 | 240 => 78 | 276 => 84 | n => n, fun | 0 => 0 | 3 => 3 | 4 => 4 | 5 => 5 | 9 => 9 | 20 => 20 | 37 => 60 | 70 => 94 | 72 => 96 | 75 => 98 | 80 => 101 | 127 => 108 | 164 => 119 | n => n, fun | n => n⟩
theorem lays166m : Go.Proofs.Lays.n166 Tryd.prog renS := {
  mixed := by kernel_rfl
  f166 := Tryd.func63.trans (congrArg some (by kernel_rfl))
  f240 := Tryd.func78.trans (congrArg some (by kernel_rfl))
  f276 := Tryd.func84.trans (congrArg some (by kernel_rfl))
  t0 := Tryd.underlying0
  a0 := Tryd.isAgg0
  z0 := Tryd.sizeOf0
  v0 := Tryd.zeroValue0
  t3 := Tryd.underlying3
  a3 := Tryd.isAgg3
  z3 := Tryd.sizeOf3
  v3 := Tryd.zeroValue3
  t4 := Tryd.underlying4
  a4 := Tryd.isAgg4
  z4 := Tryd.sizeOf4
  v4 := Tryd.zeroValue4
  t9 := Tryd.underlying9
  a9 := Tryd.isAgg9
  z9 := Tryd.sizeOf9
  v9 := Tryd.zeroValue9
  t20 := Tryd.underlying20
  a20 := Tryd.isAgg20
  z20 := Tryd.sizeOf20
  v20 := Tryd.zeroValue20
  t37 := Tryd.underlying60
  a37 := Tryd.isAgg60
  z37 := Tryd.sizeOf60
  v37 := Tryd.zeroValue60
  t70 := Tryd.underlying94
  a70 := Tryd.isAgg94
  z70 := Tryd.sizeOf94
  v70 := Tryd.zeroValue94
  t72 := Tryd.underlying96
  a72 := Tryd.isAgg96
  z72 := Tryd.sizeOf96
  v72 := Tryd.zeroValue96
  t75 := Tryd.underlying98
  a75 := Tryd.isAgg98
  z75 := Tryd.sizeOf98
  v75 := Tryd.zeroValue98
  t164 := Tryd.underlying119
  a164 := Tryd.isAgg119
  z164 := Tryd.sizeOf119
  v164 := Tryd.zeroValue119 }
theorem lays169m : Go.Proofs.Lays.n169 Tryd.prog renS := {
  mixed := by kernel_rfl
  f169 := Tryd.func64.trans (congrArg some (by kernel_rfl))
  t0 := Tryd.underlying0
  a0 := Tryd.isAgg0
  z0 := Tryd.sizeOf0
  v0 := Tryd.zeroValue0
  t3 := Tryd.underlying3
  a3 := Tryd.isAgg3
  z3 := Tryd.sizeOf3
  v3 := Tryd.zeroValue3
  t9 := Tryd.underlying9
  a9 := Tryd.isAgg9
  z9 := Tryd.sizeOf9
  v9 := Tryd.zeroValue9
  t37 := Tryd.underlying60
  a37 := Tryd.isAgg60
  z37 := Tryd.sizeOf60
  v37 := Tryd.zeroValue60
  t70 := Tryd.underlying94
  a70 := Tryd.isAgg94
  z70 := Tryd.sizeOf94
  v70 := Tryd.zeroValue94
  t72 := Tryd.underlying96
  a72 := Tryd.isAgg96
  z72 := Tryd.sizeOf96
  v72 := Tryd.zeroValue96
  t127 := Tryd.underlying108
  a127 := Tryd.isAgg108
  z127 := Tryd.sizeOf108
  v127 := Tryd.zeroValue108 }
theorem builderS : Go.Proofs.Builder.Extra Tryd.prog renS := {
  sizeBuilder := by kernel_rfl
  liesBuilder := by kernel_rfl
  t5 := Tryd.underlying5
  a5 := Tryd.isAgg5
  z5 := Tryd.sizeOf5
  v5 := Tryd.zeroValue5
  infoByte := by kernel_rfl
  cellsByte := by kernel_rfl
  sizeByte := by kernel_rfl
  neB5 := by decide }
def lays316m_ren : Go.Shelf.Ren := ⟨fun | 316 => 51 | n => n, fun | 0 => 0 | 3 => 3 | 4 => 4 | 5 => 5 | 9 => 9 | 37 => 60 | 127 => 108 | n => n, fun | n => n⟩
theorem lays316m : Go.Proofs.LaysM.n316 Tryd.prog lays316m_ren := {
  mixed := by kernel_rfl
  f316 := Tryd.func51.trans (congrArg some (by kernel_rfl))
  t0 := Tryd.underlying0
  a0 := Tryd.isAgg0
  z0 := Tryd.sizeOf0
  v0 := Tryd.zeroValue0
  t3 := Tryd.underlying3
  a3 := Tryd.isAgg3
  z3 := Tryd.sizeOf3
  v3 := Tryd.zeroValue3
  t4 := Tryd.underlying4
  a4 := Tryd.isAgg4
  z4 := Tryd.sizeOf4
  v4 := Tryd.zeroValue4
  t9 := Tryd.underlying9
  a9 := Tryd.isAgg9
  z9 := Tryd.sizeOf9
  v9 := Tryd.zeroValue9
  t37 := Tryd.underlying60
  a37 := Tryd.isAgg60
  z37 := Tryd.sizeOf60
  v37 := Tryd.zeroValue60
  t127 := Tryd.underlying108
  a127 := Tryd.isAgg108
  z127 := Tryd.sizeOf108
  v127 := Tryd.zeroValue108
  t5 := Tryd.underlying5
  a5 := Tryd.isAgg5
  z5 := Tryd.sizeOf5
  v5 := Tryd.zeroValue5
  i0 := by kernel_rfl
  i3 := by kernel_rfl
  i4 := by kernel_rfl
  i5 := by kernel_rfl
  i9 := by kernel_rfl
  i37 := by kernel_rfl
  i127 := by kernel_rfl }

/-- A strings.Builder of the call's own in block b, that holds the bytes l. -/
def BldS (B b : Nat) (l : List UInt8) (w : World) : Prop := Lib.IsBuilder 96 5 B b (Lib.byteCells l) w
theorem byteCells_app (l m : List UInt8) : Lib.byteCells (l ++ m) = Lib.byteCells l ++ Lib.byteCells m := by simp [Lib.byteCells]
theorem byteCells_len (l : List UInt8) : (Lib.byteCells l).length = l.length := by simp [Lib.byteCells]
theorem writeString_s (B b : Nat) (l : List UInt8) (s : ByteArray) (w : World) (h : BldS B b l w) (hlen : l.length + s.size ≤ 140737488355328) (hBw : B ≤ w.heap.size) :
    Calls Tryd.prog 63 #[.pointer (some ⟨b, 0, none⟩), .string s] w fun e w' => e = .returned (.tuple #[.int .i64 s.size, .nilIface]) ∧ BldS B b (l ++ s.data.toList) w' ∧ Below B w w' := by
  refine (Any.Builder_WriteString lays166m builderS B b (Lib.byteCells l) s w h (by rw [byteCells_len]; exact hlen) hBw).mono fun _ _ h => ⟨h.1, .inr ?_, h.2.2⟩
  rw [byteCells_app]
  exact h.2.1
theorem string_s (B b : Nat) (l : List UInt8) (w : World) (h : BldS B b l w) (hBw : B ≤ w.heap.size) :
    Calls Tryd.prog 64 #[.pointer (some ⟨b, 0, none⟩)] w fun e w' => e = .returned (.string ⟨l.toArray⟩) ∧ Below B w w' :=
  Any.Builder_String_any lays169m builderS B b l w h hBw
/-- A builder that nothing was written to. -/
theorem bldS_new (w : World) : BldS w.heap.size w.heap.size [] (w.alloc (.cells #[.pointer none, .slice none 0 0] 96)) := Lib.fresh_isBuilder _ _ w
set_option maxRecDepth 100000 in
theorem clone_s (s : ByteArray) (hs : s.size ≤ 1000000000) (w : World) :
    Calls Tryd.prog 33 #[.string s] w fun e w' => e = .returned (.string s) ∧ Below w.heap.size w w' := by
  have HC : Hid (∀ W : World, Calls Tryd.prog 51 #[.string s] W fun e w' => e = .returned (.string s) ∧ Below W.heap.size W w') := Lib.hid fun W => Any.stringslite_Clone lays316m s W (by omega)
  clear hs
  go_enter Tryd.func33, Tryd.ntmps33
  go_wp2_with (go_at_call 51; (with_reducible refine (HC.out _).mono ?_); rintro e w1 ⟨rfl, hb1⟩; have HB1 := Lib.hid hb1; clear hb1)
  go_ret
  exact ⟨rfl, HB1.out⟩
end Go.Proofs.YtnmcocolahgfnaaDoor
namespace Go.Proofs.YtnmcocolahgfnaaDoor
open Go.RowKit

theorem sibsS_next (seed : ByteArray) (leaf l : Nat) : sibsS seed leaf (l + 1) = sibsS seed leaf l ++ nodeS seed l (sibQ (leaf / 2 ^ l)) := rfl
set_option maxRecDepth 100000 in
set_option maxHeartbeats 2000000 in
theorem msibs_any (p : Nat) (seed : ByteArray) (h leaf : Nat) (hl : leaf < 2 ^ h) (w : World) (t : TreeAt w p seed h) :
    Calls Tryd.prog 44 #[.pointer (some ⟨p, 0, none⟩), .int .i64 (leaf : Int)] w fun e w' => e = .returned (.string (sibsS seed leaf h)) ∧ Below w.heap.size w w' := by
  have hh := t.1
  have hp := pow_small hh
  have hl256 : leaf < 256 := by omega
  obtain ⟨b, o, c, hq, hc, hb, hlev⟩ := t.open
  obtain ⟨ID, hID⟩ : ∃ ID, ID = idT seed := ⟨_, rfl⟩
  obtain ⟨R, hR⟩ : ∃ R, R = rootS seed h := ⟨_, rfl⟩
  obtain ⟨n, hn⟩ : ∃ n, n = h + 1 := ⟨_, rfl⟩
  rw [← hID, ← hR, ← hn] at hq
  have HQ := Lib.hid hq
  have HLV := Lib.hid hlev
  have HB := Lib.hid hb
  have HH := Lib.hid hh
  have HN := Lib.hid hn
  have HLF := Lib.hid hl
  obtain ⟨g, hg⟩ : ∃ g, g = w.heap.size := ⟨_, rfl⟩
  obtain ⟨W1, hW1⟩ : ∃ W1, W1 = w.alloc (.cells #[.pointer none, .slice none 0 0] 96) := ⟨_, rfl⟩
  have HBD : Hid (BldS g g [] W1) := Lib.hid (by rw [hW1, hg]; exact bldS_new w)
  have HB1 : Hid (Below g w W1) := Lib.hid (by rw [hW1, hg]; exact belowNew w _)
  have HG : Hid (g = w.heap.size) := Lib.hid hg
  have hpl : p < w.heap.size := (Array.getElem?_eq_some_iff.1 hq).1
  have HPL := Lib.hid hpl
  have hpg : ¬ p = w.heap.size := by omega
  have HPG : Hid (p < g) := Lib.hid (by omega)
  have HBG : Hid (b < g) := Lib.hid (by omega)
  obtain ⟨c0, c1, c2, c3, c4, _⟩ := cell5 ((HB1.out.block p HPG.out).trans hq)
  rw [hW1] at c0
  have hGW : Hid (g ≤ W1.heap.size) := Lib.hid (by rw [hg]; exact HB1.out.size)
  have HW1 := Lib.hid hW1.symm
  clear hq hc hb hlev hID hR hn hp hl hW1 t c1 c2 c3 c4 hpl
  go_enter Tryd.func44, Tryd.ntmps44
  go_wp2_with fail
  rw [HW1.out, ← hg]
  clear c0 hg hpg
  go_loopw [14] (fun i wr => ∃ l : Nat, l ≤ h ∧ i = .int .i64 (l : Int) ∧ BldS g g (sibsS seed leaf l).data.toList wr ∧ g ≤ wr.heap.size ∧ Below g w wr) (fun i _ => h - (intOf i).toNat)
  case atStart => exact ⟨0, Nat.zero_le _, rfl, HBD.out, hGW.out, HB1.out⟩
  case round =>
    obtain ⟨l, hlh, rfl, hbd, hgw, hbl⟩ := hrel
    have HBDR := Lib.hid hbd
    have HGWR := Lib.hid hgw
    have HBR := Lib.hid hbl
    obtain ⟨_, _, _, _, c4, hpw⟩ := cell5 ((hbl.block p HPG.out).trans HQ.out)
    clear hbd hgw hbl
    by_cases hlt : l < h
    · have hd : decide ((l : Int) < (h : Int)) = true := by simp; omega
      obtain ⟨b', o', c', e0, e1, hb', hs⟩ := HLV.out l (by omega)
      obtain ⟨M, hM⟩ : ∃ M, M = 2 ^ (h - l) := ⟨_, rfl⟩
      rw [← hM] at e0 e1 hs
      obtain ⟨q, hq⟩ : ∃ q, q = leaf / 2 ^ l := ⟨_, rfl⟩
      have hqi : (leaf : Int) / 2 ^ l = (q : Int) := by rw [hq]; exact int_div_pow leaf l
      have hmin : min l 64 = l := by omega
      have hqM : q < M := by rw [hq, hM]; exact leaf_lt HLF.out (Nat.le_of_lt hlt)
      have hM8 : M ≤ 256 := by rw [hM]; exact (pow_small (by have := HH.out; omega)).1
      obtain ⟨x, hx⟩ : ∃ x, x = sibQ q := ⟨_, rfl⟩
      have hxo : bits BinOp.xor .i64 (q : Int) 1 = (x : Int) := by rw [hx]; exact xor_one (by omega)
      have hxM : x < M := by rw [hx, hM]; exact sib_lt (by omega) (by rw [← hM]; exact hqM)
      have hxi : (x : Int) < (M : Int) := by omega
      have hli : (l : Int) < (n : Int) := by have := HN.out; omega
      have hln : l < n := by have := HN.out; omega
      have y0 := (HBR.out.cell (p := ⟨b, o + l, none⟩) HBG.out).trans e0
      have y1 := (HBR.out.cell (p := ⟨b', o' + x, none⟩) (show b' < g by rw [HG.out]; exact hb')).trans (hs x hxM)
      obtain ⟨y, hy⟩ : ∃ y, y = nodeS seed l x := ⟨_, rfl⟩
      have hys : y.size = 16 := by rw [hy]; exact nodeS_size _ _ _
      rw [← hy] at y1
      have HSB : Hid ((sibsS seed leaf (l + 1)).data.toList = (sibsS seed leaf l).data.toList ++ y.data.toList) := Lib.hid (by rw [sibsS_next, str_add, hy, hx, hq])
      obtain ⟨D, hD⟩ : ∃ D, D = (sibsS seed leaf l).data.toList := ⟨_, rfl⟩
      have hDl : D.length = l * 16 := by rw [hD]; exact sibsS_size seed leaf l
      rw [← hD] at HBDR HSB
      have HWS := Lib.hid (writeString_s g g D y wr HBDR.out (by rw [hDl, hys]; have := HH.out; omega) HGWR.out)
      have HLT := Lib.hid hlt
      clear hM hq hx hy e0 hb' hs hD hDl hys
      go_wp2_with (go_at_call 63; (with_reducible refine HWS.out.mono ?_); rintro e w2 ⟨rfl, hbd2, hb2⟩; have HBD2 := Lib.hid hbd2; have HB2 := Lib.hid hb2; clear hbd2 hb2)
      go_roundw
      case rel => exact ⟨l + 1, HLT.out, by go_num, by rw [HSB.out]; exact HBD2.out, Nat.le_trans HGWR.out HB2.out.size, HBR.out.trans HB2.out⟩
      case measure => have := HLT.out; simp [intOf]; omega
    · have hlh' : l = h := by omega
      subst hlh'
      have hd : decide ((l : Int) < (l : Int)) = false := by simp
      have HST := Lib.hid (string_s g g _ wr HBDR.out HGWR.out)
      go_wp2_with (go_at_call 64; (with_reducible refine HST.out.mono ?_); rintro e w2 ⟨rfl, hb2⟩; have HB2 := Lib.hid hb2; clear hb2)
      go_ret
      refine ⟨by rw [Array.toArray_toList]; rfl, ?_⟩
      rw [← HG.out]
      exact HBR.out.trans HB2.out

set_option maxRecDepth 100000 in
set_option maxHeartbeats 2000000 in
theorem msign_range (p : Nat) (seed : ByteArray) (h : Nat) (leaf : Int) (m : ByteArray) (w : World) (t : TreeAt w p seed h) (hl : ¬ (0 ≤ leaf ∧ leaf < ((2 ^ h : Nat) : Int))) :
    Calls Tryd.prog 17 #[.pointer (some ⟨p, 0, none⟩), .int .i64 leaf, .string m] w fun e w' => e = .returned (.tuple #[.string ⟨#[]⟩, .int .i64 1]) ∧ Below w.heap.size w w' := by
  have HE := Lib.hid (mempty_no t)
  obtain ⟨N, hN⟩ : ∃ N, N = 2 ^ h := ⟨_, rfl⟩
  have HL : Hid (∀ W : World, TreeAt W p seed h → Calls Tryd.prog 15 #[.pointer (some ⟨p, 0, none⟩)] W fun e w' => e = .returned (.int .i64 (N : Int)) ∧ Below W.heap.size W w') := Lib.hid fun W ht => by rw [hN]; exact mleavest_any p seed h W ht
  rw [← hN] at hl
  have HT := Lib.hid t
  clear t hN
  by_cases h0 : leaf < 0
  · have d0 : decide (leaf < 0) = true := by simp; omega
    clear hl
    go_enter Tryd.func17, Tryd.ntmps17
    go_wp2_with (go_at_call 36; (with_reducible refine HE.out.mono ?_); rintro e w1 ⟨rfl, hb1⟩; have HB1 := Lib.hid hb1; clear hb1)
    go_ret2
    exact ⟨rfl, HB1.out⟩
  · have d0 : decide (leaf < 0) = false := by simp; omega
    have h1 : (N : Int) ≤ leaf := by omega
    have d1 : decide ((N : Int) ≤ leaf) = true := by simp; omega
    clear hl
    go_enter Tryd.func17, Tryd.ntmps17
    go_wp2_with (first
      | (go_at_call 36; (with_reducible refine HE.out.mono ?_); rintro e w1 ⟨rfl, hb1⟩; have HB1 := Lib.hid hb1; have HT1 := Lib.hid (TreeAt.keep _ _ _ _ _ HT.out hb1); clear hb1)
      | (go_at_call 15; (with_reducible refine (HL.out _ HT1.out).mono ?_); rintro e w2 ⟨rfl, hb2⟩; have HB2 := Lib.hid (HB1.out.next hb2); clear hb2))
    go_ret2
    exact ⟨rfl, HB2.out⟩

set_option maxRecDepth 100000 in
set_option maxHeartbeats 4000000 in
theorem msign_ok (p : Nat) (seed : ByteArray) (h leaf : Nat) (m : ByteArray) (w : World) (t : TreeAt w p seed h) (hl : leaf < 2 ^ h) (hs : seed.size = 32) (hm : m.size ≤ 1000000000) (hK : Holds w 0 kWords) :
    Calls Tryd.prog 17 #[.pointer (some ⟨p, 0, none⟩), .int .i64 (leaf : Int), .string m] w fun e w' => e = .returned (someV (sigT seed h leaf m)) ∧ Below w.heap.size w w' := by
  have hh := t.1
  have hp := pow_small hh
  have hl256 : leaf < 256 := by omega
  obtain ⟨ID, hID⟩ : ∃ ID, ID = idT seed := ⟨_, rfl⟩
  obtain ⟨R, hR⟩ : ∃ R, R = rootS seed h := ⟨_, rfl⟩
  have hIDs : ID.size = 16 := by rw [hID]; exact idT_size seed
  have hRs : R.size = 16 := by rw [hR]; exact rootS_size seed h
  obtain ⟨dg, hdg⟩ : ∃ dg, dg = dgM ID R leaf m := ⟨_, rfl⟩
  have HE := Lib.hid (mempty_no t)
  obtain ⟨N, hN⟩ : ∃ N, N = 2 ^ h := ⟨_, rfl⟩
  have HL : Hid (∀ W : World, TreeAt W p seed h → Calls Tryd.prog 15 #[.pointer (some ⟨p, 0, none⟩)] W fun e w' => e = .returned (.int .i64 (N : Int)) ∧ Below W.heap.size W w') := Lib.hid fun W ht => by rw [hN]; exact mleavest_any p seed h W ht
  have HDG : Hid (∀ W : World, Holds W 0 kWords → Calls Tryd.prog 42 #[.agg #[.int .i64 (h : Int), .string ID, .string R], .int .i64 (leaf : Int), .string m] W fun e w' => e = .returned (.string dg) ∧ Below W.heap.size W w') := Lib.hid fun W hk => by
    rw [hdg]
    exact mdig_any (h : Int) ID R m leaf (by omega) (by omega) (by omega) hm W hk
  obtain ⟨SG, hSG⟩ : ∃ SG, SG = otsS seed h leaf m := ⟨_, rfl⟩
  have hSGs : SG.size = 560 := by rw [hSG]; exact otsS_size _ _ _ _
  have HSO : Hid (∀ W : World, Holds W 0 kWords → Calls Tryd.prog 41 #[.string ID, .string seed, .int .i64 (leaf : Int), .string dg] W fun e w' => e = .returned (.tuple #[.string SG, .int .i64 0]) ∧ Below W.heap.size W w') := Lib.hid fun W hk => by
    have h1 := sigP ID seed dg (leaf : Int) W hk
    have h2 : sigE ID seed (leaf : Int) dg = 0 := by
      unfold sigE chkQ
      rw [if_pos (show (if ID.size = 16 ∧ seed.size = 32 then (if 0 ≤ (leaf : Int) ∧ (leaf : Int) < 256 then 0 else 1) else 18) = 0 by rw [if_pos ⟨hIDs, hs⟩, if_pos (by omega)]), if_pos (by rw [hdg]; exact dgM_size _ _ _ _)]
    unfold sigV at h1
    rw [if_pos h2] at h1
    have h3 : sigS ID seed (leaf : Int).toNat (digs dg.data.toList) = SG := by rw [hSG, hdg, hID, hR]; rfl
    rw [h3] at h1
    exact h1
  obtain ⟨SB, hSB⟩ : ∃ SB, SB = sibsS seed leaf h := ⟨_, rfl⟩
  have hSBs : SB.size = h * 16 := by rw [hSB]; exact sibsS_size _ _ _
  have HSB : Hid (∀ W : World, TreeAt W p seed h → Calls Tryd.prog 44 #[.pointer (some ⟨p, 0, none⟩), .int .i64 (leaf : Int)] W fun e w' => e = .returned (.string SB) ∧ Below W.heap.size W w') := Lib.hid fun W ht => by rw [hSB]; exact msibs_any p seed h leaf hl W ht
  obtain ⟨P4, hP4⟩ : ∃ P4, P4 = strOf (b4 leaf) := ⟨_, rfl⟩
  have hP4s : P4.size = 4 := by rw [hP4]; rfl
  have HPB : Hid (∀ W : World, Calls Tryd.prog 43 #[.int .i64 (leaf : Int)] W fun e w' => e = .returned (.string P4) ∧ Below W.heap.size W w') := Lib.hid fun W => by rw [hP4]; exact mp4_any leaf (by omega) W
  obtain ⟨S0, hS0⟩ : ∃ S0, S0 = P4 ++ SG := ⟨_, rfl⟩
  have hS0s : S0.size = 564 := by rw [hS0, ByteArray.size_append, hP4s, hSGs]
  obtain ⟨S1, hS1⟩ : ∃ S1, S1 = S0 ++ SB := ⟨_, rfl⟩
  have HRES : Hid (sigT seed h leaf m = S1) := Lib.hid (by unfold sigT; rw [hS1, hS0, hP4, hSG, hSB])
  have hsum : ((P4.size : Nat) : Int) + ((SG.size : Nat) : Int) ≤ 9223372036854775807 := by rw [hP4s, hSGs]; omega
  have hsum2 : ((S0.size : Nat) : Int) + ((SB.size : Nat) : Int) ≤ 9223372036854775807 := by rw [hS0s, hSBs]; omega
  have happ : P4 ++ SG = S0 := hS0.symm
  have happ2 : S0 ++ SB = S1 := hS1.symm
  rw [← hN] at hl
  have d0 : decide ((leaf : Int) < 0) = false := by simp
  have d1 : decide ((N : Int) ≤ (leaf : Int)) = false := by simp; omega
  have dln : ¬ N ≤ leaf := by omega
  have hTC : ∀ W : World, TreeAt W p seed h → ∃ b o c, W.heap[p]? = some (.cells #[.int .i64 (h : Int), .string ID, .string R, .string seed, .slice (some ⟨b, o, none⟩) (h + 1) c] 45 (0, 0)) := fun W ht => by
    obtain ⟨b, o, c, e, _⟩ := ht.open
    rw [← hID, ← hR] at e
    exact ⟨b, o, c, e⟩
  have HTC := Lib.hid hTC
  have HT := Lib.hid t
  have HK := Lib.hid hK
  rw [HRES.out]
  unfold someV
  clear hh hp hID hR hIDs hRs hdg hN hSG hSGs hSB hSBs hP4 hP4s hS0 hS0s hS1 hTC t hK hs hm hl hl256
  go_enter Tryd.func17, Tryd.ntmps17
  go_wp2_with (first
    | (go_at_call 36; (with_reducible refine HE.out.mono ?_); rintro e w1 ⟨rfl, hb1⟩; have HB1 := Lib.hid hb1; have HT1 := Lib.hid (TreeAt.keep _ _ _ _ _ HT.out hb1); clear hb1)
    | (go_at_call 15; (with_reducible refine (HL.out _ HT1.out).mono ?_); rintro e w2 ⟨rfl, hb2⟩; have HB2 := Lib.hid (HB1.out.next hb2); have HT2 := Lib.hid (TreeAt.keep _ _ _ _ _ HT1.out hb2); obtain ⟨b, o, c, hq2⟩ := HTC.out _ HT2.out; obtain ⟨c0, c1, c2, c3, c4, hpl⟩ := cell5 hq2; have HQ2 := Lib.hid hq2; clear hb2 hq2))
  obtain ⟨K, hKK⟩ : ∃ K, K = w2.heap.size := ⟨_, rfl⟩
  obtain ⟨W3, hW3⟩ : ∃ W3, W3 = w2.alloc (.cells #[.int .i64 (h : Int), .string ID, .string R] 43) := ⟨_, rfl⟩
  rw [← hW3, ← hKK]
  have hq3 : W3.heap[p]? = some (.cells #[.int .i64 (h : Int), .string ID, .string R, .string seed, .slice (some ⟨b, o, none⟩) (h + 1) c] 45 (0, 0)) := by rw [hW3]; exact ((belowNew w2 _).block p (Array.getElem?_eq_some_iff.1 HQ2.out).1).trans HQ2.out
  have hk3 : W3.heap[K]? = some (.cells #[.int .i64 (h : Int), .string ID, .string R] 43 (0, 0)) := by rw [hW3, hKK]; exact heap_alloc_new w2 _
  have HB3 : Hid (Below w.heap.size w W3) := Lib.hid (by rw [hW3]; exact HB2.out.next (belowNew w2 _))
  have HT3 : Hid (TreeAt W3 p seed h) := Lib.hid (by rw [hW3]; exact TreeAt.keep _ _ _ _ _ HT2.out (belowNew w2 _))
  clear c0 c1 c2 c3 c4 hpl
  obtain ⟨_, _, _, c3, _, hpl⟩ := cell5 hq3
  obtain ⟨k0, k1, k2, hkl⟩ := tcell hk3
  have HPL := Lib.hid hpl
  have HKL := Lib.hid hkl
  clear hW3 hKK hq3 hk3 d0 d1 dln hpl hkl
  go_region_held3 (fun w' => w'.cell? ⟨K, 0, none⟩ = some (.int .i64 (h : Int)) ∧ w'.cell? ⟨K, 1, none⟩ = some (.string ID) ∧ w'.cell? ⟨K, 2, none⟩ = some (.string R) ∧ w'.cell? ⟨p, 3, none⟩ = some (.string seed)) (first | with_reducible exact ⟨by assumption, by assumption, by assumption, by assumption⟩ | go_keep)
    (first
      | (go_at_call 42; (with_reducible refine (HDG.out _ (HK.out.old (by first | exact HB3.out | exact HB3.out.drew))).mono ?_); rintro e w4 ⟨rfl, hb4⟩; have hx : Below W3.heap.size W3 w4 := (by first | exact hb4 | exact (Below.refl _ _).drew.trans hb4); have s0 := (hx.cell (p := ⟨K, 0, none⟩) HKL.out).trans k0; have s1 := (hx.cell (p := ⟨K, 1, none⟩) HKL.out).trans k1; have s2 := (hx.cell (p := ⟨K, 2, none⟩) HKL.out).trans k2; have s3 := (hx.cell (p := ⟨p, 3, none⟩) HPL.out).trans c3; have HB4 := Lib.hid hx; clear hb4 hx)
      | (go_at_call 41; (with_reducible refine (HSO.out _ (HK.out.old (HB3.out.next HB4.out))).mono ?_); rintro e w5 ⟨rfl, hb5⟩; have hx : Below W3.heap.size W3 w5 := HB4.out.next hb5; have s4 := (hx.cell (p := ⟨K, 0, none⟩) HKL.out).trans k0; have s5 := (hx.cell (p := ⟨K, 1, none⟩) HKL.out).trans k1; have s6 := (hx.cell (p := ⟨K, 2, none⟩) HKL.out).trans k2; have s7 := (hx.cell (p := ⟨p, 3, none⟩) HPL.out).trans c3; have HB5 := Lib.hid hx; clear hb5 hx))
  clear s0 s1 s2 s3 s4 s5 s6 s7 k0 k1 k2 c3
  go_wp2_with (first
    | (go_at_call 43; (with_reducible refine (HPB.out _).mono ?_); rintro e w6 ⟨rfl, hb6⟩; have HB6 := Lib.hid (HB5.out.next hb6); clear hb6)
    | (go_at_call 44; (with_reducible refine (HSB.out _ (TreeAt.keep _ _ _ _ _ HT3.out HB6.out)).mono ?_); rintro e w7 ⟨rfl, hb7⟩; have HB7 := Lib.hid (HB6.out.next hb7); clear hb7))
  go_ret2
  exact ⟨rfl, HB3.out.next HB7.out⟩

theorem msign_any (p : Nat) (seed : ByteArray) (h : Nat) (leaf : Int) (m : ByteArray) (w : World) (t : TreeAt w p seed h) (hs : seed.size = 32) (hm : m.size ≤ 1000000000) (hK : Holds w 0 kWords) :
    Calls Tryd.prog 17 #[.pointer (some ⟨p, 0, none⟩), .int .i64 leaf, .string m] w fun e w' => e = .returned (signV seed h leaf m) ∧ Below w.heap.size w w' := by
  unfold signV
  by_cases hl : 0 ≤ leaf ∧ leaf < ((2 ^ h : Nat) : Int)
  · rw [if_pos hl]
    obtain ⟨n, rfl⟩ : ∃ n : Nat, leaf = (n : Int) := ⟨leaf.toNat, by omega⟩
    rw [Int.toNat_natCast]
    exact msign_ok p seed h n m w t (by omega) hs hm hK
  · rw [if_neg hl]
    exact msign_range p seed h leaf m w t hl
end Go.Proofs.YtnmcocolahgfnaaDoor
