/-
  A general name that can be read: its cells, and what lies behind its name.
  What every card of this seat's laws over gname needs: how a slice of bytes is opened, how seven arguments are opened, and that the laws' functions only read what they are handed.
  A slice of numbers that can be read: its numbers lie at its address.
  Parameters that are constraints, states and reduced states: their cells, and what lies behind them.
  The contracts of the law's short and sameState.
  A row of constraints whose general names lie where they lay; and the cells of constraints that lie somewhere, as a list.
  Rows of general names of which the names lie somewhere; the contracts of subjectNames and PermitsAll, of package subtree and of the reference.
  The cells of general names that lie somewhere, as a list; slices.Clone over them; one row appended to another.
  What the functions inside permittedOf and withinEach say.
-/
import Derived.Test.YtofadgmnjckpcaaGreatDoorVbe
import Derived.Test.YtofadgmnjckpcaaGreatDoorVao
import Derived.Test.YtofadgmnjckpcaaGreatDoorCards
import Derived.Test.YtofadgmnjckpcaaGreatDoorTie
import Derived.Test.YtofadgmnjckpcaaGreatDoorVap
import Derived.Test.YtofadgmnjckpcaaGreatDoorVae
import Derived.ProofKit
import Derived.OpenShut
import Derived.Deep.DeepHandedRow
import Derived.Deep.DeepWitnessRowRef
import Derived.Lay
import Derived.Stop.LaidErr
import Derived.Test.YtofadgmnjckpcaaGreatDoorVar
import Derived.Lib.QuietBelow
import Derived.BigQuiet
import Derived.Test.YtofadgmnjckpcaaGreatDoorVbd
import Derived.Test.YtofadgmnjckpcaaGreatDoorVag
import Derived.Test.YtofadgmnjckpcaaGreatDoorVba
namespace Go.Proofs.YtofadgmnjckpcaaGreatDoor
open Go.ChangeShapes Go.WideShapes Go.ChangeAt Go.RowKit Go.ChangeMaps Go.Deep

theorem bigG_of {k : Int} {t : List UInt8} {n : Nm} (ht : t.length ≤ 9223372036854775807) (hn : NameOk n) : BigG (k, t, n) :=
  ⟨ht, hn.1, fun i hi => ⟨(hn.2 i hi).1, fun j hj => ⟨((hn.2 i hi).2 j hj).1, ((hn.2 i hi).2 j hj).2.1⟩⟩⟩
set_option maxRecDepth 10000 in
/-- One general name, of three cells. -/
theorem open_gn {H : Type} {enc : TypeId × Value → H} {W : World} {n : Nat} {cs : List Value} {x : DataW H × List MemPlace} (h : DataW.trod enc Tryz.prog W 0 (fun _ => true) true n 32 cs = some x) :
    ∃ (k : Int) (t : List UInt8) (a : Option Addr) (c : Nat) (m : Nm), cs = [.int .i64 k, .string (strOf t), .slice a m.length c] ∧ m.length ≤ c ∧ RLies W a m ∧ BigG (k, t, m) := by
  obtain ⟨xs, k, _, _, hl, hlen, hfd⟩ := DataW.trod_struct Tryz.underlying32 h
  have c1 : Tryz.prog.cellsOf 3 = 1 := by kernel_rfl
  have c2 : Tryz.prog.cellsOf 9 = 1 := by kernel_rfl
  have c3 : Tryz.prog.cellsOf 32 = 3 := by kernel_rfl
  have c4 : Tryz.prog.cellsOf 30 = 1 := by kernel_rfl
  have c5 : Tryz.prog.cellsOf 28 = 1 := by kernel_rfl
  have hlen3 : xs.length = 3 := hlen
  have hs3 : cs.length = 3 := hl.trans c3
  match xs, hlen3 with
  | [y0, y1, y2], _ =>
    match cs, hs3 with
    | [z0, z1, z2], _ =>
      have g0 : DataW.trod enc Tryz.prog W 0 (fun _ => true) true k 3 (([z0, z1, z2].drop 0).take (Tryz.prog.cellsOf 3)) = some y0 := hfd 0 _ rfl
      rw [c1] at g0
      obtain ⟨n0, e0, _, _⟩ := DataW.trod_int Tryz.underlying3 g0
      have g1 : DataW.trod enc Tryz.prog W 0 (fun _ => true) true k 9 (([z0, z1, z2].drop 1).take (Tryz.prog.cellsOf 9)) = some y1 := hfd 1 _ rfl
      rw [c2] at g1
      obtain ⟨s1, e1, _, w1⟩ := DataW.trod_string Tryz.underlying9 g1
      have g2 : DataW.trod enc Tryz.prog W 0 (fun _ => true) true k 30 (([z0, z1, z2].drop 2).take (Tryz.prog.cellsOf 30)) = some y2 := hfd 2 _ rfl
      rw [c4] at g2
      obtain ⟨xs2, k2, _, _, _, hlen2, hfd2⟩ := DataW.trod_struct Tryz.underlying30 g2
      have hlen1 : xs2.length = 1 := hlen2
      match xs2, hlen1 with
      | [u0], _ =>
        have g3 : DataW.trod enc Tryz.prog W 0 (fun _ => true) true k2 28 ((((([z0, z1, z2] : List Value).drop 2).take 1).drop 0).take (Tryz.prog.cellsOf 28)) = some u0 := hfd2 0 _ rfl
        rw [c5] at g3
        obtain ⟨a, c, m, e2, h3, h1, h2⟩ := open_rdns (z := z2) (by simpa using g3)
        have r0 : z0 = .int .i64 n0 := by simpa using e0
        have r1 : z1 = .string s1 := by simpa using e1
        refine ⟨n0, s1.data.toList, a, c, m, by rw [r0, r1, e2]; rfl, h3, h1, bigG_of ?_ h2⟩
        show s1.size ≤ _
        unfold maxLen at w1; omega
set_option maxRecDepth 10000 in
theorem open_gname {H : Type} {enc : TypeId × Value → H} {W : World} {r : Reach} {b0 : Nat} {v : Value} {d : DataW H} {p : List MemPlace}
    (hval : Value.okWide Tryz.prog W r b0 32 v) (h : DataW.Trod enc Tryz.prog W 0 (fun _ => true) true 32 v d p) :
    ∃ (k : Int) (t : List UInt8) (a : Option Addr) (c : Nat) (m : Nm), v = .agg #[.int .i64 k, .string (strOf t), .slice a m.length c] ∧ m.length ≤ c ∧ RLies W a m ∧ BigG (k, t, m) := by
  unfold Value.okWide at hval
  rw [Tryz.underlying32] at hval
  obtain ⟨cs, rfl, _, _⟩ := hval
  obtain ⟨fuel, hf⟩ := h
  obtain ⟨k, t, a, c, m, e, h1, h2, h3⟩ := open_gn hf
  refine ⟨k, t, a, c, m, ?_, h1, h2, h3⟩
  have hcl : (Value.agg cs).cells.toList = cs.toList := rfl
  rw [hcl] at e
  congr 1
  exact Array.toList_inj.1 e
end Go.Proofs.YtofadgmnjckpcaaGreatDoor
namespace Go.Proofs.YtofadgmnjckpcaaGreatDoor
open Go.ChangeShapes Go.WideShapes Go.ChangeAt Go.RowKit Go.ChangeMaps

theorem own : ownKnob Tryz.prog.godebug = none := by kernel_rfl

/-- What was handed in reads as it read, for a call that leaves old memory alone. -/
theorem below_trodAll {H : Type} {enc : TypeId × Value → H} {W W' : World} (hb : Below W.heap.size W W') :
    ∀ (ts : List TypeId) (vs : List Value) (ds : List (DataW H)) (ps : List MemPlace), (∀ t ∈ ts, Tryz.prog.readableRec t = true ∧ t < Tryz.prog.types.size) → (∀ x ∈ ps, x.block < W.heap.size) →
      DataW.TrodAll enc Tryz.prog W 0 (fun _ => true) true ts vs ds ps → DataW.TrodAll enc Tryz.prog W' 0 (fun b => decide (b < W.heap.size)) true ts vs ds ps := by
  intro ts
  induction ts with
  | nil => intro vs ds ps _ _ h; obtain ⟨rfl, rfl, rfl⟩ := trodAll_nil h; exact trodAll_mk0
  | cons t ts ih =>
    intro vs ds ps ht hp h
    obtain ⟨v, vs', d, ds', p, q, rfl, rfl, rfl, h1, h2⟩ := trodAll_cons h
    exact trodAll_cons_mk (Below.trod laidOut (ht t (by simp)).1 (ht t (by simp)).2 h1 hb (fun x hx => hp x (by simp [hx]))) (ih vs' ds' q (fun u hu => ht u (by simp [hu])) (fun x hx => hp x (by simp [hx])) h2)

end Go.Proofs.YtofadgmnjckpcaaGreatDoor
namespace Go.Proofs.YtofadgmnjckpcaaGreatDoor
open Go.ChangeShapes Go.WideShapes Go.ChangeAt Go.RowKit

set_option maxRecDepth 10000 in
theorem open_nums {H : Type} {enc : TypeId × Value → H} {W : World} {a0 : Option Addr} {len cap : Nat} {d : DataW H} {p : List MemPlace}
    (h : DataW.Trod enc Tryz.prog W 0 (fun _ => true) true 33 (.slice a0 len cap) d p) : ∃ zs : List Int, len = zs.length ∧ ILies W a0 zs ∧ zs.length ≤ 9223372036854775807 := by
  obtain ⟨fuel, hf⟩ := h
  have cb : Tryz.prog.cellsOf 3 = 1 := by kernel_rfl
  rcases open_ints Tryz.underlying33 Tryz.underlying3 cb hf with ⟨hcs, _⟩ | ⟨a, len', cap', zs, hcs, _, hl, hcm, hz, _, hcell, _⟩
  · simp [Value.cells] at hcs
    obtain ⟨rfl, rfl, rfl⟩ := hcs
    exact ⟨[], rfl, .inl rfl, by simp⟩
  · simp [Value.cells] at hcs
    obtain ⟨rfl, rfl, rfl⟩ := hcs
    by_cases h0 : len = 0
    · subst h0
      exact ⟨[], rfl, .inl rfl, by simp⟩
    · have hzl : len ≤ zs.length := by rw [hz]; simpa using hl
      obtain ⟨b, off, rfl, hc⟩ := ints_at hcell (by omega)
      have e : (zs.take len).length = len := by rw [List.length_take]; omega
      refine ⟨zs.take len, e.symm, .inr ⟨b, off, rfl, fun i hi => ?_⟩, by rw [e]; unfold maxLen at hcm; omega⟩
      rw [e] at hi
      rw [hc i (by omega)]
      congr 2
      rw [List.getD_eq_getElem?_getD, List.getD_eq_getElem?_getD, List.getElem?_take_of_lt hi]

end Go.Proofs.YtofadgmnjckpcaaGreatDoor
namespace Go.Proofs.YtofadgmnjckpcaaGreatDoor
open Go.ChangeShapes Go.WideShapes Go.ChangeAt Go.RowKit Go.ChangeMaps Go.Deep

def BigL (l : List Gn) : Prop := l.length ≤ 9223372036854775807 ∧ ∀ i, i < l.length → BigG (l.getD i noG)
set_option maxRecDepth 10000 in
theorem open_gns {H : Type} {enc : TypeId × Value → H} {W : World} {n : Nat} {z : Value} {x : DataW H × List MemPlace} (h : DataW.trod enc Tryz.prog W 0 (fun _ => true) true n 25 [z] = some x) :
    ∃ (a : Option Addr) (c : Nat) (l : List Gn), z = .slice a l.length c ∧ l.length ≤ c ∧ GLies W a l ∧ BigL l := by
  have c3 : Tryz.prog.cellsOf 32 = 3 := by kernel_rfl
  rcases open_slice Tryz.underlying25 h with ⟨hcs, _⟩ | ⟨a, len, cap, m, k, D, Pl, hcs, _, hl, hm, hmm, _, hx⟩
  · exact ⟨none, 0, [], by simpa using hcs, Nat.le_refl _, .inl rfl, by simp, fun i hi => absurd hi (Nat.not_lt_zero _)⟩
  · have hlm : len ≤ m := by rw [hmm]; split <;> omega
    obtain ⟨f, hf⟩ := choose_lt (α := Gn) (n := len) (p := fun i g => BigG g ∧ W.cell? (a.add (i * 3)) = some (.int .i64 g.1) ∧ W.cell? (a.add (i * 3 + 1)) = some (.string (strOf g.2.1)) ∧ ∃ a' c', W.cell? (a.add (i * 3 + 2)) = some (.slice a' g.2.2.length c') ∧ g.2.2.length ≤ c' ∧ RLies W a' g.2.2) (fun i hi => by
      obtain ⟨cs', h1, h2⟩ := hx i (by omega)
      obtain ⟨q, t, a', c', n, rfl, k1, k2, k3⟩ := open_gn h2
      rw [c3] at h1
      obtain ⟨_, _, hc⟩ := World.cells?_some h1
      have e0 := hc 0 (by omega)
      have e1 := hc 1 (by omega)
      have e2 := hc 2 (by omega)
      rw [add_add] at e0 e1 e2
      exact ⟨(q, t, n), k3, by simpa using e0, by simpa using e1, a', c', by simpa using e2, k1, k2⟩)
    refine ⟨some a, cap, (List.range len).map f, by simpa using hcs, by simpa using hl, ?_, by simp; unfold maxLen at hm; omega, fun i hi => ?_⟩
    · by_cases h0 : len = 0
      · exact .inl (by rw [h0]; rfl)
      · obtain ⟨b, off, spot⟩ := a
        have hspot : spot = none := by
          have := (hf 0 (by omega)).2.1
          simpa [Addr.add] using World.cell?_spot this
        subst hspot
        refine .inr ⟨b, off, rfl, fun i hi => ?_⟩
        simp at hi
        rw [getD_map_range _ _ _ hi]
        obtain ⟨_, q1, q2, a', c', q3, q4, q5⟩ := hf i hi
        rw [Go.WideShapes.add_plain] at q1 q2 q3
        exact ⟨q1, by simpa [Nat.add_assoc] using q2, a', c', by simpa [Nat.add_assoc] using q3, q4, q5⟩
    · simp at hi
      rw [getD_map_range _ _ _ hi]
      exact (hf i hi).1
end Go.Proofs.YtofadgmnjckpcaaGreatDoor
namespace Go.Proofs.YtofadgmnjckpcaaGreatDoor
open Go.RowKit

def ShL (l : List Gn) : Prop := l.length ≤ 20 ∧ ∀ i, i < l.length → ShG (l.getD i noG)
theorem ShL.sm {l : List Gn} (h : ShL l) : SmL l := fun g hg => by
  obtain ⟨i, hi, rfl⟩ := List.getElem_of_mem hg
  have := h.2 i hi
  rw [List.getD_eq_getElem?_getD, List.getElem?_eq_getElem hi] at this
  exact ⟨Nat.le_trans this.1 (by omega), ShN.small this.2⟩
end Go.Proofs.YtofadgmnjckpcaaGreatDoor
namespace Go.Proofs.YtofadgmnjckpcaaGreatDoor
open Go.RowKit

theorem list_of {α : Type} (d : α) (P : Nat → α → Prop) : ∀ n : Nat, (∀ i, i < n → ∃ s, P i s) → ∃ ss : List α, ss.length = n ∧ ∀ i, i < n → P i (ss.getD i d)
  | 0, _ => ⟨[], rfl, fun i hi => absurd hi (Nat.not_lt_zero _)⟩
  | n + 1, h => by
    obtain ⟨ss, h1, h2⟩ := list_of d P n (fun i hi => h i (by omega))
    obtain ⟨s, hs⟩ := h n (by omega)
    refine ⟨ss ++ [s], by simp [h1], fun i hi => ?_⟩
    by_cases hlt : i < n
    · rw [getD_snoc_lt _ _ _ _ (by omega)]; exact h2 i hlt
    · obtain rfl : i = n := by omega
      rw [← h1, getD_snoc_eq, h1]; exact hs
/-- The two cells of a constraint. -/
def SubV (w : World) (s : Value × Value) (x : Sub) : Prop := ∃ a1 c1 a2 c2, s = (.slice a1 x.1.length c1, .slice a2 x.2.length c2) ∧ (x.1.length ≤ c1 ∧ GLies w a1 x.1) ∧ x.2.length ≤ c2 ∧ GLies w a2 x.2
theorem SubV.below {w w' : World} {s : Value × Value} {x : Sub} (h : SubV w s x) (hb : Below w.heap.size w w') : SubV w' s x := by
  obtain ⟨a1, c1, a2, c2, h0, ⟨h1, h2⟩, h3, h4⟩ := h
  exact ⟨a1, c1, a2, c2, h0, ⟨h1, h2.below hb⟩, h3, h4.below hb⟩
end Go.Proofs.YtofadgmnjckpcaaGreatDoor
namespace Go.Proofs.YtofadgmnjckpcaaGreatDoor
open Go.RowKit

/-- The slice value v, of memory from block B on, holds the general names l, the names of which are as Q says. -/
def RowQ (Q : Option Addr → Nm → Prop) (w : World) (B : Nat) (v : Value) (l : List Gn) : Prop := ∃ ss : List Value, ss.length = l.length ∧ w.ownsRow B 32 3 v l.length (gsCells l ss) ∧ ∀ i, i < l.length → ∃ a c, ss.getD i noS = .slice a (l.getD i noG).2.2.length c ∧ (l.getD i noG).2.2.length ≤ c ∧ Q a (l.getD i noG).2.2
theorem RowQ.nil (Q : Option Addr → Nm → Prop) (w : World) (B : Nat) : RowQ Q w B (.slice none 0 0) [] := ⟨[], rfl, World.ownsRow_nil _ _ _ _, fun _ hi => absurd hi (Nat.not_lt_zero _)⟩
theorem RowQ.below {Q : Option Addr → Nm → Prop} {w w' : World} {B : Nat} {v : Value} {l : List Gn} (h : RowQ Q w B v l) (hb : Below w.heap.size w w') : RowQ Q w' B v l := by
  obtain ⟨ss, h1, h2, h3⟩ := h
  exact ⟨ss, h1, own_below h2 hb, h3⟩
theorem RowQ.base {Q : Option Addr → Nm → Prop} {w : World} {B B' : Nat} {v : Value} {l : List Gn} (h : RowQ Q w B v l) (hB : B' ≤ B) : RowQ Q w B' v l := by
  obtain ⟨ss, h1, h2, h3⟩ := h
  exact ⟨ss, h1, own_base h2 hB, h3⟩
theorem RowQ.snoc {Q : Option Addr → Nm → Prop} {w' : World} {B : Nat} {v' : Value} {l : List Gn} {g : Gn} {ss : List Value} {a : Option Addr} {c : Nat} (h1 : ss.length = l.length) (h3 : ∀ i, i < l.length → ∃ a c, ss.getD i noS = .slice a (l.getD i noG).2.2.length c ∧ (l.getD i noG).2.2.length ≤ c ∧ Q a (l.getD i noG).2.2)
    (hr : Q a g.2.2) (hc : g.2.2.length ≤ c) (h4 : w'.ownsRow B 32 3 v' (l.length + 1) (gsCells l ss ++ gCells g (.slice a g.2.2.length c))) : RowQ Q w' B v' (l ++ [g]) := by
  refine ⟨ss ++ [.slice a g.2.2.length c], by simp [h1], by rw [List.length_append, gsCells_snoc l ss g _ h1]; exact h4, fun i hi => ?_⟩
  by_cases hlt : i < l.length
  · rw [getD_snoc_lt _ _ _ _ (by omega), getD_snoc_lt _ _ _ _ hlt]
    exact h3 i hlt
  · rw [List.length_append, List.length_singleton] at hi
    obtain rfl : i = l.length := by omega
    rw [getD_snoc_eq, ← h1, getD_snoc_eq]
    exact ⟨a, c, rfl, hc, hr⟩
theorem RowQ.lies {Q : Option Addr → Nm → Prop} {w : World} {B : Nat} {v : Value} {l : List Gn} (h : RowQ Q w B v l) : ∃ a c, v = .slice a l.length c ∧ l.length ≤ c ∧ GLiesQ Q w a l := by
  obtain ⟨ss, h1, h2, h3⟩ := h
  have hh := h2
  rcases h2.2 with ⟨hv, h0⟩ | ⟨g, cap, cur, hv, _, _, hcap, _⟩
  · exact ⟨none, 0, by rw [hv, h0], by omega, .inl (List.eq_nil_of_length_eq_zero h0)⟩
  · refine ⟨_, cap, hv, hcap, .inr ⟨g, 0, rfl, fun i hi => ?_⟩⟩
    rw [hv] at hh
    obtain ⟨a', c', e, q3, q⟩ := h3 i hi
    have hc : ∀ j, j < 3 → w.cell? ⟨g, i * 3 + j, none⟩ = (gCells (l.getD i noG) (ss.getD i noS))[j]? := fun j hj => by
      rw [World.ownsRow.cellAt hh (i * 3 + j) (by omega)]
      exact gs_at l ss i j h1 hi hj
    rw [Nat.zero_add]
    refine ⟨hc 0 (by omega), hc 1 (by omega), a', c', ?_, q3, q⟩
    rw [hc 2 (by omega), ← e]
    rfl
/-! ### The names of a subject -/
/-- Bounds under which the functions on subjects are known. -/
def SbN (n : Nm) : Prop := SmallN n ∧ n.length ≤ 1000 ∧ ∀ r ∈ n, r.length ≤ 1000 ∧ ∀ x ∈ r, x.2.2.size ≤ 100000
theorem SbN.at {n : Nm} (h : SbN n) {k : Nat} (hk : k < n.length) : (n.getD k []).length ≤ 1000 ∧ ∀ x ∈ n.getD k [], x.2.2.size ≤ 100000 := by
  rw [List.getD_eq_getElem?_getD, List.getElem?_eq_getElem hk]; exact h.2.2 _ (List.getElem_mem hk)
end Go.Proofs.YtofadgmnjckpcaaGreatDoor
namespace Go.Proofs.YtofadgmnjckpcaaGreatDoor
open Go.RowKit

theorem gliesq_list {Q : Option Addr → Nm → Prop} {w : World} {ad : Addr} {l : List Gn} (h : GLiesQ Q w (some ad) l) : ∃ ss : List Value, ss.length = l.length ∧ (∀ j u, (gsCells l ss)[j]? = some u → w.cell? (ad.add j) = some u) ∧ ∀ i, i < l.length → ∃ a c, ss.getD i noS = .slice a (l.getD i noG).2.2.length c ∧ (l.getD i noG).2.2.length ≤ c ∧ Q a (l.getD i noG).2.2 := by
  rcases h with h | ⟨b, o, h1, h2⟩
  · subst h
    exact ⟨[], rfl, fun j u h => by simp [gsCells] at h, fun i hi => absurd hi (Nat.not_lt_zero _)⟩
  · obtain rfl := Option.some.inj h1
    obtain ⟨ss, h3, h4⟩ := list_of noS (fun i s => ((w.cell? ⟨b, o + i * 3, none⟩ = some (.int .i64 (l.getD i noG).1) ∧ w.cell? ⟨b, o + i * 3 + 1, none⟩ = some (.string (strOf (l.getD i noG).2.1))) ∧ w.cell? ⟨b, o + i * 3 + 2, none⟩ = some s) ∧ ∃ a c, s = .slice a (l.getD i noG).2.2.length c ∧ (l.getD i noG).2.2.length ≤ c ∧ Q a (l.getD i noG).2.2) l.length (fun i hi => by
      obtain ⟨e0, e1, a, c, e2, h5, h6⟩ := h2 i hi
      exact ⟨_, ⟨⟨e0, e1⟩, e2⟩, a, c, rfl, h5, h6⟩)
    refine ⟨ss, h3, fun j u hu => ?_, fun i hi => (h4 i hi).2⟩
    have hj : j < l.length * 3 := by rw [← gsCells_length l ss h3]; exact (List.getElem?_eq_some_iff.1 hu).1
    have hi : j / 3 < l.length := by omega
    obtain ⟨⟨⟨e0, e1⟩, e2⟩, _⟩ := h4 (j / 3) hi
    have he : j = j / 3 * 3 + j % 3 := by omega
    rw [he, gs_at l ss (j / 3) (j % 3) h3 hi (by omega)] at hu
    rw [Go.WideShapes.add_plain]
    rcases (by omega : j % 3 = 0 ∨ j % 3 = 1 ∨ j % 3 = 2) with h | h | h
    · rw [h] at hu he
      rw [he]
      simp only [gCells, List.getElem?_cons_zero, Option.some.injEq] at hu
      rw [← hu]; exact e0
    · rw [h] at hu he
      rw [he]
      simp only [gCells, List.getElem?_cons_succ, List.getElem?_cons_zero, Option.some.injEq] at hu
      rw [← hu]; exact e1
    · rw [h] at hu he
      rw [he]
      simp only [gCells, List.getElem?_cons_succ, List.getElem?_cons_zero, Option.some.injEq] at hu
      rw [← hu]; exact e2
theorem gs_one : ∀ (l : List Gn) (ss : List Value), ss.length = l.length → (∀ i, i < l.length → ∃ a n c, ss.getD i noS = .slice a n c) → ∀ u ∈ gsCells l ss, u.oneCell' = true
  | [], [], _, _ => fun u hu => by simp [gsCells] at hu
  | g :: l, s :: ss, hl, h => fun u hu => by
    have hl' : ss.length = l.length := by simpa using hl
    rcases List.mem_append.1 (show u ∈ gCells g s ++ gsCells l ss from hu) with hu | hu
    · obtain ⟨a, n, c, e⟩ := h 0 (by simp)
      have e' : s = .slice a n c := e
      rw [e'] at hu
      exact gCells_one g a n c u hu
    · exact gs_one l ss hl' (fun i hi => h (i + 1) (by simpa using hi)) u hu
theorem gs_append : ∀ (l : List Gn) (ss : List Value) (m : List Gn) (tt : List Value), ss.length = l.length → gsCells (l ++ m) (ss ++ tt) = gsCells l ss ++ gsCells m tt
  | [], [], m, tt, _ => by simp [gsCells]
  | g :: l, s :: ss, m, tt, h => by
    have hl' : ss.length = l.length := by simpa using h
    show gCells g s ++ gsCells (l ++ m) (ss ++ tt) = (gCells g s ++ gsCells l ss) ++ gsCells m tt
    rw [gs_append l ss m tt hl', List.append_assoc]
/-- One row behind the other. -/
theorem RowQ.append {Q : Option Addr → Nm → Prop} {w' : World} {B : Nat} {v' : Value} {l m : List Gn} {ss tt : List Value} (h1 : ss.length = l.length) (h3 : ∀ i, i < l.length → ∃ a c, ss.getD i noS = .slice a (l.getD i noG).2.2.length c ∧ (l.getD i noG).2.2.length ≤ c ∧ Q a (l.getD i noG).2.2)
    (g1 : tt.length = m.length) (g3 : ∀ i, i < m.length → ∃ a c, tt.getD i noS = .slice a (m.getD i noG).2.2.length c ∧ (m.getD i noG).2.2.length ≤ c ∧ Q a (m.getD i noG).2.2)
    (h4 : w'.ownsRow B 32 3 v' (l.length + m.length) (gsCells l ss ++ gsCells m tt)) : RowQ Q w' B v' (l ++ m) := by
  refine ⟨ss ++ tt, by simp [h1, g1], by rw [List.length_append, gs_append l ss m tt h1]; exact h4, fun i hi => ?_⟩
  by_cases hlt : i < l.length
  · have e1 : (ss ++ tt).getD i noS = ss.getD i noS := by
      rw [List.getD_eq_getElem?_getD, List.getD_eq_getElem?_getD, List.getElem?_append_left (by omega)]
    have e2 : (l ++ m).getD i noG = l.getD i noG := by
      rw [List.getD_eq_getElem?_getD, List.getD_eq_getElem?_getD, List.getElem?_append_left hlt]
    rw [e1, e2]; exact h3 i hlt
  · rw [List.length_append] at hi
    have e1 : (ss ++ tt).getD i noS = tt.getD (i - l.length) noS := by
      rw [List.getD_eq_getElem?_getD, List.getD_eq_getElem?_getD, List.getElem?_append_right (by omega), h1]
    have e2 : (l ++ m).getD i noG = m.getD (i - l.length) noG := by
      rw [List.getD_eq_getElem?_getD, List.getD_eq_getElem?_getD, List.getElem?_append_right (by omega)]
    rw [e1, e2]; exact g3 (i - l.length) (by omega)
theorem lit_none_g (w : World) (B G : Nat) (hG : w.heap.size = G) (hB : B ≤ w.heap.size) : (w.alloc (.cells #[] 32)).ownsRow B 32 3 (.slice (some ⟨G, 0, none⟩) 0 0) 0 [] := by
  subst hG
  exact World.ownsRow_lit w #[] 0 hB (by unfold maxLen; omega) rfl
set_option maxRecDepth 100000 in
set_option maxHeartbeats 4000000 in
theorem cloneg_core (Q : Option Addr → Nm → Prop) (a0 : Option Addr) (c n : Nat) (l : List Gn) (w : World) (h : GLiesQ Q w a0 l) (hn : n = l.length) (hz : n ≤ 1000000) :
    Calls Tryz.prog 53 #[.slice a0 n c] w fun e w' => ∃ v, e = .returned v ∧ RowQ Q w' w.heap.size v l ∧ Below w.heap.size w w' := by
  obtain ⟨i1, hi', hy0, hy1, hy2⟩ := info_parts gInfo
  cases a0 with
  | none =>
    have hl : l = [] := by
      rcases h with h | ⟨b, o, h1, _⟩
      · exact h
      · cases h1
    subst hl
    obtain rfl : n = 0 := hn
    have hnil : ∀ w, (binOp .eql 25 (.slice none 0 c) (.slice none 0 0)).run Tryz.prog w = .ok (.bool true) w := fun w => run_eql_slice_nil w _ _ _ _ _ Tryz.underlying25
    clear h
    go_enter Tryz.func53, Tryz.ntmps53
    go_wp2_with fail
    go_ret
    exact ⟨_, rfl, RowQ.nil _ _ _, Below.refl _ _⟩
  | some ad =>
    obtain ⟨ss, hss, hnw, hnm⟩ := gliesq_list (h.below (belowNew w (.cells #[] 32)))
    have HO := Lib.hid (lit_none_g w w.heap.size w.heap.size rfl (Nat.le_refl _))
    have HNW := Lib.hid hnw
    have HSS := Lib.hid hss
    have HNM := Lib.hid hnm
    have HON := Lib.hid (gs_one l ss hss (fun i hi => by obtain ⟨a, c, e, _⟩ := hnm i hi; exact ⟨_, _, _, e⟩))
    have HN := Lib.hid hn
    have hnil : ∀ w, (binOp .eql 25 (.slice (some ad) n c) (.slice none 0 0)).run Tryz.prog w = .ok (.bool false) w := fun w => run_eql_slice_nil w _ _ _ _ _ Tryz.underlying25
    clear h hn hnw hss hnm
    go_enter Tryz.func53, Tryz.ntmps53
    go_wp2_with (at_builtin; ((refine wpList_append_own _ rfl (.tmp 5) (.tmp 6) 25 rfl w.heap.size 32 i1 (.agg #[.int .i64 0, .string ⟨#[]⟩, .slice none 0 0]) 3 48 Tryz.underlying25 hi' hy0 hy1 hy2 rfl (by decide) _ 0 [] rfl HO.out ad n c (gsCells l ss) rfl (by rw [gsCells_length l ss HSS.out, HN.out]) HNW.out HON.out (by unfold maxLen; omega) (by omega) (by simp) ?_); intro v' w6 hown6 hgr6 _; have HP1 := Lib.hid hown6; have HP2 := Lib.hid hgr6; clear hown6 hgr6))
    go_ret
    refine ⟨_, rfl, ?_, (belowNew w _).grown HP2.out (by simp) (fun j e => (World.ownsRow.lt HO.out j e).1)⟩
    have h1 := HP1.out
    rw [Nat.zero_add, List.nil_append, HN.out] at h1
    exact ⟨ss, HSS.out, h1, HNM.out⟩
end Go.Proofs.YtofadgmnjckpcaaGreatDoor
namespace Go.Proofs.YtofadgmnjckpcaaGreatDoor
open Go.RowKit

set_option maxRecDepth 100000 in
set_option maxHeartbeats 4000000 in
theorem permitted1_any (a : Option Addr) (c N B : Nat) (q k : Int) (t : List UInt8) (W : World) (hc : W.cell? ⟨B, 0, none⟩ = some (.int .i64 k)) (hB : B < W.heap.size) :
    Calls Tryz.prog 51 (#[.agg #[.int .i64 q, .string (strOf t), .slice a N c]] ++ #[.pointer (some ⟨B, 0, none⟩)]) W fun e w' => e = .returned (.bool (!decide (q = k))) ∧ Below W.heap.size W w' := by
  obtain ⟨W0, hW0⟩ : ∃ W0, W0 = W.alloc (.cells #[.int .i64 q, .string (strOf t), .slice a N c] 32) := ⟨_, rfl⟩
  have hwr := hW0.symm
  have hb0 : Below W.heap.size W W0 := by rw [hW0]; exact belowNew W _
  obtain ⟨b0, b1, b2, lb⟩ := three_facts (w := W0) (g := W.heap.size) (by rw [hW0]; exact heap_alloc_new W _)
  have k0 := (hb0.cell (p := ⟨B, 0, none⟩) hB).trans hc
  have HB0 := Lib.hid hb0
  clear hb0 hW0 hc
  by_cases hq : q = k
  · have d1 : (q == k) = true := beq_iff_eq.2 hq
    have d2 : (q != k) = false := by simp [hq]
    rw [decide_eq_true hq]
    clear hq
    go_enter Tryz.func51, Tryz.ntmps51
    go_wp2_with fail
    go_ret
    exact ⟨rfl, HB0.out⟩
  · have d1 : (q == k) = false := beq_eq_false_iff_ne.2 hq
    have d2 : (q != k) = true := by simp [hq]
    rw [decide_eq_false hq]
    clear hq
    go_enter Tryz.func51, Tryz.ntmps51
    go_wp2_with fail
    go_ret
    exact ⟨rfl, HB0.out⟩
set_option maxRecDepth 100000 in
set_option maxHeartbeats 4000000 in
theorem within2_any (a0 ag : Option Addr) (c m cg N B : Nat) (l : List Gn) (q : Int) (t : List UInt8) (n : Nm) (W : World) (g0 : W.cell? ⟨B, 0, none⟩ = some (.int .i64 q)) (g1 : W.cell? ⟨B, 1, none⟩ = some (.string (strOf t))) (g2 : W.cell? ⟨B, 2, none⟩ = some (.slice ag N cg)) (h : GLies W a0 l) (hm : m = l.length) (hmm : m ≤ 9223372036854775807) (hg : RLies W ag n) (hN : N = n.length) (hNc : N ≤ cg) (hs : SmG (q, t, n)) (hl : SmL l) (hmk : Mk W) :
    Calls Tryz.prog 56 (#[.slice a0 m c] ++ #[.pointer (some ⟨B, 0, none⟩)]) W fun e w' => e = .returned (.bool (!inG (q, t, n) l)) ∧ Below W.heap.size W w' := by
  have HX := Lib.hid (withinany_core a0 ag c m cg N l q t n W h hm hmm hg hN hNc hs hl hmk)
  clear h hm hg hN hNc hs hl hmk
  generalize inG (q, t, n) l = E at HX
  go_enter Tryz.func56, Tryz.ntmps56
  go_wp2_with (go_at_call 47; (with_reducible refine HX.out.mono ?_); rintro e w3 ⟨rfl, hb3⟩; have HB3 := Lib.hid hb3; clear hb3)
  go_ret
  exact ⟨rfl, HB3.out⟩
/-- Lists of general names lie in a row. -/
def LLies (w : World) (a : Option Addr) (L : List (List Gn)) : Prop :=
  L = [] ∨ ∃ b o, a = some ⟨b, o, none⟩ ∧ ∀ i, i < L.length → ∃ a1 c1, w.cell? ⟨b, o + i, none⟩ = some (.slice a1 (L.getD i []).length c1) ∧ (L.getD i []).length ≤ c1 ∧ GLies w a1 (L.getD i [])
theorem LLies.at {w : World} {a : Option Addr} {L : List (List Gn)} (h : LLies w a L) (k : Nat) (hk : k < L.length) : ∃ b o, a = some ⟨b, o, none⟩ ∧ b < w.heap.size ∧ ∃ a1 c1, w.cell? ⟨b, o + k, none⟩ = some (.slice a1 (L.getD k []).length c1) ∧ (L.getD k []).length ≤ c1 ∧ GLies w a1 (L.getD k []) := by
  rcases h with h | ⟨b, o, h1, h2⟩
  · rw [h] at hk; exact absurd hk (Nat.not_lt_zero _)
  · obtain ⟨a1, c1, e, h3⟩ := h2 k hk
    exact ⟨b, o, h1, block_lt e, a1, c1, e, h3⟩
theorem LLies.below {w w' : World} {a : Option Addr} {L : List (List Gn)} (h : LLies w a L) (hb : Below w.heap.size w w') : LLies w' a L := by
  rcases h with h | ⟨b, o, h1, h2⟩
  · exact .inl h
  · refine .inr ⟨b, o, h1, fun i hi => ?_⟩
    obtain ⟨a1, c1, e, h3, h4⟩ := h2 i hi
    exact ⟨a1, c1, (hb.cell (block_lt e)).trans e, h3, h4.below hb⟩
end Go.Proofs.YtofadgmnjckpcaaGreatDoor
