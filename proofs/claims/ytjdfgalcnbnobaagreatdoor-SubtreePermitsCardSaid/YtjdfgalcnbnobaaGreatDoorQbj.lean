/-
  A general name that can be read: its cells, and what lies behind its name.
  What every card of this seat's laws over gname needs: how a slice of bytes is opened, how seven arguments are opened, and that the laws' functions only read what they are handed.
  A slice of numbers that can be read: its numbers lie at its address.
  Parameters that are constraints, states and reduced states: their cells, and what lies behind them.
-/
import Derived.Test.YtjdfgalcnbnobaaGreatDoorQbi
import Derived.Test.YtjdfgalcnbnobaaGreatDoorQas
import Derived.Test.YtjdfgalcnbnobaaGreatDoorCards
import Derived.Test.YtjdfgalcnbnobaaGreatDoorTie
import Derived.Test.YtjdfgalcnbnobaaGreatDoorQat
import Derived.Test.YtjdfgalcnbnobaaGreatDoorQae
import Derived.ProofKit
import Derived.OpenShut
import Derived.Deep.DeepHandedRow
import Derived.Deep.DeepWitnessRowRef
import Derived.Lay
import Derived.Stop.LaidErr
import Derived.Test.YtjdfgalcnbnobaaGreatDoorQav
namespace Go.Proofs.YtjdfgalcnbnobaaGreatDoor
open Go.ChangeShapes Go.WideShapes Go.ChangeAt Go.RowKit Go.ChangeMaps Go.Deep

theorem bigG_of {k : Int} {t : List UInt8} {n : Nm} (ht : t.length ≤ 9223372036854775807) (hn : NameOk n) : BigG (k, t, n) :=
  ⟨ht, hn.1, fun i hi => ⟨(hn.2 i hi).1, fun j hj => ⟨((hn.2 i hi).2 j hj).1, ((hn.2 i hi).2 j hj).2.1⟩⟩⟩
set_option maxRecDepth 10000 in
/-- One general name, of three cells. -/
theorem open_gn {H : Type} {enc : TypeId × Value → H} {W : World} {n : Nat} {cs : List Value} {x : DataW H × List MemPlace} (h : DataW.trod enc Tryz.prog W 0 (fun _ => true) true n 32 cs = some x) :
    ∃ (k : Int) (t : List UInt8) (a : Option Addr) (c : Nat) (m : Nm), cs = [.int .i64 k, .string (strOf t), .slice a m.length c] ∧ m.length ≤ c ∧ RLies W a m ∧ BigG (k, t, m) := by
  obtain ⟨xs, k, _, _, hl, hlen, hfd⟩ := DataW.trod_struct Tryz.underlying32 h
  have c1 : Tryz.prog.cellsOf 3 = 1 := by kernel_rfl
  have c2 : Tryz.prog.cellsOf 9 = 1 := by kernel_rfl
  have c3 : Tryz.prog.cellsOf 32 = 3 := by kernel_rfl
  have c4 : Tryz.prog.cellsOf 30 = 1 := by kernel_rfl
  have c5 : Tryz.prog.cellsOf 28 = 1 := by kernel_rfl
  have hlen3 : xs.length = 3 := hlen
  have hs3 : cs.length = 3 := hl.trans c3
  match xs, hlen3 with
  | [y0, y1, y2], _ =>
    match cs, hs3 with
    | [z0, z1, z2], _ =>
      have g0 : DataW.trod enc Tryz.prog W 0 (fun _ => true) true k 3 (([z0, z1, z2].drop 0).take (Tryz.prog.cellsOf 3)) = some y0 := hfd 0 _ rfl
      rw [c1] at g0
      obtain ⟨n0, e0, _, _⟩ := DataW.trod_int Tryz.underlying3 g0
      have g1 : DataW.trod enc Tryz.prog W 0 (fun _ => true) true k 9 (([z0, z1, z2].drop 1).take (Tryz.prog.cellsOf 9)) = some y1 := hfd 1 _ rfl
      rw [c2] at g1
      obtain ⟨s1, e1, _, w1⟩ := DataW.trod_string Tryz.underlying9 g1
      have g2 : DataW.trod enc Tryz.prog W 0 (fun _ => true) true k 30 (([z0, z1, z2].drop 2).take (Tryz.prog.cellsOf 30)) = some y2 := hfd 2 _ rfl
      rw [c4] at g2
      obtain ⟨xs2, k2, _, _, _, hlen2, hfd2⟩ := DataW.trod_struct Tryz.underlying30 g2
      have hlen1 : xs2.length = 1 := hlen2
      match xs2, hlen1 with
      | [u0], _ =>
        have g3 : DataW.trod enc Tryz.prog W 0 (fun _ => true) true k2 28 ((((([z0, z1, z2] : List Value).drop 2).take 1).drop 0).take (Tryz.prog.cellsOf 28)) = some u0 := hfd2 0 _ rfl
        rw [c5] at g3
        obtain ⟨a, c, m, e2, h3, h1, h2⟩ := open_rdns (z := z2) (by simpa using g3)
        have r0 : z0 = .int .i64 n0 := by simpa using e0
        have r1 : z1 = .string s1 := by simpa using e1
        refine ⟨n0, s1.data.toList, a, c, m, by rw [r0, r1, e2]; rfl, h3, h1, bigG_of ?_ h2⟩
        show s1.size ≤ _
        unfold maxLen at w1; omega
set_option maxRecDepth 10000 in
theorem open_gname {H : Type} {enc : TypeId × Value → H} {W : World} {r : Reach} {b0 : Nat} {v : Value} {d : DataW H} {p : List MemPlace}
    (hval : Value.okWide Tryz.prog W r b0 32 v) (h : DataW.Trod enc Tryz.prog W 0 (fun _ => true) true 32 v d p) :
    ∃ (k : Int) (t : List UInt8) (a : Option Addr) (c : Nat) (m : Nm), v = .agg #[.int .i64 k, .string (strOf t), .slice a m.length c] ∧ m.length ≤ c ∧ RLies W a m ∧ BigG (k, t, m) := by
  unfold Value.okWide at hval
  rw [Tryz.underlying32] at hval
  obtain ⟨cs, rfl, _, _⟩ := hval
  obtain ⟨fuel, hf⟩ := h
  obtain ⟨k, t, a, c, m, e, h1, h2, h3⟩ := open_gn hf
  refine ⟨k, t, a, c, m, ?_, h1, h2, h3⟩
  have hcl : (Value.agg cs).cells.toList = cs.toList := rfl
  rw [hcl] at e
  congr 1
  exact Array.toList_inj.1 e
end Go.Proofs.YtjdfgalcnbnobaaGreatDoor
namespace Go.Proofs.YtjdfgalcnbnobaaGreatDoor
open Go.ChangeShapes Go.WideShapes Go.ChangeAt Go.RowKit Go.ChangeMaps

theorem own : ownKnob Tryz.prog.godebug = none := by kernel_rfl

/-- What was handed in reads as it read, for a call that leaves old memory alone. -/
theorem below_trodAll {H : Type} {enc : TypeId × Value → H} {W W' : World} (hb : Below W.heap.size W W') :
    ∀ (ts : List TypeId) (vs : List Value) (ds : List (DataW H)) (ps : List MemPlace), (∀ t ∈ ts, Tryz.prog.readableRec t = true ∧ t < Tryz.prog.types.size) → (∀ x ∈ ps, x.block < W.heap.size) →
      DataW.TrodAll enc Tryz.prog W 0 (fun _ => true) true ts vs ds ps → DataW.TrodAll enc Tryz.prog W' 0 (fun b => decide (b < W.heap.size)) true ts vs ds ps := by
  intro ts
  induction ts with
  | nil => intro vs ds ps _ _ h; obtain ⟨rfl, rfl, rfl⟩ := trodAll_nil h; exact trodAll_mk0
  | cons t ts ih =>
    intro vs ds ps ht hp h
    obtain ⟨v, vs', d, ds', p, q, rfl, rfl, rfl, h1, h2⟩ := trodAll_cons h
    exact trodAll_cons_mk (Below.trod laidOut (ht t (by simp)).1 (ht t (by simp)).2 h1 hb (fun x hx => hp x (by simp [hx]))) (ih vs' ds' q (fun u hu => ht u (by simp [hu])) (fun x hx => hp x (by simp [hx])) h2)

end Go.Proofs.YtjdfgalcnbnobaaGreatDoor
namespace Go.Proofs.YtjdfgalcnbnobaaGreatDoor
open Go.ChangeShapes Go.WideShapes Go.ChangeAt Go.RowKit

set_option maxRecDepth 10000 in
theorem open_nums {H : Type} {enc : TypeId × Value → H} {W : World} {a0 : Option Addr} {len cap : Nat} {d : DataW H} {p : List MemPlace}
    (h : DataW.Trod enc Tryz.prog W 0 (fun _ => true) true 33 (.slice a0 len cap) d p) : ∃ zs : List Int, len = zs.length ∧ ILies W a0 zs ∧ zs.length ≤ 9223372036854775807 := by
  obtain ⟨fuel, hf⟩ := h
  have cb : Tryz.prog.cellsOf 3 = 1 := by kernel_rfl
  rcases open_ints Tryz.underlying33 Tryz.underlying3 cb hf with ⟨hcs, _⟩ | ⟨a, len', cap', zs, hcs, _, hl, hcm, hz, _, hcell, _⟩
  · simp [Value.cells] at hcs
    obtain ⟨rfl, rfl, rfl⟩ := hcs
    exact ⟨[], rfl, .inl rfl, by simp⟩
  · simp [Value.cells] at hcs
    obtain ⟨rfl, rfl, rfl⟩ := hcs
    by_cases h0 : len = 0
    · subst h0
      exact ⟨[], rfl, .inl rfl, by simp⟩
    · have hzl : len ≤ zs.length := by rw [hz]; simpa using hl
      obtain ⟨b, off, rfl, hc⟩ := ints_at hcell (by omega)
      have e : (zs.take len).length = len := by rw [List.length_take]; omega
      refine ⟨zs.take len, e.symm, .inr ⟨b, off, rfl, fun i hi => ?_⟩, by rw [e]; unfold maxLen at hcm; omega⟩
      rw [e] at hi
      rw [hc i (by omega)]
      congr 2
      rw [List.getD_eq_getElem?_getD, List.getD_eq_getElem?_getD, List.getElem?_take_of_lt hi]

end Go.Proofs.YtjdfgalcnbnobaaGreatDoor
namespace Go.Proofs.YtjdfgalcnbnobaaGreatDoor
open Go.ChangeShapes Go.WideShapes Go.ChangeAt Go.RowKit Go.ChangeMaps Go.Deep

def BigL (l : List Gn) : Prop := l.length ≤ 9223372036854775807 ∧ ∀ i, i < l.length → BigG (l.getD i noG)
def BigS (L : List Sub) : Prop := L.length ≤ 9223372036854775807 ∧ ∀ i, i < L.length → BigL (L.getD i noSub).1 ∧ BigL (L.getD i noSub).2
set_option maxRecDepth 10000 in
theorem open_gns {H : Type} {enc : TypeId × Value → H} {W : World} {n : Nat} {z : Value} {x : DataW H × List MemPlace} (h : DataW.trod enc Tryz.prog W 0 (fun _ => true) true n 25 [z] = some x) :
    ∃ (a : Option Addr) (c : Nat) (l : List Gn), z = .slice a l.length c ∧ l.length ≤ c ∧ GLies W a l ∧ BigL l := by
  have c3 : Tryz.prog.cellsOf 32 = 3 := by kernel_rfl
  rcases open_slice Tryz.underlying25 h with ⟨hcs, _⟩ | ⟨a, len, cap, m, k, D, Pl, hcs, _, hl, hm, hmm, _, hx⟩
  · exact ⟨none, 0, [], by simpa using hcs, Nat.le_refl _, .inl rfl, by simp, fun i hi => absurd hi (Nat.not_lt_zero _)⟩
  · have hlm : len ≤ m := by rw [hmm]; split <;> omega
    obtain ⟨f, hf⟩ := choose_lt (α := Gn) (n := len) (p := fun i g => BigG g ∧ W.cell? (a.add (i * 3)) = some (.int .i64 g.1) ∧ W.cell? (a.add (i * 3 + 1)) = some (.string (strOf g.2.1)) ∧ ∃ a' c', W.cell? (a.add (i * 3 + 2)) = some (.slice a' g.2.2.length c') ∧ g.2.2.length ≤ c' ∧ RLies W a' g.2.2) (fun i hi => by
      obtain ⟨cs', h1, h2⟩ := hx i (by omega)
      obtain ⟨q, t, a', c', n, rfl, k1, k2, k3⟩ := open_gn h2
      rw [c3] at h1
      obtain ⟨_, _, hc⟩ := World.cells?_some h1
      have e0 := hc 0 (by omega)
      have e1 := hc 1 (by omega)
      have e2 := hc 2 (by omega)
      rw [add_add] at e0 e1 e2
      exact ⟨(q, t, n), k3, by simpa using e0, by simpa using e1, a', c', by simpa using e2, k1, k2⟩)
    refine ⟨some a, cap, (List.range len).map f, by simpa using hcs, by simpa using hl, ?_, by simp; unfold maxLen at hm; omega, fun i hi => ?_⟩
    · by_cases h0 : len = 0
      · exact .inl (by rw [h0]; rfl)
      · obtain ⟨b, off, spot⟩ := a
        have hspot : spot = none := by
          have := (hf 0 (by omega)).2.1
          simpa [Addr.add] using World.cell?_spot this
        subst hspot
        refine .inr ⟨b, off, rfl, fun i hi => ?_⟩
        simp at hi
        rw [getD_map_range _ _ _ hi]
        obtain ⟨_, q1, q2, a', c', q3, q4, q5⟩ := hf i hi
        rw [Go.WideShapes.add_plain] at q1 q2 q3
        exact ⟨q1, by simpa [Nat.add_assoc] using q2, a', c', by simpa [Nat.add_assoc] using q3, q4, q5⟩
    · simp at hi
      rw [getD_map_range _ _ _ hi]
      exact (hf i hi).1
set_option maxRecDepth 10000 in
theorem open_sub {H : Type} {enc : TypeId × Value → H} {W : World} {n : Nat} {cs : List Value} {x : DataW H × List MemPlace} (h : DataW.trod enc Tryz.prog W 0 (fun _ => true) true n 27 cs = some x) :
    ∃ (a1 : Option Addr) (c1 : Nat) (A : List Gn) (a2 : Option Addr) (c2 : Nat) (B : List Gn), cs = [.slice a1 A.length c1, .slice a2 B.length c2] ∧ (A.length ≤ c1 ∧ GLies W a1 A ∧ BigL A) ∧ B.length ≤ c2 ∧ GLies W a2 B ∧ BigL B := by
  obtain ⟨xs, k, _, _, hl, hlen, hfd⟩ := DataW.trod_struct Tryz.underlying27 h
  have c1 : Tryz.prog.cellsOf 25 = 1 := by kernel_rfl
  have c2 : Tryz.prog.cellsOf 27 = 2 := by kernel_rfl
  have hlen2 : xs.length = 2 := hlen
  have hs2 : cs.length = 2 := hl.trans c2
  match xs, hlen2 with
  | [y0, y1], _ =>
    match cs, hs2 with
    | [z0, z1], _ =>
      have g0 : DataW.trod enc Tryz.prog W 0 (fun _ => true) true k 25 (([z0, z1].drop 0).take (Tryz.prog.cellsOf 25)) = some y0 := hfd 0 _ rfl
      have g1 : DataW.trod enc Tryz.prog W 0 (fun _ => true) true k 25 (([z0, z1].drop 1).take (Tryz.prog.cellsOf 25)) = some y1 := hfd 1 _ rfl
      rw [c1] at g0 g1
      obtain ⟨a1, c1, A, e0, q1, q2, q3⟩ := open_gns (z := z0) (by simpa using g0)
      obtain ⟨a2, c2, B, e1, r1, r2, r3⟩ := open_gns (z := z1) (by simpa using g1)
      exact ⟨a1, c1, A, a2, c2, B, by rw [e0, e1], ⟨q1, q2, q3⟩, r1, r2, r3⟩
set_option maxRecDepth 10000 in
theorem open_subs {H : Type} {enc : TypeId × Value → H} {W : World} {n : Nat} {z : Value} {x : DataW H × List MemPlace} (h : DataW.trod enc Tryz.prog W 0 (fun _ => true) true n 22 [z] = some x) :
    ∃ (a : Option Addr) (c : Nat) (L : List Sub), z = .slice a L.length c ∧ L.length ≤ c ∧ SLies W a L ∧ BigS L ∧ (a = none → c = 0) := by
  have c2 : Tryz.prog.cellsOf 27 = 2 := by kernel_rfl
  rcases open_slice Tryz.underlying22 h with ⟨hcs, _⟩ | ⟨a, len, cap, m, k, D, Pl, hcs, _, hl, hm, hmm, _, hx⟩
  · exact ⟨none, 0, [], by simpa using hcs, Nat.le_refl _, .inl rfl, ⟨by simp, fun i hi => absurd hi (Nat.not_lt_zero _)⟩, fun _ => rfl⟩
  · have hlm : len ≤ m := by rw [hmm]; split <;> omega
    obtain ⟨f, hf⟩ := choose_lt (α := Sub) (n := len) (p := fun i s => (BigL s.1 ∧ BigL s.2) ∧ ∃ a1 c1 a2 c2, W.cell? (a.add (i * 2)) = some (.slice a1 s.1.length c1) ∧ W.cell? (a.add (i * 2 + 1)) = some (.slice a2 s.2.length c2) ∧ (s.1.length ≤ c1 ∧ GLies W a1 s.1) ∧ s.2.length ≤ c2 ∧ GLies W a2 s.2) (fun i hi => by
      obtain ⟨cs', h1, h2⟩ := hx i (by omega)
      obtain ⟨a1, c1, A, a2, c2', B, rfl, ⟨q1, q2, q3⟩, r1, r2, r3⟩ := open_sub h2
      rw [c2] at h1
      obtain ⟨_, _, hc⟩ := World.cells?_some h1
      have e0 := hc 0 (by omega)
      have e1 := hc 1 (by omega)
      rw [add_add] at e0 e1
      exact ⟨(A, B), ⟨q3, r3⟩, a1, c1, a2, c2', by simpa using e0, by simpa using e1, ⟨q1, q2⟩, r1, r2⟩)
    refine ⟨some a, cap, (List.range len).map f, by simpa using hcs, by simpa using hl, ?_, ⟨by simp; unfold maxLen at hm; omega, fun i hi => ?_⟩, fun h => by cases h⟩
    · by_cases h0 : len = 0
      · exact .inl (by rw [h0]; rfl)
      · obtain ⟨b, off, spot⟩ := a
        have hspot : spot = none := by
          obtain ⟨_, _, _, _, _, q, _⟩ := hf 0 (by omega)
          simpa [Addr.add] using World.cell?_spot q
        subst hspot
        refine .inr ⟨b, off, rfl, fun i hi => ?_⟩
        simp at hi
        rw [getD_map_range _ _ _ hi]
        obtain ⟨_, a1, c1, a2, c2, q1, q2, q3⟩ := hf i hi
        rw [Go.WideShapes.add_plain] at q1 q2
        exact ⟨a1, c1, a2, c2, q1, by simpa [Nat.add_assoc] using q2, q3⟩
    · simp at hi
      rw [getD_map_range _ _ _ hi]
      exact (hf i hi).1
set_option maxRecDepth 10000 in
theorem open_subtrees {H : Type} {enc : TypeId × Value → H} {W : World} {r : Reach} {b0 : Nat} {v : Value} {d : DataW H} {p : List MemPlace}
    (hval : Value.okWide Tryz.prog W r b0 27 v) (h : DataW.Trod enc Tryz.prog W 0 (fun _ => true) true 27 v d p) :
    ∃ (a1 : Option Addr) (c1 : Nat) (A : List Gn) (a2 : Option Addr) (c2 : Nat) (B : List Gn), v = .agg #[.slice a1 A.length c1, .slice a2 B.length c2] ∧ (A.length ≤ c1 ∧ GLies W a1 A ∧ BigL A) ∧ B.length ≤ c2 ∧ GLies W a2 B ∧ BigL B := by
  unfold Value.okWide at hval
  rw [Tryz.underlying27] at hval
  obtain ⟨cs, rfl, _, _⟩ := hval
  obtain ⟨fuel, hf⟩ := h
  obtain ⟨a1, c1, A, a2, c2, B, e, h1, h2⟩ := open_sub hf
  refine ⟨a1, c1, A, a2, c2, B, ?_, h1, h2⟩
  have hcl : (Value.agg cs).cells.toList = cs.toList := rfl
  rw [hcl] at e
  congr 1
  exact Array.toList_inj.1 e
set_option maxRecDepth 10000 in
theorem open_state {H : Type} {enc : TypeId × Value → H} {W : World} {r : Reach} {b0 : Nat} {v : Value} {d : DataW H} {p : List MemPlace}
    (hval : Value.okWide Tryz.prog W r b0 24 v) (h : DataW.Trod enc Tryz.prog W 0 (fun _ => true) true 24 v d p) :
    ∃ (a : Option Addr) (c : Nat) (L : List Sub), v = .agg #[.slice a L.length c] ∧ L.length ≤ c ∧ SLies W a L ∧ BigS L ∧ (a = none → c = 0) := by
  unfold Value.okWide at hval
  rw [Tryz.underlying24] at hval
  obtain ⟨cs, rfl, hsz, _⟩ := hval
  obtain ⟨fuel, hf⟩ := h
  have cb : Tryz.prog.cellsOf 22 = 1 := by kernel_rfl
  obtain ⟨xs, k, _, _, _, hlen, hfd⟩ := DataW.trod_struct Tryz.underlying24 hf
  have hlen1 : xs.length = 1 := hlen
  have hs1 : cs.toList.length = 1 := hsz
  match xs, hlen1 with
  | [y0], _ =>
    match hcs : cs.toList, hs1 with
    | [z0], _ =>
      have hcl : (Value.agg cs).cells.toList = [z0] := hcs
      rw [hcl] at hfd
      have g0 : DataW.trod enc Tryz.prog W 0 (fun _ => true) true k 22 (([z0].drop 0).take (Tryz.prog.cellsOf 22)) = some y0 := hfd 0 _ rfl
      rw [cb] at g0
      obtain ⟨a, c, L, e, h3, h1, h2⟩ := open_subs (z := z0) (by simpa using g0)
      refine ⟨a, c, L, ?_, h3, h1, h2⟩
      congr 1
      apply Array.toList_inj.1
      rw [hcs, e]
end Go.Proofs.YtjdfgalcnbnobaaGreatDoor
