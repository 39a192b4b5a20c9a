/-
  A name that can be read: its relative names lie at its address, and their attributes at theirs.
  A general name that can be read: its cells, and what lies behind its name.
  What every card of this seat's laws over gname needs: how a slice of bytes is opened, how seven arguments are opened, and that the laws' functions only read what they are handed.
  A slice of numbers that can be read: its numbers lie at its address.
  What every card of this seat's laws over gname needs: the tables that the rows list.
  How long the encoding of a valid name is at most. Nothing is claimed of the program here.
-/
import Derived.Test.YtflpajbcomhkpaaGreatDoorRah
import Derived.ProofKit
import Derived.OpenShut
import Derived.Deep.Slices
import Derived.Deep.Strs
import Derived.Deep.DeepHandedRow
import Derived.Test.YtflpajbcomhkpaaGreatDoorRay
import Derived.Test.YtflpajbcomhkpaaGreatDoorCards
import Derived.Test.YtflpajbcomhkpaaGreatDoorTie
import Derived.Test.YtflpajbcomhkpaaGreatDoorRav
import Derived.Test.YtflpajbcomhkpaaGreatDoorRai
import Derived.Deep.DeepWitnessRowRef
import Derived.Lay
import Derived.Stop.LaidErr
import Derived.Test.YtflpajbcomhkpaaGreatDoorRaf
import Derived.Test.YtflpajbcomhkpaaGreatDoorRaa
import Derived.Lib.LaidIn
import Derived.Test.YtflpajbcomhkpaaGreatDoorRaj
import Derived.ChangeSame
import Derived.Lib.LaidU8T
import Derived.Test.YtflpajbcomhkpaaGreatDoorRbf
namespace Go.Proofs.YtflpajbcomhkpaaGreatDoor
open Go.ChangeShapes Go.WideShapes Go.ChangeAt Go.RowKit Go.ChangeMaps Go.Deep

def AtOk (a : At) : Prop := a.1.size ≤ 9223372036854775807 ∧ a.2.2.size ≤ 9223372036854775807 ∧ -9223372036854775808 ≤ a.2.1 ∧ a.2.1 ≤ 9223372036854775807
def RdnOk (r : List At) : Prop := r.length ≤ 9223372036854775807 ∧ ∀ i, i < r.length → AtOk (r.getD i noAt)
def NameOk (n : Nm) : Prop := n.length ≤ 9223372036854775807 ∧ ∀ i, i < n.length → RdnOk (n.getD i [])

theorem getD_map_range {α : Type} (f : Nat → α) (n i : Nat) (h : i < n) (d : α) : ((List.range n).map f).getD i d = f i := by
  rw [List.getD_eq_getElem?_getD, List.getElem?_map, List.getElem?_range h]; rfl
set_option maxRecDepth 10000 in
/-- One attribute, of three cells. -/
theorem open_at {H : Type} {enc : TypeId × Value → H} {W : World} {n : Nat} {cs : List Value} {x : DataW H × List MemPlace} (h : DataW.trod enc Tryz.prog W 0 (fun _ => true) true n 103 cs = some x) :
    ∃ t : At, cs = [.string t.1, .int .i64 t.2.1, .string t.2.2] ∧ AtOk t := by
  obtain ⟨xs, k, _, _, hl, hlen, hfd⟩ := DataW.trod_struct Tryz.underlying103 h
  have c1 : Tryz.prog.cellsOf 3 = 1 := by kernel_rfl
  have c2 : Tryz.prog.cellsOf 9 = 1 := by kernel_rfl
  have c3 : Tryz.prog.cellsOf 103 = 3 := by kernel_rfl
  have hlen3 : xs.length = 3 := hlen
  have hs3 : cs.length = 3 := hl.trans c3
  match xs, hlen3 with
  | [y0, y1, y2], _ =>
    match cs, hs3 with
    | [z0, z1, z2], _ =>
      have g0 : DataW.trod enc Tryz.prog W 0 (fun _ => true) true k 9 (([z0, z1, z2].drop 0).take (Tryz.prog.cellsOf 9)) = some y0 := hfd 0 _ rfl
      rw [c2] at g0
      obtain ⟨s0, e0, _, w0⟩ := DataW.trod_string Tryz.underlying9 g0
      have g1 : DataW.trod enc Tryz.prog W 0 (fun _ => true) true k 3 (([z0, z1, z2].drop 1).take (Tryz.prog.cellsOf 3)) = some y1 := hfd 1 _ rfl
      rw [c1] at g1
      obtain ⟨n1, e1, _, w1⟩ := DataW.trod_int Tryz.underlying3 g1
      have g2 : DataW.trod enc Tryz.prog W 0 (fun _ => true) true k 9 (([z0, z1, z2].drop 2).take (Tryz.prog.cellsOf 9)) = some y2 := hfd 2 _ rfl
      rw [c2] at g2
      obtain ⟨s2, e2, _, w2⟩ := DataW.trod_string Tryz.underlying9 g2
      have r0 : z0 = .string s0 := by simpa using e0
      have r1 : z1 = .int .i64 n1 := by simpa using e1
      have r2 : z2 = .string s2 := by simpa using e2
      have b1 := bounds_i64 w1
      refine ⟨(s0, n1, s2), by rw [r0, r1, r2], ?_, ?_, ?_, ?_⟩
      · show s0.size ≤ _
        unfold maxLen at w0; omega
      · show s2.size ≤ _
        unfold maxLen at w2; omega
      · exact b1.1
      · exact b1.2
set_option maxRecDepth 10000 in
theorem open_ats {H : Type} {enc : TypeId × Value → H} {W : World} {n : Nat} {z : Value} {x : DataW H × List MemPlace} (h : DataW.trod enc Tryz.prog W 0 (fun _ => true) true n 101 [z] = some x) :
    ∃ a c, ∃ l : List At, z = .slice a l.length c ∧ l.length ≤ c ∧ ALies W a l ∧ RdnOk l := by
  have c3 : Tryz.prog.cellsOf 103 = 3 := by kernel_rfl
  rcases open_slice Tryz.underlying101 h with ⟨hcs, _⟩ | ⟨a, len, cap, m, k, D, Pl, hcs, _, hl, hm, hmm, _, hx⟩
  · exact ⟨none, 0, [], by simpa using hcs, by simp, .inl rfl, by simp, fun i hi => absurd hi (Nat.not_lt_zero _)⟩
  · have hlm : len ≤ m := by rw [hmm]; split <;> omega
    obtain ⟨f, hf⟩ := choose_lt (α := At) (n := len) (p := fun i t => AtOk t ∧ W.cell? (a.add (i * 3)) = some (.string t.1) ∧ W.cell? (a.add (i * 3 + 1)) = some (.int .i64 t.2.1) ∧ W.cell? (a.add (i * 3 + 2)) = some (.string t.2.2)) (fun i hi => by
      obtain ⟨cs', h1, h2⟩ := hx i (by omega)
      obtain ⟨t, rfl, ht⟩ := open_at h2
      rw [c3] at h1
      obtain ⟨_, _, hc⟩ := World.cells?_some h1
      have e0 := hc 0 (by omega)
      have e1 := hc 1 (by omega)
      have e2 := hc 2 (by omega)
      rw [add_add] at e0 e1 e2
      exact ⟨t, ht, by simpa using e0, by simpa using e1, by simpa using e2⟩)
    refine ⟨some a, cap, (List.range len).map f, by simpa using hcs, by simpa using hl, ?_, by simp; unfold maxLen at hm; omega, fun i hi => ?_⟩
    · by_cases h0 : len = 0
      · exact .inl (by rw [h0]; rfl)
      · obtain ⟨b, off, spot⟩ := a
        have hspot : spot = none := by
          have := (hf 0 (by omega)).2.1
          simpa [Addr.add] using World.cell?_spot this
        subst hspot
        refine .inr ⟨b, off, rfl, fun i hi => ?_⟩
        simp at hi
        rw [getD_map_range _ _ _ hi]
        have hh := (hf i hi).2
        rw [Go.WideShapes.add_plain, Go.WideShapes.add_plain, Go.WideShapes.add_plain] at hh
        simpa [Nat.add_assoc] using hh
    · simp at hi
      rw [getD_map_range _ _ _ hi]
      exact (hf i hi).1
set_option maxRecDepth 10000 in
theorem open_rdns {H : Type} {enc : TypeId × Value → H} {W : World} {n : Nat} {z : Value} {x : DataW H × List MemPlace} (h : DataW.trod enc Tryz.prog W 0 (fun _ => true) true n 28 [z] = some x) :
    ∃ a c, ∃ l : Nm, z = .slice a l.length c ∧ l.length ≤ c ∧ RLies W a l ∧ NameOk l := by
  have c1 : Tryz.prog.cellsOf 101 = 1 := by kernel_rfl
  rcases open_slice1 Tryz.underlying28 c1 h with ⟨hcs, _⟩ | ⟨a, len, cap, m, k, V, D, Pl, hcs, _, hl, hm, hmm, _, hx⟩
  · exact ⟨none, 0, [], by simpa using hcs, by simp, .inl rfl, by simp, fun i hi => absurd hi (Nat.not_lt_zero _)⟩
  · have hlm : len ≤ m := by rw [hmm]; split <;> omega
    obtain ⟨f, hf⟩ := choose_lt (α := List At) (n := len) (p := fun i r => RdnOk r ∧ ∃ a' c', W.cell? (a.add i) = some (.slice a' r.length c') ∧ r.length ≤ c' ∧ ALies W a' r) (fun i hi => by
      obtain ⟨h1, h2⟩ := hx i (by omega)
      obtain ⟨a', c', l, e, hl3, hl, hk⟩ := open_ats h2
      exact ⟨l, hk, a', c', by rw [← e]; exact h1, hl3, hl⟩)
    refine ⟨some a, cap, (List.range len).map f, by simpa using hcs, by simpa using hl, ?_, by simp; unfold maxLen at hm; omega, fun i hi => ?_⟩
    · by_cases h0 : len = 0
      · exact .inl (by rw [h0]; rfl)
      · obtain ⟨b, off, spot⟩ := a
        have hspot : spot = none := by
          obtain ⟨_, _, _, q, _⟩ := hf 0 (by omega)
          simpa [Addr.add] using World.cell?_spot q
        subst hspot
        refine .inr ⟨b, off, rfl, fun i hi => ?_⟩
        simp at hi
        rw [getD_map_range _ _ _ hi]
        obtain ⟨_, a', c', q1, q3, q2⟩ := hf i hi
        rw [Go.WideShapes.add_plain] at q1
        exact ⟨a', c', q1, q3, q2⟩
    · simp at hi
      rw [getD_map_range _ _ _ hi]
      exact (hf i hi).1
end Go.Proofs.YtflpajbcomhkpaaGreatDoor
namespace Go.Proofs.YtflpajbcomhkpaaGreatDoor
open Go.ChangeShapes Go.WideShapes Go.ChangeAt Go.RowKit Go.ChangeMaps Go.Deep

theorem bigG_of {k : Int} {t : List UInt8} {n : Nm} (ht : t.length ≤ 9223372036854775807) (hn : NameOk n) : BigG (k, t, n) :=
  ⟨ht, hn.1, fun i hi => ⟨(hn.2 i hi).1, fun j hj => ⟨((hn.2 i hi).2 j hj).1, ((hn.2 i hi).2 j hj).2.1⟩⟩⟩
set_option maxRecDepth 10000 in
/-- One general name, of three cells. -/
theorem open_gn {H : Type} {enc : TypeId × Value → H} {W : World} {n : Nat} {cs : List Value} {x : DataW H × List MemPlace} (h : DataW.trod enc Tryz.prog W 0 (fun _ => true) true n 32 cs = some x) :
    ∃ (k : Int) (t : List UInt8) (a : Option Addr) (c : Nat) (m : Nm), cs = [.int .i64 k, .string (strOf t), .slice a m.length c] ∧ m.length ≤ c ∧ RLies W a m ∧ BigG (k, t, m) := by
  obtain ⟨xs, k, _, _, hl, hlen, hfd⟩ := DataW.trod_struct Tryz.underlying32 h
  have c1 : Tryz.prog.cellsOf 3 = 1 := by kernel_rfl
  have c2 : Tryz.prog.cellsOf 9 = 1 := by kernel_rfl
  have c3 : Tryz.prog.cellsOf 32 = 3 := by kernel_rfl
  have c4 : Tryz.prog.cellsOf 30 = 1 := by kernel_rfl
  have c5 : Tryz.prog.cellsOf 28 = 1 := by kernel_rfl
  have hlen3 : xs.length = 3 := hlen
  have hs3 : cs.length = 3 := hl.trans c3
  match xs, hlen3 with
  | [y0, y1, y2], _ =>
    match cs, hs3 with
    | [z0, z1, z2], _ =>
      have g0 : DataW.trod enc Tryz.prog W 0 (fun _ => true) true k 3 (([z0, z1, z2].drop 0).take (Tryz.prog.cellsOf 3)) = some y0 := hfd 0 _ rfl
      rw [c1] at g0
      obtain ⟨n0, e0, _, _⟩ := DataW.trod_int Tryz.underlying3 g0
      have g1 : DataW.trod enc Tryz.prog W 0 (fun _ => true) true k 9 (([z0, z1, z2].drop 1).take (Tryz.prog.cellsOf 9)) = some y1 := hfd 1 _ rfl
      rw [c2] at g1
      obtain ⟨s1, e1, _, w1⟩ := DataW.trod_string Tryz.underlying9 g1
      have g2 : DataW.trod enc Tryz.prog W 0 (fun _ => true) true k 30 (([z0, z1, z2].drop 2).take (Tryz.prog.cellsOf 30)) = some y2 := hfd 2 _ rfl
      rw [c4] at g2
      obtain ⟨xs2, k2, _, _, _, hlen2, hfd2⟩ := DataW.trod_struct Tryz.underlying30 g2
      have hlen1 : xs2.length = 1 := hlen2
      match xs2, hlen1 with
      | [u0], _ =>
        have g3 : DataW.trod enc Tryz.prog W 0 (fun _ => true) true k2 28 ((((([z0, z1, z2] : List Value).drop 2).take 1).drop 0).take (Tryz.prog.cellsOf 28)) = some u0 := hfd2 0 _ rfl
        rw [c5] at g3
        obtain ⟨a, c, m, e2, h3, h1, h2⟩ := open_rdns (z := z2) (by simpa using g3)
        have r0 : z0 = .int .i64 n0 := by simpa using e0
        have r1 : z1 = .string s1 := by simpa using e1
        refine ⟨n0, s1.data.toList, a, c, m, by rw [r0, r1, e2]; rfl, h3, h1, bigG_of ?_ h2⟩
        show s1.size ≤ _
        unfold maxLen at w1; omega
set_option maxRecDepth 10000 in
theorem open_elem {H : Type} {enc : TypeId × Value → H} {W : World} {r : Reach} {b0 : Nat} {v : Value} {d : DataW H} {p : List MemPlace}
    (hval : Value.okWide Tryz.prog W r b0 23 v) (h : DataW.Trod enc Tryz.prog W 0 (fun _ => true) true 23 v d p) :
    ∃ x : Int × ByteArray × ByteArray, v = .agg #[.int .i64 x.1, .string x.2.1, .string x.2.2] ∧ p = [] := by
  unfold Value.okWide at hval
  rw [Tryz.underlying23] at hval
  obtain ⟨cs, rfl, _, _⟩ := hval
  obtain ⟨fuel, hf⟩ := h
  obtain ⟨xs, k, _, hx, hl, hlen, hfd⟩ := DataW.trod_struct Tryz.underlying23 hf
  have c1 : Tryz.prog.cellsOf 3 = 1 := by kernel_rfl
  have c2 : Tryz.prog.cellsOf 9 = 1 := by kernel_rfl
  have c3 : Tryz.prog.cellsOf 23 = 3 := by kernel_rfl
  have hlen3 : xs.length = 3 := hlen
  have hs3 : (Value.agg cs).cells.toList.length = 3 := hl.trans c3
  match xs, hlen3 with
  | [y0, y1, y2], _ =>
    match hcs : (Value.agg cs).cells.toList, hs3 with
    | [z0, z1, z2], _ =>
      rw [hcs] at hfd
      have g0 : DataW.trod enc Tryz.prog W 0 (fun _ => true) true k 3 (([z0, z1, z2].drop 0).take (Tryz.prog.cellsOf 3)) = some y0 := hfd 0 _ rfl
      rw [c1] at g0
      obtain ⟨n0, e0, x0, _⟩ := DataW.trod_int Tryz.underlying3 g0
      have g1 : DataW.trod enc Tryz.prog W 0 (fun _ => true) true k 9 (([z0, z1, z2].drop 1).take (Tryz.prog.cellsOf 9)) = some y1 := hfd 1 _ rfl
      rw [c2] at g1
      obtain ⟨s1, e1, x1, _⟩ := DataW.trod_string Tryz.underlying9 g1
      have g2 : DataW.trod enc Tryz.prog W 0 (fun _ => true) true k 9 (([z0, z1, z2].drop 2).take (Tryz.prog.cellsOf 9)) = some y2 := hfd 2 _ rfl
      rw [c2] at g2
      obtain ⟨s2, e2, x2, _⟩ := DataW.trod_string Tryz.underlying9 g2
      have r0 : z0 = .int .i64 n0 := by simpa using e0
      have r1 : z1 = .string s1 := by simpa using e1
      have r2 : z2 = .string s2 := by simpa using e2
      refine ⟨(n0, s1, s2), ?_, ?_⟩
      · have hcl : (Value.agg cs).cells.toList = cs.toList := rfl
        rw [hcl, r0, r1, r2] at hcs
        congr 1
        exact Array.toList_inj.1 hcs
      · have ep := congrArg Prod.snd hx
        rw [x0, x1, x2] at ep
        simpa using ep
set_option maxRecDepth 10000 in
theorem open_gnames {H : Type} {enc : TypeId × Value → H} {W : World} {a0 : Option Addr} {len cap : Nat} {d : DataW H} {p : List MemPlace}
    (h : DataW.Trod enc Tryz.prog W 0 (fun _ => true) true 46 (.slice a0 len cap) d p) : ∃ l : List Gn, len = l.length ∧ len ≤ cap ∧ GLies W a0 l ∧ l.length ≤ 9223372036854775807 ∧ ∀ i, i < l.length → BigG (l.getD i noG) := by
  obtain ⟨fuel, hf⟩ := h
  have c3 : Tryz.prog.cellsOf 32 = 3 := by kernel_rfl
  rcases open_slice Tryz.underlying46 hf with ⟨hcs, _⟩ | ⟨a, len', cap', m, k, D, Pl, hcs, _, hl, hm, hmm, _, hx⟩
  · simp [Value.cells] at hcs
    obtain ⟨rfl, rfl, rfl⟩ := hcs
    exact ⟨[], rfl, by simp, .inl rfl, by simp, fun i hi => absurd hi (Nat.not_lt_zero _)⟩
  · simp [Value.cells] at hcs
    obtain ⟨rfl, rfl, rfl⟩ := hcs
    have hlm : len ≤ m := by rw [hmm]; split <;> omega
    obtain ⟨f, hf⟩ := choose_lt (α := Gn) (n := len) (p := fun i g => BigG g ∧ W.cell? (a.add (i * 3)) = some (.int .i64 g.1) ∧ W.cell? (a.add (i * 3 + 1)) = some (.string (strOf g.2.1)) ∧ ∃ a' c', W.cell? (a.add (i * 3 + 2)) = some (.slice a' g.2.2.length c') ∧ g.2.2.length ≤ c' ∧ RLies W a' g.2.2) (fun i hi => by
      obtain ⟨cs', h1, h2⟩ := hx i (by omega)
      obtain ⟨q, t, a', c', n, rfl, k1, k2, k3⟩ := open_gn h2
      rw [c3] at h1
      obtain ⟨_, _, hc⟩ := World.cells?_some h1
      have e0 := hc 0 (by omega)
      have e1 := hc 1 (by omega)
      have e2 := hc 2 (by omega)
      rw [add_add] at e0 e1 e2
      exact ⟨(q, t, n), k3, by simpa using e0, by simpa using e1, a', c', by simpa using e2, k1, k2⟩)
    refine ⟨(List.range len).map f, by simp, hl, ?_, by simp; unfold maxLen at hm; omega, fun i hi => ?_⟩
    · by_cases h0 : len = 0
      · exact .inl (by rw [h0]; rfl)
      · obtain ⟨b, off, spot⟩ := a
        have hspot : spot = none := by
          have := (hf 0 (by omega)).2.1
          simpa [Addr.add] using World.cell?_spot this
        subst hspot
        refine .inr ⟨b, off, rfl, fun i hi => ?_⟩
        simp at hi
        rw [getD_map_range _ _ _ hi]
        obtain ⟨_, q1, q2, a', c', q3, q4, q5⟩ := hf i hi
        rw [Go.WideShapes.add_plain] at q1 q2 q3
        exact ⟨q1, by simpa [Nat.add_assoc] using q2, a', c', by simpa [Nat.add_assoc] using q3, q4, q5⟩
    · simp at hi
      rw [getD_map_range _ _ _ hi]
      exact (hf i hi).1
end Go.Proofs.YtflpajbcomhkpaaGreatDoor
namespace Go.Proofs.YtflpajbcomhkpaaGreatDoor
open Go.ChangeShapes Go.WideShapes Go.ChangeAt Go.RowKit Go.ChangeMaps

theorem own : ownKnob Tryz.prog.godebug = none := by kernel_rfl

/-- What was handed in reads as it read, for a call that leaves old memory alone. -/
theorem below_trodAll {H : Type} {enc : TypeId × Value → H} {W W' : World} (hb : Below W.heap.size W W') :
    ∀ (ts : List TypeId) (vs : List Value) (ds : List (DataW H)) (ps : List MemPlace), (∀ t ∈ ts, Tryz.prog.readableRec t = true ∧ t < Tryz.prog.types.size) → (∀ x ∈ ps, x.block < W.heap.size) →
      DataW.TrodAll enc Tryz.prog W 0 (fun _ => true) true ts vs ds ps → DataW.TrodAll enc Tryz.prog W' 0 (fun b => decide (b < W.heap.size)) true ts vs ds ps := by
  intro ts
  induction ts with
  | nil => intro vs ds ps _ _ h; obtain ⟨rfl, rfl, rfl⟩ := trodAll_nil h; exact trodAll_mk0
  | cons t ts ih =>
    intro vs ds ps ht hp h
    obtain ⟨v, vs', d, ds', p, q, rfl, rfl, rfl, h1, h2⟩ := trodAll_cons h
    exact trodAll_cons_mk (Below.trod laidOut (ht t (by simp)).1 (ht t (by simp)).2 h1 hb (fun x hx => hp x (by simp [hx]))) (ih vs' ds' q (fun u hu => ht u (by simp [hu])) (fun x hx => hp x (by simp [hx])) h2)

end Go.Proofs.YtflpajbcomhkpaaGreatDoor
namespace Go.Proofs.YtflpajbcomhkpaaGreatDoor
open Go.ChangeShapes Go.WideShapes Go.ChangeAt Go.RowKit

set_option maxRecDepth 10000 in
theorem open_nums {H : Type} {enc : TypeId × Value → H} {W : World} {a0 : Option Addr} {len cap : Nat} {d : DataW H} {p : List MemPlace}
    (h : DataW.Trod enc Tryz.prog W 0 (fun _ => true) true 24 (.slice a0 len cap) d p) : ∃ zs : List Int, len = zs.length ∧ ILies W a0 zs ∧ zs.length ≤ 9223372036854775807 := by
  obtain ⟨fuel, hf⟩ := h
  have cb : Tryz.prog.cellsOf 3 = 1 := by kernel_rfl
  rcases open_ints Tryz.underlying24 Tryz.underlying3 cb hf with ⟨hcs, _⟩ | ⟨a, len', cap', zs, hcs, _, hl, hcm, hz, _, hcell, _⟩
  · simp [Value.cells] at hcs
    obtain ⟨rfl, rfl, rfl⟩ := hcs
    exact ⟨[], rfl, .inl rfl, by simp⟩
  · simp [Value.cells] at hcs
    obtain ⟨rfl, rfl, rfl⟩ := hcs
    by_cases h0 : len = 0
    · subst h0
      exact ⟨[], rfl, .inl rfl, by simp⟩
    · have hzl : len ≤ zs.length := by rw [hz]; simpa using hl
      obtain ⟨b, off, rfl, hc⟩ := ints_at hcell (by omega)
      have e : (zs.take len).length = len := by rw [List.length_take]; omega
      refine ⟨zs.take len, e.symm, .inr ⟨b, off, rfl, fun i hi => ?_⟩, by rw [e]; unfold maxLen at hcm; omega⟩
      rw [e] at hi
      rw [hc i (by omega)]
      congr 2
      rw [List.getD_eq_getElem?_getD, List.getD_eq_getElem?_getD, List.getElem?_take_of_lt hi]

end Go.Proofs.YtflpajbcomhkpaaGreatDoor
namespace Go.Proofs.YtflpajbcomhkpaaGreatDoor
open Go.ChangeShapes Go.WideShapes Go.ChangeAt Go.RowKit Go.ChangeMaps

theorem first_data : (Rows.laid_unicode_utf8_first : DataW Unit) = Lib.firstData := by kernel_rfl
theorem accept_data : (Rows.laid_unicode_utf8_acceptRanges : DataW Unit) = Lib.acceptData := by kernel_rfl
/-- What the rows' list gives: the tables lie. -/
theorem tab_met {W : World} {L : List (String × DataW Unit)} (h : laidMet Tryz.prog L W) (h1 : ("unicode/utf8.first", Rows.laid_unicode_utf8_first) ∈ L) (h2 : ("unicode/utf8.acceptRanges", Rows.laid_unicode_utf8_acceptRanges) ∈ L) : Tab W := by
  rw [first_data] at h1
  rw [accept_data] at h2
  exact utf8Tabs_of_readsT (U8Types.of196 lays196) ⟨by kernel_rfl, by kernel_rfl, by kernel_rfl, by kernel_rfl, by kernel_rfl, by kernel_rfl, by kernel_rfl⟩ (Lib.laidMet.reads h h1) (Lib.laidMet.reads h h2)
theorem ints_str {P : Program} {w : World} {base : Nat} {sp : Nat → Bool} {held : Bool} {fuel : Nat} {t i s : TypeId} {f0 f1 f2 : Field} {cs : List Value} {x y : Int} {z : List UInt8} {q : List MemPlace} (hu : P.underlying t = some (.struct #[f0, f1, f2])) (hi : P.underlying i = some (.int .i64)) (hs : P.underlying s = some .string)
    (t0 : f0.type = i) (t1 : f1.type = i) (t2 : f2.type = s) (o0 : f0.offset = 0) (o1 : f1.offset = 1) (o2 : f2.offset = 2) (c1 : P.cellsOf i = 1) (c2 : P.cellsOf s = 1) (c3 : P.cellsOf t = 3) (h : DataW.trod (fun _ : TypeId × Value => ()) P w base sp held fuel t cs = some (.agg [.lit (.int .i64 x), .lit (.int .i64 y), .lit (.string z)], q)) :
    cs = [.int .i64 x, .int .i64 y, .string (strOf z)] := by
  obtain ⟨xs, k, e, hx, hl, hlen, hfd⟩ := DataW.trod_struct hu h
  have hlen3 : xs.length = 3 := hlen
  have hs3 : cs.length = 3 := hl.trans c3
  match xs, hlen3 with
  | [y0, y1, y2], _ =>
    match cs, hs3 with
    | [z0, z1, z2], _ =>
      have g0 : DataW.trod _ P w base sp held k f0.type (([z0, z1, z2].drop f0.offset).take (P.cellsOf f0.type)) = some y0 := hfd 0 _ rfl
      have g1 : DataW.trod _ P w base sp held k f1.type (([z0, z1, z2].drop f1.offset).take (P.cellsOf f1.type)) = some y1 := hfd 1 _ rfl
      have g2 : DataW.trod _ P w base sp held k f2.type (([z0, z1, z2].drop f2.offset).take (P.cellsOf f2.type)) = some y2 := hfd 2 _ rfl
      rw [t0, o0, c1] at g0
      rw [t1, o1, c1] at g1
      rw [t2, o2, c2] at g2
      obtain ⟨a0, e0, x0, _⟩ := DataW.trod_int hi g0
      obtain ⟨a1, e1, x1, _⟩ := DataW.trod_int hi g1
      obtain ⟨a2, e2, x2, _⟩ := DataW.trod_string hs g2
      have r0 : z0 = .int .i64 a0 := by simpa using e0
      have r1 : z1 = .int .i64 a1 := by simpa using e1
      have r2 : z2 = .string a2 := by simpa using e2
      have ex := congrArg Prod.fst hx
      rw [x0, x1, x2] at ex
      simp at ex
      obtain ⟨h0, h1, h2⟩ := ex
      rw [r0, r1, r2, h0, h1, strOf_of (b := a2) (l := z) h2.symm]
theorem kd_reads {W : World} (h : Lib.VarReads Tryz.prog W "certpath/gname.kinds" Rows.laid_certpath_gname_kinds) : KdT W := by
  obtain ⟨g, t, cs, fuel, p, hg, hty, hvar, hd⟩ := h
  obtain rfl : 0 = g := Option.some.inj ((show Tryz.prog.globalNamed "certpath/gname.kinds" = some 0 by kernel_rfl).symm.trans hg)
  obtain rfl : 90 = t := Option.some.inj ((show (Tryz.prog.globals[0]?).map (·.type) = some 90 by kernel_rfl).symm.trans hty)
  have c1 : Tryz.prog.cellsOf 3 = 1 := by kernel_rfl
  have c2 : Tryz.prog.cellsOf 9 = 1 := by kernel_rfl
  have c3 : Tryz.prog.cellsOf 89 = 3 := by kernel_rfl
  unfold Rows.laid_certpath_gname_kinds at hd
  have key : ∀ i (hi : i < 4) (x y : Int) (z : List UInt8), ([(1, 129, [109, 97, 105, 108, 58]), (2, 130, [100, 110, 115, 58]), (4, 164, [100, 105, 114, 58]), (7, 135, [105, 112, 58])] : List (Int × Int × List UInt8))[i]? = some (x, y, z) → cs[i * 3]? = some (.int .i64 x) ∧ cs[i * 3 + 1]? = some (.int .i64 y) ∧ cs[i * 3 + 2]? = some (.string (strOf z)) := by
    intro i hi x y z hxy
    obtain ⟨fuel', d, q, hdi, he⟩ := Lib.array_elem Tryz.underlying90 hd i hi
    have hd2 : d = .agg [.lit (.int .i64 x), .lit (.int .i64 y), .lit (.string z)] := by
      rcases (by omega : i = 0 ∨ i = 1 ∨ i = 2 ∨ i = 3) with rfl | rfl | rfl | rfl <;> (simp at hxy hdi; obtain ⟨rfl, rfl, rfl⟩ := hxy; exact hdi.symm)
    subst hd2
    rw [c3] at he
    have hcs := ints_str Tryz.underlying89 Tryz.underlying3 Tryz.underlying9 rfl rfl rfl rfl rfl rfl c1 c2 c3 he
    have e0 := congrArg (·[0]?) hcs
    have e1 := congrArg (·[1]?) hcs
    have e2 := congrArg (·[2]?) hcs
    simp only [List.getElem?_take, List.getElem?_drop] at e0 e1 e2
    exact ⟨by rw [← Array.getElem?_toList]; simpa using e0, by rw [← Array.getElem?_toList]; simpa using e1, by rw [← Array.getElem?_toList]; simpa using e2⟩
  intro j hj
  rw [World.var?_cell hg hvar j]
  rcases (by omega : j = 0 ∨ j = 1 ∨ j = 2 ∨ j = 3 ∨ j = 4 ∨ j = 5 ∨ j = 6 ∨ j = 7 ∨ j = 8 ∨ j = 9 ∨ j = 10 ∨ j = 11) with rfl | rfl | rfl | rfl | rfl | rfl | rfl | rfl | rfl | rfl | rfl | rfl
  · exact (key 0 (by omega) _ _ _ rfl).1
  · exact (key 0 (by omega) _ _ _ rfl).2.1
  · exact (key 0 (by omega) _ _ _ rfl).2.2
  · exact (key 1 (by omega) _ _ _ rfl).1
  · exact (key 1 (by omega) _ _ _ rfl).2.1
  · exact (key 1 (by omega) _ _ _ rfl).2.2
  · exact (key 2 (by omega) _ _ _ rfl).1
  · exact (key 2 (by omega) _ _ _ rfl).2.1
  · exact (key 2 (by omega) _ _ _ rfl).2.2
  · exact (key 3 (by omega) _ _ _ rfl).1
  · exact (key 3 (by omega) _ _ _ rfl).2.1
  · exact (key 3 (by omega) _ _ _ rfl).2.2
theorem kd_met {W : World} {L : List (String × DataW Unit)} (h : laidMet Tryz.prog L W) (h1 : ("certpath/gname.kinds", Rows.laid_certpath_gname_kinds) ∈ L) : KdT W := kd_reads (Lib.laidMet.reads h h1)
theorem pow10_laid {x y : String × DataW Unit} {rest : List (String × DataW Unit)} {W : World} (h : laidMet Tryz.prog (x :: y :: ("internal/strconv.uint64pow10", Lib.tabData .u64 Lib.pow10Tab) :: rest) W) : Pow10 W :=
  Lib.tabBelow_of_tabIs (Lib.tabIs_of_head (g := 8) (t := 270) (e := 228) (n := 20) (by kernel_rfl) (by kernel_rfl) Tryz.underlying270 Tryz.underlying228 (by kernel_rfl) (by kernel_rfl) h.tail.tail)
theorem pow10_data : (Rows.laid_internal_strconv_uint64pow10 : DataW Unit) = Lib.tabData .u64 Lib.pow10Tab := by kernel_rfl
abbrev laidD : List (String × DataW Unit) := [("math/bits.deBruijn32tab", Rows.laid_math_bits_deBruijn32tab), ("math/bits.deBruijn64tab", Rows.laid_math_bits_deBruijn64tab), ("internal/strconv.uint64pow10", Rows.laid_internal_strconv_uint64pow10), ("unicode/utf8.acceptRanges", Rows.laid_unicode_utf8_acceptRanges), ("unicode.asciiFold", Rows.laid_unicode_asciiFold), ("unicode.caseOrbit", Rows.laid_unicode_caseOrbit), ("certpath/gname.kinds", Rows.laid_certpath_gname_kinds), ("unicode.CaseRanges", Rows.laid_unicode_CaseRanges), ("unicode/utf8.first", Rows.laid_unicode_utf8_first)]
theorem metD {W : World} (h : laidMetH Tryz.prog laidD W) : Tab W ∧ KdT W ∧ Pow10 W := by
  rw [MakeChecks.laidMetH_plain _ _ _ (by kernel_rfl)] at h
  have h' : laidMet Tryz.prog laidD W := h
  have h2 : laidMet Tryz.prog (("math/bits.deBruijn32tab", Rows.laid_math_bits_deBruijn32tab) :: ("math/bits.deBruijn64tab", Rows.laid_math_bits_deBruijn64tab) :: ("internal/strconv.uint64pow10", Rows.laid_internal_strconv_uint64pow10) :: [("unicode/utf8.acceptRanges", Rows.laid_unicode_utf8_acceptRanges), ("unicode.asciiFold", Rows.laid_unicode_asciiFold), ("unicode.caseOrbit", Rows.laid_unicode_caseOrbit), ("certpath/gname.kinds", Rows.laid_certpath_gname_kinds), ("unicode.CaseRanges", Rows.laid_unicode_CaseRanges), ("unicode/utf8.first", Rows.laid_unicode_utf8_first)]) W := h
  rw [pow10_data] at h2
  have hP : Pow10 W := pow10_laid h2
  exact ⟨tab_met h' (.tail _ (.tail _ (.tail _ (.tail _ (.tail _ (.tail _ (.tail _ (.tail _ (.head _))))))))) (.tail _ (.tail _ (.tail _ (.head _)))), kd_met h' (.tail _ (.tail _ (.tail _ (.tail _ (.tail _ (.tail _ (.head _))))))), hP⟩
end Go.Proofs.YtflpajbcomhkpaaGreatDoor
namespace Go.Proofs.YtflpajbcomhkpaaGreatDoor
open Go.RowKit

theorem chkA_len {b : List At} {a : At} (h : chkA b a = 0) : a.2.2.size ≤ 64 := by
  unfold chkA at h
  split at h
  · cases h
  · split at h
    · cases h
    · split at h
      · cases h
      · split at h
        · cases h
        · omega
theorem chkL_len : ∀ {r b : List At}, chkL b r = 0 → ∀ a ∈ r, a.2.2.size ≤ 64
  | [], _, _, _, ha => by cases ha
  | x :: r, b, h, a, ha => by
    unfold chkL at h
    by_cases hx : chkA b x = 0
    · rw [if_pos hx] at h
      rcases List.mem_cons.1 ha with rfl | ha
      · exact chkA_len hx
      · exact chkL_len h a ha
    · rw [if_neg hx] at h; exact absurd h hx
theorem encA_le64 (x : At) (h : x.2.2.size ≤ 64) : (encA x).size ≤ 137 := by
  have h1 := wrapStr_le 6 (oidS x.1).data.toList
  have h2 := wrapStr_le x.2.1 x.2.2.data.toList
  have h3 := wrapStr_le 48 ((wr1 6 (oidS x.1)).data.toList ++ (wr1 x.2.1 x.2.2).data.toList)
  have h4 := oidS_size x.1
  have e1 : (oidS x.1).data.toList.length = (oidS x.1).size := rfl
  have e2 : x.2.2.data.toList.length = x.2.2.size := rfl
  have e3 : (wr1 6 (oidS x.1)).data.toList.length = (wrapStr 6 (oidS x.1).data.toList).size := rfl
  have e4 : (wr1 x.2.1 x.2.2).data.toList.length = (wrapStr x.2.1 x.2.2.data.toList).size := rfl
  rw [List.length_append] at h3
  show (wrapStr 48 ((wr1 6 (oidS x.1)).data.toList ++ (wr1 x.2.1 x.2.2).data.toList)).size ≤ 137
  omega
theorem encR_le64 {r : List At} (h : chkR r = 0) : (encR r).size ≤ 554 := by
  have hl : r.length ≤ 4 ∧ chkL [] r = 0 := by
    unfold chkR at h
    split at h
    · cases h
    · split at h
      · cases h
      · exact ⟨by omega, h⟩
  have h1 := wrapStr_le 49 (ordL (lists (r.map encA))).flatten
  rw [ordL_flat_length, lists_flat] at h1
  have h2 := cat_lenM 137 (r.map encA) (fun s hs => by obtain ⟨a, ha, rfl⟩ := List.mem_map.1 hs; exact encA_le64 a (chkL_len hl.2 a ha))
  rw [List.length_map] at h2
  have := hl.1
  show (wrapStr 49 (ordL (lists (r.map encA))).flatten).size ≤ 554
  omega
theorem chkRs_all : ∀ {n : Nm}, chkRs n = 0 → ∀ r ∈ n, chkR r = 0
  | [], _, _, hr => by cases hr
  | x :: n, h, r, hr => by
    unfold chkRs at h
    by_cases hx : chkR x = 0
    · rw [if_pos hx] at h
      rcases List.mem_cons.1 hr with rfl | hr
      · exact hx
      · exact chkRs_all h r hr
    · rw [if_neg hx] at h; exact absurd h hx
theorem encN_le64 {n : Nm} (h : chkN n = 0) : (encN n).size ≤ 4438 := by
  have hl : n.length ≤ 8 ∧ chkRs n = 0 := by
    unfold chkN at h
    split at h
    · cases h
    · exact ⟨by omega, h⟩
  have h1 := wrapStr_le 48 (cat_t (n.map encR))
  have h2 := cat_lenM 554 (n.map encR) (fun s hs => by obtain ⟨a, ha, rfl⟩ := List.mem_map.1 hs; exact encR_le64 (chkRs_all hl.2 a ha))
  rw [List.length_map] at h2
  have := hl.1
  show (wrapStr 48 (cat_t (n.map encR))).size ≤ 4438
  omega
end Go.Proofs.YtflpajbcomhkpaaGreatDoor
