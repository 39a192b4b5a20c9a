/-
  Nothing is left of this text.
  Plain laws on names as lists: what an attribute is, which error a name has, when two names match. Nothing is claimed of the program here.
  Attributes and relative names in memory: that they can be read at an address, and that a slice of a call's own holds them. Nothing is claimed of the program here.
  The contracts of certpathmade's New and Next, with the one block that a deck writes: a number from 0 to n - 1; all other memory as it was.
-/
import Derived.Test.YtpmlkofceidnjaaDoorAad
import Derived.Deep.DeepCutAuto
import Derived.Test.YtpmlkofceidnjaaDoorAaa
import Derived.Maps.Range
import Derived.Maps.AppendAt

namespace Go.Proofs.YtpmlkofceidnjaaDoor
open Go.RowKit

/-- An attribute: its type, its kind, its value. A name: its relative names. -/
abbrev At := ByteArray × Int × ByteArray
abbrev Nm := List (List At)
def noAt : At := (⟨#[]⟩, 0, ⟨#[]⟩)

/-! ### The first error of a name -/
noncomputable def oidB (s : ByteArray) : Bool := @decide (∃ a, Oid s.data.toList a) (Classical.propDecidable _)
theorem oidB_yes {s : ByteArray} {a : List Nat} (h : Oid s.data.toList a) : oidB s = true := by unfold oidB; exact @decide_eq_true _ (Classical.propDecidable _) ⟨a, h⟩
theorem oidB_true {s : ByteArray} (h : oidB s = true) : ∃ a, Oid s.data.toList a := by unfold oidB at h; exact @of_decide_eq_true _ (Classical.propDecidable _) h
/-! ### When names match -/
def fa (a : At) : ByteArray × ByteArray := (a.1, foldS a.2.2)
def MatchR (r s : List At) : Prop := r.length = s.length ∧ (∀ x ∈ r, ∃ y ∈ s, fa y = fa x) ∧ (∀ y ∈ s, ∃ x ∈ r, fa x = fa y)
instance (r s : List At) : Decidable (MatchR r s) := by unfold MatchR; infer_instance
theorem MatchR.refl (r : List At) : MatchR r r := ⟨rfl, fun x h => ⟨x, h, rfl⟩, fun x h => ⟨x, h, rfl⟩⟩
theorem MatchR.symm {r s : List At} (h : MatchR r s) : MatchR s r := ⟨h.1.symm, h.2.2, h.2.1⟩
theorem MatchR.trans {r s t : List At} (h : MatchR r s) (k : MatchR s t) : MatchR r t := by
  refine ⟨h.1.trans k.1, fun x hx => ?_, fun x hx => ?_⟩
  · obtain ⟨y, hy, e1⟩ := h.2.1 x hx
    obtain ⟨z, hz, e2⟩ := k.2.1 y hy
    exact ⟨z, hz, e2.trans e1⟩
  · obtain ⟨y, hy, e1⟩ := k.2.2 x hx
    obtain ⟨z, hz, e2⟩ := h.2.2 y hy
    exact ⟨z, hz, e2.trans e1⟩
/-- The relative names of b match the first ones of n. -/
def WithinN (n b : Nm) : Prop := b.length ≤ n.length ∧ ∀ i, i < b.length → MatchR (n.getD i []) (b.getD i [])
def MatchN (n m : Nm) : Prop := n.length = m.length ∧ ∀ i, i < n.length → MatchR (n.getD i []) (m.getD i [])
instance (n b : Nm) : Decidable (WithinN n b) := by unfold WithinN; infer_instance
instance (n b : Nm) : Decidable (MatchN n b) := by unfold MatchN; infer_instance
theorem MatchN.refl (n : Nm) : MatchN n n := ⟨rfl, fun _ _ => MatchR.refl _⟩
theorem MatchN.symm {n m : Nm} (h : MatchN n m) : MatchN m n := ⟨h.1.symm, fun i hi => (h.2 i (by rw [h.1]; exact hi)).symm⟩
theorem MatchN.within {n m : Nm} (h : MatchN n m) : WithinN n m := ⟨Nat.le_of_eq h.1.symm, fun i hi => h.2 i (by rw [h.1]; exact hi)⟩
theorem WithinN.trans {a b c : Nm} (h : WithinN a b) (k : WithinN b c) : WithinN a c := ⟨Nat.le_trans k.1 h.1, fun i hi => (h.2 i (Nat.lt_of_lt_of_le hi k.1)).trans (k.2 i hi)⟩
theorem getD_take {α : Type} (l : List α) (k i : Nat) (h : i < k) (d : α) : (l.take k).getD i d = l.getD i d := by
  rw [List.getD_eq_getElem?_getD, List.getD_eq_getElem?_getD, List.getElem?_take_of_lt h]
end Go.Proofs.YtpmlkofceidnjaaDoor
namespace Go.Proofs.YtpmlkofceidnjaaDoor
open Go.RowKit

theorem block_lt {w : World} {b o : Nat} {v : Value} (h : w.cell? ⟨b, o, none⟩ = some v) : b < w.heap.size := World.block_lt_of_cell? _ _ h
/-- At the address lie the attributes l. -/
def ALies (w : World) (a : Option Addr) (l : List At) : Prop :=
  l = [] ∨ ∃ b o, a = some ⟨b, o, none⟩ ∧ ∀ i, i < l.length → w.cell? ⟨b, o + i * 3, none⟩ = some (.string (l.getD i noAt).1) ∧ w.cell? ⟨b, o + i * 3 + 1, none⟩ = some (.int .i64 (l.getD i noAt).2.1) ∧ w.cell? ⟨b, o + i * 3 + 2, none⟩ = some (.string (l.getD i noAt).2.2)
theorem ALies.nil (w : World) (a : Option Addr) : ALies w a [] := .inl rfl
theorem ALies.below {w w' : World} {a : Option Addr} {l : List At} (h : ALies w a l) (hb : Below w.heap.size w w') : ALies w' a l := by
  rcases h with h | ⟨b, o, h1, h2⟩
  · exact .inl h
  · refine .inr ⟨b, o, h1, fun i hi => ?_⟩
    obtain ⟨c0, c1, c2⟩ := h2 i hi
    exact ⟨(hb.cell (block_lt c0)).trans c0, (hb.cell (block_lt c1)).trans c1, (hb.cell (block_lt c2)).trans c2⟩
theorem ALies.take {w : World} {a : Option Addr} {l : List At} (h : ALies w a l) (k : Nat) : ALies w a (l.take k) := by
  rcases h with h | ⟨b, o, h1, h2⟩
  · exact .inl (by rw [h]; simp)
  · refine .inr ⟨b, o, h1, fun i hi => ?_⟩
    rw [List.length_take] at hi
    rw [getD_take _ _ _ (by omega)]
    exact h2 i (by omega)
theorem ALies.at {w : World} {a : Option Addr} {l : List At} (h : ALies w a l) (k : Nat) (hk : k < l.length) : ∃ b o, a = some ⟨b, o, none⟩ ∧ b < w.heap.size ∧
    w.cell? ⟨b, o + k * 3, none⟩ = some (.string (l.getD k noAt).1) ∧ w.cell? ⟨b, o + k * 3 + 1, none⟩ = some (.int .i64 (l.getD k noAt).2.1) ∧ w.cell? ⟨b, o + k * 3 + 2, none⟩ = some (.string (l.getD k noAt).2.2) := by
  rcases h with h | ⟨b, o, h1, h2⟩
  · rw [h] at hk; exact absurd hk (Nat.not_lt_zero _)
  · obtain ⟨c0, c1, c2⟩ := h2 k hk
    exact ⟨b, o, h1, block_lt c0, c0, c1, c2⟩
/-- At the address lie the relative names n. -/
def RLies (w : World) (a : Option Addr) (n : Nm) : Prop :=
  n = [] ∨ ∃ b o, a = some ⟨b, o, none⟩ ∧ ∀ i, i < n.length → ∃ a' c', w.cell? ⟨b, o + i, none⟩ = some (.slice a' (n.getD i []).length c') ∧ (n.getD i []).length ≤ c' ∧ ALies w a' (n.getD i [])
theorem RLies.nil (w : World) (a : Option Addr) : RLies w a [] := .inl rfl
theorem RLies.below {w w' : World} {a : Option Addr} {n : Nm} (h : RLies w a n) (hb : Below w.heap.size w w') : RLies w' a n := by
  rcases h with h | ⟨b, o, h1, h2⟩
  · exact .inl h
  · refine .inr ⟨b, o, h1, fun i hi => ?_⟩
    obtain ⟨a', c', q1, q3, q2⟩ := h2 i hi
    exact ⟨a', c', (hb.cell (block_lt q1)).trans q1, q3, q2.below hb⟩
theorem RLies.take {w : World} {a : Option Addr} {n : Nm} (h : RLies w a n) (k : Nat) : RLies w a (n.take k) := by
  rcases h with h | ⟨b, o, h1, h2⟩
  · exact .inl (by rw [h]; simp)
  · refine .inr ⟨b, o, h1, fun i hi => ?_⟩
    rw [List.length_take] at hi
    rw [getD_take _ _ _ (by omega)]
    exact h2 i (by omega)
theorem RLies.at {w : World} {a : Option Addr} {n : Nm} (h : RLies w a n) (k : Nat) (hk : k < n.length) : ∃ b o, a = some ⟨b, o, none⟩ ∧ b < w.heap.size ∧
    ∃ a' c', w.cell? ⟨b, o + k, none⟩ = some (.slice a' (n.getD k []).length c') ∧ (n.getD k []).length ≤ c' ∧ ALies w a' (n.getD k []) := by
  rcases h with h | ⟨b, o, h1, h2⟩
  · rw [h] at hk; exact absurd hk (Nat.not_lt_zero _)
  · obtain ⟨a', c', q1, q3, q2⟩ := h2 k hk
    exact ⟨b, o, h1, block_lt q1, a', c', q1, q3, q2⟩
/-- The struct value v is the name n. -/
def NameV (w : World) (v : Value) (n : Nm) : Prop := ∃ a c, v = .agg #[.slice a n.length c] ∧ n.length ≤ c ∧ RLies w a n
theorem NameV.below {w w' : World} {v : Value} {n : Nm} (h : NameV w v n) (hb : Below w.heap.size w w') : NameV w' v n := by
  obtain ⟨a, c, h1, h3, h2⟩ := h
  exact ⟨a, c, h1, h3, h2.below hb⟩

/-! ### Slices of a call's own -/
end Go.Proofs.YtpmlkofceidnjaaDoor
namespace Go.Proofs.YtpmlkofceidnjaaDoor
open Go.RowKit

theorem Below.only {w w' : World} (h : Below w.heap.size w w') : w.grownBy w' none := ⟨h.os, h.tape, h.output, h.size, fun k hk _ => h.block k hk⟩
/-- But for block p, nothing that was there has changed. -/
def But (p : Nat) (w w' : World) : Prop := w.grownBy w' (some p)
theorem But.refl (p : Nat) (w : World) : But p w w := World.grownBy.refl w _
theorem But.of {p : Nat} {w w' : World} (h : Below w.heap.size w w') : But p w w' := ⟨h.os, h.tape, h.output, h.size, fun k hk _ => h.block k hk⟩
theorem But.next {p : Nat} {a b c : World} (h : But p a b) (k : But p b c) : But p a c := World.grownBy.trans h k
theorem But.drew {p : Nat} {a b : World} (h : But p a b) : But p a b.drew := ⟨h.os, h.tape, h.output, h.size, h.block⟩
theorem But.alloc {p : Nat} {a b : World} (h : But p a b) (o : Obj) : But p a (b.alloc o) := h.next (But.of (belowNew b o))
theorem But.below {p : Nat} {w w' : World} (h : But p w w') (hp : p ≤ w.heap.size) : Below p w w' :=
  ⟨h.os, h.tape, h.output, h.size, fun k hk => h.block k (by omega) (by simp; omega)⟩
theorem But.set (p j : Nat) (w : World) (v : Value) : But p w (w.setCell ⟨p, j, none⟩ v) :=
  ⟨rfl, rfl, rfl, by simp [World.setCell], fun k _ hne => Below.heap_setCell _ _ _ _ (by simpa using hne)⟩
/-- At the address lie the numbers zs. -/
def ILies (w : World) (a : Option Addr) (zs : List Int) : Prop := zs = [] ∨ ∃ b o, a = some ⟨b, o, none⟩ ∧ ∀ i, i < zs.length → w.cell? ⟨b, o + i, none⟩ = some (.int .i64 (zs.getD i 0))
theorem ILies.at {w : World} {a : Option Addr} {zs : List Int} (h : ILies w a zs) (k : Nat) (hk : k < zs.length) : ∃ b o, a = some ⟨b, o, none⟩ ∧ w.cell? ⟨b, o + k, none⟩ = some (.int .i64 (zs.getD k 0)) := by
  rcases h with h | ⟨b, o, h1, h2⟩
  · rw [h] at hk; exact absurd hk (Nat.not_lt_zero _)
  · exact ⟨b, o, h1, h2 k hk⟩
theorem ILies.below {w w' : World} {B : Nat} {a : Option Addr} {zs : List Int} (h : ILies w a zs) (hb : Below B w w') (hB : ∀ x, a = some x → zs ≠ [] → x.block < B) : ILies w' a zs := by
  rcases h with h | ⟨b, o, rfl, h⟩
  · exact .inl h
  · exact .inr ⟨b, o, rfl, fun i hi => (hb.cell (p := ⟨b, o + i, none⟩) (hB ⟨b, o, none⟩ rfl (fun e => by rw [e] at hi; exact absurd hi (Nat.not_lt_zero _)))).trans (h i hi)⟩
/-- A deck of the numbers zs in block p, at place k. -/
def DeckAt (w : World) (p : Nat) (a : Option Addr) (cap : Nat) (zs : List Int) (k : Nat) : Prop :=
  w.heap[p]? = some (.cells #[.slice a zs.length cap, .int .i64 (k : Int)] 37 (0, 0)) ∧ ILies w a zs ∧ (∀ x, a = some x → zs ≠ [] → x.block < p) ∧ k ≤ 30000 ∧ zs.length ≤ 9223372036854775807

set_option maxRecDepth 100000 in
set_option maxHeartbeats 1000000 in
theorem next_end (p : Nat) (a : Option Addr) (cap : Nat) (zs : List Int) (k : Nat) (N : Nat) (w : World) (h : DeckAt w p a cap zs k) (hk : zs.length ≤ k) :
    Calls Tryd.prog 11 #[.pointer (some ⟨p, 0, none⟩), .int .i64 (N : Int)] w fun e w' => e = .returned (.int .i64 0) ∧ DeckAt w' p a cap zs k ∧ But p w w' := by
  have HD := Lib.hid h
  obtain ⟨h1, _, _, _, h4⟩ := h
  obtain ⟨n, hn⟩ : ∃ n, n = zs.length := ⟨_, rfl⟩
  rw [← hn] at h1 hk h4
  have c0 : w.cell? ⟨p, 0, none⟩ = some (.slice a n cap) := by rw [Lib.cell_of_heap h1]; rfl
  have c1 : w.cell? ⟨p, 1, none⟩ = some (.int .i64 (k : Int)) := by rw [Lib.cell_of_heap h1]; rfl
  have d0 : decide ((n : Int) ≤ (k : Int)) = true := by simp; omega
  clear h1 hn
  go_enter Tryd.func11, Tryd.ntmps11
  go_wp2_with fail
  go_region
  go_wp2_with fail
  go_ret
  exact ⟨rfl, HD.out, (But.refl _ _).drew⟩
theorem next_num (z : Int) (N : Nat) (hN : 0 < N) (hN2 : N ≤ 1099511627776) : ∃ x y : Int, ∃ r : Nat, z.tmod (N : Int) = x ∧ -1099511627776 ≤ x ∧ x ≤ 1099511627776 ∧ x + (N : Int) = y ∧ 0 ≤ y ∧ y ≤ 2199023255552 ∧ y.tmod (N : Int) = (r : Int) ∧ r < N := by
  have hx1 : -(N : Int) < z.tmod (N : Int) := by
    have := Int.lt_tmod_of_pos z (show (0 : Int) < (N : Int) by omega)
    simpa using this
  have hx2 : z.tmod (N : Int) < (N : Int) := Int.tmod_lt_of_pos z (by omega)
  refine ⟨_, _, (z.tmod (N : Int) + (N : Int)).tmod (N : Int) |>.toNat, rfl, by omega, by omega, rfl, by omega, by omega, ?_, ?_⟩
  · have h1 : 0 ≤ (z.tmod (N : Int) + (N : Int)).tmod (N : Int) := Int.tmod_nonneg _ (by omega)
    omega
  · have h2 : (z.tmod (N : Int) + (N : Int)).tmod (N : Int) < (N : Int) := Int.tmod_lt_of_pos _ (by omega)
    omega

theorem deck_set {w : World} {p : Nat} {a : Option Addr} {cap : Nat} {zs : List Int} {k : Nat} (h : DeckAt w p a cap zs k) (hk : k < 30000) : DeckAt (w.setCell ⟨p, 1, none⟩ (.int .i64 ((k : Int) + 1))) p a cap zs (k + 1) := by
  obtain ⟨h1, h2, h3, _, h4⟩ := h
  refine ⟨?_, h2.below ((Below.refl p w).setCell (p := ⟨p, 1, none⟩) (Nat.le_refl _) _) h3, h3, by omega, h4⟩
  simp [World.setCell, Array.getElem?_modify, h1]
set_option maxRecDepth 100000 in
set_option maxHeartbeats 1000000 in
theorem next_more (p : Nat) (a : Option Addr) (cap : Nat) (zs : List Int) (k : Nat) (N : Nat) (w : World) (h : DeckAt w p a cap zs k) (hk : k < zs.length) (hk2 : k < 30000) (hN : 0 < N) (hN2 : N ≤ 1099511627776) :
    Calls Tryd.prog 11 #[.pointer (some ⟨p, 0, none⟩), .int .i64 (N : Int)] w fun e w' => (∃ r : Nat, r < N ∧ e = .returned (.int .i64 (r : Int))) ∧ DeckAt w' p a cap zs (k + 1) ∧ But p w w' := by
  have HD := Lib.hid h
  obtain ⟨h1, h2, h3, _, h4⟩ := h
  obtain ⟨b, o, ha, hc⟩ := h2.at k hk
  have hbp := h3 _ ha (fun e => by rw [e] at hk; exact absurd hk (Nat.not_lt_zero _))
  subst ha
  generalize zs.getD k 0 = z at hc
  obtain ⟨x, y, r, e1, x1, x2, e2, y1, y2, e3, hr⟩ := next_num z N hN hN2
  obtain ⟨n, hn⟩ : ∃ n, n = zs.length := ⟨_, rfl⟩
  rw [← hn] at h1 hk h4
  have c0 : w.cell? ⟨p, 0, none⟩ = some (.slice (some ⟨b, o, none⟩) n cap) := by rw [Lib.cell_of_heap h1]; rfl
  have c1 : w.cell? ⟨p, 1, none⟩ = some (.int .i64 (k : Int)) := by rw [Lib.cell_of_heap h1]; rfl
  have f1 : w.frozen? ⟨p, 1, none⟩ = false := Lib.frozen_of_heap h1 1
  have hne : b ≠ p := by simp at hbp; omega
  have d0 : decide ((n : Int) ≤ (k : Int)) = false := by simp; omega
  have HR := Lib.hid hr
  clear h1 hn h2 h3 hr hbp
  go_enter Tryd.func11, Tryd.ntmps11
  go_wp2_with fail
  go_region
  go_wp2_with fail
  go_region
  go_wp2_with fail
  go_ret
  exact ⟨⟨r, HR.out, rfl⟩, deck_set HD.out hk2, (But.set p 1 w _).drew.drew⟩

theorem next_any (p : Nat) (a : Option Addr) (cap : Nat) (zs : List Int) (k : Nat) (N : Nat) (w : World) (h : DeckAt w p a cap zs k) (hk2 : k < 30000) (hN : 0 < N) (hN2 : N ≤ 1099511627776) :
    Calls Tryd.prog 11 #[.pointer (some ⟨p, 0, none⟩), .int .i64 (N : Int)] w fun e w' => ∃ r k' : Nat, r < N ∧ e = .returned (.int .i64 (r : Int)) ∧ DeckAt w' p a cap zs k' ∧ k' ≤ k + 1 ∧ But p w w' := by
  by_cases hk : k < zs.length
  · exact (next_more p a cap zs k N w h hk hk2 hN hN2).mono fun e w' hh => by
      obtain ⟨⟨r, hr, he⟩, h1, h2⟩ := hh
      exact ⟨r, k + 1, hr, he, h1, Nat.le_refl _, h2⟩
  · exact (next_end p a cap zs k N w h (by omega)).mono fun e w' hh => ⟨0, k, hN, by rw [hh.1]; rfl, hh.2.1, by omega, hh.2.2⟩

set_option maxRecDepth 100000 in
theorem new_any (a : Option Addr) (cap : Nat) (zs : List Int) (w : World) (hl : ILies w a zs) (hz : zs.length ≤ 9223372036854775807) :
    Calls Tryd.prog 4 #[.slice a zs.length cap] w fun e w' => e = .returned (.pointer (some ⟨w.heap.size, 0, none⟩)) ∧ DeckAt w' w.heap.size a cap zs 0 ∧ Below w.heap.size w w' := by
  have ha : ∀ x, a = some x → zs ≠ [] → x.block < w.heap.size := by
    intro x hx hne
    rcases hl with h | ⟨b, o, h1, h2⟩
    · exact absurd h hne
    · obtain rfl := Option.some.inj (hx.symm.trans h1)
      exact block_lt_of_cell (h2 0 (List.length_pos_iff.2 hne))
  have HL := Lib.hid hl
  obtain ⟨n, hn⟩ : ∃ n, n = zs.length := ⟨_, rfl⟩
  have HN := Lib.hid hn
  rw [← hn]
  clear hl hn
  go_enter Tryd.func4, Tryd.ntmps4
  go_wp2_with fail
  go_ret
  have hb : Below w.heap.size w (w.alloc (.cells #[.slice a n cap, .int .i64 0] 37)) := (Below.refl _ _).alloc (Nat.le_refl _) _
  refine ⟨rfl, ⟨?_, HL.out.below hb ha, ha, by omega, hz⟩, hb⟩
  rw [← HN.out]
  exact heap_alloc_new w _
theorem DeckAt.lt {w : World} {p : Nat} {a : Option Addr} {cap : Nat} {zs : List Int} {k : Nat} (h : DeckAt w p a cap zs k) : p < w.heap.size := (Array.getElem?_eq_some_iff.1 h.1).1
/-- A call that leaves all old memory alone leaves the deck alone. -/
theorem DeckAt.below {w w' : World} {p : Nat} {a : Option Addr} {cap : Nat} {zs : List Int} {k : Nat} (h : DeckAt w p a cap zs k) (hb : Below w.heap.size w w') : DeckAt w' p a cap zs k := by
  have hp := h.lt
  obtain ⟨h1, h2, h3, h5, h4⟩ := h
  exact ⟨(hb.block p hp).trans h1, h2.below (hb.mono (Nat.le_of_lt hp)) h3, h3, h5, h4⟩
/-- Growth of a row of a block behind the deck's leaves the deck alone. -/
theorem DeckAt.grown {w w' : World} {p : Nat} {a : Option Addr} {cap : Nat} {zs : List Int} {k : Nat} {row : Option Nat} (h : DeckAt w p a cap zs k) (hg : w.grownBy w' row) (hr : ∀ j, row = some j → p < j) : DeckAt w' p a cap zs k := by
  have hp := h.lt
  obtain ⟨h1, h2, h3, h5, h4⟩ := h
  have hb : Below p w w' := ⟨hg.os, hg.tape, hg.output, hg.size, fun j hj => hg.block j (by omega) (fun e => by have := hr j e.symm; omega)⟩
  exact ⟨(hg.block p hp (fun e => by have := hr p e.symm; omega)).trans h1, h2.below hb h3, h3, h5, h4⟩
end Go.Proofs.YtpmlkofceidnjaaDoor
