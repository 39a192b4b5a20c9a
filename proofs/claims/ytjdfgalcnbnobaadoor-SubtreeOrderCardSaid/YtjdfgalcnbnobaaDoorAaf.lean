/-
  The contracts of certpathmade's New and Next, with the one block that a deck writes: a number from 0 to n - 1; all other memory as it was.
-/
import Derived.Test.YtjdfgalcnbnobaaDoorAae
import Derived.Maps.Range
import Derived.Maps.AppendAt
namespace Go.Proofs.YtjdfgalcnbnobaaDoor
open Go.RowKit

theorem Below.only {w w' : World} (h : Below w.heap.size w w') : w.grownBy w' none := ⟨h.os, h.tape, h.output, h.size, fun k hk _ => h.block k hk⟩
theorem only_below {w w' : World} (h : w.grownBy w' none) : Below w.heap.size w w' := ⟨h.os, h.tape, h.output, h.size, fun k hk => h.block k hk (by simp)⟩
/-- But for block p, nothing that was there has changed. -/
def But (p : Nat) (w w' : World) : Prop := w.grownBy w' (some p)
theorem But.refl (p : Nat) (w : World) : But p w w := World.grownBy.refl w _
theorem But.of {p : Nat} {w w' : World} (h : Below w.heap.size w w') : But p w w' := ⟨h.os, h.tape, h.output, h.size, fun k hk _ => h.block k hk⟩
theorem But.next {p : Nat} {a b c : World} (h : But p a b) (k : But p b c) : But p a c := World.grownBy.trans h k
theorem But.drew {p : Nat} {a b : World} (h : But p a b) : But p a b.drew := ⟨h.os, h.tape, h.output, h.size, h.block⟩
theorem But.alloc {p : Nat} {a b : World} (h : But p a b) (o : Obj) : But p a (b.alloc o) := h.next (But.of (belowNew b o))
theorem But.below {p : Nat} {w w' : World} (h : But p w w') (hp : p ≤ w.heap.size) : Below p w w' :=
  ⟨h.os, h.tape, h.output, h.size, fun k hk => h.block k (by omega) (by simp; omega)⟩
theorem But.set (p j : Nat) (w : World) (v : Value) : But p w (w.setCell ⟨p, j, none⟩ v) :=
  ⟨rfl, rfl, rfl, by simp [World.setCell], fun k _ hne => Below.heap_setCell _ _ _ _ (by simpa using hne)⟩
/-- What is of memory behind the deck's block is kept. -/
theorem own_but {w w' : World} {p B : Nat} {e : TypeId} {k n : Nat} {v : Value} {xs : List Value} (h : w.ownsRow B e k v n xs) (hb : But p w w') (hB : p < B) : w'.ownsRow B e k v n xs :=
  World.ownsRow.kept h hb (by
    rcases h.2 with ⟨hv, _⟩ | ⟨g, cap, cur, hv, hg, _⟩
    · exact .inl (by rw [hv]; rfl)
    · exact .inr (by rw [hv]; simp [Value.ownBlock]; omega))
theorem OwnA.but {w w' : World} {p B : Nat} {v : Value} {l : List At} (h : OwnA w B v l) (hb : But p w w') (hB : p < B) : OwnA w' B v l := own_but h hb hB
theorem OwnN.but {w w' : World} {p B : Nat} {v : Value} {n : Nm} (h : OwnN w B v n) (hb : But p w w') (hB : p < B) : OwnN w' B v n := by
  obtain ⟨vs, h1, h2, h3⟩ := h
  exact ⟨vs, h1, own_but h2 hb hB, fun i hi => (h3 i hi).but hb hB⟩
theorem OwnV.but {w w' : World} {p B : Nat} {v : Value} {n : Nm} (h : OwnV w B v n) (hb : But p w w') (hB : p < B) : OwnV w' B v n := by
  obtain ⟨s, h1, h2⟩ := h
  exact ⟨s, h1, h2.but hb hB⟩
theorem OwnV.below {w w' : World} {B : Nat} {v : Value} {n : Nm} (h : OwnV w B v n) (hb : Below w.heap.size w w') : OwnV w' B v n := by
  obtain ⟨s, h1, h2⟩ := h
  exact ⟨s, h1, h2.below hb⟩
theorem OwnV.base {w : World} {B B' : Nat} {v : Value} {n : Nm} (h : OwnV w B v n) (hB : B' ≤ B) : OwnV w B' v n := by
  obtain ⟨s, h1, h2⟩ := h
  exact ⟨s, h1, h2.base hB⟩

/-- At the address lie the numbers zs. -/
def ILies (w : World) (a : Option Addr) (zs : List Int) : Prop := zs = [] ∨ ∃ b o, a = some ⟨b, o, none⟩ ∧ ∀ i, i < zs.length → w.cell? ⟨b, o + i, none⟩ = some (.int .i64 (zs.getD i 0))
theorem ILies.at {w : World} {a : Option Addr} {zs : List Int} (h : ILies w a zs) (k : Nat) (hk : k < zs.length) : ∃ b o, a = some ⟨b, o, none⟩ ∧ w.cell? ⟨b, o + k, none⟩ = some (.int .i64 (zs.getD k 0)) := by
  rcases h with h | ⟨b, o, h1, h2⟩
  · rw [h] at hk; exact absurd hk (Nat.not_lt_zero _)
  · exact ⟨b, o, h1, h2 k hk⟩
theorem ILies.below {w w' : World} {B : Nat} {a : Option Addr} {zs : List Int} (h : ILies w a zs) (hb : Below B w w') (hB : ∀ x, a = some x → zs ≠ [] → x.block < B) : ILies w' a zs := by
  rcases h with h | ⟨b, o, rfl, h⟩
  · exact .inl h
  · exact .inr ⟨b, o, rfl, fun i hi => (hb.cell (p := ⟨b, o + i, none⟩) (hB ⟨b, o, none⟩ rfl (fun e => by rw [e] at hi; exact absurd hi (Nat.not_lt_zero _)))).trans (h i hi)⟩
/-- A deck of the numbers zs in block p, at place k. -/
def DeckAt (w : World) (p : Nat) (a : Option Addr) (cap : Nat) (zs : List Int) (k : Nat) : Prop :=
  w.heap[p]? = some (.cells #[.slice a zs.length cap, .int .i64 (k : Int)] 44 (0, 0)) ∧ ILies w a zs ∧ (∀ x, a = some x → zs ≠ [] → x.block < p) ∧ k ≤ 1000 ∧ zs.length ≤ 9223372036854775807

set_option maxRecDepth 100000 in
set_option maxHeartbeats 1000000 in
theorem next_end (p : Nat) (a : Option Addr) (cap : Nat) (zs : List Int) (k : Nat) (N : Nat) (w : World) (h : DeckAt w p a cap zs k) (hk : zs.length ≤ k) :
    Calls Tryd.prog 11 #[.pointer (some ⟨p, 0, none⟩), .int .i64 (N : Int)] w fun e w' => e = .returned (.int .i64 0) ∧ DeckAt w' p a cap zs k ∧ But p w w' := by
  have HD := Lib.hid h
  obtain ⟨h1, _, _, _, h4⟩ := h
  obtain ⟨n, hn⟩ : ∃ n, n = zs.length := ⟨_, rfl⟩
  rw [← hn] at h1 hk h4
  have c0 : w.cell? ⟨p, 0, none⟩ = some (.slice a n cap) := by rw [Lib.cell_of_heap h1]; rfl
  have c1 : w.cell? ⟨p, 1, none⟩ = some (.int .i64 (k : Int)) := by rw [Lib.cell_of_heap h1]; rfl
  have d0 : decide ((n : Int) ≤ (k : Int)) = true := by simp; omega
  clear h1 hn
  go_enter Tryd.func11, Tryd.ntmps11
  go_wp2_with fail
  go_region
  go_wp2_with fail
  go_ret
  exact ⟨rfl, HD.out, (But.refl _ _).drew⟩
theorem next_num (z : Int) (N : Nat) (hN : 0 < N) (hN2 : N ≤ 1099511627776) : ∃ x y : Int, ∃ r : Nat, z.tmod (N : Int) = x ∧ -1099511627776 ≤ x ∧ x ≤ 1099511627776 ∧ x + (N : Int) = y ∧ 0 ≤ y ∧ y ≤ 2199023255552 ∧ y.tmod (N : Int) = (r : Int) ∧ r < N := by
  have hx1 : -(N : Int) < z.tmod (N : Int) := by
    have := Int.lt_tmod_of_pos z (show (0 : Int) < (N : Int) by omega)
    simpa using this
  have hx2 : z.tmod (N : Int) < (N : Int) := Int.tmod_lt_of_pos z (by omega)
  refine ⟨_, _, (z.tmod (N : Int) + (N : Int)).tmod (N : Int) |>.toNat, rfl, by omega, by omega, rfl, by omega, by omega, ?_, ?_⟩
  · have h1 : 0 ≤ (z.tmod (N : Int) + (N : Int)).tmod (N : Int) := Int.tmod_nonneg _ (by omega)
    omega
  · have h2 : (z.tmod (N : Int) + (N : Int)).tmod (N : Int) < (N : Int) := Int.tmod_lt_of_pos _ (by omega)
    omega

theorem deck_set {w : World} {p : Nat} {a : Option Addr} {cap : Nat} {zs : List Int} {k : Nat} (h : DeckAt w p a cap zs k) (hk : k < 1000) : DeckAt (w.setCell ⟨p, 1, none⟩ (.int .i64 ((k : Int) + 1))) p a cap zs (k + 1) := by
  obtain ⟨h1, h2, h3, _, h4⟩ := h
  refine ⟨?_, h2.below ((Below.refl p w).setCell (p := ⟨p, 1, none⟩) (Nat.le_refl _) _) h3, h3, by omega, h4⟩
  simp [World.setCell, Array.getElem?_modify, h1]
set_option maxRecDepth 100000 in
set_option maxHeartbeats 1000000 in
theorem next_more (p : Nat) (a : Option Addr) (cap : Nat) (zs : List Int) (k : Nat) (N : Nat) (w : World) (h : DeckAt w p a cap zs k) (hk : k < zs.length) (hk2 : k < 1000) (hN : 0 < N) (hN2 : N ≤ 1099511627776) :
    Calls Tryd.prog 11 #[.pointer (some ⟨p, 0, none⟩), .int .i64 (N : Int)] w fun e w' => (∃ r : Nat, r < N ∧ e = .returned (.int .i64 (r : Int))) ∧ DeckAt w' p a cap zs (k + 1) ∧ But p w w' := by
  have HD := Lib.hid h
  obtain ⟨h1, h2, h3, _, h4⟩ := h
  obtain ⟨b, o, ha, hc⟩ := h2.at k hk
  have hbp := h3 _ ha (fun e => by rw [e] at hk; exact absurd hk (Nat.not_lt_zero _))
  subst ha
  generalize zs.getD k 0 = z at hc
  obtain ⟨x, y, r, e1, x1, x2, e2, y1, y2, e3, hr⟩ := next_num z N hN hN2
  obtain ⟨n, hn⟩ : ∃ n, n = zs.length := ⟨_, rfl⟩
  rw [← hn] at h1 hk h4
  have c0 : w.cell? ⟨p, 0, none⟩ = some (.slice (some ⟨b, o, none⟩) n cap) := by rw [Lib.cell_of_heap h1]; rfl
  have c1 : w.cell? ⟨p, 1, none⟩ = some (.int .i64 (k : Int)) := by rw [Lib.cell_of_heap h1]; rfl
  have f1 : w.frozen? ⟨p, 1, none⟩ = false := Lib.frozen_of_heap h1 1
  have hne : b ≠ p := by simp at hbp; omega
  have d0 : decide ((n : Int) ≤ (k : Int)) = false := by simp; omega
  have HR := Lib.hid hr
  clear h1 hn h2 h3 hr hbp
  go_enter Tryd.func11, Tryd.ntmps11
  go_wp2_with fail
  go_region
  go_wp2_with fail
  go_region
  go_wp2_with fail
  go_ret
  exact ⟨⟨r, HR.out, rfl⟩, deck_set HD.out hk2, (But.set p 1 w _).drew.drew⟩

theorem next_any (p : Nat) (a : Option Addr) (cap : Nat) (zs : List Int) (k : Nat) (N : Nat) (w : World) (h : DeckAt w p a cap zs k) (hk2 : k < 1000) (hN : 0 < N) (hN2 : N ≤ 1099511627776) :
    Calls Tryd.prog 11 #[.pointer (some ⟨p, 0, none⟩), .int .i64 (N : Int)] w fun e w' => ∃ r k' : Nat, r < N ∧ e = .returned (.int .i64 (r : Int)) ∧ DeckAt w' p a cap zs k' ∧ k' ≤ k + 1 ∧ But p w w' := by
  by_cases hk : k < zs.length
  · exact (next_more p a cap zs k N w h hk hk2 hN hN2).mono fun e w' hh => by
      obtain ⟨⟨r, hr, he⟩, h1, h2⟩ := hh
      exact ⟨r, k + 1, hr, he, h1, Nat.le_refl _, h2⟩
  · exact (next_end p a cap zs k N w h (by omega)).mono fun e w' hh => ⟨0, k, hN, by rw [hh.1]; rfl, hh.2.1, by omega, hh.2.2⟩

set_option maxRecDepth 100000 in
theorem new_any (a : Option Addr) (cap : Nat) (zs : List Int) (w : World) (hl : ILies w a zs) (hz : zs.length ≤ 9223372036854775807) :
    Calls Tryd.prog 4 #[.slice a zs.length cap] w fun e w' => e = .returned (.pointer (some ⟨w.heap.size, 0, none⟩)) ∧ DeckAt w' w.heap.size a cap zs 0 ∧ Below w.heap.size w w' := by
  have ha : ∀ x, a = some x → zs ≠ [] → x.block < w.heap.size := by
    intro x hx hne
    rcases hl with h | ⟨b, o, h1, h2⟩
    · exact absurd h hne
    · obtain rfl := Option.some.inj (hx.symm.trans h1)
      exact block_lt_of_cell (h2 0 (List.length_pos_iff.2 hne))
  have HL := Lib.hid hl
  obtain ⟨n, hn⟩ : ∃ n, n = zs.length := ⟨_, rfl⟩
  have HN := Lib.hid hn
  rw [← hn]
  clear hl hn
  go_enter Tryd.func4, Tryd.ntmps4
  go_wp2_with fail
  go_ret
  have hb : Below w.heap.size w (w.alloc (.cells #[.slice a n cap, .int .i64 0] 44)) := (Below.refl _ _).alloc (Nat.le_refl _) _
  refine ⟨rfl, ⟨?_, HL.out.below hb ha, ha, by omega, hz⟩, hb⟩
  rw [← HN.out]
  exact heap_alloc_new w _
theorem DeckAt.lt {w : World} {p : Nat} {a : Option Addr} {cap : Nat} {zs : List Int} {k : Nat} (h : DeckAt w p a cap zs k) : p < w.heap.size := (Array.getElem?_eq_some_iff.1 h.1).1
/-- A call that leaves all old memory alone leaves the deck alone. -/
theorem DeckAt.below {w w' : World} {p : Nat} {a : Option Addr} {cap : Nat} {zs : List Int} {k : Nat} (h : DeckAt w p a cap zs k) (hb : Below w.heap.size w w') : DeckAt w' p a cap zs k := by
  have hp := h.lt
  obtain ⟨h1, h2, h3, h5, h4⟩ := h
  exact ⟨(hb.block p hp).trans h1, h2.below (hb.mono (Nat.le_of_lt hp)) h3, h3, h5, h4⟩
/-- Growth of a row of a block behind the deck's leaves the deck alone. -/
theorem DeckAt.grown {w w' : World} {p : Nat} {a : Option Addr} {cap : Nat} {zs : List Int} {k : Nat} {row : Option Nat} (h : DeckAt w p a cap zs k) (hg : w.grownBy w' row) (hr : ∀ j, row = some j → p < j) : DeckAt w' p a cap zs k := by
  have hp := h.lt
  obtain ⟨h1, h2, h3, h5, h4⟩ := h
  have hb : Below p w w' := ⟨hg.os, hg.tape, hg.output, hg.size, fun j hj => hg.block j (by omega) (fun e => by have := hr j e.symm; omega)⟩
  exact ⟨(hg.block p hp (fun e => by have := hr p e.symm; omega)).trans h1, h2.below hb h3, h3, h5, h4⟩
end Go.Proofs.YtjdfgalcnbnobaaDoor
