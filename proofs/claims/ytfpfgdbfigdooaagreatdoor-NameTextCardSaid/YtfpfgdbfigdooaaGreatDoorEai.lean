/-
  The contracts of certpathmade's New and Next, with the one block that a deck writes: a number from 0 to n - 1; all other memory as it was.
  The contracts of oid.Valid and of the reference's ValidOID.
  The contracts of checkAttribute and what it calls (the closure, slices.ContainsFunc): the first error of an attribute that stands behind others.
-/
import Derived.Test.YtfpfgdbfigdooaaGreatDoorEah
import Derived.Maps.Range
import Derived.Maps.AppendAt
import Derived.Deep.CutRange
namespace Go.Proofs.YtfpfgdbfigdooaaGreatDoor
open Go.RowKit

theorem Below.only {w w' : World} (h : Below w.heap.size w w') : w.grownBy w' none := ⟨h.os, h.tape, h.output, h.size, fun k hk _ => h.block k hk⟩
theorem only_below {w w' : World} (h : w.grownBy w' none) : Below w.heap.size w w' := ⟨h.os, h.tape, h.output, h.size, fun k hk => h.block k hk (by simp)⟩
/-- But for block p, nothing that was there has changed. -/
def But (p : Nat) (w w' : World) : Prop := w.grownBy w' (some p)
theorem But.refl (p : Nat) (w : World) : But p w w := World.grownBy.refl w _
theorem But.of {p : Nat} {w w' : World} (h : Below w.heap.size w w') : But p w w' := ⟨h.os, h.tape, h.output, h.size, fun k hk _ => h.block k hk⟩
theorem But.next {p : Nat} {a b c : World} (h : But p a b) (k : But p b c) : But p a c := World.grownBy.trans h k
theorem But.drew {p : Nat} {a b : World} (h : But p a b) : But p a b.drew := ⟨h.os, h.tape, h.output, h.size, h.block⟩
theorem But.alloc {p : Nat} {a b : World} (h : But p a b) (o : Obj) : But p a (b.alloc o) := h.next (But.of (belowNew b o))
theorem But.below {p : Nat} {w w' : World} (h : But p w w') (hp : p ≤ w.heap.size) : Below p w w' :=
  ⟨h.os, h.tape, h.output, h.size, fun k hk => h.block k (by omega) (by simp; omega)⟩
theorem But.set (p j : Nat) (w : World) (v : Value) : But p w (w.setCell ⟨p, j, none⟩ v) :=
  ⟨rfl, rfl, rfl, by simp [World.setCell], fun k _ hne => Below.heap_setCell _ _ _ _ (by simpa using hne)⟩
/-- What is of memory behind the deck's block is kept. -/
theorem own_but {w w' : World} {p B : Nat} {e : TypeId} {k n : Nat} {v : Value} {xs : List Value} (h : w.ownsRow B e k v n xs) (hb : But p w w') (hB : p < B) : w'.ownsRow B e k v n xs :=
  World.ownsRow.kept h hb (by
    rcases h.2 with ⟨hv, _⟩ | ⟨g, cap, cur, hv, hg, _⟩
    · exact .inl (by rw [hv]; rfl)
    · exact .inr (by rw [hv]; simp [Value.ownBlock]; omega))
theorem OwnA.but {w w' : World} {p B : Nat} {v : Value} {l : List At} (h : OwnA w B v l) (hb : But p w w') (hB : p < B) : OwnA w' B v l := own_but h hb hB
theorem OwnN.but {w w' : World} {p B : Nat} {v : Value} {n : Nm} (h : OwnN w B v n) (hb : But p w w') (hB : p < B) : OwnN w' B v n := by
  obtain ⟨vs, h1, h2, h3⟩ := h
  exact ⟨vs, h1, own_but h2 hb hB, fun i hi => (h3 i hi).but hb hB⟩
theorem OwnV.but {w w' : World} {p B : Nat} {v : Value} {n : Nm} (h : OwnV w B v n) (hb : But p w w') (hB : p < B) : OwnV w' B v n := by
  obtain ⟨s, h1, h2⟩ := h
  exact ⟨s, h1, h2.but hb hB⟩
theorem OwnV.below {w w' : World} {B : Nat} {v : Value} {n : Nm} (h : OwnV w B v n) (hb : Below w.heap.size w w') : OwnV w' B v n := by
  obtain ⟨s, h1, h2⟩ := h
  exact ⟨s, h1, h2.below hb⟩
theorem OwnV.base {w : World} {B B' : Nat} {v : Value} {n : Nm} (h : OwnV w B v n) (hB : B' ≤ B) : OwnV w B' v n := by
  obtain ⟨s, h1, h2⟩ := h
  exact ⟨s, h1, h2.base hB⟩

/-- At the address lie the numbers zs. -/
def ILies (w : World) (a : Option Addr) (zs : List Int) : Prop := zs = [] ∨ ∃ b o, a = some ⟨b, o, none⟩ ∧ ∀ i, i < zs.length → w.cell? ⟨b, o + i, none⟩ = some (.int .i64 (zs.getD i 0))
theorem ILies.at {w : World} {a : Option Addr} {zs : List Int} (h : ILies w a zs) (k : Nat) (hk : k < zs.length) : ∃ b o, a = some ⟨b, o, none⟩ ∧ w.cell? ⟨b, o + k, none⟩ = some (.int .i64 (zs.getD k 0)) := by
  rcases h with h | ⟨b, o, h1, h2⟩
  · rw [h] at hk; exact absurd hk (Nat.not_lt_zero _)
  · exact ⟨b, o, h1, h2 k hk⟩
theorem ILies.below {w w' : World} {B : Nat} {a : Option Addr} {zs : List Int} (h : ILies w a zs) (hb : Below B w w') (hB : ∀ x, a = some x → zs ≠ [] → x.block < B) : ILies w' a zs := by
  rcases h with h | ⟨b, o, rfl, h⟩
  · exact .inl h
  · exact .inr ⟨b, o, rfl, fun i hi => (hb.cell (p := ⟨b, o + i, none⟩) (hB ⟨b, o, none⟩ rfl (fun e => by rw [e] at hi; exact absurd hi (Nat.not_lt_zero _)))).trans (h i hi)⟩
/-- A deck of the numbers zs in block p, at place k. -/
def DeckAt (w : World) (p : Nat) (a : Option Addr) (cap : Nat) (zs : List Int) (k : Nat) : Prop :=
  w.heap[p]? = some (.cells #[.slice a zs.length cap, .int .i64 (k : Int)] 54 (0, 0)) ∧ ILies w a zs ∧ (∀ x, a = some x → zs ≠ [] → x.block < p) ∧ k ≤ 1000 ∧ zs.length ≤ 9223372036854775807

set_option maxRecDepth 100000 in
set_option maxHeartbeats 1000000 in
theorem next_end (p : Nat) (a : Option Addr) (cap : Nat) (zs : List Int) (k : Nat) (N : Nat) (w : World) (h : DeckAt w p a cap zs k) (hk : zs.length ≤ k) :
    Calls Tryz.prog 12 #[.pointer (some ⟨p, 0, none⟩), .int .i64 (N : Int)] w fun e w' => e = .returned (.int .i64 0) ∧ DeckAt w' p a cap zs k ∧ But p w w' := by
  have HD := Lib.hid h
  obtain ⟨h1, _, _, _, h4⟩ := h
  obtain ⟨n, hn⟩ : ∃ n, n = zs.length := ⟨_, rfl⟩
  rw [← hn] at h1 hk h4
  have c0 : w.cell? ⟨p, 0, none⟩ = some (.slice a n cap) := by rw [Lib.cell_of_heap h1]; rfl
  have c1 : w.cell? ⟨p, 1, none⟩ = some (.int .i64 (k : Int)) := by rw [Lib.cell_of_heap h1]; rfl
  have d0 : decide ((n : Int) ≤ (k : Int)) = true := by simp; omega
  clear h1 hn
  go_enter Tryz.func12, Tryz.ntmps12
  go_wp2_with fail
  go_region
  go_wp2_with fail
  go_ret
  exact ⟨rfl, HD.out, (But.refl _ _).drew⟩
theorem next_num (z : Int) (N : Nat) (hN : 0 < N) (hN2 : N ≤ 1099511627776) : ∃ x y : Int, ∃ r : Nat, z.tmod (N : Int) = x ∧ -1099511627776 ≤ x ∧ x ≤ 1099511627776 ∧ x + (N : Int) = y ∧ 0 ≤ y ∧ y ≤ 2199023255552 ∧ y.tmod (N : Int) = (r : Int) ∧ r < N := by
  have hx1 : -(N : Int) < z.tmod (N : Int) := by
    have := Int.lt_tmod_of_pos z (show (0 : Int) < (N : Int) by omega)
    simpa using this
  have hx2 : z.tmod (N : Int) < (N : Int) := Int.tmod_lt_of_pos z (by omega)
  refine ⟨_, _, (z.tmod (N : Int) + (N : Int)).tmod (N : Int) |>.toNat, rfl, by omega, by omega, rfl, by omega, by omega, ?_, ?_⟩
  · have h1 : 0 ≤ (z.tmod (N : Int) + (N : Int)).tmod (N : Int) := Int.tmod_nonneg _ (by omega)
    omega
  · have h2 : (z.tmod (N : Int) + (N : Int)).tmod (N : Int) < (N : Int) := Int.tmod_lt_of_pos _ (by omega)
    omega

theorem deck_set {w : World} {p : Nat} {a : Option Addr} {cap : Nat} {zs : List Int} {k : Nat} (h : DeckAt w p a cap zs k) (hk : k < 1000) : DeckAt (w.setCell ⟨p, 1, none⟩ (.int .i64 ((k : Int) + 1))) p a cap zs (k + 1) := by
  obtain ⟨h1, h2, h3, _, h4⟩ := h
  refine ⟨?_, h2.below ((Below.refl p w).setCell (p := ⟨p, 1, none⟩) (Nat.le_refl _) _) h3, h3, by omega, h4⟩
  simp [World.setCell, Array.getElem?_modify, h1]
set_option maxRecDepth 100000 in
set_option maxHeartbeats 1000000 in
theorem next_more (p : Nat) (a : Option Addr) (cap : Nat) (zs : List Int) (k : Nat) (N : Nat) (w : World) (h : DeckAt w p a cap zs k) (hk : k < zs.length) (hk2 : k < 1000) (hN : 0 < N) (hN2 : N ≤ 1099511627776) :
    Calls Tryz.prog 12 #[.pointer (some ⟨p, 0, none⟩), .int .i64 (N : Int)] w fun e w' => (∃ r : Nat, r < N ∧ e = .returned (.int .i64 (r : Int))) ∧ DeckAt w' p a cap zs (k + 1) ∧ But p w w' := by
  have HD := Lib.hid h
  obtain ⟨h1, h2, h3, _, h4⟩ := h
  obtain ⟨b, o, ha, hc⟩ := h2.at k hk
  have hbp := h3 _ ha (fun e => by rw [e] at hk; exact absurd hk (Nat.not_lt_zero _))
  subst ha
  generalize zs.getD k 0 = z at hc
  obtain ⟨x, y, r, e1, x1, x2, e2, y1, y2, e3, hr⟩ := next_num z N hN hN2
  obtain ⟨n, hn⟩ : ∃ n, n = zs.length := ⟨_, rfl⟩
  rw [← hn] at h1 hk h4
  have c0 : w.cell? ⟨p, 0, none⟩ = some (.slice (some ⟨b, o, none⟩) n cap) := by rw [Lib.cell_of_heap h1]; rfl
  have c1 : w.cell? ⟨p, 1, none⟩ = some (.int .i64 (k : Int)) := by rw [Lib.cell_of_heap h1]; rfl
  have f1 : w.frozen? ⟨p, 1, none⟩ = false := Lib.frozen_of_heap h1 1
  have hne : b ≠ p := by simp at hbp; omega
  have d0 : decide ((n : Int) ≤ (k : Int)) = false := by simp; omega
  have HR := Lib.hid hr
  clear h1 hn h2 h3 hr hbp
  go_enter Tryz.func12, Tryz.ntmps12
  go_wp2_with fail
  go_region
  go_wp2_with fail
  go_region
  go_wp2_with fail
  go_ret
  exact ⟨⟨r, HR.out, rfl⟩, deck_set HD.out hk2, (But.set p 1 w _).drew.drew⟩

theorem next_any (p : Nat) (a : Option Addr) (cap : Nat) (zs : List Int) (k : Nat) (N : Nat) (w : World) (h : DeckAt w p a cap zs k) (hk2 : k < 1000) (hN : 0 < N) (hN2 : N ≤ 1099511627776) :
    Calls Tryz.prog 12 #[.pointer (some ⟨p, 0, none⟩), .int .i64 (N : Int)] w fun e w' => ∃ r k' : Nat, r < N ∧ e = .returned (.int .i64 (r : Int)) ∧ DeckAt w' p a cap zs k' ∧ k' ≤ k + 1 ∧ But p w w' := by
  by_cases hk : k < zs.length
  · exact (next_more p a cap zs k N w h hk hk2 hN hN2).mono fun e w' hh => by
      obtain ⟨⟨r, hr, he⟩, h1, h2⟩ := hh
      exact ⟨r, k + 1, hr, he, h1, Nat.le_refl _, h2⟩
  · exact (next_end p a cap zs k N w h (by omega)).mono fun e w' hh => ⟨0, k, hN, by rw [hh.1]; rfl, hh.2.1, by omega, hh.2.2⟩

set_option maxRecDepth 100000 in
theorem new_any (a : Option Addr) (cap : Nat) (zs : List Int) (w : World) (hl : ILies w a zs) (hz : zs.length ≤ 9223372036854775807) :
    Calls Tryz.prog 10 #[.slice a zs.length cap] w fun e w' => e = .returned (.pointer (some ⟨w.heap.size, 0, none⟩)) ∧ DeckAt w' w.heap.size a cap zs 0 ∧ Below w.heap.size w w' := by
  have ha : ∀ x, a = some x → zs ≠ [] → x.block < w.heap.size := by
    intro x hx hne
    rcases hl with h | ⟨b, o, h1, h2⟩
    · exact absurd h hne
    · obtain rfl := Option.some.inj (hx.symm.trans h1)
      exact block_lt_of_cell (h2 0 (List.length_pos_iff.2 hne))
  have HL := Lib.hid hl
  obtain ⟨n, hn⟩ : ∃ n, n = zs.length := ⟨_, rfl⟩
  have HN := Lib.hid hn
  rw [← hn]
  clear hl hn
  go_enter Tryz.func10, Tryz.ntmps10
  go_wp2_with fail
  go_ret
  have hb : Below w.heap.size w (w.alloc (.cells #[.slice a n cap, .int .i64 0] 54)) := (Below.refl _ _).alloc (Nat.le_refl _) _
  refine ⟨rfl, ⟨?_, HL.out.below hb ha, ha, by omega, hz⟩, hb⟩
  rw [← HN.out]
  exact heap_alloc_new w _
theorem DeckAt.lt {w : World} {p : Nat} {a : Option Addr} {cap : Nat} {zs : List Int} {k : Nat} (h : DeckAt w p a cap zs k) : p < w.heap.size := (Array.getElem?_eq_some_iff.1 h.1).1
/-- A call that leaves all old memory alone leaves the deck alone. -/
theorem DeckAt.below {w w' : World} {p : Nat} {a : Option Addr} {cap : Nat} {zs : List Int} {k : Nat} (h : DeckAt w p a cap zs k) (hb : Below w.heap.size w w') : DeckAt w' p a cap zs k := by
  have hp := h.lt
  obtain ⟨h1, h2, h3, h5, h4⟩ := h
  exact ⟨(hb.block p hp).trans h1, h2.below (hb.mono (Nat.le_of_lt hp)) h3, h3, h5, h4⟩
/-- Growth of a row of a block behind the deck's leaves the deck alone. -/
theorem DeckAt.grown {w w' : World} {p : Nat} {a : Option Addr} {cap : Nat} {zs : List Int} {k : Nat} {row : Option Nat} (h : DeckAt w p a cap zs k) (hg : w.grownBy w' row) (hr : ∀ j, row = some j → p < j) : DeckAt w' p a cap zs k := by
  have hp := h.lt
  obtain ⟨h1, h2, h3, h5, h4⟩ := h
  have hb : Below p w w' := ⟨hg.os, hg.tape, hg.output, hg.size, fun j hj => hg.block j (by omega) (fun e => by have := hr j e.symm; omega)⟩
  exact ⟨(hg.block p hp (fun e => by have := hr p e.symm; omega)).trans h1, h2.below hb h3, h3, h5, h4⟩
end Go.Proofs.YtfpfgdbfigdooaaGreatDoor
namespace Go.Proofs.YtfpfgdbfigdooaaGreatDoor
open Go.RowKit

/-- What a call that found the numbers a answers. -/
def Found (a : List Nat) (B : Nat) (w' : World) (e : Ending) : Prop := ∃ g cap, e = .returned (.tuple #[.slice (some ⟨g, 0, none⟩) a.length cap, .bool true]) ∧ ILie w' g a ∧ B ≤ g ∧ a.length ≤ cap
theorem found_of {l : List UInt8} {a : List Nat} (h : Oid l a) {B : Nat} {w' : World} {e : Ending} (k : Arcsd l B w' e) : Found a B w' e := by
  rcases k with ⟨b, g, cap, h1, h2, h3, h4, h5⟩ | ⟨h1, _⟩
  · obtain rfl := oid_one h h1
    exact ⟨g, cap, h2, h3, h4, h5⟩
  · exact absurd h (h1 a)
theorem lost_of {l : List UInt8} (h : ∀ a, ¬ Oid l a) {B : Nat} {w' : World} {e : Ending} (k : Arcsd l B w' e) : e = .returned (.tuple #[.slice none 0 0, .bool false]) := by
  rcases k with ⟨b, g, cap, h1, _⟩ | ⟨_, h2⟩
  · exact absurd h1 (h b)
  · exact h2
theorem arcs_yes {s : ByteArray} {a : List Nat} (h : Oid s.data.toList a) (w : World) (hs : s.size ≤ 1099511627) :
    Calls Tryz.prog 130 #[.string s] w fun e w' => Found a w.heap.size w' e ∧ Below w.heap.size w w' :=
  (arcsOf_any s w hs).mono fun _ _ ⟨h1, h2⟩ => ⟨found_of h h1, h2⟩
theorem arcs_no {s : ByteArray} (h : ∀ a, ¬ Oid s.data.toList a) (w : World) (hs : s.size ≤ 1099511627) :
    Calls Tryz.prog 130 #[.string s] w fun e w' => e = .returned (.tuple #[.slice none 0 0, .bool false]) ∧ Below w.heap.size w w' :=
  (arcsOf_any s w hs).mono fun _ _ ⟨h1, h2⟩ => ⟨lost_of h h1, h2⟩
theorem rarcs_yes {s : ByteArray} {a : List Nat} (h : Oid s.data.toList a) (w : World) (hs : s.size ≤ 1099511627) :
    Calls Tryz.prog 105 #[.string s] w fun e w' => Found a w.heap.size w' e ∧ Below w.heap.size w w' :=
  (rarcs_any s w hs).mono fun _ _ ⟨h1, h2⟩ => ⟨found_of h h1, h2⟩
theorem rarcs_no {s : ByteArray} (h : ∀ a, ¬ Oid s.data.toList a) (w : World) (hs : s.size ≤ 1099511627) :
    Calls Tryz.prog 105 #[.string s] w fun e w' => e = .returned (.tuple #[.slice none 0 0, .bool false]) ∧ Below w.heap.size w w' :=
  (rarcs_any s w hs).mono fun _ _ ⟨h1, h2⟩ => ⟨lost_of h h1, h2⟩

theorem valid_yes {s : ByteArray} {a : List Nat} (h : Oid s.data.toList a) (w : World) (hs : s.size ≤ 1099511627) :
    Calls Tryz.prog 102 #[.string s] w fun e w' => e = .returned (.bool true) ∧ Below w.heap.size w w' := by
  go_enter Tryz.func102, Tryz.ntmps102
  go_wp2_with (go_at_call 130; (with_reducible refine (arcs_yes h _ hs).mono ?_); rintro e w1 ⟨⟨g, cap, rfl, hl, hg, hcp⟩, hb1⟩; have HB1 := Lib.hid hb1; clear hb1 hl hg hcp)
  go_ret
  exact ⟨rfl, HB1.out⟩
theorem valid_no {s : ByteArray} (h : ∀ a, ¬ Oid s.data.toList a) (w : World) (hs : s.size ≤ 1099511627) :
    Calls Tryz.prog 102 #[.string s] w fun e w' => e = .returned (.bool false) ∧ Below w.heap.size w w' := by
  have HH := Lib.hid h
  clear h
  go_enter Tryz.func102, Tryz.ntmps102
  go_wp2_with (go_at_call 130; (with_reducible refine (arcs_no HH.out _ hs).mono ?_); rintro e w1 ⟨rfl, hb1⟩; have HB1 := Lib.hid hb1; clear hb1)
  go_ret
  exact ⟨rfl, HB1.out⟩
theorem rvalid_yes {s : ByteArray} {a : List Nat} (h : Oid s.data.toList a) (w : World) (hs : s.size ≤ 1099511627) :
    Calls Tryz.prog 65 #[.string s] w fun e w' => e = .returned (.bool true) ∧ Below w.heap.size w w' := by
  go_enter Tryz.func65, Tryz.ntmps65
  go_wp2_with (go_at_call 105; (with_reducible refine (rarcs_yes h _ hs).mono ?_); rintro e w1 ⟨⟨g, cap, rfl, hl, hg, hcp⟩, hb1⟩; have HB1 := Lib.hid hb1; clear hb1 hl hg hcp)
  go_ret
  exact ⟨rfl, HB1.out⟩
theorem rvalid_no {s : ByteArray} (h : ∀ a, ¬ Oid s.data.toList a) (w : World) (hs : s.size ≤ 1099511627) :
    Calls Tryz.prog 65 #[.string s] w fun e w' => e = .returned (.bool false) ∧ Below w.heap.size w w' := by
  have HH := Lib.hid h
  clear h
  go_enter Tryz.func65, Tryz.ntmps65
  go_wp2_with (go_at_call 105; (with_reducible refine (rarcs_no HH.out _ hs).mono ?_); rintro e w1 ⟨rfl, hb1⟩; have HB1 := Lib.hid hb1; clear hb1)
  go_ret
  exact ⟨rfl, HB1.out⟩
/-- Whether a text is an object identifier. -/
theorem oid_or (l : List UInt8) : (∃ a, Oid l a) ∨ ∀ a, ¬ Oid l a := (Classical.em _).imp id fun h a k => h ⟨a, k⟩
theorem valid_any (s : ByteArray) (w : World) (hs : s.size ≤ 1099511627) :
    Calls Tryz.prog 102 #[.string s] w fun e w' => ∃ ok, e = .returned (.bool ok) ∧ (ok = true ∧ (∃ a, Oid s.data.toList a) ∨ ok = false ∧ ∀ a, ¬ Oid s.data.toList a) ∧ Below w.heap.size w w' := by
  rcases oid_or s.data.toList with ⟨a, h⟩ | h
  · exact (valid_yes h w hs).mono fun _ _ ⟨h1, h2⟩ => ⟨true, h1, .inl ⟨rfl, a, h⟩, h2⟩
  · exact (valid_no h w hs).mono fun _ _ ⟨h1, h2⟩ => ⟨false, h1, .inr ⟨rfl, h⟩, h2⟩
end Go.Proofs.YtfpfgdbfigdooaaGreatDoor
namespace Go.Proofs.YtfpfgdbfigdooaaGreatDoor
open Go.RowKit

def SmallA (a : At) : Prop := a.1.size ≤ 1000000 ∧ a.2.2.size ≤ 1000000
def SmallR (r : List At) : Prop := r.length ≤ 1000000 ∧ ∀ i, i < r.length → SmallA (r.getD i noAt)
def SmallN (n : Nm) : Prop := n.length ≤ 1000000 ∧ ∀ i, i < n.length → SmallR (n.getD i [])
theorem beq_str (x y : ByteArray) : (x.toList == y.toList) = decide (x = y) := by
  rw [Bool.eq_iff_iff, beq_iff_eq, decide_eq_true_iff]
  exact toList_inj

set_option maxRecDepth 100000 in
set_option maxHeartbeats 1000000 in
theorem same_type (t v x : ByteArray) (k : Int) (g : Nat) (w : World) (h : w.cell? ⟨g, 0, none⟩ = some (.string x)) :
    Calls Tryz.prog 101 #[.agg #[.string t, .int .i64 k, .string v], .pointer (some ⟨g, 0, none⟩)] w fun e w' => e = .returned (.bool (decide (t = x))) ∧ Below w.heap.size w w' := by
  have HE := Lib.hid (beq_str t x)
  have hg : g < w.heap.size := block_lt h
  go_enter Tryz.func101, Tryz.ntmps101
  go_wp2_with fail
  go_ret
  exact ⟨by rw [← HE.out]; rfl, belowNew w _⟩

set_option maxRecDepth 100000 in
set_option maxHeartbeats 1000000 in
theorem idxf_any (a0 : Option Addr) (c n : Nat) (l : List At) (g : Nat) (x : ByteArray) (w : World) (h : ALies w a0 l) (hn : n = l.length) (hL : n ≤ 1099511627776) (hc : w.cell? ⟨g, 0, none⟩ = some (.string x)) :
    Calls Tryz.prog 140 #[.slice a0 n c, .func (.func 101) #[] #[.pointer (some ⟨g, 0, none⟩)]] w
      fun e w' => (∃ z : Int, e = .returned (.int .i64 z) ∧ decide (0 ≤ z) = (l.any fun b => decide (b.1 = x))) ∧ Below w.heap.size w w' := by
  have H1 := Lib.hid h
  have HN := Lib.hid hn
  have HC := Lib.hid hc
  clear h hn hc
  go_enter Tryz.func140, Tryz.ntmps140
  go_wp2_with fail
  go_loopw [8] (fun i wr => ∃ k : Nat, k ≤ n ∧ i = .int .i64 k ∧ ((l.take k).any fun b => decide (b.1 = x)) = false ∧ Below w.heap.size w wr) (fun i _ => n - (intOf i).toNat)
  case atStart => exact ⟨0, Nat.zero_le _, rfl, by simp, Below.refl _ _⟩
  case round =>
    obtain ⟨k, hk, rfl, hA, hb⟩ := hrel
    have HB := Lib.hid hb
    have HA := Lib.hid hA
    clear hb hA
    by_cases hlt : k < n
    · have hd : decide ((k : Int) < (n : Int)) = true := by simp; omega
      obtain ⟨b, o, rfl, hb, c0, c1, c2⟩ := H1.out.at k (by rw [← HN.out]; exact hlt)
      have a0 : wr.cell? ⟨b, o + k * 3, none⟩ = _ := (HB.out.cell (p := ⟨b, o + k * 3, none⟩) hb).trans c0
      have a1 : wr.cell? ⟨b, o + k * 3 + 1, none⟩ = _ := (HB.out.cell (p := ⟨b, o + k * 3 + 1, none⟩) hb).trans c1
      have a2 : wr.cell? ⟨b, o + k * 3 + 2, none⟩ = _ := (HB.out.cell (p := ⟨b, o + k * 3 + 2, none⟩) hb).trans c2
      have HT := Lib.hid (takeD l k (by rw [← HN.out]; exact hlt) noAt)
      generalize l.getD k noAt = y at a0 a1 a2 HT
      obtain ⟨t, kd, v⟩ := y
      clear c0 c1 c2 hb
      have HCR := Lib.hid ((HB.out.cell (p := ⟨g, 0, none⟩) (block_lt HC.out)).trans HC.out)
      by_cases hx : t = x
      · have HF := Lib.hid (show (l.any fun b => decide (b.1 = x)) = true from by
          have e := List.take_append_drop (k + 1) l
          rw [← e, List.any_append, HT.out, List.any_append]
          simp [hx])
        have hdx := decide_eq_true hx
        have hdk : decide ((0 : Int) ≤ (k : Int)) = true := by simp
        clear hx
        go_wp2_with (go_at_call 101; (with_reducible refine (same_type t v x kd g _ HCR.out).mono ?_); rw [hdx]; rintro e w1 ⟨rfl, hb1⟩; have HB1 := Lib.hid (below_next HB.out hb1); clear hb1)
        go_ret
        exact ⟨⟨_, rfl, by rw [HF.out]; simp⟩, HB1.out⟩
      · have HF := Lib.hid (show ((l.take (k + 1)).any fun b => decide (b.1 = x)) = false from by
          rw [HT.out, List.any_append, HA.out]
          simp [hx])
        have hdx := decide_eq_false hx
        clear hx
        go_wp2_with (go_at_call 101; (with_reducible refine (same_type t v x kd g _ HCR.out).mono ?_); rw [hdx]; rintro e w1 ⟨rfl, hb1⟩; have HB1 := Lib.hid (below_next HB.out hb1); clear hb1)
        go_roundw
        case rel => exact ⟨k + 1, by omega, by go_num, HF.out, HB1.out⟩
        case measure => simp [intOf]; omega
    · have hd : decide ((k : Int) < (n : Int)) = false := by simp; omega
      have HF := Lib.hid (show (l.any fun b => decide (b.1 = x)) = false from by
        have e := HA.out
        rw [List.take_of_length_le (by rw [← HN.out]; omega)] at e
        exact e)
      go_wp2_with fail
      go_ret
      exact ⟨⟨_, rfl, by rw [HF.out]; decide⟩, HB.out⟩

set_option maxRecDepth 100000 in
set_option maxHeartbeats 1000000 in
theorem contf_any (a0 : Option Addr) (c n : Nat) (l : List At) (g : Nat) (x : ByteArray) (w : World) (h : ALies w a0 l) (hn : n = l.length) (hL : n ≤ 1099511627776) (hc : w.cell? ⟨g, 0, none⟩ = some (.string x)) :
    Calls Tryz.prog 104 #[.slice a0 n c, .func (.func 101) #[] #[.pointer (some ⟨g, 0, none⟩)]] w
      fun e w' => e = .returned (.bool (l.any fun b => decide (b.1 = x))) ∧ Below w.heap.size w w' := by
  have H := Lib.hid (idxf_any a0 c n l g x w h hn hL hc)
  clear h hn hc
  go_enter Tryz.func104, Tryz.ntmps104
  go_wp2_with (go_at_call 140; (with_reducible refine H.out.mono ?_); rintro e w1 ⟨⟨z, rfl, hz⟩, hb⟩; have HZ := Lib.hid hz; have HB := Lib.hid hb; clear hz hb)
  go_ret
  exact ⟨by rw [← HZ.out]; rfl, HB.out⟩

theorem valid_b (s : ByteArray) (w : World) (hs : s.size ≤ 1099511627) :
    Calls Tryz.prog 102 #[.string s] w fun e w' => e = .returned (.bool (oidB s)) ∧ Below w.heap.size w w' := by
  rcases oid_or s.data.toList with ⟨a, h⟩ | h
  · rw [oidB_yes h]; exact valid_yes h w hs
  · rw [oidB_no h]; exact valid_no h w hs
theorem rvalid_b (s : ByteArray) (w : World) (hs : s.size ≤ 1099511627) :
    Calls Tryz.prog 65 #[.string s] w fun e w' => e = .returned (.bool (oidB s)) ∧ Below w.heap.size w w' := by
  rcases oid_or s.data.toList with ⟨a, h⟩ | h
  · rw [oidB_yes h]; exact rvalid_yes h w hs
  · rw [oidB_no h]; exact rvalid_no h w hs
theorem box_cell (w : World) (x y z : Value) (t : TypeId) : (w.alloc (.cells #[x, y, z] t)).cell? ⟨w.heap.size, 0, none⟩ = some x := by
  rw [cell_of_row _ _ 0 _ _ _ (heap_alloc_new w _)]; rfl
/-- The ways through a check of an attribute. -/
theorem chk_ways (B : List At) (t v : ByteArray) (k : Int) : (oidB t = false ∧ chkA B (t, k, v) = 11) ∨ (oidB t = true ∧ v = ⟨#[]⟩ ∧ chkA B (t, k, v) = 13) ∨
    (oidB t = true ∧ v.size ≠ 0 ∧ validB k v.data.toList = false ∧ chkA B (t, k, v) = 13) ∨ (oidB t = true ∧ v.size ≠ 0 ∧ validB k v.data.toList = true ∧ 64 < v.size ∧ chkA B (t, k, v) = 2) ∨
    (oidB t = true ∧ v.size ≠ 0 ∧ validB k v.data.toList = true ∧ v.size ≤ 64 ∧ (B.any fun b => decide (b.1 = t)) = true ∧ chkA B (t, k, v) = 10) ∨
    (oidB t = true ∧ v.size ≠ 0 ∧ validB k v.data.toList = true ∧ v.size ≤ 64 ∧ (B.any fun b => decide (b.1 = t)) = false ∧ chkA B (t, k, v) = 0) := by
  unfold chkA
  by_cases h1 : oidB t = false
  · exact .inl ⟨h1, if_pos h1⟩
  have h1 : oidB t = true := by simpa using h1
  by_cases h2 : v.size = 0
  · exact .inr (.inl ⟨h1, empty_of_size h2, by simp [h1, h2]⟩)
  by_cases h3 : validB k v.data.toList = false
  · exact .inr (.inr (.inl ⟨h1, h2, h3, by simp [h1, h2, h3]⟩))
  have h3 : validB k v.data.toList = true := by simpa using h3
  by_cases h4 : 64 < v.size
  · exact .inr (.inr (.inr (.inl ⟨h1, h2, h3, h4, by simp [h1, h2, h3, h4]⟩)))
  by_cases h5 : (B.any fun b => decide (b.1 = t)) = true
  · exact .inr (.inr (.inr (.inr (.inl ⟨h1, h2, h3, by omega, h5, by simp only [h1, h2, h3, h4, h5]; simp⟩))))
  have h5 : (B.any fun b => decide (b.1 = t)) = false := by
    cases hh : (B.any fun b => decide (b.1 = t)) with
    | true => exact absurd hh h5
    | false => rfl
  exact .inr (.inr (.inr (.inr (.inr ⟨h1, h2, h3, by omega, h5, by simp only [h1, h2, h3, h4, h5]; simp⟩))))

set_option maxRecDepth 100000 in
set_option maxHeartbeats 4000000 in
theorem chkA_any (t v : ByteArray) (k : Int) (bd : Option Addr) (c n : Nat) (B : List At) (w : World) (hs1 : t.size ≤ 1000000) (hs2 : v.size ≤ 1000000) (hB : ALies w bd B) (hn : n = B.length) (hL : n ≤ 1000000) (hT : Tab w) :
    Calls Tryz.prog 64 #[.agg #[.string t, .int .i64 k, .string v], .slice bd n c] w fun e w' => e = .returned (.int .i64 ((chkA B (t, k, v) : Nat) : Int)) ∧ Below w.heap.size w w' := by
  have HS1 := Lib.hid hs1
  have HS2 := Lib.hid hs2
  have HL := Lib.hid hL
  have HN := Lib.hid hn
  obtain ⟨w0, hw0⟩ : ∃ w0, w0 = w.alloc (.cells #[.string t, .int .i64 k, .string v] 27) := ⟨_, rfl⟩
  have HW := Lib.hid (show Below w.heap.size w w0 by rw [hw0]; exact belowNew w _)
  have HT := Lib.hid (hT.below HW.out)
  have HA := Lib.hid (hB.below HW.out)
  have HCC := Lib.hid (show w0.cell? ⟨w.heap.size, 0, none⟩ = some (.string t) by rw [hw0]; exact box_cell w _ _ _ _)
  have hwr : w.alloc (.cells #[.string t, .int .i64 k, .string v] 27) = w0 := hw0.symm
  have hc0 := HCC.out
  have hc1 : w0.cell? ⟨w.heap.size, 1, none⟩ = some (.int .i64 k) := by rw [hw0, cell_of_row _ _ 1 _ _ _ (heap_alloc_new w _)]; rfl
  have hc2 : w0.cell? ⟨w.heap.size, 2, none⟩ = some (.string v) := by rw [hw0, cell_of_row _ _ 2 _ _ _ (heap_alloc_new w _)]; rfl
  have hlt : w.heap.size < w0.heap.size := block_lt hc0
  have HO := Lib.hid (fun W => valid_b t W (by have := HS1.out; omega))
  have HV := Lib.hid (fun W (hT : Tab W) => tval_any k v W (by have := HS2.out; omega) hT)
  have HK := Lib.hid (fun W (hA : ALies W bd B) (hcc : W.cell? ⟨w.heap.size, 0, none⟩ = some (.string t)) => contf_any bd c n B w.heap.size t W hA HN.out (by have := HL.out; omega) hcc)
  clear hT hB hn hL hs1 hs2 hw0
  rcases chk_ways B t v k with ⟨h1, e⟩ | ⟨h1, h2, e⟩ | ⟨h1, h2, h3, e⟩ | ⟨h1, h2, h3, h4, e⟩ | ⟨h1, h2, h3, h4, h5, e⟩ | ⟨h1, h2, h3, h4, h5, e⟩
  · rw [e]
    rw [h1] at HO
    clear e h1
    go_enter Tryz.func64, Tryz.ntmps64
    go_wp2_with (go_at_call 102; (with_reducible refine (HO.out _).mono ?_); rintro e w1 ⟨rfl, hb⟩; have HX := Lib.hid hb; have HC0 := Lib.hid ((hb.cell (p := ⟨w.heap.size, 0, none⟩) hlt).trans hc0); have g0 := (hb.cell (p := ⟨w.heap.size, 0, none⟩) hlt).trans hc0; have g1 := (hb.cell (p := ⟨w.heap.size, 1, none⟩) hlt).trans hc1; have g2 := (hb.cell (p := ⟨w.heap.size, 2, none⟩) hlt).trans hc2; have hlt1 := Nat.lt_of_lt_of_le hlt hb.size; clear hb)
    go_ret
    exact ⟨rfl, below_next HW.out HX.out⟩
  · rw [e]
    rw [h1] at HO
    subst h2
    clear e h1
    go_enter Tryz.func64, Tryz.ntmps64
    go_wp2_with (go_at_call 102; (with_reducible refine (HO.out _).mono ?_); rintro e w1 ⟨rfl, hb⟩; have HX := Lib.hid hb; have HC0 := Lib.hid ((hb.cell (p := ⟨w.heap.size, 0, none⟩) hlt).trans hc0); have g0 := (hb.cell (p := ⟨w.heap.size, 0, none⟩) hlt).trans hc0; have g1 := (hb.cell (p := ⟨w.heap.size, 1, none⟩) hlt).trans hc1; have g2 := (hb.cell (p := ⟨w.heap.size, 2, none⟩) hlt).trans hc2; have hlt1 := Nat.lt_of_lt_of_le hlt hb.size; clear hb)
    go_ret
    exact ⟨rfl, below_next HW.out HX.out⟩
  · rw [e]
    rw [h1] at HO
    rw [h3] at HV
    have hne := nonempty_list h2
    clear e h1 h2 h3
    go_enter Tryz.func64, Tryz.ntmps64
    go_wp2_with (first | (go_at_call 102; (with_reducible refine (HO.out _).mono ?_); rintro e w1 ⟨rfl, hb⟩; have HX := Lib.hid hb; have HC0 := Lib.hid ((hb.cell (p := ⟨w.heap.size, 0, none⟩) hlt).trans hc0); have g0 := (hb.cell (p := ⟨w.heap.size, 0, none⟩) hlt).trans hc0; have g1 := (hb.cell (p := ⟨w.heap.size, 1, none⟩) hlt).trans hc1; have g2 := (hb.cell (p := ⟨w.heap.size, 2, none⟩) hlt).trans hc2; have hlt1 := Nat.lt_of_lt_of_le hlt hb.size; clear hb) | (go_at_call 103; (with_reducible refine (HV.out _ (HT.out.below HX.out)).mono ?_); rintro e w2 ⟨rfl, hb⟩; have q0 := (hb.cell (p := ⟨w.heap.size, 0, none⟩) hlt1).trans g0; have q1 := (hb.cell (p := ⟨w.heap.size, 1, none⟩) hlt1).trans g1; have q2 := (hb.cell (p := ⟨w.heap.size, 2, none⟩) hlt1).trans g2; have HX := Lib.hid (below_next HX.out hb); clear hb))
    go_ret
    exact ⟨rfl, below_next HW.out HX.out⟩
  · rw [e]
    rw [h1] at HO
    rw [h3] at HV
    have hne := nonempty_list h2
    have hd : decide ((64 : Int) < (v.size : Int)) = true := by simp; omega
    clear e h1 h2 h3 h4
    go_enter Tryz.func64, Tryz.ntmps64
    go_wp2_with (first | (go_at_call 102; (with_reducible refine (HO.out _).mono ?_); rintro e w1 ⟨rfl, hb⟩; have HX := Lib.hid hb; have HC0 := Lib.hid ((hb.cell (p := ⟨w.heap.size, 0, none⟩) hlt).trans hc0); have g0 := (hb.cell (p := ⟨w.heap.size, 0, none⟩) hlt).trans hc0; have g1 := (hb.cell (p := ⟨w.heap.size, 1, none⟩) hlt).trans hc1; have g2 := (hb.cell (p := ⟨w.heap.size, 2, none⟩) hlt).trans hc2; have hlt1 := Nat.lt_of_lt_of_le hlt hb.size; clear hb) | (go_at_call 103; (with_reducible refine (HV.out _ (HT.out.below HX.out)).mono ?_); rintro e w2 ⟨rfl, hb⟩; have q0 := (hb.cell (p := ⟨w.heap.size, 0, none⟩) hlt1).trans g0; have q1 := (hb.cell (p := ⟨w.heap.size, 1, none⟩) hlt1).trans g1; have q2 := (hb.cell (p := ⟨w.heap.size, 2, none⟩) hlt1).trans g2; have HX := Lib.hid (below_next HX.out hb); clear hb))
    go_ret
    exact ⟨rfl, below_next HW.out HX.out⟩
  · rw [e]
    rw [h1] at HO
    rw [h3] at HV
    rw [h5] at HK
    have hne := nonempty_list h2
    have hd : decide ((64 : Int) < (v.size : Int)) = false := by simp; omega
    clear e h1 h2 h3 h4 h5
    go_enter Tryz.func64, Tryz.ntmps64
    go_wp2_with (first | (go_at_call 102; (with_reducible refine (HO.out _).mono ?_); rintro e w1 ⟨rfl, hb⟩; have HX := Lib.hid hb; have HC0 := Lib.hid ((hb.cell (p := ⟨w.heap.size, 0, none⟩) hlt).trans hc0); have g0 := (hb.cell (p := ⟨w.heap.size, 0, none⟩) hlt).trans hc0; have g1 := (hb.cell (p := ⟨w.heap.size, 1, none⟩) hlt).trans hc1; have g2 := (hb.cell (p := ⟨w.heap.size, 2, none⟩) hlt).trans hc2; have hlt1 := Nat.lt_of_lt_of_le hlt hb.size; clear hb) | (go_at_call 103; (with_reducible refine (HV.out _ (HT.out.below HX.out)).mono ?_); rintro e w2 ⟨rfl, hb⟩; have q0 := (hb.cell (p := ⟨w.heap.size, 0, none⟩) hlt1).trans g0; have q1 := (hb.cell (p := ⟨w.heap.size, 1, none⟩) hlt1).trans g1; have q2 := (hb.cell (p := ⟨w.heap.size, 2, none⟩) hlt1).trans g2; have HX := Lib.hid (below_next HX.out hb); clear hb) | (go_at_call 104; (with_reducible refine (HK.out _ (HA.out.below HX.out) q0).mono ?_); rintro e w3 ⟨rfl, hb⟩; have HX := Lib.hid (below_next HX.out hb); clear hb))
    go_ret
    exact ⟨rfl, below_next HW.out HX.out⟩
  · rw [e]
    rw [h1] at HO
    rw [h3] at HV
    rw [h5] at HK
    have hne := nonempty_list h2
    have hd : decide ((64 : Int) < (v.size : Int)) = false := by simp; omega
    clear e h1 h2 h3 h4 h5
    go_enter Tryz.func64, Tryz.ntmps64
    go_wp2_with (first | (go_at_call 102; (with_reducible refine (HO.out _).mono ?_); rintro e w1 ⟨rfl, hb⟩; have HX := Lib.hid hb; have HC0 := Lib.hid ((hb.cell (p := ⟨w.heap.size, 0, none⟩) hlt).trans hc0); have g0 := (hb.cell (p := ⟨w.heap.size, 0, none⟩) hlt).trans hc0; have g1 := (hb.cell (p := ⟨w.heap.size, 1, none⟩) hlt).trans hc1; have g2 := (hb.cell (p := ⟨w.heap.size, 2, none⟩) hlt).trans hc2; have hlt1 := Nat.lt_of_lt_of_le hlt hb.size; clear hb) | (go_at_call 103; (with_reducible refine (HV.out _ (HT.out.below HX.out)).mono ?_); rintro e w2 ⟨rfl, hb⟩; have q0 := (hb.cell (p := ⟨w.heap.size, 0, none⟩) hlt1).trans g0; have q1 := (hb.cell (p := ⟨w.heap.size, 1, none⟩) hlt1).trans g1; have q2 := (hb.cell (p := ⟨w.heap.size, 2, none⟩) hlt1).trans g2; have HX := Lib.hid (below_next HX.out hb); clear hb) | (go_at_call 104; (with_reducible refine (HK.out _ (HA.out.below HX.out) q0).mono ?_); rintro e w3 ⟨rfl, hb⟩; have HX := Lib.hid (below_next HX.out hb); clear hb))
    go_ret
    exact ⟨rfl, below_next HW.out HX.out⟩
end Go.Proofs.YtfpfgdbfigdooaaGreatDoor
