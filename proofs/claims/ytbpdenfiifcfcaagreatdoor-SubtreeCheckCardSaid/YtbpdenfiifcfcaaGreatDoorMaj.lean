/-
  The contracts of the reference's Fold and MatchText; nothing that was there before the call has changed.
  The contracts of certpathmade's New and Next, with the one block that a deck writes: a number from 0 to n - 1; all other memory as it was.
  The contract of foldedSet: a map whose keys are the pairs of type and folded value of a relative name's attributes.
  The contract of maps.Equal at the maps of foldedSet, and of matchRelative: whether two relative names match.
  The contract of matchRelative: whether two relative names match.
-/
import Derived.Test.YtbpdenfiifcfcaaGreatDoorMac
import Derived.Test.YtbpdenfiifcfcaaGreatDoorMah
import Derived.Maps.Range
import Derived.Maps.AppendAt
import Derived.Maps.OwnSet
import Derived.Maps.RangeWalk
import Derived.Maps.Ext
import Derived.Lib.SlMapEqual
import Derived.DeepKeys4
import Derived.ProofKit
import Derived.Laws.IdiomRangeMap
namespace Go.Proofs.YtbpdenfiifcfcaaGreatDoor
open Go.RowKit

end Go.Proofs.YtbpdenfiifcfcaaGreatDoor
namespace Go.Proofs.YtbpdenfiifcfcaaGreatDoor
open Go.RowKit

theorem Below.only {w w' : World} (h : Below w.heap.size w w') : w.grownBy w' none := ⟨h.os, h.tape, h.output, h.size, fun k hk _ => h.block k hk⟩
theorem only_below {w w' : World} (h : w.grownBy w' none) : Below w.heap.size w w' := ⟨h.os, h.tape, h.output, h.size, fun k hk => h.block k hk (by simp)⟩
/-- But for block p, nothing that was there has changed. -/
def But (p : Nat) (w w' : World) : Prop := w.grownBy w' (some p)
theorem But.refl (p : Nat) (w : World) : But p w w := World.grownBy.refl w _
theorem But.of {p : Nat} {w w' : World} (h : Below w.heap.size w w') : But p w w' := ⟨h.os, h.tape, h.output, h.size, fun k hk _ => h.block k hk⟩
theorem But.next {p : Nat} {a b c : World} (h : But p a b) (k : But p b c) : But p a c := World.grownBy.trans h k
theorem But.drew {p : Nat} {a b : World} (h : But p a b) : But p a b.drew := ⟨h.os, h.tape, h.output, h.size, h.block⟩
theorem But.alloc {p : Nat} {a b : World} (h : But p a b) (o : Obj) : But p a (b.alloc o) := h.next (But.of (belowNew b o))
theorem But.below {p : Nat} {w w' : World} (h : But p w w') (hp : p ≤ w.heap.size) : Below p w w' :=
  ⟨h.os, h.tape, h.output, h.size, fun k hk => h.block k (by omega) (by simp; omega)⟩
theorem But.set (p j : Nat) (w : World) (v : Value) : But p w (w.setCell ⟨p, j, none⟩ v) :=
  ⟨rfl, rfl, rfl, by simp [World.setCell], fun k _ hne => Below.heap_setCell _ _ _ _ (by simpa using hne)⟩
/-- What is of memory behind the deck's block is kept. -/
theorem own_but {w w' : World} {p B : Nat} {e : TypeId} {k n : Nat} {v : Value} {xs : List Value} (h : w.ownsRow B e k v n xs) (hb : But p w w') (hB : p < B) : w'.ownsRow B e k v n xs :=
  World.ownsRow.kept h hb (by
    rcases h.2 with ⟨hv, _⟩ | ⟨g, cap, cur, hv, hg, _⟩
    · exact .inl (by rw [hv]; rfl)
    · exact .inr (by rw [hv]; simp [Value.ownBlock]; omega))
theorem OwnA.but {w w' : World} {p B : Nat} {v : Value} {l : List At} (h : OwnA w B v l) (hb : But p w w') (hB : p < B) : OwnA w' B v l := own_but h hb hB
theorem OwnN.but {w w' : World} {p B : Nat} {v : Value} {n : Nm} (h : OwnN w B v n) (hb : But p w w') (hB : p < B) : OwnN w' B v n := by
  obtain ⟨vs, h1, h2, h3⟩ := h
  exact ⟨vs, h1, own_but h2 hb hB, fun i hi => (h3 i hi).but hb hB⟩
theorem OwnV.but {w w' : World} {p B : Nat} {v : Value} {n : Nm} (h : OwnV w B v n) (hb : But p w w') (hB : p < B) : OwnV w' B v n := by
  obtain ⟨s, h1, h2⟩ := h
  exact ⟨s, h1, h2.but hb hB⟩
theorem OwnV.below {w w' : World} {B : Nat} {v : Value} {n : Nm} (h : OwnV w B v n) (hb : Below w.heap.size w w') : OwnV w' B v n := by
  obtain ⟨s, h1, h2⟩ := h
  exact ⟨s, h1, h2.below hb⟩
theorem OwnV.base {w : World} {B B' : Nat} {v : Value} {n : Nm} (h : OwnV w B v n) (hB : B' ≤ B) : OwnV w B' v n := by
  obtain ⟨s, h1, h2⟩ := h
  exact ⟨s, h1, h2.base hB⟩

/-- At the address lie the numbers zs. -/
def ILies (w : World) (a : Option Addr) (zs : List Int) : Prop := zs = [] ∨ ∃ b o, a = some ⟨b, o, none⟩ ∧ ∀ i, i < zs.length → w.cell? ⟨b, o + i, none⟩ = some (.int .i64 (zs.getD i 0))
theorem ILies.at {w : World} {a : Option Addr} {zs : List Int} (h : ILies w a zs) (k : Nat) (hk : k < zs.length) : ∃ b o, a = some ⟨b, o, none⟩ ∧ w.cell? ⟨b, o + k, none⟩ = some (.int .i64 (zs.getD k 0)) := by
  rcases h with h | ⟨b, o, h1, h2⟩
  · rw [h] at hk; exact absurd hk (Nat.not_lt_zero _)
  · exact ⟨b, o, h1, h2 k hk⟩
theorem ILies.below {w w' : World} {B : Nat} {a : Option Addr} {zs : List Int} (h : ILies w a zs) (hb : Below B w w') (hB : ∀ x, a = some x → zs ≠ [] → x.block < B) : ILies w' a zs := by
  rcases h with h | ⟨b, o, rfl, h⟩
  · exact .inl h
  · exact .inr ⟨b, o, rfl, fun i hi => (hb.cell (p := ⟨b, o + i, none⟩) (hB ⟨b, o, none⟩ rfl (fun e => by rw [e] at hi; exact absurd hi (Nat.not_lt_zero _)))).trans (h i hi)⟩
/-- A deck of the numbers zs in block p, at place k. -/
def DeckAt (w : World) (p : Nat) (a : Option Addr) (cap : Nat) (zs : List Int) (k : Nat) : Prop :=
  w.heap[p]? = some (.cells #[.slice a zs.length cap, .int .i64 (k : Int)] 59 (0, 0)) ∧ ILies w a zs ∧ (∀ x, a = some x → zs ≠ [] → x.block < p) ∧ k ≤ 30000 ∧ zs.length ≤ 9223372036854775807

set_option maxRecDepth 100000 in
set_option maxHeartbeats 1000000 in
theorem next_end (p : Nat) (a : Option Addr) (cap : Nat) (zs : List Int) (k : Nat) (N : Nat) (w : World) (h : DeckAt w p a cap zs k) (hk : zs.length ≤ k) :
    Calls Tryz.prog 11 #[.pointer (some ⟨p, 0, none⟩), .int .i64 (N : Int)] w fun e w' => e = .returned (.int .i64 0) ∧ DeckAt w' p a cap zs k ∧ But p w w' := by
  have HD := Lib.hid h
  obtain ⟨h1, _, _, _, h4⟩ := h
  obtain ⟨n, hn⟩ : ∃ n, n = zs.length := ⟨_, rfl⟩
  rw [← hn] at h1 hk h4
  have c0 : w.cell? ⟨p, 0, none⟩ = some (.slice a n cap) := by rw [Lib.cell_of_heap h1]; rfl
  have c1 : w.cell? ⟨p, 1, none⟩ = some (.int .i64 (k : Int)) := by rw [Lib.cell_of_heap h1]; rfl
  have d0 : decide ((n : Int) ≤ (k : Int)) = true := by simp; omega
  clear h1 hn
  go_enter Tryz.func11, Tryz.ntmps11
  go_wp2_with fail
  go_region
  go_wp2_with fail
  go_ret
  exact ⟨rfl, HD.out, (But.refl _ _).drew⟩
theorem next_num (z : Int) (N : Nat) (hN : 0 < N) (hN2 : N ≤ 1099511627776) : ∃ x y : Int, ∃ r : Nat, z.tmod (N : Int) = x ∧ -1099511627776 ≤ x ∧ x ≤ 1099511627776 ∧ x + (N : Int) = y ∧ 0 ≤ y ∧ y ≤ 2199023255552 ∧ y.tmod (N : Int) = (r : Int) ∧ r < N := by
  have hx1 : -(N : Int) < z.tmod (N : Int) := by
    have := Int.lt_tmod_of_pos z (show (0 : Int) < (N : Int) by omega)
    simpa using this
  have hx2 : z.tmod (N : Int) < (N : Int) := Int.tmod_lt_of_pos z (by omega)
  refine ⟨_, _, (z.tmod (N : Int) + (N : Int)).tmod (N : Int) |>.toNat, rfl, by omega, by omega, rfl, by omega, by omega, ?_, ?_⟩
  · have h1 : 0 ≤ (z.tmod (N : Int) + (N : Int)).tmod (N : Int) := Int.tmod_nonneg _ (by omega)
    omega
  · have h2 : (z.tmod (N : Int) + (N : Int)).tmod (N : Int) < (N : Int) := Int.tmod_lt_of_pos _ (by omega)
    omega

theorem deck_set {w : World} {p : Nat} {a : Option Addr} {cap : Nat} {zs : List Int} {k : Nat} (h : DeckAt w p a cap zs k) (hk : k < 30000) : DeckAt (w.setCell ⟨p, 1, none⟩ (.int .i64 ((k : Int) + 1))) p a cap zs (k + 1) := by
  obtain ⟨h1, h2, h3, _, h4⟩ := h
  refine ⟨?_, h2.below ((Below.refl p w).setCell (p := ⟨p, 1, none⟩) (Nat.le_refl _) _) h3, h3, by omega, h4⟩
  simp [World.setCell, Array.getElem?_modify, h1]
set_option maxRecDepth 100000 in
set_option maxHeartbeats 1000000 in
theorem next_more (p : Nat) (a : Option Addr) (cap : Nat) (zs : List Int) (k : Nat) (N : Nat) (w : World) (h : DeckAt w p a cap zs k) (hk : k < zs.length) (hk2 : k < 30000) (hN : 0 < N) (hN2 : N ≤ 1099511627776) :
    Calls Tryz.prog 11 #[.pointer (some ⟨p, 0, none⟩), .int .i64 (N : Int)] w fun e w' => (∃ r : Nat, r < N ∧ e = .returned (.int .i64 (r : Int))) ∧ DeckAt w' p a cap zs (k + 1) ∧ But p w w' := by
  have HD := Lib.hid h
  obtain ⟨h1, h2, h3, _, h4⟩ := h
  obtain ⟨b, o, ha, hc⟩ := h2.at k hk
  have hbp := h3 _ ha (fun e => by rw [e] at hk; exact absurd hk (Nat.not_lt_zero _))
  subst ha
  generalize zs.getD k 0 = z at hc
  obtain ⟨x, y, r, e1, x1, x2, e2, y1, y2, e3, hr⟩ := next_num z N hN hN2
  obtain ⟨n, hn⟩ : ∃ n, n = zs.length := ⟨_, rfl⟩
  rw [← hn] at h1 hk h4
  have c0 : w.cell? ⟨p, 0, none⟩ = some (.slice (some ⟨b, o, none⟩) n cap) := by rw [Lib.cell_of_heap h1]; rfl
  have c1 : w.cell? ⟨p, 1, none⟩ = some (.int .i64 (k : Int)) := by rw [Lib.cell_of_heap h1]; rfl
  have f1 : w.frozen? ⟨p, 1, none⟩ = false := Lib.frozen_of_heap h1 1
  have hne : b ≠ p := by simp at hbp; omega
  have d0 : decide ((n : Int) ≤ (k : Int)) = false := by simp; omega
  have HR := Lib.hid hr
  clear h1 hn h2 h3 hr hbp
  go_enter Tryz.func11, Tryz.ntmps11
  go_wp2_with fail
  go_region
  go_wp2_with fail
  go_region
  go_wp2_with fail
  go_ret
  exact ⟨⟨r, HR.out, rfl⟩, deck_set HD.out hk2, (But.set p 1 w _).drew.drew⟩

theorem next_any (p : Nat) (a : Option Addr) (cap : Nat) (zs : List Int) (k : Nat) (N : Nat) (w : World) (h : DeckAt w p a cap zs k) (hk2 : k < 30000) (hN : 0 < N) (hN2 : N ≤ 1099511627776) :
    Calls Tryz.prog 11 #[.pointer (some ⟨p, 0, none⟩), .int .i64 (N : Int)] w fun e w' => ∃ r k' : Nat, r < N ∧ e = .returned (.int .i64 (r : Int)) ∧ DeckAt w' p a cap zs k' ∧ k' ≤ k + 1 ∧ But p w w' := by
  by_cases hk : k < zs.length
  · exact (next_more p a cap zs k N w h hk hk2 hN hN2).mono fun e w' hh => by
      obtain ⟨⟨r, hr, he⟩, h1, h2⟩ := hh
      exact ⟨r, k + 1, hr, he, h1, Nat.le_refl _, h2⟩
  · exact (next_end p a cap zs k N w h (by omega)).mono fun e w' hh => ⟨0, k, hN, by rw [hh.1]; rfl, hh.2.1, by omega, hh.2.2⟩

set_option maxRecDepth 100000 in
theorem new_any (a : Option Addr) (cap : Nat) (zs : List Int) (w : World) (hl : ILies w a zs) (hz : zs.length ≤ 9223372036854775807) :
    Calls Tryz.prog 9 #[.slice a zs.length cap] w fun e w' => e = .returned (.pointer (some ⟨w.heap.size, 0, none⟩)) ∧ DeckAt w' w.heap.size a cap zs 0 ∧ Below w.heap.size w w' := by
  have ha : ∀ x, a = some x → zs ≠ [] → x.block < w.heap.size := by
    intro x hx hne
    rcases hl with h | ⟨b, o, h1, h2⟩
    · exact absurd h hne
    · obtain rfl := Option.some.inj (hx.symm.trans h1)
      exact block_lt_of_cell (h2 0 (List.length_pos_iff.2 hne))
  have HL := Lib.hid hl
  obtain ⟨n, hn⟩ : ∃ n, n = zs.length := ⟨_, rfl⟩
  have HN := Lib.hid hn
  rw [← hn]
  clear hl hn
  go_enter Tryz.func9, Tryz.ntmps9
  go_wp2_with fail
  go_ret
  have hb : Below w.heap.size w (w.alloc (.cells #[.slice a n cap, .int .i64 0] 59)) := (Below.refl _ _).alloc (Nat.le_refl _) _
  refine ⟨rfl, ⟨?_, HL.out.below hb ha, ha, by omega, hz⟩, hb⟩
  rw [← HN.out]
  exact heap_alloc_new w _
theorem DeckAt.lt {w : World} {p : Nat} {a : Option Addr} {cap : Nat} {zs : List Int} {k : Nat} (h : DeckAt w p a cap zs k) : p < w.heap.size := (Array.getElem?_eq_some_iff.1 h.1).1
/-- A call that leaves all old memory alone leaves the deck alone. -/
theorem DeckAt.below {w w' : World} {p : Nat} {a : Option Addr} {cap : Nat} {zs : List Int} {k : Nat} (h : DeckAt w p a cap zs k) (hb : Below w.heap.size w w') : DeckAt w' p a cap zs k := by
  have hp := h.lt
  obtain ⟨h1, h2, h3, h5, h4⟩ := h
  exact ⟨(hb.block p hp).trans h1, h2.below (hb.mono (Nat.le_of_lt hp)) h3, h3, h5, h4⟩
/-- Growth of a row of a block behind the deck's leaves the deck alone. -/
theorem DeckAt.grown {w w' : World} {p : Nat} {a : Option Addr} {cap : Nat} {zs : List Int} {k : Nat} {row : Option Nat} (h : DeckAt w p a cap zs k) (hg : w.grownBy w' row) (hr : ∀ j, row = some j → p < j) : DeckAt w' p a cap zs k := by
  have hp := h.lt
  obtain ⟨h1, h2, h3, h5, h4⟩ := h
  have hb : Below p w w' := ⟨hg.os, hg.tape, hg.output, hg.size, fun j hj => hg.block j (by omega) (fun e => by have := hr j e.symm; omega)⟩
  exact ⟨(hg.block p hp (fun e => by have := hr p e.symm; omega)).trans h1, h2.below hb h3, h3, h5, h4⟩
end Go.Proofs.YtbpdenfiifcfcaaGreatDoor
namespace Go.Proofs.YtbpdenfiifcfcaaGreatDoor
open Go.RowKit Go.Maps

theorem laidOut : laidOutB Tryz.prog = true := by kernel_rfl
theorem fLaw : Keyed Tryz.prog 183 := Keyed.of_law (deep_law_laid laidOut (m := 2) (by omega) (by decide +kernel) (by kernel_rfl) (by kernel_rfl))
/-- A pair as a value and as a key. -/
def fV (p : ByteArray × ByteArray) : Value := .agg #[.string p.1, .string p.2]
def fK (p : ByteArray × ByteArray) : Lit := .string (keyBytes [.string p.1.data.toList, .string p.2.data.toList])
theorem fLits (d : Nat) (a b : ByteArray) (h1 : a.size ≤ maxLen) (h2 : b.size ≤ maxLen) : Tryz.prog.keyLits (d + 2) 183 [.string a, .string b] = some [.string a.data.toList, .string b.data.toList] := by
  have c1 : Tryz.prog.cellsOf 9 = 1 := by kernel_rfl
  have c2 : Tryz.prog.cellsOf 183 = 2 := by kernel_rfl
  simp [Program.keyLits, Tryz.underlying183, Tryz.underlying9, c1, c2, h1, h2]
theorem fKey (p : ByteArray × ByteArray) (h1 : p.1.size ≤ maxLen) (h2 : p.2.size ≤ maxLen) : keyOf Tryz.prog 183 (fV p) = some (fK p) := by
  have hk : Tryz.prog.keyType 183 = true := by kernel_rfl
  have c2 : Tryz.prog.cellsOf 183 = 2 := by kernel_rfl
  have hf : (fV p).formed Tryz.prog 183 = true := by simp [Value.formed, fV, Tryz.underlying183, c2]
  have hsz : 1 < Tryz.prog.types.size := by decide +kernel
  obtain ⟨d, hd⟩ : ∃ d, Tryz.prog.types.size + 1 = d + 2 := ⟨Tryz.prog.types.size - 1, by omega⟩
  unfold keyOf
  rw [Tryz.underlying183]
  show (if (Tryz.prog.keyType 183 && (fV p).formed Tryz.prog 183) = true then (Tryz.prog.keyLits (Tryz.prog.types.size + 1) 183 (fV p).cells.toList).map (fun ls => Lit.string (keyBytes ls)) else none) = _
  rw [if_pos (by rw [hk, hf]; rfl), hd]
  show ((Tryz.prog.keyLits (d + 2) 183 [.string p.1, .string p.2]).map (fun ls => Lit.string (keyBytes ls))) = _
  rw [fLits d _ _ h1 h2]
  rfl
def sU {H : Type} : DataW H := .lit (.bool true)
/-- What foldedSet's map reads as. -/
def setD {H : Type} (l : List At) : DataW H := setOf sU (l.map fun a => fK (fa a))
noncomputable def Rb : Value → Option (DataW Unit × List MemPlace) := plainElem Tryz.prog 4
theorem rb_true : Rb (.bool true) = some (sU, []) := by
  show plainElem Tryz.prog 4 (.bool true) = _
  unfold plainElem
  rw [Tryz.underlying4]; rfl
theorem setD_snoc (l : List At) (a : At) : setD (H := Unit) (l ++ [a]) = (setD l).put (fK (fa a)) sU := by
  unfold setD
  rw [List.map_append, List.map_singleton, setOf_snoc]

theorem make_hint (n : Int) (w : World) : (Instr.makeMap 181 (some (.int .i64 n))).run Tryz.prog w = .ok (.map (some w.heap.size)) (w.alloc (.map #[] 0)) := by
  simp [Instr.makeMap, run_underlying Tryz.underlying181, asInt, asIntOf, Result.andThen]
/-- One key more. -/
theorem set_more {W : World} {B k : Nat} {D : DataW Unit} (h : W.ownsMap Tryz.prog 183 Rb B k D) (hk : k ≤ 1000000) (t f : ByteArray) (h1 : t.size ≤ 1000000) (h2 : f.size ≤ 1000000) :
    ∃ w2, (Instr.mapUpdate 181 (.map (some B)) (.agg #[.string t, .string f]) (.bool true)).run Tryz.prog W = .ok () w2 ∧ w2.ownsMap Tryz.prog 183 Rb B (k + 1) (D.put (fK (t, f)) sU) ∧ W.grownBy w2 (some B) :=
  h.update fLaw Tryz.underlying181 (by unfold maxLen; omega) (fKey (t, f) (by show t.size ≤ _; unfold maxLen; omega) (by show f.size ≤ _; unfold maxLen; omega)) rb_true
set_option maxRecDepth 100000 in
set_option maxHeartbeats 4000000 in
theorem fset_any (a0 : Option Addr) (c n : Nat) (l : List At) (w : World) (h : ALies w a0 l) (hn : n = l.length) (hs : SmallR l) :
    Calls Tryz.prog 167 #[.slice a0 n c] w fun e w' => e = .returned (.map (some w.heap.size)) ∧ w'.ownsMap Tryz.prog 183 Rb w.heap.size n (setD l) ∧ Below w.heap.size w w' := by
  have hL : n ≤ 1000000 := by rw [hn]; exact hs.1
  have H1 := Lib.hid h
  have HN := Lib.hid hn
  have HS := Lib.hid hs
  have hmm := make_hint
  clear h hn hs
  go_enter Tryz.func167, Tryz.ntmps167
  go_wp2_with fail
  go_loopw [11] (fun i wr => ∃ k : Nat, k ≤ n ∧ i = .int .i64 k ∧ wr.ownsMap Tryz.prog 183 Rb w.heap.size k (setD (l.take k)) ∧ Below w.heap.size w wr) (fun i _ => n - (intOf i).toNat)
  case atStart => exact ⟨0, Nat.zero_le _, rfl, World.ownsMap_made _ _ _ _, belowNew w _⟩
  case round =>
    obtain ⟨k, hk, rfl, hA, hb⟩ := hrel
    have HB := Lib.hid hb
    have HA := Lib.hid hA
    clear hb hA
    by_cases hlt : k < n
    · have hd : decide ((k : Int) < (n : Int)) = true := by simp; omega
      obtain ⟨b, o, rfl, hb, c0, c1, c2⟩ := H1.out.at k (by rw [← HN.out]; exact hlt)
      have a0 : wr.cell? ⟨b, o + k * 3, none⟩ = _ := (HB.out.cell (p := ⟨b, o + k * 3, none⟩) hb).trans c0
      have a1 : wr.cell? ⟨b, o + k * 3 + 1, none⟩ = _ := (HB.out.cell (p := ⟨b, o + k * 3 + 1, none⟩) hb).trans c1
      have a2 : wr.cell? ⟨b, o + k * 3 + 2, none⟩ = _ := (HB.out.cell (p := ⟨b, o + k * 3 + 2, none⟩) hb).trans c2
      have HT := Lib.hid (takeD l k (by rw [← HN.out]; exact hlt) noAt)
      have hsm := HS.out.2 k (by rw [← HN.out]; exact hlt)
      generalize l.getD k noAt = y at a0 a1 a2 HT hsm
      obtain ⟨t, kd, v⟩ := y
      have HM1 := Lib.hid hsm.1
      have HM2 := Lib.hid hsm.2
      clear c0 c1 c2 hb hsm
      go_wp2_with fail
      obtain ⟨f, hf⟩ : ∃ f, f = foldS v := ⟨_, rfl⟩
      have HFZ := Lib.hid (show f.size ≤ 1000000 by rw [hf]; exact Nat.le_trans (foldS_size v) HM2.out)
      have HTZ := Lib.hid (show t.size ≤ 1000000 from HM1.out)
      have HKZ := Lib.hid (show k ≤ 1000000 by omega)
      have HFO := Lib.hid (fun W => foldS_any v W (Nat.le_trans (show v.size ≤ 1000000 from HM2.out) (by omega)))
      rw [← hf] at HFO
      have HST := Lib.hid (show setD (H := Unit) (l.take (k + 1)) = (setD (l.take k)).put (fK (t, f)) sU by rw [HT.out, setD_snoc, hf]; rfl)
      have HBA := Lib.hid (show Below w.heap.size w (wr.alloc (.cells #[.string t, .int .i64 kd, .string v] 86)) from below_next HB.out (belowNew wr _))
      have HUP := Lib.hid (fun W1 (hb1 : Below (wr.alloc (.cells #[.string t, .int .i64 kd, .string v] 86)).drew.heap.size (wr.alloc (.cells #[.string t, .int .i64 kd, .string v] 86)).drew W1) => set_more (((HA.out.alloc (.cells #[.string t, .int .i64 kd, .string v] 86)).drew).kept (Below.only hb1) (by simp)) HKZ.out t f HTZ.out HFZ.out)
      have HG0 := Lib.hid (fun W1 (hb1 : Below (wr.alloc (.cells #[.string t, .int .i64 kd, .string v] 86)).drew.heap.size (wr.alloc (.cells #[.string t, .int .i64 kd, .string v] 86)).drew W1) => (hb1.cell (p := ⟨wr.heap.size, 0, none⟩) (block_lt (box_cell wr (.string t) (.int .i64 kd) (.string v) 86))).trans (box_cell wr (.string t) (.int .i64 kd) (.string v) 86))
      clear hf
      go_region_with (go_at_call 192; (with_reducible refine (HFO.out _).mono ?_); rintro e w1 ⟨rfl, hb1⟩; obtain ⟨w2, hrun, hown2, hg2⟩ := HUP.out _ hb1; have g0 := HG0.out _ hb1; have HB1 := Lib.hid (below_next HBA.out.drew hb1); have HO := Lib.hid hown2; have HG := Lib.hid hg2; clear hb1 hown2 hg2)
      all_goals
        go_wp2_with fail
        go_roundw
        case rel => exact ⟨k + 1, by omega, by go_num, by rw [HST.out]; exact HO.out, HB1.out.grown HG.out HB1.out.size (fun j e => by cases e; exact Nat.le_refl _)⟩
        case measure => simp [intOf]; omega
    · have hd : decide ((k : Int) < (n : Int)) = false := by simp; omega
      have HF := Lib.hid (show l.take k = l by rw [List.take_of_length_le (by rw [← HN.out]; omega)])
      go_wp2_with fail
      go_ret
      exact ⟨rfl, by have := HA.out; rw [HF.out] at this; exact this.mono hk, HB.out⟩
end Go.Proofs.YtbpdenfiifcfcaaGreatDoor
namespace Go.Proofs.YtbpdenfiifcfcaaGreatDoor
open Go.RowKit Go.Maps

theorem fK_key (p : ByteArray × ByteArray) : WideAt.IsKeyLit (fK p) := by unfold fK; trivial
theorem keys_of (l : List At) : ∀ x ∈ l.map (fun a => fK (fa a)), WideAt.IsKeyLit x := by
  intro x hx
  obtain ⟨a, _, rfl⟩ := List.mem_map.1 hx
  exact fK_key _
theorem fK_inj {p q : ByteArray × ByteArray} (h1 : p.1.size ≤ maxLen) (h2 : p.2.size ≤ maxLen) (k1 : q.1.size ≤ maxLen) (k2 : q.2.size ≤ maxLen) (h : fK p = fK q) : p = q := by
  have := fLaw.inj (fKey p h1 h2) (h ▸ fKey q k1 k2)
  unfold fV at this
  simp at this
  exact Prod.ext this.1 this.2
theorem atKey_fold (kl : Lit) : ∀ (acc : List Lit) (m : DataW Unit), IsMap m → (∀ x ∈ acc, WideAt.IsKeyLit x) → (∀ z, m.atKey kl z = sU ∨ m.atKey kl z = z) → ∀ z, (acc.foldl (fun m x => m.put x sU) m).atKey kl z = sU ∨ (acc.foldl (fun m x => m.put x sU) m).atKey kl z = z
  | [], _, _, _, h => h
  | x :: r, m, hm, hk, h => by
    rw [List.foldl_cons]
    refine atKey_fold kl r _ (hm.put x sU) (fun y hy => hk y (by simp [hy])) (fun z => ?_)
    by_cases e : kl = x
    · subst e
      exact .inl (atKey_put_same hm (hk kl (by simp)) sU z)
    · rw [atKey_put_other e]
      exact h z
theorem atKey_setD (l : List At) (kl : Lit) (z : DataW Unit) : (setD l).atKey kl z = sU ∨ (setD l).atKey kl z = z :=
  atKey_fold kl _ _ isMap_empty (keys_of l) (fun _ => .inr rfl) z
theorem has_setD (l : List At) (k : Lit) : has (setD (H := Unit) l) k = (l.map fun a => fK (fa a)).any (fun x => x.sameKey k) := has_setOf _ _ _ (keys_of l)
theorem peb_inv {P : Program} {e : TypeId} (he : P.underlying e = some .bool) {v : Value} {y : DataW Unit × List MemPlace} (h : plainElem P e v = some y) : ∃ c : Bool, v = .bool c ∧ y = (.lit (.bool c), []) := by
  unfold plainElem at h
  rw [he] at h
  cases v <;> simp at h
  exact ⟨_, rfl, h.symm⟩
theorem rb_inv {v : Value} {y : DataW Unit × List MemPlace} (h : Rb v = some y) : ∃ c : Bool, v = .bool c ∧ y = (.lit (.bool c), []) := peb_inv Tryz.underlying4 h
theorem came_true {l : List At} {kl : Lit} {c : Bool} (h : ∀ zd : DataW Unit, (setD l).atKey kl zd = .lit (.bool c)) : c = true := by
  rcases atKey_setD l kl .nil with e | e
  · rw [h .nil] at e
    unfold sU at e
    simpa using e
  · rw [h .nil] at e; cases e
theorem look_true {l : List At} {kl : Lit} {zd : DataW Unit} {v : Value} {ps : List MemPlace} (hh : has (setD (H := Unit) l) kl = true) (h : Rb v = some ((setD l).atKey kl zd, ps)) : v = .bool true := by
  have e : (setD l).atKey kl zd = sU := by
    rw [atKey_indep hh zd sU]
    rcases atKey_setD l kl sU with e | e <;> exact e
  obtain ⟨c, rfl, h2⟩ := rb_inv h
  rw [e] at h2
  have := congrArg Prod.fst h2
  unfold sU at this
  simp at this
  rw [this]
theorem lits_str {P : Program} {s : TypeId} (hs : P.underlying s = some .string) {d : Nat} {x : Value} {L : List Lit} (h : P.keyLits (d + 1) s [x] = some L) : ∃ a, x = .string a := by
  unfold Program.keyLits at h
  rw [hs] at h
  cases x <;> simp at h
  exact ⟨_, rfl⟩
theorem lits_two {P : Program} {t s : TypeId} {f0 f1 : Field} (hu : P.underlying t = some (.struct #[f0, f1])) (o0 : f0.offset = 0) (o1 : f1.offset = 1) (t0 : f0.type = s) (t1 : f1.type = s) (hs : P.underlying s = some .string) (c1 : P.cellsOf s = 1) (c2 : P.cellsOf t = 2)
    {d : Nat} {l : List Value} {L : List Lit} (h : P.keyLits (d + 2) t l = some L) : ∃ a b, l = [.string a, .string b] := by
  unfold Program.keyLits at h
  rw [hu] at h
  simp only [] at h
  split at h
  · rename_i hc
    have hl : l.length = 2 := by rw [hc.1, c2]
    match l, hl with
    | [x, y], _ =>
      cases h0 : P.keyLits (d + 1) s [x] with
      | none => simp [o0, o1, t0, t1, c1, h0] at h
      | some L0 =>
        cases h1 : P.keyLits (d + 1) s [y] with
        | none => simp [o0, o1, t0, t1, c1, h0, h1] at h
        | some L1 =>
          obtain ⟨a, rfl⟩ := lits_str hs h0
          obtain ⟨b, rfl⟩ := lits_str hs h1
          exact ⟨a, b, rfl⟩
  · cases h
set_option maxRecDepth 100000 in
/-- A key's shape. -/
theorem key_shape {key : Value} {kl : Lit} (h : keyOf Tryz.prog 183 key = some kl) : ∃ p : ByteArray × ByteArray, key = .agg #[.string p.1, .string p.2] := by
  obtain ⟨xs, L, rfl, h2, _⟩ := keyOf_top (by kernel_rfl) h
  have c1 : Tryz.prog.cellsOf 9 = 1 := by kernel_rfl
  have c2 : Tryz.prog.cellsOf 183 = 2 := by kernel_rfl
  have hsz : 1 < Tryz.prog.types.size := by decide +kernel
  obtain ⟨d, hd⟩ : ∃ d, Tryz.prog.types.size + 1 = d + 2 := ⟨Tryz.prog.types.size - 1, by omega⟩
  rw [hd] at h2
  obtain ⟨a, b, hx⟩ := lits_two Tryz.underlying183 rfl rfl rfl rfl Tryz.underlying9 c1 c2 h2
  refine ⟨(a, b), ?_⟩
  congr 1
  exact Array.toList_inj.1 hx
def tt (_ _ : DataW Unit) : Bool := true
theorem zeroB (w : World) : (zeroValue 4).run Tryz.prog w = .ok (.bool false) w := by kernel_rfl
theorem rb_false : Rb (.bool false) = some (.lit (.bool false), []) := plainElem_bool Tryz.underlying4 false

/-- The step of the range over such a set: an entry's element is true. -/
theorem wpList_next_set {ops : Array Oper} {rest : List Oper} {o : Oper} {a : Act} {Q : Exit → Act → World → Prop} (w : World) (hg : o.guard = none) (it : Operand) (hop : o.op = Op.next it false) (b r n : Nat) (D : DataW Unit) (left : Lit → Bool) (cnt : Nat)
    (htrue : ∀ (kl : Lit) (c : Bool), (∀ zd : DataW Unit, D.atKey kl zd = .lit (.bool c)) → c = true)
    (hit : a.eval it = .pointer (some ⟨r, 0, none⟩)) (h : w.ranges Tryz.prog 183 Rb b r n D left cnt)
    (hDone : cnt = 0 → (∀ kl, left kl = false) → wpList Tryz.prog ops Q rest (a.put o.dst (.tuple #[.bool false])) w)
    (hMore : ∀ (xa xb : ByteArray) (kl : Lit) (w' : World) (cnt' : Nat), keyOf Tryz.prog 183 (.agg #[.string xa, .string xb]) = some kl → (∀ zd, D.atKey kl zd = .lit (.bool true)) → w'.ranges Tryz.prog 183 Rb b r n D (fun z => left z && !z.sameKey kl) cnt' → cnt' < cnt →
      w.grownBy w' (some r) → (Instr.entry (.pointer (some ⟨r, 0, none⟩))).run Tryz.prog w' = .ok (.tuple #[.agg #[.string xa, .string xb], .bool true]) w' → wpList Tryz.prog ops Q rest (a.put o.dst (.tuple #[.bool true, .agg #[.string xa, .string xb], .bool true])) w') :
    wpList Tryz.prog ops Q (o :: rest) a w :=
  wpList_next_ranges w hg it hop 183 fLaw Rb (fun (p : ByteArray × ByteArray) => Value.agg #[.string p.1, .string p.2]) Value.bool (fun _ _ hk => key_shape hk) (fun _ _ hv => by obtain ⟨c, rfl, _⟩ := rb_inv hv; exact ⟨c, rfl⟩) b r n D left cnt hit h hDone
    (fun x c kl y w' cnt' hkey _ hv hat hrg hlt hgr _ hen => by
      obtain ⟨c', e, rfl⟩ := rb_inv hv
      obtain rfl : c = c' := by simpa using e
      obtain rfl : c = true := htrue kl c hat
      exact hMore x.1 x.2 kl w' cnt' hkey hat hrg hlt hgr hen)
set_option maxHeartbeats 4000000 in
set_option maxRecDepth 100000 in
theorem meq_any (b1 b2 n1 n2 : Nat) (l1 l2 : List At) (w : World) (h1 : w.ownsMap Tryz.prog 183 Rb b1 n1 (setD l1)) (h2 : w.ownsMap Tryz.prog 183 Rb b2 n2 (setD l2)) :
    Calls Tryz.prog 166 #[.map (some b1), .map (some b2)] w
      fun e w' => e = .returned (.bool (Lib.equalFuncD tt (setD l1) (setD l2))) ∧ Below w.heap.size w w' := by
  have l1' := fun ty => h1.len (t := 181) Tryz.underlying181 ty
  have l2' := fun ty => h2.len (t := 181) Tryz.underlying181 ty
  have HAT1 := Lib.hid (fun (kl : Lit) (c : Bool) (h : ∀ zd : DataW Unit, (setD l1).atKey kl zd = .lit (.bool c)) => came_true h)
  have HLT2 := Lib.hid (fun (kl : Lit) (zd : DataW Unit) (v : Value) (ps : List MemPlace) (hh : has (setD (H := Unit) l2) kl = true) (h : Rb v = some ((setD l2).atKey kl zd, ps)) => look_true hh h)
  generalize (setD l1 : DataW Unit) = D1 at h1 l1' HAT1 ⊢
  generalize (setD l2 : DataW Unit) = D2 at h2 l2' HLT2 ⊢
  obtain ⟨es1, rfl, hap, hkeys⟩ := h1.entries fLaw
  have hb2 := h2.lt
  generalize hres : Lib.equalFuncD tt (.map es1) D2 = res
  have RES := Lib.hid (show Lib.equalFuncD tt (.map es1) D2 = res from hres)
  clear hres
  by_cases hsz : Maps.size (.map es1 : DataW Unit) = Maps.size D2
  · go_enter Tryz.func166, Tryz.ntmps166
    go_wp2_with (first
      | (at_range; refine wpList_range_own _ rfl _ 181 rfl 183 4 fLaw Tryz.underlying181 Rb b1 n1 _ rfl h1 ?_; intro w0 hrg0 hg0 hs0)
      | go_in)
    go_frame
    go_loopw [16] (fun _ wr => ∃ (left : Lit → Bool) (cnt : Nat), wr.ranges Tryz.prog 183 Rb b1 w.heap.size n1 (.map es1) left cnt ∧ wr.ownsMap Tryz.prog 183 Rb b2 n2 D2 ∧ w.grownBy wr none ∧ Hid (GoodAt tt es1 D2 left))
      (fun _ wr => wr.rangeLeft b1 w.heap.size)
    case atStart => exact ⟨_, _, hrg0, h2.kept hg0 (by simp), hg0, good_start hkeys D2⟩
    case round =>
      obtain ⟨left, cnt, hrg, h2r, hgw, G⟩ := hrel
      go_wp2_with (first
        | (at_next; refine wpList_next_set _ rfl _ rfl b1 w.heap.size n1 _ _ _ HAT1.out rfl hrg ?_ ?_)
        | go_in)
      · intro _ hl0
        go_wp2
        go_ret
        exact ⟨by rw [← RES.out, all_good G.out hl0 hsz]; rfl, only_below hgw⟩
      · intro xa xb kl w1 cnt1 hkey hat hrg1 hlt hg1 hen
        have hgw1 : w.grownBy w1 none := hgw.andThen hg1 (fun j hj => by cases hj; exact Or.inl (Nat.le_refl _))
        have h2w1 := h2r.kept hg1 (fun e => by have := Option.some.inj e; omega)
        have HAT := Lib.hid (show ∀ zd, (DataW.map es1).atKey kl zd = .lit (.bool true) from hat)
        have HKEY := Lib.hid (show keyOf Tryz.prog 183 (.agg #[.string xa, .string xb]) = some kl from hkey)
        have hrgA := Lib.hid (hrg1.alloc (.cells #[.string xa, .string xb] 183))
        have h2A := Lib.hid (h2w1.alloc (.cells #[.string xa, .string xb] 183))
        have hgwA := Lib.hid (hgw1.andThen (World.grownBy_alloc w1 (.cells #[.string xa, .string xb] 183) none) (fun j hj => by cases hj))
        clear hat hkey hrg1 h2w1 hgw1 hg1
        cases hh : Maps.has D2 kl
        · have hbad : Lib.goodD tt D2 (kl, .lit (.bool true)) = false := by unfold Lib.goodD; rw [hh]; rfl
          go_wp2_with (first
            | (at_lookup; refine wpList_lookup_own_ok _ rfl _ _ 181 rfl 183 4 fLaw Tryz.underlying181 Rb (zeroB _) _ _ rb_false b2 n2 D2 rfl h2A.out _ kl rfl HKEY.out ?_; intro v2 ps2 hv2; rw [hh]; go_frame)
            | go_in)
          go_ret
          exact ⟨by rw [← RES.out, bad_false hap hkeys HAT.out hbad]; rfl, only_below hgwA.out⟩
        · have hgood : Lib.goodD tt D2 (kl, .lit (.bool true)) = true := by unfold Lib.goodD; rw [hh]; rfl
          go_wp2_with (first
            | (at_lookup; refine wpList_lookup_own_ok _ rfl _ _ 181 rfl 183 4 fLaw Tryz.underlying181 Rb (zeroB _) _ _ rb_false b2 n2 D2 rfl h2A.out _ kl rfl HKEY.out ?_; intro v2 ps2 hv2; rw [hh]; obtain rfl := HLT2.out kl _ v2 ps2 hh hv2; go_frame)
            | go_in)
          go_roundw
          case rel => exact ⟨_, cnt1, hrgA.out, h2A.out, hgwA.out, good_step hap hkeys HAT.out G.out hgood⟩
          case measure => rw [hrgA.out.left_eq, hrg.left_eq]; exact hlt
  · have hne : ¬ ((Maps.size (.map es1 : DataW Unit) : Int) = (Maps.size D2 : Int)) := fun e => hsz (by exact_mod_cast e)
    go_enter Tryz.func166, Tryz.ntmps166
    go_wp2
    go_ret
    exact ⟨by rw [← RES.out, sizes_false hsz]; rfl, Below.refl _ _⟩
end Go.Proofs.YtbpdenfiifcfcaaGreatDoor
namespace Go.Proofs.YtbpdenfiifcfcaaGreatDoor
open Go.RowKit Go.Maps

theorem sub_len {K2 : List Lit} : ∀ {K1 : List Lit}, K1.Pairwise (· ≠ ·) → (∀ x ∈ K1, x ∈ K2) → ∃ R, K2.Perm (K1 ++ R) := by
  intro K1
  induction K1 generalizing K2 with
  | nil => intro _ _; exact ⟨K2, List.Perm.refl _⟩
  | cons x K1 ih =>
    intro h hs
    obtain ⟨h1, h2⟩ := List.pairwise_cons.1 h
    obtain ⟨a, b, rfl⟩ := List.append_of_mem (hs x (by simp))
    obtain ⟨R, hR⟩ := ih (K2 := a ++ b) h2 (fun y hy => by
      have h3 := hs y (by simp [hy])
      simp only [List.mem_append, List.mem_cons] at h3 ⊢
      rcases h3 with h3 | h3 | h3
      · exact .inl h3
      · exact absurd h3.symm (h1 y hy)
      · exact .inr h3)
    exact ⟨R, List.perm_middle.trans (hR.cons x)⟩
def keysD : DataW Unit → List Lit
  | .map es => es.map (·.1)
  | _ => []
/-- Two sets are held to be equal just where they have the same keys. -/
theorem equal_iff {D1 D2 : DataW Unit} (h1 : Tidy D1) (h2 : Tidy D2) (k1 : ∀ k ∈ keysD D1, WideAt.IsKeyLit k) (k2 : ∀ k ∈ keysD D2, WideAt.IsKeyLit k) :
    Lib.equalFuncD tt D1 D2 = true ↔ ∀ k, has D1 k = true ↔ has D2 k = true := by
  obtain ⟨e1, rfl, p1⟩ := h1
  obtain ⟨e2, rfl, p2⟩ := h2
  have q1 : (e1.map (·.1)).Pairwise (· ≠ ·) := by rw [List.pairwise_map]; exact p1
  have q2 : (e2.map (·.1)).Pairwise (· ≠ ·) := by rw [List.pairwise_map]; exact p2
  have m1 : ∀ k, has (DataW.map e1 : DataW Unit) k = true ↔ k ∈ e1.map (·.1) := by
    intro k
    constructor
    · intro h
      obtain ⟨p, hp, hs⟩ := List.any_eq_true.1 (show e1.any (fun p => p.1.sameKey k) = true from h)
      exact List.mem_map.2 ⟨p, hp, WideAt.sameKey_eq hs⟩
    · intro h
      have hk := k1 k h
      obtain ⟨p, hp, rfl⟩ := List.mem_map.1 h
      exact List.any_eq_true.2 ⟨p, hp, WideAt.sameKey_self hk⟩
  have m2 : ∀ k, has (DataW.map e2 : DataW Unit) k = true ↔ k ∈ e2.map (·.1) := by
    intro k
    constructor
    · intro h
      obtain ⟨p, hp, hs⟩ := List.any_eq_true.1 (show e2.any (fun p => p.1.sameKey k) = true from h)
      exact List.mem_map.2 ⟨p, hp, WideAt.sameKey_eq hs⟩
    · intro h
      have hk := k2 k h
      obtain ⟨p, hp, rfl⟩ := List.mem_map.1 h
      exact List.any_eq_true.2 ⟨p, hp, WideAt.sameKey_self hk⟩
  have hall : Lib.equalFuncD tt (.map e1) (.map e2 : DataW Unit) = true ↔ e1.length = e2.length ∧ ∀ k ∈ e1.map (·.1), k ∈ e2.map (·.1) := by
    unfold Lib.equalFuncD
    rw [Bool.and_eq_true, decide_eq_true_iff]
    refine and_congr (by simp [Maps.size]) ?_
    show e1.all (Lib.goodD tt (.map e2)) = true ↔ _
    rw [List.all_eq_true]
    constructor
    · intro h k hk
      obtain ⟨p, hp, rfl⟩ := List.mem_map.1 hk
      have := h p hp
      unfold Lib.goodD tt at this
      rw [Bool.and_true] at this
      exact (m2 _).1 this
    · intro h p hp
      unfold Lib.goodD tt
      rw [Bool.and_true]
      exact (m2 _).2 (h p.1 (List.mem_map.2 ⟨p, hp, rfl⟩))
  rw [hall]
  constructor
  · rintro ⟨hl, hs⟩ k
    rw [m1, m2]
    refine ⟨hs k, fun hk => ?_⟩
    obtain ⟨R, hR⟩ := sub_len q1 hs
    have := hR.length_eq
    rw [List.length_append, List.length_map, List.length_map] at this
    obtain rfl : R = [] := List.eq_nil_of_length_eq_zero (by omega)
    rw [List.append_nil] at hR
    exact hR.mem_iff.1 hk
  · intro h
    have s1 : ∀ k ∈ e1.map (·.1), k ∈ e2.map (·.1) := fun k hk => (m2 k).1 ((h k).1 ((m1 k).2 hk))
    have s2 : ∀ k ∈ e2.map (·.1), k ∈ e1.map (·.1) := fun k hk => (m1 k).1 ((h k).2 ((m2 k).2 hk))
    obtain ⟨R, hR⟩ := sub_len q1 s1
    obtain ⟨S, hS⟩ := sub_len q2 s2
    have e3 := hR.length_eq
    have e4 := hS.length_eq
    rw [List.length_append, List.length_map, List.length_map] at e3 e4
    exact ⟨by omega, s1⟩
theorem tidy_set (l : List At) : Tidy (setD (H := Unit) l) := tidy_setOf _ _ (keys_of l)
theorem keys_fold : ∀ (acc : List Lit) (es : List (Lit × DataW Unit)), (∀ x ∈ acc, WideAt.IsKeyLit x) → (∀ p ∈ es, WideAt.IsKeyLit p.1) → ∃ es', acc.foldl (fun m x => m.put x sU) (DataW.map es) = .map es' ∧ ∀ p ∈ es', WideAt.IsKeyLit p.1
  | [], es, _, h => ⟨es, rfl, h⟩
  | x :: r, es, hk, h => by
    rw [List.foldl_cons]
    refine keys_fold r (DataW.insert (x, sU) (es.filter fun p => !p.1.sameKey x)) (fun y hy => hk y (by simp [hy])) (fun p hp => ?_)
    rcases Go.ChangeMaps.mem_insert_iff.1 hp with rfl | hp
    · exact hk _ (by simp)
    · exact h p (List.mem_filter.1 hp).1
theorem keysD_set (l : List At) : ∀ k ∈ keysD (setD l), WideAt.IsKeyLit k := by
  intro k hk
  obtain ⟨es, he, hp⟩ := keys_fold _ [] (keys_of l) (fun p hp => by simp at hp)
  have he2 : setD (H := Unit) l = .map es := he
  rw [he2] at hk
  obtain ⟨p, hp2, rfl⟩ := List.mem_map.1 (show k ∈ es.map (·.1) from hk)
  exact hp p hp2
theorem small_mem {r : List At} (h : SmallR r) {x : At} (hx : x ∈ r) : SmallA x := by
  obtain ⟨i, hi, rfl⟩ := List.mem_iff_getElem.1 hx
  have := h.2 i hi
  rwa [List.getD_eq_getElem?_getD, List.getElem?_eq_getElem hi] at this
theorem has_mem (l : List At) (k : Lit) : has (setD (H := Unit) l) k = true ↔ ∃ x ∈ l, fK (fa x) = k := by
  rw [has_setD, List.any_eq_true]
  constructor
  · rintro ⟨y, hy, hs⟩
    obtain ⟨x, hx, rfl⟩ := List.mem_map.1 hy
    exact ⟨x, hx, WideAt.sameKey_eq hs⟩
  · rintro ⟨x, hx, rfl⟩
    exact ⟨_, List.mem_map.2 ⟨x, hx, rfl⟩, WideAt.sameKey_self (fK_key _)⟩
theorem fa_size {x : At} (h : SmallA x) : (fa x).1.size ≤ maxLen ∧ (fa x).2.size ≤ maxLen := by
  have h1 := h.1
  have h2 := Nat.le_trans (foldS_size x.2.2) h.2
  unfold maxLen fa
  exact ⟨by show x.1.size ≤ _; omega, by show (foldS x.2.2).size ≤ _; omega⟩
theorem matchR_iff {r s : List At} (hr : SmallR r) (hs : SmallR s) (hl : r.length = s.length) : Lib.equalFuncD tt (setD r) (setD s) = decide (MatchR r s) := by
  rw [Bool.eq_iff_iff, decide_eq_true_iff, equal_iff (tidy_set r) (tidy_set s) (keysD_set r) (keysD_set s)]
  constructor
  · intro h
    refine ⟨hl, fun x hx => ?_, fun y hy => ?_⟩
    · obtain ⟨y, hy, e⟩ := (has_mem s _).1 ((h (fK (fa x))).1 ((has_mem r _).2 ⟨x, hx, rfl⟩))
      obtain ⟨b1, b2⟩ := fa_size (small_mem hr hx)
      obtain ⟨b3, b4⟩ := fa_size (small_mem hs hy)
      exact ⟨y, hy, fK_inj b3 b4 b1 b2 e⟩
    · obtain ⟨x, hx, e⟩ := (has_mem r _).1 ((h (fK (fa y))).2 ((has_mem s _).2 ⟨y, hy, rfl⟩))
      obtain ⟨b1, b2⟩ := fa_size (small_mem hr hx)
      obtain ⟨b3, b4⟩ := fa_size (small_mem hs hy)
      exact ⟨x, hx, fK_inj b1 b2 b3 b4 e⟩
  · intro h k
    rw [has_mem, has_mem]
    constructor
    · rintro ⟨x, hx, rfl⟩
      obtain ⟨y, hy, e⟩ := h.2.1 x hx
      exact ⟨y, hy, by rw [e]⟩
    · rintro ⟨y, hy, rfl⟩
      obtain ⟨x, hx, e⟩ := h.2.2 y hy
      exact ⟨x, hx, by rw [e]⟩

set_option maxRecDepth 100000 in
set_option maxHeartbeats 4000000 in
theorem mrel_any (a0 b0 : Option Addr) (c d n m : Nat) (r s : List At) (w : World) (h1 : ALies w a0 r) (h2 : ALies w b0 s) (hn : n = r.length) (hm : m = s.length) (hr : SmallR r) (hs : SmallR s) :
    Calls Tryz.prog 144 #[.slice a0 n c, .slice b0 m d] w fun e w' => e = .returned (.bool (decide (MatchR r s))) ∧ Below w.heap.size w w' := by
  by_cases hl : n = m
  · have HF := Lib.hid (matchR_iff hr hs (by omega))
    obtain ⟨v, hv⟩ : ∃ v, v = decide (MatchR r s) := ⟨_, rfl⟩
    rw [← hv] at HF ⊢
    have HS1 := Lib.hid (fset_any a0 c n r w h1 hn hr)
    have HS2 := Lib.hid (fun W (hb : Below w.heap.size w W) => fset_any b0 d m s W (h2.below hb) hm hs)
    have hd : ((n : Int) == (m : Int)) = true := beq_iff_eq.2 (by omega)
    clear h1 h2 hn hm hr hs hv hl
    go_enter Tryz.func144, Tryz.ntmps144
    go_wp2_with (first
      | (go_at_call 167; (with_reducible refine HS1.out.mono ?_); rintro e w1 ⟨rfl, ho1, hb1⟩; have HO1 := Lib.hid ho1; have HB1 := Lib.hid hb1; clear ho1 hb1)
      | (go_at_call 167; (with_reducible refine (HS2.out _ HB1.out).mono ?_); rintro e w2 ⟨rfl, ho2, hb2⟩; have HO2 := Lib.hid ho2; have HO1 := Lib.hid (HO1.out.kept (Below.only hb2) (by simp)); have HB2 := Lib.hid (below_next HB1.out hb2); clear ho2 hb2)
      | (go_at_call 166; (with_reducible refine (meq_any _ _ _ _ r s _ HO1.out HO2.out).mono ?_); rw [HF.out]; rintro e w3 ⟨rfl, hb3⟩; have HB3 := Lib.hid (below_next HB2.out hb3); clear hb3))
    go_ret
    exact ⟨rfl, HB3.out⟩
  · have e : decide (MatchR r s) = false := decide_eq_false (fun h => hl (by rw [hn, hm]; exact h.1))
    have hd : ((n : Int) == (m : Int)) = false := beq_eq_false_iff_ne.2 (by omega)
    rw [e]
    clear h1 h2 hn hm hr hs hl e
    go_enter Tryz.func144, Tryz.ntmps144
    go_wp2_with fail
    go_ret
    exact ⟨rfl, Below.refl _ _⟩
end Go.Proofs.YtbpdenfiifcfcaaGreatDoor
