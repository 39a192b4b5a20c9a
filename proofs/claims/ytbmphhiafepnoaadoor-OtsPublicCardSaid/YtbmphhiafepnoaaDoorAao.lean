/-
  The contracts of certpathmade's New and Next, with the one block that a deck writes: a number from 0 to n - 1; all other memory as it was.
  The contract of foldedSet: a map whose keys are the pairs of type and folded value of a relative name's attributes.
  What every card of this seat's laws over gname needs: how a slice of bytes is opened, how seven arguments are opened, and that the laws' functions only read what they are handed.
  Nothing is left of this text.
  A slice of numbers that can be read: its numbers lie at its address.
  What every card of this seat's laws over ots needs: the table of constants that the rows list.
-/
import Derived.Lib.Builder
import Derived.Test.YtbmphhiafepnoaaDoorAan
import Derived.Maps.Range
import Derived.Maps.AppendAt
import Derived.Maps.OwnSet
import Derived.Maps.RangeWalk
import Derived.Maps.Ext
import Derived.Lib.SlMapEqual
import Derived.DeepKeys4
import Derived.ProofKit
import Derived.Laws.IdiomRangeMap
import Derived.Test.YtbmphhiafepnoaaDoorCards
import Derived.Test.YtbmphhiafepnoaaDoorTie
import Derived.OpenShut
import Derived.Deep.DeepHandedRow
import Derived.Deep.DeepWitnessRowRef
import Derived.Lay
import Derived.Stop.LaidErr
import Derived.Test.YtbmphhiafepnoaaDoorAag
import Derived.Lib.LaidTab
namespace Go.Proofs.YtbmphhiafepnoaaDoor
open Go.RowKit

theorem Below.only {w w' : World} (h : Below w.heap.size w w') : w.grownBy w' none := ⟨h.os, h.tape, h.output, h.size, fun k hk _ => h.block k hk⟩
/-- But for block p, nothing that was there has changed. -/
def But (p : Nat) (w w' : World) : Prop := w.grownBy w' (some p)
theorem But.refl (p : Nat) (w : World) : But p w w := World.grownBy.refl w _
theorem But.of {p : Nat} {w w' : World} (h : Below w.heap.size w w') : But p w w' := ⟨h.os, h.tape, h.output, h.size, fun k hk _ => h.block k hk⟩
theorem But.next {p : Nat} {a b c : World} (h : But p a b) (k : But p b c) : But p a c := World.grownBy.trans h k
theorem But.drew {p : Nat} {a b : World} (h : But p a b) : But p a b.drew := ⟨h.os, h.tape, h.output, h.size, h.block⟩
theorem But.alloc {p : Nat} {a b : World} (h : But p a b) (o : Obj) : But p a (b.alloc o) := h.next (But.of (belowNew b o))
theorem But.below {p : Nat} {w w' : World} (h : But p w w') (hp : p ≤ w.heap.size) : Below p w w' :=
  ⟨h.os, h.tape, h.output, h.size, fun k hk => h.block k (by omega) (by simp; omega)⟩
theorem But.set (p j : Nat) (w : World) (v : Value) : But p w (w.setCell ⟨p, j, none⟩ v) :=
  ⟨rfl, rfl, rfl, by simp [World.setCell], fun k _ hne => Below.heap_setCell _ _ _ _ (by simpa using hne)⟩
/-- At the address lie the numbers zs. -/
def ILies (w : World) (a : Option Addr) (zs : List Int) : Prop := zs = [] ∨ ∃ b o, a = some ⟨b, o, none⟩ ∧ ∀ i, i < zs.length → w.cell? ⟨b, o + i, none⟩ = some (.int .i64 (zs.getD i 0))
theorem ILies.at {w : World} {a : Option Addr} {zs : List Int} (h : ILies w a zs) (k : Nat) (hk : k < zs.length) : ∃ b o, a = some ⟨b, o, none⟩ ∧ w.cell? ⟨b, o + k, none⟩ = some (.int .i64 (zs.getD k 0)) := by
  rcases h with h | ⟨b, o, h1, h2⟩
  · rw [h] at hk; exact absurd hk (Nat.not_lt_zero _)
  · exact ⟨b, o, h1, h2 k hk⟩
theorem ILies.below {w w' : World} {B : Nat} {a : Option Addr} {zs : List Int} (h : ILies w a zs) (hb : Below B w w') (hB : ∀ x, a = some x → zs ≠ [] → x.block < B) : ILies w' a zs := by
  rcases h with h | ⟨b, o, rfl, h⟩
  · exact .inl h
  · exact .inr ⟨b, o, rfl, fun i hi => (hb.cell (p := ⟨b, o + i, none⟩) (hB ⟨b, o, none⟩ rfl (fun e => by rw [e] at hi; exact absurd hi (Nat.not_lt_zero _)))).trans (h i hi)⟩
/-- A deck of the numbers zs in block p, at place k. -/
def DeckAt (w : World) (p : Nat) (a : Option Addr) (cap : Nat) (zs : List Int) (k : Nat) : Prop :=
  w.heap[p]? = some (.cells #[.slice a zs.length cap, .int .i64 (k : Int)] 54 (0, 0)) ∧ ILies w a zs ∧ (∀ x, a = some x → zs ≠ [] → x.block < p) ∧ k ≤ 30000 ∧ zs.length ≤ 9223372036854775807

set_option maxRecDepth 100000 in
set_option maxHeartbeats 1000000 in
theorem next_end (p : Nat) (a : Option Addr) (cap : Nat) (zs : List Int) (k : Nat) (N : Nat) (w : World) (h : DeckAt w p a cap zs k) (hk : zs.length ≤ k) :
    Calls Tryd.prog 38 #[.pointer (some ⟨p, 0, none⟩), .int .i64 (N : Int)] w fun e w' => e = .returned (.int .i64 0) ∧ DeckAt w' p a cap zs k ∧ But p w w' := by
  have HD := Lib.hid h
  obtain ⟨h1, _, _, _, h4⟩ := h
  obtain ⟨n, hn⟩ : ∃ n, n = zs.length := ⟨_, rfl⟩
  rw [← hn] at h1 hk h4
  have c0 : w.cell? ⟨p, 0, none⟩ = some (.slice a n cap) := by rw [Lib.cell_of_heap h1]; rfl
  have c1 : w.cell? ⟨p, 1, none⟩ = some (.int .i64 (k : Int)) := by rw [Lib.cell_of_heap h1]; rfl
  have d0 : decide ((n : Int) ≤ (k : Int)) = true := by simp; omega
  clear h1 hn
  go_enter Tryd.func38, Tryd.ntmps38
  go_wp2_with fail
  go_region
  go_wp2_with fail
  go_ret
  exact ⟨rfl, HD.out, (But.refl _ _).drew⟩
theorem next_num (z : Int) (N : Nat) (hN : 0 < N) (hN2 : N ≤ 1099511627776) : ∃ x y : Int, ∃ r : Nat, z.tmod (N : Int) = x ∧ -1099511627776 ≤ x ∧ x ≤ 1099511627776 ∧ x + (N : Int) = y ∧ 0 ≤ y ∧ y ≤ 2199023255552 ∧ y.tmod (N : Int) = (r : Int) ∧ r < N := by
  have hx1 : -(N : Int) < z.tmod (N : Int) := by
    have := Int.lt_tmod_of_pos z (show (0 : Int) < (N : Int) by omega)
    simpa using this
  have hx2 : z.tmod (N : Int) < (N : Int) := Int.tmod_lt_of_pos z (by omega)
  refine ⟨_, _, (z.tmod (N : Int) + (N : Int)).tmod (N : Int) |>.toNat, rfl, by omega, by omega, rfl, by omega, by omega, ?_, ?_⟩
  · have h1 : 0 ≤ (z.tmod (N : Int) + (N : Int)).tmod (N : Int) := Int.tmod_nonneg _ (by omega)
    omega
  · have h2 : (z.tmod (N : Int) + (N : Int)).tmod (N : Int) < (N : Int) := Int.tmod_lt_of_pos _ (by omega)
    omega

theorem deck_set {w : World} {p : Nat} {a : Option Addr} {cap : Nat} {zs : List Int} {k : Nat} (h : DeckAt w p a cap zs k) (hk : k < 30000) : DeckAt (w.setCell ⟨p, 1, none⟩ (.int .i64 ((k : Int) + 1))) p a cap zs (k + 1) := by
  obtain ⟨h1, h2, h3, _, h4⟩ := h
  refine ⟨?_, h2.below ((Below.refl p w).setCell (p := ⟨p, 1, none⟩) (Nat.le_refl _) _) h3, h3, by omega, h4⟩
  simp [World.setCell, Array.getElem?_modify, h1]
set_option maxRecDepth 100000 in
set_option maxHeartbeats 1000000 in
theorem next_more (p : Nat) (a : Option Addr) (cap : Nat) (zs : List Int) (k : Nat) (N : Nat) (w : World) (h : DeckAt w p a cap zs k) (hk : k < zs.length) (hk2 : k < 30000) (hN : 0 < N) (hN2 : N ≤ 1099511627776) :
    Calls Tryd.prog 38 #[.pointer (some ⟨p, 0, none⟩), .int .i64 (N : Int)] w fun e w' => (∃ r : Nat, r < N ∧ e = .returned (.int .i64 (r : Int))) ∧ DeckAt w' p a cap zs (k + 1) ∧ But p w w' := by
  have HD := Lib.hid h
  obtain ⟨h1, h2, h3, _, h4⟩ := h
  obtain ⟨b, o, ha, hc⟩ := h2.at k hk
  have hbp := h3 _ ha (fun e => by rw [e] at hk; exact absurd hk (Nat.not_lt_zero _))
  subst ha
  generalize zs.getD k 0 = z at hc
  obtain ⟨x, y, r, e1, x1, x2, e2, y1, y2, e3, hr⟩ := next_num z N hN hN2
  obtain ⟨n, hn⟩ : ∃ n, n = zs.length := ⟨_, rfl⟩
  rw [← hn] at h1 hk h4
  have c0 : w.cell? ⟨p, 0, none⟩ = some (.slice (some ⟨b, o, none⟩) n cap) := by rw [Lib.cell_of_heap h1]; rfl
  have c1 : w.cell? ⟨p, 1, none⟩ = some (.int .i64 (k : Int)) := by rw [Lib.cell_of_heap h1]; rfl
  have f1 : w.frozen? ⟨p, 1, none⟩ = false := Lib.frozen_of_heap h1 1
  have hne : b ≠ p := by simp at hbp; omega
  have d0 : decide ((n : Int) ≤ (k : Int)) = false := by simp; omega
  have HR := Lib.hid hr
  clear h1 hn h2 h3 hr hbp
  go_enter Tryd.func38, Tryd.ntmps38
  go_wp2_with fail
  go_region
  go_wp2_with fail
  go_region
  go_wp2_with fail
  go_ret
  exact ⟨⟨r, HR.out, rfl⟩, deck_set HD.out hk2, (But.set p 1 w _).drew.drew⟩

theorem next_any (p : Nat) (a : Option Addr) (cap : Nat) (zs : List Int) (k : Nat) (N : Nat) (w : World) (h : DeckAt w p a cap zs k) (hk2 : k < 30000) (hN : 0 < N) (hN2 : N ≤ 1099511627776) :
    Calls Tryd.prog 38 #[.pointer (some ⟨p, 0, none⟩), .int .i64 (N : Int)] w fun e w' => ∃ r k' : Nat, r < N ∧ e = .returned (.int .i64 (r : Int)) ∧ DeckAt w' p a cap zs k' ∧ k' ≤ k + 1 ∧ But p w w' := by
  by_cases hk : k < zs.length
  · exact (next_more p a cap zs k N w h hk hk2 hN hN2).mono fun e w' hh => by
      obtain ⟨⟨r, hr, he⟩, h1, h2⟩ := hh
      exact ⟨r, k + 1, hr, he, h1, Nat.le_refl _, h2⟩
  · exact (next_end p a cap zs k N w h (by omega)).mono fun e w' hh => ⟨0, k, hN, by rw [hh.1]; rfl, hh.2.1, by omega, hh.2.2⟩

set_option maxRecDepth 100000 in
theorem new_any (a : Option Addr) (cap : Nat) (zs : List Int) (w : World) (hl : ILies w a zs) (hz : zs.length ≤ 9223372036854775807) :
    Calls Tryd.prog 18 #[.slice a zs.length cap] w fun e w' => e = .returned (.pointer (some ⟨w.heap.size, 0, none⟩)) ∧ DeckAt w' w.heap.size a cap zs 0 ∧ Below w.heap.size w w' := by
  have ha : ∀ x, a = some x → zs ≠ [] → x.block < w.heap.size := by
    intro x hx hne
    rcases hl with h | ⟨b, o, h1, h2⟩
    · exact absurd h hne
    · obtain rfl := Option.some.inj (hx.symm.trans h1)
      exact block_lt_of_cell (h2 0 (List.length_pos_iff.2 hne))
  have HL := Lib.hid hl
  obtain ⟨n, hn⟩ : ∃ n, n = zs.length := ⟨_, rfl⟩
  have HN := Lib.hid hn
  rw [← hn]
  clear hl hn
  go_enter Tryd.func18, Tryd.ntmps18
  go_wp2_with fail
  go_ret
  have hb : Below w.heap.size w (w.alloc (.cells #[.slice a n cap, .int .i64 0] 54)) := (Below.refl _ _).alloc (Nat.le_refl _) _
  refine ⟨rfl, ⟨?_, HL.out.below hb ha, ha, by omega, hz⟩, hb⟩
  rw [← HN.out]
  exact heap_alloc_new w _
theorem DeckAt.lt {w : World} {p : Nat} {a : Option Addr} {cap : Nat} {zs : List Int} {k : Nat} (h : DeckAt w p a cap zs k) : p < w.heap.size := (Array.getElem?_eq_some_iff.1 h.1).1
/-- A call that leaves all old memory alone leaves the deck alone. -/
theorem DeckAt.below {w w' : World} {p : Nat} {a : Option Addr} {cap : Nat} {zs : List Int} {k : Nat} (h : DeckAt w p a cap zs k) (hb : Below w.heap.size w w') : DeckAt w' p a cap zs k := by
  have hp := h.lt
  obtain ⟨h1, h2, h3, h5, h4⟩ := h
  exact ⟨(hb.block p hp).trans h1, h2.below (hb.mono (Nat.le_of_lt hp)) h3, h3, h5, h4⟩
/-- Growth of a row of a block behind the deck's leaves the deck alone. -/
theorem DeckAt.grown {w w' : World} {p : Nat} {a : Option Addr} {cap : Nat} {zs : List Int} {k : Nat} {row : Option Nat} (h : DeckAt w p a cap zs k) (hg : w.grownBy w' row) (hr : ∀ j, row = some j → p < j) : DeckAt w' p a cap zs k := by
  have hp := h.lt
  obtain ⟨h1, h2, h3, h5, h4⟩ := h
  have hb : Below p w w' := ⟨hg.os, hg.tape, hg.output, hg.size, fun j hj => hg.block j (by omega) (fun e => by have := hr j e.symm; omega)⟩
  exact ⟨(hg.block p hp (fun e => by have := hr p e.symm; omega)).trans h1, h2.below hb h3, h3, h5, h4⟩
end Go.Proofs.YtbmphhiafepnoaaDoor
namespace Go.Proofs.YtbmphhiafepnoaaDoor
open Go.RowKit Go.Maps

theorem laidOut : laidOutB Tryd.prog = true := by kernel_rfl
end Go.Proofs.YtbmphhiafepnoaaDoor
namespace Go.Proofs.YtbmphhiafepnoaaDoor
open Go.ChangeShapes Go.WideShapes Go.ChangeAt Go.RowKit Go.ChangeMaps

theorem own : ownKnob Tryd.prog.godebug = none := by kernel_rfl

/-- What was handed in reads as it read, for a call that leaves old memory alone. -/
theorem below_trodAll {H : Type} {enc : TypeId × Value → H} {W W' : World} (hb : Below W.heap.size W W') :
    ∀ (ts : List TypeId) (vs : List Value) (ds : List (DataW H)) (ps : List MemPlace), (∀ t ∈ ts, Tryd.prog.readableRec t = true ∧ t < Tryd.prog.types.size) → (∀ x ∈ ps, x.block < W.heap.size) →
      DataW.TrodAll enc Tryd.prog W 0 (fun _ => true) true ts vs ds ps → DataW.TrodAll enc Tryd.prog W' 0 (fun b => decide (b < W.heap.size)) true ts vs ds ps := by
  intro ts
  induction ts with
  | nil => intro vs ds ps _ _ h; obtain ⟨rfl, rfl, rfl⟩ := trodAll_nil h; exact trodAll_mk0
  | cons t ts ih =>
    intro vs ds ps ht hp h
    obtain ⟨v, vs', d, ds', p, q, rfl, rfl, rfl, h1, h2⟩ := trodAll_cons h
    exact trodAll_cons_mk (Below.trod laidOut (ht t (by simp)).1 (ht t (by simp)).2 h1 hb (fun x hx => hp x (by simp [hx]))) (ih vs' ds' q (fun u hu => ht u (by simp [hu])) (fun x hx => hp x (by simp [hx])) h2)

theorem trodAll_five {H : Type} {enc : TypeId × Value → H} {P : Program} {w : World} {base : Nat} {spare : Nat → Bool} {held : Bool} {t0 t1 t2 t3 t4 : TypeId} {args : Array Value} {ds : List (DataW H)} {ps : List MemPlace}
    (h : DataW.TrodAll enc P w base spare held [t0, t1, t2, t3, t4] args.toList ds ps) :
    ∃ v0 v1 v2 v3 v4 d0 d1 d2 d3 d4 p0 p1 p2 p3 p4, args = #[v0, v1, v2, v3, v4] ∧ ds = [d0, d1, d2, d3, d4] ∧ ps = p0 ++ (p1 ++ (p2 ++ (p3 ++ (p4)))) ∧ DataW.Trod enc P w base spare held t0 v0 d0 p0 ∧ DataW.Trod enc P w base spare held t1 v1 d1 p1 ∧ DataW.Trod enc P w base spare held t2 v2 d2 p2 ∧ DataW.Trod enc P w base spare held t3 v3 d3 p3 ∧ DataW.Trod enc P w base spare held t4 v4 d4 p4 := by
  obtain ⟨v0, vs1, d0, ds1, p0, ps1, e0, rfl, rfl, h0, k0⟩ := trodAll_cons h
  obtain ⟨v1, vs2, d1, ds2, p1, ps2, e1, rfl, rfl, h1, k1⟩ := trodAll_cons k0
  subst e1
  obtain ⟨v2, vs3, d2, ds3, p2, ps3, e2, rfl, rfl, h2, k2⟩ := trodAll_cons k1
  subst e2
  obtain ⟨v3, vs4, d3, ds4, p3, ps4, e3, rfl, rfl, h3, k3⟩ := trodAll_cons k2
  subst e3
  obtain ⟨v4, vs5, d4, ds5, p4, ps5, e4, rfl, rfl, h4, k4⟩ := trodAll_cons k3
  subst e4
  obtain ⟨rfl, rfl, rfl⟩ := trodAll_nil k4
  exact ⟨v0, v1, v2, v3, v4, d0, d1, d2, d3, d4, p0, p1, p2, p3, p4, Array.toList_inj.1 e0, rfl, by simp, h0, h1, h2, h3, h4⟩
end Go.Proofs.YtbmphhiafepnoaaDoor

namespace Go.Proofs.YtbmphhiafepnoaaDoor
open Go.ChangeShapes Go.WideShapes Go.ChangeAt Go.RowKit

set_option maxRecDepth 10000 in
theorem open_nums {H : Type} {enc : TypeId × Value → H} {W : World} {a0 : Option Addr} {len cap : Nat} {d : DataW H} {p : List MemPlace}
    (h : DataW.Trod enc Tryd.prog W 0 (fun _ => true) true 34 (.slice a0 len cap) d p) : ∃ zs : List Int, len = zs.length ∧ ILies W a0 zs ∧ zs.length ≤ 9223372036854775807 := by
  obtain ⟨fuel, hf⟩ := h
  have cb : Tryd.prog.cellsOf 3 = 1 := by kernel_rfl
  rcases open_ints Tryd.underlying34 Tryd.underlying3 cb hf with ⟨hcs, _⟩ | ⟨a, len', cap', zs, hcs, _, hl, hcm, hz, _, hcell, _⟩
  · simp [Value.cells] at hcs
    obtain ⟨rfl, rfl, rfl⟩ := hcs
    exact ⟨[], rfl, .inl rfl, by simp⟩
  · simp [Value.cells] at hcs
    obtain ⟨rfl, rfl, rfl⟩ := hcs
    by_cases h0 : len = 0
    · subst h0
      exact ⟨[], rfl, .inl rfl, by simp⟩
    · have hzl : len ≤ zs.length := by rw [hz]; simpa using hl
      obtain ⟨b, off, rfl, hc⟩ := ints_at hcell (by omega)
      have e : (zs.take len).length = len := by rw [List.length_take]; omega
      refine ⟨zs.take len, e.symm, .inr ⟨b, off, rfl, fun i hi => ?_⟩, by rw [e]; unfold maxLen at hcm; omega⟩
      rw [e] at hi
      rw [hc i (by omega)]
      congr 2
      rw [List.getD_eq_getElem?_getD, List.getD_eq_getElem?_getD, List.getElem?_take_of_lt hi]

end Go.Proofs.YtbmphhiafepnoaaDoor
namespace Go.Proofs.YtbmphhiafepnoaaDoor
open Go.ChangeShapes Go.WideShapes Go.ChangeAt Go.RowKit Go.ChangeMaps

theorem gTab : Tryd.prog.globalNamed Tryd.prog.globals[0]!.name = some 0 := by kernel_rfl
theorem gTabType : (Tryd.prog.globals[0]?).map (·.type) = some 63 := by kernel_rfl
theorem cellsTab : Tryd.prog.cellsOf 63 = 64 := by kernel_rfl
theorem cellsWord : Tryd.prog.cellsOf 58 = 1 := by kernel_rfl
def tabNums : List Int := [1116352408, 1899447441, 3049323471, 3921009573, 961987163, 1508970993, 2453635748, 2870763221, 3624381080, 310598401, 607225278, 1426881987, 1925078388, 2162078206, 2614888103, 3248222580, 3835390401, 4022224774, 264347078, 604807628, 770255983, 1249150122, 1555081692, 1996064986, 2554220882, 2821834349, 2952996808, 3210313671, 3336571891, 3584528711, 113926993, 338241895, 666307205, 773529912, 1294757372, 1396182291, 1695183700, 1986661051, 2177026350, 2456956037, 2730485921, 2820302411, 3259730800, 3345764771, 3516065817, 3600352804, 4094571909, 275423344, 430227734, 506948616, 659060556, 883997877, 958139571, 1322822218, 1537002063, 1747873779, 1955562222, 2024104815, 2227730452, 2361852424, 2428436474, 2756734187, 3204031479, 3329325298]
theorem tabNums_eq : tabNums = kWords.map u32 := by decide
/-- What the rows' list gives: the table's cells hold the constants. -/
theorem table {W : World} (h : laidMetH Tryd.prog Rows.otsSignRow.laid W) : Holds W 0 kWords := by
  have t : Lib.TabIs Tryd.prog W _ .u32 tabNums := Lib.tabIs_of_head (rest := []) gTab gTabType Tryd.underlying63 Tryd.underlying58 cellsWord cellsTab h
  intro i hi
  have hl : i < kWords.length := hi
  have hc := t.cell gTab i (by rw [tabNums_eq, List.length_map]; exact hl)
  rw [hc, tabNums_eq]
  simp [at32, hl]
theorem trodAll_six {H : Type} {enc : TypeId × Value → H} {P : Program} {w : World} {base : Nat} {spare : Nat → Bool} {held : Bool} {t0 t1 t2 t3 t4 t5 : TypeId} {args : Array Value} {ds : List (DataW H)} {ps : List MemPlace}
    (h : DataW.TrodAll enc P w base spare held [t0, t1, t2, t3, t4, t5] args.toList ds ps) :
    ∃ v0 v1 v2 v3 v4 v5 d0 d1 d2 d3 d4 d5 p0 p1 p2 p3 p4 p5, args = #[v0, v1, v2, v3, v4, v5] ∧ ds = [d0, d1, d2, d3, d4, d5] ∧ ps = p0 ++ (p1 ++ (p2 ++ (p3 ++ (p4 ++ (p5))))) ∧ DataW.Trod enc P w base spare held t0 v0 d0 p0 ∧ DataW.Trod enc P w base spare held t1 v1 d1 p1 ∧ DataW.Trod enc P w base spare held t2 v2 d2 p2 ∧ DataW.Trod enc P w base spare held t3 v3 d3 p3 ∧ DataW.Trod enc P w base spare held t4 v4 d4 p4 ∧ DataW.Trod enc P w base spare held t5 v5 d5 p5 := by
  obtain ⟨v0, vs1, d0, ds1, p0, ps1, e0, rfl, rfl, h0, k0⟩ := trodAll_cons h
  obtain ⟨v1, vs2, d1, ds2, p1, ps2, e1, rfl, rfl, h1, k1⟩ := trodAll_cons k0
  subst e1
  obtain ⟨v2, vs3, d2, ds3, p2, ps3, e2, rfl, rfl, h2, k2⟩ := trodAll_cons k1
  subst e2
  obtain ⟨v3, vs4, d3, ds4, p3, ps4, e3, rfl, rfl, h3, k3⟩ := trodAll_cons k2
  subst e3
  obtain ⟨v4, vs5, d4, ds5, p4, ps5, e4, rfl, rfl, h4, k4⟩ := trodAll_cons k3
  subst e4
  obtain ⟨v5, vs6, d5, ds6, p5, ps6, e5, rfl, rfl, h5, k5⟩ := trodAll_cons k4
  subst e5
  obtain ⟨rfl, rfl, rfl⟩ := trodAll_nil k5
  exact ⟨v0, v1, v2, v3, v4, v5, d0, d1, d2, d3, d4, d5, p0, p1, p2, p3, p4, p5, Array.toList_inj.1 e0, rfl, by simp, h0, h1, h2, h3, h4, h5⟩
end Go.Proofs.YtbmphhiafepnoaaDoor
