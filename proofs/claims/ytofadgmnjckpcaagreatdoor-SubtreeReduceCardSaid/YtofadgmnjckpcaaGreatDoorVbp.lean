/-
  The walk of the law SubtreeReduce: for every slice of ints, reduced state and general name it returns true, and leaves all that was there as it was.
-/
import Derived.Test.YtofadgmnjckpcaaGreatDoorVbm
import Derived.Test.YtofadgmnjckpcaaGreatDoorVbn
import Derived.Test.YtofadgmnjckpcaaGreatDoorVbo
import Derived.Test.YtofadgmnjckpcaaGreatDoorVbk
import Derived.Test.YtofadgmnjckpcaaGreatDoorVbl
import Derived.Test.YtofadgmnjckpcaaGreatDoorVbe
import Derived.Test.YtofadgmnjckpcaaGreatDoorVao
import Derived.Deep.CutRange
import Derived.Deep.DeepCutAuto
import Derived.Deep.RegionWith
import Derived.Deep.RegionHeld3
import Derived.Lib.QuietBelow
import Derived.BigQuiet
namespace Go.Proofs.YtofadgmnjckpcaaGreatDoor
open Go.RowKit

/-- A name that lies where the state's names lie, whatever else is written. -/
def QK (B : Nat) (w : World) (a : Option Addr) (n : Nm) : Prop := KeptT TN B w (fun W => RLies W a n)
theorem QK.rl {B p : Nat} {w wr : World} {a : Option Addr} {n : Nm} (h : QK B w a n) (hb : But p w wr) (hp : p < B) : RLies wr a n := (KeptT.low h hb hp).now
theorem QK.below {B : Nat} {w wr : World} {a : Option Addr} {n : Nm} (h : QK B w a n) (hb : Below w.heap.size w wr) : RLies wr a n := (KeptT.below h hb).now
theorem RowQ.but {Q : Option Addr → Nm → Prop} {w w' : World} {p B : Nat} {v : Value} {l : List Gn} (h : RowQ Q w B v l) (hb : But p w w') (hB : p < B) : RowQ Q w' B v l := by
  obtain ⟨ss, h1, h2, h3⟩ := h
  exact ⟨ss, h1, own_but h2 hb hB, h3⟩
/-- The two reduced states, in the cells of blocks ga and gb. -/
structure Rsm (w5 wr : World) (p : Nat) (a : Option Addr) (cap : Nat) (zs : List Int) (B ga gb : Nat) (uL uP uE vL vP vE : Value) (LL : List Int) (P E : List Gn) (k : Nat) : Prop where
  ra : wr.heap[ga]? = some (.cells #[uL, uP, uE] 53 (0, 0))
  rb : wr.heap[gb]? = some (.cells #[vL, vP, vE] 53 (0, 0))
  aL : OwnZ wr B uL LL
  aP : OwnG wr B uP P
  aE : OwnG wr B uE E
  bL : OwnZ wr B vL LL
  bP : RowQ (QK B w5) wr B vP P
  bE : RowQ (QK B w5) wr B vE E
  dk : DeckAt wr p a cap zs k
  bp : But p w5 wr
  pB : p < B
  Ba : B ≤ ga
  Bb : B ≤ gb
theorem Rsm.call {w5 wr w6 : World} {p : Nat} {a : Option Addr} {cap : Nat} {zs : List Int} {B ga gb : Nat} {uL uP uE vL vP vE : Value} {LL : List Int} {P E : List Gn} {k k5 : Nat} (h : Rsm w5 wr p a cap zs B ga gb uL uP uE vL vP vE LL P E k) (hb : But p wr w6) (hd : DeckAt w6 p a cap zs k5) : Rsm w5 w6 p a cap zs B ga gb uL uP uE vL vP vE LL P E k5 := by
  have := h.pB; have := h.Ba; have := h.Bb
  exact ⟨(hb.block _ (Array.getElem?_eq_some_iff.1 h.ra).1 (by simp; omega)).trans h.ra, (hb.block _ (Array.getElem?_eq_some_iff.1 h.rb).1 (by simp; omega)).trans h.rb, own_but h.aL hb h.pB, h.aP.but hb h.pB, h.aE.but hb h.pB, own_but h.bL hb h.pB, h.bP.but hb h.pB, h.bE.but hb h.pB, hd, h.bp.next hb, h.pB, h.Ba, h.Bb⟩
theorem Rsm.below {w5 wr w6 : World} {p : Nat} {a : Option Addr} {cap : Nat} {zs : List Int} {B ga gb : Nat} {uL uP uE vL vP vE : Value} {LL : List Int} {P E : List Gn} {k : Nat} (h : Rsm w5 wr p a cap zs B ga gb uL uP uE vL vP vE LL P E k) (hb : Below wr.heap.size wr w6) : Rsm w5 w6 p a cap zs B ga gb uL uP uE vL vP vE LL P E k :=
  ⟨(hb.block _ (Array.getElem?_eq_some_iff.1 h.ra).1).trans h.ra, (hb.block _ (Array.getElem?_eq_some_iff.1 h.rb).1).trans h.rb, own_below h.aL hb, h.aP.below hb, h.aE.below hb, own_below h.bL hb, h.bP.below hb, h.bE.below hb, h.dk.below hb, h.bp.next (But.of hb), h.pB, h.Ba, h.Bb⟩
theorem rowq_glies {Q : Option Addr → Nm → Prop} {w : World} {B : Nat} {a : Option Addr} {k c : Nat} {l : List Gn} (h : RowQ Q w B (.slice a k c) l) (hQ : ∀ a n, Q a n → RLies w a n) : GLies w a l := by
  obtain ⟨a', c', e, _, hl⟩ := h.lies
  rw [(slice_inj e).1]; exact hl.mono hQ
theorem cell_set_ne {w : World} {g b j : Nat} {u v : Value} (h : w.cell? ⟨g, 0, none⟩ = some v) (hne : ¬ g = b) : (w.setCell ⟨b, j, none⟩ u).cell? ⟨g, 0, none⟩ = some v := by
  simp only [World.cell?] at h ⊢
  rw [show (w.setCell ⟨b, j, none⟩ u).heap[g]? = w.heap[g]? by simp [World.setCell, Array.getElem?_modify, Ne.symm hne]]
  exact h
theorem cell_alloc_s {w : World} {g : Nat} {o : Obj} {v : Value} (h : w.cell? ⟨g, 0, none⟩ = some v) : (w.alloc o).cell? ⟨g, 0, none⟩ = some v := ((belowNew w o).cell (block_lt h)).trans h
theorem one_new {w6 w7 : World} (h : Below (w6.alloc (.cells #[.slice none 0 0, .slice none 0 0, .slice none 0 0] 53)).heap.size (w6.alloc (.cells #[.slice none 0 0, .slice none 0 0, .slice none 0 0] 53)) w7) : (w7.cell? ⟨w6.heap.size, 0, none⟩ = some (.slice none 0 0) ∧ w7.cell? ⟨w6.heap.size, 1, none⟩ = some (.slice none 0 0) ∧ w7.cell? ⟨w6.heap.size, 2, none⟩ = some (.slice none 0 0) ∧ w7.frozen? ⟨w6.heap.size, 0, none⟩ = false ∧ w7.frozen? ⟨w6.heap.size, 1, none⟩ = false ∧ w7.frozen? ⟨w6.heap.size, 2, none⟩ = false ∧ w6.heap.size < w7.heap.size) ∧ ¬ w6.heap.size = w7.heap.size ∧ ¬ w7.heap.size = w6.heap.size ∧ Hid (w7.heap[w6.heap.size]? = some (.cells #[.slice none 0 0, .slice none 0 0, .slice none 0 0] 53 (0, 0))) ∧ Hid (Below w6.heap.size w6 w7) := by
  have h9 : w7.heap[w6.heap.size]? = some (.cells #[.slice none 0 0, .slice none 0 0, .slice none 0 0] 53 (0, 0)) := (h.block w6.heap.size (by simp)).trans (heap_alloc_new w6 _)
  have hf := at_facts h9
  have hl : w6.heap.size < w7.heap.size := hf.2.2.2.2.2.2
  exact ⟨hf, by omega, by omega, Lib.hid h9, Lib.hid (below_next (belowNew w6 _) h)⟩
theorem two_new {w6 w7 : World} (h : Below ((w6.alloc (.cells #[.slice none 0 0, .slice none 0 0, .slice none 0 0] 53)).alloc (.cells #[.slice none 0 0, .slice none 0 0, .slice none 0 0] 53)).heap.size ((w6.alloc (.cells #[.slice none 0 0, .slice none 0 0, .slice none 0 0] 53)).alloc (.cells #[.slice none 0 0, .slice none 0 0, .slice none 0 0] 53)) w7) : ∃ G1, w6.heap.size + 1 = G1 ∧ (w7.cell? ⟨w6.heap.size, 0, none⟩ = some (.slice none 0 0) ∧ w7.cell? ⟨w6.heap.size, 1, none⟩ = some (.slice none 0 0) ∧ w7.cell? ⟨w6.heap.size, 2, none⟩ = some (.slice none 0 0) ∧ w7.frozen? ⟨w6.heap.size, 0, none⟩ = false ∧ w7.frozen? ⟨w6.heap.size, 1, none⟩ = false ∧ w7.frozen? ⟨w6.heap.size, 2, none⟩ = false ∧ w6.heap.size < w7.heap.size) ∧ (w7.cell? ⟨G1, 0, none⟩ = some (.slice none 0 0) ∧ w7.cell? ⟨G1, 1, none⟩ = some (.slice none 0 0) ∧ w7.cell? ⟨G1, 2, none⟩ = some (.slice none 0 0) ∧ w7.frozen? ⟨G1, 0, none⟩ = false ∧ w7.frozen? ⟨G1, 1, none⟩ = false ∧ w7.frozen? ⟨G1, 2, none⟩ = false ∧ G1 < w7.heap.size) ∧ (¬ w6.heap.size = G1 ∧ ¬ G1 = w6.heap.size) ∧ Hid (w7.heap[w6.heap.size]? = some (.cells #[.slice none 0 0, .slice none 0 0, .slice none 0 0] 53 (0, 0))) ∧ Hid (w7.heap[G1]? = some (.cells #[.slice none 0 0, .slice none 0 0, .slice none 0 0] 53 (0, 0))) ∧ Hid (Below w6.heap.size w6 w7) ∧ Hid (w6.heap.size ≤ G1) := by
  have h9 : w7.heap[w6.heap.size]? = some (.cells #[.slice none 0 0, .slice none 0 0, .slice none 0 0] 53 (0, 0)) := (h.block w6.heap.size (by simp; omega)).trans ((heap_first w6 _ _).trans (heap_alloc_new w6 _))
  have h8 : w7.heap[w6.heap.size + 1]? = some (.cells #[.slice none 0 0, .slice none 0 0, .slice none 0 0] 53 (0, 0)) := (h.block (w6.heap.size + 1) (by simp)).trans (heap_second w6 _ _ _)
  exact ⟨_, rfl, at_facts h9, at_facts h8, ⟨by omega, by omega⟩, Lib.hid h9, Lib.hid h8, Lib.hid (below_next (belowTwo w6 _ _) h), Lib.hid (by omega)⟩
theorem zstep {w6 w7 : World} {g : Nat} (h : w6.heap[g]? = some (.cells #[.slice none 0 0, .slice none 0 0, .slice none 0 0] 53 (0, 0))) (hb : Below w6.heap.size w6 w7) : (w7.cell? ⟨g, 0, none⟩ = some (.slice none 0 0) ∧ w7.cell? ⟨g, 1, none⟩ = some (.slice none 0 0) ∧ w7.cell? ⟨g, 2, none⟩ = some (.slice none 0 0) ∧ w7.frozen? ⟨g, 0, none⟩ = false ∧ w7.frozen? ⟨g, 1, none⟩ = false ∧ w7.frozen? ⟨g, 2, none⟩ = false ∧ g < w7.heap.size) ∧ (¬ g = w7.heap.size ∧ ¬ w7.heap.size = g) ∧ Hid (w7.heap[g]? = some (.cells #[.slice none 0 0, .slice none 0 0, .slice none 0 0] 53 (0, 0))) := by
  have h9 := (hb.block g (Array.getElem?_eq_some_iff.1 h).1).trans h
  have hf := at_facts h9
  have hl : g < w7.heap.size := hf.2.2.2.2.2.2
  exact ⟨hf, ⟨by omega, by omega⟩, Lib.hid h9⟩
/-- What lies besides the two cells' blocks. -/
structure Rpre (w5 wr : World) (p : Nat) (a : Option Addr) (cap : Nat) (zs : List Int) (B : Nat) (uL uP uE vL vP vE : Value) (LL : List Int) (P E : List Gn) (k : Nat) : Prop where
  aL : OwnZ wr B uL LL
  aP : OwnG wr B uP P
  aE : OwnG wr B uE E
  bL : OwnZ wr B vL LL
  bP : RowQ (QK B w5) wr B vP P
  bE : RowQ (QK B w5) wr B vE E
  dk : DeckAt wr p a cap zs k
  bp : But p w5 wr
  pB : p < B
  bs : B ≤ w5.heap.size
theorem Rpre.below {w5 wr : World} {p : Nat} {a : Option Addr} {cap : Nat} {zs : List Int} {B : Nat} {uL uP uE vL vP vE : Value} {LL : List Int} {P E : List Gn} {k : Nat} {w6 : World} (h : Rpre w5 wr p a cap zs B uL uP uE vL vP vE LL P E k) (hb : Below wr.heap.size wr w6) : Rpre w5 w6 p a cap zs B uL uP uE vL vP vE LL P E k :=
  ⟨own_below h.aL hb, h.aP.below hb, h.aE.below hb, own_below h.bL hb, h.bP.below hb, h.bE.below hb, h.dk.below hb, h.bp.next (But.of hb), h.pB, h.bs⟩
theorem Rpre.set {w5 wr : World} {p : Nat} {a : Option Addr} {cap : Nat} {zs : List Int} {B : Nat} {uL uP uE vL vP vE : Value} {LL : List Int} {P E : List Gn} {k : Nat} {g j : Nat} {v : Value} {cs : Array Value} {f : Nat × Nat} (h : Rpre w5 wr p a cap zs B uL uP uE vL vP vE LL P E k) (hc : wr.heap[g]? = some (.cells cs 53 f)) (hg : w5.heap.size ≤ g) : Rpre w5 (wr.setCell ⟨g, j, none⟩ v) p a cap zs B uL uP uE vL vP vE LL P E k := by
  have hs := But.set g j wr v
  have := h.pB
  have := h.bs
  exact ⟨own_apart h.aL hc (by decide) hs, h.aP.apart hc (by decide) (by decide) (by decide) hs, h.aE.apart hc (by decide) (by decide) (by decide) hs, own_apart h.bL hc (by decide) hs, h.bP.apart hc (by decide) hs, h.bE.apart hc (by decide) hs, h.dk.grown hs (fun j e => by obtain rfl := Option.some.inj e; omega), h.bp.fresh hs hg, h.pB, h.bs⟩
theorem Rpre.set3 {w5 wr : World} {p : Nat} {a : Option Addr} {cap : Nat} {zs : List Int} {B : Nat} {uL uP uE vL vP vE : Value} {LL : List Int} {P E : List Gn} {k : Nat} {g : Nat} {x y z a1 a2 a3 : Value} (h : Rpre w5 wr p a cap zs B uL uP uE vL vP vE LL P E k) (hc : wr.heap[g]? = some (.cells #[x, y, z] 53 (0, 0))) (hg : w5.heap.size ≤ g) : Rpre w5 (((wr.setCell ⟨g, 0, none⟩ a1).setCell ⟨g, 1, none⟩ a2).setCell ⟨g, 2, none⟩ a3) p a cap zs B uL uP uE vL vP vE LL P E k :=
  ((h.set hc hg).set (set3_a hc) hg).set (set3_b (set3_a hc)) hg
theorem Rpre.rsm {w5 wr : World} {p : Nat} {a : Option Addr} {cap : Nat} {zs : List Int} {B : Nat} {uL uP uE vL vP vE : Value} {LL : List Int} {P E : List Gn} {k : Nat} {ga gb : Nat} (h : Rpre w5 wr p a cap zs B uL uP uE vL vP vE LL P E k) (ra : wr.heap[ga]? = some (.cells #[uL, uP, uE] 53 (0, 0))) (rb : wr.heap[gb]? = some (.cells #[vL, vP, vE] 53 (0, 0))) (ha : w5.heap.size ≤ ga) (hb : w5.heap.size ≤ gb) : Rsm w5 wr p a cap zs B ga gb uL uP uE vL vP vE LL P E k :=
  ⟨ra, rb, h.aL, h.aP, h.aE, h.bL, h.bP, h.bE, h.dk, h.bp, h.pB, Nat.le_trans h.bs ha, Nat.le_trans h.bs hb⟩
theorem set_far3 {w : World} {g q : Nat} {x y z : Value} {o : Option Obj} (h : w.heap[q]? = o) (hne : g ≠ q) : (((w.setCell ⟨g, 0, none⟩ x).setCell ⟨g, 1, none⟩ y).setCell ⟨g, 2, none⟩ z).heap[q]? = o := set_other_s (set_other_s (set_other_s h hne) hne) hne
theorem rsm_two {w5 wr : World} {p : Nat} {a : Option Addr} {cap : Nat} {zs : List Int} {B : Nat} {uL uP uE vL vP vE : Value} {LL : List Int} {P E : List Gn} {k : Nat} (h : Rpre w5 wr p a cap zs B uL uP uE vL vP vE LL P E k) (hz : w5.heap.size ≤ wr.heap.size) : Rsm w5 ((wr.alloc (.cells #[uL, uP, uE] 53)).alloc (.cells #[vL, vP, vE] 53)) p a cap zs B wr.heap.size (wr.heap.size + 1) uL uP uE vL vP vE LL P E k :=
  (h.below (belowTwo wr _ _)).rsm ((heap_first wr _ _).trans (heap_alloc_new wr _)) (heap_second wr _ _ _) hz (Nat.le_succ_of_le hz)
theorem rsm_two' {w5 wr : World} {p : Nat} {a : Option Addr} {cap : Nat} {zs : List Int} {B : Nat} {uL uP uE vL vP vE : Value} {LL : List Int} {P E : List Gn} {k : Nat} (h : Rpre w5 wr p a cap zs B uL uP uE vL vP vE LL P E k) (hz : w5.heap.size ≤ wr.heap.size) : Rsm w5 ((wr.alloc (.cells #[vL, vP, vE] 53)).alloc (.cells #[uL, uP, uE] 53)) p a cap zs B (wr.heap.size + 1) wr.heap.size uL uP uE vL vP vE LL P E k :=
  (h.below (belowTwo wr _ _)).rsm (heap_second wr _ _ _) ((heap_first wr _ _).trans (heap_alloc_new wr _)) (Nat.le_succ_of_le hz) hz
theorem rsm_one {w5 wr : World} {p : Nat} {a : Option Addr} {cap : Nat} {zs : List Int} {B : Nat} {uL uP uE vL vP vE : Value} {LL : List Int} {P E : List Gn} {k : Nat} {g : Nat} (h : Rpre w5 wr p a cap zs B uL uP uE vL vP vE LL P E k) (hz : w5.heap.size ≤ wr.heap.size) (hc : wr.heap[g]? = some (.cells #[.slice none 0 0, .slice none 0 0, .slice none 0 0] 53 (0, 0))) (hg : w5.heap.size ≤ g) : Rsm w5 ((((wr.setCell ⟨g, 0, none⟩ uL).setCell ⟨g, 1, none⟩ uP).setCell ⟨g, 2, none⟩ uE).alloc (.cells #[vL, vP, vE] 53)) p a cap zs B g wr.heap.size uL uP uE vL vP vE LL P E k := by
  have hr := set3_c (a := uE) (set3_b (a := uP) (set3_a (a := uL) hc))
  have hb := belowNew (((wr.setCell ⟨g, 0, none⟩ uL).setCell ⟨g, 1, none⟩ uP).setCell ⟨g, 2, none⟩ uE) (.cells #[vL, vP, vE] 53)
  have hn := heap_alloc_new (((wr.setCell ⟨g, 0, none⟩ uL).setCell ⟨g, 1, none⟩ uP).setCell ⟨g, 2, none⟩ uE) (.cells #[vL, vP, vE] 53)
  exact ((h.set3 hc hg).below hb).rsm ((hb.block g (Array.getElem?_eq_some_iff.1 hr).1).trans hr) (by simpa using hn) hg hz
theorem rsm_one' {w5 wr : World} {p : Nat} {a : Option Addr} {cap : Nat} {zs : List Int} {B : Nat} {uL uP uE vL vP vE : Value} {LL : List Int} {P E : List Gn} {k : Nat} {g : Nat} (h : Rpre w5 wr p a cap zs B uL uP uE vL vP vE LL P E k) (hz : w5.heap.size ≤ wr.heap.size) (hc : wr.heap[g]? = some (.cells #[.slice none 0 0, .slice none 0 0, .slice none 0 0] 53 (0, 0))) (hg : w5.heap.size ≤ g) : Rsm w5 ((((wr.setCell ⟨g, 0, none⟩ vL).setCell ⟨g, 1, none⟩ vP).setCell ⟨g, 2, none⟩ vE).alloc (.cells #[uL, uP, uE] 53)) p a cap zs B wr.heap.size g uL uP uE vL vP vE LL P E k := by
  have hr := set3_c (a := vE) (set3_b (a := vP) (set3_a (a := vL) hc))
  have hb := belowNew (((wr.setCell ⟨g, 0, none⟩ vL).setCell ⟨g, 1, none⟩ vP).setCell ⟨g, 2, none⟩ vE) (.cells #[uL, uP, uE] 53)
  have hn := heap_alloc_new (((wr.setCell ⟨g, 0, none⟩ vL).setCell ⟨g, 1, none⟩ vP).setCell ⟨g, 2, none⟩ vE) (.cells #[uL, uP, uE] 53)
  exact ((h.set3 hc hg).below hb).rsm (by simpa using hn) ((hb.block g (Array.getElem?_eq_some_iff.1 hr).1).trans hr) hz hg
theorem rsm_none {w5 wr : World} {p : Nat} {a : Option Addr} {cap : Nat} {zs : List Int} {B : Nat} {uL uP uE vL vP vE : Value} {LL : List Int} {P E : List Gn} {k : Nat} {g f : Nat} (h : Rpre w5 wr p a cap zs B uL uP uE vL vP vE LL P E k) (hc : wr.heap[g]? = some (.cells #[.slice none 0 0, .slice none 0 0, .slice none 0 0] 53 (0, 0))) (hd : wr.heap[f]? = some (.cells #[.slice none 0 0, .slice none 0 0, .slice none 0 0] 53 (0, 0))) (hne : ¬ g = f) (hg : w5.heap.size ≤ g) (hf : w5.heap.size ≤ f) : Rsm w5 ((((((wr.setCell ⟨g, 0, none⟩ uL).setCell ⟨g, 1, none⟩ uP).setCell ⟨g, 2, none⟩ uE).setCell ⟨f, 0, none⟩ vL).setCell ⟨f, 1, none⟩ vP).setCell ⟨f, 2, none⟩ vE) p a cap zs B g f uL uP uE vL vP vE LL P E k :=
  ((h.set3 hc hg).set3 (set_far3 hd hne) hf).rsm (set_far3 (set3_c (set3_b (set3_a hc))) (Ne.symm hne)) (set3_c (set3_b (set3_a (set_far3 hd hne)))) hg hf
theorem three_rows {w : World} {G : Nat} {q0 q1 q2 : Int} {t0 t1 t2 : List UInt8} {a0 a1 a2 : Option Addr} {N0 N1 N2 c0 c1 c2 : Nat} {n0 n1 n2 : Nm} {T : TypeId} (h : w.heap[G]? = some (.cells #[.int .i64 q0, .string (strOf t0), .slice a0 N0 c0, .int .i64 q1, .string (strOf t1), .slice a1 N1 c1, .int .i64 q2, .string (strOf t2), .slice a2 N2 c2] T (0, 0)))
    (h0 : RowF w q0 t0 a0 N0 c0 n0) (h1 : RowF w q1 t1 a1 N1 c1 n1) (h2 : RowF w q2 t2 a2 N2 c2 n2) :
    ∀ i, i < 3 → ∃ (q7 : Int) (t7 : List UInt8) (a7 : Option Addr) (c7 N7 : Nat) (n7 : Nm), w.cell? ⟨G, i * 3, none⟩ = some (.int .i64 q7) ∧ w.cell? ⟨G, i * 3 + 1, none⟩ = some (.string (strOf t7)) ∧ w.cell? ⟨G, i * 3 + 2, none⟩ = some (.slice a7 N7 c7) ∧ RLies w a7 n7 ∧ N7 = n7.length ∧ N7 ≤ c7 ∧ SmG (q7, t7, n7) := fun i hi => by
  have e := fun j => Lib.cell_of_heap h j
  rcases (by omega : i = 0 ∨ i = 1 ∨ i = 2) with rfl | rfl | rfl
  · exact ⟨_, _, _, _, _, _, e 0, e 1, e 2, h0⟩
  · exact ⟨_, _, _, _, _, _, e 3, e 4, e 5, h1⟩
  · exact ⟨_, _, _, _, _, _, e 6, e 7, e 8, h2⟩
theorem smalln_at {l : List Gn} (h : SmL l) : ∀ i, i < l.length → SmallN (l.getD i noG).2.2 := fun _ hi => (h.at hi).2
set_option maxRecDepth 100000 in
set_option maxHeartbeats 16000000 in
theorem srlwlaw (ai a1 a2 ag al : Option Addr) (ci NI c1 c2 NA NB cg NG cl : Nat) (zr : List Int) (A B : List Gn) (q : Int) (t : List UInt8) (n : Nm) (zs : List Int) (w : World)
    (hi : ILies w ai zr) (hNI : NI = zr.length) (hz1 : NI ≤ 9223372036854775807) (h1 : GLies w a1 A) (h2 : GLies w a2 B) (hNA : NA = A.length) (hNB : NB = B.length) (hbA : BigL A) (hbB : BigL B)
    (hg : RLies w ag n) (hNG : NG = n.length) (hcg : NG ≤ cg) (hbg : BigG (q, t, n)) (hl : ILies w al zs) (hz : zs.length ≤ 9223372036854775807) (hmk : Mk w) (hsk : SkT w) :
    Calls Tryz.prog 5 #[.slice al zs.length cl, .agg #[.slice ai NI ci, .slice a1 NA c1, .slice a2 NB c2], .agg #[.int .i64 q, .string (strOf t), .slice ag NG cg]] w fun e w' => e = .returned (.bool true) ∧ Below w.heap.size w w' := by
  obtain ⟨W0, hW0⟩ : ∃ W0, W0 = (w.alloc (.cells #[.slice ai NI ci, .slice a1 NA c1, .slice a2 NB c2] 53)).alloc (.cells #[.int .i64 q, .string (strOf t), .slice ag NG cg] 32) := ⟨_, rfl⟩
  have hwr := hW0.symm
  have hb0 : Below w.heap.size w W0 := by rw [hW0]; exact belowTwo w _ _
  obtain ⟨x0, x1, x2, lx⟩ := three_facts (w := W0) (g := w.heap.size) (by rw [hW0, heap_first]; exact heap_alloc_new w _)
  obtain ⟨g0, g1, g2, lg⟩ := three_facts (w := W0) (g := w.heap.size + 1) (by rw [hW0]; exact heap_second w _ _ _)
  have HB0 := Lib.hid hb0
  have X0 := Lib.hid x0
  have X1 := Lib.hid x1
  have X2 := Lib.hid x2
  have G0 := Lib.hid g0
  have G1 := Lib.hid g1
  have G2 := Lib.hid g2
  have HAW := Lib.hid (fun V (hb : Below W0.heap.size W0 V) => awake_core V ((hmk.below hb0).below hb))
  have HMX := Lib.hid (fun V (hb : Below W0.heap.size W0 V) => (hmk.below hb0).below hb)
  have HSK := Lib.hid (fun V (hb : Below W0.heap.size W0 V) => (hsk.below hb0).below hb)
  have HS1 := Lib.hid (shorts_any a1 c1 NA A W0 (h1.below hb0) hNA (by rw [hNA]; exact hbA.1) hbA.2)
  have HS2 := Lib.hid (fun V (hb : Below W0.heap.size W0 V) => shorts_any a2 c2 NB B V ((h2.below hb0).below hb) hNB (by rw [hNB]; exact hbB.1) hbB.2)
  have HS3 := Lib.hid (fun V (hb : Below W0.heap.size W0 V) => shortsone ag cg NG q t n V ((hg.below hb0).below hb) hNG hcg hbg)
  have HNW := Lib.hid (fun V (hb : Below W0.heap.size W0 V) => new_any al cl zs V (ints_below (ints_below hl hb0) hb) hz)
  have HI := Lib.hid (ints_below hi hb0)
  have HA := Lib.hid (h1.below hb0)
  have HB := Lib.hid (h2.below hb0)
  have HG := Lib.hid (hg.below hb0)
  have HNI := Lib.hid hNI
  have HNA := Lib.hid hNA
  have HNB := Lib.hid hNB
  have HNG := Lib.hid hNG
  have HCG := Lib.hid hcg
  clear hi hNI h1 h2 hNA hNB hbA hbB hg hNG hcg hbg hl hz hmk hsk hb0 hW0
  go_enter Tryz.func5, Tryz.ntmps5
  go_upto_region 1 with (fail)
  clear hwr
  go_wp2_with fail
  refine HS1.out.mono ?_
  rintro e w1 ⟨hS, hb1⟩
  have HB1 := Lib.hid hb1
  have y0 := (hb1.cell (p := ⟨w.heap.size, 0, none⟩) lx).trans X0.out
  have y1 := (hb1.cell (p := ⟨w.heap.size, 1, none⟩) lx).trans X1.out
  have y2 := (hb1.cell (p := ⟨w.heap.size, 2, none⟩) lx).trans X2.out
  clear hb1 HS1 x0 x1 x2 g0 g1 g2
  rcases hS with ⟨rfl, hSA⟩ | rfl
  case inr =>
    go_wp2_with (go_at_call 9; (with_reducible refine (HAW.out _ HB1.out).mono ?_); rintro e w2 ⟨rfl, hb2⟩; have HB2 := Lib.hid (below_next HB1.out hb2); clear hb2)
    go_ret
    exact ⟨rfl, below_next HB0.out HB2.out⟩
  have HSA := Lib.hid (show ShL A from hSA)
  clear hSA
  go_wp2_with fail
  refine (HS2.out w1 HB1.out).mono ?_
  rintro e w2 ⟨hS, hb2⟩
  have HB2 := Lib.hid (below_next HB1.out hb2)
  have y0 := (HB2.out.cell (p := ⟨w.heap.size, 0, none⟩) lx).trans X0.out
  clear hb2 HS2 y1 y2
  rcases hS with ⟨rfl, hSB⟩ | rfl
  case inr =>
    go_wp2_with (go_at_call 9; (with_reducible refine (HAW.out _ HB2.out).mono ?_); rintro e w3 ⟨rfl, hb3⟩; have HB3 := Lib.hid (below_next HB2.out hb3); clear hb3)
    go_ret
    exact ⟨rfl, below_next HB0.out HB3.out⟩
  have HSB := Lib.hid (show ShL B from hSB)
  clear hSB
  by_cases h10 : 10 < NI
  · have hd : decide ((10 : Int) < (NI : Int)) = true := by simp; omega
    have hd2 : decide (10 < NI) = true := by simp; omega
    clear h10
    go_wp2_with (go_at_call 9; (with_reducible refine (HAW.out _ HB2.out).mono ?_); rintro e w3 ⟨rfl, hb3⟩; have HB3 := Lib.hid (below_next HB2.out hb3); clear hb3)
    go_ret
    exact ⟨rfl, below_next HB0.out HB3.out⟩
  have hd : decide ((10 : Int) < (NI : Int)) = false := by simp; omega
  have hd2 : decide (10 < NI) = false := by simp; omega
  have HNI10 := Lib.hid (show NI ≤ 10 by omega)
  have y3 := (HB2.out.cell (p := ⟨w.heap.size + 1, 0, none⟩) lg).trans G0.out
  have y4 := (HB2.out.cell (p := ⟨w.heap.size + 1, 1, none⟩) lg).trans G1.out
  have y5 := (HB2.out.cell (p := ⟨w.heap.size + 1, 2, none⟩) lg).trans G2.out
  clear h10
  go_wp2_with fail
  refine (HS3.out w2 HB2.out).mono ?_
  rintro e w3 ⟨hS, hb3⟩
  have HB3 := Lib.hid (below_next HB2.out hb3)
  clear hb3 HS3 y0 y3 y4 y5 hd hd2
  rcases hS with ⟨rfl, hSh⟩ | rfl
  case inr =>
    go_wp2_with (go_at_call 9; (with_reducible refine (HAW.out _ HB3.out).mono ?_); rintro e w4 ⟨rfl, hb4⟩; have HB4 := Lib.hid (below_next HB3.out hb4); clear hb4)
    go_ret
    exact ⟨rfl, below_next HB0.out HB4.out⟩
  have HSG := Lib.hid (show SmG (q, t, n) from by
    have h9 : ShG (q, t, n) := hSh.2 0 (by simp)
    exact ⟨Nat.le_trans h9.1 (by omega), ShN.small h9.2⟩)
  clear hSh HB1 HB2
  go_wp2_with fail
  refine (HNW.out w3 HB3.out).mono ?_
  rintro e w4 ⟨rfl, hd3, hb3⟩
  have HBN := Lib.hid (below_next HB3.out hb3)
  obtain ⟨p, hp⟩ : ∃ p, p = w3.heap.size := ⟨_, rfl⟩
  rw [← hp] at hd3 ⊢
  have hp0 : W0.heap.size ≤ p := by rw [hp]; exact HB3.out.size
  have HBW := Lib.hid (fun V (h : But p w4 V) => show Below W0.heap.size W0 V from HBN.out.trans ((h.below (Nat.le_of_lt hd3.lt)).mono hp0))
  have HD3 := Lib.hid hd3
  clear hd3 hb3 hp HNW HB3
  have HST := Lib.hid (state_any p al cl zs 0 w4 HD3.out (by omega))
  go_upto_region 5 with (go_at_call 11; (with_reducible refine HST.out.mono ?_); rintro e w5 ⟨v, L, k4, hL4, hG, rfl, ho, hd4, hk4, hb4⟩; obtain ⟨av, cv, rfl, _, _⟩ := ho.lies; have HGB := Lib.hid hG; have HL4 := Lib.hid hL4; have HO4 := Lib.hid ho; have HD4 := Lib.hid hd4; have HK4 := Lib.hid hk4; have HB4 := Lib.hid hb4; clear ho hd4 hk4 hb4 hG hL4)
  obtain ⟨NL, hNL⟩ : ∃ NL, NL = L.length := ⟨_, rfl⟩
  have HNL := Lib.hid hNL
  rw [← hNL] at HO4 HL4 ⊢
  obtain ⟨W5, hW5⟩ : ∃ W5, W5 = w5.alloc (.cells #[.slice av NL cv] 24) := ⟨_, rfl⟩
  have hb5 : Below w5.heap.size w5 W5 := by rw [hW5]; exact belowNew w5 _
  obtain ⟨gS, hgS⟩ : ∃ gS, gS = w5.heap.size := ⟨_, rfl⟩
  have hq5 : W5.heap[gS]? = some (.cells #[.slice av NL cv] 24 (0, 0)) := by rw [hW5, hgS]; exact heap_alloc_new w5 _
  have HQ5 := Lib.hid hq5
  obtain ⟨s0, _, lS⟩ := one_facts hq5
  rw [← hW5, ← hgS]
  obtain ⟨BB, hBB⟩ : ∃ BB, BB = w4.heap.size := ⟨_, rfl⟩
  rw [← hBB] at HO4
  have hpB : p < BB := by rw [hBB]; exact HD3.out.lt
  have hBS : BB ≤ gS := by rw [hBB, hgS]; exact HB4.out.size
  have HO5 := Lib.hid (HO4.out.below hb5)
  have HD5 := Lib.hid (HD4.out.below hb5)
  have HB5 := Lib.hid (HB4.out.next (But.of hb5))
  have HOK := Lib.hid (genB_ok HGB.out (by rw [← HNL.out]; exact Nat.le_trans HL4.out (by omega)))
  have HZL := Lib.hid (show ∀ s ∈ L, s.1.length ≤ 100 ∧ s.2.length ≤ 100 from fun s hs => ⟨Nat.le_trans (HGB.out s hs).1 (by omega), Nat.le_trans (HGB.out s hs).2.1 (by omega)⟩)
  have HW5B := Lib.hid (HBW.out W5 HB5.out)
  have HRD0 := Lib.hid (fun V (hb : Below W5.heap.size W5 V) => reduce_core (fun a n => RLies V a n) av cv NL L V (by
    obtain ⟨a', c', e', _, hl⟩ := (HO5.out.below hb).liesQ (fun a k c n h => own_rl_s h)
    rw [(slice_inj e').1]; exact hl) (fun V hV a n h => h.below hV) HNL.out (by have := HL4.out; omega) HZL.out HOK.out.1 (HMX.out V (below_next HW5B.out hb)) (HSK.out V (below_next HW5B.out hb)))
  have HRR0 := Lib.hid (fun V (hb : Below W5.heap.size W5 V) => rreduce_core (QK BB W5) av cv NL L V (by
    obtain ⟨a', c', e', _, hl⟩ := HO5.out.liesQ (fun a k c n h => (show QK BB W5 a n from h.keptN))
    rw [(slice_inj e').1]; exact hl.below hb) (fun V2 hV a n h => h.below (below_next hb hV)) HNL.out (by have := HL4.out; omega) HZL.out HOK.out.1)
  have HRL := Lib.hid (red_len (L := L) (by rw [← HNL.out]; have := HL4.out; omega) HZL.out)
  have HRS := Lib.hid (red_sm (L := L) HOK.out.1)
  obtain ⟨LL, hLL⟩ : ∃ LL, LL = limitedG L := ⟨_, rfl⟩
  obtain ⟨PP, hPP⟩ : ∃ PP, PP = permG L := ⟨_, rfl⟩
  obtain ⟨EE, hEE⟩ : ∃ EE, EE = exclG L := ⟨_, rfl⟩
  rw [← hLL, ← hPP, ← hEE] at HRD0 HRR0 HRL
  rw [← hPP, ← hEE] at HRS
  obtain ⟨MI, hMI⟩ : ∃ MI, MI = LL.length := ⟨_, rfl⟩
  obtain ⟨MP, hMP⟩ : ∃ MP, MP = PP.length := ⟨_, rfl⟩
  obtain ⟨ME, hME⟩ : ∃ ME, ME = EE.length := ⟨_, rfl⟩
  have HMI := Lib.hid hMI
  have HMP := Lib.hid hMP
  have HME := Lib.hid hME
  rw [← hMI, ← hMP, ← hME] at HRL
  have HNE := Lib.hid (fun (w' : World) (hb : Below W5.heap.size W5 w') => (show (w'.cell? ⟨gS, 0, none⟩ = some (.slice av NL cv) ∧ ¬ gS = w'.heap.size ∧ ¬ w'.heap.size = gS ∧ ¬ gS = w'.heap.size + 1 ∧ ¬ w'.heap.size + 1 = gS) from by
    have h9 := (hb.cell (p := ⟨gS, 0, none⟩) lS).trans s0
    have h8 := hb.size
    exact ⟨h9, by omega, by omega, by omega, by omega⟩))
  have HRD := Lib.hid (fun V (hb : Below W5.heap.size W5 V) => (show Calls Tryz.prog 24 #[.agg #[.slice av NL cv]] V fun e w' => ∃ (aL aP aE : Option Addr) (cL cP cE : Nat), e = .returned (.agg #[.slice aL MI cL, .slice aP MP cP, .slice aE ME cE]) ∧ (w'.cell? ⟨gS, 0, none⟩ = some (.slice av NL cv) ∧ ¬ gS = w'.heap.size ∧ ¬ w'.heap.size = gS ∧ ¬ gS = w'.heap.size + 1 ∧ ¬ w'.heap.size + 1 = gS) ∧ Hid (OwnZ w' W5.heap.size (.slice aL MI cL) LL) ∧ Hid (OwnG w' W5.heap.size (.slice aP MP cP) PP) ∧ Hid (OwnG w' W5.heap.size (.slice aE ME cE) EE) ∧ Hid (Below W5.heap.size W5 w') ∧ Below V.heap.size V w' from
    (HRD0.out V hb).mono (fun e w' hh => by
      obtain ⟨u, v, x, rfl, o1, o2, o3, hb2⟩ := hh
      obtain ⟨aL, cL, hvL, _, _⟩ := o1.lies
      obtain ⟨aP, cP, hvP, _, _⟩ := o2.lies
      obtain ⟨aE, cE, hvE, _, _⟩ := o3.lies
      rw [← HMI.out] at hvL
      rw [← HMP.out] at hvP
      rw [← HME.out] at hvE
      subst hvL hvP hvE
      have hbx := below_next hb hb2
      exact ⟨aL, aP, aE, cL, cP, cE, rfl, HNE.out w' hbx, Lib.hid (own_base o1 hb.size), Lib.hid (o2.base hb.size), Lib.hid (o3.base hb.size), Lib.hid hbx, hb2⟩)))
  have HRR := Lib.hid (fun V (hb : Below W5.heap.size W5 V) => (show Calls Tryz.prog 25 #[.agg #[.slice av NL cv]] V fun e w' => ∃ (bL bP bE : Option Addr) (dL dP dE : Nat), e = .returned (.agg #[.slice bL MI dL, .slice bP MP dP, .slice bE ME dE]) ∧ (w'.cell? ⟨gS, 0, none⟩ = some (.slice av NL cv) ∧ ¬ gS = w'.heap.size ∧ ¬ w'.heap.size = gS ∧ ¬ gS = w'.heap.size + 1 ∧ ¬ w'.heap.size + 1 = gS) ∧ Hid (OwnZ w' W5.heap.size (.slice bL MI dL) LL) ∧ Hid (RowQ (QK BB W5) w' W5.heap.size (.slice bP MP dP) PP) ∧ Hid (RowQ (QK BB W5) w' W5.heap.size (.slice bE ME dE) EE) ∧ Below V.heap.size V w' from
    (HRR0.out V hb).mono (fun e w' hh => by
      obtain ⟨u, v, x, rfl, o1, o2, o3, hb2⟩ := hh
      obtain ⟨aL, cL, hvL, _, _⟩ := o1.lies
      obtain ⟨aP, cP, hvP, _⟩ := o2.lies'
      obtain ⟨aE, cE, hvE, _⟩ := o3.lies'
      rw [← HMI.out] at hvL
      rw [← HMP.out] at hvP
      rw [← HME.out] at hvE
      subst hvL hvP hvE
      exact ⟨aL, aP, aE, cL, cP, cE, rfl, HNE.out w' (below_next hb hb2), Lib.hid (own_base o1 hb.size), Lib.hid (o2.base hb.size), Lib.hid (o3.base hb.size), hb2⟩)))
  clear hMI hMP hME hLL hPP hEE hNL hW5 hgS hBB hb5 hq5 HO4 HD4 HB4 HD3 HST HSK HRD0 HRR0 HNE
  have m1 : ¬ gS = W5.heap.size := by omega
  have m1' : ¬ W5.heap.size = gS := by omega
  have m2 : ¬ gS = W5.heap.size + 1 := by omega
  have m2' : ¬ W5.heap.size + 1 = gS := by omega
  have hlw : BB ≤ W5.heap.size := by omega
  go_cut [9, 10] (fun s9 s10 wx => ∃ (ga gb : Nat) (aL aP aE bL bP bE : Option Addr) (cL cP cE dL dP dE : Nat), s9 = .pointer (some ⟨ga, 0, none⟩) ∧ s10 = .pointer (some ⟨gb, 0, none⟩) ∧ Rsm W5 wx p al cl zs BB ga gb (.slice aL MI cL) (.slice aP MP cP) (.slice aE ME cE) (.slice bL MI dL) (.slice bP MP dP) (.slice bE ME dE) LL PP EE k4)
  case first =>
    clear X0 X1 X2 G0 G1 G2 HAW HMX HI HA HB HG HNI HNA HNB HNG HCG HSA HSB HNI10 HSG HBN HBW HGB HL4 HK4 HNL HO5 HOK HZL HW5B HRL HRS HQ5 HB0 hp0 lx lg hz1
    go_region_held3 (fun w' => w'.cell? ⟨gS, 0, none⟩ = some (.slice av NL cv)) (first | with_reducible assumption | with_reducible exact cell_alloc_s s1 | with_reducible exact cell_alloc_s (cell_alloc_s s1) | with_reducible exact cell_alloc_s s2 | with_reducible exact cell_alloc_s (cell_alloc_s s2) | with_reducible exact (cell_set_ne (cell_set_ne (cell_set_ne s2 (by assumption)) (by assumption)) (by assumption)) | with_reducible exact cell_set_ne (cell_set_ne (cell_set_ne (cell_set_ne (cell_set_ne (cell_set_ne s2 (by assumption)) (by assumption)) (by assumption)) (by assumption)) (by assumption)) (by assumption) | with_reducible exact (cell_set_ne (cell_set_ne (cell_set_ne (cell_alloc_s s2) (by assumption)) (by assumption)) (by assumption)) | with_reducible exact cell_set_ne (cell_set_ne (cell_set_ne (cell_set_ne (cell_set_ne (cell_set_ne (cell_alloc_s s2) (by assumption)) (by assumption)) (by assumption)) (by assumption)) (by assumption)) (by assumption) | with_reducible exact (cell_set_ne (cell_set_ne (cell_set_ne (cell_alloc_s (cell_alloc_s s2)) (by assumption)) (by assumption)) (by assumption)) | with_reducible exact cell_set_ne (cell_set_ne (cell_set_ne (cell_set_ne (cell_set_ne (cell_set_ne (cell_alloc_s (cell_alloc_s s2)) (by assumption)) (by assumption)) (by assumption)) (by assumption)) (by assumption)) (by assumption) | go_keep)
      (first
        | (go_at_call 24; (with_reducible refine (HRD.out _ (by first | with_reducible exact Below.refl _ _ | with_reducible exact (Below.refl _ _).drew | with_reducible exact belowNew _ _ | with_reducible exact (belowNew _ _).drew | with_reducible exact belowTwo _ _ _ | with_reducible exact (belowTwo _ _ _).drew | with_reducible exact (Below.refl _ _).drew.alloc (Nat.le_refl _) _)).mono ?_); rintro e w6 ⟨aL, aP, aE, cL, cP, cE, rfl, ⟨s1, n1, n1', n2, n2'⟩, HOL, HOP, HOE, HB6, hb6⟩; (first | (have hq : Below W5.heap.size W5 w6 := (by with_reducible exact hb6); clear hq) | (have hq : Below W5.drew.heap.size W5.drew w6 := (by with_reducible exact hb6); clear hq) | (have hq0 : Below (W5.alloc (.cells #[.slice none 0 0, .slice none 0 0, .slice none 0 0] 53)).drew.heap.size (W5.alloc (.cells #[.slice none 0 0, .slice none 0 0, .slice none 0 0] 53)).drew w6 := (by with_reducible exact hb6); have hq := below_next ((Below.refl _ (W5.alloc (.cells #[.slice none 0 0, .slice none 0 0, .slice none 0 0] 53))).drew) hq0; clear hq0; obtain ⟨_, p1, p1', H6A, _⟩ := one_new hq; clear hq) | (have hq0 : Below ((W5.alloc (.cells #[.slice none 0 0, .slice none 0 0, .slice none 0 0] 53)).alloc (.cells #[.slice none 0 0, .slice none 0 0, .slice none 0 0] 53)).drew.heap.size ((W5.alloc (.cells #[.slice none 0 0, .slice none 0 0, .slice none 0 0] 53)).alloc (.cells #[.slice none 0 0, .slice none 0 0, .slice none 0 0] 53)).drew w6 := (by with_reducible exact hb6); have hq := below_next ((Below.refl _ ((W5.alloc (.cells #[.slice none 0 0, .slice none 0 0, .slice none 0 0] 53)).alloc (.cells #[.slice none 0 0, .slice none 0 0, .slice none 0 0] 53))).drew) hq0; clear hq0; obtain ⟨G2, hG2, _, _, ⟨q3, q3'⟩, H6A, H6B, _, HG2⟩ := two_new hq; rw [hG2] at m2 m2' ⊢; clear hq hG2)); clear hb6)
        | (go_at_call 25; (with_reducible refine (HRR.out _ (below_next HB6.out (by first | with_reducible exact Below.refl _ _ | with_reducible exact (Below.refl _ _).drew | with_reducible exact belowNew _ _ | with_reducible exact (belowNew _ _).drew | with_reducible exact belowTwo _ _ _ | with_reducible exact (belowTwo _ _ _).drew | with_reducible exact (Below.refl _ _).drew.alloc (Nat.le_refl _) _))).mono ?_); rintro e w7 ⟨bL, bP, bE, dL, dP, dE, rfl, ⟨s2, n3, n3', n4, n4'⟩, HQL, HQP, HQE, hb7⟩; (first | (have hq : Below w6.heap.size w6 w7 := (by with_reducible exact hb7); have HB7 := Lib.hid hq; clear hq) | (have hq : Below (w6.alloc (.cells #[.slice none 0 0, .slice none 0 0, .slice none 0 0] 53)).heap.size (w6.alloc (.cells #[.slice none 0 0, .slice none 0 0, .slice none 0 0] 53)) w7 := (by with_reducible exact hb7); obtain ⟨⟨za0, za1, za2, za3, za4, za5, za6⟩, o1, o1', H7A, HB7⟩ := one_new hq; clear hq) | (have hq : Below ((w6.alloc (.cells #[.slice none 0 0, .slice none 0 0, .slice none 0 0] 53)).alloc (.cells #[.slice none 0 0, .slice none 0 0, .slice none 0 0] 53)).heap.size ((w6.alloc (.cells #[.slice none 0 0, .slice none 0 0, .slice none 0 0] 53)).alloc (.cells #[.slice none 0 0, .slice none 0 0, .slice none 0 0] 53)) w7 := (by with_reducible exact hb7); obtain ⟨G1, hG1, ⟨za0, za1, za2, za3, za4, za5, za6⟩, ⟨zb0, zb1, zb2, zb3, zb4, zb5, zb6⟩, ⟨q1, q1'⟩, H7A, H7B, HB7, HG1⟩ := two_new hq; rw [hG1] at n2 n2' ⊢; clear hq hG1)); (try (have hz := zstep H6A.out HB7.out; obtain ⟨⟨zd0, zd1, zd2, zd3, zd4, zd5, zd6⟩, ⟨r1, r1'⟩, H7P⟩ := hz)); (try (have hz := zstep H6B.out HB7.out; obtain ⟨⟨ze0, ze1, ze2, ze3, ze4, ze5, ze6⟩, ⟨r2, r2'⟩, H7Q⟩ := hz)); clear hb7))
    all_goals go_wp2_with fail
    all_goals go_meet
    all_goals
      have HPRE := Lib.hid (show Rpre W5 w7 p al cl zs BB (.slice aL MI cL) (.slice aP MP cP) (.slice aE ME cE) (.slice bL MI dL) (.slice bP MP dP) (.slice bE ME dE) LL PP EE k4 from
        ⟨own_base (own_below HOL.out HB7.out) hlw, (HOP.out.below HB7.out).base hlw, (HOE.out.below HB7.out).base hlw, own_base HQL.out hlw, HQP.out.base hlw, HQE.out.base hlw, HD5.out.below (below_next HB6.out HB7.out), But.of (below_next HB6.out HB7.out), hpB, hlw⟩)
      have hz6 : W5.heap.size ≤ w6.heap.size := HB6.out.size
      have hz7 : W5.heap.size ≤ w7.heap.size := Nat.le_trans hz6 HB7.out.size
    all_goals first
      | with_reducible exact ⟨_, _, aL, aP, aE, bL, bP, bE, cL, cP, cE, dL, dP, dE, rfl, rfl, rsm_two HPRE.out hz7⟩
      | with_reducible exact ⟨_, _, aL, aP, aE, bL, bP, bE, cL, cP, cE, dL, dP, dE, rfl, rfl, rsm_two' HPRE.out hz7⟩
      | with_reducible exact ⟨_, _, aL, aP, aE, bL, bP, bE, cL, cP, cE, dL, dP, dE, rfl, rfl, rsm_one HPRE.out hz7 H7A.out hz6⟩
      | with_reducible exact ⟨_, _, aL, aP, aE, bL, bP, bE, cL, cP, cE, dL, dP, dE, rfl, rfl, rsm_one' HPRE.out hz7 H7A.out hz6⟩
      | with_reducible exact ⟨_, _, aL, aP, aE, bL, bP, bE, cL, cP, cE, dL, dP, dE, rfl, rfl, rsm_one HPRE.out hz7 H7P.out (Nat.le_refl _)⟩
      | with_reducible exact ⟨_, _, aL, aP, aE, bL, bP, bE, cL, cP, cE, dL, dP, dE, rfl, rfl, rsm_one' HPRE.out hz7 H7P.out (Nat.le_refl _)⟩
      | with_reducible exact ⟨_, _, aL, aP, aE, bL, bP, bE, cL, cP, cE, dL, dP, dE, rfl, rfl, rsm_none HPRE.out H7A.out H7B.out q1 hz6 (Nat.le_trans hz6 HG1.out)⟩
      | with_reducible exact ⟨_, _, aL, aP, aE, bL, bP, bE, cL, cP, cE, dL, dP, dE, rfl, rfl, rsm_none HPRE.out H7B.out H7A.out q1' (Nat.le_trans hz6 HG1.out) hz6⟩
      | with_reducible exact ⟨_, _, aL, aP, aE, bL, bP, bE, cL, cP, cE, dL, dP, dE, rfl, rfl, rsm_none HPRE.out H7P.out H7A.out p1 (Nat.le_refl _) hz6⟩
      | with_reducible exact ⟨_, _, aL, aP, aE, bL, bP, bE, cL, cP, cE, dL, dP, dE, rfl, rfl, rsm_none HPRE.out H7A.out H7P.out p1' hz6 (Nat.le_refl _)⟩
      | with_reducible exact ⟨_, _, aL, aP, aE, bL, bP, bE, cL, cP, cE, dL, dP, dE, rfl, rfl, rsm_none HPRE.out H7P.out H7Q.out q3 (Nat.le_refl _) HG2.out⟩
      | with_reducible exact ⟨_, _, aL, aP, aE, bL, bP, bE, cL, cP, cE, dL, dP, dE, rfl, rfl, rsm_none HPRE.out H7Q.out H7P.out q3' HG2.out (Nat.le_refl _)⟩
  case rest =>
    obtain ⟨ga, gb, aL, aP, aE, bL, bP, bE, cL, cP, cE, dL, dP, dE, rfl, rfl, hm⟩ := hcut
    obtain ⟨wd, hwd⟩ : ∃ wd, wd = wc := ⟨_, rfl⟩
    subst hwd
    have HM := Lib.hid hm
    obtain ⟨y0, y1, y2, ly⟩ := three_facts hm.ra
    obtain ⟨z0, z1, z2, lz⟩ := three_facts hm.rb
    have Y0 := Lib.hid y0
    have Y1 := Lib.hid y1
    have Y2 := Lib.hid y2
    have Z0 := Lib.hid z0
    have Z1 := Lib.hid z1
    have Z2 := Lib.hid z2
    have HE1 := Lib.hid (fun V (hb : Below wd.heap.size wd V) => exactG_core aP bP cP dP MP PP V (own_g_lies (hm.aP.below hb)) (rowq_glies (hm.bP.below hb) (fun a n h => h.rl (hm.bp.next (But.of hb)) hm.pB)) HMP.out (by have := HRL.out.1; omega) (smalln_at HRS.out.1))
    have HE2 := Lib.hid (fun V (hb : Below wd.heap.size wd V) => exactG_core aE bE cE dE ME EE V (own_g_lies (hm.aE.below hb)) (rowq_glies (hm.bE.below hb) (fun a n h => h.rl (hm.bp.next (But.of hb)) hm.pB)) HME.out (by have := HRL.out.2.1; omega) (smalln_at HRS.out.2))
    have HX := Lib.hid (Below.refl wd.heap.size wd)
    have HIa := Lib.hid (own_z_lies hm.aL)
    have HIb := Lib.hid (own_z_lies hm.bL)
    have hne1 : ((MI : Int) != (MI : Int)) = false := by simp
    have hne2 : (MI != MI) = false := by simp
    have HMIL := Lib.hid HRL.out.2.2
    clear hm HRD HRR m1 m1' m2 m2'
    go_upto_region 8 with (first
      | (go_at_call 26; (with_reducible refine (HE1.out _ HX.out).mono ?_); rintro e w6 ⟨rfl, hb9⟩; have HX := Lib.hid (below_next HX.out hb9); have y0 := (HX.out.cell (p := ⟨ga, 0, none⟩) ly).trans Y0.out; have y2 := (HX.out.cell (p := ⟨ga, 2, none⟩) ly).trans Y2.out; have z2 := (HX.out.cell (p := ⟨gb, 2, none⟩) lz).trans Z2.out; clear hb9)
      | (go_at_call 26; (with_reducible refine (HE2.out _ HX.out).mono ?_); rintro e w7 ⟨rfl, hb9⟩; have HX := Lib.hid (below_next HX.out hb9); have y0 := (HX.out.cell (p := ⟨ga, 0, none⟩) ly).trans Y0.out; clear hb9))
    clear hne1 hne2 y1 y2 z0 z1 z2 HE1 HE2
    go_wp2_with fail
    clear y0
    go_loopw [71] (fun i wr => ∃ k : Nat, k ≤ MI ∧ i = .int .i64 (k : Int) ∧ Below wd.heap.size wd wr) (fun i _ => MI - (intOf i).toNat)
    case atStart => exact ⟨0, Nat.zero_le _, rfl, HX.out⟩
    case round =>
      clear HX
      obtain ⟨wv, hwv⟩ : ∃ wv, wv = wr := ⟨_, rfl⟩
      subst hwv
      obtain ⟨k, hk, rfl, hb⟩ := hrel
      have HBV := Lib.hid hb
      clear hb
      by_cases hlt : k < MI
      · have hd : decide ((k : Int) < (MI : Int)) = true := by simp; omega
        have hki : (k : Int) < (MI : Int) := by omega
        have hmi := HMIL.out
        obtain ⟨b1, o1, rfl, e0⟩ := HIa.out.at k (by rw [← HMI.out]; exact hlt)
        obtain ⟨b2, o2, rfl, e1⟩ := HIb.out.at k (by rw [← HMI.out]; exact hlt)
        have f0 := (HBV.out.cell (p := ⟨b1, o1 + k, none⟩) (block_lt e0)).trans e0
        have f1 := (HBV.out.cell (p := ⟨b2, o2 + k, none⟩) (block_lt e1)).trans e1
        have y0 := (HBV.out.cell (p := ⟨ga, 0, none⟩) ly).trans Y0.out
        have z0 := (HBV.out.cell (p := ⟨gb, 0, none⟩) lz).trans Z0.out
        clear e0 e1
        generalize LL.getD k 0 = x at f0 f1
        have hx1 : (x != x) = false := by simp
        have v0 := cell_regrown f0
        have v1 := cell_regrown f1
        have v2 := cell_regrown y0
        have v3 := cell_regrown z0
        go_wp2_with fail
        refine wp_region_quiet_below (by kernel_rfl) (by kernel_rfl) ?_
        repeat (go_big_quiet_step (fail))
        refine wpQuiet_nil ?_
        intro _ hw'
        obtain ⟨⟨dq, osq⟩, hw''⟩ := hw'
        subst hw''
        have HBQ := Lib.hid (below_next HBV.out (below_regrown wv dq osq))
        clear v0 v1 v2 v3 f0 f1 y0 z0
        go_wp2_with fail
        go_roundw
        case rel => exact ⟨k + 1, by omega, by go_num, HBQ.out⟩
        case measure => simp [intOf]; omega
      · have hd : decide ((k : Int) < (MI : Int)) = false := by simp; omega
        clear hk
        go_upto_region 14 with (fail)
        clear hd hlt
        have HMV := Lib.hid (HM.out.below HBV.out)
        have HWV := Lib.hid (fun V (h : But p wv V) => HBW.out V (HB5.out.next (HMV.out.bp.next h)))
        have hh := HWV.out wv (But.refl p wv)
        have g0 := (hh.cell (p := ⟨w.heap.size + 1, 0, none⟩) lg).trans G0.out
        have g1 := (hh.cell (p := ⟨w.heap.size + 1, 1, none⟩) lg).trans G1.out
        have g2 := (hh.cell (p := ⟨w.heap.size + 1, 2, none⟩) lg).trans G2.out
        have HDV := Lib.hid HMV.out.dk
        have HSZ := Lib.hid (show BB ≤ wv.heap.size from Nat.le_trans HMV.out.Ba (Nat.le_of_lt (Array.getElem?_eq_some_iff.1 HMV.out.ra).1))
        clear hh HBV HM HIa HIb
        go_cut [91, 92, 93] (fun s91 s92 s93 wx => ∃ (G k6 : Nat), s91 = .slice (some ⟨G, 0, none⟩) 3 3 ∧ s92 = .int .i64 3 ∧ s93 = .int .i64 0 ∧ But p wv wx ∧ DeckAt wx p al cl zs k6 ∧ ∀ i, i < 3 → ∃ (q7 : Int) (t7 : List UInt8) (a7 : Option Addr) (c7 N7 : Nat) (n7 : Nm), wx.cell? ⟨G, i * 3, none⟩ = some (.int .i64 q7) ∧ wx.cell? ⟨G, i * 3 + 1, none⟩ = some (.string (strOf t7)) ∧ wx.cell? ⟨G, i * 3 + 2, none⟩ = some (.slice a7 N7 c7) ∧ RLies wx a7 n7 ∧ N7 = n7.length ∧ N7 ≤ c7 ∧ SmG (q7, t7, n7))
        case first =>
          have hk4 := HK4.out
          clear HAW HMX HI HA HB HNI HNA HNB HSA HSB HNI10 HGB HL4 HNL HO5 HOK HZL HW5B HRL HRS HQ5 X0 X1 X2 Y0 Y1 Y2 Z0 Z1 Z2 HMI HMP HME HMIL ly lz lS s0 lx HBN
          go_region_held3 (fun w' => w'.cell? ⟨w.heap.size + 1, 0, none⟩ = some (.int .i64 q) ∧ w'.cell? ⟨w.heap.size + 1, 1, none⟩ = some (.string (strOf t)) ∧ w'.cell? ⟨w.heap.size + 1, 2, none⟩ = some (.slice ag NG cg)) (first | with_reducible exact ⟨by assumption, by assumption, by assumption⟩ | exact ⟨by with_reducible assumption, by with_reducible assumption, by with_reducible assumption⟩ | go_keep)
            (first
              | (go_at_call 15; (with_reducible refine (general_any p al cl zs k4 _ (by first | with_reducible exact HDV.out | with_reducible exact deck_up_s HDV.out) (by omega)).mono ?_); rintro e u1 ⟨q1, t1, s1, m1, k19, hG1, rfl, hso, hd1, hk19, hbb1⟩; obtain ⟨e1, f1, rfl, hc1, _⟩ := hso.lies; have hbx : But p wv u1 := (by first | with_reducible exact hbb1 | exact ((But.refl p wv).drew).next hbb1); have hh := HWV.out u1 hbx; have c10 := (hh.cell (p := ⟨w.heap.size + 1, 0, none⟩) lg).trans G0.out; have c11 := (hh.cell (p := ⟨w.heap.size + 1, 1, none⟩) lg).trans G1.out; have c12 := (hh.cell (p := ⟨w.heap.size + 1, 2, none⟩) lg).trans G2.out; have hln := gen_len hG1; have HF1 := Lib.hid (And.intro (show SmG (q1, t1, m1) from ⟨Nat.le_trans hln.1 (by omega), made_small hln.2⟩) hc1); have HOO1 := Lib.hid (hso.base (show BB ≤ wv.heap.size from HSZ.out)); have HBX1 := Lib.hid hbx; have HD1 := Lib.hid hd1; have HK19 := Lib.hid hk19; clear hh hln hso hd1 hk19 hbb1 hG1 hc1 hbx; obtain ⟨N1, hN1⟩ : ∃ N1, N1 = m1.length := ⟨_, rfl⟩; rw [← hN1] at HF1 HOO1 ⊢; have HN1 := Lib.hid hN1; clear hN1)
              | (go_at_call 16; (with_reducible refine (base_any_g p al cl zs k19 _ (by first | with_reducible exact HD1.out | with_reducible exact deck_up_s HD1.out) (by have := HK19.out; omega)).mono ?_); rintro e u2 ⟨q2, t2, s2, m2, k29, hG2, rfl, hso, hd2, hk29, hbb2⟩; obtain ⟨e2, f2, rfl, hc2, _⟩ := hso.lies; have hbx : But p u1 u2 := (by first | with_reducible exact hbb2 | exact ((But.refl p u1).drew).next hbb2); have hh := HWV.out u2 (HBX1.out.next hbx); have c20 := (hh.cell (p := ⟨w.heap.size + 1, 0, none⟩) lg).trans G0.out; have c21 := (hh.cell (p := ⟨w.heap.size + 1, 1, none⟩) lg).trans G1.out; have c22 := (hh.cell (p := ⟨w.heap.size + 1, 2, none⟩) lg).trans G2.out; have hln := bse_len hG2; have HF2 := Lib.hid (And.intro (show SmG (q2, t2, m2) from ⟨Nat.le_trans hln.1 (by omega), made_small hln.2⟩) hc2); have HOO2 := Lib.hid (hso.base (show BB ≤ u1.heap.size from Nat.le_trans HSZ.out HBX1.out.size)); have HBX2 := Lib.hid hbx; have HD2 := Lib.hid hd2; clear hh hln hso hd2 hk29 hbb2 hG2 hc2 hbx; obtain ⟨N2, hN2⟩ : ∃ N2, N2 = m2.length := ⟨_, rfl⟩; rw [← hN2] at HF2 HOO2 ⊢; have HN2 := Lib.hid hN2; clear hN2))
          all_goals go_wp2_with fail
          all_goals go_meet
          all_goals exact ⟨_, k29, rfl, rfl, rfl, (HBX1.out.next HBX2.out).next (But.of (belowNew u2 _)), HD2.out.below (belowNew u2 _), three_rows (heap_alloc_new u2 _) ⟨(HG.out.below (HWV.out u2 (HBX1.out.next HBX2.out))).below (belowNew u2 _), HNG.out, HCG.out, HSG.out⟩ ⟨(own_rl_s (HOO1.out.but HBX2.out hpB)).below (belowNew u2 _), HN1.out, HF1.out.2, HF1.out.1⟩ ⟨(own_rl_s HOO2.out).below (belowNew u2 _), HN2.out, HF2.out.2, HF2.out.1⟩⟩
        case rest =>
          obtain ⟨G, k6, rfl, rfl, rfl, hbx, hd6, hrow⟩ := hcut
          have HROW := Lib.hid hrow
          obtain ⟨wn, hwn⟩ : ∃ wn, wn = wc := ⟨_, rfl⟩
          subst hwn
          have HMN := Lib.hid (HMV.out.call hbx hd6)
          clear hbx hd6 hrow g0 g1 g2 HDV HWV HMV
          go_wp2_with fail
          go_loopw [93] (fun i wr => ∃ i2 : Nat, i2 ≤ 3 ∧ i = .int .i64 (i2 : Int) ∧ Below wn.heap.size wn wr) (fun i _ => 3 - (intOf i).toNat)
          case atStart => exact ⟨0, Nat.zero_le _, rfl, Below.refl _ _⟩
          case round =>
            obtain ⟨wm, hwm⟩ : ∃ wm, wm = wr := ⟨_, rfl⟩
            subst hwm
            obtain ⟨i2, hi2, rfl, hb⟩ := hrel
            have HBM := Lib.hid hb
            clear hb
            by_cases hlt2 : i2 < 3
            · have hd2 : decide ((i2 : Int) < 3) = true := decide_eq_true (by omega)
              have HLT2 := Lib.hid hlt2
              obtain ⟨q7, t7, a7, c7, N7, n7, e0, e1, e2, hr7, hN7, hc7, hs7⟩ := HROW.out i2 hlt2
              have f0 := (HBM.out.cell (block_lt e0)).trans e0
              have f1 := (HBM.out.cell (block_lt e1)).trans e1
              have f2 := (HBM.out.cell (block_lt e2)).trans e2
              have HR7 := Lib.hid (hr7.below HBM.out)
              have HN7 := Lib.hid hN7
              have HC7 := Lib.hid hc7
              have HS7 := Lib.hid hs7
              clear e0 e1 e2 hr7 hN7 hc7 hs7
              go_upto_region 17 with (fail)
              clear f0 f1 f2
              obtain ⟨W9, hW9⟩ : ∃ W9, W9 = wm.alloc (.cells #[.int .i64 q7, .string (strOf t7), .slice a7 N7 c7] 32) := ⟨_, rfl⟩
              have hb9 : Below wm.heap.size wm W9 := by rw [hW9]; exact belowNew wm _
              obtain ⟨x0, x1, x2, _⟩ := three_facts (w := W9) (g := wm.heap.size) (by rw [hW9]; exact heap_alloc_new wm _)
              rw [← hW9]
              have hbn := below_next HBM.out hb9
              have HBN9 := Lib.hid hbn
              have HM9 := Lib.hid (HMN.out.below hbn)
              have hwx := HBW.out W9 (HB5.out.next HM9.out.bp)
              have y0 := cell_regrown x0
              have y1 := cell_regrown x1
              have y2 := cell_regrown x2
              obtain ⟨a0', a1', a2', _⟩ := three_facts HM9.out.ra
              obtain ⟨b0', b1', b2', _⟩ := three_facts HM9.out.rb
              have y3 := cell_regrown a0'
              have y4 := cell_regrown a1'
              have y5 := cell_regrown a2'
              have y6 := cell_regrown b0'
              have y7 := cell_regrown b1'
              have y8 := cell_regrown b2'
              have y9 := cell_regrown ((hwx.cell (p := ⟨w.heap.size, 0, none⟩) lx).trans X0.out)
              have ya := cell_regrown ((hwx.cell (p := ⟨w.heap.size, 1, none⟩) lx).trans X1.out)
              have yb := cell_regrown ((hwx.cell (p := ⟨w.heap.size, 2, none⟩) lx).trans X2.out)
              have HP1 := Lib.hid (fun W (hb : Below W9.heap.size W9 W) => pred_core ai a1 a2 a7 ci NI c1 c2 NA NB c7 N7 zr A B q7 t7 n7 W (ints_below (ints_below HI.out hwx) hb) HNI.out (by have := HNI10.out; omega) ((HA.out.below hwx).below hb) ((HB.out.below hwx).below hb) HNA.out HNB.out ⟨by rw [HNA.out]; exact Nat.le_trans HSA.out.1 (by omega), by rw [HNB.out]; exact Nat.le_trans HSB.out.1 (by omega)⟩ ((HR7.out.below hb9).below hb) HN7.out HC7.out HS7.out ⟨HSA.out.sm, HSB.out.sm⟩ (HMX.out W (below_next hwx hb)))
              have HP2 := Lib.hid (fun W (hb : Below W9.heap.size W9 W) => rpred_core ai a1 a2 a7 ci NI c1 c2 NA NB c7 N7 zr A B q7 t7 n7 W (ints_below (ints_below HI.out hwx) hb) HNI.out (by have := HNI10.out; omega) ((HA.out.below hwx).below hb) ((HB.out.below hwx).below hb) HNA.out HNB.out ⟨by rw [HNA.out]; exact Nat.le_trans HSA.out.1 (by omega), by rw [HNB.out]; exact Nat.le_trans HSB.out.1 (by omega)⟩ ((HR7.out.below hb9).below hb) HN7.out HS7.out ⟨HSA.out.sm, HSB.out.sm⟩)
              have HP3 := Lib.hid (fun W (hb : Below W9.heap.size W9 W) => pred_core aL aP aE a7 cL MI cP cE MP ME c7 N7 LL PP EE q7 t7 n7 W (own_z_lies (own_below HM9.out.aL hb)) HMI.out (by have := HMIL.out; omega) (own_g_lies (HM9.out.aP.below hb)) (own_g_lies (HM9.out.aE.below hb)) HMP.out HME.out ⟨by have := HRL.out.1; omega, by have := HRL.out.2.1; omega⟩ ((HR7.out.below hb9).below hb) HN7.out HC7.out HS7.out HRS.out (HMX.out W (below_next hwx hb)))
              have HP4 := Lib.hid (fun W (hb : Below W9.heap.size W9 W) => rpred_core bL bP bE a7 dL MI dP dE MP ME c7 N7 LL PP EE q7 t7 n7 W (own_z_lies (own_below HM9.out.bL hb)) HMI.out (by have := HMIL.out; omega) (rowq_glies (HM9.out.bP.below hb) (fun a n h => h.rl (HM9.out.bp.next (But.of hb)) HM9.out.pB)) (rowq_glies (HM9.out.bE.below hb) (fun a n h => h.rl (HM9.out.bp.next (But.of hb)) HM9.out.pB)) HMP.out HME.out ⟨by have := HRL.out.1; omega, by have := HRL.out.2.1; omega⟩ ((HR7.out.below hb9).below hb) HN7.out HS7.out HRS.out)
              generalize perR zr A B (q7, t7, n7) = P1 at HP1 HP2
              generalize perR LL PP EE (q7, t7, n7) = P3 at HP3 HP4
              have v1 : ∀ d os, _ := fun d os => Calls.regrown_of (HP1.out (Sort.grow (redrawn W9 d) os) (below_regrown W9 d os))
              have v2 : ∀ d os, _ := fun d os => Calls.regrown_of (HP2.out (Sort.grow (redrawn W9 d) os) (below_regrown W9 d os))
              have v3 : ∀ d os, _ := fun d os => Calls.regrown_of (HP3.out (Sort.grow (redrawn W9 d) os) (below_regrown W9 d os))
              have v4 : ∀ d os, _ := fun d os => Calls.regrown_of (HP4.out (Sort.grow (redrawn W9 d) os) (below_regrown W9 d os))
              clear x0 x1 x2 a0' a1' a2' b0' b1' b2' HP1 HP2 HP3 HP4 hW9 hb9 hbn hwx
              cases P1 <;> cases P3
              all_goals
                have hlt3 := HLT2.out
                go_wp2_with fail
                refine wp_region_quiet_below (by kernel_rfl) (by kernel_rfl) ?_
                repeat (go_big_quiet_step (with_reducible first | exact v1 _ _ | exact v2 _ _ | exact v3 _ _ | exact v4 _ _))
                refine wpQuiet_nil ?_
                intro _ hw'
                obtain ⟨⟨dq, osq⟩, hw''⟩ := hw'
                subst hw''
                have HBQ := Lib.hid (below_next HBN9.out (below_regrown W9 dq osq))
                clear v1 v2 v3 v4 y0 y1 y2 y3 y4 y5 y6 y7 y8 y9 ya yb
                go_wp2_with fail
                go_roundw
                case rel => exact ⟨i2 + 1, by omega, by go_num, HBQ.out⟩
                case measure => simp [intOf]; omega
            · have hd2 : decide ((i2 : Int) < 3) = false := decide_eq_false (by omega)
              have HBE := Lib.hid (HBW.out wm (HB5.out.next (HMN.out.below HBM.out).bp))
              clear hlt2 hi2 HROW
              go_wp2_with (go_at_call 9; (with_reducible refine (HAW.out _ HBE.out).mono ?_); rintro e w9 ⟨rfl, hb9⟩; have HB9 := Lib.hid (below_next HBE.out hb9); clear hb9)
              go_ret
              exact ⟨rfl, below_next HB0.out HB9.out⟩
end Go.Proofs.YtofadgmnjckpcaaGreatDoor
