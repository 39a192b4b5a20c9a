/-
  A field of a general name that a call has returned.
  The contract of the law's some: a general name of the generators, perhaps with a field of another one.
  General names that are the same are within the same bases: plain laws; and what the law GnameSame wants of the program's functions.
  Ranges of addresses: each is an address under a mask of some bits; what lies within two ranges makes them nested; within is passed on. Nothing is claimed of the program here.
  Constraints on names as lists: what Permits, Reduce and PermitsReduced answer; that what lies within two bases makes them nested, that bases that are the same have the same names, and that a reduced state permits what the state permits. Nothing is claimed of the program here.
  Constraints on names in memory: a row of pairs of rows of general names; and one name after the other. Nothing is claimed of the program here.
  The contracts of the reference's In, limits and Permits.
-/
import Derived.Test.YtofadgmnjckpcaaGreatDoorVaq
import Derived.Deep.CutRange
import Derived.Deep.DeepCutAuto
import Derived.Test.YtofadgmnjckpcaaGreatDoorVap
import Derived.Test.YtofadgmnjckpcaaGreatDoorVac
import Derived.Test.YtofadgmnjckpcaaGreatDoorVaj
import Derived.Test.YtofadgmnjckpcaaGreatDoorVao
namespace Go.Proofs.YtofadgmnjckpcaaGreatDoor
open Go.RowKit

end Go.Proofs.YtofadgmnjckpcaaGreatDoor
namespace Go.Proofs.YtofadgmnjckpcaaGreatDoor
open Go.RowKit

theorem gen_len {q : Int} {t : List UInt8} {n : Nm} (h : GenOk q t n) : t.length ≤ 64 ∧ MadeN n := by
  have m0 : MadeN [] := ⟨by decide, fun r hr => by cases hr⟩
  rcases h with ⟨_, h, rfl⟩ | ⟨_, h, rfl⟩ | ⟨_, h, rfl⟩ | ⟨_, rfl, h⟩
  · exact ⟨(show ∀ t ∈ genMail, t.length ≤ 64 by decide) t h, m0⟩
  · exact ⟨(show ∀ t ∈ genDns, t.length ≤ 64 by decide) t h, m0⟩
  · exact ⟨(show ∀ t ∈ genAddr, t.length ≤ 64 by decide) t h, m0⟩
  · exact ⟨by decide, h⟩
theorem bse_len {q : Int} {t : List UInt8} {n : Nm} (h : BseOk q t n) : t.length ≤ 64 ∧ MadeN n := by
  have m0 : MadeN [] := ⟨by decide, fun r hr => by cases hr⟩
  rcases h with ⟨_, h, rfl⟩ | ⟨_, h, rfl⟩ | ⟨_, h, rfl⟩ | ⟨_, rfl, h⟩
  · exact ⟨(show ∀ t ∈ bseMail, t.length ≤ 64 by decide) t h, m0⟩
  · exact ⟨(show ∀ t ∈ bseDns, t.length ≤ 64 by decide) t h, m0⟩
  · exact ⟨(show ∀ t ∈ bseAddr, t.length ≤ 64 by decide) t h, m0⟩
  · exact ⟨by decide, h⟩
theorem gset2 {w : World} {g : Nat} {x y z a : Value} {t : TypeId} (h : w.heap[g]? = some (.cells #[x, y, z] t (0, 0))) : (w.setCell ⟨g, 2, none⟩ a).heap[g]? = some (.cells #[x, y, a] t (0, 0)) := by
  simp [World.setCell, Array.getElem?_modify, h]
/-- A change of one block that is of another type leaves a name as it was. -/
theorem own_apart {w w' : World} {B k n g : Nat} {e T : TypeId} {v : Value} {xs : List Value} {cs : Array Value} {f : Nat × Nat} (h : w.ownsRow B e k v n xs) (hc : w.heap[g]? = some (.cells cs T f)) (hT : T ≠ e) (hg : But g w w') : w'.ownsRow B e k v n xs := by
  refine World.ownsRow.kept h hg ?_
  rcases h.2 with ⟨hv, _⟩ | ⟨b, cap, cur, hv, _, hb, _⟩
  · exact .inl (by rw [hv]; rfl)
  · refine .inr (fun e1 => ?_)
    rw [hv] at e1
    simp [Value.ownBlock] at e1
    subst e1
    rw [hc] at hb
    simp at hb
    exact hT hb.2.1
theorem OwnN.apart {w w' : World} {B g : Nat} {T : TypeId} {v : Value} {n : Nm} {cs : Array Value} {f : Nat × Nat} (h : OwnN w B v n) (hc : w.heap[g]? = some (.cells cs T f)) (h1 : T ≠ 69) (h2 : T ≠ 67) (hg : But g w w') : OwnN w' B v n := by
  obtain ⟨vs, q1, q2, q3⟩ := h
  exact ⟨vs, q1, own_apart q2 hc h2 hg, fun i hi => own_apart (q3 i hi) hc h1 hg⟩
end Go.Proofs.YtofadgmnjckpcaaGreatDoor
namespace Go.Proofs.YtofadgmnjckpcaaGreatDoor
open Go.RowKit

end Go.Proofs.YtofadgmnjckpcaaGreatDoor
namespace Go.Proofs.YtofadgmnjckpcaaGreatDoor
open Go.RowKit

end Go.Proofs.YtofadgmnjckpcaaGreatDoor
namespace Go.Proofs.YtofadgmnjckpcaaGreatDoor
open Go.RowKit

/-! ### Within, for every kind -/
theorem within_kind {k l : Int} {t u : List UInt8} {n m : Nm} (h : withinG k t n l u m = true) : k = l := by
  unfold withinG at h
  by_cases e : k = l
  · exact e
  · rw [if_pos e] at h; cases h
theorem withinG_2 (t u : List UInt8) (n m : Nm) : withinG 2 t n 2 u m = dnsWithinB t u := by unfold withinG; rw [if_neg (by decide), if_neg (by decide), if_pos rfl]
/-! ### Bases that are the same -/
/-! ### States -/
abbrev GnS := Int × List UInt8 × Nm
abbrev SubS := List GnS × List GnS
noncomputable def wG (g b : GnS) : Bool := withinG g.1 g.2.1 g.2.2 b.1 b.2.1 b.2.2
noncomputable def sG (a b : GnS) : Bool := sameG a.1 a.2.1 a.2.2 b.1 b.2.1 b.2.2
noncomputable def inG (g : GnS) (l : List GnS) : Bool := l.any (wG g)
def limG (l : List GnS) (k : Int) : Bool := l.any (fun b => decide (b.1 = k))
noncomputable def perG (st : List SubS) (g : GnS) : Bool := st.all (fun s => !(inG g s.2 || limG s.1 g.1 && !inG g s.1))
noncomputable def addG (l : List GnS) (g : GnS) : List GnS := if l.any (fun x => sG x g) = true then l else l ++ [g]
noncomputable def addsG (l m : List GnS) : List GnS := m.foldl addG l
noncomputable def everyG (st : List SubS) (k : Int) (g : GnS) : Bool := decide (g.1 = k) && st.all (fun o => !(limG o.1 k && !inG g o.1))
def kindsG : List Int := [1, 2, 4, 7]
def limitedG (st : List SubS) : List Int := kindsG.filter (fun k => st.any (fun s => limG s.1 k))
noncomputable def permG (st : List SubS) : List GnS := addsG [] ((limitedG st).flatMap (fun k => (st.flatMap (·.1)).filter (everyG st k)))
noncomputable def exclG (st : List SubS) : List GnS := addsG [] (st.flatMap (·.2))
noncomputable def perR (lim : List Int) (per exc : List GnS) (g : GnS) : Bool := !inG g exc && (!lim.contains g.1 || inG g per)
theorem wG_kind {g b : GnS} (h : wG g b = true) : g.1 = b.1 := within_kind h
end Go.Proofs.YtofadgmnjckpcaaGreatDoor
namespace Go.Proofs.YtofadgmnjckpcaaGreatDoor
open Go.RowKit

abbrev Sub := List Gn × List Gn
def noSub : Sub := ([], [])
/-- At the address lie the constraints l. -/
def SLies (w : World) (a : Option Addr) (l : List Sub) : Prop :=
  l = [] ∨ ∃ b o, a = some ⟨b, o, none⟩ ∧ ∀ i, i < l.length → ∃ a1 c1 a2 c2, w.cell? ⟨b, o + i * 2, none⟩ = some (.slice a1 (l.getD i noSub).1.length c1) ∧ w.cell? ⟨b, o + i * 2 + 1, none⟩ = some (.slice a2 (l.getD i noSub).2.length c2) ∧
    ((l.getD i noSub).1.length ≤ c1 ∧ GLies w a1 (l.getD i noSub).1) ∧ (l.getD i noSub).2.length ≤ c2 ∧ GLies w a2 (l.getD i noSub).2
theorem SLies.below {w w' : World} {a : Option Addr} {l : List Sub} (h : SLies w a l) (hb : Below w.heap.size w w') : SLies w' a l := by
  rcases h with h | ⟨b, o, h1, h2⟩
  · exact .inl h
  · refine .inr ⟨b, o, h1, fun i hi => ?_⟩
    obtain ⟨a1, c1, a2, c2, e1, e2, ⟨h3, h4⟩, h5, h6⟩ := h2 i hi
    exact ⟨a1, c1, a2, c2, (hb.cell (block_lt e1)).trans e1, (hb.cell (block_lt e2)).trans e2, ⟨h3, h4.below hb⟩, h5, h6.below hb⟩
theorem SLies.at {w : World} {a : Option Addr} {l : List Sub} (h : SLies w a l) (k : Nat) (hk : k < l.length) : ∃ b o, a = some ⟨b, o, none⟩ ∧ b < w.heap.size ∧ ∃ a1 c1 a2 c2, w.cell? ⟨b, o + k * 2, none⟩ = some (.slice a1 (l.getD k noSub).1.length c1) ∧ w.cell? ⟨b, o + k * 2 + 1, none⟩ = some (.slice a2 (l.getD k noSub).2.length c2) ∧
    ((l.getD k noSub).1.length ≤ c1 ∧ GLies w a1 (l.getD k noSub).1) ∧ (l.getD k noSub).2.length ≤ c2 ∧ GLies w a2 (l.getD k noSub).2 := by
  rcases h with h | ⟨b, o, h1, h2⟩
  · rw [h] at hk; exact absurd hk (Nat.not_lt_zero _)
  · obtain ⟨a1, c1, a2, c2, e1, e2, h3, h4⟩ := h2 k hk
    exact ⟨b, o, h1, block_lt e1, a1, c1, a2, c2, e1, e2, h3, h4⟩
/-! ### One name after the other -/
theorem inG_step (g : Gn) : ∀ (l : List Gn) (k : Nat), k < l.length → inG g (l.drop k) = (wG g (l.getD k noG) || inG g (l.drop (k + 1)))
  | [], k, h => absurd h (Nat.not_lt_zero _)
  | b :: r, 0, _ => rfl
  | b :: r, k + 1, h => by
    have := inG_step g r k (by simpa using h)
    simpa using this
theorem limG_step (q : Int) : ∀ (l : List Gn) (k : Nat), k < l.length → limG (l.drop k) q = (decide ((l.getD k noG).1 = q) || limG (l.drop (k + 1)) q)
  | [], k, h => absurd h (Nat.not_lt_zero _)
  | b :: r, 0, _ => rfl
  | b :: r, k + 1, h => by
    have := limG_step q r k (by simpa using h)
    simpa using this
theorem perG_step (g : Gn) : ∀ (l : List Sub) (k : Nat), k < l.length → perG (l.drop k) g = (!(inG g (l.getD k noSub).2 || limG (l.getD k noSub).1 g.1 && !inG g (l.getD k noSub).1) && perG (l.drop (k + 1)) g)
  | [], k, h => absurd h (Nat.not_lt_zero _)
  | b :: r, 0, _ => rfl
  | b :: r, k + 1, h => by
    have := perG_step g r k (by simpa using h)
    simpa using this
/-- Is one that is the same among the first k? -/
theorem addG_cases (l : List Gn) (g : Gn) : (l.any (fun x => sG x g) = true ∧ addG l g = l) ∨ (l.any (fun x => sG x g) = false ∧ addG l g = l ++ [g]) := by
  unfold addG
  cases l.any (fun x => sG x g) with
  | true => exact .inl ⟨rfl, if_pos rfl⟩
  | false => exact .inr ⟨rfl, if_neg (by decide)⟩
/-! ### What the generator makes -/
/-- Bounds under which the functions on general names are known. -/
def SmG (g : Gn) : Prop := g.2.1.length ≤ 100000 ∧ SmallN g.2.2
def SmL (l : List Gn) : Prop := ∀ g ∈ l, SmG g
def SmS (L : List Sub) : Prop := ∀ s ∈ L, SmL s.1 ∧ SmL s.2
theorem SmL.at {l : List Gn} (h : SmL l) {i : Nat} (hi : i < l.length) : SmG (l.getD i noG) := by
  rw [List.getD_eq_getElem?_getD, List.getElem?_eq_getElem hi]; exact h _ (List.getElem_mem hi)
theorem SmS.at {l : List Sub} (h : SmS l) {i : Nat} (hi : i < l.length) : SmL (l.getD i noSub).1 ∧ SmL (l.getD i noSub).2 := by
  rw [List.getD_eq_getElem?_getD, List.getElem?_eq_getElem hi]; exact h _ (List.getElem_mem hi)
def BsG (g : Gn) : Prop := BseOk g.1 g.2.1 g.2.2
/-- Constraints of the generator. -/
def GenB (s : Sub) : Prop := s.1.length ≤ 3 ∧ s.2.length ≤ 2 ∧ ¬ (s.1.length = 0 ∧ s.2.length = 0) ∧ (∀ g ∈ s.1, BsG g) ∧ ∀ g ∈ s.2, BsG g
end Go.Proofs.YtofadgmnjckpcaaGreatDoor
namespace Go.Proofs.YtofadgmnjckpcaaGreatDoor
open Go.RowKit

theorem two_facts {w : World} {g : Nat} {x y : Value} {t : TypeId} (h : w.heap[g]? = some (.cells #[x, y] t (0, 0))) :
    w.cell? ⟨g, 0, none⟩ = some x ∧ w.cell? ⟨g, 1, none⟩ = some y ∧ g < w.heap.size := by
  refine ⟨?_, ?_, (Array.getElem?_eq_some_iff.1 h).1⟩ <;> (rw [Lib.cell_of_heap h]; rfl)
theorem heap_first (w : World) (o p : Obj) : ((w.alloc o).alloc p).heap[w.heap.size]? = (w.alloc o).heap[w.heap.size]? := (belowNew (w.alloc o) p).block _ (by simp)
theorem heap_second (w : World) (o : Obj) (cs : Array Value) (T : TypeId) : ((w.alloc o).alloc (.cells cs T)).heap[w.heap.size + 1]? = some (.cells cs T (0, 0)) := by
  have := heap_alloc_new (w.alloc o) (.cells cs T)
  simpa using this
set_option maxRecDepth 100000 in
set_option maxHeartbeats 4000000 in
theorem rin_core (a0 ag : Option Addr) (c m cg N : Nat) (l : List Gn) (q : Int) (t : List UInt8) (n : Nm) (w : World) (h : GLies w a0 l) (hm : m = l.length) (hmm : m ≤ 9223372036854775807) (hg : RLies w ag n) (hN : N = n.length) (hs : SmG (q, t, n)) (hl : SmL l) :
    Calls Tryz.prog 33 #[.agg #[.int .i64 q, .string (strOf t), .slice ag N cg], .slice a0 m c] w fun e w' => e = .returned (.bool (inG (q, t, n) l)) ∧ Below w.heap.size w w' := by
  obtain ⟨W0, hW0⟩ : ∃ W0, W0 = w.alloc (.cells #[.int .i64 q, .string (strOf t), .slice ag N cg] 32) := ⟨_, rfl⟩
  have hwr := hW0.symm
  have hb0 : Below w.heap.size w W0 := by rw [hW0]; exact belowNew w _
  obtain ⟨b0, b1, b2, lb⟩ := three_facts (w := W0) (g := w.heap.size) (by rw [hW0]; exact heap_alloc_new w _)
  have HB0 := Lib.hid hb0
  have H1 := Lib.hid (h.below hb0)
  have HG := Lib.hid (hg.below hb0)
  have HN := Lib.hid hm
  have HNN := Lib.hid hN
  have HS := Lib.hid hs
  have HL := Lib.hid hl
  clear h hg hm hN hs hl hb0 hW0
  go_enter Tryz.func33, Tryz.ntmps33
  go_wp2_with fail
  clear hwr
  have P0 := Lib.hid b0
  have P1 := Lib.hid b1
  have P2 := Lib.hid b2
  clear b0 b1 b2
  go_loopw [9] (fun i wr => ∃ k : Nat, k ≤ m ∧ i = .int .i64 k ∧ inG (q, t, n) l = inG (q, t, n) (l.drop k) ∧ Below W0.heap.size W0 wr) (fun i _ => m - (intOf i).toNat)
  case atStart => exact ⟨0, Nat.zero_le _, rfl, rfl, Below.refl _ _⟩
  case round =>
    obtain ⟨wz, hwz⟩ : ∃ wz, wz = wr := ⟨_, rfl⟩
    subst hwz
    obtain ⟨k, hk, rfl, hi, hb⟩ := hrel
    have HB := Lib.hid hb
    have HI := Lib.hid hi
    clear hb hi
    by_cases hlt : k < m
    · have hd : decide ((k : Int) < (m : Int)) = true := by simp; omega
      obtain ⟨b, o, rfl, hbl, e0, e1, a1, c1, e2, hc1, hL1⟩ := H1.out.at k (by rw [← HN.out]; exact hlt)
      have f0 := (HB.out.cell (p := ⟨b, o + k * 3, none⟩) hbl).trans e0
      have f1 := (HB.out.cell (p := ⟨b, o + k * 3 + 1, none⟩) hbl).trans e1
      have f2 := (HB.out.cell (p := ⟨b, o + k * 3 + 2, none⟩) hbl).trans e2
      have hst := inG_step (q, t, n) l k (by rw [← HN.out]; exact hlt)
      have hsm := HL.out.at (i := k) (by rw [← HN.out]; exact hlt)
      clear e0 e1 e2 hbl
      generalize l.getD k noG = G at f0 f1 f2 hst hsm hL1 hc1
      obtain ⟨q2, t2, n2⟩ := G
      simp only at f0 f1 f2 hL1 hc1
      obtain ⟨N2, hN2⟩ : ∃ N2, N2 = n2.length := ⟨_, rfl⟩
      rw [← hN2] at f2
      obtain ⟨W2, hW2⟩ : ∃ W2, W2 = wz.alloc (.cells #[.int .i64 q2, .string (strOf t2), .slice a1 N2 c1] 32) := ⟨_, rfl⟩
      have hb2 : Below wz.heap.size wz W2 := by rw [hW2]; exact belowNew wz _
      obtain ⟨g0, g1, g2, lg⟩ := three_facts (w := W2) (g := wz.heap.size) (by rw [hW2]; exact heap_alloc_new wz _)
      have HB2 := Lib.hid (below_next HB.out hb2)
      have p0 := (HB2.out.cell (p := ⟨w.heap.size, 0, none⟩) lb).trans P0.out
      have p1 := (HB2.out.cell (p := ⟨w.heap.size, 1, none⟩) lb).trans P1.out
      have p2 := (HB2.out.cell (p := ⟨w.heap.size, 2, none⟩) lb).trans P2.out
      have HX := Lib.hid (rwithinG_core ag a1 cg c1 N N2 q q2 t t2 n n2 W2 (HG.out.below HB2.out) ((hL1.below HB.out).below hb2) HNN.out hN2 HS.out.1 hsm.1 HS.out.2 hsm.2)
      rw [show withinG q t n q2 t2 n2 = wG (q, t, n) (q2, t2, n2) from rfl] at HX
      have HWE := hW2.symm
      generalize wG (q, t, n) (q2, t2, n2) = E at HX hst
      have HST := Lib.hid (HI.out.trans hst)
      have HLT := Lib.hid hlt
      clear hst hsm hL1 hc1 hN2 hW2 hb2
      cases E with
      | true =>
        go_wp2_with (go_at_call 49; (with_reducible refine HX.out.mono ?_); rintro e w3 ⟨rfl, hb3⟩; have HB3 := Lib.hid (below_next HB0.out (below_next HB2.out hb3)); clear hb3)
        go_ret
        exact ⟨by rw [HST.out]; rfl, HB3.out⟩
      | false =>
        go_wp2_with (go_at_call 49; (with_reducible refine HX.out.mono ?_); rintro e w3 ⟨rfl, hb3⟩; have HB3 := Lib.hid (below_next HB2.out hb3); clear hb3)
        go_roundw
        case rel => exact ⟨k + 1, HLT.out, by go_num, by rw [HST.out]; rfl, HB3.out⟩
        case measure => simp [intOf]; omega
    · have hd : decide ((k : Int) < (m : Int)) = false := by simp; omega
      obtain rfl : k = m := by omega
      go_wp2_with fail
      go_ret
      exact ⟨by rw [HI.out, List.drop_of_length_le (by rw [← HN.out]; exact Nat.le_refl _)]; rfl, below_next HB0.out HB.out⟩
set_option maxRecDepth 100000 in
set_option maxHeartbeats 4000000 in
theorem rlimits_core (a0 : Option Addr) (c m : Nat) (l : List Gn) (q : Int) (w : World) (h : GLies w a0 l) (hm : m = l.length) (hmm : m ≤ 9223372036854775807) :
    Calls Tryz.prog 34 #[.slice a0 m c, .int .i64 q] w fun e w' => e = .returned (.bool (limG l q)) ∧ Below w.heap.size w w' := by
  have H1 := Lib.hid h
  have HN := Lib.hid hm
  clear h hm
  go_enter Tryz.func34, Tryz.ntmps34
  go_wp2_with fail
  go_loopw [9] (fun i wr => ∃ k : Nat, k ≤ m ∧ i = .int .i64 k ∧ limG l q = limG (l.drop k) q ∧ Below w.heap.size w wr) (fun i _ => m - (intOf i).toNat)
  case atStart => exact ⟨0, Nat.zero_le _, rfl, rfl, Below.refl _ _⟩
  case round =>
    obtain ⟨wz, hwz⟩ : ∃ wz, wz = wr := ⟨_, rfl⟩
    subst hwz
    obtain ⟨k, hk, rfl, hi, hb⟩ := hrel
    have HB := Lib.hid hb
    have HI := Lib.hid hi
    clear hb hi
    by_cases hlt : k < m
    · have hd : decide ((k : Int) < (m : Int)) = true := by simp; omega
      obtain ⟨b, o, rfl, hbl, e0, e1, a1, c1, e2, hc1, hL1⟩ := H1.out.at k (by rw [← HN.out]; exact hlt)
      have f0 := (HB.out.cell (p := ⟨b, o + k * 3, none⟩) hbl).trans e0
      have f1 := (HB.out.cell (p := ⟨b, o + k * 3 + 1, none⟩) hbl).trans e1
      have f2 := (HB.out.cell (p := ⟨b, o + k * 3 + 2, none⟩) hbl).trans e2
      have hst := limG_step q l k (by rw [← HN.out]; exact hlt)
      clear e0 e1 e2 hbl hL1 hc1
      generalize l.getD k noG = G at f0 f1 f2 hst
      obtain ⟨q2, t2, n2⟩ := G
      simp only at f0 f1 f2 hst
      obtain ⟨N2, hN2⟩ : ∃ N2, N2 = n2.length := ⟨_, rfl⟩
      rw [← hN2] at f2
      obtain ⟨W2, hW2⟩ : ∃ W2, W2 = wz.alloc (.cells #[.int .i64 q2, .string (strOf t2), .slice a1 N2 c1] 32) := ⟨_, rfl⟩
      have hb2 : Below wz.heap.size wz W2 := by rw [hW2]; exact belowNew wz _
      obtain ⟨g0, g1, g2, lg⟩ := three_facts (w := W2) (g := wz.heap.size) (by rw [hW2]; exact heap_alloc_new wz _)
      have HB2 := Lib.hid (below_next HB.out hb2)
      have HWE := hW2.symm
      have HST := Lib.hid (HI.out.trans hst)
      have HLT := Lib.hid hlt
      clear hst hN2 hW2 hb2
      by_cases hq : q2 = q
      · have d1 : (q2 == q) = true := beq_iff_eq.2 hq
        have HV := Lib.hid (show limG l q = true by rw [HST.out, decide_eq_true hq]; rfl)
        clear hq HST
        go_wp2_with fail
        go_ret
        exact ⟨by rw [HV.out]; rfl, HB2.out⟩
      · have d1 : (q2 == q) = false := beq_eq_false_iff_ne.2 hq
        have HV := Lib.hid (show limG l q = limG (l.drop (k + 1)) q by rw [HST.out, decide_eq_false hq]; rfl)
        clear hq HST
        go_wp2_with fail
        go_roundw
        case rel => exact ⟨k + 1, HLT.out, by go_num, HV.out, HB2.out⟩
        case measure => simp [intOf]; omega
    · have hd : decide ((k : Int) < (m : Int)) = false := by simp; omega
      obtain rfl : k = m := by omega
      go_wp2_with fail
      go_ret
      exact ⟨by rw [HI.out, List.drop_of_length_le (by rw [← HN.out]; exact Nat.le_refl _)]; rfl, HB.out⟩
end Go.Proofs.YtofadgmnjckpcaaGreatDoor
