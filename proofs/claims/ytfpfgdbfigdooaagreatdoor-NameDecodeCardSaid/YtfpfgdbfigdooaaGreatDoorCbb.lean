/-
  The contract of oid.Encode: the contents of the object identifier that the text is, if it is one.
  Names that a law holds in blocks of its own; the calls of Match and awake in a region that draws.
  A name that can be read: its relative names lie at its address, and their attributes at theirs.
-/
import Derived.Test.YtfpfgdbfigdooaaGreatDoorCaa
import Derived.Test.YtfpfgdbfigdooaaGreatDoorCba
import Derived.Test.YtfpfgdbfigdooaaGreatDoorCay
import Derived.Deep.DeepCutAuto
import Derived.Deep.RegionHeld3
import Derived.Lib.QuietBelow
import Derived.BigQuiet
import Derived.Test.YtfpfgdbfigdooaaGreatDoorCan
import Derived.ProofKit
import Derived.OpenShut
import Derived.Deep.Slices
import Derived.Deep.Strs
import Derived.Deep.DeepHandedRow
namespace Go.Proofs.YtfpfgdbfigdooaaGreatDoor
open Go.RowKit

def encVal (a : List Nat) : Value := .tuple #[.string (strOf (enc a)), .int .i64 0]
def noVal : Value := .tuple #[.string ⟨#[]⟩, .int .i64 11]

set_option maxRecDepth 100000 in
set_option maxHeartbeats 1000000 in
theorem enc_no {s : ByteArray} (h : ∀ a, ¬ Oid s.data.toList a) (w : World) (hs : s.size ≤ 1099511627) :
    Calls Tryz.prog 91 #[.string s] w fun e w' => e = .returned noVal ∧ Below w.heap.size w w' := by
  have HH := Lib.hid h
  clear h
  go_enter Tryz.func91, Tryz.ntmps91
  go_wp2_with (go_at_call 130; (with_reducible refine (arcs_no HH.out _ hs).mono ?_); rintro e w1 ⟨rfl, hb1⟩; have HB1 := Lib.hid hb1; clear hb1)
  go_ret2
  exact ⟨rfl, HB1.out⟩

theorem ILie.tail {w : World} {g : Nat} {x y : Nat} {r : List Nat} (h : ILie w g (x :: y :: r)) (k : Nat) (hk : k < r.length) : w.cell? ⟨g, 2 + k, none⟩ = some (.int .i64 ((r.getD k 0 : Nat) : Int)) := by
  have := h.2 (2 + k) (by simp; omega)
  rw [this]
  have e : (x :: y :: r).getD (2 + k) 0 = r.getD k 0 := by
    rw [show 2 + k = (k + 1) + 1 by omega]; simp
  rw [e]
theorem e128_len5 {a : List Nat} (h : ∀ v ∈ a, v < 34359738368) : (cat e128 a).length ≤ 5 * a.length := by
  induction a with
  | nil => simp [cat]
  | cons v a ih =>
    have h1 := e128_len v (h v (by simp))
    have h2 := ih (fun x hx => h x (by simp [hx]))
    simp only [cat, List.length_append, List.length_cons]; omega

set_option maxRecDepth 100000 in
set_option maxHeartbeats 1000000 in
theorem enc_yes {s : ByteArray} {a : List Nat} (h : Oid s.data.toList a) (w : World) (hs : s.size ≤ 1099511627) :
    Calls Tryz.prog 91 #[.string s] w fun e w' => e = .returned (encVal a) ∧ Below w.heap.size w w' := by
  have HH := Lib.hid h
  have hg := h.1
  obtain ⟨x, y, r, rfl⟩ : ∃ x y r, a = x :: y :: r := by
    match a, hg.1 with
    | x :: y :: r, _ => exact ⟨x, y, r, rfl⟩
  have hx : x ≤ 2 := by simpa using hg.2.2.2.1
  have hy : y ≤ 2147483647 := hg.2.2.1 y (by simp)
  have HR := Lib.hid (fun v (hv : v ∈ r) => hg.2.2.1 v (by simp [hv]))
  have hrl : r.length ≤ 10 := by have := hg.2.1; simp at this; omega
  obtain ⟨m, hm⟩ : ∃ m, m = 40 * x + y := ⟨_, rfl⟩
  have hwr : IntKind.i64.wrap (40 * (x : Int) + (y : Int)) = (m : Int) := by rw [wrap_i64]; omega
  have hwr2 : IntKind.i64.wrap (40 * (x : Int)) = 40 * (x : Int) := by rw [wrap_i64]; omega
  have hmb : m < 34359738368 := by omega
  have HM := Lib.hid hm
  clear hm
  clear h hg
  go_enter Tryz.func91, Tryz.ntmps91
  go_upto_region 4 with (go_at_call 130; (with_reducible refine (arcs_yes HH.out _ hs).mono ?_); rintro e w1 ⟨⟨g, cap, rfl, hl, hg, hcp⟩, hb1⟩; have HB1 := Lib.hid hb1; have HL1 := Lib.hid hl; have hc0 := hl.cell 0 (by simp); have hc1 := hl.cell 1 (by simp); clear hb1 hl hg)
  simp only [List.length_cons] at hcp
  simp only [List.getD_cons_zero, List.getD_cons_succ] at hc0 hc1
  go_region_with (go_at_call 131; (with_reducible refine (app_any _ [] m w1.heap.size _ hmb (by exact own_nil _ _ _) (by simp) (by simp)).mono ?_); rintro e w2 ⟨v2, rfl, ho2, hb2⟩; have HO2 := Lib.hid ho2; have HB2 := Lib.hid hb2; clear ho2 hb2)
  all_goals
    have HB3 := Lib.hid (show Below w1.heap.size w1 w2 from (Below.refl _ w1).drew.trans HB2.out)
    clear HB2 hwr hwr2 hc0 hc1
    go_wp2_with fail
  all_goals
    have HCP := Lib.hid hcp
    go_loopw [6, 28] (fun u i wr => ∃ (k : Nat) (D : List UInt8), k ≤ r.length ∧ i = .int .i64 (k : Int) ∧ D = cat e128 (m :: r.take k) ∧ OwnB 5 wr w1.heap.size u D ∧ Below w1.heap.size w1 wr) (fun _ i _ => r.length - (intOf i).toNat)
    case atStart => exact ⟨0, e128 m, by omega, rfl, by simp [cat], HO2.out, HB3.out⟩
    case round =>
      obtain ⟨k, D, hk, rfl, hD, ho, hb⟩ := hrel
      have HO := Lib.hid ho
      have HB := Lib.hid hb
      have HD := Lib.hid hD
      have hDl : D.length ≤ 5 * 13 := by
        rw [hD]
        refine Nat.le_trans (e128_len5 (fun v hv => ?_)) (by simp; omega)
        rcases List.mem_cons.1 hv with rfl | hv
        · exact hmb
        · exact Nat.lt_of_le_of_lt (HR.out v (List.mem_of_mem_take hv)) (by decide)
      have HDL := Lib.hid (show D.length ≤ 1099511627 by omega)
      have HSZ := Lib.hid hb.size
      clear ho hb hD hDl
      by_cases hlt : k < r.length
      · have hd : decide ((k : Int) < (r.length : Int)) = true := by simp; omega
        have hcx := (HL1.out.below HB.out).tail k hlt
        have hrm : r.getD k 0 ≤ 2147483647 := by
          rw [List.getD_eq_getElem?_getD, List.getElem?_eq_getElem hlt]
          exact HR.out _ (List.getElem_mem _)
        have HN := Lib.hid (show r.take (k + 1) = r.take k ++ [r.getD k 0] by
          rw [List.take_add_one, List.getElem?_eq_getElem hlt, List.getD_eq_getElem?_getD, List.getElem?_eq_getElem hlt]; rfl)
        generalize r.getD k 0 = z at hcx hrm HN
        have HZ := Lib.hid (show z < 34359738368 by omega)
        first
        | (exfalso; omega)
        | (go_wp2_with (go_at_call 131; (with_reducible refine (app_any _ D z w1.heap.size _ HZ.out HO.out HSZ.out HDL.out).mono ?_); rintro e w4 ⟨v4, rfl, ho4, hb4⟩; have HO4 := Lib.hid ho4; have HB4 := Lib.hid hb4; clear ho4 hb4)
           go_roundw
           case rel => exact ⟨k + 1, D ++ e128 z, by omega, by go_num, by rw [HD.out, HN.out]; simp only [cat]; rw [cat_append]; simp [cat], HO4.out, HB.out.trans HB4.out⟩
           case measure => simp [intOf]; omega)
      · obtain rfl : k = r.length := by omega
        have hd : decide ((r.length : Int) < (r.length : Int)) = false := by simp
        have hs2 := own_str HO.out
        go_wp2_with fail
        go_ret2
        refine ⟨?_, below_next HB1.out HB.out⟩
        have e : D = enc (x :: y :: r) := by rw [HD.out, List.take_of_length_le (Nat.le_refl _), HM.out]; rfl
        rw [e]; rfl
end Go.Proofs.YtfpfgdbfigdooaaGreatDoor
namespace Go.Proofs.YtfpfgdbfigdooaaGreatDoor
open Go.RowKit

/-- A name of a call's own, in block q. -/
def Held (w : World) (q lo : Nat) (n : Nm) : Prop := ∃ s, w.heap[q]? = some (.cells #[s] 24 (0, 0)) ∧ OwnN w lo s n
theorem Held.but {w w' : World} {p q lo : Nat} {n : Nm} (h : Held w q lo n) (hb : But p w w') (hq : p ≠ q) (hl : p < lo) : Held w' q lo n := by
  obtain ⟨s, h1, h2⟩ := h
  exact ⟨s, (hb.block q (Array.getElem?_eq_some_iff.1 h1).1 (by simp; omega)).trans h1, h2.but hb hl⟩
theorem next_up (p : Nat) (a : Option Addr) (cap : Nat) (zs : List Int) (k N : Nat) (w : World) (h : DeckAt w p a cap zs k) (hk : k < 1000) (hN : N ≤ 1000) :
    Calls Tryz.prog 12 #[.pointer (some ⟨p, 0, none⟩), .int .i64 ((N : Int) + 1)] w fun e w' => ∃ r k' : Nat, r < N + 1 ∧ e = .returned (.int .i64 (r : Int)) ∧ DeckAt w' p a cap zs k' ∧ k' ≤ k + 1 ∧ But p w w' :=
  next_any p a cap zs k (N + 1) w h hk (by omega) (by omega)
theorem deck_up {w : World} {p : Nat} {a : Option Addr} {cap : Nat} {zs : List Int} {k : Nat} (h : DeckAt w p a cap zs k) : DeckAt w.drew p a cap zs k := h.below (Below.refl _ w).drew
theorem spN_of_made {n : Nm} (h : MadeN n) : SpN 20 n := by
  refine ⟨h.1, fun r hr => ⟨(h.2 r hr).1.1, fun x hx => ?_⟩⟩
  have hm := (h.2 r hr).1.2.1 x hx
  have hall : ∀ y ∈ madeL, y.1.size ≤ 100 ∧ y.2.2.size ≤ 20 := by decide
  exact hall x hm
theorem small_of_sp {L : Nat} {n : Nm} (h : SpN L n) (hL : L ≤ 1000) : SmallN n := by
  refine ⟨Nat.le_trans h.1 (by omega), fun i hi => ?_⟩
  have hr := h.2 _ (getD_memS n i hi [])
  refine ⟨Nat.le_trans hr.1 (by omega), fun j hj => ?_⟩
  have hx := hr.2 _ (getD_memS _ j hj noAt)
  exact ⟨Nat.le_trans hx.1 (by omega), Nat.le_trans hx.2 (by omega)⟩

/-- A name that can be read: its slice lies in block q. -/
def HoldAt (V : World) (q : Nat) (a : Option Addr) (N c : Nat) (n : Nm) : Prop := V.cell? ⟨q, 0, none⟩ = some (.slice a N c) ∧ N = n.length ∧ N ≤ c ∧ RLies V a n ∧ SmallN n
theorem Held.open {w : World} {q lo L : Nat} {n : Nm} (h : Held w q lo n) (hs : SpN L n) (hL : L ≤ 1000) : ∃ a N c, HoldAt w q a N c n := by
  obtain ⟨s, h1, h2⟩ := h
  obtain ⟨a, c, rfl, hc, hl⟩ := h2.lies
  exact ⟨a, n.length, c, (one_facts h1).1, rfl, hc, hl, small_of_sp hs hL⟩
theorem HoldAt.below {w w' : World} {q N c : Nat} {a : Option Addr} {n : Nm} (h : HoldAt w q a N c n) (hb : Below w.heap.size w w') : HoldAt w' q a N c n :=
  ⟨(hb.cell (p := ⟨q, 0, none⟩) (block_lt h.1)).trans h.1, h.2.1, h.2.2.1, h.2.2.2.1.below hb, h.2.2.2.2⟩
theorem hold_match {V : World} {q1 N1 c1 q2 N2 c2 : Nat} {a1 a2 : Option Addr} {n1 n2 : Nm} (h1 : HoldAt V q1 a1 N1 c1 n1) (h2 : HoldAt V q2 a2 N2 c2 n2) (v : Bool) (hv : decide (MatchN n1 n2) = v) (d : Nat) (os : Array Obj) :
    Calls Tryz.prog 30 #[.agg #[.slice a1 N1 c1], .agg #[.slice a2 N2 c2]] (Sort.grow (redrawn V d) os) fun e w'' => e = .returned (.bool v) ∧ ∃ p : Regrown, w'' = Sort.grow (redrawn V p.d) p.os := by
  refine Calls.regrown_of ?_
  rw [← hv]
  exact match_core a1 a2 c1 c2 N1 N2 n1 n2 _ (h1.2.2.2.1.below (below_regrown V d os)) (h2.2.2.2.1.below (below_regrown V d os)) h1.2.1 h2.2.1 h1.2.2.2.2 h2.2.2.2.2
theorem awake_held {V : World} (hT : Tab V) (hS : ShT V) (d : Nat) (os : Array Obj) :
    Calls Tryz.prog 9 #[] (Sort.grow (redrawn V d) os) fun e w'' => e = .returned (.bool true) ∧ ∃ p : Regrown, w'' = Sort.grow (redrawn V p.d) p.os :=
  Calls.regrown_of (awake_any _ (hT.below (below_regrown V d os)) (hS.below (below_regrown V d os)))

end Go.Proofs.YtfpfgdbfigdooaaGreatDoor
namespace Go.Proofs.YtfpfgdbfigdooaaGreatDoor
open Go.ChangeShapes Go.WideShapes Go.ChangeAt Go.RowKit Go.ChangeMaps Go.Deep

def AtOk (a : At) : Prop := a.1.size ≤ 9223372036854775807 ∧ a.2.2.size ≤ 9223372036854775807 ∧ -9223372036854775808 ≤ a.2.1 ∧ a.2.1 ≤ 9223372036854775807
def RdnOk (r : List At) : Prop := r.length ≤ 9223372036854775807 ∧ ∀ i, i < r.length → AtOk (r.getD i noAt)
def NameOk (n : Nm) : Prop := n.length ≤ 9223372036854775807 ∧ ∀ i, i < n.length → RdnOk (n.getD i [])

theorem getD_map_range {α : Type} (f : Nat → α) (n i : Nat) (h : i < n) (d : α) : ((List.range n).map f).getD i d = f i := by
  rw [List.getD_eq_getElem?_getD, List.getElem?_map, List.getElem?_range h]; rfl
set_option maxRecDepth 10000 in
/-- One attribute, of three cells. -/
theorem open_at {H : Type} {enc : TypeId × Value → H} {W : World} {n : Nat} {cs : List Value} {x : DataW H × List MemPlace} (h : DataW.trod enc Tryz.prog W 0 (fun _ => true) true n 27 cs = some x) :
    ∃ t : At, cs = [.string t.1, .int .i64 t.2.1, .string t.2.2] ∧ AtOk t := by
  obtain ⟨xs, k, _, _, hl, hlen, hfd⟩ := DataW.trod_struct Tryz.underlying27 h
  have c1 : Tryz.prog.cellsOf 3 = 1 := by kernel_rfl
  have c2 : Tryz.prog.cellsOf 9 = 1 := by kernel_rfl
  have c3 : Tryz.prog.cellsOf 27 = 3 := by kernel_rfl
  have hlen3 : xs.length = 3 := hlen
  have hs3 : cs.length = 3 := hl.trans c3
  match xs, hlen3 with
  | [y0, y1, y2], _ =>
    match cs, hs3 with
    | [z0, z1, z2], _ =>
      have g0 : DataW.trod enc Tryz.prog W 0 (fun _ => true) true k 9 (([z0, z1, z2].drop 0).take (Tryz.prog.cellsOf 9)) = some y0 := hfd 0 _ rfl
      rw [c2] at g0
      obtain ⟨s0, e0, _, w0⟩ := DataW.trod_string Tryz.underlying9 g0
      have g1 : DataW.trod enc Tryz.prog W 0 (fun _ => true) true k 3 (([z0, z1, z2].drop 1).take (Tryz.prog.cellsOf 3)) = some y1 := hfd 1 _ rfl
      rw [c1] at g1
      obtain ⟨n1, e1, _, w1⟩ := DataW.trod_int Tryz.underlying3 g1
      have g2 : DataW.trod enc Tryz.prog W 0 (fun _ => true) true k 9 (([z0, z1, z2].drop 2).take (Tryz.prog.cellsOf 9)) = some y2 := hfd 2 _ rfl
      rw [c2] at g2
      obtain ⟨s2, e2, _, w2⟩ := DataW.trod_string Tryz.underlying9 g2
      have r0 : z0 = .string s0 := by simpa using e0
      have r1 : z1 = .int .i64 n1 := by simpa using e1
      have r2 : z2 = .string s2 := by simpa using e2
      have b1 := bounds_i64 w1
      refine ⟨(s0, n1, s2), by rw [r0, r1, r2], ?_, ?_, ?_, ?_⟩
      · show s0.size ≤ _
        unfold maxLen at w0; omega
      · show s2.size ≤ _
        unfold maxLen at w2; omega
      · exact b1.1
      · exact b1.2
set_option maxRecDepth 10000 in
theorem open_ats {H : Type} {enc : TypeId × Value → H} {W : World} {n : Nat} {z : Value} {x : DataW H × List MemPlace} (h : DataW.trod enc Tryz.prog W 0 (fun _ => true) true n 33 [z] = some x) :
    ∃ a c, ∃ l : List At, z = .slice a l.length c ∧ l.length ≤ c ∧ ALies W a l ∧ RdnOk l := by
  have c3 : Tryz.prog.cellsOf 27 = 3 := by kernel_rfl
  rcases open_slice Tryz.underlying33 h with ⟨hcs, _⟩ | ⟨a, len, cap, m, k, D, Pl, hcs, _, hl, hm, hmm, _, hx⟩
  · exact ⟨none, 0, [], by simpa using hcs, by simp, .inl rfl, by simp, fun i hi => absurd hi (Nat.not_lt_zero _)⟩
  · have hlm : len ≤ m := by rw [hmm]; split <;> omega
    obtain ⟨f, hf⟩ := choose_lt (α := At) (n := len) (p := fun i t => AtOk t ∧ W.cell? (a.add (i * 3)) = some (.string t.1) ∧ W.cell? (a.add (i * 3 + 1)) = some (.int .i64 t.2.1) ∧ W.cell? (a.add (i * 3 + 2)) = some (.string t.2.2)) (fun i hi => by
      obtain ⟨cs', h1, h2⟩ := hx i (by omega)
      obtain ⟨t, rfl, ht⟩ := open_at h2
      rw [c3] at h1
      obtain ⟨_, _, hc⟩ := World.cells?_some h1
      have e0 := hc 0 (by omega)
      have e1 := hc 1 (by omega)
      have e2 := hc 2 (by omega)
      rw [add_add] at e0 e1 e2
      exact ⟨t, ht, by simpa using e0, by simpa using e1, by simpa using e2⟩)
    refine ⟨some a, cap, (List.range len).map f, by simpa using hcs, by simpa using hl, ?_, by simp; unfold maxLen at hm; omega, fun i hi => ?_⟩
    · by_cases h0 : len = 0
      · exact .inl (by rw [h0]; rfl)
      · obtain ⟨b, off, spot⟩ := a
        have hspot : spot = none := by
          have := (hf 0 (by omega)).2.1
          simpa [Addr.add] using World.cell?_spot this
        subst hspot
        refine .inr ⟨b, off, rfl, fun i hi => ?_⟩
        simp at hi
        rw [getD_map_range _ _ _ hi]
        have hh := (hf i hi).2
        rw [Go.WideShapes.add_plain, Go.WideShapes.add_plain, Go.WideShapes.add_plain] at hh
        simpa [Nat.add_assoc] using hh
    · simp at hi
      rw [getD_map_range _ _ _ hi]
      exact (hf i hi).1
set_option maxRecDepth 10000 in
theorem open_rdns {H : Type} {enc : TypeId × Value → H} {W : World} {n : Nat} {z : Value} {x : DataW H × List MemPlace} (h : DataW.trod enc Tryz.prog W 0 (fun _ => true) true n 22 [z] = some x) :
    ∃ a c, ∃ l : Nm, z = .slice a l.length c ∧ l.length ≤ c ∧ RLies W a l ∧ NameOk l := by
  have c1 : Tryz.prog.cellsOf 33 = 1 := by kernel_rfl
  rcases open_slice1 Tryz.underlying22 c1 h with ⟨hcs, _⟩ | ⟨a, len, cap, m, k, V, D, Pl, hcs, _, hl, hm, hmm, _, hx⟩
  · exact ⟨none, 0, [], by simpa using hcs, by simp, .inl rfl, by simp, fun i hi => absurd hi (Nat.not_lt_zero _)⟩
  · have hlm : len ≤ m := by rw [hmm]; split <;> omega
    obtain ⟨f, hf⟩ := choose_lt (α := List At) (n := len) (p := fun i r => RdnOk r ∧ ∃ a' c', W.cell? (a.add i) = some (.slice a' r.length c') ∧ r.length ≤ c' ∧ ALies W a' r) (fun i hi => by
      obtain ⟨h1, h2⟩ := hx i (by omega)
      obtain ⟨a', c', l, e, hl3, hl, hk⟩ := open_ats h2
      exact ⟨l, hk, a', c', by rw [← e]; exact h1, hl3, hl⟩)
    refine ⟨some a, cap, (List.range len).map f, by simpa using hcs, by simpa using hl, ?_, by simp; unfold maxLen at hm; omega, fun i hi => ?_⟩
    · by_cases h0 : len = 0
      · exact .inl (by rw [h0]; rfl)
      · obtain ⟨b, off, spot⟩ := a
        have hspot : spot = none := by
          obtain ⟨_, _, _, q, _⟩ := hf 0 (by omega)
          simpa [Addr.add] using World.cell?_spot q
        subst hspot
        refine .inr ⟨b, off, rfl, fun i hi => ?_⟩
        simp at hi
        rw [getD_map_range _ _ _ hi]
        obtain ⟨_, a', c', q1, q3, q2⟩ := hf i hi
        rw [Go.WideShapes.add_plain] at q1
        exact ⟨a', c', q1, q3, q2⟩
    · simp at hi
      rw [getD_map_range _ _ _ hi]
      exact (hf i hi).1
set_option maxRecDepth 10000 in
theorem open_name {H : Type} {enc : TypeId × Value → H} {W : World} {r : Reach} {b0 : Nat} {v : Value} {d : DataW H} {p : List MemPlace}
    (hval : Value.okWide Tryz.prog W r b0 24 v) (h : DataW.Trod enc Tryz.prog W 0 (fun _ => true) true 24 v d p) : ∃ n, NameV W v n ∧ NameOk n := by
  unfold Value.okWide at hval
  rw [Tryz.underlying24] at hval
  obtain ⟨cs, rfl, hsz, _⟩ := hval
  obtain ⟨fuel, hf⟩ := h
  have cb : Tryz.prog.cellsOf 22 = 1 := by kernel_rfl
  obtain ⟨xs, k, _, _, _, hlen, hfd⟩ := DataW.trod_struct Tryz.underlying24 hf
  have hlen1 : xs.length = 1 := hlen
  have hs1 : cs.toList.length = 1 := hsz
  match xs, hlen1 with
  | [y0], _ =>
    match hcs : cs.toList, hs1 with
    | [z0], _ =>
      have hcl : (Value.agg cs).cells.toList = [z0] := hcs
      rw [hcl] at hfd
      have g0 : DataW.trod enc Tryz.prog W 0 (fun _ => true) true k 22 (([z0].drop 0).take (Tryz.prog.cellsOf 22)) = some y0 := hfd 0 _ rfl
      rw [cb] at g0
      obtain ⟨a, c, n, e, h3, h1, h2⟩ := open_rdns (z := z0) (by simpa using g0)
      refine ⟨n, ⟨a, c, ?_, h3, h1⟩, h2⟩
      congr 1
      apply Array.toList_inj.1
      rw [hcs, e]
end Go.Proofs.YtfpfgdbfigdooaaGreatDoor
