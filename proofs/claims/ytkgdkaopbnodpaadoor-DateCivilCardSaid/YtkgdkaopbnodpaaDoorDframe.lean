/-
  What every card of this seat's laws over date needs: the table of the months' days that the rows list, how a date is opened, and that the laws' functions only read what they are handed.
-/
import Derived.Test.YtkgdkaopbnodpaaDoorCards
import Derived.Test.YtkgdkaopbnodpaaDoorTie
import Derived.Test.YtkgdkaopbnodpaaDoorDnear
import Derived.ProofKit
import Derived.OpenShut
import Derived.Deep.DeepHandedRow
import Derived.Lib.LaidTab
import Derived.Lay
import Derived.Stop.LaidErr
namespace Go.Proofs.YtkgdkaopbnodpaaDoor
open Go.ChangeShapes Go.WideShapes Go.ChangeAt Go.RowKit Go.ChangeMaps

theorem own : ownKnob Tryd.prog.godebug = none := by kernel_rfl
theorem laidOut : laidOutB Tryd.prog = true := by kernel_rfl

/-- What was handed in reads as it read, for a call that leaves old memory alone. -/
theorem below_trodAll {H : Type} {enc : TypeId × Value → H} {W W' : World} (hb : Below W.heap.size W W') :
    ∀ (ts : List TypeId) (vs : List Value) (ds : List (DataW H)) (ps : List MemPlace), (∀ t ∈ ts, Tryd.prog.readableRec t = true ∧ t < Tryd.prog.types.size) → (∀ x ∈ ps, x.block < W.heap.size) →
      DataW.TrodAll enc Tryd.prog W 0 (fun _ => true) true ts vs ds ps → DataW.TrodAll enc Tryd.prog W' 0 (fun b => decide (b < W.heap.size)) true ts vs ds ps := by
  intro ts
  induction ts with
  | nil => intro vs ds ps _ _ h; obtain ⟨rfl, rfl, rfl⟩ := trodAll_nil h; exact trodAll_mk0
  | cons t ts ih =>
    intro vs ds ps ht hp h
    obtain ⟨v, vs', d, ds', p, q, rfl, rfl, rfl, h1, h2⟩ := trodAll_cons h
    exact trodAll_cons_mk (Below.trod laidOut (ht t (by simp)).1 (ht t (by simp)).2 h1 hb (fun x hx => hp x (by simp [hx]))) (ih vs' ds' q (fun u hu => ht u (by simp [hu])) (fun x hx => hp x (by simp [hx])) h2)


/-- What the rows' list gives: the table's cells hold the days of the months. -/
theorem mon_laid {W : World} (h : laidMetH Tryd.prog [("certpath/date.monthDays", Rows.laid_certpath_date_monthDays)] W) : Mon W := by
  have t : Lib.TabIs Tryd.prog W "certpath/date.monthDays" .i64 [31, 28, 31, 30, 31, 30, 31, 31, 30, 31, 30, 31] :=
    Lib.tabIs_of_head (rest := []) (g := 0) (t := 61) (e := 3) (n := 12) (by kernel_rfl) (by kernel_rfl) Tryd.underlying61 Tryd.underlying3 (by kernel_rfl) (by kernel_rfl) h
  intro j hj
  have hc := t.cell (g := 0) (by kernel_rfl) j (by simpa using hj)
  rw [hc]
  rcases (by omega : j = 0 ∨ j = 1 ∨ j = 2 ∨ j = 3 ∨ j = 4 ∨ j = 5 ∨ j = 6 ∨ j = 7 ∨ j = 8 ∨ j = 9 ∨ j = 10 ∨ j = 11) with rfl | rfl | rfl | rfl | rfl | rfl | rfl | rfl | rfl | rfl | rfl | rfl <;> rfl

/-- A date that can be read is six numbers. -/
theorem open_date {H : Type} {enc : TypeId × Value → H} {W : World} {r : Reach} {b0 : Nat} {v : Value} {d : DataW H} {p : List MemPlace}
    (hval : Value.okWide Tryd.prog W r b0 27 v) (h : DataW.Trod enc Tryd.prog W 0 (fun _ => true) true 27 v d p) :
    ∃ a b c x e f : Int, v = dtv a b c x e f ∧ p = [] ∧ I64 a ∧ I64 b ∧ I64 c ∧ I64 x ∧ I64 e ∧ I64 f := by
  unfold Value.okWide at hval
  rw [Tryd.underlying27] at hval
  obtain ⟨cs, rfl, hsz, _⟩ := hval
  obtain ⟨fuel, hf⟩ := h
  have cb : Tryd.prog.cellsOf 3 = 1 := by kernel_rfl
  obtain ⟨xs, n, _, hx, hl, hlen, hfd⟩ := DataW.trod_struct Tryd.underlying27 hf
  have hlen6 : xs.length = 6 := hlen
  have hs6 : cs.toList.length = 6 := hsz
  match xs, hlen6 with
  | [y0, y1, y2, y3, y4, y5], _ =>
    match hcs : cs.toList, hs6 with
    | [z0, z1, z2, z3, z4, z5], _ =>
      have hcl : (Value.agg cs).cells.toList = [z0, z1, z2, z3, z4, z5] := hcs
      rw [hcl] at hfd
      have g0 : DataW.trod enc Tryd.prog W 0 (fun _ => true) true n 3 (([z0, z1, z2, z3, z4, z5].drop 0).take (Tryd.prog.cellsOf 3)) = some y0 := hfd 0 _ rfl
      rw [cb] at g0
      obtain ⟨n0, e0, x0, w0⟩ := DataW.trod_int Tryd.underlying3 g0
      have r0 : z0 = .int .i64 n0 := by simpa using e0
      have g1 : DataW.trod enc Tryd.prog W 0 (fun _ => true) true n 3 (([z0, z1, z2, z3, z4, z5].drop 1).take (Tryd.prog.cellsOf 3)) = some y1 := hfd 1 _ rfl
      rw [cb] at g1
      obtain ⟨n1, e1, x1, w1⟩ := DataW.trod_int Tryd.underlying3 g1
      have r1 : z1 = .int .i64 n1 := by simpa using e1
      have g2 : DataW.trod enc Tryd.prog W 0 (fun _ => true) true n 3 (([z0, z1, z2, z3, z4, z5].drop 2).take (Tryd.prog.cellsOf 3)) = some y2 := hfd 2 _ rfl
      rw [cb] at g2
      obtain ⟨n2, e2, x2, w2⟩ := DataW.trod_int Tryd.underlying3 g2
      have r2 : z2 = .int .i64 n2 := by simpa using e2
      have g3 : DataW.trod enc Tryd.prog W 0 (fun _ => true) true n 3 (([z0, z1, z2, z3, z4, z5].drop 3).take (Tryd.prog.cellsOf 3)) = some y3 := hfd 3 _ rfl
      rw [cb] at g3
      obtain ⟨n3, e3, x3, w3⟩ := DataW.trod_int Tryd.underlying3 g3
      have r3 : z3 = .int .i64 n3 := by simpa using e3
      have g4 : DataW.trod enc Tryd.prog W 0 (fun _ => true) true n 3 (([z0, z1, z2, z3, z4, z5].drop 4).take (Tryd.prog.cellsOf 3)) = some y4 := hfd 4 _ rfl
      rw [cb] at g4
      obtain ⟨n4, e4, x4, w4⟩ := DataW.trod_int Tryd.underlying3 g4
      have r4 : z4 = .int .i64 n4 := by simpa using e4
      have g5 : DataW.trod enc Tryd.prog W 0 (fun _ => true) true n 3 (([z0, z1, z2, z3, z4, z5].drop 5).take (Tryd.prog.cellsOf 3)) = some y5 := hfd 5 _ rfl
      rw [cb] at g5
      obtain ⟨n5, e5, x5, w5⟩ := DataW.trod_int Tryd.underlying3 g5
      have r5 : z5 = .int .i64 n5 := by simpa using e5
      subst r0 r1 r2 r3 r4 r5
      refine ⟨n0, n1, n2, n3, n4, n5, ?_, ?_, bounds_i64 w0, bounds_i64 w1, bounds_i64 w2, bounds_i64 w3, bounds_i64 w4, bounds_i64 w5⟩
      · congr 1
        exact Array.toList_inj.1 hcs
      · have hp := congrArg Prod.snd hx
        rw [x0, x1, x2, x3, x4, x5] at hp
        simpa using hp
end Go.Proofs.YtkgdkaopbnodpaaDoor
