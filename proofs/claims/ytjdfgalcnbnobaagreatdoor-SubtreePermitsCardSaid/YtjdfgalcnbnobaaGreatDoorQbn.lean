/-
  What every card of this seat's laws over subtree needs: the tables that the rows list.
-/
import Derived.Test.YtjdfgalcnbnobaaGreatDoorCards
import Derived.Test.YtjdfgalcnbnobaaGreatDoorTie
import Derived.Test.YtjdfgalcnbnobaaGreatDoorQat
import Derived.Test.YtjdfgalcnbnobaaGreatDoorQbj
import Derived.ProofKit
import Derived.OpenShut
import Derived.ChangeSame
import Derived.Deep.DeepHandedRow
import Derived.Lib.LaidU8
import Derived.Lay
import Derived.Stop.LaidErr
namespace Go.Proofs.YtjdfgalcnbnobaaGreatDoor
open Go.ChangeShapes Go.WideShapes Go.ChangeAt Go.RowKit Go.ChangeMaps

theorem ints_str {P : Program} {w : World} {base : Nat} {sp : Nat → Bool} {held : Bool} {fuel : Nat} {t i s : TypeId} {f0 f1 f2 : Field} {cs : List Value} {x y : Int} {z : List UInt8} {q : List MemPlace} (hu : P.underlying t = some (.struct #[f0, f1, f2])) (hi : P.underlying i = some (.int .i64)) (hs : P.underlying s = some .string)
    (t0 : f0.type = i) (t1 : f1.type = i) (t2 : f2.type = s) (o0 : f0.offset = 0) (o1 : f1.offset = 1) (o2 : f2.offset = 2) (c1 : P.cellsOf i = 1) (c2 : P.cellsOf s = 1) (c3 : P.cellsOf t = 3) (h : DataW.trod (fun _ : TypeId × Value => ()) P w base sp held fuel t cs = some (.agg [.lit (.int .i64 x), .lit (.int .i64 y), .lit (.string z)], q)) :
    cs = [.int .i64 x, .int .i64 y, .string (strOf z)] := by
  obtain ⟨xs, k, e, hx, hl, hlen, hfd⟩ := DataW.trod_struct hu h
  have hlen3 : xs.length = 3 := hlen
  have hs3 : cs.length = 3 := hl.trans c3
  match xs, hlen3 with
  | [y0, y1, y2], _ =>
    match cs, hs3 with
    | [z0, z1, z2], _ =>
      have g0 : DataW.trod _ P w base sp held k f0.type (([z0, z1, z2].drop f0.offset).take (P.cellsOf f0.type)) = some y0 := hfd 0 _ rfl
      have g1 : DataW.trod _ P w base sp held k f1.type (([z0, z1, z2].drop f1.offset).take (P.cellsOf f1.type)) = some y1 := hfd 1 _ rfl
      have g2 : DataW.trod _ P w base sp held k f2.type (([z0, z1, z2].drop f2.offset).take (P.cellsOf f2.type)) = some y2 := hfd 2 _ rfl
      rw [t0, o0, c1] at g0
      rw [t1, o1, c1] at g1
      rw [t2, o2, c2] at g2
      obtain ⟨a0, e0, x0, _⟩ := DataW.trod_int hi g0
      obtain ⟨a1, e1, x1, _⟩ := DataW.trod_int hi g1
      obtain ⟨a2, e2, x2, _⟩ := DataW.trod_string hs g2
      have r0 : z0 = .int .i64 a0 := by simpa using e0
      have r1 : z1 = .int .i64 a1 := by simpa using e1
      have r2 : z2 = .string a2 := by simpa using e2
      have ex := congrArg Prod.fst hx
      rw [x0, x1, x2] at ex
      simp at ex
      obtain ⟨h0, h1, h2⟩ := ex
      rw [r0, r1, r2, h0, h1, strOf_of (b := a2) (l := z) h2.symm]
theorem kd_reads {W : World} (h : Lib.VarReads Tryz.prog W "certpath/gname.kinds" Rows.laid_certpath_gname_kinds) : KdT W := by
  obtain ⟨g, t, cs, fuel, p, hg, hty, hvar, hd⟩ := h
  obtain rfl : 1 = g := Option.some.inj ((show Tryz.prog.globalNamed "certpath/gname.kinds" = some 1 by kernel_rfl).symm.trans hg)
  obtain rfl : 102 = t := Option.some.inj ((show (Tryz.prog.globals[1]?).map (·.type) = some 102 by kernel_rfl).symm.trans hty)
  have c1 : Tryz.prog.cellsOf 3 = 1 := by kernel_rfl
  have c2 : Tryz.prog.cellsOf 9 = 1 := by kernel_rfl
  have c3 : Tryz.prog.cellsOf 101 = 3 := by kernel_rfl
  unfold Rows.laid_certpath_gname_kinds at hd
  have key : ∀ i (hi : i < 4) (x y : Int) (z : List UInt8), ([(1, 129, [109, 97, 105, 108, 58]), (2, 130, [100, 110, 115, 58]), (4, 164, [100, 105, 114, 58]), (7, 135, [105, 112, 58])] : List (Int × Int × List UInt8))[i]? = some (x, y, z) → cs[i * 3]? = some (.int .i64 x) ∧ cs[i * 3 + 1]? = some (.int .i64 y) ∧ cs[i * 3 + 2]? = some (.string (strOf z)) := by
    intro i hi x y z hxy
    obtain ⟨fuel', d, q, hdi, he⟩ := Lib.array_elem Tryz.underlying102 hd i hi
    have hd2 : d = .agg [.lit (.int .i64 x), .lit (.int .i64 y), .lit (.string z)] := by
      rcases (by omega : i = 0 ∨ i = 1 ∨ i = 2 ∨ i = 3) with rfl | rfl | rfl | rfl <;> (simp at hxy hdi; obtain ⟨rfl, rfl, rfl⟩ := hxy; exact hdi.symm)
    subst hd2
    rw [c3] at he
    have hcs := ints_str Tryz.underlying101 Tryz.underlying3 Tryz.underlying9 rfl rfl rfl rfl rfl rfl c1 c2 c3 he
    have e0 := congrArg (·[0]?) hcs
    have e1 := congrArg (·[1]?) hcs
    have e2 := congrArg (·[2]?) hcs
    simp only [List.getElem?_take, List.getElem?_drop] at e0 e1 e2
    exact ⟨by rw [← Array.getElem?_toList]; simpa using e0, by rw [← Array.getElem?_toList]; simpa using e1, by rw [← Array.getElem?_toList]; simpa using e2⟩
  intro j hj
  rw [World.var?_cell hg hvar j]
  rcases (by omega : j = 0 ∨ j = 1 ∨ j = 2 ∨ j = 3 ∨ j = 4 ∨ j = 5 ∨ j = 6 ∨ j = 7 ∨ j = 8 ∨ j = 9 ∨ j = 10 ∨ j = 11) with rfl | rfl | rfl | rfl | rfl | rfl | rfl | rfl | rfl | rfl | rfl | rfl
  · exact (key 0 (by omega) _ _ _ rfl).1
  · exact (key 0 (by omega) _ _ _ rfl).2.1
  · exact (key 0 (by omega) _ _ _ rfl).2.2
  · exact (key 1 (by omega) _ _ _ rfl).1
  · exact (key 1 (by omega) _ _ _ rfl).2.1
  · exact (key 1 (by omega) _ _ _ rfl).2.2
  · exact (key 2 (by omega) _ _ _ rfl).1
  · exact (key 2 (by omega) _ _ _ rfl).2.1
  · exact (key 2 (by omega) _ _ _ rfl).2.2
  · exact (key 3 (by omega) _ _ _ rfl).1
  · exact (key 3 (by omega) _ _ _ rfl).2.1
  · exact (key 3 (by omega) _ _ _ rfl).2.2
theorem kd_met {W : World} {L : List (String × DataW Unit)} (h : laidMet Tryz.prog L W) (h1 : ("certpath/gname.kinds", Rows.laid_certpath_gname_kinds) ∈ L) : KdT W := kd_reads (Lib.laidMet.reads h h1)
abbrev laidS : List (String × DataW Unit) := [("unicode/utf8.acceptRanges", Rows.laid_unicode_utf8_acceptRanges), ("unicode.asciiFold", Rows.laid_unicode_asciiFold), ("unicode.caseOrbit", Rows.laid_unicode_caseOrbit), ("certpath/gname.kinds", Rows.laid_certpath_gname_kinds), ("unicode.CaseRanges", Rows.laid_unicode_CaseRanges), ("unicode/utf8.first", Rows.laid_unicode_utf8_first)]
theorem kd_laidS {W : World} (h : laidMetH Tryz.prog laidS W) : KdT W := by
  rw [MakeChecks.laidMetH_plain _ _ _ (by kernel_rfl)] at h
  have h' : laidMet Tryz.prog laidS W := h
  exact kd_met h' (.tail _ (.tail _ (.tail _ (.head _))))
end Go.Proofs.YtjdfgalcnbnobaaGreatDoor
