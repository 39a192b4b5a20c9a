/-
  A general name that can be read: its cells, and what lies behind its name.
  What every card of this seat's laws over gname needs: how a slice of bytes is opened, how seven arguments are opened, and that the laws' functions only read what they are handed.
  A slice of numbers that can be read: its numbers lie at its address.
  What every card of this seat's laws over gname needs: the tables that the rows list.
  The contracts of gname's small and equal: whether two texts differ in case only.
  The contracts of gname's sameMail, Same, Match and Within.
  The contracts of gname's Check, Encode, Same, Match and Within, as the laws want them.
-/
import Derived.Test.YtflpajbcomhkpaaGreatDoorUbn
import Derived.Test.YtflpajbcomhkpaaGreatDoorUaz
import Derived.Test.YtflpajbcomhkpaaGreatDoorCards
import Derived.Test.YtflpajbcomhkpaaGreatDoorTie
import Derived.Test.YtflpajbcomhkpaaGreatDoorUav
import Derived.Test.YtflpajbcomhkpaaGreatDoorUai
import Derived.ProofKit
import Derived.OpenShut
import Derived.Deep.DeepHandedRow
import Derived.Deep.DeepWitnessRowRef
import Derived.Lay
import Derived.Stop.LaidErr
import Derived.Test.YtflpajbcomhkpaaGreatDoorUaf
import Derived.Test.YtflpajbcomhkpaaGreatDoorUaa
import Derived.Lib.LaidIn
import Derived.Test.YtflpajbcomhkpaaGreatDoorUak
import Derived.ChangeSame
import Derived.Lib.LaidU8T
import Derived.Test.YtflpajbcomhkpaaGreatDoorUax
import Derived.Test.YtflpajbcomhkpaaGreatDoorUae
import Derived.Deep.CutRange
import Derived.Deep.DeepCutAuto
import Derived.Deep.RegionWith
import Derived.Lib.QuietBelow
import Derived.BigQuiet
import Derived.Test.YtflpajbcomhkpaaGreatDoorUbk
import Derived.Test.YtflpajbcomhkpaaGreatDoorUaj
import Derived.Test.YtflpajbcomhkpaaGreatDoorUbi
namespace Go.Proofs.YtflpajbcomhkpaaGreatDoor
open Go.ChangeShapes Go.WideShapes Go.ChangeAt Go.RowKit Go.ChangeMaps Go.Deep

end Go.Proofs.YtflpajbcomhkpaaGreatDoor
namespace Go.Proofs.YtflpajbcomhkpaaGreatDoor
open Go.ChangeShapes Go.WideShapes Go.ChangeAt Go.RowKit Go.ChangeMaps

theorem own : ownKnob Tryz.prog.godebug = none := by kernel_rfl

/-- What was handed in reads as it read, for a call that leaves old memory alone. -/
theorem below_trodAll {H : Type} {enc : TypeId × Value → H} {W W' : World} (hb : Below W.heap.size W W') :
    ∀ (ts : List TypeId) (vs : List Value) (ds : List (DataW H)) (ps : List MemPlace), (∀ t ∈ ts, Tryz.prog.readableRec t = true ∧ t < Tryz.prog.types.size) → (∀ x ∈ ps, x.block < W.heap.size) →
      DataW.TrodAll enc Tryz.prog W 0 (fun _ => true) true ts vs ds ps → DataW.TrodAll enc Tryz.prog W' 0 (fun b => decide (b < W.heap.size)) true ts vs ds ps := by
  intro ts
  induction ts with
  | nil => intro vs ds ps _ _ h; obtain ⟨rfl, rfl, rfl⟩ := trodAll_nil h; exact trodAll_mk0
  | cons t ts ih =>
    intro vs ds ps ht hp h
    obtain ⟨v, vs', d, ds', p, q, rfl, rfl, rfl, h1, h2⟩ := trodAll_cons h
    exact trodAll_cons_mk (Below.trod laidOut (ht t (by simp)).1 (ht t (by simp)).2 h1 hb (fun x hx => hp x (by simp [hx]))) (ih vs' ds' q (fun u hu => ht u (by simp [hu])) (fun x hx => hp x (by simp [hx])) h2)

end Go.Proofs.YtflpajbcomhkpaaGreatDoor
namespace Go.Proofs.YtflpajbcomhkpaaGreatDoor
open Go.ChangeShapes Go.WideShapes Go.ChangeAt Go.RowKit

set_option maxRecDepth 10000 in
theorem open_nums {H : Type} {enc : TypeId × Value → H} {W : World} {a0 : Option Addr} {len cap : Nat} {d : DataW H} {p : List MemPlace}
    (h : DataW.Trod enc Tryz.prog W 0 (fun _ => true) true 24 (.slice a0 len cap) d p) : ∃ zs : List Int, len = zs.length ∧ ILies W a0 zs ∧ zs.length ≤ 9223372036854775807 := by
  obtain ⟨fuel, hf⟩ := h
  have cb : Tryz.prog.cellsOf 3 = 1 := by kernel_rfl
  rcases open_ints Tryz.underlying24 Tryz.underlying3 cb hf with ⟨hcs, _⟩ | ⟨a, len', cap', zs, hcs, _, hl, hcm, hz, _, hcell, _⟩
  · simp [Value.cells] at hcs
    obtain ⟨rfl, rfl, rfl⟩ := hcs
    exact ⟨[], rfl, .inl rfl, by simp⟩
  · simp [Value.cells] at hcs
    obtain ⟨rfl, rfl, rfl⟩ := hcs
    by_cases h0 : len = 0
    · subst h0
      exact ⟨[], rfl, .inl rfl, by simp⟩
    · have hzl : len ≤ zs.length := by rw [hz]; simpa using hl
      obtain ⟨b, off, rfl, hc⟩ := ints_at hcell (by omega)
      have e : (zs.take len).length = len := by rw [List.length_take]; omega
      refine ⟨zs.take len, e.symm, .inr ⟨b, off, rfl, fun i hi => ?_⟩, by rw [e]; unfold maxLen at hcm; omega⟩
      rw [e] at hi
      rw [hc i (by omega)]
      congr 2
      rw [List.getD_eq_getElem?_getD, List.getD_eq_getElem?_getD, List.getElem?_take_of_lt hi]

end Go.Proofs.YtflpajbcomhkpaaGreatDoor
namespace Go.Proofs.YtflpajbcomhkpaaGreatDoor
open Go.ChangeShapes Go.WideShapes Go.ChangeAt Go.RowKit Go.ChangeMaps

theorem first_data : (Rows.laid_unicode_utf8_first : DataW Unit) = Lib.firstData := by kernel_rfl
theorem accept_data : (Rows.laid_unicode_utf8_acceptRanges : DataW Unit) = Lib.acceptData := by kernel_rfl
/-- What the rows' list gives: the tables lie. -/
theorem tab_met {W : World} {L : List (String × DataW Unit)} (h : laidMet Tryz.prog L W) (h1 : ("unicode/utf8.first", Rows.laid_unicode_utf8_first) ∈ L) (h2 : ("unicode/utf8.acceptRanges", Rows.laid_unicode_utf8_acceptRanges) ∈ L) : Tab W := by
  rw [first_data] at h1
  rw [accept_data] at h2
  exact utf8Tabs_of_readsT (U8Types.of196 lays196) ⟨by kernel_rfl, by kernel_rfl, by kernel_rfl, by kernel_rfl, by kernel_rfl, by kernel_rfl, by kernel_rfl⟩ (Lib.laidMet.reads h h1) (Lib.laidMet.reads h h2)
theorem ints_str {P : Program} {w : World} {base : Nat} {sp : Nat → Bool} {held : Bool} {fuel : Nat} {t i s : TypeId} {f0 f1 f2 : Field} {cs : List Value} {x y : Int} {z : List UInt8} {q : List MemPlace} (hu : P.underlying t = some (.struct #[f0, f1, f2])) (hi : P.underlying i = some (.int .i64)) (hs : P.underlying s = some .string)
    (t0 : f0.type = i) (t1 : f1.type = i) (t2 : f2.type = s) (o0 : f0.offset = 0) (o1 : f1.offset = 1) (o2 : f2.offset = 2) (c1 : P.cellsOf i = 1) (c2 : P.cellsOf s = 1) (c3 : P.cellsOf t = 3) (h : DataW.trod (fun _ : TypeId × Value => ()) P w base sp held fuel t cs = some (.agg [.lit (.int .i64 x), .lit (.int .i64 y), .lit (.string z)], q)) :
    cs = [.int .i64 x, .int .i64 y, .string (strOf z)] := by
  obtain ⟨xs, k, e, hx, hl, hlen, hfd⟩ := DataW.trod_struct hu h
  have hlen3 : xs.length = 3 := hlen
  have hs3 : cs.length = 3 := hl.trans c3
  match xs, hlen3 with
  | [y0, y1, y2], _ =>
    match cs, hs3 with
    | [z0, z1, z2], _ =>
      have g0 : DataW.trod _ P w base sp held k f0.type (([z0, z1, z2].drop f0.offset).take (P.cellsOf f0.type)) = some y0 := hfd 0 _ rfl
      have g1 : DataW.trod _ P w base sp held k f1.type (([z0, z1, z2].drop f1.offset).take (P.cellsOf f1.type)) = some y1 := hfd 1 _ rfl
      have g2 : DataW.trod _ P w base sp held k f2.type (([z0, z1, z2].drop f2.offset).take (P.cellsOf f2.type)) = some y2 := hfd 2 _ rfl
      rw [t0, o0, c1] at g0
      rw [t1, o1, c1] at g1
      rw [t2, o2, c2] at g2
      obtain ⟨a0, e0, x0, _⟩ := DataW.trod_int hi g0
      obtain ⟨a1, e1, x1, _⟩ := DataW.trod_int hi g1
      obtain ⟨a2, e2, x2, _⟩ := DataW.trod_string hs g2
      have r0 : z0 = .int .i64 a0 := by simpa using e0
      have r1 : z1 = .int .i64 a1 := by simpa using e1
      have r2 : z2 = .string a2 := by simpa using e2
      have ex := congrArg Prod.fst hx
      rw [x0, x1, x2] at ex
      simp at ex
      obtain ⟨h0, h1, h2⟩ := ex
      rw [r0, r1, r2, h0, h1, strOf_of (b := a2) (l := z) h2.symm]
theorem kd_reads {W : World} (h : Lib.VarReads Tryz.prog W "certpath/gname.kinds" Rows.laid_certpath_gname_kinds) : KdT W := by
  obtain ⟨g, t, cs, fuel, p, hg, hty, hvar, hd⟩ := h
  obtain rfl : 0 = g := Option.some.inj ((show Tryz.prog.globalNamed "certpath/gname.kinds" = some 0 by kernel_rfl).symm.trans hg)
  obtain rfl : 90 = t := Option.some.inj ((show (Tryz.prog.globals[0]?).map (·.type) = some 90 by kernel_rfl).symm.trans hty)
  have c1 : Tryz.prog.cellsOf 3 = 1 := by kernel_rfl
  have c2 : Tryz.prog.cellsOf 9 = 1 := by kernel_rfl
  have c3 : Tryz.prog.cellsOf 89 = 3 := by kernel_rfl
  unfold Rows.laid_certpath_gname_kinds at hd
  have key : ∀ i (hi : i < 4) (x y : Int) (z : List UInt8), ([(1, 129, [109, 97, 105, 108, 58]), (2, 130, [100, 110, 115, 58]), (4, 164, [100, 105, 114, 58]), (7, 135, [105, 112, 58])] : List (Int × Int × List UInt8))[i]? = some (x, y, z) → cs[i * 3]? = some (.int .i64 x) ∧ cs[i * 3 + 1]? = some (.int .i64 y) ∧ cs[i * 3 + 2]? = some (.string (strOf z)) := by
    intro i hi x y z hxy
    obtain ⟨fuel', d, q, hdi, he⟩ := Lib.array_elem Tryz.underlying90 hd i hi
    have hd2 : d = .agg [.lit (.int .i64 x), .lit (.int .i64 y), .lit (.string z)] := by
      rcases (by omega : i = 0 ∨ i = 1 ∨ i = 2 ∨ i = 3) with rfl | rfl | rfl | rfl <;> (simp at hxy hdi; obtain ⟨rfl, rfl, rfl⟩ := hxy; exact hdi.symm)
    subst hd2
    rw [c3] at he
    have hcs := ints_str Tryz.underlying89 Tryz.underlying3 Tryz.underlying9 rfl rfl rfl rfl rfl rfl c1 c2 c3 he
    have e0 := congrArg (·[0]?) hcs
    have e1 := congrArg (·[1]?) hcs
    have e2 := congrArg (·[2]?) hcs
    simp only [List.getElem?_take, List.getElem?_drop] at e0 e1 e2
    exact ⟨by rw [← Array.getElem?_toList]; simpa using e0, by rw [← Array.getElem?_toList]; simpa using e1, by rw [← Array.getElem?_toList]; simpa using e2⟩
  intro j hj
  rw [World.var?_cell hg hvar j]
  rcases (by omega : j = 0 ∨ j = 1 ∨ j = 2 ∨ j = 3 ∨ j = 4 ∨ j = 5 ∨ j = 6 ∨ j = 7 ∨ j = 8 ∨ j = 9 ∨ j = 10 ∨ j = 11) with rfl | rfl | rfl | rfl | rfl | rfl | rfl | rfl | rfl | rfl | rfl | rfl
  · exact (key 0 (by omega) _ _ _ rfl).1
  · exact (key 0 (by omega) _ _ _ rfl).2.1
  · exact (key 0 (by omega) _ _ _ rfl).2.2
  · exact (key 1 (by omega) _ _ _ rfl).1
  · exact (key 1 (by omega) _ _ _ rfl).2.1
  · exact (key 1 (by omega) _ _ _ rfl).2.2
  · exact (key 2 (by omega) _ _ _ rfl).1
  · exact (key 2 (by omega) _ _ _ rfl).2.1
  · exact (key 2 (by omega) _ _ _ rfl).2.2
  · exact (key 3 (by omega) _ _ _ rfl).1
  · exact (key 3 (by omega) _ _ _ rfl).2.1
  · exact (key 3 (by omega) _ _ _ rfl).2.2
theorem kd_met {W : World} {L : List (String × DataW Unit)} (h : laidMet Tryz.prog L W) (h1 : ("certpath/gname.kinds", Rows.laid_certpath_gname_kinds) ∈ L) : KdT W := kd_reads (Lib.laidMet.reads h h1)
theorem two_strs {P : Program} {w : World} {base : Nat} {sp : Nat → Bool} {held : Bool} {fuel : Nat} {t s : TypeId} {f0 f1 : Field} {cs : List Value} {x y : List UInt8} {q : List MemPlace} (hu : P.underlying t = some (.struct #[f0, f1])) (hs : P.underlying s = some .string)
    (t0 : f0.type = s) (t1 : f1.type = s) (o0 : f0.offset = 0) (o1 : f1.offset = 1) (c1 : P.cellsOf s = 1) (c2 : P.cellsOf t = 2) (h : DataW.trod (fun _ : TypeId × Value => ()) P w base sp held fuel t cs = some (.agg [.lit (.string x), .lit (.string y)], q)) :
    cs = [.string (strOf x), .string (strOf y)] := by
  obtain ⟨y0, y1, n, hx, hl, h0, h1⟩ := trod_struct2 hu h
  rw [c2] at hl
  rw [t0, o0, c1] at h0
  rw [t1, o1, c1] at h1
  match cs, hl with
  | [u, v], _ =>
    obtain ⟨a, ea, xa, _⟩ := DataW.trod_string hs h0
    obtain ⟨b, eb, xb, _⟩ := DataW.trod_string hs h1
    have e1 := congrArg Prod.fst hx
    rw [xa, xb] at e1
    simp at e1
    obtain ⟨e2, e3⟩ := e1
    have r0 : u = .string a := by simpa using ea
    have r1 : v = .string b := by simpa using eb
    rw [r0, r1, strOf_of (b := a) (l := x) e2.symm, strOf_of (b := b) (l := y) e3.symm]
theorem sh_reads {W : World} (h : Lib.VarReads Tryz.prog W "certpath/dname.shortTypes" Rows.laid_certpath_dname_shortTypes) : ShT W := by
  obtain ⟨g, t, cs, fuel, p, hg, hty, hvar, hd⟩ := h
  obtain rfl : 1 = g := Option.some.inj ((show Tryz.prog.globalNamed "certpath/dname.shortTypes" = some 1 by kernel_rfl).symm.trans hg)
  obtain rfl : 197 = t := Option.some.inj ((show (Tryz.prog.globals[1]?).map (·.type) = some 197 by kernel_rfl).symm.trans hty)
  have c1 : Tryz.prog.cellsOf 9 = 1 := by kernel_rfl
  have c2 : Tryz.prog.cellsOf 196 = 2 := by kernel_rfl
  unfold Rows.laid_certpath_dname_shortTypes at hd
  have key : ∀ i (hi : i < 7) (x y : List UInt8), ([([67, 78], [50, 46, 53, 46, 52, 46, 51]), ([67], [50, 46, 53, 46, 52, 46, 54]), ([76], [50, 46, 53, 46, 52, 46, 55]), ([79], [50, 46, 53, 46, 52, 46, 49, 48]), ([79, 85], [50, 46, 53, 46, 52, 46, 49, 49]), ([68, 67], [48, 46, 57, 46, 50, 51, 52, 50, 46, 49, 57, 50, 48, 48, 51, 48, 48, 46, 49, 48, 48, 46, 49, 46, 50, 53]), ([69], [49, 46, 50, 46, 56, 52, 48, 46, 49, 49, 51, 53, 52, 57, 46, 49, 46, 57, 46, 49])] : List (List UInt8 × List UInt8))[i]? = some (x, y) → cs[i * 2]? = some (.string (strOf x)) ∧ cs[i * 2 + 1]? = some (.string (strOf y)) := by
    intro i hi x y hxy
    obtain ⟨fuel', d, q, hdi, he⟩ := Lib.array_elem Tryz.underlying197 hd i hi
    have hd2 : d = .agg [.lit (.string x), .lit (.string y)] := by
      rcases (by omega : i = 0 ∨ i = 1 ∨ i = 2 ∨ i = 3 ∨ i = 4 ∨ i = 5 ∨ i = 6) with rfl | rfl | rfl | rfl | rfl | rfl | rfl <;> (simp at hxy hdi; obtain ⟨rfl, rfl⟩ := hxy; exact hdi.symm)
    subst hd2
    rw [c2] at he
    have hcs := two_strs Tryz.underlying196 Tryz.underlying9 rfl rfl rfl rfl c1 c2 he
    have e0 := congrArg (·[0]?) hcs
    have e1 := congrArg (·[1]?) hcs
    simp only [List.getElem?_take, List.getElem?_drop] at e0 e1
    exact ⟨by rw [← Array.getElem?_toList]; simpa using e0, by rw [← Array.getElem?_toList]; simpa using e1⟩
  intro j hj
  rw [World.var?_cell hg hvar j]
  rcases (by omega : j = 0 ∨ j = 1 ∨ j = 2 ∨ j = 3 ∨ j = 4 ∨ j = 5 ∨ j = 6 ∨ j = 7 ∨ j = 8 ∨ j = 9 ∨ j = 10 ∨ j = 11 ∨ j = 12 ∨ j = 13) with rfl | rfl | rfl | rfl | rfl | rfl | rfl | rfl | rfl | rfl | rfl | rfl | rfl | rfl
  · exact (key 0 (by omega) _ _ rfl).1
  · exact (key 0 (by omega) _ _ rfl).2
  · exact (key 1 (by omega) _ _ rfl).1
  · exact (key 1 (by omega) _ _ rfl).2
  · exact (key 2 (by omega) _ _ rfl).1
  · exact (key 2 (by omega) _ _ rfl).2
  · exact (key 3 (by omega) _ _ rfl).1
  · exact (key 3 (by omega) _ _ rfl).2
  · exact (key 4 (by omega) _ _ rfl).1
  · exact (key 4 (by omega) _ _ rfl).2
  · exact (key 5 (by omega) _ _ rfl).1
  · exact (key 5 (by omega) _ _ rfl).2
  · exact (key 6 (by omega) _ _ rfl).1
  · exact (key 6 (by omega) _ _ rfl).2
theorem sh_met {W : World} {L : List (String × DataW Unit)} (h : laidMet Tryz.prog L W) (h1 : ("certpath/dname.shortTypes", Rows.laid_certpath_dname_shortTypes) ∈ L) : ShT W := sh_reads (Lib.laidMet.reads h h1)
theorem pow10_laid {x y : String × DataW Unit} {rest : List (String × DataW Unit)} {W : World} (h : laidMet Tryz.prog (x :: y :: ("internal/strconv.uint64pow10", Lib.tabData .u64 Lib.pow10Tab) :: rest) W) : Pow10 W :=
  Lib.tabBelow_of_tabIs (Lib.tabIs_of_head (g := 8) (t := 270) (e := 228) (n := 20) (by kernel_rfl) (by kernel_rfl) Tryz.underlying270 Tryz.underlying228 (by kernel_rfl) (by kernel_rfl) h.tail.tail)
theorem pow10_data : (Rows.laid_internal_strconv_uint64pow10 : DataW Unit) = Lib.tabData .u64 Lib.pow10Tab := by kernel_rfl
abbrev laidB : List (String × DataW Unit) := [("math/bits.deBruijn32tab", Rows.laid_math_bits_deBruijn32tab), ("math/bits.deBruijn64tab", Rows.laid_math_bits_deBruijn64tab), ("internal/strconv.uint64pow10", Rows.laid_internal_strconv_uint64pow10), ("unicode/utf8.acceptRanges", Rows.laid_unicode_utf8_acceptRanges), ("unicode.asciiFold", Rows.laid_unicode_asciiFold), ("unicode.caseOrbit", Rows.laid_unicode_caseOrbit), ("certpath/dname.shortTypes", Rows.laid_certpath_dname_shortTypes), ("certpath/gname.kinds", Rows.laid_certpath_gname_kinds), ("unicode.CaseRanges", Rows.laid_unicode_CaseRanges), ("unicode/utf8.first", Rows.laid_unicode_utf8_first)]
theorem metB {W : World} (h : laidMetH Tryz.prog laidB W) : Tab W ∧ KdT W ∧ ShT W ∧ Pow10 W := by
  rw [MakeChecks.laidMetH_plain _ _ _ (by kernel_rfl)] at h
  have h' : laidMet Tryz.prog laidB W := h
  have h2 : laidMet Tryz.prog (("math/bits.deBruijn32tab", Rows.laid_math_bits_deBruijn32tab) :: ("math/bits.deBruijn64tab", Rows.laid_math_bits_deBruijn64tab) :: ("internal/strconv.uint64pow10", Rows.laid_internal_strconv_uint64pow10) :: [("unicode/utf8.acceptRanges", Rows.laid_unicode_utf8_acceptRanges), ("unicode.asciiFold", Rows.laid_unicode_asciiFold), ("unicode.caseOrbit", Rows.laid_unicode_caseOrbit), ("certpath/dname.shortTypes", Rows.laid_certpath_dname_shortTypes), ("certpath/gname.kinds", Rows.laid_certpath_gname_kinds), ("unicode.CaseRanges", Rows.laid_unicode_CaseRanges), ("unicode/utf8.first", Rows.laid_unicode_utf8_first)]) W := h
  rw [pow10_data] at h2
  have hP : Pow10 W := pow10_laid h2
  exact ⟨tab_met h' (.tail _ (.tail _ (.tail _ (.tail _ (.tail _ (.tail _ (.tail _ (.tail _ (.tail _ (.head _)))))))))) (.tail _ (.tail _ (.tail _ (.head _)))), kd_met h' (.tail _ (.tail _ (.tail _ (.tail _ (.tail _ (.tail _ (.tail _ (.head _)))))))), sh_met h' (.tail _ (.tail _ (.tail _ (.tail _ (.tail _ (.tail _ (.head _))))))), hP⟩
end Go.Proofs.YtflpajbcomhkpaaGreatDoor
namespace Go.Proofs.YtflpajbcomhkpaaGreatDoor
open Go.RowKit

set_option maxHeartbeats 1000000 in
theorem gsmall_any (c : UInt8) (w : World) :
    Calls Tryz.prog 154 #[.int .u8 ((c.toNat : Nat) : Int)] w fun e w' => e = .returned (.int .u8 (((small c).toNat : Nat) : Int)) ∧ w' = w := by
  by_cases h : 65 ≤ c.toNat ∧ c.toNat ≤ 90
  · have HS := Lib.hid (small_big h)
    obtain ⟨n, hn⟩ : ∃ n, n = c.toNat := ⟨_, rfl⟩
    rw [← hn] at h HS ⊢
    have d1 : decide ((65 : Int) ≤ (n : Int)) = true := by simp; omega
    have d2 : decide ((n : Int) ≤ 90) = true := by simp; omega
    obtain ⟨m, hm⟩ : ∃ m, m = (small c).toNat := ⟨_, rfl⟩
    rw [← hm] at HS ⊢
    have HM := Lib.hid (show (m : Int) = (n : Int) - 65 + 97 by have := HS.out; omega)
    clear hm hn
    go_enter Tryz.func154, Tryz.ntmps154
    go_wp2_with fail
    go_ret
    exact ⟨by rw [HM.out]; rfl, rfl⟩
  · have HS := Lib.hid (small_low h)
    obtain ⟨n, hn⟩ : ∃ n, n = c.toNat := ⟨_, rfl⟩
    have HN := Lib.hid (show small c = c → (small c).toNat = n from fun e => by rw [e, hn])
    rw [← hn] at h ⊢
    clear hn
    by_cases h1 : 65 ≤ n
    · have d1 : decide ((65 : Int) ≤ (n : Int)) = true := by simp; omega
      have d2 : decide ((n : Int) ≤ 90) = false := by simp; omega
      clear h
      go_enter Tryz.func154, Tryz.ntmps154
      go_wp2_with fail
      go_ret
      exact ⟨by rw [HN.out HS.out]; rfl, rfl⟩
    · have d1 : decide ((65 : Int) ≤ (n : Int)) = false := by simp; omega
      clear h
      go_enter Tryz.func154, Tryz.ntmps154
      go_wp2_with fail
      go_ret
      exact ⟨by rw [HN.out HS.out]; rfl, rfl⟩
theorem alike_cons (x y : UInt8) (s t : List UInt8) : alikeB (x :: s) (y :: t) = (decide (small x = small y) && alikeB s t) := by
  unfold alikeB lowL
  rw [List.map_cons, List.map_cons, Bool.eq_iff_iff, Bool.and_eq_true, decide_eq_true_iff, decide_eq_true_iff, decide_eq_true_iff, List.cons.injEq]
theorem alike_len {a b : List UInt8} (h : a.length ≠ b.length) : alikeB a b = false :=
  decide_eq_false (fun e => h (by have := congrArg List.length e; rwa [lowL_length, lowL_length] at this))
theorem small_eq {x y : UInt8} : small x = small y ↔ (small x).toNat = (small y).toNat := UInt8.toNat_inj.symm
theorem gsmall_b (c : UInt8) (w : World) :
    Calls Tryz.prog 154 #[.int .u8 ((c.toNat : Nat) : Int)] w fun e w' => e = .returned (.int .u8 (((small c).toNat : Nat) : Int)) ∧ Below w.heap.size w w' :=
  (gsmall_any c w).mono fun _ _ h => ⟨h.1, by rw [h.2]; exact Below.refl _ _⟩
set_option maxRecDepth 100000 in
set_option maxHeartbeats 2000000 in
theorem gequal_any (a b : List UInt8) (ha : a.length ≤ 150000) (_ : b.length ≤ 150000) (w : World) :
    Calls Tryz.prog 117 #[.string (strOf a), .string (strOf b)] w fun e w' => e = .returned (.bool (alikeB a b)) ∧ Below w.heap.size w w' := by
  have es := strOf_size a
  have et := strOf_size b
  by_cases hn : a.length = b.length
  · rw [← hn] at et
    go_enter Tryz.func117, Tryz.ntmps117
    go_wp2_with fail
    go_loopw [13] (fun i wr => ∃ m : Nat, m ≤ a.length ∧ i = .int .i64 (m : Int) ∧ alikeB a b = alikeB (a.drop m) (b.drop m) ∧ Below w.heap.size w wr) (fun i _ => a.length - (intOf i).toNat)
    case atStart => exact ⟨0, Nat.zero_le _, rfl, rfl, Below.refl _ _⟩
    case round =>
      obtain ⟨m, hm, rfl, hal, hb⟩ := hrel
      have HB := Lib.hid hb
      clear hb
      by_cases hmt : m < a.length
      · have hd : decide ((m : Int) < (a.length : Int)) = true := by simp; omega
        obtain ⟨c, hc, hcn⟩ := u8at_list (strOf a) m (by rw [es]; exact hmt)
        have hix := run_index_u8 (P := Tryz.prog) Tryz.underlying9 (strOf a) m (by rw [es]; exact hmt) (m : Int) rfl
        rw [hcn] at hix
        rw [strOf_list] at hc
        obtain ⟨d, hd1, hdn⟩ := u8at_list (strOf b) m (by rw [et]; exact hmt)
        have hjx := run_index_u8 (P := Tryz.prog) Tryz.underlying9 (strOf b) m (by rw [et]; exact hmt) (m : Int) rfl
        rw [hdn] at hjx
        rw [strOf_list] at hd1
        rw [drop_cons hc, drop_cons hd1, alike_cons] at hal
        have HAL := Lib.hid hal
        have HC := Lib.hid (fun W => gsmall_b c W)
        have HD := Lib.hid (fun W => gsmall_b d W)
        have HSE := Lib.hid (small_eq (x := c) (y := d))
        generalize small c = x at HC HAL HSE
        generalize small d = y at HD HAL HSE
        generalize hp : x.toNat = p at HC HSE
        generalize hq : y.toNat = q at HD HSE
        clear hc hd1 hcn hdn hal hp hq
        by_cases hpq : p = q
        · have HN2 := Lib.hid (show alikeB a b = alikeB (a.drop (m + 1)) (b.drop (m + 1)) by rw [HAL.out, decide_eq_true (HSE.out.2 hpq), Bool.true_and])
          have e1 : ((p : Int) == (q : Int)) = true := beq_iff_eq.2 (by omega)
          have e2 : (p == q) = true := beq_iff_eq.2 hpq
          clear hpq HAL HSE
          go_upto_region 6 with (fail)
          have z1 : ∀ d os, _ := fun d os => Calls.regrown_of (HC.out (Sort.grow (redrawn wr d) os))
          have z2 : ∀ d os, _ := fun d os => Calls.regrown_of (HD.out (Sort.grow (redrawn wr d) os))
          refine wp_region_quiet_below (by kernel_rfl) (by kernel_rfl) ?_
          repeat (go_big_quiet_step (with_reducible first | exact z1 _ _ | exact z2 _ _))
          refine wpQuiet_nil ?_
          intro _ hw'
          obtain ⟨⟨dq, osq⟩, hw''⟩ := hw'
          subst hw''
          have HZ := Lib.hid (below_next HB.out (below_regrown wr dq osq))
          clear z1 z2
          go_wp2_with fail
          go_roundw
          case rel => exact ⟨m + 1, by omega, by go_num, HN2.out, HZ.out⟩
          case measure => simp [intOf]; omega
        · have HF := Lib.hid (show alikeB a b = false by rw [HAL.out, decide_eq_false (fun e => hpq (HSE.out.1 e)), Bool.false_and])
          have e1 : ((p : Int) == (q : Int)) = false := beq_eq_false_iff_ne.2 (fun e => hpq (by omega))
          have e2 : (p == q) = false := beq_eq_false_iff_ne.2 hpq
          clear hpq HAL HSE
          go_upto_region 6 with (fail)
          have z1 : ∀ d os, _ := fun d os => Calls.regrown_of (HC.out (Sort.grow (redrawn wr d) os))
          have z2 : ∀ d os, _ := fun d os => Calls.regrown_of (HD.out (Sort.grow (redrawn wr d) os))
          refine wp_region_quiet_below (by kernel_rfl) (by kernel_rfl) ?_
          repeat (go_big_quiet_step (with_reducible first | exact z1 _ _ | exact z2 _ _))
          refine wpQuiet_nil ?_
          intro _ hw'
          obtain ⟨⟨dq, osq⟩, hw''⟩ := hw'
          subst hw''
          have HZ := Lib.hid (below_next HB.out (below_regrown wr dq osq))
          clear z1 z2
          go_wp2_with fail
          go_ret
          exact ⟨by rw [HF.out]; rfl, HZ.out⟩
      · have hd : decide ((m : Int) < (a.length : Int)) = false := by simp; omega
        have HF := Lib.hid (show alikeB a b = true by rw [hal, List.drop_eq_nil_of_le (by omega), List.drop_eq_nil_of_le (by omega)]; exact alikeB_refl _)
        clear hal
        go_wp2_with fail
        go_ret
        exact ⟨by rw [HF.out]; rfl, HB.out⟩
  · have e1 : ((a.length : Int) == (b.length : Int)) = false := beq_eq_false_iff_ne.2 (fun e => hn (by omega))
    have e2 : (a.length == b.length) = false := beq_eq_false_iff_ne.2 hn
    have HF := Lib.hid (alike_len hn)
    clear hn
    go_enter Tryz.func117, Tryz.ntmps117
    go_wp2_with fail
    go_ret
    exact ⟨by rw [HF.out]; rfl, Below.refl _ _⟩
end Go.Proofs.YtflpajbcomhkpaaGreatDoor
namespace Go.Proofs.YtflpajbcomhkpaaGreatDoor
open Go.RowKit

set_option maxRecDepth 100000 in
set_option maxHeartbeats 2000000 in
theorem samemail_any (t u : List UInt8) (ht : t.length ≤ 150000) (hu : u.length ≤ 150000) (w : World) (hm : Mx w) :
    Calls Tryz.prog 116 #[.string (strOf t), .string (strOf u)] w fun e w' => e = .returned (.bool (if mailB t = true ∧ mailB u = true then mailMatchB t u else alikeB t u)) ∧ Below w.heap.size w w' := by
  have H1 := Lib.hid (fun W (hb : Below w.heap.size w W) => pmail_any t ht W (hm.below hb))
  have H2 := Lib.hid (fun W (hb : Below w.heap.size w W) => pmail_any u hu W (hm.below hb))
  have H3 := Lib.hid (fun W (hb : Below w.heap.size w W) => pmm_any t u ht hu W (hm.below hb))
  have H4 := Lib.hid (fun W => gequal_any t u ht hu W)
  have HR := Lib.hid (Below.refl w.heap.size w)
  clear hm
  cases b1 : mailB t with
  | false =>
    rw [b1] at H1
    rw [if_neg (by simp)]
    clear b1
    go_enter Tryz.func116, Tryz.ntmps116
    go_wp2_with (first
      | (go_at_call 152; (with_reducible refine (H1.out _ HR.out).mono ?_); rintro e w1 ⟨rfl, hb1⟩; have HB1 := Lib.hid hb1; clear hb1)
      | (go_at_call 117; (with_reducible refine (H4.out _).mono ?_); rintro e w4 ⟨rfl, hb4⟩; have HB4 := Lib.hid (below_next HB1.out hb4); clear hb4))
    go_ret
    exact ⟨rfl, HB4.out⟩
  | true =>
    rw [b1] at H1
    cases b2 : mailB u with
    | false =>
      rw [b2] at H2
      rw [if_neg (by simp)]
      clear b1 b2
      go_enter Tryz.func116, Tryz.ntmps116
      go_wp2_with (first
        | (go_at_call 152; (with_reducible refine (H1.out _ HR.out).mono ?_); rintro e w1 ⟨rfl, hb1⟩; have HB1 := Lib.hid hb1; clear hb1)
        | (go_at_call 152; (with_reducible refine (H2.out _ HB1.out).mono ?_); rintro e w2 ⟨rfl, hb2⟩; have HB2 := Lib.hid (below_next HB1.out hb2); clear hb2)
        | (go_at_call 117; (with_reducible refine (H4.out _).mono ?_); rintro e w4 ⟨rfl, hb4⟩; have HB4 := Lib.hid (below_next HB2.out hb4); clear hb4))
      go_ret
      exact ⟨rfl, HB4.out⟩
    | true =>
      rw [b2] at H2
      rw [if_pos ⟨rfl, rfl⟩]
      clear b1 b2
      go_enter Tryz.func116, Tryz.ntmps116
      go_wp2_with (first
        | (go_at_call 152; (with_reducible refine (H1.out _ HR.out).mono ?_); rintro e w1 ⟨rfl, hb1⟩; have HB1 := Lib.hid hb1; clear hb1)
        | (go_at_call 152; (with_reducible refine (H2.out _ HB1.out).mono ?_); rintro e w2 ⟨rfl, hb2⟩; have HB2 := Lib.hid (below_next HB1.out hb2); clear hb2)
        | (go_at_call 153; (with_reducible refine (H3.out _ HB2.out).mono ?_); rintro e w3 ⟨rfl, hb3⟩; have HB3 := Lib.hid (below_next HB2.out hb3); clear hb3))
      go_ret
      exact ⟨rfl, HB3.out⟩

set_option maxRecDepth 100000 in
set_option maxHeartbeats 4000000 in
theorem gsame_core (a0 b0 : Option Addr) (c d n m : Nat) (k l : Int) (t u : List UInt8) (r s : Nm) (w : World) (h1 : RLies w a0 r) (h2 : RLies w b0 s) (hn : n = r.length) (hm : m = s.length) (_ : n ≤ c) (ht : t.length ≤ 150000) (hu : u.length ≤ 150000) (hr : SmallN r) (hs : SmallN s) (hmk : Mk w) :
    Calls Tryz.prog 69 #[.agg #[.int .i64 k, .string (strOf t), .slice a0 n c], .agg #[.int .i64 l, .string (strOf u), .slice b0 m d]] w fun e w' => e = .returned (.bool (sameG k t r l u s)) ∧ Below w.heap.size w w' := by
  obtain ⟨W0, hW0⟩ : ∃ W0, W0 = (w.alloc (.cells #[.int .i64 k, .string (strOf t), .slice a0 n c] 32)).alloc (.cells #[.int .i64 l, .string (strOf u), .slice b0 m d] 32) := ⟨_, rfl⟩
  have hwr : (w.alloc (.cells #[.int .i64 k, .string (strOf t), .slice a0 n c] 32)).alloc (.cells #[.int .i64 l, .string (strOf u), .slice b0 m d] 32) = W0 := hW0.symm
  have hb0 : Below w.heap.size w W0 := by rw [hW0]; exact belowTwo w _ _
  obtain ⟨c0, c1, c2, d0, d1, d2, l1⟩ := box_two w (.int .i64 k) (.string (strOf t)) (.slice a0 n c) (.int .i64 l) (.string (strOf u)) (.slice b0 m d) 32
  rw [← hW0] at c0 c1 c2 d0 d1 d2 l1
  have l0 : w.heap.size < W0.heap.size := by omega
  have HB0 := Lib.hid hb0
  have HT := Lib.hid ht
  have HU := Lib.hid hu
  have HK := Lib.hid (fun W (hb : Below w.heap.size w W) => gkind_any k (strOf t) a0 n c W (hmk.below hb).2)
  obtain ⟨E, hE⟩ : ∃ E, E = sameG k t r l u s := ⟨_, rfl⟩
  rw [← hE]
  have HE := Lib.hid hE
  clear hE hW0
  have HSM := Lib.hid (fun W (hb : Below w.heap.size w W) => samemail_any t u HT.out HU.out W (hmk.below hb).1)
  have HA := Lib.hid (fun W (hb : Below w.heap.size w W) => gequal_any t u HT.out HU.out W)
  have HX := Lib.hid (fun W (hb : Below w.heap.size w W) => match_core a0 b0 c d n m r s W (h1.below hb) (h2.below hb) hn hm hr hs)
  clear h1 h2 hn hm hr hs ht hu hb0 hmk
  by_cases hkl : k = l
  case neg =>
    have e1 : (k != l) = true := bne_iff_ne.2 hkl
    have HV := Lib.hid (show E = false by rw [HE.out]; unfold sameG; rw [if_pos hkl])
    clear hkl
    go_enter Tryz.func69, Tryz.ntmps69
    go_wp2_with fail
    go_ret
    exact ⟨by rw [HV.out]; rfl, HB0.out⟩
  subst hkl
  rcases kind_or k with rfl | rfl | rfl | rfl | hk
  · have HV := Lib.hid (show E = (if mailB t = true ∧ mailB u = true then mailMatchB t u else alikeB t u) by rw [HE.out]; unfold sameG; rw [if_neg (by simp), if_pos rfl])
    rw [show ((kdOf 1 : Nat) : Int) = 0 from rfl] at HK
    rw [← HV.out] at HSM
    go_enter Tryz.func69, Tryz.ntmps69
    go_wp2_with (first
      | (go_at_call 50; (with_reducible refine (HK.out _ HB0.out).mono ?_); rintro e w1 ⟨rfl, hb9⟩; have HB1 := Lib.hid (below_next HB0.out hb9); have q0 := (hb9.cell (p := ⟨w.heap.size, 0, none⟩) l0).trans c0; have q1 := (hb9.cell (p := ⟨w.heap.size, 1, none⟩) l0).trans c1; have q2 := (hb9.cell (p := ⟨w.heap.size, 2, none⟩) l0).trans c2; have p0 := (hb9.cell (p := ⟨w.heap.size + 1, 0, none⟩) l1).trans d0; have p1 := (hb9.cell (p := ⟨w.heap.size + 1, 1, none⟩) l1).trans d1; have p2 := (hb9.cell (p := ⟨w.heap.size + 1, 2, none⟩) l1).trans d2; clear hb9)
      | (go_at_call 116; (with_reducible refine (HSM.out _ HB1.out).mono ?_); rintro e w2 ⟨rfl, hb9⟩; have HB2 := Lib.hid (below_next HB1.out hb9); clear hb9))
    go_ret
    exact ⟨rfl, HB2.out⟩
  · have HV := Lib.hid (show E = alikeB t u by rw [HE.out]; unfold sameG; rw [if_neg (by simp), if_neg (by decide), if_pos rfl])
    rw [show ((kdOf 2 : Nat) : Int) = 1 from rfl] at HK
    go_enter Tryz.func69, Tryz.ntmps69
    go_wp2_with (first
      | (go_at_call 50; (with_reducible refine (HK.out _ HB0.out).mono ?_); rintro e w1 ⟨rfl, hb9⟩; have HB1 := Lib.hid (below_next HB0.out hb9); have q0 := (hb9.cell (p := ⟨w.heap.size, 0, none⟩) l0).trans c0; have q1 := (hb9.cell (p := ⟨w.heap.size, 1, none⟩) l0).trans c1; have q2 := (hb9.cell (p := ⟨w.heap.size, 2, none⟩) l0).trans c2; have p0 := (hb9.cell (p := ⟨w.heap.size + 1, 0, none⟩) l1).trans d0; have p1 := (hb9.cell (p := ⟨w.heap.size + 1, 1, none⟩) l1).trans d1; have p2 := (hb9.cell (p := ⟨w.heap.size + 1, 2, none⟩) l1).trans d2; clear hb9)
      | (go_at_call 117; (with_reducible refine (HA.out _ HB1.out).mono ?_); rintro e w2 ⟨rfl, hb9⟩; have HB2 := Lib.hid (below_next HB1.out hb9); clear hb9))
    go_ret
    exact ⟨by rw [HV.out]; rfl, HB2.out⟩
  · have HV := Lib.hid (show E = decide (MatchN r s) by rw [HE.out]; unfold sameG; rw [if_neg (by simp), if_neg (by decide), if_neg (by decide), if_pos rfl])
    rw [show ((kdOf 4 : Nat) : Int) = 2 from rfl] at HK
    go_enter Tryz.func69, Tryz.ntmps69
    go_wp2_with (first
      | (go_at_call 50; (with_reducible refine (HK.out _ HB0.out).mono ?_); rintro e w1 ⟨rfl, hb9⟩; have HB1 := Lib.hid (below_next HB0.out hb9); have q0 := (hb9.cell (p := ⟨w.heap.size, 0, none⟩) l0).trans c0; have q1 := (hb9.cell (p := ⟨w.heap.size, 1, none⟩) l0).trans c1; have q2 := (hb9.cell (p := ⟨w.heap.size, 2, none⟩) l0).trans c2; have p0 := (hb9.cell (p := ⟨w.heap.size + 1, 0, none⟩) l1).trans d0; have p1 := (hb9.cell (p := ⟨w.heap.size + 1, 1, none⟩) l1).trans d1; have p2 := (hb9.cell (p := ⟨w.heap.size + 1, 2, none⟩) l1).trans d2; clear hb9)
      | (go_at_call 118; (with_reducible refine (HX.out _ HB1.out).mono ?_); rintro e w2 ⟨rfl, hb9⟩; have HB2 := Lib.hid (below_next HB1.out hb9); clear hb9))
    go_ret
    exact ⟨by rw [HV.out]; rfl, HB2.out⟩
  · have HV := Lib.hid (show E = decide (t = u) by rw [HE.out]; unfold sameG; rw [if_neg (by simp), if_neg (by decide), if_neg (by decide), if_neg (by decide), if_pos rfl])
    rw [show ((kdOf 7 : Nat) : Int) = 3 from rfl] at HK
    go_enter Tryz.func69, Tryz.ntmps69
    go_wp2_with (go_at_call 50; (with_reducible refine (HK.out _ HB0.out).mono ?_); rintro e w1 ⟨rfl, hb9⟩; have HB1 := Lib.hid (below_next HB0.out hb9); have q0 := (hb9.cell (p := ⟨w.heap.size, 0, none⟩) l0).trans c0; have q1 := (hb9.cell (p := ⟨w.heap.size, 1, none⟩) l0).trans c1; have q2 := (hb9.cell (p := ⟨w.heap.size, 2, none⟩) l0).trans c2; have p0 := (hb9.cell (p := ⟨w.heap.size + 1, 0, none⟩) l1).trans d0; have p1 := (hb9.cell (p := ⟨w.heap.size + 1, 1, none⟩) l1).trans d1; have p2 := (hb9.cell (p := ⟨w.heap.size + 1, 2, none⟩) l1).trans d2; clear hb9)
    go_ret
    exact ⟨by rw [HV.out, ← beq_of]; rfl, HB1.out⟩
  · have HV := Lib.hid (show E = false by rw [HE.out]; unfold sameG; rw [if_neg (by simp), if_neg hk.1, if_neg hk.2.1, if_neg hk.2.2.1, if_neg hk.2.2.2])
    rw [kdOf_no hk, show (((4 : Nat)) : Int) = 4 from rfl] at HK
    have e0 : (k != k) = false := by simp
    clear hk
    go_enter Tryz.func69, Tryz.ntmps69
    go_wp2_with (go_at_call 50; (with_reducible refine (HK.out _ HB0.out).mono ?_); rintro e w1 ⟨rfl, hb9⟩; have HB1 := Lib.hid (below_next HB0.out hb9); have q0 := (hb9.cell (p := ⟨w.heap.size, 0, none⟩) l0).trans c0; have q1 := (hb9.cell (p := ⟨w.heap.size, 1, none⟩) l0).trans c1; have q2 := (hb9.cell (p := ⟨w.heap.size, 2, none⟩) l0).trans c2; have p0 := (hb9.cell (p := ⟨w.heap.size + 1, 0, none⟩) l1).trans d0; have p1 := (hb9.cell (p := ⟨w.heap.size + 1, 1, none⟩) l1).trans d1; have p2 := (hb9.cell (p := ⟨w.heap.size + 1, 2, none⟩) l1).trans d2; clear hb9)
    go_ret
    exact ⟨by rw [HV.out]; rfl, HB1.out⟩

set_option maxRecDepth 100000 in
set_option maxHeartbeats 4000000 in
theorem gmatch_core (a0 b0 : Option Addr) (c d n m : Nat) (k l : Int) (t u : List UInt8) (r s : Nm) (w : World) (h1 : RLies w a0 r) (h2 : RLies w b0 s) (hn : n = r.length) (hm : m = s.length) (hnc : n ≤ c) (ht : t.length ≤ 150000) (hu : u.length ≤ 150000) (hr : SmallN r) (hs : SmallN s) (hmk : Mk w) :
    Calls Tryz.prog 33 #[.agg #[.int .i64 k, .string (strOf t), .slice a0 n c], .agg #[.int .i64 l, .string (strOf u), .slice b0 m d]] w fun e w' => e = .returned (.bool (matchG k t r l u s)) ∧ Below w.heap.size w w' := by
  obtain ⟨W0, hW0⟩ : ∃ W0, W0 = (w.alloc (.cells #[.int .i64 k, .string (strOf t), .slice a0 n c] 32)).alloc (.cells #[.int .i64 l, .string (strOf u), .slice b0 m d] 32) := ⟨_, rfl⟩
  have hwr : (w.alloc (.cells #[.int .i64 k, .string (strOf t), .slice a0 n c] 32)).alloc (.cells #[.int .i64 l, .string (strOf u), .slice b0 m d] 32) = W0 := hW0.symm
  have hb0 : Below w.heap.size w W0 := by rw [hW0]; exact belowTwo w _ _
  obtain ⟨c0, c1, c2, d0, d1, d2, l1⟩ := box_two w (.int .i64 k) (.string (strOf t)) (.slice a0 n c) (.int .i64 l) (.string (strOf u)) (.slice b0 m d) 32
  rw [← hW0] at c0 c1 c2 d0 d1 d2 l1
  have l0 : w.heap.size < W0.heap.size := by omega
  have HB0 := Lib.hid hb0
  have HT := Lib.hid ht
  have HU := Lib.hid hu
  have HK := Lib.hid (fun W (hb : Below w.heap.size w W) => gkind_any k (strOf t) a0 n c W (hmk.below hb).2)
  obtain ⟨E, hE⟩ : ∃ E, E = matchG k t r l u s := ⟨_, rfl⟩
  rw [← hE]
  have HE := Lib.hid hE
  clear hE hW0
  have HDM := Lib.hid (fun W (hb : Below w.heap.size w W) => pmatch_any t u HT.out HU.out W)
  have HX := Lib.hid (fun W (hb : Below w.heap.size w W) => gsame_core a0 b0 c d n m k l t u r s W (h1.below hb) (h2.below hb) hn hm hnc HT.out HU.out hr hs (hmk.below hb))
  clear h1 h2 hn hm hnc hr hs ht hu hb0 hmk
  by_cases hkl : k = l
  case neg =>
    have e1 : (k == l) = false := beq_eq_false_iff_ne.2 hkl
    have HV := Lib.hid (show E = sameG k t r l u s by rw [HE.out]; unfold matchG; rw [if_neg (fun q => hkl (q.1.trans q.2.symm))])
    clear hkl
    go_enter Tryz.func33, Tryz.ntmps33
    go_wp2_with (go_at_call 69; (with_reducible refine (HX.out _ HB0.out).mono ?_); rintro e w2 ⟨rfl, hb9⟩; have HB2 := Lib.hid (below_next HB0.out hb9); clear hb9)
    go_ret
    exact ⟨by rw [HV.out]; rfl, HB2.out⟩
  subst hkl
  by_cases hk : k = 2
  · subst hk
    have HV := Lib.hid (show E = dnsMatchB t u by rw [HE.out]; unfold matchG; rw [if_pos ⟨rfl, rfl⟩])
    rw [show ((kdOf 2 : Nat) : Int) = 1 from rfl] at HK
    go_enter Tryz.func33, Tryz.ntmps33
    go_wp2_with (first
      | (go_at_call 50; (with_reducible refine (HK.out _ HB0.out).mono ?_); rintro e w1 ⟨rfl, hb9⟩; have HB1 := Lib.hid (below_next HB0.out hb9); have q0 := (hb9.cell (p := ⟨w.heap.size, 0, none⟩) l0).trans c0; have q1 := (hb9.cell (p := ⟨w.heap.size, 1, none⟩) l0).trans c1; have q2 := (hb9.cell (p := ⟨w.heap.size, 2, none⟩) l0).trans c2; have p0 := (hb9.cell (p := ⟨w.heap.size + 1, 0, none⟩) l1).trans d0; have p1 := (hb9.cell (p := ⟨w.heap.size + 1, 1, none⟩) l1).trans d1; have p2 := (hb9.cell (p := ⟨w.heap.size + 1, 2, none⟩) l1).trans d2; clear hb9)
      | (go_at_call 68; (with_reducible refine (HDM.out _ HB1.out).mono ?_); rintro e w2 ⟨rfl, hb9⟩; have HB2 := Lib.hid (below_next HB1.out hb9); clear hb9))
    go_ret
    exact ⟨by rw [HV.out]; rfl, HB2.out⟩
  · have HV := Lib.hid (show E = sameG k t r k u s by rw [HE.out]; unfold matchG; rw [if_neg (fun q => hk q.1)])
    have e1 : (k == k) = true := by simp
    have hz : (((kdOf k : Nat) : Int) == 1) = false := by
      rcases kind_or k with rfl | rfl | rfl | rfl | hk'
      · rfl
      · exact absurd rfl hk
      · rfl
      · rfl
      · rw [kdOf_no hk']; rfl
    generalize ((kdOf k : Nat) : Int) = z at HK hz
    clear hk
    go_enter Tryz.func33, Tryz.ntmps33
    go_wp2_with (first
      | (go_at_call 50; (with_reducible refine (HK.out _ HB0.out).mono ?_); rintro e w1 ⟨rfl, hb9⟩; have HB1 := Lib.hid (below_next HB0.out hb9); have q0 := (hb9.cell (p := ⟨w.heap.size, 0, none⟩) l0).trans c0; have q1 := (hb9.cell (p := ⟨w.heap.size, 1, none⟩) l0).trans c1; have q2 := (hb9.cell (p := ⟨w.heap.size, 2, none⟩) l0).trans c2; have p0 := (hb9.cell (p := ⟨w.heap.size + 1, 0, none⟩) l1).trans d0; have p1 := (hb9.cell (p := ⟨w.heap.size + 1, 1, none⟩) l1).trans d1; have p2 := (hb9.cell (p := ⟨w.heap.size + 1, 2, none⟩) l1).trans d2; clear hb9)
      | (go_at_call 69; (with_reducible refine (HX.out _ HB1.out).mono ?_); rintro e w2 ⟨rfl, hb9⟩; have HB2 := Lib.hid (below_next HB1.out hb9); clear hb9))
    go_ret
    exact ⟨by rw [HV.out]; rfl, HB2.out⟩
end Go.Proofs.YtflpajbcomhkpaaGreatDoor
namespace Go.Proofs.YtflpajbcomhkpaaGreatDoor
open Go.RowKit

theorem gPEnc : PEnc := fun a0 c m k t n con w h hn ht hs hT hmk => genc_core a0 c m k t n con w h hn ht hs hT hmk
theorem gPMatch : PMatch := fun a0 b0 c d n m k l t u r s w h1 h2 hn hm hnc ht hu hr hs hmk => gmatch_core a0 b0 c d n m k l t u r s w h1 h2 hn hm hnc ht hu hr hs hmk
end Go.Proofs.YtflpajbcomhkpaaGreatDoor
