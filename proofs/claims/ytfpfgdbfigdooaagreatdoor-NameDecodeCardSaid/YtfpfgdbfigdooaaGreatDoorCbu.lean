/-
  What every card of this seat's laws over dname needs: the three tables that the rows list, and that the laws' functions only read what they are handed.
  A slice of numbers that can be read: its numbers lie at its address.
-/
import Derived.Test.YtfpfgdbfigdooaaGreatDoorCards
import Derived.Test.YtfpfgdbfigdooaaGreatDoorTie
import Derived.Test.YtfpfgdbfigdooaaGreatDoorCah
import Derived.Test.YtfpfgdbfigdooaaGreatDoorCaq
import Derived.Test.YtfpfgdbfigdooaaGreatDoorCas
import Derived.ProofKit
import Derived.OpenShut
import Derived.ChangeSame
import Derived.Deep.DeepHandedRow
import Derived.Lib.LaidU8T
import Derived.Lay
import Derived.Stop.LaidErr
import Derived.Test.YtfpfgdbfigdooaaGreatDoorCbb
import Derived.Test.YtfpfgdbfigdooaaGreatDoorCao
namespace Go.Proofs.YtfpfgdbfigdooaaGreatDoor
open Go.ChangeShapes Go.WideShapes Go.ChangeAt Go.RowKit Go.ChangeMaps

theorem own : ownKnob Tryz.prog.godebug = none := by kernel_rfl

/-- What was handed in reads as it read, for a call that leaves old memory alone. -/
theorem below_trodAll {H : Type} {enc : TypeId × Value → H} {W W' : World} (hb : Below W.heap.size W W') :
    ∀ (ts : List TypeId) (vs : List Value) (ds : List (DataW H)) (ps : List MemPlace), (∀ t ∈ ts, Tryz.prog.readableRec t = true ∧ t < Tryz.prog.types.size) → (∀ x ∈ ps, x.block < W.heap.size) →
      DataW.TrodAll enc Tryz.prog W 0 (fun _ => true) true ts vs ds ps → DataW.TrodAll enc Tryz.prog W' 0 (fun b => decide (b < W.heap.size)) true ts vs ds ps := by
  intro ts
  induction ts with
  | nil => intro vs ds ps _ _ h; obtain ⟨rfl, rfl, rfl⟩ := trodAll_nil h; exact trodAll_mk0
  | cons t ts ih =>
    intro vs ds ps ht hp h
    obtain ⟨v, vs', d, ds', p, q, rfl, rfl, rfl, h1, h2⟩ := trodAll_cons h
    exact trodAll_cons_mk (Below.trod laidOut (ht t (by simp)).1 (ht t (by simp)).2 h1 hb (fun x hx => hp x (by simp [hx]))) (ih vs' ds' q (fun u hu => ht u (by simp [hu])) (fun x hx => hp x (by simp [hx])) h2)

/-- A slice of bytes that can be read: its bytes lie at its address. -/
theorem open_bytes {H : Type} {enc : TypeId × Value → H} {W : World} {a0 : Option Addr} {len cap : Nat} {d : DataW H} {p : List MemPlace}
    (h : DataW.Trod enc Tryz.prog W 0 (fun _ => true) true 61 (.slice a0 len cap) d p) : ∃ l : List UInt8, len = l.length ∧ BLies W a0 l ∧ l.length ≤ 9223372036854775807 := by
  obtain ⟨fuel, hf⟩ := h
  have cb : Tryz.prog.cellsOf 5 = 1 := by kernel_rfl
  rcases open_ints Tryz.underlying61 Tryz.underlying5 cb hf with ⟨hcs, _⟩ | ⟨a, len', cap', zs, hcs, _, hl, hcm, hz, _, hcell, hwz⟩
  · simp [Value.cells] at hcs
    obtain ⟨rfl, rfl, rfl⟩ := hcs
    exact ⟨[], rfl, .inl rfl, by simp⟩
  · simp [Value.cells] at hcs
    obtain ⟨rfl, rfl, rfl⟩ := hcs
    by_cases h0 : len = 0
    · subst h0
      exact ⟨[], rfl, .inl rfl, by simp⟩
    · have hzl : len ≤ zs.length := by rw [hz]; simpa using hl
      obtain ⟨b, off, rfl, hc⟩ := ints_at hcell (by omega)
      refine ⟨(zs.take len).map fun z => UInt8.ofNat z.toNat, by simp; omega, .inr ⟨b, off, rfl, fun i hi => ?_⟩, by simp; unfold maxLen at hcm; omega⟩
      simp at hi
      rw [hc i (by omega)]
      have hb : 0 ≤ zs.getD i 0 ∧ zs.getD i 0 ≤ 255 := by
        have := range_u8 hwz i
        simpa [List.getD_eq_getElem?_getD] using this
      have he : zs.getD i 0 = zs[i] := by rw [List.getD_eq_getElem?_getD, List.getElem?_eq_getElem (by omega)]; rfl
      rw [he] at hb ⊢
      simp [bcell]
      omega

/-- What the rows' list gives: the tables lie. -/
theorem first_data : (Rows.laid_unicode_utf8_first : DataW Unit) = Lib.firstData := by kernel_rfl
theorem accept_data : (Rows.laid_unicode_utf8_acceptRanges : DataW Unit) = Lib.acceptData := by kernel_rfl
abbrev laidList : List (String × DataW Unit) := [("unicode/utf8.acceptRanges", Rows.laid_unicode_utf8_acceptRanges), ("certpath/dname.shortTypes", Rows.laid_certpath_dname_shortTypes), ("unicode/utf8.first", Rows.laid_unicode_utf8_first)]
theorem tab_laid {W : World} (h : laidMetH Tryz.prog [("unicode/utf8.acceptRanges", Rows.laid_unicode_utf8_acceptRanges), ("certpath/dname.shortTypes", Rows.laid_certpath_dname_shortTypes), ("unicode/utf8.first", Rows.laid_unicode_utf8_first)] W) : Tab W := by
  rw [MakeChecks.laidMetH_plain _ _ _ (by kernel_rfl)] at h
  have h' : laidMet Tryz.prog [("unicode/utf8.acceptRanges", Rows.laid_unicode_utf8_acceptRanges), ("certpath/dname.shortTypes", Rows.laid_certpath_dname_shortTypes), ("unicode/utf8.first", Rows.laid_unicode_utf8_first)] W := h
  rw [first_data, accept_data] at h'
  exact utf8Tabs_of_readsT (U8Types.of196 lays196) ⟨by kernel_rfl, by kernel_rfl, by kernel_rfl, by kernel_rfl, by kernel_rfl, by kernel_rfl, by kernel_rfl⟩ (Lib.laidMet.reads h' (.tail _ (.tail _ (.head _)))) (Lib.laidMet.reads h' (.head _))
theorem two_strs {P : Program} {w : World} {base : Nat} {sp : Nat → Bool} {held : Bool} {fuel : Nat} {t s : TypeId} {f0 f1 : Field} {cs : List Value} {x y : List UInt8} {q : List MemPlace} (hu : P.underlying t = some (.struct #[f0, f1])) (hs : P.underlying s = some .string)
    (t0 : f0.type = s) (t1 : f1.type = s) (o0 : f0.offset = 0) (o1 : f1.offset = 1) (c1 : P.cellsOf s = 1) (c2 : P.cellsOf t = 2) (h : DataW.trod (fun _ : TypeId × Value => ()) P w base sp held fuel t cs = some (.agg [.lit (.string x), .lit (.string y)], q)) :
    cs = [.string (strOf x), .string (strOf y)] := by
  obtain ⟨y0, y1, n, hx, hl, h0, h1⟩ := trod_struct2 hu h
  rw [c2] at hl
  rw [t0, o0, c1] at h0
  rw [t1, o1, c1] at h1
  match cs, hl with
  | [u, v], _ =>
    obtain ⟨a, ea, xa, _⟩ := DataW.trod_string hs h0
    obtain ⟨b, eb, xb, _⟩ := DataW.trod_string hs h1
    have e1 := congrArg Prod.fst hx
    rw [xa, xb] at e1
    simp at e1
    obtain ⟨e2, e3⟩ := e1
    have r0 : u = .string a := by simpa using ea
    have r1 : v = .string b := by simpa using eb
    rw [r0, r1, strOf_of (b := a) (l := x) e2.symm, strOf_of (b := b) (l := y) e3.symm]
theorem sh_reads {W : World} (h : Lib.VarReads Tryz.prog W "certpath/dname.shortTypes" Rows.laid_certpath_dname_shortTypes) : ShT W := by
  obtain ⟨g, t, cs, fuel, p, hg, hty, hvar, hd⟩ := h
  obtain rfl : 0 = g := Option.some.inj ((show Tryz.prog.globalNamed "certpath/dname.shortTypes" = some 0 by kernel_rfl).symm.trans hg)
  obtain rfl : 151 = t := Option.some.inj ((show (Tryz.prog.globals[0]?).map (·.type) = some 151 by kernel_rfl).symm.trans hty)
  have c1 : Tryz.prog.cellsOf 9 = 1 := by kernel_rfl
  have c2 : Tryz.prog.cellsOf 150 = 2 := by kernel_rfl
  unfold Rows.laid_certpath_dname_shortTypes at hd
  have key : ∀ i (hi : i < 7) (x y : List UInt8), ([([67, 78], [50, 46, 53, 46, 52, 46, 51]), ([67], [50, 46, 53, 46, 52, 46, 54]), ([76], [50, 46, 53, 46, 52, 46, 55]), ([79], [50, 46, 53, 46, 52, 46, 49, 48]), ([79, 85], [50, 46, 53, 46, 52, 46, 49, 49]), ([68, 67], [48, 46, 57, 46, 50, 51, 52, 50, 46, 49, 57, 50, 48, 48, 51, 48, 48, 46, 49, 48, 48, 46, 49, 46, 50, 53]), ([69], [49, 46, 50, 46, 56, 52, 48, 46, 49, 49, 51, 53, 52, 57, 46, 49, 46, 57, 46, 49])] : List (List UInt8 × List UInt8))[i]? = some (x, y) → cs[i * 2]? = some (.string (strOf x)) ∧ cs[i * 2 + 1]? = some (.string (strOf y)) := by
    intro i hi x y hxy
    obtain ⟨fuel', d, q, hdi, he⟩ := Lib.array_elem Tryz.underlying151 hd i hi
    have hd2 : d = .agg [.lit (.string x), .lit (.string y)] := by
      rcases (by omega : i = 0 ∨ i = 1 ∨ i = 2 ∨ i = 3 ∨ i = 4 ∨ i = 5 ∨ i = 6) with rfl | rfl | rfl | rfl | rfl | rfl | rfl <;> (simp at hxy hdi; obtain ⟨rfl, rfl⟩ := hxy; exact hdi.symm)
    subst hd2
    rw [c2] at he
    have hcs := two_strs Tryz.underlying150 Tryz.underlying9 rfl rfl rfl rfl c1 c2 he
    have e0 := congrArg (·[0]?) hcs
    have e1 := congrArg (·[1]?) hcs
    simp only [List.getElem?_take, List.getElem?_drop] at e0 e1
    exact ⟨by rw [← Array.getElem?_toList]; simpa using e0, by rw [← Array.getElem?_toList]; simpa using e1⟩
  intro j hj
  rw [World.var?_cell hg hvar j]
  rcases (by omega : j = 0 ∨ j = 1 ∨ j = 2 ∨ j = 3 ∨ j = 4 ∨ j = 5 ∨ j = 6 ∨ j = 7 ∨ j = 8 ∨ j = 9 ∨ j = 10 ∨ j = 11 ∨ j = 12 ∨ j = 13) with rfl | rfl | rfl | rfl | rfl | rfl | rfl | rfl | rfl | rfl | rfl | rfl | rfl | rfl
  · exact (key 0 (by omega) _ _ rfl).1
  · exact (key 0 (by omega) _ _ rfl).2
  · exact (key 1 (by omega) _ _ rfl).1
  · exact (key 1 (by omega) _ _ rfl).2
  · exact (key 2 (by omega) _ _ rfl).1
  · exact (key 2 (by omega) _ _ rfl).2
  · exact (key 3 (by omega) _ _ rfl).1
  · exact (key 3 (by omega) _ _ rfl).2
  · exact (key 4 (by omega) _ _ rfl).1
  · exact (key 4 (by omega) _ _ rfl).2
  · exact (key 5 (by omega) _ _ rfl).1
  · exact (key 5 (by omega) _ _ rfl).2
  · exact (key 6 (by omega) _ _ rfl).1
  · exact (key 6 (by omega) _ _ rfl).2
theorem sh_laid {W : World} (h : laidMetH Tryz.prog [("unicode/utf8.acceptRanges", Rows.laid_unicode_utf8_acceptRanges), ("certpath/dname.shortTypes", Rows.laid_certpath_dname_shortTypes), ("unicode/utf8.first", Rows.laid_unicode_utf8_first)] W) : ShT W := by
  rw [MakeChecks.laidMetH_plain _ _ _ (by kernel_rfl)] at h
  have h' : laidMet Tryz.prog [("unicode/utf8.acceptRanges", Rows.laid_unicode_utf8_acceptRanges), ("certpath/dname.shortTypes", Rows.laid_certpath_dname_shortTypes), ("unicode/utf8.first", Rows.laid_unicode_utf8_first)] W := h
  exact sh_reads (Lib.laidMet.reads h' (.tail _ (.head _)))
end Go.Proofs.YtfpfgdbfigdooaaGreatDoor
namespace Go.Proofs.YtfpfgdbfigdooaaGreatDoor
open Go.ChangeShapes Go.WideShapes Go.ChangeAt Go.RowKit

set_option maxRecDepth 10000 in
theorem open_nums {H : Type} {enc : TypeId × Value → H} {W : World} {a0 : Option Addr} {len cap : Nat} {d : DataW H} {p : List MemPlace}
    (h : DataW.Trod enc Tryz.prog W 0 (fun _ => true) true 25 (.slice a0 len cap) d p) : ∃ zs : List Int, len = zs.length ∧ ILies W a0 zs ∧ zs.length ≤ 9223372036854775807 := by
  obtain ⟨fuel, hf⟩ := h
  have cb : Tryz.prog.cellsOf 3 = 1 := by kernel_rfl
  rcases open_ints Tryz.underlying25 Tryz.underlying3 cb hf with ⟨hcs, _⟩ | ⟨a, len', cap', zs, hcs, _, hl, hcm, hz, _, hcell, _⟩
  · simp [Value.cells] at hcs
    obtain ⟨rfl, rfl, rfl⟩ := hcs
    exact ⟨[], rfl, .inl rfl, by simp⟩
  · simp [Value.cells] at hcs
    obtain ⟨rfl, rfl, rfl⟩ := hcs
    by_cases h0 : len = 0
    · subst h0
      exact ⟨[], rfl, .inl rfl, by simp⟩
    · have hzl : len ≤ zs.length := by rw [hz]; simpa using hl
      obtain ⟨b, off, rfl, hc⟩ := ints_at hcell (by omega)
      have e : (zs.take len).length = len := by rw [List.length_take]; omega
      refine ⟨zs.take len, e.symm, .inr ⟨b, off, rfl, fun i hi => ?_⟩, by rw [e]; unfold maxLen at hcm; omega⟩
      rw [e] at hi
      rw [hc i (by omega)]
      congr 2
      rw [List.getD_eq_getElem?_getD, List.getD_eq_getElem?_getD, List.getElem?_take_of_lt hi]

end Go.Proofs.YtfpfgdbfigdooaaGreatDoor
