/-
  A general name that can be read: its cells, and what lies behind its name.
  What every card of this seat's laws over gname needs: how a slice of bytes is opened, how seven arguments are opened, and that the laws' functions only read what they are handed.
  A slice of numbers that can be read: its numbers lie at its address.
  What every card of this seat's laws over gname needs: the tables that the rows list.
  The contracts of the program's functions that say of one byte whether it may stand in a label or in a local part, and of consists: whether each byte of a text is in a set.
-/
import Derived.Test.YtkiniledfcdgjaaGreatDoorPbg
import Derived.Test.YtkiniledfcdgjaaGreatDoorPbb
import Derived.Test.YtkiniledfcdgjaaGreatDoorCards
import Derived.Test.YtkiniledfcdgjaaGreatDoorTie
import Derived.Test.YtkiniledfcdgjaaGreatDoorPbc
import Derived.Test.YtkiniledfcdgjaaGreatDoorPal
import Derived.ProofKit
import Derived.OpenShut
import Derived.Deep.DeepHandedRow
import Derived.Deep.DeepWitnessRowRef
import Derived.Lay
import Derived.Stop.LaidErr
import Derived.Test.YtkiniledfcdgjaaGreatDoorPah
import Derived.Test.YtkiniledfcdgjaaGreatDoorPbd
import Derived.ChangeSame
import Derived.Lib.LaidU8T
import Derived.Test.YtkiniledfcdgjaaGreatDoorPae
import Derived.Test.YtkiniledfcdgjaaGreatDoorPaq
namespace Go.Proofs.YtkiniledfcdgjaaGreatDoor
open Go.ChangeShapes Go.WideShapes Go.ChangeAt Go.RowKit Go.ChangeMaps Go.Deep

theorem bigG_of {k : Int} {t : List UInt8} {n : Nm} (ht : t.length ≤ 9223372036854775807) (hn : NameOk n) : BigG (k, t, n) :=
  ⟨ht, hn.1, fun i hi => ⟨(hn.2 i hi).1, fun j hj => ⟨((hn.2 i hi).2 j hj).1, ((hn.2 i hi).2 j hj).2.1⟩⟩⟩
set_option maxRecDepth 10000 in
/-- One general name, of three cells. -/
theorem open_gn {H : Type} {enc : TypeId × Value → H} {W : World} {n : Nat} {cs : List Value} {x : DataW H × List MemPlace} (h : DataW.trod enc Tryz.prog W 0 (fun _ => true) true n 26 cs = some x) :
    ∃ (k : Int) (t : List UInt8) (a : Option Addr) (c : Nat) (m : Nm), cs = [.int .i64 k, .string (strOf t), .slice a m.length c] ∧ m.length ≤ c ∧ RLies W a m ∧ BigG (k, t, m) := by
  obtain ⟨xs, k, _, _, hl, hlen, hfd⟩ := DataW.trod_struct Tryz.underlying26 h
  have c1 : Tryz.prog.cellsOf 3 = 1 := by kernel_rfl
  have c2 : Tryz.prog.cellsOf 9 = 1 := by kernel_rfl
  have c3 : Tryz.prog.cellsOf 26 = 3 := by kernel_rfl
  have c4 : Tryz.prog.cellsOf 24 = 1 := by kernel_rfl
  have c5 : Tryz.prog.cellsOf 22 = 1 := by kernel_rfl
  have hlen3 : xs.length = 3 := hlen
  have hs3 : cs.length = 3 := hl.trans c3
  match xs, hlen3 with
  | [y0, y1, y2], _ =>
    match cs, hs3 with
    | [z0, z1, z2], _ =>
      have g0 : DataW.trod enc Tryz.prog W 0 (fun _ => true) true k 3 (([z0, z1, z2].drop 0).take (Tryz.prog.cellsOf 3)) = some y0 := hfd 0 _ rfl
      rw [c1] at g0
      obtain ⟨n0, e0, _, _⟩ := DataW.trod_int Tryz.underlying3 g0
      have g1 : DataW.trod enc Tryz.prog W 0 (fun _ => true) true k 9 (([z0, z1, z2].drop 1).take (Tryz.prog.cellsOf 9)) = some y1 := hfd 1 _ rfl
      rw [c2] at g1
      obtain ⟨s1, e1, _, w1⟩ := DataW.trod_string Tryz.underlying9 g1
      have g2 : DataW.trod enc Tryz.prog W 0 (fun _ => true) true k 24 (([z0, z1, z2].drop 2).take (Tryz.prog.cellsOf 24)) = some y2 := hfd 2 _ rfl
      rw [c4] at g2
      obtain ⟨xs2, k2, _, _, _, hlen2, hfd2⟩ := DataW.trod_struct Tryz.underlying24 g2
      have hlen1 : xs2.length = 1 := hlen2
      match xs2, hlen1 with
      | [u0], _ =>
        have g3 : DataW.trod enc Tryz.prog W 0 (fun _ => true) true k2 22 ((((([z0, z1, z2] : List Value).drop 2).take 1).drop 0).take (Tryz.prog.cellsOf 22)) = some u0 := hfd2 0 _ rfl
        rw [c5] at g3
        obtain ⟨a, c, m, e2, h3, h1, h2⟩ := open_rdns (z := z2) (by simpa using g3)
        have r0 : z0 = .int .i64 n0 := by simpa using e0
        have r1 : z1 = .string s1 := by simpa using e1
        refine ⟨n0, s1.data.toList, a, c, m, by rw [r0, r1, e2]; rfl, h3, h1, bigG_of ?_ h2⟩
        show s1.size ≤ _
        unfold maxLen at w1; omega
set_option maxRecDepth 10000 in
theorem open_gname {H : Type} {enc : TypeId × Value → H} {W : World} {r : Reach} {b0 : Nat} {v : Value} {d : DataW H} {p : List MemPlace}
    (hval : Value.okWide Tryz.prog W r b0 26 v) (h : DataW.Trod enc Tryz.prog W 0 (fun _ => true) true 26 v d p) :
    ∃ (k : Int) (t : List UInt8) (a : Option Addr) (c : Nat) (m : Nm), v = .agg #[.int .i64 k, .string (strOf t), .slice a m.length c] ∧ m.length ≤ c ∧ RLies W a m ∧ BigG (k, t, m) := by
  unfold Value.okWide at hval
  rw [Tryz.underlying26] at hval
  obtain ⟨cs, rfl, _, _⟩ := hval
  obtain ⟨fuel, hf⟩ := h
  obtain ⟨k, t, a, c, m, e, h1, h2, h3⟩ := open_gn hf
  refine ⟨k, t, a, c, m, ?_, h1, h2, h3⟩
  have hcl : (Value.agg cs).cells.toList = cs.toList := rfl
  rw [hcl] at e
  congr 1
  exact Array.toList_inj.1 e
end Go.Proofs.YtkiniledfcdgjaaGreatDoor
namespace Go.Proofs.YtkiniledfcdgjaaGreatDoor
open Go.ChangeShapes Go.WideShapes Go.ChangeAt Go.RowKit Go.ChangeMaps

theorem own : ownKnob Tryz.prog.godebug = none := by kernel_rfl

/-- What was handed in reads as it read, for a call that leaves old memory alone. -/
theorem below_trodAll {H : Type} {enc : TypeId × Value → H} {W W' : World} (hb : Below W.heap.size W W') :
    ∀ (ts : List TypeId) (vs : List Value) (ds : List (DataW H)) (ps : List MemPlace), (∀ t ∈ ts, Tryz.prog.readableRec t = true ∧ t < Tryz.prog.types.size) → (∀ x ∈ ps, x.block < W.heap.size) →
      DataW.TrodAll enc Tryz.prog W 0 (fun _ => true) true ts vs ds ps → DataW.TrodAll enc Tryz.prog W' 0 (fun b => decide (b < W.heap.size)) true ts vs ds ps := by
  intro ts
  induction ts with
  | nil => intro vs ds ps _ _ h; obtain ⟨rfl, rfl, rfl⟩ := trodAll_nil h; exact trodAll_mk0
  | cons t ts ih =>
    intro vs ds ps ht hp h
    obtain ⟨v, vs', d, ds', p, q, rfl, rfl, rfl, h1, h2⟩ := trodAll_cons h
    exact trodAll_cons_mk (Below.trod laidOut (ht t (by simp)).1 (ht t (by simp)).2 h1 hb (fun x hx => hp x (by simp [hx]))) (ih vs' ds' q (fun u hu => ht u (by simp [hu])) (fun x hx => hp x (by simp [hx])) h2)

/-- A slice of bytes that can be read: its bytes lie at its address. -/
theorem open_bytes {H : Type} {enc : TypeId × Value → H} {W : World} {a0 : Option Addr} {len cap : Nat} {d : DataW H} {p : List MemPlace}
    (h : DataW.Trod enc Tryz.prog W 0 (fun _ => true) true 64 (.slice a0 len cap) d p) : ∃ l : List UInt8, len = l.length ∧ BLies W a0 l ∧ l.length ≤ 9223372036854775807 := by
  obtain ⟨fuel, hf⟩ := h
  have cb : Tryz.prog.cellsOf 5 = 1 := by kernel_rfl
  rcases open_ints Tryz.underlying64 Tryz.underlying5 cb hf with ⟨hcs, _⟩ | ⟨a, len', cap', zs, hcs, _, hl, hcm, hz, _, hcell, hwz⟩
  · simp [Value.cells] at hcs
    obtain ⟨rfl, rfl, rfl⟩ := hcs
    exact ⟨[], rfl, .inl rfl, by simp⟩
  · simp [Value.cells] at hcs
    obtain ⟨rfl, rfl, rfl⟩ := hcs
    by_cases h0 : len = 0
    · subst h0
      exact ⟨[], rfl, .inl rfl, by simp⟩
    · have hzl : len ≤ zs.length := by rw [hz]; simpa using hl
      obtain ⟨b, off, rfl, hc⟩ := ints_at hcell (by omega)
      refine ⟨(zs.take len).map fun z => UInt8.ofNat z.toNat, by simp; omega, .inr ⟨b, off, rfl, fun i hi => ?_⟩, by simp; unfold maxLen at hcm; omega⟩
      simp at hi
      rw [hc i (by omega)]
      have hb : 0 ≤ zs.getD i 0 ∧ zs.getD i 0 ≤ 255 := by
        have := range_u8 hwz i
        simpa [List.getD_eq_getElem?_getD] using this
      have he : zs.getD i 0 = zs[i] := by rw [List.getD_eq_getElem?_getD, List.getElem?_eq_getElem (by omega)]; rfl
      rw [he] at hb ⊢
      simp [bcell]
      omega

theorem trodAll_five {H : Type} {enc : TypeId × Value → H} {P : Program} {w : World} {base : Nat} {spare : Nat → Bool} {held : Bool} {t0 t1 t2 t3 t4 : TypeId} {args : Array Value} {ds : List (DataW H)} {ps : List MemPlace}
    (h : DataW.TrodAll enc P w base spare held [t0, t1, t2, t3, t4] args.toList ds ps) :
    ∃ v0 v1 v2 v3 v4 d0 d1 d2 d3 d4 p0 p1 p2 p3 p4, args = #[v0, v1, v2, v3, v4] ∧ ds = [d0, d1, d2, d3, d4] ∧ ps = p0 ++ (p1 ++ (p2 ++ (p3 ++ (p4)))) ∧ DataW.Trod enc P w base spare held t0 v0 d0 p0 ∧ DataW.Trod enc P w base spare held t1 v1 d1 p1 ∧ DataW.Trod enc P w base spare held t2 v2 d2 p2 ∧ DataW.Trod enc P w base spare held t3 v3 d3 p3 ∧ DataW.Trod enc P w base spare held t4 v4 d4 p4 := by
  obtain ⟨v0, vs1, d0, ds1, p0, ps1, e0, rfl, rfl, h0, k0⟩ := trodAll_cons h
  obtain ⟨v1, vs2, d1, ds2, p1, ps2, e1, rfl, rfl, h1, k1⟩ := trodAll_cons k0
  subst e1
  obtain ⟨v2, vs3, d2, ds3, p2, ps3, e2, rfl, rfl, h2, k2⟩ := trodAll_cons k1
  subst e2
  obtain ⟨v3, vs4, d3, ds4, p3, ps4, e3, rfl, rfl, h3, k3⟩ := trodAll_cons k2
  subst e3
  obtain ⟨v4, vs5, d4, ds5, p4, ps5, e4, rfl, rfl, h4, k4⟩ := trodAll_cons k3
  subst e4
  obtain ⟨rfl, rfl, rfl⟩ := trodAll_nil k4
  exact ⟨v0, v1, v2, v3, v4, d0, d1, d2, d3, d4, p0, p1, p2, p3, p4, Array.toList_inj.1 e0, rfl, by simp, h0, h1, h2, h3, h4⟩
theorem trodAll_seven {H : Type} {enc : TypeId × Value → H} {P : Program} {w : World} {base : Nat} {spare : Nat → Bool} {held : Bool} {t0 t1 t2 t3 t4 t5 t6 : TypeId} {args : Array Value} {ds : List (DataW H)} {ps : List MemPlace}
    (h : DataW.TrodAll enc P w base spare held [t0, t1, t2, t3, t4, t5, t6] args.toList ds ps) :
    ∃ v0 v1 v2 v3 v4 v5 v6 d0 d1 d2 d3 d4 d5 d6 p0 p1 p2 p3 p4 p5 p6, args = #[v0, v1, v2, v3, v4, v5, v6] ∧ ds = [d0, d1, d2, d3, d4, d5, d6] ∧ ps = p0 ++ (p1 ++ (p2 ++ (p3 ++ (p4 ++ (p5 ++ (p6)))))) ∧ DataW.Trod enc P w base spare held t0 v0 d0 p0 ∧ DataW.Trod enc P w base spare held t1 v1 d1 p1 ∧ DataW.Trod enc P w base spare held t2 v2 d2 p2 ∧ DataW.Trod enc P w base spare held t3 v3 d3 p3 ∧ DataW.Trod enc P w base spare held t4 v4 d4 p4 ∧ DataW.Trod enc P w base spare held t5 v5 d5 p5 ∧ DataW.Trod enc P w base spare held t6 v6 d6 p6 := by
  obtain ⟨v0, vs1, d0, ds1, p0, ps1, e0, rfl, rfl, h0, k0⟩ := trodAll_cons h
  obtain ⟨v1, vs2, d1, ds2, p1, ps2, e1, rfl, rfl, h1, k1⟩ := trodAll_cons k0
  subst e1
  obtain ⟨v2, vs3, d2, ds3, p2, ps3, e2, rfl, rfl, h2, k2⟩ := trodAll_cons k1
  subst e2
  obtain ⟨v3, vs4, d3, ds4, p3, ps4, e3, rfl, rfl, h3, k3⟩ := trodAll_cons k2
  subst e3
  obtain ⟨v4, vs5, d4, ds5, p4, ps5, e4, rfl, rfl, h4, k4⟩ := trodAll_cons k3
  subst e4
  obtain ⟨v5, vs6, d5, ds6, p5, ps6, e5, rfl, rfl, h5, k5⟩ := trodAll_cons k4
  subst e5
  obtain ⟨v6, vs7, d6, ds7, p6, ps7, e6, rfl, rfl, h6, k6⟩ := trodAll_cons k5
  subst e6
  obtain ⟨rfl, rfl, rfl⟩ := trodAll_nil k6
  exact ⟨v0, v1, v2, v3, v4, v5, v6, d0, d1, d2, d3, d4, d5, d6, p0, p1, p2, p3, p4, p5, p6, Array.toList_inj.1 e0, rfl, by simp, h0, h1, h2, h3, h4, h5, h6⟩
end Go.Proofs.YtkiniledfcdgjaaGreatDoor
namespace Go.Proofs.YtkiniledfcdgjaaGreatDoor
open Go.ChangeShapes Go.WideShapes Go.ChangeAt Go.RowKit

set_option maxRecDepth 10000 in
theorem open_nums {H : Type} {enc : TypeId × Value → H} {W : World} {a0 : Option Addr} {len cap : Nat} {d : DataW H} {p : List MemPlace}
    (h : DataW.Trod enc Tryz.prog W 0 (fun _ => true) true 27 (.slice a0 len cap) d p) : ∃ zs : List Int, len = zs.length ∧ ILies W a0 zs ∧ zs.length ≤ 9223372036854775807 := by
  obtain ⟨fuel, hf⟩ := h
  have cb : Tryz.prog.cellsOf 3 = 1 := by kernel_rfl
  rcases open_ints Tryz.underlying27 Tryz.underlying3 cb hf with ⟨hcs, _⟩ | ⟨a, len', cap', zs, hcs, _, hl, hcm, hz, _, hcell, _⟩
  · simp [Value.cells] at hcs
    obtain ⟨rfl, rfl, rfl⟩ := hcs
    exact ⟨[], rfl, .inl rfl, by simp⟩
  · simp [Value.cells] at hcs
    obtain ⟨rfl, rfl, rfl⟩ := hcs
    by_cases h0 : len = 0
    · subst h0
      exact ⟨[], rfl, .inl rfl, by simp⟩
    · have hzl : len ≤ zs.length := by rw [hz]; simpa using hl
      obtain ⟨b, off, rfl, hc⟩ := ints_at hcell (by omega)
      have e : (zs.take len).length = len := by rw [List.length_take]; omega
      refine ⟨zs.take len, e.symm, .inr ⟨b, off, rfl, fun i hi => ?_⟩, by rw [e]; unfold maxLen at hcm; omega⟩
      rw [e] at hi
      rw [hc i (by omega)]
      congr 2
      rw [List.getD_eq_getElem?_getD, List.getD_eq_getElem?_getD, List.getElem?_take_of_lt hi]

end Go.Proofs.YtkiniledfcdgjaaGreatDoor
namespace Go.Proofs.YtkiniledfcdgjaaGreatDoor
open Go.ChangeShapes Go.WideShapes Go.ChangeAt Go.RowKit Go.ChangeMaps

theorem first_data : (Rows.laid_unicode_utf8_first : DataW Unit) = Lib.firstData := by kernel_rfl
theorem accept_data : (Rows.laid_unicode_utf8_acceptRanges : DataW Unit) = Lib.acceptData := by kernel_rfl
/-- What the rows' list gives: the tables lie. -/
theorem tab_met {W : World} {L : List (String × DataW Unit)} (h : laidMet Tryz.prog L W) (h1 : ("unicode/utf8.first", Rows.laid_unicode_utf8_first) ∈ L) (h2 : ("unicode/utf8.acceptRanges", Rows.laid_unicode_utf8_acceptRanges) ∈ L) : Tab W := by
  rw [first_data] at h1
  rw [accept_data] at h2
  exact utf8Tabs_of_readsT (U8Types.of196 lays196) ⟨by kernel_rfl, by kernel_rfl, by kernel_rfl, by kernel_rfl, by kernel_rfl, by kernel_rfl, by kernel_rfl⟩ (Lib.laidMet.reads h h1) (Lib.laidMet.reads h h2)
theorem ints_str {P : Program} {w : World} {base : Nat} {sp : Nat → Bool} {held : Bool} {fuel : Nat} {t i s : TypeId} {f0 f1 f2 : Field} {cs : List Value} {x y : Int} {z : List UInt8} {q : List MemPlace} (hu : P.underlying t = some (.struct #[f0, f1, f2])) (hi : P.underlying i = some (.int .i64)) (hs : P.underlying s = some .string)
    (t0 : f0.type = i) (t1 : f1.type = i) (t2 : f2.type = s) (o0 : f0.offset = 0) (o1 : f1.offset = 1) (o2 : f2.offset = 2) (c1 : P.cellsOf i = 1) (c2 : P.cellsOf s = 1) (c3 : P.cellsOf t = 3) (h : DataW.trod (fun _ : TypeId × Value => ()) P w base sp held fuel t cs = some (.agg [.lit (.int .i64 x), .lit (.int .i64 y), .lit (.string z)], q)) :
    cs = [.int .i64 x, .int .i64 y, .string (strOf z)] := by
  obtain ⟨xs, k, e, hx, hl, hlen, hfd⟩ := DataW.trod_struct hu h
  have hlen3 : xs.length = 3 := hlen
  have hs3 : cs.length = 3 := hl.trans c3
  match xs, hlen3 with
  | [y0, y1, y2], _ =>
    match cs, hs3 with
    | [z0, z1, z2], _ =>
      have g0 : DataW.trod _ P w base sp held k f0.type (([z0, z1, z2].drop f0.offset).take (P.cellsOf f0.type)) = some y0 := hfd 0 _ rfl
      have g1 : DataW.trod _ P w base sp held k f1.type (([z0, z1, z2].drop f1.offset).take (P.cellsOf f1.type)) = some y1 := hfd 1 _ rfl
      have g2 : DataW.trod _ P w base sp held k f2.type (([z0, z1, z2].drop f2.offset).take (P.cellsOf f2.type)) = some y2 := hfd 2 _ rfl
      rw [t0, o0, c1] at g0
      rw [t1, o1, c1] at g1
      rw [t2, o2, c2] at g2
      obtain ⟨a0, e0, x0, _⟩ := DataW.trod_int hi g0
      obtain ⟨a1, e1, x1, _⟩ := DataW.trod_int hi g1
      obtain ⟨a2, e2, x2, _⟩ := DataW.trod_string hs g2
      have r0 : z0 = .int .i64 a0 := by simpa using e0
      have r1 : z1 = .int .i64 a1 := by simpa using e1
      have r2 : z2 = .string a2 := by simpa using e2
      have ex := congrArg Prod.fst hx
      rw [x0, x1, x2] at ex
      simp at ex
      obtain ⟨h0, h1, h2⟩ := ex
      rw [r0, r1, r2, h0, h1, strOf_of (b := a2) (l := z) h2.symm]
theorem kd_reads {W : World} (h : Lib.VarReads Tryz.prog W "certpath/gname.kinds" Rows.laid_certpath_gname_kinds) : KdT W := by
  obtain ⟨g, t, cs, fuel, p, hg, hty, hvar, hd⟩ := h
  obtain rfl : 0 = g := Option.some.inj ((show Tryz.prog.globalNamed "certpath/gname.kinds" = some 0 by kernel_rfl).symm.trans hg)
  obtain rfl : 56 = t := Option.some.inj ((show (Tryz.prog.globals[0]?).map (·.type) = some 56 by kernel_rfl).symm.trans hty)
  have c1 : Tryz.prog.cellsOf 3 = 1 := by kernel_rfl
  have c2 : Tryz.prog.cellsOf 9 = 1 := by kernel_rfl
  have c3 : Tryz.prog.cellsOf 55 = 3 := by kernel_rfl
  unfold Rows.laid_certpath_gname_kinds at hd
  have key : ∀ i (hi : i < 4) (x y : Int) (z : List UInt8), ([(1, 129, [109, 97, 105, 108, 58]), (2, 130, [100, 110, 115, 58]), (4, 164, [100, 105, 114, 58]), (7, 135, [105, 112, 58])] : List (Int × Int × List UInt8))[i]? = some (x, y, z) → cs[i * 3]? = some (.int .i64 x) ∧ cs[i * 3 + 1]? = some (.int .i64 y) ∧ cs[i * 3 + 2]? = some (.string (strOf z)) := by
    intro i hi x y z hxy
    obtain ⟨fuel', d, q, hdi, he⟩ := Lib.array_elem Tryz.underlying56 hd i hi
    have hd2 : d = .agg [.lit (.int .i64 x), .lit (.int .i64 y), .lit (.string z)] := by
      rcases (by omega : i = 0 ∨ i = 1 ∨ i = 2 ∨ i = 3) with rfl | rfl | rfl | rfl <;> (simp at hxy hdi; obtain ⟨rfl, rfl, rfl⟩ := hxy; exact hdi.symm)
    subst hd2
    rw [c3] at he
    have hcs := ints_str Tryz.underlying55 Tryz.underlying3 Tryz.underlying9 rfl rfl rfl rfl rfl rfl c1 c2 c3 he
    have e0 := congrArg (·[0]?) hcs
    have e1 := congrArg (·[1]?) hcs
    have e2 := congrArg (·[2]?) hcs
    simp only [List.getElem?_take, List.getElem?_drop] at e0 e1 e2
    exact ⟨by rw [← Array.getElem?_toList]; simpa using e0, by rw [← Array.getElem?_toList]; simpa using e1, by rw [← Array.getElem?_toList]; simpa using e2⟩
  intro j hj
  rw [World.var?_cell hg hvar j]
  rcases (by omega : j = 0 ∨ j = 1 ∨ j = 2 ∨ j = 3 ∨ j = 4 ∨ j = 5 ∨ j = 6 ∨ j = 7 ∨ j = 8 ∨ j = 9 ∨ j = 10 ∨ j = 11) with rfl | rfl | rfl | rfl | rfl | rfl | rfl | rfl | rfl | rfl | rfl | rfl
  · exact (key 0 (by omega) _ _ _ rfl).1
  · exact (key 0 (by omega) _ _ _ rfl).2.1
  · exact (key 0 (by omega) _ _ _ rfl).2.2
  · exact (key 1 (by omega) _ _ _ rfl).1
  · exact (key 1 (by omega) _ _ _ rfl).2.1
  · exact (key 1 (by omega) _ _ _ rfl).2.2
  · exact (key 2 (by omega) _ _ _ rfl).1
  · exact (key 2 (by omega) _ _ _ rfl).2.1
  · exact (key 2 (by omega) _ _ _ rfl).2.2
  · exact (key 3 (by omega) _ _ _ rfl).1
  · exact (key 3 (by omega) _ _ _ rfl).2.1
  · exact (key 3 (by omega) _ _ _ rfl).2.2
theorem kd_met {W : World} {L : List (String × DataW Unit)} (h : laidMet Tryz.prog L W) (h1 : ("certpath/gname.kinds", Rows.laid_certpath_gname_kinds) ∈ L) : KdT W := kd_reads (Lib.laidMet.reads h h1)
abbrev laidL : List (String × DataW Unit) := [("unicode/utf8.acceptRanges", Rows.laid_unicode_utf8_acceptRanges), ("unicode.asciiFold", Rows.laid_unicode_asciiFold), ("unicode.caseOrbit", Rows.laid_unicode_caseOrbit), ("certpath/gname.kinds", Rows.laid_certpath_gname_kinds), ("unicode.CaseRanges", Rows.laid_unicode_CaseRanges), ("unicode/utf8.first", Rows.laid_unicode_utf8_first)]
theorem tab_laid {W : World} (h : laidMetH Tryz.prog laidL W) : Tab W := by
  rw [MakeChecks.laidMetH_plain _ _ _ (by kernel_rfl)] at h
  have h' : laidMet Tryz.prog laidL W := h
  exact tab_met h' (.tail _ (.tail _ (.tail _ (.tail _ (.tail _ (.head _)))))) (.head _)
theorem kd_laid {W : World} (h : laidMetH Tryz.prog laidL W) : KdT W := by
  rw [MakeChecks.laidMetH_plain _ _ _ (by kernel_rfl)] at h
  have h' : laidMet Tryz.prog laidL W := h
  exact kd_met h' (.tail _ (.tail _ (.tail _ (.head _))))
end Go.Proofs.YtkiniledfcdgjaaGreatDoor
namespace Go.Proofs.YtkiniledfcdgjaaGreatDoor
open Go.RowKit

theorem pidx_any (s : ByteArray) (c : UInt8) (w : World) : Calls Tryz.prog 159 #[.string s, .int .u8 ((c.toNat : Nat) : Int)] w fun e w' => e = .returned (.int .i64 (Lib.indexByte s.data.toList c)) ∧ w' = w := by
  have h := Any.strings_IndexByte lays137 s ((c.toNat : Nat) : Int) w
  have e : ((c.toNat : Nat) : Int).toNat.toUInt8 = c := by simp
  rw [e] at h
  exact h
set_option maxHeartbeats 1000000 in
theorem palnum_any (n : Nat) (w : World) :
    Calls Tryz.prog 158 #[.int .u8 (n : Int)] w fun e w' => e = .returned (.bool (alnum n)) ∧ w' = w := by
  rcases (by omega : (n < 48) ∨ (48 ≤ n ∧ n ≤ 57) ∨ (58 ≤ n ∧ n ≤ 64) ∨ (65 ≤ n ∧ n ≤ 90) ∨ (91 ≤ n ∧ n ≤ 96) ∨ (97 ≤ n ∧ n ≤ 122) ∨ (123 ≤ n)) with h | h | h | h | h | h | h
  · have hr : alnum n = false := by simp [alnum]; omega
    have d0 : decide ((65 : Int) ≤ (n : Int)) = false := by simp; omega
    have d1 : decide ((n : Int) ≤ 90) = true := by simp; omega
    have d2 : decide ((97 : Int) ≤ (n : Int)) = false := by simp; omega
    have d3 : decide ((n : Int) ≤ 122) = true := by simp; omega
    have d4 : decide ((48 : Int) ≤ (n : Int)) = false := by simp; omega
    have d5 : decide ((n : Int) ≤ 57) = true := by simp; omega
    have HR := Lib.hid hr
    clear hr h
    go_enter Tryz.func158, Tryz.ntmps158
    go_wp2_with fail
    go_ret
    exact ⟨by rw [HR.out]; rfl, rfl⟩
  · have hr : alnum n = true := by simp [alnum]; omega
    have d0 : decide ((65 : Int) ≤ (n : Int)) = false := by simp; omega
    have d1 : decide ((n : Int) ≤ 90) = true := by simp; omega
    have d2 : decide ((97 : Int) ≤ (n : Int)) = false := by simp; omega
    have d3 : decide ((n : Int) ≤ 122) = true := by simp; omega
    have d4 : decide ((48 : Int) ≤ (n : Int)) = true := by simp; omega
    have d5 : decide ((n : Int) ≤ 57) = true := by simp; omega
    have HR := Lib.hid hr
    clear hr h
    go_enter Tryz.func158, Tryz.ntmps158
    go_wp2_with fail
    go_ret
    exact ⟨by rw [HR.out]; rfl, rfl⟩
  · have hr : alnum n = false := by simp [alnum]; omega
    have d0 : decide ((65 : Int) ≤ (n : Int)) = false := by simp; omega
    have d1 : decide ((n : Int) ≤ 90) = true := by simp; omega
    have d2 : decide ((97 : Int) ≤ (n : Int)) = false := by simp; omega
    have d3 : decide ((n : Int) ≤ 122) = true := by simp; omega
    have d4 : decide ((48 : Int) ≤ (n : Int)) = true := by simp; omega
    have d5 : decide ((n : Int) ≤ 57) = false := by simp; omega
    have HR := Lib.hid hr
    clear hr h
    go_enter Tryz.func158, Tryz.ntmps158
    go_wp2_with fail
    go_ret
    exact ⟨by rw [HR.out]; rfl, rfl⟩
  · have hr : alnum n = true := by simp [alnum]; omega
    have d0 : decide ((65 : Int) ≤ (n : Int)) = true := by simp; omega
    have d1 : decide ((n : Int) ≤ 90) = true := by simp; omega
    have d2 : decide ((97 : Int) ≤ (n : Int)) = false := by simp; omega
    have d3 : decide ((n : Int) ≤ 122) = true := by simp; omega
    have d4 : decide ((48 : Int) ≤ (n : Int)) = true := by simp; omega
    have d5 : decide ((n : Int) ≤ 57) = false := by simp; omega
    have HR := Lib.hid hr
    clear hr h
    go_enter Tryz.func158, Tryz.ntmps158
    go_wp2_with fail
    go_ret
    exact ⟨by rw [HR.out]; rfl, rfl⟩
  · have hr : alnum n = false := by simp [alnum]; omega
    have d0 : decide ((65 : Int) ≤ (n : Int)) = true := by simp; omega
    have d1 : decide ((n : Int) ≤ 90) = false := by simp; omega
    have d2 : decide ((97 : Int) ≤ (n : Int)) = false := by simp; omega
    have d3 : decide ((n : Int) ≤ 122) = true := by simp; omega
    have d4 : decide ((48 : Int) ≤ (n : Int)) = true := by simp; omega
    have d5 : decide ((n : Int) ≤ 57) = false := by simp; omega
    have HR := Lib.hid hr
    clear hr h
    go_enter Tryz.func158, Tryz.ntmps158
    go_wp2_with fail
    go_ret
    exact ⟨by rw [HR.out]; rfl, rfl⟩
  · have hr : alnum n = true := by simp [alnum]; omega
    have d0 : decide ((65 : Int) ≤ (n : Int)) = true := by simp; omega
    have d1 : decide ((n : Int) ≤ 90) = false := by simp; omega
    have d2 : decide ((97 : Int) ≤ (n : Int)) = true := by simp; omega
    have d3 : decide ((n : Int) ≤ 122) = true := by simp; omega
    have d4 : decide ((48 : Int) ≤ (n : Int)) = true := by simp; omega
    have d5 : decide ((n : Int) ≤ 57) = false := by simp; omega
    have HR := Lib.hid hr
    clear hr h
    go_enter Tryz.func158, Tryz.ntmps158
    go_wp2_with fail
    go_ret
    exact ⟨by rw [HR.out]; rfl, rfl⟩
  · have hr : alnum n = false := by simp [alnum]; omega
    have d0 : decide ((65 : Int) ≤ (n : Int)) = true := by simp; omega
    have d1 : decide ((n : Int) ≤ 90) = false := by simp; omega
    have d2 : decide ((97 : Int) ≤ (n : Int)) = true := by simp; omega
    have d3 : decide ((n : Int) ≤ 122) = false := by simp; omega
    have d4 : decide ((48 : Int) ≤ (n : Int)) = true := by simp; omega
    have d5 : decide ((n : Int) ≤ 57) = false := by simp; omega
    have HR := Lib.hid hr
    clear hr h
    go_enter Tryz.func158, Tryz.ntmps158
    go_wp2_with fail
    go_ret
    exact ⟨by rw [HR.out]; rfl, rfl⟩


theorem palnum_is {c : UInt8} {b : Bool} (h : alnum c.toNat = b) (w : World) : Calls Tryz.prog 158 #[.int .u8 ((c.toNat : Nat) : Int)] w fun e w' => e = .returned (.bool b) ∧ w' = w := by
  have := palnum_any c.toNat w
  rwa [h] at this
set_option maxHeartbeats 1000000 in
theorem plb_any (c : UInt8) (w : World) : Calls Tryz.prog 140 #[.int .u8 ((c.toNat : Nat) : Int)] w fun e w' => e = .returned (.bool (lblB c)) ∧ w' = w := by
  cases ha : alnum c.toNat with
  | true =>
    have HR := Lib.hid (show lblB c = true by unfold lblB; rw [ha]; rfl)
    have HA := Lib.hid (fun w => palnum_is ha w)
    clear ha
    go_enter Tryz.func140, Tryz.ntmps140
    go_wp2_with (go_at_call 158; (with_reducible refine (HA.out _).mono ?_); rintro e w1 ⟨rfl, rfl⟩)
    go_ret
    exact ⟨by rw [HR.out]; rfl, rfl⟩
  | false =>
    have HA := Lib.hid (fun w => palnum_is ha w)
    by_cases h : c = 45
    · have d : (((c.toNat : Nat) : Int) == (45 : Int)) = true := by rw [h]; rfl
      have HR := Lib.hid (show lblB c = true by unfold lblB; rw [h]; rfl)
      clear ha h
      go_enter Tryz.func140, Tryz.ntmps140
      go_wp2_with (go_at_call 158; (with_reducible refine (HA.out _).mono ?_); rintro e w1 ⟨rfl, rfl⟩)
      go_ret
      exact ⟨by rw [HR.out]; rfl, rfl⟩
    · have d : (((c.toNat : Nat) : Int) == (45 : Int)) = false := by
        have : ¬ c.toNat = 45 := fun k => h (UInt8.toNat_inj.1 k)
        simp; omega
      have HR := Lib.hid (show lblB c = false by unfold lblB; rw [ha, beq_eq_false_iff_ne.2 h]; rfl)
      clear ha h
      go_enter Tryz.func140, Tryz.ntmps140
      go_wp2_with (go_at_call 158; (with_reducible refine (HA.out _).mono ?_); rintro e w1 ⟨rfl, rfl⟩)
      go_ret
      exact ⟨by rw [HR.out]; rfl, rfl⟩

def locB (c : UInt8) : Bool := alnum c.toNat || signsL.contains c
theorem pidx_signs (c : UInt8) (w : World) : Calls Tryz.prog 159 #[.string ⟨#[33, 35, 36, 37, 38, 39, 42, 43, 45, 47, 61, 63, 94, 95, 96, 123, 124, 125, 126, 46]⟩, .int .u8 ((c.toNat : Nat) : Int)] w fun e w' => e = .returned (.int .i64 (Lib.indexByte signsL c)) ∧ w' = w :=
  pidx_any ⟨#[33, 35, 36, 37, 38, 39, 42, 43, 45, 47, 61, 63, 94, 95, 96, 123, 124, 125, 126, 46]⟩ c w
set_option maxHeartbeats 1000000 in
theorem pxb_any (c : UInt8) (w : World) : Calls Tryz.prog 136 #[.int .u8 ((c.toNat : Nat) : Int)] w fun e w' => e = .returned (.bool (locB c)) ∧ w' = w := by
  cases ha : alnum c.toNat with
  | true =>
    have HR := Lib.hid (show locB c = true by unfold locB; rw [ha]; rfl)
    have HA := Lib.hid (fun w => palnum_is ha w)
    clear ha
    go_enter Tryz.func136, Tryz.ntmps136
    go_wp2_with (go_at_call 158; (with_reducible refine (HA.out _).mono ?_); rintro e w1 ⟨rfl, rfl⟩)
    go_ret
    exact ⟨by rw [HR.out]; rfl, rfl⟩
  | false =>
    have HA := Lib.hid (fun w => palnum_is ha w)
    have HX := Lib.hid (fun w => pidx_signs c w)
    have HR := Lib.hid (show locB c = decide (0 ≤ Lib.indexByte signsL c) by unfold locB; rw [ha, idx_has]; rfl)
    generalize Lib.indexByte signsL c = z at HX HR
    clear ha
    cases hz : decide ((0 : Int) ≤ z)
    · rw [hz] at HR
      go_enter Tryz.func136, Tryz.ntmps136
      go_wp2_with (first
        | (go_at_call 158; (with_reducible refine (HA.out _).mono ?_); rintro e w1 ⟨rfl, rfl⟩)
        | (go_at_call 159; (with_reducible refine (HX.out _).mono ?_); rintro e w1 ⟨rfl, rfl⟩))
      go_ret
      exact ⟨by rw [HR.out]; rfl, rfl⟩
    · rw [hz] at HR
      go_enter Tryz.func136, Tryz.ntmps136
      go_wp2_with (first
        | (go_at_call 158; (with_reducible refine (HA.out _).mono ?_); rintro e w1 ⟨rfl, rfl⟩)
        | (go_at_call 159; (with_reducible refine (HX.out _).mono ?_); rintro e w1 ⟨rfl, rfl⟩))
      go_ret
      exact ⟨by rw [HR.out]; rfl, rfl⟩

/-- The function numbered g says of each byte whether p holds. -/
def PaysB (g : Nat) (p : UInt8 → Bool) : Prop := ∀ (c : UInt8) w, Calls Tryz.prog g #[.int .u8 ((c.toNat : Nat) : Int)] w fun e w' => e = .returned (.bool (p c)) ∧ w' = w
set_option maxRecDepth 100000 in
set_option maxHeartbeats 2000000 in
theorem pcons_any (g : Nat) (eg : ∀ args w, (callFunc g args).run Tryz.prog w = .ok (.enter g args) w) (p : UInt8 → Bool) (hp : PaysB g p) (L : List UInt8) (hL : L.length ≤ 100000) (w : World) :
    Calls Tryz.prog 135 #[.string (strOf L), .func (.func g) #[] #[]] w fun e w' => e = .returned (.bool (L.all p)) ∧ w' = w := by
  have es := strOf_size L
  have HP := Lib.hid hp
  clear hp
  go_enter Tryz.func135, Tryz.ntmps135
  go_wp2_with fail
  go_loopw [8] (fun i wr => ∃ m : Nat, m ≤ L.length ∧ i = .int .i64 (m : Int) ∧ L.all p = (L.drop m).all p ∧ wr = w) (fun i _ => L.length - (intOf i).toNat)
  case atStart => exact ⟨0, Nat.zero_le _, rfl, rfl, rfl⟩
  case round =>
    obtain ⟨m, hm, rfl, hal, rfl⟩ := hrel
    by_cases hmt : m < L.length
    · have hd : decide ((m : Int) < (L.length : Int)) = true := by simp; omega
      obtain ⟨c, hc, hcn⟩ := u8at_list (strOf L) m (by rw [es]; exact hmt)
      have hix := run_index_u8 (P := Tryz.prog) Tryz.underlying9 (strOf L) m (by rw [es]; exact hmt) (m : Int) rfl
      rw [hcn] at hix
      rw [strOf_list] at hc
      rw [drop_cons hc, List.all_cons] at hal
      have HAL := Lib.hid hal
      have HC := Lib.hid (HP.out c wr)
      clear hc hcn hal
      cases ha : p c with
      | true =>
        rw [ha] at HAL HC
        have HN2 := Lib.hid (show L.all p = (L.drop (m + 1)).all p by rw [HAL.out, Bool.true_and])
        clear ha
        go_wp2_with (go_at_fn g; refine HC.out.mono ?_; rintro e W' ⟨rfl, rfl⟩)
        go_roundw
        case rel => exact ⟨m + 1, by omega, by go_num, HN2.out, by first | exact trivial | rfl⟩
        case measure => simp [intOf]; omega
      | false =>
        rw [ha] at HAL HC
        have HF := Lib.hid (show L.all p = false by rw [HAL.out, Bool.false_and])
        clear ha
        go_wp2_with (go_at_fn g; refine HC.out.mono ?_; rintro e W' ⟨rfl, rfl⟩)
        go_ret
        exact ⟨by rw [HF.out]; rfl, rfl⟩
    · have hd : decide ((m : Int) < (L.length : Int)) = false := by simp; omega
      have HF := Lib.hid (show L.all p = true by rw [hal, List.drop_eq_nil_of_le (by omega)]; rfl)
      clear hal
      go_wp2_with fail
      go_ret
      exact ⟨by rw [HF.out]; rfl, rfl⟩
theorem pcons_lb (L : List UInt8) (hL : L.length ≤ 100000) (w : World) : Calls Tryz.prog 135 #[.string (strOf L), .func (.func 140) #[] #[]] w fun e w' => e = .returned (.bool (L.all lblB)) ∧ w' = w :=
  pcons_any _ (enters_of Tryz.func140 (by kernel_rfl) rfl) lblB plb_any L hL w
theorem pcons_xb (L : List UInt8) (hL : L.length ≤ 100000) (w : World) : Calls Tryz.prog 135 #[.string (strOf L), .func (.func 136) #[] #[]] w fun e w' => e = .returned (.bool (L.all locB)) ∧ w' = w :=
  pcons_any _ (enters_of Tryz.func136 (by kernel_rfl) rfl) locB pxb_any L hL w
end Go.Proofs.YtkiniledfcdgjaaGreatDoor
