/-
  The law's awake returns true: the example of the chapter.
  Small facts for the laws of layer 10.
  A general name that can be read: its cells, and what lies behind its name.
  What every card of this seat's laws over gname needs: how a slice of bytes is opened, how seven arguments are opened, and that the laws' functions only read what they are handed.
  A slice of numbers that can be read: its numbers lie at its address.
  Parameters that are constraints, states and reduced states: their cells, and what lies behind them.
  The contracts of the law's short and sameState.
-/
import Derived.Test.YtbpdenfiifcfcaaGreatDoorMbn
import Derived.Test.YtbpdenfiifcfcaaGreatDoorMbd
import Derived.Test.YtbpdenfiifcfcaaGreatDoorMbe
import Derived.Test.YtbpdenfiifcfcaaGreatDoorMbh
import Derived.Test.YtbpdenfiifcfcaaGreatDoorMbc
import Derived.Test.YtbpdenfiifcfcaaGreatDoorCards
import Derived.Test.YtbpdenfiifcfcaaGreatDoorTie
import Derived.Test.YtbpdenfiifcfcaaGreatDoorMaw
import Derived.Test.YtbpdenfiifcfcaaGreatDoorMaj
import Derived.ProofKit
import Derived.OpenShut
import Derived.Deep.DeepHandedRow
import Derived.Deep.DeepWitnessRowRef
import Derived.Lay
import Derived.Stop.LaidErr
import Derived.Lib.QuietBelow
import Derived.BigQuiet
namespace Go.Proofs.YtbpdenfiifcfcaaGreatDoor
open Go.RowKit

def exT : List UInt8 := [101, 120, 97, 109, 112, 108, 101, 46, 111, 114, 103]
def wwT : List UInt8 := [119, 119, 119, 46, 101, 120, 97, 109, 112, 108, 101, 46, 111, 114, 103]
def maT : List UInt8 := [97, 64, 98]
def awL : List Sub := [([((2 : Int), exT, ([] : Nm))], []), ([((2 : Int), wwT, ([] : Nm))], [])]
set_option maxRecDepth 100000 in
theorem aw_we : dnsWithinB wwT exT = true ∧ dnsWithinB wwT wwT = true ∧ dnsWithinB exT wwT = false := by decide +kernel
theorem aw_one : perG awL (2, wwT, []) = true := by
  have h1 : wG (2, wwT, []) (2, exT, []) = true := (withinG_2 _ _ _ _).trans aw_we.1
  have h2 : wG (2, wwT, []) (2, wwT, []) = true := (withinG_2 _ _ _ _).trans aw_we.2.1
  simp [perG, awL, inG, limG, h1, h2]
theorem aw_two : perG awL (2, exT, []) = false := by
  have h2 : wG (2, exT, []) (2, wwT, []) = false := (withinG_2 _ _ _ _).trans aw_we.2.2
  simp [perG, awL, inG, limG, h2]
theorem aw_three : perG awL (1, maT, []) = true := by
  simp [perG, awL, inG, limG]
theorem sm_nil (k : Int) (t : List UInt8) (h : t.length ≤ 150000) : SmG (k, t, []) := ⟨h, Nat.zero_le _, fun _ hi => absurd hi (Nat.not_lt_zero _)⟩
theorem sm_one {g : Gn} (h : SmG g) : SmL [g] := fun x hx => by rw [List.mem_singleton.1 hx]; exact h
theorem sm_none : SmL [] := fun _ h => nomatch h
theorem awL_ok : OkS awL := OkS.snoc (L := [([((2 : Int), exT, ([] : Nm))], [])]) (OkS.snoc (L := []) OkS.nil (by decide) (sm_one (sm_nil _ _ (by decide))) sm_none (by decide) (by decide)) (by decide) (sm_one (sm_nil _ _ (by decide))) sm_none (by decide) (by decide)
theorem awL1_ok : OkS [([((2 : Int), exT, ([] : Nm))], [])] := OkS.snoc (L := []) OkS.nil (by decide) (sm_one (sm_nil _ _ (by decide))) sm_none (by decide) (by decide)
set_option maxRecDepth 100000 in
set_option maxHeartbeats 4000000 in
theorem awake_core (w : World) (hmk : Mk w) : Calls Tryz.prog 8 #[] w fun e w' => e = .returned (.bool true) ∧ Below w.heap.size w w' := by
  obtain ⟨Wa, hWa⟩ : ∃ Wa, Wa = w.alloc (.cells #[.int .i64 2, .string ⟨#[101, 120, 97, 109, 112, 108, 101, 46, 111, 114, 103]⟩, .slice none 0 0] 29) := ⟨_, rfl⟩
  have hwa := hWa.symm
  have hba : Below w.heap.size w Wa := by rw [hWa]; exact belowNew w _
  have hga := glies_one (w := Wa) (g := w.heap.size) (k := 2) (t := exT) (n := []) (a := none) (c := 0) (by rw [hWa]; exact heap_alloc_new w _) (Nat.le_refl _) (.inl rfl)
  have HA := Lib.hid (add_core none (some ⟨w.heap.size, 0, none⟩) none 0 0 1 0 1 0 [] [(2, exT, [])] [] Wa (.inl rfl) rfl OkS.nil (by decide) hga (.inl rfl) rfl rfl (by decide) (by decide) (sm_one (sm_nil _ _ (by decide))) sm_none)
  have HMK := Lib.hid hmk
  have HBA := Lib.hid hba
  clear hmk hba hga hWa
  go_enter Tryz.func8, Tryz.ntmps8
  go_upto_region 2 with (go_at_call 25; (with_reducible refine HA.out.mono ?_); rintro e w1 ⟨v, rfl, ho, hb⟩; obtain ⟨av, cv, hv, _, _⟩ := ho.lies; rw [show ([] ++ [([((2 : Int), exT, ([] : Nm))], ([] : List Gn))] : List Sub).length = 1 from rfl] at hv; subst hv; have HB1 := Lib.hid (below_next HBA.out hb); have HO1 := Lib.hid ho; clear hb ho)
  clear hwa
  obtain ⟨W2, hW2⟩ : ∃ W2, W2 = w1.alloc (.cells #[.slice av 1 cv] 55) := ⟨_, rfl⟩
  rw [← hW2]
  obtain ⟨g, hg⟩ : ∃ g, g = w1.heap.size := ⟨_, rfl⟩
  have hb2 : Below w1.heap.size w1 W2 := by rw [hW2]; exact belowNew w1 _
  have hq2 : W2.heap[g]? = some (.cells #[.slice av 1 cv] 55 (0, 0)) := by rw [hW2, hg]; exact heap_alloc_new w1 _
  rw [← hg]
  obtain ⟨c0, f0, lg2⟩ := one_facts hq2
  have HWG := Lib.hid (show w.heap.size ≤ g by rw [hg]; exact HB1.out.size)
  obtain ⟨Wb, hWb⟩ : ∃ Wb, Wb = W2.alloc (.cells #[.int .i64 2, .string ⟨#[119, 119, 119, 46, 101, 120, 97, 109, 112, 108, 101, 46, 111, 114, 103]⟩, .slice none 0 0] 29) := ⟨_, rfl⟩
  have hwb := hWb.symm
  have hbb : Below W2.heap.size W2 Wb := by rw [hWb]; exact belowNew W2 _
  have hgb := glies_one (w := Wb) (g := W2.heap.size) (k := 2) (t := wwT) (n := []) (a := none) (c := 0) (by rw [hWb]; exact heap_alloc_new W2 _) (Nat.le_refl _) (.inl rfl)
  have hsl : SLies Wb av [([((2 : Int), exT, ([] : Nm))], [])] := by
    obtain ⟨a', c', e, _, hl⟩ := ((HO1.out.below hb2).below hbb).lies
    rw [(slice_inj e).1]; exact hl
  have HA2 := Lib.hid (add_core av (some ⟨W2.heap.size, 0, none⟩) none cv 1 1 0 1 0 [([((2 : Int), exT, ([] : Nm))], [])] [(2, wwT, [])] [] Wb hsl rfl awL1_ok (by decide) hgb (.inl rfl) rfl rfl (by decide) (by decide) (sm_one (sm_nil _ _ (by decide))) sm_none)
  have HQ := Lib.hid ((hbb.block g lg2).trans hq2)
  have HBB := Lib.hid (below_next (below_next HB1.out hb2) hbb)
  have lgb : g < Wb.heap.size := Nat.lt_of_lt_of_le lg2 hbb.size
  clear hb2 hq2 hbb hgb hsl hWb hg hW2
  go_upto_region 3 with (go_at_call 25; (with_reducible refine HA2.out.mono ?_); rintro e w3 ⟨v, rfl, ho, hb⟩; obtain ⟨a3, c3, hv, _, _⟩ := ho.lies; rw [show ([([((2 : Int), exT, ([] : Nm))], ([] : List Gn))] ++ [([((2 : Int), wwT, ([] : Nm))], ([] : List Gn))] : List Sub).length = 2 from rfl] at hv; subst hv; have hq3 := (hb.block g lgb).trans HQ.out; obtain ⟨d0, d1, d2⟩ := one_facts hq3; have HQ3 := Lib.hid hq3; have HB3 := Lib.hid (below_next HBB.out hb); have HO3 := Lib.hid ho; clear hb ho hq3)
  clear hwb c0 f0
  obtain ⟨W4, hW4⟩ : ∃ W4, W4 = w3.setCell ⟨g, 0, none⟩ (.slice a3 2 c3) := ⟨_, rfl⟩
  rw [← hW4]
  have hq4 : W4.heap[g]? = some (.cells #[.slice a3 2 c3] 55 (0, 0)) := by rw [hW4]; exact one_set HQ3.out
  have HB4 := Lib.hid (show Below w.heap.size w W4 by rw [hW4]; exact below_set HB3.out HWG.out)
  have hs4 : SLies W4 a3 awL := by
    obtain ⟨a', c', e, _, hl⟩ := (HO3.out.apart (w' := W4) HQ3.out (by decide) (by decide) (by decide) (by decide) (by rw [hW4]; exact But.set _ _ _ _)).lies
    rw [(slice_inj e).1]; exact hl
  obtain ⟨c0, _, lg⟩ := one_facts hq4
  have HC0 := Lib.hid c0
  have HX := Lib.hid (Below.refl W4.heap.size W4)
  have HP1 := Lib.hid (fun W (hb : Below W4.heap.size W4 W) => permits_core a3 none c3 2 0 0 awL 2 wwT [] W (hs4.below hb) rfl (by decide) (.inl rfl) rfl (Nat.le_refl _) (sm_nil _ _ (by decide)) awL_ok.1 awL_ok.2.2 ((HMK.out.below HB4.out).below hb))
  have HP2 := Lib.hid (fun W (hb : Below W4.heap.size W4 W) => permits_core a3 none c3 2 0 0 awL 2 exT [] W (hs4.below hb) rfl (by decide) (.inl rfl) rfl (Nat.le_refl _) (sm_nil _ _ (by decide)) awL_ok.1 awL_ok.2.2 ((HMK.out.below HB4.out).below hb))
  have HP3 := Lib.hid (fun W (hb : Below W4.heap.size W4 W) => permits_core a3 none c3 2 0 0 awL 1 maT [] W (hs4.below hb) rfl (by decide) (.inl rfl) rfl (Nat.le_refl _) (sm_nil _ _ (by decide)) awL_ok.1 awL_ok.2.2 ((HMK.out.below HB4.out).below hb))
  rw [aw_one, show strOf wwT = ⟨#[119, 119, 119, 46, 101, 120, 97, 109, 112, 108, 101, 46, 111, 114, 103]⟩ from rfl] at HP1
  rw [aw_two, show strOf exT = ⟨#[101, 120, 97, 109, 112, 108, 101, 46, 111, 114, 103]⟩ from rfl] at HP2
  rw [aw_three, show strOf maT = ⟨#[97, 64, 98]⟩ from rfl] at HP3
  clear hq4 hs4 hW4 d0 d1 d2
  go_wp2_with (first
  | (go_at_call 26; (with_reducible refine (HP1.out _ HX.out).mono ?_); rintro e w5 ⟨rfl, hb9⟩; have HX := Lib.hid (below_next HX.out hb9); have c0 := (HX.out.cell (p := ⟨g, 0, none⟩) lg).trans HC0.out; clear hb9)
  | (go_at_call 26; (with_reducible refine (HP2.out _ HX.out).mono ?_); rintro e w6 ⟨rfl, hb9⟩; have HX := Lib.hid (below_next HX.out hb9); have c0 := (HX.out.cell (p := ⟨g, 0, none⟩) lg).trans HC0.out; clear hb9)
  | (go_at_call 26; (with_reducible refine (HP3.out _ HX.out).mono ?_); rintro e w7 ⟨rfl, hb9⟩; have HX := Lib.hid (below_next HX.out hb9); have c0 := (HX.out.cell (p := ⟨g, 0, none⟩) lg).trans HC0.out; clear hb9))
  go_ret
  exact ⟨rfl, below_next HB4.out HX.out⟩
end Go.Proofs.YtbpdenfiifcfcaaGreatDoor
namespace Go.Proofs.YtbpdenfiifcfcaaGreatDoor
open Go.RowKit

theorem ints_below {w w' : World} {a : Option Addr} {zs : List Int} (h : ILies w a zs) (hb : Below w.heap.size w w') : ILies w' a zs := h.below hb (fun x hx hne => by
  rcases h with h | ⟨b, o, h1, h2⟩
  · exact absurd h hne
  · rw [h1] at hx
    obtain rfl := Option.some.inj hx
    have := h2 0 (List.length_pos_iff.2 hne)
    exact block_lt this)
end Go.Proofs.YtbpdenfiifcfcaaGreatDoor
namespace Go.Proofs.YtbpdenfiifcfcaaGreatDoor
open Go.ChangeShapes Go.WideShapes Go.ChangeAt Go.RowKit Go.ChangeMaps Go.Deep

theorem bigG_of {k : Int} {t : List UInt8} {n : Nm} (ht : t.length ≤ 9223372036854775807) (hn : NameOk n) : BigG (k, t, n) :=
  ⟨ht, hn.1, fun i hi => ⟨(hn.2 i hi).1, fun j hj => ⟨((hn.2 i hi).2 j hj).1, ((hn.2 i hi).2 j hj).2.1⟩⟩⟩
set_option maxRecDepth 10000 in
/-- One general name, of three cells. -/
theorem open_gn {H : Type} {enc : TypeId × Value → H} {W : World} {n : Nat} {cs : List Value} {x : DataW H × List MemPlace} (h : DataW.trod enc Tryz.prog W 0 (fun _ => true) true n 29 cs = some x) :
    ∃ (k : Int) (t : List UInt8) (a : Option Addr) (c : Nat) (m : Nm), cs = [.int .i64 k, .string (strOf t), .slice a m.length c] ∧ m.length ≤ c ∧ RLies W a m ∧ BigG (k, t, m) := by
  obtain ⟨xs, k, _, _, hl, hlen, hfd⟩ := DataW.trod_struct Tryz.underlying29 h
  have c1 : Tryz.prog.cellsOf 3 = 1 := by kernel_rfl
  have c2 : Tryz.prog.cellsOf 9 = 1 := by kernel_rfl
  have c3 : Tryz.prog.cellsOf 29 = 3 := by kernel_rfl
  have c4 : Tryz.prog.cellsOf 27 = 1 := by kernel_rfl
  have c5 : Tryz.prog.cellsOf 25 = 1 := by kernel_rfl
  have hlen3 : xs.length = 3 := hlen
  have hs3 : cs.length = 3 := hl.trans c3
  match xs, hlen3 with
  | [y0, y1, y2], _ =>
    match cs, hs3 with
    | [z0, z1, z2], _ =>
      have g0 : DataW.trod enc Tryz.prog W 0 (fun _ => true) true k 3 (([z0, z1, z2].drop 0).take (Tryz.prog.cellsOf 3)) = some y0 := hfd 0 _ rfl
      rw [c1] at g0
      obtain ⟨n0, e0, _, _⟩ := DataW.trod_int Tryz.underlying3 g0
      have g1 : DataW.trod enc Tryz.prog W 0 (fun _ => true) true k 9 (([z0, z1, z2].drop 1).take (Tryz.prog.cellsOf 9)) = some y1 := hfd 1 _ rfl
      rw [c2] at g1
      obtain ⟨s1, e1, _, w1⟩ := DataW.trod_string Tryz.underlying9 g1
      have g2 : DataW.trod enc Tryz.prog W 0 (fun _ => true) true k 27 (([z0, z1, z2].drop 2).take (Tryz.prog.cellsOf 27)) = some y2 := hfd 2 _ rfl
      rw [c4] at g2
      obtain ⟨xs2, k2, _, _, _, hlen2, hfd2⟩ := DataW.trod_struct Tryz.underlying27 g2
      have hlen1 : xs2.length = 1 := hlen2
      match xs2, hlen1 with
      | [u0], _ =>
        have g3 : DataW.trod enc Tryz.prog W 0 (fun _ => true) true k2 25 ((((([z0, z1, z2] : List Value).drop 2).take 1).drop 0).take (Tryz.prog.cellsOf 25)) = some u0 := hfd2 0 _ rfl
        rw [c5] at g3
        obtain ⟨a, c, m, e2, h3, h1, h2⟩ := open_rdns (z := z2) (by simpa using g3)
        have r0 : z0 = .int .i64 n0 := by simpa using e0
        have r1 : z1 = .string s1 := by simpa using e1
        refine ⟨n0, s1.data.toList, a, c, m, by rw [r0, r1, e2]; rfl, h3, h1, bigG_of ?_ h2⟩
        show s1.size ≤ _
        unfold maxLen at w1; omega
set_option maxRecDepth 10000 in
theorem open_gname {H : Type} {enc : TypeId × Value → H} {W : World} {r : Reach} {b0 : Nat} {v : Value} {d : DataW H} {p : List MemPlace}
    (hval : Value.okWide Tryz.prog W r b0 29 v) (h : DataW.Trod enc Tryz.prog W 0 (fun _ => true) true 29 v d p) :
    ∃ (k : Int) (t : List UInt8) (a : Option Addr) (c : Nat) (m : Nm), v = .agg #[.int .i64 k, .string (strOf t), .slice a m.length c] ∧ m.length ≤ c ∧ RLies W a m ∧ BigG (k, t, m) := by
  unfold Value.okWide at hval
  rw [Tryz.underlying29] at hval
  obtain ⟨cs, rfl, _, _⟩ := hval
  obtain ⟨fuel, hf⟩ := h
  obtain ⟨k, t, a, c, m, e, h1, h2, h3⟩ := open_gn hf
  refine ⟨k, t, a, c, m, ?_, h1, h2, h3⟩
  have hcl : (Value.agg cs).cells.toList = cs.toList := rfl
  rw [hcl] at e
  congr 1
  exact Array.toList_inj.1 e
end Go.Proofs.YtbpdenfiifcfcaaGreatDoor
namespace Go.Proofs.YtbpdenfiifcfcaaGreatDoor
open Go.ChangeShapes Go.WideShapes Go.ChangeAt Go.RowKit Go.ChangeMaps

theorem own : ownKnob Tryz.prog.godebug = none := by kernel_rfl

/-- What was handed in reads as it read, for a call that leaves old memory alone. -/
theorem below_trodAll {H : Type} {enc : TypeId × Value → H} {W W' : World} (hb : Below W.heap.size W W') :
    ∀ (ts : List TypeId) (vs : List Value) (ds : List (DataW H)) (ps : List MemPlace), (∀ t ∈ ts, Tryz.prog.readableRec t = true ∧ t < Tryz.prog.types.size) → (∀ x ∈ ps, x.block < W.heap.size) →
      DataW.TrodAll enc Tryz.prog W 0 (fun _ => true) true ts vs ds ps → DataW.TrodAll enc Tryz.prog W' 0 (fun b => decide (b < W.heap.size)) true ts vs ds ps := by
  intro ts
  induction ts with
  | nil => intro vs ds ps _ _ h; obtain ⟨rfl, rfl, rfl⟩ := trodAll_nil h; exact trodAll_mk0
  | cons t ts ih =>
    intro vs ds ps ht hp h
    obtain ⟨v, vs', d, ds', p, q, rfl, rfl, rfl, h1, h2⟩ := trodAll_cons h
    exact trodAll_cons_mk (Below.trod laidOut (ht t (by simp)).1 (ht t (by simp)).2 h1 hb (fun x hx => hp x (by simp [hx]))) (ih vs' ds' q (fun u hu => ht u (by simp [hu])) (fun x hx => hp x (by simp [hx])) h2)

end Go.Proofs.YtbpdenfiifcfcaaGreatDoor
namespace Go.Proofs.YtbpdenfiifcfcaaGreatDoor
open Go.ChangeShapes Go.WideShapes Go.ChangeAt Go.RowKit

set_option maxRecDepth 10000 in
theorem open_nums {H : Type} {enc : TypeId × Value → H} {W : World} {a0 : Option Addr} {len cap : Nat} {d : DataW H} {p : List MemPlace}
    (h : DataW.Trod enc Tryz.prog W 0 (fun _ => true) true 30 (.slice a0 len cap) d p) : ∃ zs : List Int, len = zs.length ∧ ILies W a0 zs ∧ zs.length ≤ 9223372036854775807 := by
  obtain ⟨fuel, hf⟩ := h
  have cb : Tryz.prog.cellsOf 3 = 1 := by kernel_rfl
  rcases open_ints Tryz.underlying30 Tryz.underlying3 cb hf with ⟨hcs, _⟩ | ⟨a, len', cap', zs, hcs, _, hl, hcm, hz, _, hcell, _⟩
  · simp [Value.cells] at hcs
    obtain ⟨rfl, rfl, rfl⟩ := hcs
    exact ⟨[], rfl, .inl rfl, by simp⟩
  · simp [Value.cells] at hcs
    obtain ⟨rfl, rfl, rfl⟩ := hcs
    by_cases h0 : len = 0
    · subst h0
      exact ⟨[], rfl, .inl rfl, by simp⟩
    · have hzl : len ≤ zs.length := by rw [hz]; simpa using hl
      obtain ⟨b, off, rfl, hc⟩ := ints_at hcell (by omega)
      have e : (zs.take len).length = len := by rw [List.length_take]; omega
      refine ⟨zs.take len, e.symm, .inr ⟨b, off, rfl, fun i hi => ?_⟩, by rw [e]; unfold maxLen at hcm; omega⟩
      rw [e] at hi
      rw [hc i (by omega)]
      congr 2
      rw [List.getD_eq_getElem?_getD, List.getD_eq_getElem?_getD, List.getElem?_take_of_lt hi]

end Go.Proofs.YtbpdenfiifcfcaaGreatDoor
namespace Go.Proofs.YtbpdenfiifcfcaaGreatDoor
open Go.ChangeShapes Go.WideShapes Go.ChangeAt Go.RowKit Go.ChangeMaps Go.Deep

def BigL (l : List Gn) : Prop := l.length ≤ 9223372036854775807 ∧ ∀ i, i < l.length → BigG (l.getD i noG)
end Go.Proofs.YtbpdenfiifcfcaaGreatDoor
namespace Go.Proofs.YtbpdenfiifcfcaaGreatDoor
open Go.RowKit

def ShL (l : List Gn) : Prop := l.length ≤ 20 ∧ ∀ i, i < l.length → ShG (l.getD i noG)
theorem ShL.sm {l : List Gn} (h : ShL l) : SmL l := fun g hg => by
  obtain ⟨i, hi, rfl⟩ := List.getElem_of_mem hg
  have := h.2 i hi
  rw [List.getD_eq_getElem?_getD, List.getElem?_eq_getElem hi] at this
  exact ⟨Nat.le_trans this.1 (by omega), ShN.small this.2⟩
def ShortedS (A B : List Gn) (e : Ending) : Prop := (e = .returned (.bool true) ∧ ShL A ∧ ShL B) ∨ e = .returned (.bool false)
set_option maxRecDepth 100000 in
set_option maxHeartbeats 4000000 in
theorem shorts_core (a1 a2 : Option Addr) (c1 c2 NA NB : Nat) (A B : List Gn) (w : World) (h1 : GLies w a1 A) (h2 : GLies w a2 B) (hA : NA = A.length) (hB : NB = B.length) (hbA : BigL A) (hbB : BigL B) :
    Calls Tryz.prog 6 #[.agg #[.slice a1 NA c1, .slice a2 NB c2]] w fun e w' => ShortedS A B e ∧ Below w.heap.size w w' := by
  obtain ⟨W0, hW0⟩ : ∃ W0, W0 = w.alloc (.cells #[.slice a1 NA c1, .slice a2 NB c2] 24) := ⟨_, rfl⟩
  have hwr := hW0.symm
  have hb0 : Below w.heap.size w W0 := by rw [hW0]; exact belowNew w _
  obtain ⟨s0, s1, ls⟩ := two_facts (w := W0) (g := w.heap.size) (by rw [hW0]; exact heap_alloc_new w _)
  have HB0 := Lib.hid hb0
  have HX := Lib.hid (Below.refl W0.heap.size W0)
  have HA := Lib.hid (fun W (hb : Below W0.heap.size W0 W) => shorts_any a1 c1 NA A W ((h1.below hb0).below hb) hA (by rw [hA]; exact hbA.1) hbA.2)
  have HC := Lib.hid (fun W (hb : Below W0.heap.size W0 W) => shorts_any a2 c2 NB B W ((h2.below hb0).below hb) hB (by rw [hB]; exact hbB.1) hbB.2)
  have SS0 := Lib.hid s0
  have SS1 := Lib.hid s1
  clear h1 h2 hA hB hbA hbB hb0 hW0
  go_enter Tryz.func6, Tryz.ntmps6
  go_wp2_with (first
    | (go_at_call 7; (with_reducible refine (HA.out _ HX.out).mono ?_); rintro e w1 ⟨hS, hb9⟩; have HX := Lib.hid (below_next HX.out hb9); have s0 := (HX.out.cell (p := ⟨w.heap.size, 0, none⟩) ls).trans SS0.out; have s1 := (HX.out.cell (p := ⟨w.heap.size, 1, none⟩) ls).trans SS1.out; clear hb9; rcases hS with ⟨rfl, hA⟩ | rfl)
    | (go_at_call 7; (with_reducible refine (HC.out _ HX.out).mono ?_); rintro e w2 ⟨hS, hb9⟩; have HX := Lib.hid (below_next HX.out hb9); clear hb9; rcases hS with ⟨rfl, hB⟩ | rfl))
  all_goals go_ret
  all_goals first
    | exact ⟨.inl ⟨rfl, hA, hB⟩, below_next HB0.out HX.out⟩
    | exact ⟨.inr rfl, below_next HB0.out HX.out⟩
end Go.Proofs.YtbpdenfiifcfcaaGreatDoor
