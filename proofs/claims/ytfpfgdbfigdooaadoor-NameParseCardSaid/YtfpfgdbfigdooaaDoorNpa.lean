/-
  The contract of parseAttribute: the attribute that a text denotes, if it denotes one.
-/
import Derived.Test.YtfpfgdbfigdooaaDoorMau
namespace Go.Proofs.YtfpfgdbfigdooaaDoor
open Go.RowKit

theorem uneo_any (s : ByteArray) (w : World) (hn : s.size ≤ 1000000) :
    Calls Tryd.prog 73 #[.string s] w fun e w' => e = .returned (match uneO s.data.toList with | some v => .tuple #[.string v, .bool true] | none => .tuple #[.string ⟨#[]⟩, .bool false]) ∧ Below w.heap.size w w' := by
  refine (une_any s w (by omega)).mono ?_
  rintro e w' ⟨u, ok, rfl, hu, hb⟩
  refine ⟨?_, hb⟩
  rcases une_of hu with ⟨rfl, h⟩ | ⟨rfl, rfl, h⟩ <;> rw [h]
theorem at_facts {w : World} {g : Nat} {x y z : Value} {t : TypeId} (h : w.heap[g]? = some (.cells #[x, y, z] t (0, 0))) :
    w.cell? ⟨g, 0, none⟩ = some x ∧ w.cell? ⟨g, 1, none⟩ = some y ∧ w.cell? ⟨g, 2, none⟩ = some z ∧ w.frozen? ⟨g, 0, none⟩ = false ∧ w.frozen? ⟨g, 1, none⟩ = false ∧ w.frozen? ⟨g, 2, none⟩ = false ∧ g < w.heap.size := by
  refine ⟨?_, ?_, ?_, Lib.frozen_of_heap h 0, Lib.frozen_of_heap h 1, Lib.frozen_of_heap h 2, (Array.getElem?_eq_some_iff.1 h).1⟩
  · rw [Lib.cell_of_heap h]; rfl
  · rw [Lib.cell_of_heap h]; rfl
  · rw [Lib.cell_of_heap h]; rfl
theorem at_set {w : World} {g : Nat} {x y z a b c : Value} {t : TypeId} (h : w.heap[g]? = some (.cells #[x, y, z] t (0, 0))) :
    (((w.setCell ⟨g, 0, none⟩ a).setCell ⟨g, 1, none⟩ b).setCell ⟨g, 2, none⟩ c).heap[g]? = some (.cells #[a, b, c] t (0, 0)) := by
  simp [World.setCell, Array.getElem?_modify, h]
theorem at_below {B : Nat} {w0 w : World} {g : Nat} {a b c : Value} (h : Below B w0 w) (hg : B ≤ g) : Below B w0 (((w.setCell ⟨g, 0, none⟩ a).setCell ⟨g, 1, none⟩ b).setCell ⟨g, 2, none⟩ c) :=
  ((h.setCell (p := ⟨g, 0, none⟩) hg _).setCell (p := ⟨g, 1, none⟩) hg _).setCell (p := ⟨g, 2, none⟩) hg _
theorem atSize : (Tryd.prog.info? 26).map (·.size) = some 3 := by kernel_rfl
theorem atRes {fn : Func} {p u : Tmp} (h : fn.results = #[.cell p 26, .tmp u]) (tmps : Array Value) (w w0 : World) (x y z : Value)
    (hp : tmps.getD p undef = .pointer (some ⟨w0.heap.size, 0, none⟩)) (hg : w.heap[w0.heap.size]? = some (.cells #[x, y, z] 26 (0, 0))) :
    (results fn tmps).run Tryd.prog w = .ok (.tuple #[.agg #[x, y, z], tmps.getD u undef]) w :=
  results_cell_row2 h tmps w w0.heap.size 26 #[x, y, z] (0, 0) _ hp hg Tryd.underlying26 rfl atSize

set_option maxRecDepth 100000 in
set_option maxHeartbeats 4000000 in
theorem prsA_any (x : ByteArray) (w : World) (hx : x.size ≤ 100000) (hT : Tab w) (hS : ShT w) :
    Calls Tryd.prog 55 #[.string x] w fun e w' => e = .returned (atO (prsA x)) ∧ Below w.heap.size w w' := by
  have HT := Lib.hid hT
  have HS := Lib.hid hS
  rcases index_cases x.data.toList 61 with ⟨h, _⟩ | ⟨i, h, hi⟩
  · have e : prsA x = none := by unfold prsA; rw [if_pos h]
    rw [e]
    have HC := Lib.hid (fun W => cut_any x 61 (by omega) W)
    have e2 : cutV x 61 = .tuple #[.string x, .string ⟨#[]⟩, .bool false] := if_pos h
    rw [e2] at HC
    have HTY := Lib.hid (fun W (hS : ShT W) => typ_any x W (by omega) hS)
    have HU := Lib.hid (fun W => uneo_any ⟨#[]⟩ W (by show 0 ≤ _; omega))
    have e3 : uneO (⟨#[]⟩ : ByteArray).data.toList = some ⟨#[]⟩ := une_some (by rfl)
    rw [e3] at HU
    clear e e2 e3 h hT hS
    go_enter Tryd.func55, Tryd.ntmps55
    go_wp2_with (first
      | (go_at_call 71; (with_reducible refine (HC.out _).mono ?_); rintro e w1 ⟨rfl, hb⟩; have HX := Lib.hid hb; clear hb)
      | (go_at_call 72; (with_reducible refine (HTY.out _ (HS.out.below (below_next (belowNew w _) HX.out))).mono ?_); rintro e w2 ⟨rfl, hb⟩; have HX := Lib.hid (below_next HX.out hb); clear hb)
      | (go_at_call 73; (with_reducible refine (HU.out _).mono ?_); rintro e w3 ⟨rfl, hb⟩; have HX := Lib.hid (below_next HX.out hb); have hc := ((HX.out.block w.heap.size (by simp)).trans (heap_alloc_new w _)); obtain ⟨c0, c1, c2, f0, f1, f2, hlt⟩ := at_facts hc; have HCC := Lib.hid hc; clear hc hb))
    exact bodyPost_ret (atRes rfl _ _ w _ _ _ rfl (at_set HCC.out)) rfl ⟨rfl, at_below (below_next (belowNew w _) HX.out) (Nat.le_refl _)⟩
  · obtain ⟨wd, hwd⟩ : ∃ wd, wd = x.extract 0 i := ⟨_, rfl⟩
    obtain ⟨rs, hrs⟩ : ∃ rs, rs = x.extract (i + 1) x.size := ⟨_, rfl⟩
    have hw2 : wd.size ≤ 100000 := by rw [hwd, ByteArray.size_extract]; omega
    have hr2 : rs.size ≤ 100000 := by rw [hrs, ByteArray.size_extract]; omega
    have HC := Lib.hid (fun W => cut_any x 61 (by omega) W)
    have e2 : cutV x 61 = .tuple #[.string wd, .string rs, .bool true] := by
      unfold cutV
      rw [h, if_neg (by omega), hwd, hrs]
      rfl
    rw [e2] at HC
    have e0 : prsA x = match typ wd, uneO rs.data.toList with | (id, true), some v => some (id, kindV id v, v) | _, _ => none := by
      unfold prsA
      rw [h, if_neg (by omega), hwd, hrs]
      rfl
    have HTY := Lib.hid (fun W (hS : ShT W) => typ_any wd W (by omega) hS)
    have HU := Lib.hid (fun W => uneo_any rs W (by omega))
    have hts := typ_size wd
    clear e2 h hT hS hwd hrs
    obtain ⟨⟨id, kn⟩, hty⟩ : ∃ p, typ wd = p := ⟨_, rfl⟩
    rw [hty] at e0 HTY hts
    cases hu : uneO rs.data.toList with
    | none =>
      rw [hu] at e0 HU
      have e1 : prsA x = none := by rw [e0]; cases kn <;> rfl
      rw [e1]
      clear e0 e1 hu hty hts
      cases kn with
      | true =>
        go_enter Tryd.func55, Tryd.ntmps55
        go_wp2_with (first | (go_at_call 71; (with_reducible refine (HC.out _).mono ?_); rintro e w1 ⟨rfl, hb⟩; have HX := Lib.hid hb; clear hb) | (go_at_call 72; (with_reducible refine (HTY.out _ (HS.out.below (below_next (belowNew w _) HX.out))).mono ?_); rintro e w2 ⟨rfl, hb⟩; have HX := Lib.hid (below_next HX.out hb); clear hb) | (go_at_call 73; (with_reducible refine (HU.out _).mono ?_); rintro e w3 ⟨rfl, hb⟩; have HX := Lib.hid (below_next HX.out hb); have hc := ((HX.out.block w.heap.size (by simp)).trans (heap_alloc_new w _)); obtain ⟨c0, c1, c2, f0, f1, f2, hlt⟩ := at_facts hc; have HCC := Lib.hid hc; clear hc hb))
        exact bodyPost_ret (atRes rfl _ _ w _ _ _ rfl (at_set HCC.out)) rfl ⟨rfl, at_below (below_next (belowNew w _) HX.out) (Nat.le_refl _)⟩
      | false =>
        go_enter Tryd.func55, Tryd.ntmps55
        go_wp2_with (first | (go_at_call 71; (with_reducible refine (HC.out _).mono ?_); rintro e w1 ⟨rfl, hb⟩; have HX := Lib.hid hb; clear hb) | (go_at_call 72; (with_reducible refine (HTY.out _ (HS.out.below (below_next (belowNew w _) HX.out))).mono ?_); rintro e w2 ⟨rfl, hb⟩; have HX := Lib.hid (below_next HX.out hb); clear hb) | (go_at_call 73; (with_reducible refine (HU.out _).mono ?_); rintro e w3 ⟨rfl, hb⟩; have HX := Lib.hid (below_next HX.out hb); have hc := ((HX.out.block w.heap.size (by simp)).trans (heap_alloc_new w _)); obtain ⟨c0, c1, c2, f0, f1, f2, hlt⟩ := at_facts hc; have HCC := Lib.hid hc; clear hc hb))
        exact bodyPost_ret (atRes rfl _ _ w _ _ _ rfl (at_set HCC.out)) rfl ⟨rfl, at_below (below_next (belowNew w _) HX.out) (Nat.le_refl _)⟩
    | some v =>
      have hvs := uneO_size hu
      rw [hu] at e0 HU
      cases kn with
      | false =>
        have e1 : prsA x = none := e0
        rw [e1]
        clear e0 e1 hu hty hts hvs
        go_enter Tryd.func55, Tryd.ntmps55
        go_wp2_with (first | (go_at_call 71; (with_reducible refine (HC.out _).mono ?_); rintro e w1 ⟨rfl, hb⟩; have HX := Lib.hid hb; clear hb) | (go_at_call 72; (with_reducible refine (HTY.out _ (HS.out.below (below_next (belowNew w _) HX.out))).mono ?_); rintro e w2 ⟨rfl, hb⟩; have HX := Lib.hid (below_next HX.out hb); clear hb) | (go_at_call 73; (with_reducible refine (HU.out _).mono ?_); rintro e w3 ⟨rfl, hb⟩; have HX := Lib.hid (below_next HX.out hb); have hc := ((HX.out.block w.heap.size (by simp)).trans (heap_alloc_new w _)); obtain ⟨c0, c1, c2, f0, f1, f2, hlt⟩ := at_facts hc; have HCC := Lib.hid hc; clear hc hb))
        exact bodyPost_ret (atRes rfl _ _ w _ _ _ rfl (at_set HCC.out)) rfl ⟨rfl, at_below (below_next (belowNew w _) HX.out) (Nat.le_refl _)⟩
      | true =>
        have e1 : prsA x = some (id, kindV id v, v) := e0
        rw [e1]
        have HK := Lib.hid (fun W (hT : Tab W) => kind_any id v W (Nat.le_trans hvs (show rs.size ≤ _ by omega)) hT)
        obtain ⟨kd, hkd⟩ : ∃ kd, kd = kindV id v := ⟨_, rfl⟩
        rw [← hkd] at HK ⊢
        clear e0 e1 hu hty hts hvs hkd
        go_enter Tryd.func55, Tryd.ntmps55
        go_wp2_with (first | (go_at_call 71; (with_reducible refine (HC.out _).mono ?_); rintro e w1 ⟨rfl, hb⟩; have HX := Lib.hid hb; clear hb) | (go_at_call 72; (with_reducible refine (HTY.out _ (HS.out.below (below_next (belowNew w _) HX.out))).mono ?_); rintro e w2 ⟨rfl, hb⟩; have HX := Lib.hid (below_next HX.out hb); clear hb) | (go_at_call 73; (with_reducible refine (HU.out _).mono ?_); rintro e w3 ⟨rfl, hb⟩; have HX := Lib.hid (below_next HX.out hb); clear hb) | (go_at_call 74; (with_reducible refine (HK.out _ (HT.out.below (below_next (belowNew w _) HX.out))).mono ?_); rintro e w4 ⟨rfl, hb⟩; have HX := Lib.hid (below_next HX.out hb); have hc := ((HX.out.block w.heap.size (by simp)).trans (heap_alloc_new w _)); obtain ⟨c0, c1, c2, f0, f1, f2, hlt⟩ := at_facts hc; have HCC := Lib.hid hc; clear hc hb))
        exact bodyPost_ret (atRes rfl _ _ w _ _ _ rfl (at_set HCC.out)) rfl ⟨rfl, at_below (below_next (belowNew w _) HX.out) (Nat.le_refl _)⟩
end Go.Proofs.YtfpfgdbfigdooaaDoor
