/-
  The contract of certpathmade's ShortName: what it says is short has few and short parts.
  A name that can be read: its relative names lie at its address, and their attributes at theirs.
-/
import Derived.Test.YtfpfgdbfigdooaaDoorNmatch
import Derived.Test.YtfpfgdbfigdooaaDoorMap
import Derived.ProofKit
import Derived.OpenShut
import Derived.Deep.Slices
import Derived.Deep.Strs
import Derived.Deep.DeepHandedRow
namespace Go.Proofs.YtfpfgdbfigdooaaDoor
open Go.RowKit

/-- A name of at most twelve relative names of at most eight attributes, each of at most 200 bytes. -/
def ShR (r : List At) : Prop := r.length ≤ 8 ∧ ∀ i, i < r.length → (r.getD i noAt).1.size ≤ 200 ∧ (r.getD i noAt).2.2.size ≤ 200
def ShN (n : Nm) : Prop := n.length ≤ 12 ∧ ∀ i, i < n.length → ShR (n.getD i [])
/-- What ShortName answers. -/
def Shorted (n : Nm) (e : Ending) : Prop := (e = .returned (.bool true) ∧ ShN n) ∨ e = .returned (.bool false)
theorem ShN.small {n : Nm} (h : ShN n) : SmallN n :=
  ⟨Nat.le_trans h.1 (by omega), fun i hi => ⟨Nat.le_trans (h.2 i hi).1 (by omega), fun j hj => ⟨Nat.le_trans ((h.2 i hi).2 j hj).1 (by omega), Nat.le_trans ((h.2 i hi).2 j hj).2 (by omega)⟩⟩⟩

set_option maxRecDepth 100000 in
set_option maxHeartbeats 4000000 in
theorem short_core (a0 : Option Addr) (c m : Nat) (n : Nm) (w : World) (h : RLies w a0 n) (hn : m = n.length) (hm : m ≤ 9223372036854775807) (hq : ∀ i, i < n.length → (n.getD i []).length ≤ 9223372036854775807 ∧ ∀ j, j < (n.getD i []).length → ((n.getD i []).getD j noAt).1.size ≤ 9223372036854775807 ∧ ((n.getD i []).getD j noAt).2.2.size ≤ 9223372036854775807) :
    Calls Tryd.prog 11 #[.agg #[.slice a0 m c]] w fun e w' => Shorted n e ∧ Below w.heap.size w w' := by
  by_cases h12 : 12 < m
  · have hd : decide ((12 : Int) < (m : Int)) = true := by simp; omega
    clear h hn hm hq h12
    go_enter Tryd.func11, Tryd.ntmps11
    go_wp2_with fail
    go_ret
    exact ⟨.inr rfl, belowNew w _⟩
  have hd : decide ((12 : Int) < (m : Int)) = false := by simp; omega
  have H1 := Lib.hid (h.below (belowNew w (.cells #[.slice a0 m c] 24)))
  have HN := Lib.hid hn
  have HQ := Lib.hid hq
  have hm12 : m ≤ 12 := by omega
  clear h hn hm hq h12
  go_enter Tryd.func11, Tryd.ntmps11
  go_wp2_with fail
  clear hd
  obtain ⟨W, hW⟩ : ∃ W, W = w.alloc (.cells #[.slice a0 m c] 24) := ⟨_, rfl⟩
  have HBW := Lib.hid (show Below w.heap.size w W by rw [hW]; exact belowNew w _)
  rw [← hW] at H1 ⊢
  clear hW
  go_loopw [14] (fun i wr => ∃ k : Nat, k ≤ m ∧ i = .int .i64 k ∧ (∀ j, j < k → ShR (n.getD j [])) ∧ Below W.heap.size W wr) (fun i _ => m - (intOf i).toNat)
  case atStart => exact ⟨0, Nat.zero_le _, rfl, fun j hj => absurd hj (Nat.not_lt_zero _), Below.refl _ _⟩
  case round =>
    obtain ⟨k, hk, rfl, hA, hb⟩ := hrel
    have HB := Lib.hid hb
    have HA := Lib.hid hA
    clear hb hA
    by_cases hlt : k < m
    · have hd : decide ((k : Int) < (m : Int)) = true := by simp; omega
      obtain ⟨b, o, rfl, hb, a1, c1, e1, hc1, hL1⟩ := H1.out.at k (by rw [← HN.out]; exact hlt)
      have f1 : wr.cell? ⟨b, o + k, none⟩ = _ := (HB.out.cell (p := ⟨b, o + k, none⟩) hb).trans e1
      obtain ⟨hq1, hq2⟩ := HQ.out k (by rw [← HN.out]; exact hlt)
      obtain ⟨r, hr⟩ : ∃ r, r = n.getD k [] := ⟨_, rfl⟩
      rw [← hr] at f1 hq1 hq2 hL1 hc1
      have HR := Lib.hid hr
      obtain ⟨q, hq⟩ : ∃ q, q = r.length := ⟨_, rfl⟩
      rw [← hq] at f1 hq1 hc1
      have HL1 := Lib.hid (hL1.below HB.out)
      have HQ2 := Lib.hid hq2
      have HQQ := Lib.hid hq
      clear e1 hb hL1 hq2 hr hq
      by_cases h8 : 8 < q
      · have hd8 : decide ((8 : Int) < (q : Int)) = true := by simp; omega
        go_wp2_with fail
        go_ret
        exact ⟨.inr rfl, below_next HBW.out HB.out⟩
      have hd8 : decide ((8 : Int) < (q : Int)) = false := by simp; omega
      have hq8 : q ≤ 8 := by omega
      clear h8 hq1
      go_wp2_with fail
      clear hd hd8 f1 hc1
      go_loopw [23] (fun i ws => ∃ k2 : Nat, k2 ≤ q ∧ i = .int .i64 k2 ∧ (∀ j, j < k2 → (r.getD j noAt).1.size ≤ 200 ∧ (r.getD j noAt).2.2.size ≤ 200) ∧ Below wr.heap.size wr ws) (fun i _ => q - (intOf i).toNat)
      case atStart => exact ⟨0, Nat.zero_le _, rfl, fun j hj => absurd hj (Nat.not_lt_zero _), Below.refl _ _⟩
      case round =>
        obtain ⟨k2, hk2, rfl, hA2, hb2⟩ := hrel
        have HB2 := Lib.hid hb2
        have HA2 := Lib.hid hA2
        clear hb2 hA2
        by_cases hlt2 : k2 < q
        · have hd2 : decide ((k2 : Int) < (q : Int)) = true := by simp; omega
          obtain ⟨g, p, rfl, hg, c0, c1', c2⟩ := HL1.out.at k2 (by rw [← HQQ.out]; exact hlt2)
          have d0 : wr.cell? ⟨g, p + k2 * 3, none⟩ = _ := (HB2.out.cell (p := ⟨g, p + k2 * 3, none⟩) hg).trans c0
          have d1 : wr.cell? ⟨g, p + k2 * 3 + 1, none⟩ = _ := (HB2.out.cell (p := ⟨g, p + k2 * 3 + 1, none⟩) hg).trans c1'
          have d2 : wr.cell? ⟨g, p + k2 * 3 + 2, none⟩ = _ := (HB2.out.cell (p := ⟨g, p + k2 * 3 + 2, none⟩) hg).trans c2
          have hz := HQ2.out k2 (by rw [← HQQ.out]; exact hlt2)
          have HX := Lib.hid (show ∀ t v : ByteArray, ∀ kd : Int, r.getD k2 noAt = (t, kd, v) → t.size ≤ 200 → v.size ≤ 200 → ∀ j, j < k2 + 1 → (r.getD j noAt).1.size ≤ 200 ∧ (r.getD j noAt).2.2.size ≤ 200 from fun t v kd e h1 h2 j hj => by
            by_cases ej : j = k2
            · rw [ej, e]; exact ⟨h1, h2⟩
            · exact HA2.out j (by omega))
          obtain ⟨⟨t, kd, v⟩, hy⟩ : ∃ y, y = r.getD k2 noAt := ⟨_, rfl⟩
          rw [← hy] at d0 d1 d2 hz
          have HY := Lib.hid hy
          have hz1 := hz.1
          have hz2 := hz.2
          simp only at hz1 hz2
          have HBX := Lib.hid (below_next HB2.out (belowNew wr (.cells #[.string t, .int .i64 kd, .string v] 26)))
          clear c0 c1' c2 hg hz hy
          by_cases ht : 200 < t.size
          · have dt : decide ((200 : Int) < (t.size : Int)) = true := by simp; omega
            go_wp2_with fail
            go_ret
            exact ⟨.inr rfl, below_next HBW.out (below_next HB.out HBX.out)⟩
          have dt : decide ((200 : Int) < (t.size : Int)) = false := by simp; omega
          by_cases hv : 200 < v.size
          · have dv : decide ((200 : Int) < (v.size : Int)) = true := by simp; omega
            go_wp2_with fail
            go_ret
            exact ⟨.inr rfl, below_next HBW.out (below_next HB.out HBX.out)⟩
          have dv : decide ((200 : Int) < (v.size : Int)) = false := by simp; omega
          have HF := Lib.hid (HX.out t v kd HY.out.symm (by omega) (by omega))
          go_wp2_with fail
          go_roundw
          case rel => exact ⟨k2 + 1, by omega, by go_num, HF.out, HBX.out⟩
          case measure => simp [intOf]; omega
        · have hd2 : decide ((k2 : Int) < (q : Int)) = false := by simp; omega
          have HF := Lib.hid (show ∀ j, j < k + 1 → ShR (n.getD j []) from fun j hj => by
            by_cases ej : j = k
            · rw [ej, ← HR.out]
              exact ⟨by rw [← HQQ.out]; exact hq8, fun i hi => HA2.out i (by rw [← HQQ.out] at hi; omega)⟩
            · exact HA.out j (by omega))
          go_wp2_with fail
          go_roundw
          case rel => exact ⟨k + 1, by omega, by go_num, HF.out, below_next HB.out HB2.out⟩
          case measure => simp [intOf]; omega
    · have hd : decide ((k : Int) < (m : Int)) = false := by simp; omega
      have HF := Lib.hid (show ShN n from ⟨by rw [← HN.out]; exact hm12, fun j hj => HA.out j (by rw [← HN.out] at hj; omega)⟩)
      go_wp2_with fail
      go_ret
      exact ⟨.inl ⟨rfl, HF.out⟩, below_next HBW.out HB.out⟩
end Go.Proofs.YtfpfgdbfigdooaaDoor
namespace Go.Proofs.YtfpfgdbfigdooaaDoor
open Go.ChangeShapes Go.WideShapes Go.ChangeAt Go.RowKit Go.ChangeMaps Go.Deep

def AtOk (a : At) : Prop := a.1.size ≤ 9223372036854775807 ∧ a.2.2.size ≤ 9223372036854775807 ∧ -9223372036854775808 ≤ a.2.1 ∧ a.2.1 ≤ 9223372036854775807
def RdnOk (r : List At) : Prop := r.length ≤ 9223372036854775807 ∧ ∀ i, i < r.length → AtOk (r.getD i noAt)
def NameOk (n : Nm) : Prop := n.length ≤ 9223372036854775807 ∧ ∀ i, i < n.length → RdnOk (n.getD i [])

theorem getD_map_range {α : Type} (f : Nat → α) (n i : Nat) (h : i < n) (d : α) : ((List.range n).map f).getD i d = f i := by
  rw [List.getD_eq_getElem?_getD, List.getElem?_map, List.getElem?_range h]; rfl
set_option maxRecDepth 10000 in
/-- One attribute, of three cells. -/
theorem open_at {H : Type} {enc : TypeId × Value → H} {W : World} {n : Nat} {cs : List Value} {x : DataW H × List MemPlace} (h : DataW.trod enc Tryd.prog W 0 (fun _ => true) true n 26 cs = some x) :
    ∃ t : At, cs = [.string t.1, .int .i64 t.2.1, .string t.2.2] ∧ AtOk t := by
  obtain ⟨xs, k, _, _, hl, hlen, hfd⟩ := DataW.trod_struct Tryd.underlying26 h
  have c1 : Tryd.prog.cellsOf 3 = 1 := by kernel_rfl
  have c2 : Tryd.prog.cellsOf 9 = 1 := by kernel_rfl
  have c3 : Tryd.prog.cellsOf 26 = 3 := by kernel_rfl
  have hlen3 : xs.length = 3 := hlen
  have hs3 : cs.length = 3 := hl.trans c3
  match xs, hlen3 with
  | [y0, y1, y2], _ =>
    match cs, hs3 with
    | [z0, z1, z2], _ =>
      have g0 : DataW.trod enc Tryd.prog W 0 (fun _ => true) true k 9 (([z0, z1, z2].drop 0).take (Tryd.prog.cellsOf 9)) = some y0 := hfd 0 _ rfl
      rw [c2] at g0
      obtain ⟨s0, e0, _, w0⟩ := DataW.trod_string Tryd.underlying9 g0
      have g1 : DataW.trod enc Tryd.prog W 0 (fun _ => true) true k 3 (([z0, z1, z2].drop 1).take (Tryd.prog.cellsOf 3)) = some y1 := hfd 1 _ rfl
      rw [c1] at g1
      obtain ⟨n1, e1, _, w1⟩ := DataW.trod_int Tryd.underlying3 g1
      have g2 : DataW.trod enc Tryd.prog W 0 (fun _ => true) true k 9 (([z0, z1, z2].drop 2).take (Tryd.prog.cellsOf 9)) = some y2 := hfd 2 _ rfl
      rw [c2] at g2
      obtain ⟨s2, e2, _, w2⟩ := DataW.trod_string Tryd.underlying9 g2
      have r0 : z0 = .string s0 := by simpa using e0
      have r1 : z1 = .int .i64 n1 := by simpa using e1
      have r2 : z2 = .string s2 := by simpa using e2
      have b1 := bounds_i64 w1
      refine ⟨(s0, n1, s2), by rw [r0, r1, r2], ?_, ?_, ?_, ?_⟩
      · show s0.size ≤ _
        unfold maxLen at w0; omega
      · show s2.size ≤ _
        unfold maxLen at w2; omega
      · exact b1.1
      · exact b1.2
set_option maxRecDepth 10000 in
theorem open_ats {H : Type} {enc : TypeId × Value → H} {W : World} {n : Nat} {z : Value} {x : DataW H × List MemPlace} (h : DataW.trod enc Tryd.prog W 0 (fun _ => true) true n 27 [z] = some x) :
    ∃ a c, ∃ l : List At, z = .slice a l.length c ∧ l.length ≤ c ∧ ALies W a l ∧ RdnOk l := by
  have c3 : Tryd.prog.cellsOf 26 = 3 := by kernel_rfl
  rcases open_slice Tryd.underlying27 h with ⟨hcs, _⟩ | ⟨a, len, cap, m, k, D, Pl, hcs, _, hl, hm, hmm, _, hx⟩
  · exact ⟨none, 0, [], by simpa using hcs, by simp, .inl rfl, by simp, fun i hi => absurd hi (Nat.not_lt_zero _)⟩
  · have hlm : len ≤ m := by rw [hmm]; split <;> omega
    obtain ⟨f, hf⟩ := choose_lt (α := At) (n := len) (p := fun i t => AtOk t ∧ W.cell? (a.add (i * 3)) = some (.string t.1) ∧ W.cell? (a.add (i * 3 + 1)) = some (.int .i64 t.2.1) ∧ W.cell? (a.add (i * 3 + 2)) = some (.string t.2.2)) (fun i hi => by
      obtain ⟨cs', h1, h2⟩ := hx i (by omega)
      obtain ⟨t, rfl, ht⟩ := open_at h2
      rw [c3] at h1
      obtain ⟨_, _, hc⟩ := World.cells?_some h1
      have e0 := hc 0 (by omega)
      have e1 := hc 1 (by omega)
      have e2 := hc 2 (by omega)
      rw [add_add] at e0 e1 e2
      exact ⟨t, ht, by simpa using e0, by simpa using e1, by simpa using e2⟩)
    refine ⟨some a, cap, (List.range len).map f, by simpa using hcs, by simpa using hl, ?_, by simp; unfold maxLen at hm; omega, fun i hi => ?_⟩
    · by_cases h0 : len = 0
      · exact .inl (by rw [h0]; rfl)
      · obtain ⟨b, off, spot⟩ := a
        have hspot : spot = none := by
          have := (hf 0 (by omega)).2.1
          simpa [Addr.add] using World.cell?_spot this
        subst hspot
        refine .inr ⟨b, off, rfl, fun i hi => ?_⟩
        simp at hi
        rw [getD_map_range _ _ _ hi]
        have hh := (hf i hi).2
        rw [Go.WideShapes.add_plain, Go.WideShapes.add_plain, Go.WideShapes.add_plain] at hh
        simpa [Nat.add_assoc] using hh
    · simp at hi
      rw [getD_map_range _ _ _ hi]
      exact (hf i hi).1
set_option maxRecDepth 10000 in
theorem open_rdns {H : Type} {enc : TypeId × Value → H} {W : World} {n : Nat} {z : Value} {x : DataW H × List MemPlace} (h : DataW.trod enc Tryd.prog W 0 (fun _ => true) true n 22 [z] = some x) :
    ∃ a c, ∃ l : Nm, z = .slice a l.length c ∧ l.length ≤ c ∧ RLies W a l ∧ NameOk l := by
  have c1 : Tryd.prog.cellsOf 27 = 1 := by kernel_rfl
  rcases open_slice1 Tryd.underlying22 c1 h with ⟨hcs, _⟩ | ⟨a, len, cap, m, k, V, D, Pl, hcs, _, hl, hm, hmm, _, hx⟩
  · exact ⟨none, 0, [], by simpa using hcs, by simp, .inl rfl, by simp, fun i hi => absurd hi (Nat.not_lt_zero _)⟩
  · have hlm : len ≤ m := by rw [hmm]; split <;> omega
    obtain ⟨f, hf⟩ := choose_lt (α := List At) (n := len) (p := fun i r => RdnOk r ∧ ∃ a' c', W.cell? (a.add i) = some (.slice a' r.length c') ∧ r.length ≤ c' ∧ ALies W a' r) (fun i hi => by
      obtain ⟨h1, h2⟩ := hx i (by omega)
      obtain ⟨a', c', l, e, hl3, hl, hk⟩ := open_ats h2
      exact ⟨l, hk, a', c', by rw [← e]; exact h1, hl3, hl⟩)
    refine ⟨some a, cap, (List.range len).map f, by simpa using hcs, by simpa using hl, ?_, by simp; unfold maxLen at hm; omega, fun i hi => ?_⟩
    · by_cases h0 : len = 0
      · exact .inl (by rw [h0]; rfl)
      · obtain ⟨b, off, spot⟩ := a
        have hspot : spot = none := by
          obtain ⟨_, _, _, q, _⟩ := hf 0 (by omega)
          simpa [Addr.add] using World.cell?_spot q
        subst hspot
        refine .inr ⟨b, off, rfl, fun i hi => ?_⟩
        simp at hi
        rw [getD_map_range _ _ _ hi]
        obtain ⟨_, a', c', q1, q3, q2⟩ := hf i hi
        rw [Go.WideShapes.add_plain] at q1
        exact ⟨a', c', q1, q3, q2⟩
    · simp at hi
      rw [getD_map_range _ _ _ hi]
      exact (hf i hi).1
set_option maxRecDepth 10000 in
theorem open_name {H : Type} {enc : TypeId × Value → H} {W : World} {r : Reach} {b0 : Nat} {v : Value} {d : DataW H} {p : List MemPlace}
    (hval : Value.okWide Tryd.prog W r b0 24 v) (h : DataW.Trod enc Tryd.prog W 0 (fun _ => true) true 24 v d p) : ∃ n, NameV W v n ∧ NameOk n := by
  unfold Value.okWide at hval
  rw [Tryd.underlying24] at hval
  obtain ⟨cs, rfl, hsz, _⟩ := hval
  obtain ⟨fuel, hf⟩ := h
  have cb : Tryd.prog.cellsOf 22 = 1 := by kernel_rfl
  obtain ⟨xs, k, _, _, _, hlen, hfd⟩ := DataW.trod_struct Tryd.underlying24 hf
  have hlen1 : xs.length = 1 := hlen
  have hs1 : cs.toList.length = 1 := hsz
  match xs, hlen1 with
  | [y0], _ =>
    match hcs : cs.toList, hs1 with
    | [z0], _ =>
      have hcl : (Value.agg cs).cells.toList = [z0] := hcs
      rw [hcl] at hfd
      have g0 : DataW.trod enc Tryd.prog W 0 (fun _ => true) true k 22 (([z0].drop 0).take (Tryd.prog.cellsOf 22)) = some y0 := hfd 0 _ rfl
      rw [cb] at g0
      obtain ⟨a, c, n, e, h3, h1, h2⟩ := open_rdns (z := z0) (by simpa using g0)
      refine ⟨n, ⟨a, c, ?_, h3, h1⟩, h2⟩
      congr 1
      apply Array.toList_inj.1
      rw [hcs, e]
end Go.Proofs.YtfpfgdbfigdooaaDoor
