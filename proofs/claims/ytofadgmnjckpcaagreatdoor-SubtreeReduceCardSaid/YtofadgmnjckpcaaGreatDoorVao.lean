/-
  The contract of certpathmade's ShortName: what it says is short has few and short parts.
  General names in memory, and the contract of the generator's ShortNames.
  The contract of the reference's EncodeGeneral: the element of a general name.
  The contracts of the reference's ExactGenerals, for two rows of the same general names, and of the law's short.
  The contracts of the reference's SameGeneral, MatchGeneral and WithinGeneral.
-/
import Derived.Test.YtofadgmnjckpcaaGreatDoorVaf
import Derived.Test.YtofadgmnjckpcaaGreatDoorVan
import Derived.Test.YtofadgmnjckpcaaGreatDoorVag
import Derived.Lib.QuietBelow
import Derived.BigQuiet
import Derived.Test.YtofadgmnjckpcaaGreatDoorVaj
import Derived.Test.YtofadgmnjckpcaaGreatDoorVak
import Derived.Test.YtofadgmnjckpcaaGreatDoorVai
import Derived.Test.YtofadgmnjckpcaaGreatDoorVal
namespace Go.Proofs.YtofadgmnjckpcaaGreatDoor
open Go.RowKit

/-- A name of at most twelve relative names of at most eight attributes, each of at most 200 bytes. -/
def ShR (r : List At) : Prop := r.length ≤ 8 ∧ ∀ i, i < r.length → (r.getD i noAt).1.size ≤ 200 ∧ (r.getD i noAt).2.2.size ≤ 200
def ShN (n : Nm) : Prop := n.length ≤ 12 ∧ ∀ i, i < n.length → ShR (n.getD i [])
/-- What ShortName answers. -/
def Shorted (n : Nm) (e : Ending) : Prop := (e = .returned (.bool true) ∧ ShN n) ∨ e = .returned (.bool false)
theorem ShN.small {n : Nm} (h : ShN n) : SmallN n :=
  ⟨Nat.le_trans h.1 (by omega), fun i hi => ⟨Nat.le_trans (h.2 i hi).1 (by omega), fun j hj => ⟨Nat.le_trans ((h.2 i hi).2 j hj).1 (by omega), Nat.le_trans ((h.2 i hi).2 j hj).2 (by omega)⟩⟩⟩

set_option maxRecDepth 100000 in
set_option maxHeartbeats 4000000 in
theorem short_core (a0 : Option Addr) (c m : Nat) (n : Nm) (w : World) (h : RLies w a0 n) (hn : m = n.length) (hm : m ≤ 9223372036854775807) (hq : ∀ i, i < n.length → (n.getD i []).length ≤ 9223372036854775807 ∧ ∀ j, j < (n.getD i []).length → ((n.getD i []).getD j noAt).1.size ≤ 9223372036854775807 ∧ ((n.getD i []).getD j noAt).2.2.size ≤ 9223372036854775807) :
    Calls Tryz.prog 19 #[.agg #[.slice a0 m c]] w fun e w' => Shorted n e ∧ Below w.heap.size w w' := by
  by_cases h12 : 12 < m
  · have hd : decide ((12 : Int) < (m : Int)) = true := by simp; omega
    clear h hn hm hq h12
    go_enter Tryz.func19, Tryz.ntmps19
    go_wp2_with fail
    go_ret
    exact ⟨.inr rfl, belowNew w _⟩
  have hd : decide ((12 : Int) < (m : Int)) = false := by simp; omega
  have H1 := Lib.hid (h.below (belowNew w (.cells #[.slice a0 m c] 30)))
  have HN := Lib.hid hn
  have HQ := Lib.hid hq
  have hm12 : m ≤ 12 := by omega
  clear h hn hm hq h12
  go_enter Tryz.func19, Tryz.ntmps19
  go_wp2_with fail
  clear hd
  obtain ⟨W, hW⟩ : ∃ W, W = w.alloc (.cells #[.slice a0 m c] 30) := ⟨_, rfl⟩
  have HBW := Lib.hid (show Below w.heap.size w W by rw [hW]; exact belowNew w _)
  rw [← hW] at H1 ⊢
  clear hW
  go_loopw [14] (fun i wr => ∃ k : Nat, k ≤ m ∧ i = .int .i64 k ∧ (∀ j, j < k → ShR (n.getD j [])) ∧ Below W.heap.size W wr) (fun i _ => m - (intOf i).toNat)
  case atStart => exact ⟨0, Nat.zero_le _, rfl, fun j hj => absurd hj (Nat.not_lt_zero _), Below.refl _ _⟩
  case round =>
    obtain ⟨k, hk, rfl, hA, hb⟩ := hrel
    have HB := Lib.hid hb
    have HA := Lib.hid hA
    clear hb hA
    by_cases hlt : k < m
    · have hd : decide ((k : Int) < (m : Int)) = true := by simp; omega
      obtain ⟨b, o, rfl, hb, a1, c1, e1, hc1, hL1⟩ := H1.out.at k (by rw [← HN.out]; exact hlt)
      have f1 : wr.cell? ⟨b, o + k, none⟩ = _ := (HB.out.cell (p := ⟨b, o + k, none⟩) hb).trans e1
      obtain ⟨hq1, hq2⟩ := HQ.out k (by rw [← HN.out]; exact hlt)
      obtain ⟨r, hr⟩ : ∃ r, r = n.getD k [] := ⟨_, rfl⟩
      rw [← hr] at f1 hq1 hq2 hL1 hc1
      have HR := Lib.hid hr
      obtain ⟨q, hq⟩ : ∃ q, q = r.length := ⟨_, rfl⟩
      rw [← hq] at f1 hq1 hc1
      have HL1 := Lib.hid (hL1.below HB.out)
      have HQ2 := Lib.hid hq2
      have HQQ := Lib.hid hq
      clear e1 hb hL1 hq2 hr hq
      by_cases h8 : 8 < q
      · have hd8 : decide ((8 : Int) < (q : Int)) = true := by simp; omega
        go_wp2_with fail
        go_ret
        exact ⟨.inr rfl, below_next HBW.out HB.out⟩
      have hd8 : decide ((8 : Int) < (q : Int)) = false := by simp; omega
      have hq8 : q ≤ 8 := by omega
      clear h8 hq1
      go_wp2_with fail
      clear hd hd8 f1 hc1
      go_loopw [23] (fun i ws => ∃ k2 : Nat, k2 ≤ q ∧ i = .int .i64 k2 ∧ (∀ j, j < k2 → (r.getD j noAt).1.size ≤ 200 ∧ (r.getD j noAt).2.2.size ≤ 200) ∧ Below wr.heap.size wr ws) (fun i _ => q - (intOf i).toNat)
      case atStart => exact ⟨0, Nat.zero_le _, rfl, fun j hj => absurd hj (Nat.not_lt_zero _), Below.refl _ _⟩
      case round =>
        obtain ⟨k2, hk2, rfl, hA2, hb2⟩ := hrel
        have HB2 := Lib.hid hb2
        have HA2 := Lib.hid hA2
        clear hb2 hA2
        by_cases hlt2 : k2 < q
        · have hd2 : decide ((k2 : Int) < (q : Int)) = true := by simp; omega
          obtain ⟨g, p, rfl, hg, c0, c1', c2⟩ := HL1.out.at k2 (by rw [← HQQ.out]; exact hlt2)
          have d0 : wr.cell? ⟨g, p + k2 * 3, none⟩ = _ := (HB2.out.cell (p := ⟨g, p + k2 * 3, none⟩) hg).trans c0
          have d1 : wr.cell? ⟨g, p + k2 * 3 + 1, none⟩ = _ := (HB2.out.cell (p := ⟨g, p + k2 * 3 + 1, none⟩) hg).trans c1'
          have d2 : wr.cell? ⟨g, p + k2 * 3 + 2, none⟩ = _ := (HB2.out.cell (p := ⟨g, p + k2 * 3 + 2, none⟩) hg).trans c2
          have hz := HQ2.out k2 (by rw [← HQQ.out]; exact hlt2)
          have HX := Lib.hid (show ∀ t v : ByteArray, ∀ kd : Int, r.getD k2 noAt = (t, kd, v) → t.size ≤ 200 → v.size ≤ 200 → ∀ j, j < k2 + 1 → (r.getD j noAt).1.size ≤ 200 ∧ (r.getD j noAt).2.2.size ≤ 200 from fun t v kd e h1 h2 j hj => by
            by_cases ej : j = k2
            · rw [ej, e]; exact ⟨h1, h2⟩
            · exact HA2.out j (by omega))
          obtain ⟨⟨t, kd, v⟩, hy⟩ : ∃ y, y = r.getD k2 noAt := ⟨_, rfl⟩
          rw [← hy] at d0 d1 d2 hz
          have HY := Lib.hid hy
          have hz1 := hz.1
          have hz2 := hz.2
          simp only at hz1 hz2
          have HBX := Lib.hid (below_next HB2.out (belowNew wr (.cells #[.string t, .int .i64 kd, .string v] 69)))
          clear c0 c1' c2 hg hz hy
          by_cases ht : 200 < t.size
          · have dt : decide ((200 : Int) < (t.size : Int)) = true := by simp; omega
            go_wp2_with fail
            go_ret
            exact ⟨.inr rfl, below_next HBW.out (below_next HB.out HBX.out)⟩
          have dt : decide ((200 : Int) < (t.size : Int)) = false := by simp; omega
          by_cases hv : 200 < v.size
          · have dv : decide ((200 : Int) < (v.size : Int)) = true := by simp; omega
            go_wp2_with fail
            go_ret
            exact ⟨.inr rfl, below_next HBW.out (below_next HB.out HBX.out)⟩
          have dv : decide ((200 : Int) < (v.size : Int)) = false := by simp; omega
          have HF := Lib.hid (HX.out t v kd HY.out.symm (by omega) (by omega))
          go_wp2_with fail
          go_roundw
          case rel => exact ⟨k2 + 1, by omega, by go_num, HF.out, HBX.out⟩
          case measure => simp [intOf]; omega
        · have hd2 : decide ((k2 : Int) < (q : Int)) = false := by simp; omega
          have HF := Lib.hid (show ∀ j, j < k + 1 → ShR (n.getD j []) from fun j hj => by
            by_cases ej : j = k
            · rw [ej, ← HR.out]
              exact ⟨by rw [← HQQ.out]; exact hq8, fun i hi => HA2.out i (by rw [← HQQ.out] at hi; omega)⟩
            · exact HA.out j (by omega))
          go_wp2_with fail
          go_roundw
          case rel => exact ⟨k + 1, by omega, by go_num, HF.out, below_next HB.out HB2.out⟩
          case measure => simp [intOf]; omega
    · have hd : decide ((k : Int) < (m : Int)) = false := by simp; omega
      have HF := Lib.hid (show ShN n from ⟨by rw [← HN.out]; exact hm12, fun j hj => HA.out j (by rw [← HN.out] at hj; omega)⟩)
      go_wp2_with fail
      go_ret
      exact ⟨.inl ⟨rfl, HF.out⟩, below_next HBW.out HB.out⟩
end Go.Proofs.YtofadgmnjckpcaaGreatDoor
namespace Go.Proofs.YtofadgmnjckpcaaGreatDoor
open Go.RowKit

abbrev Gn := Int × List UInt8 × Nm
def noG : Gn := (0, [], [])
/-- At the address lie the general names l. -/
def GLies (w : World) (a : Option Addr) (l : List Gn) : Prop :=
  l = [] ∨ ∃ b o, a = some ⟨b, o, none⟩ ∧ ∀ i, i < l.length → w.cell? ⟨b, o + i * 3, none⟩ = some (.int .i64 (l.getD i noG).1) ∧ w.cell? ⟨b, o + i * 3 + 1, none⟩ = some (.string (strOf (l.getD i noG).2.1)) ∧
    ∃ a' c', w.cell? ⟨b, o + i * 3 + 2, none⟩ = some (.slice a' (l.getD i noG).2.2.length c') ∧ (l.getD i noG).2.2.length ≤ c' ∧ RLies w a' (l.getD i noG).2.2
theorem GLies.below {w w' : World} {a : Option Addr} {l : List Gn} (h : GLies w a l) (hb : Below w.heap.size w w') : GLies w' a l := by
  rcases h with h | ⟨b, o, h1, h2⟩
  · exact .inl h
  · refine .inr ⟨b, o, h1, fun i hi => ?_⟩
    obtain ⟨c0, c1, a', c', c2, c3, c4⟩ := h2 i hi
    exact ⟨(hb.cell (block_lt c0)).trans c0, (hb.cell (block_lt c1)).trans c1, a', c', (hb.cell (block_lt c2)).trans c2, c3, c4.below hb⟩
theorem GLies.at {w : World} {a : Option Addr} {l : List Gn} (h : GLies w a l) (k : Nat) (hk : k < l.length) : ∃ b o, a = some ⟨b, o, none⟩ ∧ b < w.heap.size ∧
    w.cell? ⟨b, o + k * 3, none⟩ = some (.int .i64 (l.getD k noG).1) ∧ w.cell? ⟨b, o + k * 3 + 1, none⟩ = some (.string (strOf (l.getD k noG).2.1)) ∧
    ∃ a' c', w.cell? ⟨b, o + k * 3 + 2, none⟩ = some (.slice a' (l.getD k noG).2.2.length c') ∧ (l.getD k noG).2.2.length ≤ c' ∧ RLies w a' (l.getD k noG).2.2 := by
  rcases h with h | ⟨b, o, h1, h2⟩
  · rw [h] at hk; exact absurd hk (Nat.not_lt_zero _)
  · obtain ⟨c0, c1, a', c', c2, c3, c4⟩ := h2 k hk
    exact ⟨b, o, h1, block_lt c0, c0, c1, a', c', c2, c3, c4⟩
/-- A row of one general name. -/
theorem glies_one {w : World} {g : Nat} {k : Int} {t : List UInt8} {n : Nm} {a : Option Addr} {c : Nat} {T : TypeId} (h : w.heap[g]? = some (.cells #[.int .i64 k, .string (strOf t), .slice a n.length c] T (0, 0))) (hc : n.length ≤ c) (hr : RLies w a n) : GLies w (some ⟨g, 0, none⟩) [(k, t, n)] := by
  obtain ⟨c0, c1, c2, _⟩ := three_facts h
  refine .inr ⟨g, 0, rfl, fun i hi => ?_⟩
  obtain rfl : i = 0 := by simp at hi; omega
  exact ⟨c0, c1, a, c, c2, hc, hr⟩
/-- What a law takes of a general name that is handed in. -/
def ShG (g : Gn) : Prop := g.2.1.length ≤ 300 ∧ ShN g.2.2
/-- A general name as it is handed in: no part is longer than any memory. -/
def BigG (g : Gn) : Prop := g.2.1.length ≤ 9223372036854775807 ∧ g.2.2.length ≤ 9223372036854775807 ∧ ∀ i, i < g.2.2.length → (g.2.2.getD i []).length ≤ 9223372036854775807 ∧ ∀ j, j < (g.2.2.getD i []).length → ((g.2.2.getD i []).getD j noAt).1.size ≤ 9223372036854775807 ∧ ((g.2.2.getD i []).getD j noAt).2.2.size ≤ 9223372036854775807
def ShortedL (l : List Gn) (e : Ending) : Prop := (e = .returned (.bool true) ∧ l.length ≤ 20 ∧ ∀ i, i < l.length → ShG (l.getD i noG)) ∨ e = .returned (.bool false)
theorem text_or (n : Nat) : 300 < n ∨ ¬ 300 < n := by omega

set_option maxRecDepth 100000 in
set_option maxHeartbeats 4000000 in
theorem shorts_any (a0 : Option Addr) (c m : Nat) (l : List Gn) (w : World) (h : GLies w a0 l) (hn : m = l.length) (hm : m ≤ 9223372036854775807) (hq : ∀ i, i < l.length → BigG (l.getD i noG)) :
    Calls Tryz.prog 8 #[.slice a0 m c] w fun e w' => ShortedL l e ∧ Below w.heap.size w w' := by
  by_cases h20 : 20 < m
  · have hd : decide ((20 : Int) < (m : Int)) = true := by simp; omega
    clear h hn hm hq h20
    go_enter Tryz.func8, Tryz.ntmps8
    go_wp2_with fail
    go_ret
    exact ⟨.inr rfl, Below.refl _ _⟩
  have hd : decide ((20 : Int) < (m : Int)) = false := by simp; omega
  have H1 := Lib.hid h
  have HN := Lib.hid hn
  have HQ := Lib.hid hq
  have hm20 : m ≤ 20 := by omega
  clear h hn hm hq h20
  go_enter Tryz.func8, Tryz.ntmps8
  go_wp2_with fail
  clear hd
  go_loopw [10] (fun i wr => ∃ k : Nat, k ≤ m ∧ i = .int .i64 k ∧ (∀ j, j < k → ShG (l.getD j noG)) ∧ Below w.heap.size w wr) (fun i _ => m - (intOf i).toNat)
  case atStart => exact ⟨0, Nat.zero_le _, rfl, fun j hj => absurd hj (Nat.not_lt_zero _), Below.refl _ _⟩
  case round =>
    obtain ⟨wz, hwz⟩ : ∃ wz, wz = wr := ⟨_, rfl⟩
    subst hwz
    obtain ⟨k, hk, rfl, hA, hb⟩ := hrel
    have HB := Lib.hid hb
    have HA := Lib.hid hA
    clear hb hA
    by_cases hlt : k < m
    · have hd : decide ((k : Int) < (m : Int)) = true := by simp; omega
      obtain ⟨b, o, rfl, hb, e0, e1, a1, c1, e2, hc1, hL1⟩ := H1.out.at k (by rw [← HN.out]; exact hlt)
      have f0 : wz.cell? ⟨b, o + k * 3, none⟩ = _ := (HB.out.cell (p := ⟨b, o + k * 3, none⟩) hb).trans e0
      have f1 : wz.cell? ⟨b, o + k * 3 + 1, none⟩ = _ := (HB.out.cell (p := ⟨b, o + k * 3 + 1, none⟩) hb).trans e1
      have f2 : wz.cell? ⟨b, o + k * 3 + 2, none⟩ = _ := (HB.out.cell (p := ⟨b, o + k * 3 + 2, none⟩) hb).trans e2
      have hbig := HQ.out k (by rw [← HN.out]; exact hlt)
      obtain ⟨G, hG⟩ : ∃ G, G = l.getD k noG := ⟨_, rfl⟩
      rw [← hG] at f0 f1 f2 hbig hL1 hc1
      have HG := Lib.hid hG
      obtain ⟨q, t, n⟩ := G
      simp only at f0 f1 f2 hL1 hc1
      obtain ⟨N, hNn⟩ : ∃ N, N = n.length := ⟨_, rfl⟩
      rw [← hNn] at f2
      obtain ⟨W2, hW2⟩ : ∃ W2, W2 = wz.alloc (.cells #[.int .i64 q, .string (strOf t), .slice a1 N c1] 32) := ⟨_, rfl⟩
      have hb2 : Below wz.heap.size wz W2 := by rw [hW2]; exact belowNew wz _
      obtain ⟨g0, g1, g2, _⟩ := three_facts (w := W2) (g := wz.heap.size) (by rw [hW2]; exact heap_alloc_new wz _)
      have HB2 := Lib.hid (below_next HB.out hb2)
      have HSH := Lib.hid (short_core a1 c1 N n W2 ((hL1.below HB.out).below hb2) hNn (by rw [hNn]; exact hbig.2.1) hbig.2.2)
      have HT := Lib.hid hbig.1
      have e3 := strOf_size t
      have HWE := hW2.symm
      clear e0 e1 e2 hb hbig hL1 hc1 hG hNn hW2 hb2
      rcases text_or t.length with ht | ht
      · have d1 : decide ((300 : Int) < (t.length : Int)) = true := decide_eq_true (by omega)
        have d2 : decide (300 < t.length) = true := decide_eq_true (by omega)
        clear ht
        go_wp2_with fail
        go_ret
        exact ⟨.inr rfl, HB2.out⟩
      · have d1 : decide ((300 : Int) < (t.length : Int)) = false := decide_eq_false (by omega)
        have d2 : decide (300 < t.length) = false := decide_eq_false (by omega)
        have HTT := Lib.hid ht
        clear ht
        go_wp2_with (go_at_call 19; (with_reducible refine HSH.out.mono ?_); rintro e w3 ⟨hS, hb3⟩; have HB3 := Lib.hid (below_next HB2.out hb3); clear hb3; rcases hS with ⟨rfl, hS⟩ | rfl)
        · go_roundw
          case rel => exact ⟨k + 1, by omega, by go_num, fun j hj => by
            by_cases hjk : j < k
            · exact HA.out j hjk
            · obtain rfl : j = k := by omega
              rw [← HG.out]
              exact ⟨show t.length ≤ 300 by have := HTT.out; omega, hS⟩, HB3.out⟩
          case measure => simp [intOf]; omega
        · go_ret
          exact ⟨.inr rfl, HB3.out⟩
    · have hd : decide ((k : Int) < (m : Int)) = false := by simp; omega
      obtain rfl : k = m := by omega
      go_wp2_with fail
      go_ret
      exact ⟨.inl ⟨rfl, by rw [← HN.out]; exact hm20, fun i hi => HA.out i (by rw [HN.out]; exact hi)⟩, HB.out⟩
end Go.Proofs.YtofadgmnjckpcaaGreatDoor
namespace Go.Proofs.YtofadgmnjckpcaaGreatDoor
open Go.RowKit

end Go.Proofs.YtofadgmnjckpcaaGreatDoor
namespace Go.Proofs.YtofadgmnjckpcaaGreatDoor
open Go.RowKit

set_option maxRecDepth 100000 in
set_option maxHeartbeats 4000000 in
theorem exactG_core (a0 b0 : Option Addr) (c d m : Nat) (l : List Gn) (w : World) (h1 : GLies w a0 l) (h2 : GLies w b0 l) (hn : m = l.length) (hm : m ≤ 1000000) (hq : ∀ i, i < l.length → SmallN (l.getD i noG).2.2) :
    Calls Tryz.prog 26 #[.slice a0 m c, .slice b0 m d] w fun e w' => e = .returned (.bool true) ∧ Below w.heap.size w w' := by
  have H1 := Lib.hid h1
  have H2 := Lib.hid h2
  have HN := Lib.hid hn
  have HQ := Lib.hid hq
  clear h1 h2 hn hq
  go_enter Tryz.func26, Tryz.ntmps26
  go_wp2_with fail
  go_loopw [13] (fun i wr => ∃ k : Nat, k ≤ m ∧ i = .int .i64 k ∧ Below w.heap.size w wr) (fun i _ => m - (intOf i).toNat)
  case atStart => exact ⟨0, Nat.zero_le _, rfl, Below.refl _ _⟩
  case round =>
    obtain ⟨wz, hwz⟩ : ∃ wz, wz = wr := ⟨_, rfl⟩
    subst hwz
    obtain ⟨k, hk, rfl, hb⟩ := hrel
    have HB := Lib.hid hb
    clear hb
    by_cases hlt : k < m
    · have hd : decide ((k : Int) < (m : Int)) = true := by simp; omega
      obtain ⟨b, o, rfl, hb, e0, e1, a1, c1, e2, hc1, hL1⟩ := (H1.out.below HB.out).at k (by rw [← HN.out]; exact hlt)
      obtain ⟨b', o', rfl, hb', e0', e1', a1', c1', e2', hc1', hL1'⟩ := (H2.out.below HB.out).at k (by rw [← HN.out]; exact hlt)
      have hs := HQ.out k (by rw [← HN.out]; exact hlt)
      generalize l.getD k noG = G at e0 e1 e2 hL1 hc1 e0' e1' e2' hL1' hc1' hs
      obtain ⟨q, t, n⟩ := G
      simp only at e0 e1 e2 hL1 hc1 e0' e1' e2' hL1' hc1' hs
      obtain ⟨N, hNn⟩ : ∃ N, N = n.length := ⟨_, rfl⟩
      rw [← hNn] at e2 e2'
      have HX := Lib.hid (fun W (hb : Below wz.heap.size wz W) => exact_core a1 a1' c1 c1' N n W (hL1.below hb) (hL1'.below hb) hNn hs)
      clear hb hb' hL1 hL1' hc1 hc1' hs hNn
      have f1 : ∀ d os, _ := fun d os => Calls.regrown_of (HX.out (Sort.grow (redrawn wz d) os) (below_regrown wz d os))
      have g0 := cell_regrown e0
      have g1 := cell_regrown e1
      have g2 := cell_regrown e2
      have g0' := cell_regrown e0'
      have g1' := cell_regrown e1'
      have g2' := cell_regrown e2'
      clear e0 e1 e2 e0' e1' e2'
      go_wp2_with fail
      refine wp_region_quiet_below (by kernel_rfl) (by kernel_rfl) ?_
      repeat (go_big_quiet_step (with_reducible first | exact f1 _ _))
      refine wpQuiet_nil ?_
      intro _ hw'
      obtain ⟨⟨dq, osq⟩, hw''⟩ := hw'
      subst hw''
      have HBR := Lib.hid (HB.out.trans ((below_regrown wz dq osq).mono HB.out.size))
      clear f1 g0 g1 g2 g0' g1' g2'
      go_wp2_with fail
      go_roundw
      case rel => exact ⟨k + 1, by omega, by go_num, HBR.out⟩
      case measure => simp [intOf]; omega
    · have hd : decide ((k : Int) < (m : Int)) = false := by simp; omega
      obtain rfl : k = m := by omega
      go_wp2_with fail
      go_ret
      exact ⟨rfl, HB.out⟩
end Go.Proofs.YtofadgmnjckpcaaGreatDoor
namespace Go.Proofs.YtofadgmnjckpcaaGreatDoor
open Go.RowKit


theorem box_two (w : World) (x0 x1 x2 y0 y1 y2 : Value) (T : TypeId) :
    ((w.alloc (.cells #[x0, x1, x2] T)).alloc (.cells #[y0, y1, y2] T)).cell? ⟨w.heap.size, 0, none⟩ = some x0 ∧ ((w.alloc (.cells #[x0, x1, x2] T)).alloc (.cells #[y0, y1, y2] T)).cell? ⟨w.heap.size, 1, none⟩ = some x1 ∧ ((w.alloc (.cells #[x0, x1, x2] T)).alloc (.cells #[y0, y1, y2] T)).cell? ⟨w.heap.size, 2, none⟩ = some x2 ∧
    ((w.alloc (.cells #[x0, x1, x2] T)).alloc (.cells #[y0, y1, y2] T)).cell? ⟨w.heap.size + 1, 0, none⟩ = some y0 ∧ ((w.alloc (.cells #[x0, x1, x2] T)).alloc (.cells #[y0, y1, y2] T)).cell? ⟨w.heap.size + 1, 1, none⟩ = some y1 ∧ ((w.alloc (.cells #[x0, x1, x2] T)).alloc (.cells #[y0, y1, y2] T)).cell? ⟨w.heap.size + 1, 2, none⟩ = some y2 ∧
    w.heap.size + 1 < ((w.alloc (.cells #[x0, x1, x2] T)).alloc (.cells #[y0, y1, y2] T)).heap.size := by
  have h1 := heap_alloc_new (w.alloc (.cells #[x0, x1, x2] T)) (.cells #[y0, y1, y2] T)
  rw [show (w.alloc (.cells #[x0, x1, x2] T)).heap.size = w.heap.size + 1 by simp] at h1
  obtain ⟨f0, f1, f2, f3⟩ := three_facts h1
  obtain ⟨g0, g1, g2, g3⟩ := three_facts (heap_alloc_new w (.cells #[x0, x1, x2] T))
  exact ⟨(World.cell?_alloc_old _ _ _ (Nat.ne_of_lt g3)).trans g0, (World.cell?_alloc_old _ _ _ (Nat.ne_of_lt g3)).trans g1, (World.cell?_alloc_old _ _ _ (Nat.ne_of_lt g3)).trans g2, f0, f1, f2, f3⟩

set_option maxRecDepth 100000 in
set_option maxHeartbeats 4000000 in
theorem rsameG_core (a0 b0 : Option Addr) (c d n m : Nat) (k l : Int) (t u : List UInt8) (r s : Nm) (w : World) (h1 : RLies w a0 r) (h2 : RLies w b0 s) (hn : n = r.length) (hm : m = s.length) (ht : t.length ≤ 100000) (hu : u.length ≤ 100000) (hr : SmallN r) (hs : SmallN s) :
    Calls Tryz.prog 62 #[.agg #[.int .i64 k, .string (strOf t), .slice a0 n c], .agg #[.int .i64 l, .string (strOf u), .slice b0 m d]] w fun e w' => e = .returned (.bool (sameG k t r l u s)) ∧ Below w.heap.size w w' := by
  obtain ⟨W0, hW0⟩ : ∃ W0, W0 = (w.alloc (.cells #[.int .i64 k, .string (strOf t), .slice a0 n c] 32)).alloc (.cells #[.int .i64 l, .string (strOf u), .slice b0 m d] 32) := ⟨_, rfl⟩
  have hwr : (w.alloc (.cells #[.int .i64 k, .string (strOf t), .slice a0 n c] 32)).alloc (.cells #[.int .i64 l, .string (strOf u), .slice b0 m d] 32) = W0 := hW0.symm
  have hb0 : Below w.heap.size w W0 := by rw [hW0]; exact belowTwo w _ _
  obtain ⟨c0, c1, c2, d0, d1, d2, l1⟩ := box_two w (.int .i64 k) (.string (strOf t)) (.slice a0 n c) (.int .i64 l) (.string (strOf u)) (.slice b0 m d) 32
  rw [← hW0] at c0 c1 c2 d0 d1 d2 l1
  have HB0 := Lib.hid hb0
  have HT := Lib.hid ht
  have HU := Lib.hid hu
  obtain ⟨E, hE⟩ : ∃ E, E = sameG k t r l u s := ⟨_, rfl⟩
  rw [← hE]
  have HE := Lib.hid hE
  clear hE hW0
  have HX := Lib.hid (fun W (hb : Below w.heap.size w W) => rmatch_core a0 b0 c d n m r s W (h1.below hb) (h2.below hb) hn hm hr hs)
  have HA := Lib.hid (fun W => ralike_any t u (Nat.le_trans HT.out (by decide)) (Nat.le_trans HU.out (by decide)) W)
  have HM1 := Lib.hid (fun W => rmail_any t HT.out W)
  have HM2 := Lib.hid (fun W => rmail_any u HU.out W)
  have HMM := Lib.hid (fun W => rmm_any t u HT.out HU.out W)
  clear h1 h2 hn hm hr hs ht hu hb0
  by_cases hkl : k = l
  case neg =>
    have e1 : (k != l) = true := bne_iff_ne.2 hkl
    have HV := Lib.hid (show E = false by rw [HE.out]; unfold sameG; rw [if_pos hkl])
    clear hkl
    go_enter Tryz.func62, Tryz.ntmps62
    go_wp2_with fail
    go_ret
    exact ⟨by rw [HV.out]; rfl, HB0.out⟩
  subst hkl
  rcases kind_or k with rfl | rfl | rfl | rfl | hk
  · cases b1 : mailB t with
    | false =>
      have HV := Lib.hid (show E = alikeB t u by rw [HE.out]; unfold sameG; rw [if_neg (by simp), if_pos rfl, b1]; rfl)
      rw [b1] at HM1
      clear b1
      go_enter Tryz.func62, Tryz.ntmps62
      go_wp2_with (first
        | (go_at_call 76; (with_reducible refine (HM1.out _).mono ?_); rintro e w1 ⟨rfl, hb9⟩; have H1 := Lib.hid (below_next HB0.out hb9); have q1 := (hb9.cell (p := ⟨w.heap.size, 1, none⟩) (show w.heap.size < W0.heap.size by omega)).trans c1; have p1 := (hb9.cell (p := ⟨w.heap.size + 1, 1, none⟩) (show w.heap.size + 1 < W0.heap.size by omega)).trans d1; clear hb9)
        | (go_at_call 78; (with_reducible refine (HA.out _).mono ?_); rintro e w2 ⟨rfl, hb9⟩; have H2 := Lib.hid (below_next H1.out hb9); clear hb9))
      go_ret
      exact ⟨by rw [HV.out]; rfl, H2.out⟩
    | true =>
      rw [b1] at HM1
      cases b2 : mailB u with
      | false =>
        have HV := Lib.hid (show E = alikeB t u by rw [HE.out]; unfold sameG; rw [if_neg (by simp), if_pos rfl, b1, b2]; rfl)
        rw [b2] at HM2
        clear b1 b2
        go_enter Tryz.func62, Tryz.ntmps62
        go_wp2_with (first
          | (go_at_call 76; (with_reducible refine (HM1.out _).mono ?_); rintro e w1 ⟨rfl, hb9⟩; have H1 := Lib.hid (below_next HB0.out hb9); have q1 := (hb9.cell (p := ⟨w.heap.size, 1, none⟩) (show w.heap.size < W0.heap.size by omega)).trans c1; have p1 := (hb9.cell (p := ⟨w.heap.size + 1, 1, none⟩) l1).trans d1; have l2 := Nat.lt_of_lt_of_le l1 hb9.size; clear hb9)
          | (go_at_call 76; (with_reducible refine (HM2.out _).mono ?_); rintro e w2 ⟨rfl, hb9⟩; have H2 := Lib.hid (below_next H1.out hb9); have q2 := (hb9.cell (p := ⟨w.heap.size, 1, none⟩) (show w.heap.size < w1.heap.size by omega)).trans q1; have p2 := (hb9.cell (p := ⟨w.heap.size + 1, 1, none⟩) l2).trans p1; clear hb9)
          | (go_at_call 78; (with_reducible refine (HA.out _).mono ?_); rintro e w3 ⟨rfl, hb9⟩; have H3 := Lib.hid (below_next H2.out hb9); clear hb9))
        go_ret
        exact ⟨by rw [HV.out]; rfl, H3.out⟩
      | true =>
        have HV := Lib.hid (show E = mailMatchB t u by rw [HE.out]; unfold sameG; rw [if_neg (by simp), if_pos rfl, b1, b2]; rfl)
        rw [b2] at HM2
        clear b1 b2
        go_enter Tryz.func62, Tryz.ntmps62
        go_wp2_with (first
          | (go_at_call 76; (with_reducible refine (HM1.out _).mono ?_); rintro e w1 ⟨rfl, hb9⟩; have H1 := Lib.hid (below_next HB0.out hb9); have q1 := (hb9.cell (p := ⟨w.heap.size, 1, none⟩) (show w.heap.size < W0.heap.size by omega)).trans c1; have p1 := (hb9.cell (p := ⟨w.heap.size + 1, 1, none⟩) l1).trans d1; have l2 := Nat.lt_of_lt_of_le l1 hb9.size; clear hb9)
          | (go_at_call 76; (with_reducible refine (HM2.out _).mono ?_); rintro e w2 ⟨rfl, hb9⟩; have H2 := Lib.hid (below_next H1.out hb9); have q2 := (hb9.cell (p := ⟨w.heap.size, 1, none⟩) (show w.heap.size < w1.heap.size by omega)).trans q1; have p2 := (hb9.cell (p := ⟨w.heap.size + 1, 1, none⟩) l2).trans p1; clear hb9)
          | (go_at_call 77; (with_reducible refine (HMM.out _).mono ?_); rintro e w3 ⟨rfl, hb9⟩; have H3 := Lib.hid (below_next H2.out hb9); clear hb9))
        go_ret
        exact ⟨by rw [HV.out]; rfl, H3.out⟩
  · have HV := Lib.hid (show E = alikeB t u by rw [HE.out]; unfold sameG; rw [if_neg (by simp), if_neg (by decide), if_pos rfl])
    go_enter Tryz.func62, Tryz.ntmps62
    go_wp2_with (go_at_call 78; (with_reducible refine (HA.out _).mono ?_); rintro e w1 ⟨rfl, hb9⟩; have H1 := Lib.hid (below_next HB0.out hb9); clear hb9)
    go_ret
    exact ⟨by rw [HV.out]; rfl, H1.out⟩
  · have HV := Lib.hid (show E = decide (MatchN r s) by rw [HE.out]; unfold sameG; rw [if_neg (by simp), if_neg (by decide), if_neg (by decide), if_pos rfl])
    go_enter Tryz.func62, Tryz.ntmps62
    go_wp2_with (go_at_call 79; (with_reducible refine (HX.out _ HB0.out).mono ?_); rintro e w1 ⟨rfl, hb9⟩; have H1 := Lib.hid (below_next HB0.out hb9); clear hb9)
    go_ret
    exact ⟨by rw [HV.out]; rfl, H1.out⟩
  · have HV := Lib.hid (show E = decide (t = u) by rw [HE.out]; unfold sameG; rw [if_neg (by simp), if_neg (by decide), if_neg (by decide), if_neg (by decide), if_pos rfl])
    go_enter Tryz.func62, Tryz.ntmps62
    go_wp2_with fail
    go_ret
    exact ⟨by rw [HV.out, ← beq_of]; rfl, HB0.out⟩
  · have HV := Lib.hid (show E = false by rw [HE.out]; unfold sameG; rw [if_neg (by simp), if_neg hk.1, if_neg hk.2.1, if_neg hk.2.2.1, if_neg hk.2.2.2])
    obtain ⟨k1, k2, k4, k7⟩ := hk
    have e1 : (k == 1) = false := beq_eq_false_iff_ne.2 k1
    have e2 : (k == 2) = false := beq_eq_false_iff_ne.2 k2
    have e4 : (k == 4) = false := beq_eq_false_iff_ne.2 k4
    have e7 : (k == 7) = false := beq_eq_false_iff_ne.2 k7
    have e0 : (k != k) = false := by simp
    clear k1 k2 k4 k7
    go_enter Tryz.func62, Tryz.ntmps62
    go_wp2_with fail
    go_ret
    exact ⟨by rw [HV.out]; rfl, HB0.out⟩

set_option maxRecDepth 100000 in
set_option maxHeartbeats 4000000 in
theorem rwithinG_core (a0 b0 : Option Addr) (c d n m : Nat) (k l : Int) (t u : List UInt8) (r s : Nm) (w : World) (h1 : RLies w a0 r) (h2 : RLies w b0 s) (hn : n = r.length) (hm : m = s.length) (ht : t.length ≤ 100000) (hu : u.length ≤ 100000) (hr : SmallN r) (hs : SmallN s) :
    Calls Tryz.prog 49 #[.agg #[.int .i64 k, .string (strOf t), .slice a0 n c], .agg #[.int .i64 l, .string (strOf u), .slice b0 m d]] w fun e w' => e = .returned (.bool (withinG k t r l u s)) ∧ Below w.heap.size w w' := by
  obtain ⟨W0, hW0⟩ : ∃ W0, W0 = (w.alloc (.cells #[.int .i64 k, .string (strOf t), .slice a0 n c] 32)).alloc (.cells #[.int .i64 l, .string (strOf u), .slice b0 m d] 32) := ⟨_, rfl⟩
  have hwr : (w.alloc (.cells #[.int .i64 k, .string (strOf t), .slice a0 n c] 32)).alloc (.cells #[.int .i64 l, .string (strOf u), .slice b0 m d] 32) = W0 := hW0.symm
  have hb0 : Below w.heap.size w W0 := by rw [hW0]; exact belowTwo w _ _
  obtain ⟨c0, c1, c2, d0, d1, d2, l1⟩ := box_two w (.int .i64 k) (.string (strOf t)) (.slice a0 n c) (.int .i64 l) (.string (strOf u)) (.slice b0 m d) 32
  rw [← hW0] at c0 c1 c2 d0 d1 d2 l1
  have HB0 := Lib.hid hb0
  have HT := Lib.hid ht
  have HU := Lib.hid hu
  obtain ⟨E, hE⟩ : ∃ E, E = withinG k t r l u s := ⟨_, rfl⟩
  rw [← hE]
  have HE := Lib.hid hE
  clear hE hW0
  have HX := Lib.hid (fun W (hb : Below w.heap.size w W) => rwithin_core a0 b0 c d n m r s W (h1.below hb) (h2.below hb) hn hm hr hs)
  have H1W := Lib.hid (fun W => rmw_any t u HT.out HU.out W)
  have H2W := Lib.hid (fun W => rwithin_any t u HT.out HU.out W)
  have H7W := Lib.hid (fun W => raw_any t u W)
  clear h1 h2 hn hm hr hs ht hu hb0
  by_cases hkl : k = l
  case neg =>
    have e1 : (k != l) = true := bne_iff_ne.2 hkl
    have HV := Lib.hid (show E = false by rw [HE.out]; unfold withinG; rw [if_pos hkl])
    clear hkl
    go_enter Tryz.func49, Tryz.ntmps49
    go_wp2_with fail
    go_ret
    exact ⟨by rw [HV.out]; rfl, HB0.out⟩
  subst hkl
  rcases kind_or k with rfl | rfl | rfl | rfl | hk
  · have HV := Lib.hid (show E = mailWithinB t u by rw [HE.out]; unfold withinG; rw [if_neg (by simp), if_pos rfl])
    go_enter Tryz.func49, Tryz.ntmps49
    go_wp2_with (go_at_call 66; (with_reducible refine (H1W.out _).mono ?_); rintro e w1 ⟨rfl, hb9⟩; have H1 := Lib.hid (below_next HB0.out hb9); clear hb9)
    go_ret
    exact ⟨by rw [HV.out]; rfl, H1.out⟩
  · have HV := Lib.hid (show E = dnsWithinB t u by rw [HE.out]; unfold withinG; rw [if_neg (by simp), if_neg (by decide), if_pos rfl])
    go_enter Tryz.func49, Tryz.ntmps49
    go_wp2_with (go_at_call 67; (with_reducible refine (H2W.out _).mono ?_); rintro e w1 ⟨rfl, hb9⟩; have H1 := Lib.hid (below_next HB0.out hb9); clear hb9)
    go_ret
    exact ⟨by rw [HV.out]; rfl, H1.out⟩
  · have HV := Lib.hid (show E = decide (WithinN r s) by rw [HE.out]; unfold withinG; rw [if_neg (by simp), if_neg (by decide), if_neg (by decide), if_pos rfl])
    go_enter Tryz.func49, Tryz.ntmps49
    go_wp2_with (go_at_call 68; (with_reducible refine (HX.out _ HB0.out).mono ?_); rintro e w1 ⟨rfl, hb9⟩; have H1 := Lib.hid (below_next HB0.out hb9); clear hb9)
    go_ret
    exact ⟨by rw [HV.out]; rfl, H1.out⟩
  · have HV := Lib.hid (show E = addrWithinB t u by rw [HE.out]; unfold withinG; rw [if_neg (by simp), if_neg (by decide), if_neg (by decide), if_neg (by decide), if_pos rfl])
    go_enter Tryz.func49, Tryz.ntmps49
    go_wp2_with (go_at_call 69; (with_reducible refine (H7W.out _).mono ?_); rintro e w1 ⟨rfl, hb9⟩; have H1 := Lib.hid (below_next HB0.out hb9); clear hb9)
    go_ret
    exact ⟨by rw [HV.out]; rfl, H1.out⟩
  · have HV := Lib.hid (show E = false by rw [HE.out]; unfold withinG; rw [if_neg (by simp), if_neg hk.1, if_neg hk.2.1, if_neg hk.2.2.1, if_neg hk.2.2.2])
    obtain ⟨k1, k2, k4, k7⟩ := hk
    have e1 : (k == 1) = false := beq_eq_false_iff_ne.2 k1
    have e2 : (k == 2) = false := beq_eq_false_iff_ne.2 k2
    have e4 : (k == 4) = false := beq_eq_false_iff_ne.2 k4
    have e7 : (k == 7) = false := beq_eq_false_iff_ne.2 k7
    have e0 : (k != k) = false := by simp
    clear k1 k2 k4 k7
    go_enter Tryz.func49, Tryz.ntmps49
    go_wp2_with fail
    go_ret
    exact ⟨by rw [HV.out]; rfl, HB0.out⟩
end Go.Proofs.YtofadgmnjckpcaaGreatDoor
