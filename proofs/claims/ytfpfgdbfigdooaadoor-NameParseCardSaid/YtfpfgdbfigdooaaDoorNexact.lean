/-
  The contract of the reference's ExactName at equal names.
-/
import Derived.Test.YtfpfgdbfigdooaaDoorNrmat
namespace Go.Proofs.YtfpfgdbfigdooaaDoor
open Go.RowKit

set_option maxRecDepth 100000 in
set_option maxHeartbeats 4000000 in
theorem exact_core (a0 b0 : Option Addr) (c d n : Nat) (r : Nm) (w : World) (h1 : RLies w a0 r) (h2 : RLies w b0 r) (hn : n = r.length) (hr : SmallN r) :
    Calls Tryd.prog 22 #[.agg #[.slice a0 n c], .agg #[.slice b0 n d]] w fun e w' => e = .returned (.bool true) ∧ Below w.heap.size w w' := by
  obtain ⟨W, hW⟩ : ∃ W, W = (w.alloc (.cells #[.slice a0 n c] 24)).alloc (.cells #[.slice b0 n d] 24) := ⟨_, rfl⟩
  have hwr : (w.alloc (.cells #[.slice a0 n c] 24)).alloc (.cells #[.slice b0 n d] 24) = W := hW.symm
  have hb : Below w.heap.size w W := by rw [hW]; exact belowTwo w _ _
  have k0 : W.cell? ⟨w.heap.size, 0, none⟩ = some (.slice a0 n c) := by
    rw [hW, World.cell?_alloc_old _ _ _ (by simp), cell_of_row _ _ 0 _ _ _ (heap_alloc_new w _)]; rfl
  have k1 : W.cell? ⟨w.heap.size + 1, 0, none⟩ = some (.slice b0 n d) := by
    rw [hW]
    have := cell_of_row (w := (w.alloc (.cells #[.slice a0 n c] 24)).alloc (.cells #[.slice b0 n d] 24)) (w.heap.size + 1) 0 #[.slice b0 n d] 24 (0, 0) (by have := heap_alloc_new (w.alloc (.cells #[.slice a0 n c] 24)) (.cells #[.slice b0 n d] 24); simpa using this)
    rw [this]; rfl
  have HB := Lib.hid hb
  have H1 := Lib.hid (h1.below hb)
  have H2 := Lib.hid (h2.below hb)
  have HN := Lib.hid hn
  have HR := Lib.hid hr
  have hns : n ≤ 1000000 := by rw [hn]; exact hr.1
  have hd0 : ((n : Int) != (n : Int)) = false := by simp
  clear h1 h2 hn hr hW hb
  go_enter Tryd.func22, Tryd.ntmps22
  go_wp2_with fail
  have K0 := Lib.hid k0
  have K1 := Lib.hid k1
  obtain ⟨g, hg⟩ : ∃ g, g = w.heap.size := ⟨_, rfl⟩
  have HG := Lib.hid hg
  rw [← hg] at K0 K1 ⊢
  clear hwr k0 k1 hd0 hg
  go_loopw [17] (fun i wr => ∃ k : Nat, k ≤ n ∧ i = .int .i64 k ∧ Below W.heap.size W wr) (fun i _ => n - (intOf i).toNat)
  case atStart => exact ⟨0, Nat.zero_le _, rfl, Below.refl _ _⟩
  case round =>
    obtain ⟨wo, hwo⟩ : ∃ wo, wo = wr := ⟨_, rfl⟩
    subst hwo
    obtain ⟨k, hk, rfl, hb⟩ := hrel
    have HBR := Lib.hid hb
    clear hb
    by_cases hlt : k < n
    · have hd : decide ((k : Int) < (n : Int)) = true := by simp; omega
      obtain ⟨b, o, rfl, hb, a1, c1, e1, _, hL1⟩ := H1.out.at k (by rw [← HN.out]; exact hlt)
      have f1 : wo.cell? ⟨b, o + k, none⟩ = _ := (HBR.out.cell (p := ⟨b, o + k, none⟩) hb).trans e1
      obtain ⟨b', o', rfl, hb', a2, c2, e2, _, hL2⟩ := H2.out.at k (by rw [← HN.out]; exact hlt)
      have f2 : wo.cell? ⟨b', o' + k, none⟩ = _ := (HBR.out.cell (p := ⟨b', o' + k, none⟩) hb').trans e2
      have q0 := (HBR.out.cell (p := ⟨g, 0, none⟩) (block_lt K0.out)).trans K0.out
      have q1 := (HBR.out.cell (p := ⟨g + 1, 0, none⟩) (block_lt K1.out)).trans K1.out
      have hs1 := HR.out.2 k (by rw [← HN.out]; exact hlt)
      obtain ⟨x, hx⟩ : ∃ x, x = r.getD k [] := ⟨_, rfl⟩
      rw [← hx] at f1 f2 hs1 hL1 hL2
      obtain ⟨p, hp⟩ : ∃ p, p = x.length := ⟨_, rfl⟩
      rw [← hp] at f1 f2
      have hpz : p ≤ 1000000 := by rw [hp]; exact hs1.1
      have HL1 := Lib.hid hL1
      have HL2 := Lib.hid hL2
      have HP := Lib.hid hp
      have HF1 := Lib.hid e1
      have HF2 := Lib.hid e2
      have hdp : ((p : Int) != (p : Int)) = false := by simp
      rw [← hx] at HF1 HF2
      rw [← hp] at HF1 HF2
      clear e1 e2 hb hb' hs1 hL1 hL2 hx hp
      go_wp2_with fail
      go_region
      go_wp2_with fail
      clear q0 q1 f1 f2 hdp
      have HBD := Lib.hid (HBR.out.trans ((Below.refl wo.heap.size wo).drew.mono HBR.out.size))
      go_loopw [39] (fun i ws => ∃ j : Nat, j ≤ p ∧ i = .int .i64 j ∧ Below W.heap.size W ws) (fun i _ => p - (intOf i).toNat)
      case atStart => exact ⟨0, Nat.zero_le _, rfl, HBD.out⟩
      case round =>
        obtain ⟨ws, hws⟩ : ∃ ws, ws = wr := ⟨_, rfl⟩
        subst hws
        obtain ⟨j, hj, rfl, hb⟩ := hrel
        have HBS := Lib.hid hb
        clear hb
        by_cases hjl : j < p
        · have hdj : decide ((j : Int) < (p : Int)) = true := by simp; omega
          have q0 := (HBS.out.cell (p := ⟨g, 0, none⟩) (block_lt K0.out)).trans K0.out
          have q1 := (HBS.out.cell (p := ⟨g + 1, 0, none⟩) (block_lt K1.out)).trans K1.out
          have f1 := (HBS.out.cell (p := ⟨b, o + k, none⟩) (block_lt HF1.out)).trans HF1.out
          have f2 := (HBS.out.cell (p := ⟨b', o' + k, none⟩) (block_lt HF2.out)).trans HF2.out
          obtain ⟨b3, o3, rfl, h3, m0, m1, m2⟩ := HL1.out.at j (by rw [← HP.out]; exact hjl)
          obtain ⟨b4, o4, rfl, h4, n0, n1, n2⟩ := HL2.out.at j (by rw [← HP.out]; exact hjl)
          generalize x.getD j noAt = y at m0 m1 m2 n0 n1 n2
          obtain ⟨t, kd, v⟩ := y
          have l0 : ws.cell? ⟨b3, o3 + j * 3, none⟩ = some (.string t) := (HBS.out.cell (p := ⟨b3, o3 + j * 3, none⟩) h3).trans m0
          have l1 : ws.cell? ⟨b3, o3 + j * 3 + 1, none⟩ = some (.int .i64 kd) := (HBS.out.cell (p := ⟨b3, o3 + j * 3 + 1, none⟩) h3).trans m1
          have l2 : ws.cell? ⟨b3, o3 + j * 3 + 2, none⟩ = some (.string v) := (HBS.out.cell (p := ⟨b3, o3 + j * 3 + 2, none⟩) h3).trans m2
          have r0 : ws.cell? ⟨b4, o4 + j * 3, none⟩ = some (.string t) := (HBS.out.cell (p := ⟨b4, o4 + j * 3, none⟩) h4).trans n0
          have r1 : ws.cell? ⟨b4, o4 + j * 3 + 1, none⟩ = some (.int .i64 kd) := (HBS.out.cell (p := ⟨b4, o4 + j * 3 + 1, none⟩) h4).trans n1
          have r2 : ws.cell? ⟨b4, o4 + j * 3 + 2, none⟩ = some (.string v) := (HBS.out.cell (p := ⟨b4, o4 + j * 3 + 2, none⟩) h4).trans n2
          clear m0 m1 m2 n0 n1 n2 h3 h4
          go_wp2_with fail
          go_region
          go_wp2_with fail
          go_roundw
          case rel => exact ⟨j + 1, by omega, by go_num, HBS.out.trans ((Below.refl ws.heap.size ws).drew.mono HBS.out.size)⟩
          case measure => simp [intOf]; omega
        · have hdj : decide ((j : Int) < (p : Int)) = false := by simp; omega
          go_wp2_with fail
          go_roundw
          case rel => exact ⟨k + 1, by omega, by go_num, HBS.out⟩
          case measure => simp [intOf]; omega
    · have hd : decide ((k : Int) < (n : Int)) = false := by simp; omega
      go_wp2_with fail
      go_ret
      exact ⟨rfl, below_next HB.out HBR.out⟩
theorem exact_any (v u : Value) (n : Nm) (w : World) (h1 : NameV w v n) (h2 : NameV w u n) (hs : SmallN n) :
    Calls Tryd.prog 22 #[v, u] w fun e w' => e = .returned (.bool true) ∧ Below w.heap.size w w' := by
  obtain ⟨a, c, rfl, _, h1⟩ := h1
  obtain ⟨b, d, rfl, _, h2⟩ := h2
  exact exact_core a b c d _ n w h1 h2 rfl hs
end Go.Proofs.YtfpfgdbfigdooaaDoor
