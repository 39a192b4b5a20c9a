/-
  The contracts of the program's At, New and Load.
  The contracts of the reference's Save and of the deck's Left.
  The walk of the law SignerNever, over what is wanted of the program's signers.
-/
import Derived.Test.YtphgpakfdhdklaaDoorAap
import Derived.Test.YtphgpakfdhdklaaDoorAaf
import Derived.Test.YtphgpakfdhdklaaDoorAai
import Derived.Test.YtphgpakfdhdklaaDoorAae
import Derived.Test.YtphgpakfdhdklaaDoorAan
namespace Go.Proofs.YtphgpakfdhdklaaDoor
open Go.RowKit

set_option maxRecDepth 100000 in
set_option maxHeartbeats 1000000 in
theorem sat_bad (seed : ByteArray) (h n : Int) (w : World) (hn : genE seed h ≠ 0) :
    Calls Tryd.prog 26 #[.string seed, .int .i64 h, .int .i64 n] w fun e w' => e = .returned (.tuple #[.pointer none, .int .i64 ((genE seed h : Nat) : Int)]) ∧ Below w.heap.size w w' := by
  have HG := Lib.hid (fun W => mgen_bad seed h W hn)
  obtain ⟨E, hE⟩ : ∃ E, E = genE seed h := ⟨_, rfl⟩
  rw [← hE] at hn HG ⊢
  have d0 : ((E : Int) == 0) = false := by simp; omega
  have d1 : ¬ (E : Int) = 0 := by omega
  have d2 : ¬ E = 0 := hn
  clear hE hn
  go_enter Tryd.func26, Tryd.ntmps26
  go_wp2_with (go_at_call 40; (with_reducible refine (HG.out _).mono ?_); rintro e w1 ⟨rfl, hb1⟩; have HB1 := Lib.hid hb1; clear hb1)
  go_ret2
  exact ⟨rfl, HB1.out⟩
set_option maxRecDepth 100000 in
set_option maxHeartbeats 1000000 in
theorem sat_rng (seed : ByteArray) (h : Nat) (n : Int) (w : World) (hs : seed.size = 32) (h8 : h ≤ 8) (hn : ¬ (0 ≤ n ∧ n ≤ ((2 ^ h : Nat) : Int))) (hK : Holds w 0 kWords) :
    Calls Tryd.prog 26 #[.string seed, .int .i64 (h : Int), .int .i64 n] w fun e w' => e = .returned (.tuple #[.pointer none, .int .i64 1]) ∧ Below w.heap.size w w' := by
  have HG := Lib.hid (fun W hk => mgeno_ok seed h W hs h8 hk)
  have HL : Hid (∀ (tp : Nat) (W : World), TreeO W tp seed h → Calls Tryd.prog 38 #[.pointer (some ⟨tp, 0, none⟩)] W fun e w' => e = .returned (.int .i64 ((2 ^ h : Nat) : Int)) ∧ Below W.heap.size W w') := Lib.hid fun tp W hW => mleavest_any tp seed h W hW.tree
  obtain ⟨N, hN⟩ : ∃ N, N = 2 ^ h := ⟨_, rfl⟩
  rw [← hN] at HL hn
  have HK := Lib.hid hK
  clear hs h8 hN hK
  by_cases h0 : n < 0
  · have d1 : decide (n < 0) = true := by simp; omega
    clear hn
    go_enter Tryd.func26, Tryd.ntmps26
    go_wp2_with (go_at_call 40; (with_reducible refine (HG.out _ HK.out).mono ?_); rintro e w1 ⟨⟨tp, rfl, ht1⟩, hb1⟩; have HB1 := Lib.hid hb1; have HT1 := Lib.hid ht1; clear hb1 ht1)
    go_ret2
    exact ⟨rfl, HB1.out⟩
  · have d1 : decide (n < 0) = false := by simp; omega
    have d2 : decide ((N : Int) < n) = true := by simp; omega
    clear hn
    go_enter Tryd.func26, Tryd.ntmps26
    go_wp2_with (first
      | (go_at_call 40; (with_reducible refine (HG.out _ HK.out).mono ?_); rintro e w1 ⟨⟨tp, rfl, ht1⟩, hb1⟩; have HB1 := Lib.hid hb1; have HT1 := Lib.hid ht1; clear hb1 ht1)
      | (go_at_call 38; (with_reducible refine (HL.out _ _ HT1.out).mono ?_); rintro e w2 ⟨rfl, hb2⟩; have HB2 := Lib.hid (HB1.out.next hb2); have HT2 := Lib.hid (HT1.out.keep hb2); clear hb2))
    go_ret2
    exact ⟨rfl, HB2.out⟩
set_option maxRecDepth 100000 in
set_option maxHeartbeats 1000000 in
theorem sat_any (seed : ByteArray) (h n : Nat) (w : World) (hs : seed.size = 32) (h8 : h ≤ 8) (hn : n ≤ 2 ^ h) (hK : Holds w 0 kWords) :
    Calls Tryd.prog 26 #[.string seed, .int .i64 (h : Int), .int .i64 (n : Int)] w fun e w' => (∃ p, w.heap.size ≤ p ∧ e = .returned (.tuple #[.pointer (some ⟨p, 0, none⟩), .int .i64 0]) ∧ SignAt w' p seed h n) ∧ Below w.heap.size w w' := by
  have HG := Lib.hid (fun W hk => mgeno_ok seed h W hs h8 hk)
  have HL : Hid (∀ (tp : Nat) (W : World), TreeO W tp seed h → Calls Tryd.prog 38 #[.pointer (some ⟨tp, 0, none⟩)] W fun e w' => e = .returned (.int .i64 ((2 ^ h : Nat) : Int)) ∧ Below W.heap.size W w') := Lib.hid fun tp W hW => mleavest_any tp seed h W hW.tree
  have HCL : Hid (∀ W : World, Calls Tryd.prog 41 #[.string seed] W fun e w' => e = .returned (.string seed) ∧ Below W.heap.size W w') := Lib.hid fun W => clone_s seed (by omega) W
  have HSS := Lib.hid hs
  have HN := Lib.hid hn
  obtain ⟨N, hN⟩ : ∃ N, N = 2 ^ h := ⟨_, rfl⟩
  rw [← hN] at HL hn
  have d1 : decide ((n : Int) < 0) = false := by simp
  have d2 : decide ((N : Int) < (n : Int)) = false := by simp; omega
  have d3 : ¬ N < n := by omega
  have HK := Lib.hid hK
  clear hs h8 hN hK hn
  go_enter Tryd.func26, Tryd.ntmps26
  go_wp2_with (first
    | (go_at_call 40; (with_reducible refine (HG.out _ HK.out).mono ?_); rintro e w1 ⟨⟨tp, rfl, ht1⟩, hb1⟩; have HB1 := Lib.hid hb1; have HT1 := Lib.hid ht1; clear hb1 ht1)
    | (go_at_call 38; (with_reducible refine (HL.out _ _ HT1.out).mono ?_); rintro e w2 ⟨rfl, hb2⟩; have HB2 := Lib.hid (HB1.out.next hb2); have HT2 := Lib.hid (HT1.out.keep hb2); clear hb2)
    | (go_at_call 41; (with_reducible refine (HCL.out _).mono ?_); rintro e w3 ⟨rfl, hb3⟩; have HB3 := Lib.hid (HB2.out.next hb3); have HT3 := Lib.hid (HT2.out.keep hb3); clear hb3))
  go_ret2
  exact ⟨⟨_, HB3.out.size, rfl, HSS.out, HN.out, tp, heap_alloc_new w3 _, HT3.out.keep (belowNew w3 _)⟩, HB3.out.next (belowNew w3 _)⟩
set_option maxRecDepth 100000 in
set_option maxHeartbeats 1000000 in
theorem snew_bad (seed : ByteArray) (h : Int) (w : World) (hn : genE seed h ≠ 0) :
    Calls Tryd.prog 9 #[.string seed, .int .i64 h] w fun e w' => e = .returned (.tuple #[.pointer none, .int .i64 ((genE seed h : Nat) : Int)]) ∧ Below w.heap.size w w' := by
  have HA := Lib.hid (fun W => sat_bad seed h 0 W hn)
  clear hn
  go_enter Tryd.func9, Tryd.ntmps9
  go_wp2_with (go_at_call 26; (with_reducible refine (HA.out _).mono ?_); rintro e w1 ⟨rfl, hb1⟩; have HB1 := Lib.hid hb1; clear hb1)
  go_ret2
  exact ⟨rfl, HB1.out⟩
set_option maxRecDepth 100000 in
set_option maxHeartbeats 1000000 in
theorem snew_any (seed : ByteArray) (h : Nat) (w : World) (hs : seed.size = 32) (h8 : h ≤ 8) (hK : Holds w 0 kWords) :
    Calls Tryd.prog 9 #[.string seed, .int .i64 (h : Int)] w fun e w' => (∃ p, w.heap.size ≤ p ∧ e = .returned (.tuple #[.pointer (some ⟨p, 0, none⟩), .int .i64 0]) ∧ SignAt w' p seed h 0) ∧ Below w.heap.size w w' := by
  have HA : Hid (Calls Tryd.prog 26 #[.string seed, .int .i64 (h : Int), .int .i64 0] w fun e w' => (∃ p, w.heap.size ≤ p ∧ e = .returned (.tuple #[.pointer (some ⟨p, 0, none⟩), .int .i64 0]) ∧ SignAt w' p seed h 0) ∧ Below w.heap.size w w') := Lib.hid (sat_any seed h 0 w hs h8 (Nat.zero_le _) hK)
  clear hs h8 hK
  go_enter Tryd.func9, Tryd.ntmps9
  go_wp2_with (go_at_call 26; (with_reducible refine HA.out.mono ?_); rintro e w1 ⟨⟨p, hp, rfl, ht⟩, hb1⟩; have HB1 := Lib.hid hb1; have HP := Lib.hid hp; have HT := Lib.hid ht; clear hb1 hp ht)
  go_ret2
  exact ⟨⟨p, HP.out, rfl, HT.out⟩, HB1.out⟩
end Go.Proofs.YtphgpakfdhdklaaDoor
namespace Go.Proofs.YtphgpakfdhdklaaDoor
open Go.RowKit

set_option maxRecDepth 100000 in
set_option maxHeartbeats 1000000 in
theorem rsave_any (seed : ByteArray) (h n : Nat) (hs : seed.size ≤ 1000) (hh : h < 256) (hn : n < 4294967296) (w : World) :
    Calls Tryd.prog 19 #[.string seed, .int .i64 (h : Int), .int .i64 (n : Int)] w fun e w' => e = .returned (.string (saveS seed h n)) ∧ Below w.heap.size w w' := by
  obtain ⟨X1, hX1⟩ : ∃ X, X = strOf (b1 h) := ⟨_, rfl⟩
  obtain ⟨X4, hX4⟩ : ∃ X, X = strOf (b4 n) := ⟨_, rfl⟩
  have h1s : X1.size = 1 := by rw [hX1]; rfl
  have h4s : X4.size = 4 := by rw [hX4]; rfl
  obtain ⟨S1, hS1⟩ : ∃ S, S = (⟨#[75, 69, 89, 49]⟩ : ByteArray) ++ seed := ⟨_, rfl⟩
  have hS1s : S1.size = 4 + seed.size := by rw [hS1, ByteArray.size_append]; rfl
  obtain ⟨S2, hS2⟩ : ∃ S, S = S1 ++ X1 := ⟨_, rfl⟩
  have hS2s : S2.size = 5 + seed.size := by rw [hS2, ByteArray.size_append, hS1s, h1s]; omega
  obtain ⟨S3, hS3⟩ : ∃ S, S = S2 ++ X4 := ⟨_, rfl⟩
  have HR : Hid (saveS seed h n = S3) := Lib.hid (by rw [hS3, hS2, hS1, hX1, hX4]; rfl)
  have a1 : (⟨#[75, 69, 89, 49]⟩ : ByteArray) ++ seed = S1 := hS1.symm
  have a2 : S1 ++ X1 = S2 := hS2.symm
  have a3 : S2 ++ X4 = S3 := hS3.symm
  have z1 : (4 : Int) + ((seed.size : Nat) : Int) ≤ 9223372036854775807 := by omega
  have z1' : (((⟨#[75, 69, 89, 49]⟩ : ByteArray).size : Nat) : Int) + ((seed.size : Nat) : Int) ≤ 9223372036854775807 := z1
  have z2 : ((S1.size : Nat) : Int) + ((X1.size : Nat) : Int) ≤ 9223372036854775807 := by omega
  have z3 : ((S2.size : Nat) : Int) + ((X4.size : Nat) : Int) ≤ 9223372036854775807 := by omega
  have HB1 : Hid (∀ W : World, Calls Tryd.prog 37 #[.int .i64 (h : Int)] W fun e w' => e = .returned (.string X1) ∧ Below W.heap.size W w') := Lib.hid fun W => by rw [hX1]; exact rb1_any h hh W
  have HB4 : Hid (∀ W : World, Calls Tryd.prog 32 #[.int .i64 (n : Int)] W fun e w' => e = .returned (.string X4) ∧ Below W.heap.size W w') := Lib.hid fun W => by rw [hX4]; exact rb4_any n hn W
  rw [HR.out]
  clear hX1 hX4 h1s h4s hS1 hS1s hS2 hS2s hS3 hs hh hn
  go_enter Tryd.func19, Tryd.ntmps19
  go_wp2_with (first
    | (go_at_call 37; (with_reducible refine (HB1.out _).mono ?_); rintro e w1 ⟨rfl, hb1⟩; have HW1 := Lib.hid hb1; clear hb1)
    | (go_at_call 32; (with_reducible refine (HB4.out _).mono ?_); rintro e w2 ⟨rfl, hb2⟩; have HW2 := Lib.hid (HW1.out.next hb2); clear hb2))
  go_ret
  exact ⟨rfl, HW2.out⟩
set_option maxRecDepth 100000 in
set_option maxHeartbeats 1000000 in
theorem left_any (p : Nat) (a : Option Addr) (cap : Nat) (zs : List Int) (k : Nat) (w : World) (h : DeckAt w p a cap zs k) :
    Calls Tryd.prog 12 #[.pointer (some ⟨p, 0, none⟩)] w fun e w' => e = .returned (.bool (decide (k < zs.length))) ∧ Below w.heap.size w w' := by
  have h1 := h.1
  obtain ⟨n, hn⟩ : ∃ n, n = zs.length := ⟨_, rfl⟩
  rw [← hn] at h1 ⊢
  have c0 : w.cell? ⟨p, 0, none⟩ = some (.slice a n cap) := by rw [Lib.cell_of_heap h1]; rfl
  have c1 : w.cell? ⟨p, 1, none⟩ = some (.int .i64 (k : Int)) := by rw [Lib.cell_of_heap h1]; rfl
  clear h1 hn h
  go_enter Tryd.func12, Tryd.ntmps12
  go_wp2_with fail
  go_region
  go_wp2_with fail
  go_ret
  trace_state
  exact ⟨rfl, (Below.refl _ _).drew⟩
theorem next3 (p : Nat) (a : Option Addr) (cap : Nat) (zs : List Int) (k : Nat) (w : World) (h : DeckAt w p a cap zs k) (hk2 : k < 30000) :
    Calls Tryd.prog 13 #[.pointer (some ⟨p, 0, none⟩), .int .i64 3] w fun e w' => ∃ r k' : Nat, r < 3 ∧ e = .returned (.int .i64 (r : Int)) ∧ DeckAt w' p a cap zs k' ∧ k' ≤ k + 1 ∧ But p w w' :=
  next_any p a cap zs k 3 w h hk2 (by omega) (by omega)
theorem next2v (p : Nat) (a : Option Addr) (cap : Nat) (zs : List Int) (k : Nat) (w : World) (h : DeckAt w p a cap zs k) (hk2 : k < 30000) :
    Calls Tryd.prog 13 #[.pointer (some ⟨p, 0, none⟩), .int .i64 2] w fun e w' => ∃ r k' : Nat, r < 2 ∧ e = .returned (.int .i64 (r : Int)) ∧ DeckAt w' p a cap zs k' ∧ k' ≤ k + 1 ∧ But p w w' :=
  next_any p a cap zs k 2 w h hk2 (by omega) (by omega)
theorem next256 (p : Nat) (a : Option Addr) (cap : Nat) (zs : List Int) (k : Nat) (w : World) (h : DeckAt w p a cap zs k) (hk2 : k < 30000) :
    Calls Tryd.prog 13 #[.pointer (some ⟨p, 0, none⟩), .int .i64 256] w fun e w' => ∃ r k' : Nat, r < 256 ∧ e = .returned (.int .i64 (r : Int)) ∧ DeckAt w' p a cap zs k' ∧ k' ≤ k + 1 ∧ But p w w' :=
  next_any p a cap zs k 256 w h hk2 (by omega) (by omega)
end Go.Proofs.YtphgpakfdhdklaaDoor
namespace Go.Proofs.YtphgpakfdhdklaaDoor
open Go.RowKit

/-- The marks of N leaves of which the first n are used. -/
def marks (n N : Nat) : Array Value := ((List.range N).map fun j => Value.bool (decide (j < n))).toArray
theorem marks_size (n N : Nat) : (marks n N).size = N := by unfold marks; simp
theorem marks_get (n N j : Nat) (h : j < N) : (marks n N)[j]? = some (.bool (decide (j < n))) := by
  unfold marks
  simp [h]
theorem marks_set {n N : Nat} (_ : n < N) : (marks n N).setIfInBounds n (.bool true) = marks (n + 1) N := by
  apply Array.ext
  · simp [marks_size]
  · intro i h1 h2
    rw [marks_size] at h2
    have e : (marks (n + 1) N)[i]'(by rw [marks_size]; exact h2) = .bool (decide (i < n + 1)) := by
      have := marks_get (n + 1) N i h2
      rw [Array.getElem?_eq_getElem (by rw [marks_size]; exact h2)] at this
      exact Option.some.inj this
    rw [e, Array.getElem_setIfInBounds (by rw [marks_size]; exact h2)]
    split
    · rename_i h3
      subst h3
      simp
    · rename_i h3
      have := marks_get n N i h2
      rw [Array.getElem?_eq_getElem (by rw [marks_size]; exact h2)] at this
      rw [Option.some.inj this]
      congr 1
      have e2 : (i < n) ↔ (i < n + 1) := by omega
      exact decide_eq_decide.2 e2
def UsedAt (w : World) (ub N n : Nat) : Prop := w.heap[ub]? = some (.cells (marks n N) 4 (0, 0))
theorem UsedAt.below {w w' : World} {ub N n : Nat} (h : UsedAt w ub N n) (hb : Below w.heap.size w w') : UsedAt w' ub N n := (hb.block ub (Array.getElem?_eq_some_iff.1 h).1).trans h
theorem UsedAt.but {w w' : World} {q ub N n : Nat} (h : UsedAt w ub N n) (hb : But q w w') (hne : ub ≠ q) : UsedAt w' ub N n := but_blockv hb h hne
theorem UsedAt.cell {w : World} {ub N n j : Nat} (h : UsedAt w ub N n) (hj : j < N) : w.cell? ⟨ub, j, none⟩ = some (.bool (decide (j < n))) ∧ w.frozen? ⟨ub, j, none⟩ = false ∧ ub < w.heap.size := by
  refine ⟨?_, Lib.frozen_of_heap h j, (Array.getElem?_eq_some_iff.1 h).1⟩
  rw [cell_of_row w ub _ _ _ _ h]
  exact marks_get n N j hj
theorem UsedAt.set {w : World} {ub N n : Nat} (h : UsedAt w ub N n) (hn : n < N) : UsedAt (w.setCell ⟨ub, n, none⟩ (.bool true)) ub N (n + 1) := by
  unfold UsedAt
  rw [← marks_set hn]
  exact heap_setCell_same w ub n _ _ _ h
theorem boolInfo : (Tryd.prog.info? 4).map (fun i => (i.zero, i.size, i.bytes)) = some (some (.bool false), 1, 1) := by kernel_rfl
theorem marks_made (N : Nat) (hN : N ≤ 1000000) (W : World) : (Instr.makeSlice 62 (.int .i64 (N : Int)) (.int .i64 (N : Int))).run Tryd.prog W = .ok (.slice (some ⟨W.heap.size, 0, none⟩) N N) (W.alloc (.cells (marks 0 N) 4)) := by
  obtain ⟨i0, hi, hz0, hz1, hz2⟩ := info_parts boolInfo
  have hr := run_make (P := Tryd.prog) W 62 4 i0 (.bool false) Tryd.underlying62 hi hz0 .i64 .i64 (N : Int) (N : Int) (by omega) (Int.le_refl _) (by rw [hz2]; omega) (by omega)
  rw [hz1] at hr
  have e : madeCells (Value.bool false).cells (((N : Nat) : Int).toNat * 1) = marks 0 N := by
    unfold marks madeCells
    simp only [Value.cells, Nat.mul_one, Int.toNat_natCast]
    apply Array.ext
    · simp
    · intro i h1 h2
      simp [Nat.mod_one]
  rw [e] at hr
  simpa using hr
theorem typ_ne {w : World} {p q : Nat} {cs cs' : Array Value} {t t' : TypeId} {fr fr' : Nat × Nat} (h : w.heap[p]? = some (.cells cs t fr)) (h' : w.heap[q]? = some (.cells cs' t' fr')) (hne : t ≠ t') : p ≠ q := by
  intro e
  rw [e, h'] at h
  simp only [Option.some.injEq, Obj.cells.injEq] at h
  exact hne h.2.1.symm
section
variable {SA : SignP} (hS : Signers SA) {Wt W W' : World} {dp : Nat} {a : Option Addr} {cap : Nat} {zs : List Int} {k p : Nat} {s : ByteArray} {h n : Nat}
include hS
/-- Marks lie neither where a signer nor where a deck lies. -/
theorem Run.marksApart (r : Run SA Wt W dp a cap zs k p s h n) {ub N j : Nat} (u : UsedAt W ub N j) : ub ≠ p ∧ ub ≠ dp := by
  obtain ⟨cs, fr, e⟩ := hS.typ _ _ _ _ _ r.sa
  exact ⟨typ_ne u e (by decide), typ_ne u r.dk.1 (by decide)⟩
theorem Run.mark (r : Run SA Wt W dp a cap zs k p s h n) {ub N j i : Nat} {v : Value} (u : UsedAt W ub N j) (hub : Wt.heap.size ≤ ub) : Run SA Wt (W.setCell ⟨ub, i, none⟩ v) dp a cap zs k p s h n := by
  have hb := But.set ub i W v
  obtain ⟨h1, h2⟩ := r.marksApart hS u
  exact ⟨r.bel.trans (but_base hb hub r.bel.size), hS.other _ _ _ ub _ _ _ _ _ _ r.sa hb h1 u (.inr (.inl rfl)), r.dk.but hb h2 hub r.bel.size r.hx, r.hp, r.hd, r.hx⟩
end
theorem wrap_pow2v {h N : Nat} (hh : h ≤ 8) (hN : N = 2 ^ h) : IntKind.i64.wrap (2 ^ h) = (N : Int) := by
  have := wrap_pow hh hN
  rw [wrap_i64]
  unfold wrap64 at this
  exact this
theorem ilies_ltv {w : World} {a : Option Addr} {zs : List Int} (h : ILies w a zs) : ∀ x, a = some x → zs ≠ [] → x.block < w.heap.size := by
  intro x hx hne
  obtain ⟨b, o, e, hc⟩ := h.at 0 (List.length_pos_iff.2 hne)
  rw [hx] at e
  obtain rfl := Option.some.inj e
  exact block_lt_of_cell hc

set_option maxRecDepth 100000 in
set_option maxHeartbeats 4000000 in
theorem nev_any {SA : SignP} (hS : Signers SA) (k x : Nat) (a : Option Addr) (cap : Nat) (zs : List Int) (hk : k < 256) (w : World) (hK : Holds w 0 kWords) (hli : ILies w a zs) (hz : zs.length ≤ 9223372036854775807) :
    Calls Tryd.prog 6 #[.int .u8 (k : Int), .int .u8 (x : Int), .slice a zs.length cap] w fun e w' => e = .returned (.bool true) ∧ Below w.heap.size w w' := by
  obtain ⟨h, hx⟩ : ∃ h, h = x % 3 := ⟨_, rfl⟩
  have hxi : (x : Int) % 3 = (h : Int) := by omega
  have hh : h ≤ 8 := by omega
  obtain ⟨S, hSS⟩ : ∃ S, S = seedS k := ⟨_, rfl⟩
  have hSs : S.size = 32 := by rw [hSS]; exact seedS_size k
  obtain ⟨N, hN⟩ : ∃ N, N = 2 ^ h := ⟨_, rfl⟩
  have hN1 : 1 ≤ N ∧ N ≤ 256 := by rw [hN]; exact ⟨(pow_small hh).2, (pow_small hh).1⟩
  have HSD : Hid (∀ W : World, Calls Tryd.prog 10 #[.int .i64 (k : Int)] W fun e w' => e = .returned (.string S) ∧ Below W.heap.size W w') := Lib.hid fun W => by rw [hSS]; exact seedq_any k (by omega) W
  have HNW : Hid (∀ W : World, Holds W 0 kWords → Calls Tryd.prog 9 #[.string S, .int .i64 (h : Int)] W fun e w' => (∃ p, W.heap.size ≤ p ∧ e = .returned (.tuple #[.pointer (some ⟨p, 0, none⟩), .int .i64 0]) ∧ SA w' p S h 0) ∧ Below W.heap.size W w') := Lib.hid fun W hk => hS.new S h W hSs hh hk
  have HAW := Lib.hid (fun W hk => awakev_any hS W hk)
  obtain ⟨z, hzz⟩ : ∃ z, z = zs.length := ⟨_, rfl⟩
  have HND : Hid (∀ W : World, ILies W a zs → Calls Tryd.prog 11 #[.slice a z cap] W fun e w' => e = .returned (.pointer (some ⟨W.heap.size, 0, none⟩)) ∧ DeckAt w' W.heap.size a cap zs 0 ∧ Below W.heap.size W w') := Lib.hid fun W hl => by rw [hzz]; exact new_any a cap zs W hl hz
  have HHS := Lib.hid hS
  have HK := Lib.hid hK
  have HLI := Lib.hid hli
  have HX := Lib.hid (ilies_ltv hli)
  have HSs := Lib.hid hSs
  have HH := Lib.hid hh
  have HN := Lib.hid hN
  have hkw : IntKind.i64.wrap (k : Int) = (k : Int) := by rw [wrap_i64]; omega
  have hmk := marks_made N (Nat.le_trans hN1.2 (by decide))
  have hw1 := wrap_pow hh hN
  have hw2 := wrap_pow2v hh hN
  rw [← hzz]
  clear hSS hSs hN hx hzz hz hK hli hS
  go_enter Tryd.func6, Tryd.ntmps6
  go_wp2_with (first
    | (go_at_call 10; (with_reducible refine (HSD.out _).mono ?_); rintro e w1 ⟨rfl, hb1⟩; have HB1 := Lib.hid hb1; clear hb1)
    | (go_at_call 9; (with_reducible refine (HNW.out _ (HK.out.old HB1.out)).mono ?_); rintro e w2 ⟨⟨p0, hp0, rfl, ht⟩, hb2⟩; have HB2 := Lib.hid (HB1.out.next hb2); have HT2 := Lib.hid ht; have HP0 := Lib.hid (Nat.le_trans HB1.out.size hp0); clear hb2 ht hp0)
    | (go_at_call 11; (with_reducible refine (HND.out _ (HLI.out.below HB2.out HX.out)).mono ?_); rintro e w3 ⟨rfl, hd3, hb3⟩; have HB3 := Lib.hid (HB2.out.next hb3); have HD3 := Lib.hid hd3; have HT3 := Lib.hid (HHS.out.keep _ _ _ _ _ _ HT2.out hb3); clear hb3 hd3))
  obtain ⟨dp, hdp⟩ : ∃ dp, dp = w2.heap.size := ⟨_, rfl⟩
  obtain ⟨ub, hub⟩ : ∃ ub, ub = w3.heap.size := ⟨_, rfl⟩
  obtain ⟨W4, hW4⟩ : ∃ W4, W4 = w3.alloc (.cells (marks 0 N) 4) := ⟨_, rfl⟩
  rw [← hW4, ← hub, ← hdp]
  rw [← hdp] at HD3
  have HR4 : Hid (Run SA w W4 dp a cap zs 0 p0 S h 0) := Lib.hid (by
    rw [hW4]
    exact ⟨HB3.out.next (belowNew w3 _), HHS.out.keep _ _ _ _ _ _ HT3.out (belowNew w3 _), HD3.out.below (belowNew w3 _), HP0.out, by rw [hdp]; exact HB2.out.size, HX.out⟩)
  have HU4 : Hid (UsedAt W4 ub N 0) := Lib.hid (by rw [hW4, hub]; exact heap_alloc_new w3 _)
  have HUB : Hid (w.heap.size ≤ ub) := Lib.hid (by rw [hub]; exact HB3.out.size)
  clear hdp hub hW4 hw1 hw2 hmk hkw
  go_loopw [8, 12] (fun sv i wr => ∃ (j p n k : Nat), j ≤ 6 ∧ i = .int .i64 (j : Int) ∧ sv = .pointer (some ⟨p, 0, none⟩) ∧ Run SA w wr dp a cap zs k p S h n ∧ k ≤ j ∧ UsedAt wr ub N n) (fun _ i _ => 6 - (intOf i).toNat)
  case atStart => exact ⟨0, p0, 0, 0, by omega, rfl, rfl, HR4.out, by omega, HU4.out⟩
  case round =>
    obtain ⟨j, p, n, kd, hj, rfl, rfl, hr, hkd, hu⟩ := hrel
    have HR := Lib.hid hr
    have HU := Lib.hid hu
    have HKD := Lib.hid hkd
    have hfit := HHS.out.fit _ _ _ _ _ hr.sa
    clear hr hu hkd
    by_cases hlt : j < 6
    · have hd : decide ((j : Int) < 6) = true := by simp; omega
      obtain ⟨q, hq⟩ : ∃ q, q = min 1 (N - n) := ⟨_, rfl⟩
      obtain ⟨n1, hn1⟩ : ∃ n1, n1 = n + q := ⟨_, rfl⟩
      obtain ⟨Y, hY⟩ : ∃ Y, Y = saveS S h n1 := ⟨_, rfl⟩
      have HFK := Lib.hid (fun W ht => HHS.out.fork p S h n W ht)
      have HSK : Hid (∀ (p1 : Nat) (W : World), SA W p1 S h n → Calls Tryd.prog 16 #[.pointer (some ⟨p1, 0, none⟩), .int .i64 1] W fun e w' => e = .returned (.int .i64 (q : Int)) ∧ SA w' p1 S h n1 ∧ But p1 W w') := Lib.hid fun p1 W ht => by
        have := HHS.out.skip p1 S h n 1 W ht
        rw [show (1 : Int).toNat = 1 from rfl, ← HN.out, ← hq, ← hn1] at this
        exact this
      have HSV : Hid (∀ (p1 : Nat) (W : World), SA W p1 S h n1 → Calls Tryd.prog 18 #[.pointer (some ⟨p1, 0, none⟩)] W fun e w' => e = .returned (.string Y) ∧ Below W.heap.size W w') := Lib.hid fun p1 W ht => by rw [hY]; exact HHS.out.save p1 S h n1 W ht
      have HLT : Hid (∀ (W : World) (p1 m : Nat), SA W p1 S h m → p1 < W.heap.size) := Lib.hid fun W p1 m ht => HHS.out.lt ht
      have HLJ := Lib.hid hlt
      have hnN : n ≤ N := by rw [HN.out]; exact hfit.2.2
      by_cases hnlt : n < N
      · obtain rfl : q = 1 := by omega
        obtain ⟨X, hX⟩ : ∃ X, X = sigT S h n ⟨#[109]⟩ := ⟨_, rfl⟩
        have hnN8 : n < 2 ^ h := by rw [← HN.out]; exact hnlt
        have HSG : Hid (∀ W : World, SA W p S h n → Holds W 0 kWords → Calls Tryd.prog 14 #[.pointer (some ⟨p, 0, none⟩), .string ⟨#[109]⟩] W fun e w' => e = .returned (.tuple #[.string X, .int .i64 0]) ∧ SA w' p S h n1 ∧ But p W w') := Lib.hid fun W ht hk => by
          have := HHS.out.sign p S h n ⟨#[109]⟩ W ht hnN8 (by decide) hk
          rw [← hX, ← hn1] at this
          exact this
        have HLF : Hid (∀ W : World, Calls Tryd.prog 29 #[.string X] W fun e w' => e = .returned (.tuple #[.int .i64 (n : Int), .bool true]) ∧ Below W.heap.size W w') := Lib.hid fun W => by
          have := mleaf_any X W
          rw [leafV_long (by rw [hX, sigT_size]; omega), hX, sigT_leaf S h n _ (by omega)] at this
          rw [hX]
          exact this
        have HLD : Hid (∀ W : World, Holds W 0 kWords → Calls Tryd.prog 20 #[.string Y] W fun e w' => (∃ p, W.heap.size ≤ p ∧ e = .returned (.tuple #[.pointer (some ⟨p, 0, none⟩), .int .i64 0]) ∧ SA w' p S h n1) ∧ Below W.heap.size W w') := Lib.hid fun W hk => by
          have h1 := HHS.out.load Y W (by rw [hY]; exact load_save HSs.out HH.out (by omega)) hk
          rw [hY, save_seed HSs.out, save_height HSs.out (by have := HH.out; omega), save_next HSs.out h (by omega), ← hY] at h1
          exact h1
        have hnw : ¬ (n : Int) < 0 := by omega
        have d1 : decide ((n : Int) < 0) = false := by simp
        have d2 : decide ((N : Int) ≤ (n : Int)) = false := by simp; omega
        have d2n : ¬ N ≤ n := by omega
        have hni : (n : Int) < (N : Int) := by omega
        have HNL := Lib.hid hnlt
        have hn11 : n1 = n + 1 := hn1
        have HN1 := Lib.hid hn11
        clear hq hn1 hY hX hnN8 hfit hn11
        go_wp2_with (first
          | (go_at_call 17
             (with_reducible refine (HFK.out _ HR.out.sa).mono ?_)
             rintro e w5 ⟨⟨p1, hp1, rfl, ht1⟩, hb1⟩
             have HR5 := Lib.hid (HR.out.read HHS.out hb1)
             have HU5 := Lib.hid (HU.out.below hb1)
             have HT5 := Lib.hid ht1
             have HPP : Hid (p1 ≠ p) := Lib.hid (by have := HLT.out _ _ _ HR.out.sa; omega)
             have HP1 : Hid (w.heap.size ≤ p1) := Lib.hid (Nat.le_trans HR.out.bel.size hp1)
             clear hp1 ht1 hb1)
          | (go_at_call 16
             (with_reducible refine (HSK.out _ _ HT5.out).mono ?_)
             rintro e w6 ⟨rfl, ht2, hb2⟩
             have r1 := HR5.out.swap (.inr HP1.out) HT5.out
             have HR6 := Lib.hid ((r1.mut HHS.out ht2 hb2).swap (.inr HR5.out.hp) (r1.aside HHS.out HR5.out.sa HPP.out hb2))
             have HU6 := Lib.hid (HU5.out.but hb2 (r1.marksApart HHS.out HU5.out).1)
             have HT6 := Lib.hid ht2
             clear ht2 hb2 r1)
          | (go_at_call 18
             (with_reducible refine (HSV.out _ _ HT6.out).mono ?_)
             rintro e w7 ⟨rfl, hb3⟩
             have HR7 := Lib.hid (HR6.out.read HHS.out hb3)
             have HU7 := Lib.hid (HU6.out.below hb3)
             clear hb3)
          | (go_at_call 14
             (with_reducible refine (HSG.out _ HR7.out.sa (HR7.out.holds HK.out)).mono ?_)
             rintro e w8 ⟨rfl, ht4, hb4⟩
             have HR8 := Lib.hid (HR7.out.mut HHS.out ht4 hb4)
             have HU8 := Lib.hid (HU7.out.but hb4 (HR7.out.marksApart HHS.out HU7.out).1)
             clear ht4 hb4)
          | (go_at_call 29
             (with_reducible refine (HLF.out _).mono ?_)
             rintro e w9 ⟨rfl, hb5⟩
             have HR9 := Lib.hid (HR8.out.read HHS.out hb5)
             have HU9 := Lib.hid (HU8.out.below hb5)
             obtain ⟨q0, q1, q2⟩ := HU9.out.cell HNL.out
             rw [decide_eq_false (Nat.lt_irrefl n)] at q0
             clear hb5)
          | (go_at_call 13
             have HR10 := Lib.hid (HR9.out.mark HHS.out (i := n) (v := .bool true) HU9.out HUB.out)
             have HU10 := Lib.hid (HU9.out.set HNL.out)
             (with_reducible refine (next2v dp a cap zs kd _ HR10.out.dk (by have := HKD.out; omega)).mono ?_)
             rintro e w10 ⟨r, k', hr, rfl, hd', hk', hb6⟩
             have HR11 := Lib.hid (HR10.out.deck HHS.out hd' hb6)
             have HU11 := Lib.hid (HU10.out.but hb6 (HR10.out.marksApart HHS.out HU10.out).2)
             have HK11 := Lib.hid (show k' ≤ j + 1 by have := HKD.out; omega)
             clear hd' hk' hb6)
          | (go_at_call 20
             (with_reducible refine (HLD.out _ (HR11.out.holds HK.out)).mono ?_)
             rintro e w11 ⟨⟨p8, hp8, rfl, ht8⟩, hb8⟩
             have HR12 := Lib.hid ((HR11.out.read HHS.out hb8).swap (.inr (Nat.le_trans HR11.out.bel.size hp8)) ht8)
             have HU12 := Lib.hid (HU11.out.below hb8)
             clear hp8 ht8 hb8))
        · go_roundw
          case rel => exact ⟨j + 1, p8, n1, k', HLJ.out, by go_num, rfl, HR12.out, HK11.out, by rw [HN1.out]; exact HU12.out⟩
          case measure => have := HLJ.out; simp [intOf]; omega
        · go_roundw
          case rel => exact ⟨j + 1, p, n1, k', HLJ.out, by go_num, rfl, HR11.out, HK11.out, by rw [HN1.out]; exact HU11.out⟩
          case measure => have := HLJ.out; simp [intOf]; omega
      · obtain rfl : n = N := by omega
        obtain rfl : q = 0 := by omega
        have HSX : Hid (∀ W : World, SA W p S h n → Calls Tryd.prog 14 #[.pointer (some ⟨p, 0, none⟩), .string ⟨#[109]⟩] W fun e w' => e = .returned (.tuple #[.string ⟨#[]⟩, .int .i64 19]) ∧ Below W.heap.size W w') := Lib.hid fun W ht => HHS.out.signx p S h n ⟨#[109]⟩ W ht HN.out
        have HLE : Hid (∀ W : World, SA W p S h n → Calls Tryd.prog 22 #[.pointer (some ⟨p, 0, none⟩)] W fun e w' => e = .returned (.int .i64 0) ∧ Below W.heap.size W w') := Lib.hid fun W ht => by
          have := HHS.out.left p S h n W ht
          rw [← HN.out, Nat.sub_self] at this
          exact this
        clear hq hn1 hY hfit
        go_wp2_with (first
          | (go_at_call 17
             (with_reducible refine (HFK.out _ HR.out.sa).mono ?_)
             rintro e w5 ⟨⟨p1, hp1, rfl, ht1⟩, hb1⟩
             have HR5 := Lib.hid (HR.out.read HHS.out hb1)
             have HT5 := Lib.hid ht1
             have HPP : Hid (p1 ≠ p) := Lib.hid (by have := HLT.out _ _ _ HR.out.sa; omega)
             have HP1 : Hid (w.heap.size ≤ p1) := Lib.hid (Nat.le_trans HR.out.bel.size hp1)
             clear hp1 ht1 hb1)
          | (go_at_call 16
             (with_reducible refine (HSK.out _ _ HT5.out).mono ?_)
             rintro e w6 ⟨rfl, ht2, hb2⟩
             have r1 := HR5.out.swap (.inr HP1.out) HT5.out
             have HR6 := Lib.hid ((r1.mut HHS.out ht2 hb2).swap (.inr HR5.out.hp) (r1.aside HHS.out HR5.out.sa HPP.out hb2))
             have HT6 := Lib.hid ht2
             clear ht2 hb2 r1)
          | (go_at_call 18
             (with_reducible refine (HSV.out _ _ HT6.out).mono ?_)
             rintro e w7 ⟨rfl, hb3⟩
             have HR7 := Lib.hid (HR6.out.read HHS.out hb3)
             clear hb3)
          | (go_at_call 14
             (with_reducible refine (HSX.out _ HR7.out.sa).mono ?_)
             rintro e w8 ⟨rfl, hb4⟩
             have HR8 := Lib.hid (HR7.out.read HHS.out hb4)
             clear hb4)
          | (go_at_call 25
             (with_reducible refine (HAW.out _ (HR8.out.holds HK.out)).mono ?_)
             rintro e w9 ⟨rfl, hb5⟩
             have HR9 := Lib.hid (HR8.out.read HHS.out hb5)
             clear hb5)
          | (go_at_call 22
             (with_reducible refine (HLE.out _ HR9.out.sa).mono ?_)
             rintro e w10 ⟨rfl, hb6⟩
             have HR10 := Lib.hid (HR9.out.read HHS.out hb6)
             clear hb6))
        go_ret
        exact ⟨rfl, HR10.out.bel⟩
    · have hj6 : j = 6 := by omega
      subst hj6
      have hd : decide (((6 : Nat) : Int) < 6) = false := by simp
      go_wp2_with (go_at_call 25; (with_reducible refine (HAW.out _ (HR.out.holds HK.out)).mono ?_); rintro e w5 ⟨rfl, hb5⟩; have HB5 := Lib.hid (HR.out.bel.next hb5); clear hb5)
      go_ret
      exact ⟨rfl, HB5.out⟩
end Go.Proofs.YtphgpakfdhdklaaDoor
