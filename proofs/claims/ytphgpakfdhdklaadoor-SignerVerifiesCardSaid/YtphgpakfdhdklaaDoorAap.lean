/-
  The contracts of the program's Generate: a tree, or what is refused.
  Nothing is left of this text.
  Nothing is left of this text.
  No signer: the nil pointer, or a signer that nothing was written to; what is wanted of the program there.
  How a signer of the program lies; the contracts of what is read of one, and of Skip and Fork.
  The contracts of the program's Sign, Skip and Fork of a signer.
-/
import Derived.Test.YtphgpakfdhdklaaDoorAao
import Derived.Test.YtphgpakfdhdklaaDoorAan
import Derived.Test.YtphgpakfdhdklaaDoorAam
import Derived.Test.YtphgpakfdhdklaaDoorAaj
import Derived.Test.YtphgpakfdhdklaaDoorAah
import Derived.Deep.RegionHeld3
namespace Go.Proofs.YtphgpakfdhdklaaDoor
open Go.RowKit

set_option maxRecDepth 100000 in
set_option maxHeartbeats 1000000 in
theorem mgen_bad (seed : ByteArray) (h : Int) (w : World) (hn : genE seed h ≠ 0) :
    Calls Tryd.prog 40 #[.string seed, .int .i64 h] w fun e w' => e = .returned (.tuple #[.pointer none, .int .i64 ((genE seed h : Nat) : Int)]) ∧ Below w.heap.size w w' := by
  obtain ⟨n, hnn⟩ : ∃ n, n = seed.size := ⟨_, rfl⟩
  have hni : (seed.size : Int) = (n : Int) := by rw [hnn]
  have hQ : genE seed h = if n = 32 then (if 0 ≤ h ∧ h ≤ 8 then 0 else 1) else 18 := by unfold genE; rw [hnn]
  rw [hQ] at hn ⊢
  clear hnn hQ
  rcases Nat.decEq n 32 with h1 | h1
  · have d1 : ((n : Int) == 32) = false := by simp; omega
    have d1i : ¬ (n : Int) = 32 := by omega
    rw [if_neg h1]
    clear hn
    go_enter Tryd.func40, Tryd.ntmps40
    go_wp2_with fail
    go_ret2
    exact ⟨rfl, Below.refl _ _⟩
  · subst h1
    rw [if_pos rfl] at hn ⊢
    have h2 : ¬ (0 ≤ h ∧ h ≤ 8) := fun h2 => hn (if_pos h2)
    rw [if_neg h2]
    have HV : Hid (∀ W : World, Calls Tryd.prog 56 #[.int .i64 h] W fun e w' => e = .returned (.bool false) ∧ Below W.heap.size W w') := Lib.hid fun W => by
      have := mheight_any h W
      rw [decide_eq_false h2] at this
      exact this
    clear hn h2
    go_enter Tryd.func40, Tryd.ntmps40
    go_wp2_with (go_at_call 56; (with_reducible refine (HV.out _).mono ?_); rintro e w1 ⟨rfl, hb1⟩; have HB1 := Lib.hid hb1; clear hb1)
    go_ret2
    exact ⟨rfl, HB1.out⟩

theorem treeO_of {w : World} {B : Nat} {a : Option Addr} {c : Nat} {S ID R : ByteArray} {h : Nat} (hh : h ≤ 8) (hID : ID = idT S) (hR : R = rootS S h) (ho : OwnLL w B (.slice a (h + 1) c) (levelsS S h (h + 1))) : TreeO (w.alloc (.cells #[.int .i64 (h : Int), .string ID, .string R, .string S, .slice a (h + 1) c] 84)) w.heap.size S h := by
  subst hID hR
  exact ⟨hh, a, c, B, heap_alloc_new w _, ho.below (belowNew w _)⟩

set_option maxRecDepth 100000 in
set_option maxHeartbeats 4000000 in
theorem mgeno_ok (seed : ByteArray) (h : Nat) (w : World) (hs : seed.size = 32) (hh : h ≤ 8) (hK : Holds w 0 kWords) :
    Calls Tryd.prog 40 #[.string seed, .int .i64 (h : Int)] w fun e w' => (∃ p, e = .returned (.tuple #[.pointer (some ⟨p, 0, none⟩), .int .i64 0]) ∧ TreeO w' p seed h) ∧ Below w.heap.size w w' := by
  obtain ⟨ID, hID⟩ : ∃ ID, ID = idT seed := ⟨_, rfl⟩
  have hsi : (seed.size : Int) = 32 := by rw [hs]; rfl
  have HVH : Hid (∀ W : World, Calls Tryd.prog 56 #[.int .i64 (h : Int)] W fun e w' => e = .returned (.bool true) ∧ Below W.heap.size W w') := Lib.hid fun W => by
    have := mheight_any (h : Int) W
    rw [decide_eq_true (show 0 ≤ (h : Int) ∧ (h : Int) ≤ 8 by omega)] at this
    exact this
  have HSH : Hid (∀ (V : Value) (W : World), Holds W 0 kWords → Reads_z W V [⟨#[73]⟩, seed] → Calls Tryd.prog 57 #[V] W fun e w' => e = .returned (.string ID) ∧ Below W.heap.size W w') := Lib.hid fun V W hk hV => by
    have h1 := short_any V _ W hV (show (2 : Nat) < 4611686018427387904 by decide) hk (by rw [cat_id, List.length_cons]; show seed.size + 1 < _; omega)
    rw [cat_id] at h1
    rw [hID]
    exact h1
  have HKY : Hid (∀ W : World, Holds W 0 kWords → Calls Tryd.prog 58 #[.agg #[.int .i64 (h : Int), .string ID, .string ⟨#[]⟩], .string seed] W fun e w' => (∃ v, e = .returned (.tuple #[v, .int .i64 0]) ∧ OwnL w' W.heap.size v (levelS seed h 0)) ∧ Below W.heap.size W w') := Lib.hid fun W hk => by
    rw [hID]
    exact mkeys_any seed ⟨#[]⟩ h hh hs W hk
  have HGR : Hid (∀ (v : Value) (B0 : Nat) (W : World), B0 ≤ W.heap.size → OwnL W B0 v (levelS seed h 0) → Holds W 0 kWords → Calls Tryd.prog 59 #[.agg #[.int .i64 (h : Int), .string ID, .string ⟨#[]⟩], v] W fun e w' => (∃ V, e = .returned V ∧ OwnLL w' B0 V (levelsS seed h (h + 1))) ∧ Below W.heap.size W w') := Lib.hid fun v B0 W hB hu hk => by
    rw [hID]
    exact mgrow_any seed h hh ⟨#[]⟩ v B0 W hB hu hk
  have HCL : Hid (∀ W : World, Calls Tryd.prog 41 #[.string seed] W fun e w' => e = .returned (.string seed) ∧ Below W.heap.size W w') := Lib.hid fun W => clone_s seed (by omega) W
  have HID := Lib.hid hID
  have HS := Lib.hid hs
  have HH := Lib.hid hh
  have HK := Lib.hid hK
  clear hID hs hh hK
  go_enter Tryd.func40, Tryd.ntmps40
  go_wp2_with (first
    | (go_at_call 56; (with_reducible refine (HVH.out _).mono ?_); rintro e w1 ⟨rfl, hb1⟩; have HB1 := Lib.hid hb1; clear hb1)
    | (go_at_call 57; refine (HSH.out _ _ (HK.out.old (HB1.out.next (belowNew _ _))) (reads_row _ [⟨#[73]⟩, seed] 9)).mono ?_; rintro e w2 ⟨rfl, hb2⟩; have HB2 := Lib.hid ((HB1.out.next (belowNew _ _)).next hb2); clear hb2)
    | (go_at_call 58
       obtain ⟨K, hKK⟩ : ∃ K, K = w2.heap.size := ⟨_, rfl⟩
       obtain ⟨W3, hW3⟩ : ∃ W3, W3 = w2.alloc (.cells #[.int .i64 (h : Int), .string ID, .string ⟨#[]⟩] 79) := ⟨_, rfl⟩
       rw [← hW3, ← hKK]
       have HB3 : Hid (Below w.heap.size w W3) := Lib.hid (by rw [hW3]; exact HB2.out.next (belowNew w2 _))
       have HQ3 : Hid (W3.heap[K]? = some (.cells #[.int .i64 (h : Int), .string ID, .string ⟨#[]⟩] 79 (0, 0))) := Lib.hid (by rw [hW3, hKK]; exact heap_alloc_new w2 _)
       have HKW : Hid (w.heap.size ≤ K) := Lib.hid (by rw [hKK]; exact HB2.out.size)
       clear hW3 hKK
       (with_reducible refine (HKY.out _ (HK.out.old HB3.out)).mono ?_)
       rintro e w4 ⟨⟨v, rfl, hu⟩, hb4⟩
       obtain ⟨a4, c4, hv4⟩ := own_slice hu
       rw [levelS_len] at hv4
       obtain ⟨n4, hn4⟩ : ∃ n4, n4 = 2 ^ (h - 0) := ⟨_, rfl⟩
       rw [← hn4] at hv4
       subst hv4
       clear hn4
       have HB4 := Lib.hid (HB3.out.next hb4)
       have HU4 := Lib.hid hu
       have hq4 := (hb4.block K (Array.getElem?_eq_some_iff.1 HQ3.out).1).trans HQ3.out
       obtain ⟨k0, k1, k2, hkl⟩ := tcell hq4
       have HQ4 := Lib.hid hq4
       have HS4 := Lib.hid hb4.size
       clear hu hb4 hq4 hkl)
    | (go_at_call 59
       (with_reducible refine (HGR.out _ W3.heap.size _ HS4.out HU4.out (HK.out.old HB4.out)).mono ?_)
       rintro e w5 ⟨⟨V, rfl, hll⟩, hb5⟩
       obtain ⟨a5, c5, hv5⟩ := own_slice_l hll
       subst hv5
       have tv : TreeV w5 (.agg #[.string seed, .string ID, .slice a5 (h + 1) c5]) seed h := tree_of HID.out hll
       obtain ⟨b, o, c', e1, hc1, hb', hlev⟩ := tv.open
       simp at e1
       obtain ⟨e2, rfl, rfl⟩ := e1
       obtain ⟨b2, o2, c2, z0, z1, hb2, hs2⟩ := hlev h (Nat.le_refl _)
       rw [Nat.sub_self, Nat.pow_zero] at z0 z1 hs2
       have z2 := hs2 0 (by omega)
       rw [Nat.add_zero] at z2
       obtain ⟨R, hR⟩ : ∃ R, R = rootS seed h := ⟨_, rfl⟩
       rw [show nodeS seed h 0 = rootS seed h from rfl, ← hR] at z2
       have HR := Lib.hid hR
       have HLL := Lib.hid hll
       obtain ⟨n, hn⟩ : ∃ n, n = h + 1 := ⟨_, rfl⟩
       rw [← hn] at HLL ⊢
       have HN := Lib.hid hn
       have hni : (h : Int) < (n : Int) := by omega
       have hnn : h < n := by omega
       have hq5 := (hb5.block K (Array.getElem?_eq_some_iff.1 HQ4.out).1).trans HQ4.out
       clear k0 k1 k2
       obtain ⟨k0, k1, k2, hkl⟩ := tcell hq5
       have f2 := Lib.frozen_of_heap hq5 2
       have HQ5 := Lib.hid hq5
       have HB5 := Lib.hid (HB4.out.next hb5)
       clear hll tv hc1 hb' hlev z1 hb2 hs2 hR hn hq5 hb5 e2))
  obtain ⟨W6, hW6⟩ : ∃ W6, W6 = w5.setCell ⟨K, 2, none⟩ (.string R) := ⟨_, rfl⟩
  rw [← hW6]
  have hq6 : W6.heap[K]? = some (.cells #[.int .i64 (h : Int), .string ID, .string R] 79 (0, 0)) := by rw [hW6]; exact tset2 HQ5.out
  have HLL6 : Hid (OwnLL W6 W3.heap.size (.slice (some ⟨b, o, none⟩) n c5) (levelsS seed h n)) := Lib.hid (by rw [hW6]; exact HLL.out.low (Array.getElem?_eq_some_iff.1 HQ3.out).1)
  have HB6 : Hid (Below w.heap.size w W6) := Lib.hid (by rw [hW6]; exact HB5.out.setCell (p := ⟨K, 2, none⟩) HKW.out _)
  clear k0 k1 k2 f2 hkl z0 z2 hW6 hni hnn
  obtain ⟨k0, k1, k2, hkl⟩ := tcell hq6
  have HKL := Lib.hid hkl
  clear hq6 hkl
  go_region_held3 (fun w' => w'.cell? ⟨K, 0, none⟩ = some (.int .i64 (h : Int)) ∧ w'.cell? ⟨K, 1, none⟩ = some (.string ID) ∧ w'.cell? ⟨K, 2, none⟩ = some (.string R)) (first | with_reducible exact ⟨by assumption, by assumption, by assumption⟩ | go_keep)
    (first
      | (go_at_call 41; (with_reducible refine (HCL.out _).mono ?_); rintro e w7 ⟨rfl, hb7⟩; have hx : Below W6.heap.size W6 w7 := (by first | exact hb7 | exact (Below.refl _ _).drew.trans hb7); have s0 := (hx.cell (p := ⟨K, 0, none⟩) HKL.out).trans k0; have s1 := (hx.cell (p := ⟨K, 1, none⟩) HKL.out).trans k1; have s2 := (hx.cell (p := ⟨K, 2, none⟩) HKL.out).trans k2; have HB7 := Lib.hid hx; have HLL7 := Lib.hid (HLL6.out.below hx); clear hb7 hx))
  go_wp2_with fail
  go_ret2
  have hn := HN.out
  subst hn
  exact ⟨⟨_, rfl, treeO_of HH.out HID.out HR.out HLL7.out⟩, (HB6.out.next HB7.out).next (belowNew _ _)⟩
end Go.Proofs.YtphgpakfdhdklaaDoor


namespace Go.Proofs.YtphgpakfdhdklaaDoor
open Go.RowKit

/-- The cells of a signer that nothing was written to: as the landed struct has them. -/
def zeroSc : Array Value := #[.pointer none, .string ⟨#[]⟩, .int .i64 0]
/-- No signer: the nil pointer, or a pointer to a signer that nothing was written to. -/
def NoSigner (W : World) (v : Value) : Prop := v = .pointer none ∨ ∃ p, v = .pointer (some ⟨p, 0, none⟩) ∧ W.heap[p]? = some (.cells zeroSc 55 (0, 0))
theorem NoSigner.below {W W' : World} {v : Value} (h : NoSigner W v) (hb : Below W.heap.size W W') : NoSigner W' v := by
  rcases h with h | ⟨p, h, hp⟩
  · exact .inl h
  · exact .inr ⟨p, h, (hb.block p (Array.getElem?_eq_some_iff.1 hp).1).trans hp⟩
structure NoSigners : Prop where
  new : ∀ (seed : ByteArray) (h : Int) (w : World), genE seed h ≠ 0 → Calls Tryd.prog 9 #[.string seed, .int .i64 h] w fun e w' => e = .returned (.tuple #[.pointer none, .int .i64 ((genE seed h : Nat) : Int)]) ∧ Below w.heap.size w w'
  atb : ∀ (seed : ByteArray) (h n : Int) (w : World), genE seed h ≠ 0 → Calls Tryd.prog 26 #[.string seed, .int .i64 h, .int .i64 n] w fun e w' => e = .returned (.tuple #[.pointer none, .int .i64 ((genE seed h : Nat) : Int)]) ∧ Below w.heap.size w w'
  atr : ∀ (seed : ByteArray) (h : Nat) (n : Int) (w : World), seed.size = 32 → h ≤ 8 → ¬ (0 ≤ n ∧ n ≤ ((2 ^ h : Nat) : Int)) → Holds w 0 kWords → Calls Tryd.prog 26 #[.string seed, .int .i64 (h : Int), .int .i64 n] w fun e w' => e = .returned (.tuple #[.pointer none, .int .i64 1]) ∧ Below w.heap.size w w'
  sign : ∀ (v : Value) (m : ByteArray) (w : World), NoSigner w v → Calls Tryd.prog 14 #[v, .string m] w fun e w' => e = .returned (.tuple #[.string ⟨#[]⟩, .int .i64 18]) ∧ Below w.heap.size w w'
  key : ∀ (v : Value) (w : World), NoSigner w v → Calls Tryd.prog 23 #[v] w fun e w' => e = .returned (.agg #[.int .i64 0, .string ⟨#[]⟩, .string ⟨#[]⟩]) ∧ Below w.heap.size w w'
  next : ∀ (v : Value) (w : World), NoSigner w v → Calls Tryd.prog 21 #[v] w fun e w' => e = .returned (.int .i64 0) ∧ Below w.heap.size w w'
  left : ∀ (v : Value) (w : World), NoSigner w v → Calls Tryd.prog 22 #[v] w fun e w' => e = .returned (.int .i64 0) ∧ Below w.heap.size w w'
  skip : ∀ (v : Value) (n : Int) (w : World), NoSigner w v → Calls Tryd.prog 16 #[v, .int .i64 n] w fun e w' => e = .returned (.int .i64 0) ∧ Below w.heap.size w w'
  fork : ∀ (v : Value) (w : World), NoSigner w v → Calls Tryd.prog 17 #[v] w fun e w' => e = .returned (.pointer none) ∧ Below w.heap.size w w'
  save : ∀ (v : Value) (w : World), NoSigner w v → Calls Tryd.prog 18 #[v] w fun e w' => e = .returned (.string ⟨#[]⟩) ∧ Below w.heap.size w w'

end Go.Proofs.YtphgpakfdhdklaaDoor
namespace Go.Proofs.YtphgpakfdhdklaaDoor
open Go.RowKit

def SignAt : SignP := fun W p s h n => s.size = 32 ∧ n ≤ 2 ^ h ∧ ∃ t, W.heap[p]? = some (.cells #[.pointer (some ⟨t, 0, none⟩), .string s, .int .i64 (n : Int)] 55 (0, 0)) ∧ TreeO W t s h
theorem SignAt.keep {W W' : World} {p : Nat} {s : ByteArray} {h n : Nat} (t : SignAt W p s h n) (hb : Below W.heap.size W W') : SignAt W' p s h n := by
  obtain ⟨h1, h2, tp, e, ht⟩ := t
  exact ⟨h1, h2, tp, (hb.block p (Array.getElem?_eq_some_iff.1 e).1).trans e, ht.keep hb⟩
theorem SignAt.fit {W : World} {p : Nat} {s : ByteArray} {h n : Nat} (t : SignAt W p s h n) : s.size = 32 ∧ h ≤ 8 ∧ n ≤ 2 ^ h := by
  obtain ⟨h1, h2, _, _, ht⟩ := t
  exact ⟨h1, ht.1, h2⟩
theorem SignAt.other {W W' : World} {p q : Nat} {s : ByteArray} {h n : Nat} {cs : Array Value} {t : TypeId} {fr : Nat × Nat} (hs : SignAt W p s h n) (hb : But q W W') (hne : q ≠ p) (hq : W.heap[q]? = some (.cells cs t fr)) (ho : Other t) : SignAt W' p s h n := by
  obtain ⟨h1, h2, tp, e, ht⟩ := hs
  refine ⟨h1, h2, tp, (hb.block p (Array.getElem?_eq_some_iff.1 e).1 (by simpa using hne.symm)).trans e, ?_⟩
  rcases ho with rfl | rfl | rfl
  · exact ht.aside hb hq (by decide) (by decide) (by decide)
  · exact ht.aside hb hq (by decide) (by decide) (by decide)
  · exact ht.aside hb hq (by decide) (by decide) (by decide)
/-- A signer of which the next leaf is written. -/
theorem SignAt.step {W : World} {p : Nat} {s : ByteArray} {h n n' : Nat} (hs : SignAt W p s h n) (hn : n' ≤ 2 ^ h) : SignAt (W.setCell ⟨p, 2, none⟩ (.int .i64 (n' : Int))) p s h n' := by
  obtain ⟨h1, h2, tp, e, ht⟩ := hs
  exact ⟨h1, hn, tp, tset2 e, ht.aside (But.set p 2 W _) e (by decide) (by decide) (by decide)⟩

theorem ptr_none (w : World) : (Op.equalIn 9999 53 (.pointer none) (.pointer none)).run Tryd.prog w = .ok true w := by
  have h : ∀ d : Nat, (Op.equalIn (d + 1) 53 (.pointer none) (.pointer none)).run Tryd.prog w = .ok true w := fun d => by
    simp [Op.equalIn, run_underlying Tryd.underlying53]
  exact h 9998
theorem ptr_some (a : Addr) (w : World) : (Op.equalIn 9999 53 (.pointer (some a)) (.pointer none)).run Tryd.prog w = .ok false w := by
  have h : ∀ d : Nat, (Op.equalIn (d + 1) 53 (.pointer (some a)) (.pointer none)).run Tryd.prog w = .ok false w := fun d => by
    simp [Op.equalIn, run_underlying Tryd.underlying53]
  exact h 9998
theorem list_of_size {s : ByteArray} (h : s.size = 32) : ¬ s.toList = [] := by
  rw [Lib.toList_data]
  intro e
  have e2 : s.data.toList.length = 32 := h
  rw [e] at e2
  exact absurd e2 (by decide)

set_option maxRecDepth 100000 in
set_option maxHeartbeats 1000000 in
theorem sempty_no {w : World} {p : Nat} {s : ByteArray} {h n : Nat} (t : SignAt w p s h n) :
    Calls Tryd.prog 33 #[.pointer (some ⟨p, 0, none⟩)] w fun e w' => e = .returned (.bool false) ∧ Below w.heap.size w w' := by
  obtain ⟨hs, _, tp, hq, _⟩ := t
  obtain ⟨c0, c1, c2, hp⟩ := tcell hq
  have hps := ptr_some ⟨tp, 0, none⟩
  have hsl := list_of_size hs
  clear hq hs
  go_enter Tryd.func33, Tryd.ntmps33
  go_wp2_with fail
  go_ret
  exact ⟨rfl, Below.refl _ _⟩
set_option maxRecDepth 100000 in
set_option maxHeartbeats 1000000 in
theorem sempty_yes {w : World} {v : Value} (t : NoSigner w v) :
    Calls Tryd.prog 33 #[v] w fun e w' => e = .returned (.bool true) ∧ Below w.heap.size w w' := by
  rcases t with rfl | ⟨p, rfl, hq⟩
  · go_enter Tryd.func33, Tryd.ntmps33
    go_wp2_with fail
    go_ret
    exact ⟨rfl, Below.refl _ _⟩
  · unfold zeroSc at hq
    obtain ⟨c0, c1, c2, hp⟩ := tcell hq
    have hps := ptr_none
    clear hq
    go_enter Tryd.func33, Tryd.ntmps33
    go_wp2_with fail
    go_ret
    exact ⟨rfl, Below.refl _ _⟩
set_option maxRecDepth 100000 in
set_option maxHeartbeats 1000000 in
theorem snext_any (p : Nat) (s : ByteArray) (h n : Nat) (w : World) (t : SignAt w p s h n) :
    Calls Tryd.prog 21 #[.pointer (some ⟨p, 0, none⟩)] w fun e w' => e = .returned (.int .i64 (n : Int)) ∧ Below w.heap.size w w' := by
  have HE := Lib.hid (sempty_no t)
  obtain ⟨_, _, tp, hq, _⟩ := t
  have HQ := Lib.hid hq
  clear hq
  go_enter Tryd.func21, Tryd.ntmps21
  go_wp2_with (go_at_call 33; (with_reducible refine HE.out.mono ?_); rintro e w1 ⟨rfl, hb1⟩; have HB1 := Lib.hid hb1; have hq1 := (hb1.block p (Array.getElem?_eq_some_iff.1 HQ.out).1).trans HQ.out; obtain ⟨c0, c1, c2, hp⟩ := tcell hq1; clear hb1 hq1)
  go_ret
  exact ⟨rfl, HB1.out⟩
set_option maxRecDepth 100000 in
set_option maxHeartbeats 1000000 in
theorem sleft_any (p : Nat) (s : ByteArray) (h n : Nat) (w : World) (t : SignAt w p s h n) :
    Calls Tryd.prog 22 #[.pointer (some ⟨p, 0, none⟩)] w fun e w' => e = .returned (.int .i64 ((2 ^ h - n : Nat) : Int)) ∧ Below w.heap.size w w' := by
  have HE := Lib.hid (sempty_no t)
  have h8 := t.fit.2.1
  have hle := t.fit.2.2
  obtain ⟨_, _, tp, hq, ht⟩ := t
  have HL : Hid (∀ W : World, TreeO W tp s h → Calls Tryd.prog 38 #[.pointer (some ⟨tp, 0, none⟩)] W fun e w' => e = .returned (.int .i64 ((2 ^ h : Nat) : Int)) ∧ Below W.heap.size W w') := Lib.hid fun W hW => mleavest_any tp s h W hW.tree
  obtain ⟨N, hN⟩ : ∃ N, N = 2 ^ h := ⟨_, rfl⟩
  have hN1 : 1 ≤ N ∧ N ≤ 256 := by rw [hN]; exact ⟨(pow_small h8).2, (pow_small h8).1⟩
  rw [← hN] at HL hle ⊢
  obtain ⟨lf, hlf⟩ : ∃ lf, lf = N - n := ⟨_, rfl⟩
  rw [← hlf]
  have hsub : (N : Int) - (n : Int) = (lf : Int) := by omega
  have hlfb : lf ≤ 256 := by omega
  have hlfw : IntKind.i64.wrap (lf : Int) = (lf : Int) := by rw [wrap_i64]; omega
  have HQ := Lib.hid hq
  have HT := Lib.hid ht
  clear hq hN hlf ht h8 hle hN1
  go_enter Tryd.func22, Tryd.ntmps22
  go_wp2_with (go_at_call 33; (with_reducible refine HE.out.mono ?_); rintro e w1 ⟨rfl, hb1⟩; have HB1 := Lib.hid hb1; have HT1 := Lib.hid (HT.out.keep hb1); have hq1 := (hb1.block p (Array.getElem?_eq_some_iff.1 HQ.out).1).trans HQ.out; obtain ⟨c0, c1, c2, hp⟩ := tcell hq1; have HP := Lib.hid hp; clear hb1 hq1)
  go_region_held3 (fun w' => w'.cell? ⟨p, 0, none⟩ = some (.pointer (some ⟨tp, 0, none⟩)) ∧ w'.cell? ⟨p, 2, none⟩ = some (.int .i64 (n : Int))) (first | with_reducible exact ⟨by assumption, by assumption⟩ | go_keep)
    (first
      | (go_at_call 38; (with_reducible refine (HL.out _ (by first | exact HT1.out | exact HT1.out.keep (Below.refl _ _).drew)).mono ?_); rintro e w2 ⟨rfl, hb2⟩; have hx : Below w1.heap.size w1 w2 := (by first | exact hb2 | exact (Below.refl _ _).drew.trans hb2); have s0 := (hx.cell (p := ⟨p, 0, none⟩) HP.out).trans c0; have s2 := (hx.cell (p := ⟨p, 2, none⟩) HP.out).trans c2; have HB2 := Lib.hid (HB1.out.next hx); clear hb2 hx))
  go_wp2_with fail
  go_ret
  exact ⟨rfl, HB2.out⟩
set_option maxRecDepth 100000 in
set_option maxHeartbeats 1000000 in
theorem skey_any (p : Nat) (s : ByteArray) (h n : Nat) (w : World) (t : SignAt w p s h n) :
    Calls Tryd.prog 23 #[.pointer (some ⟨p, 0, none⟩)] w fun e w' => e = .returned (keyV (h : Int) (idT s) (rootS s h)) ∧ Below w.heap.size w w' := by
  obtain ⟨g, hg⟩ : ∃ g, g = w.heap.size := ⟨_, rfl⟩
  obtain ⟨W1, hW1⟩ : ∃ W1, W1 = w.alloc (.cells #[.int .i64 0, .string ⟨#[]⟩, .string ⟨#[]⟩] 46) := ⟨_, rfl⟩
  have HB1 : Hid (Below w.heap.size w W1) := Lib.hid (by rw [hW1]; exact belowNew w _)
  have HG1 : Hid (W1.heap[g]? = some (.cells #[.int .i64 0, .string ⟨#[]⟩, .string ⟨#[]⟩] 46 (0, 0))) := Lib.hid (by rw [hW1, hg]; exact heap_alloc_new w _)
  have t1 := t.keep HB1.out
  have HE := Lib.hid (sempty_no t1)
  obtain ⟨_, _, tp, hq, ht⟩ := t1
  have HKY : Hid (∀ W : World, TreeO W tp s h → Calls Tryd.prog 39 #[.pointer (some ⟨tp, 0, none⟩)] W fun e w' => e = .returned (.agg #[.int .i64 (h : Int), .string (idT s), .string (rootS s h)]) ∧ Below W.heap.size W w') := Lib.hid fun W hW => mkey_any tp s h W hW.tree
  obtain ⟨ID, hID⟩ : ∃ ID, ID = idT s := ⟨_, rfl⟩
  obtain ⟨R, hR⟩ : ∃ R, R = rootS s h := ⟨_, rfl⟩
  unfold keyV
  rw [← hID, ← hR] at HKY ⊢
  have HQ := Lib.hid hq
  have HT := Lib.hid ht
  have HW1 := Lib.hid hW1.symm
  have hpl : p < w.heap.size := by obtain ⟨_, _, _, hq0, _⟩ := t; exact (Array.getElem?_eq_some_iff.1 hq0).1
  have hne : ¬ p = g := by omega
  have hne2 : ¬ g = p := by omega
  subst hg
  clear hID hR hW1 hq ht t hpl
  go_enter Tryd.func23, Tryd.ntmps23
  go_wp2_with (first
    | (go_at_call 33; rw [HW1.out]; (with_reducible refine HE.out.mono ?_); rintro e w1 ⟨rfl, hb1⟩; have HB2 := Lib.hid (HB1.out.next hb1); have HT2 := Lib.hid (HT.out.keep hb1); have hq1 := (hb1.block p (Array.getElem?_eq_some_iff.1 HQ.out).1).trans HQ.out; obtain ⟨c0, c1, c2, hp⟩ := tcell hq1; have HG2 := Lib.hid ((hb1.block w.heap.size (Array.getElem?_eq_some_iff.1 HG1.out).1).trans HG1.out); clear hb1 hq1)
    | (go_at_call 39; (with_reducible refine (HKY.out _ HT2.out).mono ?_); rintro e w2 ⟨rfl, hb2⟩; have HB3 := Lib.hid (HB2.out.next hb2); have hg3 := (hb2.block w.heap.size (Array.getElem?_eq_some_iff.1 HG2.out).1).trans HG2.out; obtain ⟨k0, k1, k2, hgl⟩ := tcell hg3; have f0 := Lib.frozen_of_heap hg3 0; have f1 := Lib.frozen_of_heap hg3 1; have f2 := Lib.frozen_of_heap hg3 2; have HG3 := Lib.hid hg3; clear hb2 hg3))
  exact bodyPost_ret (results_cell_row rfl _ _ w.heap.size 46 _ (0, 0) _ rfl (tset3 HG3.out) Tryd.underlying46 rfl keySizeM) rfl ⟨rfl, ((HB3.out.setCell (p := ⟨w.heap.size, 0, none⟩) (Nat.le_refl _) _).setCell (p := ⟨w.heap.size, 1, none⟩) (Nat.le_refl _) _).setCell (p := ⟨w.heap.size, 2, none⟩) (Nat.le_refl _) _⟩
end Go.Proofs.YtphgpakfdhdklaaDoor
namespace Go.Proofs.YtphgpakfdhdklaaDoor
open Go.RowKit

/-- What the cells of a signer are. -/
theorem SignAt.cells {W : World} {p : Nat} {s : ByteArray} {h n : Nat} (t : SignAt W p s h n) : ∃ tp, W.heap[p]? = some (.cells #[.pointer (some ⟨tp, 0, none⟩), .string s, .int .i64 (n : Int)] 55 (0, 0)) ∧ TreeO W tp s h := t.2.2
set_option maxRecDepth 100000 in
set_option maxHeartbeats 1000000 in
theorem ssign_any (p : Nat) (s : ByteArray) (h n : Nat) (m : ByteArray) (w : World) (t : SignAt w p s h n) (hn : n < 2 ^ h) (hm : m.size ≤ 1000000000) (hK : Holds w 0 kWords) :
    Calls Tryd.prog 14 #[.pointer (some ⟨p, 0, none⟩), .string m] w fun e w' => e = .returned (someV (sigT s h n m)) ∧ SignAt w' p s h (n + 1) ∧ But p w w' := by
  have HE := Lib.hid (sempty_no t)
  obtain ⟨hs, h8, hle⟩ := t.fit
  have hp := (pow_small h8).1
  obtain ⟨lf, hlf⟩ : ∃ lf, lf = 2 ^ h - n := ⟨_, rfl⟩
  have HL : Hid (∀ W : World, SignAt W p s h n → Calls Tryd.prog 22 #[.pointer (some ⟨p, 0, none⟩)] W fun e w' => e = .returned (.int .i64 (lf : Int)) ∧ Below W.heap.size W w') := Lib.hid fun W hW => by rw [hlf]; exact sleft_any p s h n W hW
  have d0 : ((lf : Int) == 0) = false := by simp; omega
  have d1 : ¬ (lf : Int) = 0 := by omega
  have d2 : ¬ lf = 0 := by omega
  obtain ⟨X, hX⟩ : ∃ X, X = sigT s h n m := ⟨_, rfl⟩
  have HM : Hid (∀ (tp : Nat) (W : World), TreeO W tp s h → Holds W 0 kWords → Calls Tryd.prog 34 #[.pointer (some ⟨tp, 0, none⟩), .int .i64 (n : Int), .string m] W fun e w' => e = .returned (.tuple #[.string X, .int .i64 0]) ∧ Below W.heap.size W w') := Lib.hid fun tp W hW hk => by
    have := msign_any tp s h (n : Int) m W hW.tree hs hm hk
    rw [signV_ok s h n m hn, ← hX] at this
    exact this
  obtain ⟨n1, hn1⟩ : ∃ n1, n1 = n + 1 := ⟨_, rfl⟩
  have hn1i : (n : Int) + 1 = (n1 : Int) := by omega
  have hn1b : n1 ≤ 256 := by omega
  have HN : Hid (n1 ≤ 2 ^ h) := Lib.hid (by omega)
  have HT := Lib.hid t
  have HK := Lib.hid hK
  unfold someV
  rw [← hX, ← hn1]
  clear hs h8 hle hp hlf hX hn1 hn hm hK t
  go_enter Tryd.func14, Tryd.ntmps14
  go_wp2_with (first
    | (go_at_call 33; (with_reducible refine HE.out.mono ?_); rintro e w1 ⟨rfl, hb1⟩; have HB1 := Lib.hid hb1; have HT1 := Lib.hid (HT.out.keep hb1); clear hb1)
    | (go_at_call 22; (with_reducible refine (HL.out _ HT1.out).mono ?_); rintro e w2 ⟨rfl, hb2⟩; have HB2 := Lib.hid (HB1.out.next hb2); have HT2 := Lib.hid (HT1.out.keep hb2); obtain ⟨tp, hq2, ht2⟩ := HT2.out.cells; obtain ⟨c0, c1, c2, hp⟩ := tcell hq2; have HP := Lib.hid hp; have HTR := Lib.hid ht2; clear hb2 hq2 ht2))
  go_region_held3 (fun w' => w'.cell? ⟨p, 0, none⟩ = some (.pointer (some ⟨tp, 0, none⟩)) ∧ w'.cell? ⟨p, 2, none⟩ = some (.int .i64 (n : Int))) (first | with_reducible exact ⟨by assumption, by assumption⟩ | go_keep)
    (first
      | (go_at_call 34; (with_reducible refine (HM.out _ _ (by first | exact HTR.out | exact HTR.out.keep (Below.refl _ _).drew) (HK.out.old (by first | exact HB2.out | exact HB2.out.drew))).mono ?_); rintro e w3 ⟨rfl, hb3⟩; have hx : Below w2.heap.size w2 w3 := (by first | exact hb3 | exact (Below.refl _ _).drew.trans hb3); have ht3 := HT2.out.keep hx; obtain ⟨_, hq3, _⟩ := ht3.cells; have s0 := (hx.cell (p := ⟨p, 0, none⟩) HP.out).trans c0; have s2 := (hx.cell (p := ⟨p, 2, none⟩) HP.out).trans c2; have f2 := Lib.frozen_of_heap hq3 2; have HB3 := Lib.hid (HB2.out.next hx); have HT3 := Lib.hid ht3; clear hb3 hx ht3 hq3))
  go_wp2_with fail
  go_ret2
  exact ⟨rfl, HT3.out.step HN.out, (But.of HB3.out).next (But.set p 2 _ _)⟩
set_option maxRecDepth 100000 in
set_option maxHeartbeats 1000000 in
theorem ssignx_any (p : Nat) (s : ByteArray) (h n : Nat) (m : ByteArray) (w : World) (t : SignAt w p s h n) (hn : n = 2 ^ h) :
    Calls Tryd.prog 14 #[.pointer (some ⟨p, 0, none⟩), .string m] w fun e w' => e = .returned (.tuple #[.string ⟨#[]⟩, .int .i64 19]) ∧ Below w.heap.size w w' := by
  have HE := Lib.hid (sempty_no t)
  have HL : Hid (∀ W : World, SignAt W p s h n → Calls Tryd.prog 22 #[.pointer (some ⟨p, 0, none⟩)] W fun e w' => e = .returned (.int .i64 0) ∧ Below W.heap.size W w') := Lib.hid fun W hW => by
    have := sleft_any p s h n W hW
    rw [show 2 ^ h - n = 0 by omega] at this
    exact this
  have HT := Lib.hid t
  clear t hn
  go_enter Tryd.func14, Tryd.ntmps14
  go_wp2_with (first
    | (go_at_call 33; (with_reducible refine HE.out.mono ?_); rintro e w1 ⟨rfl, hb1⟩; have HB1 := Lib.hid hb1; have HT1 := Lib.hid (HT.out.keep hb1); clear hb1)
    | (go_at_call 22; (with_reducible refine (HL.out _ HT1.out).mono ?_); rintro e w2 ⟨rfl, hb2⟩; have HB2 := Lib.hid (HB1.out.next hb2); clear hb2))
  go_ret2
  exact ⟨rfl, HB2.out⟩
set_option maxRecDepth 100000 in
set_option maxHeartbeats 1000000 in
theorem sskip_any (p : Nat) (s : ByteArray) (h n : Nat) (m : Int) (w : World) (t : SignAt w p s h n) :
    Calls Tryd.prog 16 #[.pointer (some ⟨p, 0, none⟩), .int .i64 m] w fun e w' => e = .returned (.int .i64 ((min m.toNat (2 ^ h - n) : Nat) : Int)) ∧ SignAt w' p s h (n + min m.toNat (2 ^ h - n)) ∧ But p w w' := by
  have HE := Lib.hid (sempty_no t)
  obtain ⟨hs, h8, hle⟩ := t.fit
  have hp := (pow_small h8).1
  have HT := Lib.hid t
  by_cases h0 : m < 0
  · have d1 : decide (m < 0) = true := by simp; omega
    have e0 : min m.toNat (2 ^ h - n) = 0 := by omega
    rw [e0]
    clear hs h8 hle hp e0 t
    go_enter Tryd.func16, Tryd.ntmps16
    go_wp2_with (go_at_call 33; (with_reducible refine HE.out.mono ?_); rintro e w1 ⟨rfl, hb1⟩; have HB1 := Lib.hid hb1; have HT1 := Lib.hid (HT.out.keep hb1); clear hb1)
    go_ret
    exact ⟨rfl, HT1.out, But.of HB1.out⟩
  · have d1 : decide (m < 0) = false := by simp; omega
    obtain ⟨lf, hlf⟩ : ∃ lf, lf = 2 ^ h - n := ⟨_, rfl⟩
    have HL : Hid (∀ W : World, SignAt W p s h n → Calls Tryd.prog 22 #[.pointer (some ⟨p, 0, none⟩)] W fun e w' => e = .returned (.int .i64 (lf : Int)) ∧ Below W.heap.size W w') := Lib.hid fun W hW => by rw [hlf]; exact sleft_any p s h n W hW
    rw [← hlf]
    obtain ⟨q, hq⟩ : ∃ q, q = min m.toNat lf := ⟨_, rfl⟩
    rw [← hq]
    have hmin : min m (lf : Int) = (q : Int) := by omega
    obtain ⟨n1, hn1⟩ : ∃ n1, n1 = n + q := ⟨_, rfl⟩
    have hn1i : (n : Int) + (q : Int) = (n1 : Int) := by omega
    have hn1b : n1 ≤ 256 := by omega
    have HN : Hid (n1 ≤ 2 ^ h) := Lib.hid (by omega)
    rw [← hn1]
    clear hs h8 hle hp hlf hq hn1 t
    go_enter Tryd.func16, Tryd.ntmps16
    go_wp2_with (first
      | (go_at_call 33; (with_reducible refine HE.out.mono ?_); rintro e w1 ⟨rfl, hb1⟩; have HB1 := Lib.hid hb1; have HT1 := Lib.hid (HT.out.keep hb1); clear hb1)
      | (go_at_call 22; (with_reducible refine (HL.out _ HT1.out).mono ?_); rintro e w2 ⟨rfl, hb2⟩; have HB2 := Lib.hid (HB1.out.next hb2); have HT2 := Lib.hid (HT1.out.keep hb2); obtain ⟨tp, hq2, _⟩ := HT2.out.cells; obtain ⟨c0, c1, c2, hp⟩ := tcell hq2; have f2 := Lib.frozen_of_heap hq2 2; clear hb2 hq2))
    go_ret
    exact ⟨rfl, HT2.out.step HN.out, (But.of HB2.out).next (But.set p 2 _ _)⟩
set_option maxRecDepth 100000 in
set_option maxHeartbeats 1000000 in
theorem sfork_any (p : Nat) (s : ByteArray) (h n : Nat) (w : World) (t : SignAt w p s h n) :
    Calls Tryd.prog 17 #[.pointer (some ⟨p, 0, none⟩)] w fun e w' => (∃ p', w.heap.size ≤ p' ∧ e = .returned (.pointer (some ⟨p', 0, none⟩)) ∧ SignAt w' p' s h n) ∧ Below w.heap.size w w' := by
  have HE := Lib.hid (sempty_no t)
  have HT := Lib.hid t
  clear t
  go_enter Tryd.func17, Tryd.ntmps17
  go_wp2_with (go_at_call 33; (with_reducible refine HE.out.mono ?_); rintro e w1 ⟨rfl, hb1⟩; have HB1 := Lib.hid hb1; have HT1 := Lib.hid (HT.out.keep hb1); obtain ⟨tp, hq1, ht1⟩ := HT1.out.cells; obtain ⟨c0, c1, c2, hp⟩ := tcell hq1; have HTR := Lib.hid ht1; clear hb1 hq1 ht1)
  go_ret
  obtain ⟨hs, _, hle⟩ := HT1.out.fit
  exact ⟨⟨_, HB1.out.size, rfl, hs, hle, tp, heap_alloc_new w1 _, HTR.out.keep (belowNew w1 _)⟩, HB1.out.next (belowNew w1 _)⟩
end Go.Proofs.YtphgpakfdhdklaaDoor
