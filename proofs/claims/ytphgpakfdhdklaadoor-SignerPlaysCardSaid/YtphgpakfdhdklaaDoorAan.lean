/-
  The walk of the law SignerVerifies, over what is wanted of the program's signers.
  What there is no tree at, and what is wanted of the program there.
  How a tree of the program lies; the contracts of its Key and Leaves, and of what a tree that there isn't answers.
  The contracts of strings.Builder's WriteString and String and of strings.Clone at this program: the library's theorems, laid at the program's own numbers. Nothing is claimed of the program beyond its bodies.
-/
import Derived.Test.YtphgpakfdhdklaaDoorAaj
import Derived.Test.YtphgpakfdhdklaaDoorAam
import Derived.Deep.RegionHeld3
import Derived.Test.YtphgpakfdhdklaaDoorAai
import Derived.Test.YtphgpakfdhdklaaDoorAah
import Derived.Shelf.Strings.Builder1
import Derived.Shelf.Strconv.Clone
import Derived.Test.YtphgpakfdhdklaaDoorChecked
namespace Go.Proofs.YtphgpakfdhdklaaDoor
open Go.RowKit

theorem but_blockv {p g : Nat} {w w' : World} {o : Obj} (h : But p w w') (hg : w.heap[g]? = some o) (hne : g ≠ p) : w'.heap[g]? = some o :=
  (h.block g (Array.getElem?_eq_some_iff.1 hg).1 (fun e => hne (Option.some.inj e))).trans hg
theorem Signers.lt {SA : SignP} (hS : Signers SA) {W : World} {p : Nat} {s : ByteArray} {h n : Nat} (t : SA W p s h n) : p < W.heap.size := by
  obtain ⟨cs, fr, e⟩ := hS.typ _ _ _ _ _ t
  exact (Array.getElem?_eq_some_iff.1 e).1
set_option maxRecDepth 100000 in
set_option maxHeartbeats 1000000 in
theorem verv_out {SA : SignP} (hS : Signers SA) (k x : Nat) (m : ByteArray) (hbig : 300 < m.size) (w : World) (hK : Holds w 0 kWords) :
    Calls Tryd.prog 7 #[.int .u8 (k : Int), .int .u8 (x : Int), .string m] w fun e w' => e = .returned (.bool true) ∧ Below w.heap.size w w' := by
  have HAW := Lib.hid (awakev_any hS w hK)
  have d1 : decide ((300 : Int) < (m.size : Int)) = true := by simp; omega
  clear hS hK hbig
  go_enter Tryd.func7, Tryd.ntmps7
  go_wp2_with (go_at_call 25; (with_reducible refine HAW.out.mono ?_); rintro e w1 ⟨rfl, hb1⟩; have HB1 := Lib.hid hb1; clear hb1)
  go_ret
  exact ⟨rfl, HB1.out⟩
set_option maxRecDepth 100000 in
set_option maxHeartbeats 4000000 in
theorem verv_in {SA : SignP} (hS : Signers SA) (k x : Nat) (m : ByteArray) (hk : k < 256) (hm : m.size ≤ 300) (w : World) (hK : Holds w 0 kWords) :
    Calls Tryd.prog 7 #[.int .u8 (k : Int), .int .u8 (x : Int), .string m] w fun e w' => e = .returned (.bool true) ∧ Below w.heap.size w w' := by
  have d1 : decide ((300 : Int) < (m.size : Int)) = false := by simp; omega
  obtain ⟨n, hn⟩ : ∃ n, n = x % 4 := ⟨_, rfl⟩
  have hn4 : n < 4 := by omega
  have hni : (x : Int) % 4 = (n : Int) := by omega
  have hnt : (x : Int).tmod 4 = (n : Int) := by rw [Int.tmod_eq_emod_of_nonneg (by omega)]; exact hni
  obtain ⟨n1, hn1⟩ : ∃ n1, n1 = n + 1 := ⟨_, rfl⟩
  have hn1i : (n : Int) + 1 = (n1 : Int) := by omega
  obtain ⟨S, hSS⟩ : ∃ S, S = seedS k := ⟨_, rfl⟩
  have hSs : S.size = 32 := by rw [hSS]; exact seedS_size k
  obtain ⟨ID, hID⟩ : ∃ ID, ID = idT S := ⟨_, rfl⟩
  obtain ⟨R, hR⟩ : ∃ R, R = rootS S 2 := ⟨_, rfl⟩
  obtain ⟨X, hX⟩ : ∃ X, X = sigT S 2 n m := ⟨_, rfl⟩
  have HSD : Hid (∀ W : World, Calls Tryd.prog 10 #[.int .i64 (k : Int)] W fun e w' => e = .returned (.string S) ∧ Below W.heap.size W w') := Lib.hid fun W => by rw [hSS]; exact seedq_any k (by omega) W
  have HAT : Hid (∀ W : World, Holds W 0 kWords → Calls Tryd.prog 26 #[.string S, .int .i64 2, .int .i64 (n : Int)] W fun e w' => (∃ p, W.heap.size ≤ p ∧ e = .returned (.tuple #[.pointer (some ⟨p, 0, none⟩), .int .i64 0]) ∧ SA w' p S 2 n) ∧ Below W.heap.size W w') := Lib.hid fun W h => hS.at' S 2 n W hSs (by omega) (by omega) h
  have HKY : Hid (∀ (p j : Nat) (W : World), SA W p S 2 j → Calls Tryd.prog 23 #[.pointer (some ⟨p, 0, none⟩)] W fun e w' => e = .returned (.agg #[.int .i64 2, .string ID, .string R]) ∧ Below W.heap.size W w') := Lib.hid fun p j W h => by
    have := hS.key p S 2 j W h
    unfold keyV at this
    rw [← hID, ← hR] at this
    exact this
  have HSG : Hid (∀ (p : Nat) (W : World), SA W p S 2 n → Holds W 0 kWords → Calls Tryd.prog 14 #[.pointer (some ⟨p, 0, none⟩), .string m] W fun e w' => e = .returned (.tuple #[.string X, .int .i64 0]) ∧ SA w' p S 2 n1 ∧ But p W w') := Lib.hid fun p W h k => by
    have := hS.sign p S 2 n m W h (by omega) (by omega) k
    rw [← hX, ← hn1] at this
    exact this
  have HVE : Hid (∀ W : World, Holds W 0 kWords → Calls Tryd.prog 30 #[.agg #[.int .i64 2, .string ID, .string R], .string m, .string X] W fun e w' => e = .returned (.int .i64 0) ∧ Below W.heap.size W w') := Lib.hid fun W k => by
    have h1 := mver_any ((2 : Nat) : Int) ID R m X W (by omega) (by rw [hX, sigT_size]; omega) k
    rw [hID, hR, hX, sigT_ver S 2 n m (by omega) (by omega), ← hX, ← hID, ← hR] at h1
    exact h1
  have HNX : Hid (∀ (p : Nat) (W : World), SA W p S 2 n1 → Calls Tryd.prog 21 #[.pointer (some ⟨p, 0, none⟩)] W fun e w' => e = .returned (.int .i64 (n1 : Int)) ∧ Below W.heap.size W w') := Lib.hid fun p W h => hS.next p S 2 n1 W h
  have HAW := Lib.hid (fun W hk => awakev_any hS W hk)
  have HKP := Lib.hid hS.keep
  have HLT : Hid (∀ (W : World) (p j : Nat), SA W p S 2 j → p < W.heap.size) := Lib.hid fun W p j h => hS.lt h
  have HK := Lib.hid hK
  have hkw : IntKind.i64.wrap (k : Int) = (k : Int) := by rw [wrap_i64]; omega
  have hnw : IntKind.i64.wrap (n : Int) = (n : Int) := by rw [wrap_i64]; omega
  have hnw1 : IntKind.i64.wrap (n1 : Int) = (n1 : Int) := by rw [wrap_i64]; omega
  clear hn hn1 hSS hSs hID hR hX hS hK hm hk
  go_enter Tryd.func7, Tryd.ntmps7
  go_wp2_with (first
    | (go_at_call 10; (with_reducible refine (HSD.out _).mono ?_); rintro e w1 ⟨rfl, hb1⟩; have HB1 := Lib.hid hb1; clear hb1)
    | (go_at_call 26; (with_reducible refine (HAT.out _ (HK.out.old HB1.out)).mono ?_); rintro e w2 ⟨⟨p, hp, rfl, ht⟩, hb2⟩; have HB2 := Lib.hid (HB1.out.next hb2); have HT2 := Lib.hid ht; have HP := Lib.hid (Nat.le_trans HB1.out.size hp); clear hb2 ht hp)
    | (go_at_call 23; (with_reducible refine (HKY.out _ _ _ HT2.out).mono ?_); rintro e w3 ⟨rfl, hb3⟩; have HB3 := Lib.hid (HB2.out.next hb3); have HT3 := Lib.hid (HKP.out _ _ _ _ _ _ HT2.out hb3); clear hb3)
    | (go_at_call 14
       obtain ⟨KB, hKB⟩ : ∃ KB, KB = w3.heap.size := ⟨_, rfl⟩
       obtain ⟨W4, hW4⟩ : ∃ W4, W4 = w3.alloc (.cells #[.int .i64 2, .string ID, .string R] 46) := ⟨_, rfl⟩
       rw [← hW4, ← hKB]
       have HB4 : Hid (Below w.heap.size w W4) := Lib.hid (by rw [hW4]; exact HB3.out.next (belowNew w3 _))
       have HT4 : Hid (SA W4 p S 2 n) := Lib.hid (by rw [hW4]; exact HKP.out _ _ _ _ _ _ HT3.out (belowNew w3 _))
       have HQ4 : Hid (W4.heap[KB]? = some (.cells #[.int .i64 2, .string ID, .string R] 46 (0, 0))) := Lib.hid (by rw [hW4, hKB]; exact heap_alloc_new w3 _)
       have HNE : Hid (KB ≠ p) := Lib.hid (by have := HLT.out _ _ _ HT3.out; omega)
       clear hW4 hKB
       (with_reducible refine (HSG.out _ _ HT4.out (HK.out.old HB4.out)).mono ?_)
       rintro e w5 ⟨rfl, ht, hb5⟩
       have HT5 := Lib.hid ht
       have HB5 := Lib.hid (HB4.out.trans (but_base hb5 HP.out HB4.out.size))
       have HQ5 := Lib.hid (but_blockv hb5 HQ4.out HNE.out)
       clear ht hb5))
  obtain ⟨k0, k1, k2, hkl⟩ := tcell HQ5.out
  have HKL := Lib.hid hkl
  clear hkl
  go_region_held3 (fun w' => w'.cell? ⟨KB, 0, none⟩ = some (.int .i64 2) ∧ w'.cell? ⟨KB, 1, none⟩ = some (.string ID) ∧ w'.cell? ⟨KB, 2, none⟩ = some (.string R)) (first | with_reducible exact ⟨by assumption, by assumption, by assumption⟩ | go_keep)
    (first
      | (go_at_call 25; (with_reducible refine (HAW.out _ (by first | exact HK.out.old HB5.out | exact HK.out.old HB5.out.drew)).mono ?_); rintro e w6 ⟨rfl, hb6⟩; have hx : Below w5.heap.size w5 w6 := (by first | exact hb6 | exact (Below.refl _ _).drew.trans hb6); have s0 := (hx.cell (p := ⟨KB, 0, none⟩) HKL.out).trans k0; have s1 := (hx.cell (p := ⟨KB, 1, none⟩) HKL.out).trans k1; have s2 := (hx.cell (p := ⟨KB, 2, none⟩) HKL.out).trans k2; have HB6 := Lib.hid hx; clear hb6 hx)
      | (go_at_call 30; (with_reducible refine (HVE.out _ (HK.out.old (HB5.out.next HB6.out))).mono ?_); rintro e w7 ⟨rfl, hb7⟩; have hx : Below w5.heap.size w5 w7 := HB6.out.next hb7; have s3 := (hx.cell (p := ⟨KB, 0, none⟩) HKL.out).trans k0; have s4 := (hx.cell (p := ⟨KB, 1, none⟩) HKL.out).trans k1; have s5 := (hx.cell (p := ⟨KB, 2, none⟩) HKL.out).trans k2; have HB7 := Lib.hid hx; clear hb7 hx)
      | (go_at_call 23; (with_reducible refine (HKY.out _ _ _ (HKP.out _ _ _ _ _ _ HT5.out HB7.out)).mono ?_); rintro e w8 ⟨rfl, hb8⟩; have hx : Below w5.heap.size w5 w8 := HB7.out.next hb8; have s6 := (hx.cell (p := ⟨KB, 0, none⟩) HKL.out).trans k0; have s7 := (hx.cell (p := ⟨KB, 1, none⟩) HKL.out).trans k1; have s8 := (hx.cell (p := ⟨KB, 2, none⟩) HKL.out).trans k2; have HB8 := Lib.hid hx; clear hb8 hx)
      | (go_at_call 21; (with_reducible refine (HNX.out _ _ (HKP.out _ _ _ _ _ _ HT5.out HB8.out)).mono ?_); rintro e w9 ⟨rfl, hb9⟩; have hx : Below w5.heap.size w5 w9 := HB8.out.next hb9; have s9 := (hx.cell (p := ⟨KB, 0, none⟩) HKL.out).trans k0; have s10 := (hx.cell (p := ⟨KB, 1, none⟩) HKL.out).trans k1; have s11 := (hx.cell (p := ⟨KB, 2, none⟩) HKL.out).trans k2; have HB9 := Lib.hid hx; clear hb9 hx))
  go_wp2_with fail
  go_ret
  exact ⟨rfl, HB5.out.next HB9.out⟩
theorem vervlaw {SA : SignP} (hS : Signers SA) (k x : Nat) (m : ByteArray) (hk : k < 256) (w : World) (hK : Holds w 0 kWords) :
    Calls Tryd.prog 7 #[.int .u8 (k : Int), .int .u8 (x : Int), .string m] w fun e w' => e = .returned (.bool true) ∧ Below w.heap.size w w' := by
  by_cases hm : 300 < m.size
  · exact verv_out hS k x m hm w hK
  · exact verv_in hS k x m hk (by omega) w hK
end Go.Proofs.YtphgpakfdhdklaaDoor
namespace Go.Proofs.YtphgpakfdhdklaaDoor
open Go.RowKit

/-- The cells of a tree that nothing was written to: as the landed struct has them. -/
def zeroTc : Array Value := #[.int .i64 0, .string ⟨#[]⟩, .string ⟨#[]⟩, .string ⟨#[]⟩, .slice none 0 0]
/-- No tree: the nil pointer, or a pointer to a tree that nothing was written to. -/
def NoTree (W : World) (v : Value) : Prop := v = .pointer none ∨ ∃ p, v = .pointer (some ⟨p, 0, none⟩) ∧ W.heap[p]? = some (.cells zeroTc 84 (0, 0))
theorem NoTree.below {W W' : World} {v : Value} (h : NoTree W v) (hb : Below W.heap.size W W') : NoTree W' v := by
  rcases h with h | ⟨p, h, hp⟩
  · exact .inl h
  · exact .inr ⟨p, h, (hb.block p (Array.getElem?_eq_some_iff.1 hp).1).trans hp⟩
end Go.Proofs.YtphgpakfdhdklaaDoor
namespace Go.Proofs.YtphgpakfdhdklaaDoor
open Go.RowKit

def TreeAt : TreeP := fun W p seed h => h ≤ 8 ∧ ∃ a c, W.heap[p]? = some (.cells #[.int .i64 (h : Int), .string (idT seed), .string (rootS seed h), .string seed, .slice a (h + 1) c] 84 (0, 0)) ∧ h + 1 ≤ c ∧ RowsAt W a (levelsS seed h (h + 1))
theorem TreeAt.keep (W W' : World) (p : Nat) (seed : ByteArray) (h : Nat) (t : TreeAt W p seed h) (hb : Below W.heap.size W W') : TreeAt W' p seed h := by
  obtain ⟨hh, a, c, e, hc, hr⟩ := t
  exact ⟨hh, a, c, (hb.block p (Array.getElem?_eq_some_iff.1 e).1).trans e, hc, hr.below hb⟩
/-- The same, with what types the blocks of the tree's rows have. -/
def TreeO : TreeP := fun W p seed h => h ≤ 8 ∧ ∃ a c B, W.heap[p]? = some (.cells #[.int .i64 (h : Int), .string (idT seed), .string (rootS seed h), .string seed, .slice a (h + 1) c] 84 (0, 0)) ∧ OwnLL W B (.slice a (h + 1) c) (levelsS seed h (h + 1))
theorem TreeO.tree {w : World} {p : Nat} {S : ByteArray} {h : Nat} (t : TreeO w p S h) : TreeAt w p S h := by
  obtain ⟨hh, a, c, B, e, ho⟩ := t
  obtain ⟨a', c', e', hc, hr⟩ := ho.lies
  rw [levelsS_len] at e' hc
  simp only [Value.slice.injEq] at e'
  obtain ⟨rfl, _, rfl⟩ := e'
  exact ⟨hh, a, c, e, hc, hr⟩
theorem TreeO.keep {W W' : World} {p : Nat} {seed : ByteArray} {h : Nat} (t : TreeO W p seed h) (hb : Below W.heap.size W W') : TreeO W' p seed h := by
  obtain ⟨hh, a, c, B, e, ho⟩ := t
  exact ⟨hh, a, c, B, (hb.block p (Array.getElem?_eq_some_iff.1 e).1).trans e, ho.below hb⟩
/-- A row is kept where a block of another type is written. -/
theorem own_aside {w w' : World} {q B : Nat} {e t : TypeId} {k n : Nat} {v : Value} {xs : List Value} {cs : Array Value} {fr : Nat × Nat} (h : w.ownsRow B e k v n xs) (hb : w.grownBy w' (some q)) (hq : w.heap[q]? = some (.cells cs t fr)) (hne : e ≠ t) : w'.ownsRow B e k v n xs := by
  refine World.ownsRow.kept h hb ?_
  rcases h.2 with ⟨hv, _⟩ | ⟨g, cap, cur, hv, _, hg, _⟩
  · exact .inl (by rw [hv]; rfl)
  · refine .inr (fun e1 => ?_)
    rw [hv] at e1
    simp [Value.ownBlock] at e1
    subst e1
    rw [hg] at hq
    simp at hq
    exact hne hq.2.1
theorem OwnLL.aside {w w' : World} {q B : Nat} {t : TypeId} {v : Value} {n : List (List ByteArray)} {cs : Array Value} {fr : Nat × Nat} (h : OwnLL w B v n) (hb : w.grownBy w' (some q)) (hq : w.heap[q]? = some (.cells cs t fr)) (h1 : 9 ≠ t) (h2 : 59 ≠ t) : OwnLL w' B v n := by
  obtain ⟨vs, e1, e2, e3⟩ := h
  exact ⟨vs, e1, own_aside e2 hb hq h2, fun i hi => own_aside (e3 i hi) hb hq h1⟩
theorem TreeO.aside {w w' : World} {p q : Nat} {S : ByteArray} {h : Nat} {t : TypeId} {cs : Array Value} {fr : Nat × Nat} (ht : TreeO w p S h) (hb : w.grownBy w' (some q)) (hq : w.heap[q]? = some (.cells cs t fr)) (h1 : 9 ≠ t) (h2 : 59 ≠ t) (h3 : 84 ≠ t) : TreeO w' p S h := by
  obtain ⟨hh, a, c, B, e, ho⟩ := ht
  refine ⟨hh, a, c, B, ?_, ho.aside hb hq h1 h2⟩
  have hp := (Array.getElem?_eq_some_iff.1 e).1
  refine (hb.block p hp (fun e1 => ?_)).trans e
  simp at e1
  subst e1
  rw [e] at hq
  simp at hq
  exact h3 hq.2.1
theorem TreeAt.open {w : World} {p : Nat} {seed : ByteArray} {h : Nat} (t : TreeAt w p seed h) : ∃ b o c, w.heap[p]? = some (.cells #[.int .i64 (h : Int), .string (idT seed), .string (rootS seed h), .string seed, .slice (some ⟨b, o, none⟩) (h + 1) c] 84 (0, 0)) ∧ h + 1 ≤ c ∧ b < w.heap.size ∧
    ∀ l, l ≤ h → ∃ b' o' c', w.cell? ⟨b, o + l, none⟩ = some (.slice (some ⟨b', o', none⟩) (2 ^ (h - l)) c') ∧ 2 ^ (h - l) ≤ c' ∧ b' < w.heap.size ∧ ∀ i, i < 2 ^ (h - l) → w.cell? ⟨b', o' + i, none⟩ = some (.string (nodeS seed l i)) := by
  obtain ⟨_, a, c, e, hc, hr⟩ := t
  have tv : TreeV w (.agg #[.string seed, .string (idT seed), .slice a (h + 1) c]) seed h := ⟨a, c, rfl, hc, hr⟩
  obtain ⟨b, o, c', e1, h1, h2, h3⟩ := tv.open
  simp at e1
  obtain ⟨rfl, rfl⟩ := e1
  exact ⟨b, o, c, e, hc, h2, h3⟩
theorem cell5 {w : World} {g : Nat} {a b c d e : Value} {t : TypeId} (h : w.heap[g]? = some (.cells #[a, b, c, d, e] t (0, 0))) : w.cell? ⟨g, 0, none⟩ = some a ∧ w.cell? ⟨g, 1, none⟩ = some b ∧ w.cell? ⟨g, 2, none⟩ = some c ∧ w.cell? ⟨g, 3, none⟩ = some d ∧ w.cell? ⟨g, 4, none⟩ = some e ∧ g < w.heap.size :=
  ⟨by rw [cell_of_row w g _ _ _ _ h]; rfl, by rw [cell_of_row w g _ _ _ _ h]; rfl, by rw [cell_of_row w g _ _ _ _ h]; rfl, by rw [cell_of_row w g _ _ _ _ h]; rfl, by rw [cell_of_row w g _ _ _ _ h]; rfl, (Array.getElem?_eq_some_iff.1 h).1⟩

set_option maxRecDepth 100000 in
set_option maxHeartbeats 1000000 in
theorem mempty_no {w : World} {p : Nat} {seed : ByteArray} {h : Nat} (t : TreeAt w p seed h) :
    Calls Tryd.prog 46 #[.pointer (some ⟨p, 0, none⟩)] w fun e w' => e = .returned (.bool false) ∧ Below w.heap.size w w' := by
  obtain ⟨b, o, c, hq, _, _, _⟩ := t.open
  obtain ⟨_, _, _, _, c4, hp⟩ := cell5 hq
  obtain ⟨n, hn⟩ : ∃ n, n = h + 1 := ⟨_, rfl⟩
  rw [← hn] at c4
  have d0 : ((n : Int) == 0) = false := by simp; omega
  have d1 : ¬ (n : Int) = 0 := by omega
  have d2 : ¬ n = 0 := by omega
  clear hq hn t
  go_enter Tryd.func46, Tryd.ntmps46
  go_wp2_with fail
  go_ret
  exact ⟨rfl, Below.refl _ _⟩
set_option maxRecDepth 100000 in
set_option maxHeartbeats 1000000 in
theorem mleavest_any (p : Nat) (seed : ByteArray) (h : Nat) (w : World) (t : TreeAt w p seed h) :
    Calls Tryd.prog 38 #[.pointer (some ⟨p, 0, none⟩)] w fun e w' => e = .returned (.int .i64 ((2 ^ h : Nat) : Int)) ∧ Below w.heap.size w w' := by
  obtain ⟨ID, hID⟩ : ∃ ID, ID = idT seed := ⟨_, rfl⟩
  obtain ⟨R, hR⟩ : ∃ R, R = rootS seed h := ⟨_, rfl⟩
  have HE := Lib.hid (mempty_no t)
  have HL : Hid (∀ W : World, Calls Tryd.prog 55 #[.agg #[.int .i64 (h : Int), .string ID, .string R]] W fun e w' => e = .returned (.int .i64 ((2 ^ h : Nat) : Int)) ∧ Below W.heap.size W w') := Lib.hid fun W => mleaves_any h t.1 ID R W
  obtain ⟨b, o, c, hq, _, _, _⟩ := t.open
  rw [← hID, ← hR] at hq
  obtain ⟨N, hN⟩ : ∃ N, N = 2 ^ h := ⟨_, rfl⟩
  rw [← hN] at HL ⊢
  have HQ := Lib.hid hq
  clear hq hID hR hN t
  go_enter Tryd.func38, Tryd.ntmps38
  go_wp2_with (first
    | (go_at_call 46; (with_reducible refine HE.out.mono ?_); rintro e w1 ⟨rfl, hb1⟩; have HB1 := Lib.hid hb1; have hq1 := (hb1.block p (Array.getElem?_eq_some_iff.1 HQ.out).1).trans HQ.out; obtain ⟨c0, c1, c2, c3, c4, hp⟩ := cell5 hq1; clear hb1 hq1)
    | (go_at_call 55; (with_reducible refine (HL.out _).mono ?_); rintro e w2 ⟨rfl, hb2⟩; have HB2 := Lib.hid (HB1.out.next hb2); clear hb2))
  go_ret
  exact ⟨rfl, HB2.out⟩
set_option maxRecDepth 100000 in
set_option maxHeartbeats 1000000 in
theorem mkey_any (p : Nat) (seed : ByteArray) (h : Nat) (w : World) (t : TreeAt w p seed h) :
    Calls Tryd.prog 39 #[.pointer (some ⟨p, 0, none⟩)] w fun e w' => e = .returned (keyV (h : Int) (idT seed) (rootS seed h)) ∧ Below w.heap.size w w' := by
  obtain ⟨g, hg⟩ : ∃ g, g = w.heap.size := ⟨_, rfl⟩
  obtain ⟨W1, hW1⟩ : ∃ W1, W1 = w.alloc (.cells #[.int .i64 0, .string ⟨#[]⟩, .string ⟨#[]⟩] 46) := ⟨_, rfl⟩
  have HB1 : Hid (Below w.heap.size w W1) := Lib.hid (by rw [hW1]; exact belowNew w _)
  have HG1 : Hid (W1.heap[g]? = some (.cells #[.int .i64 0, .string ⟨#[]⟩, .string ⟨#[]⟩] 46 (0, 0))) := Lib.hid (by rw [hW1, hg]; exact heap_alloc_new w _)
  have t1 := TreeAt.keep w W1 p seed h t HB1.out
  have HE := Lib.hid (mempty_no t1)
  obtain ⟨b, o, c, hq, _, _, _⟩ := t1.open
  obtain ⟨_, _, _, hq0, _, _, _⟩ := t.open
  have hpl : p < w.heap.size := (Array.getElem?_eq_some_iff.1 hq0).1
  obtain ⟨ID, hID⟩ : ∃ ID, ID = idT seed := ⟨_, rfl⟩
  obtain ⟨R, hR⟩ : ∃ R, R = rootS seed h := ⟨_, rfl⟩
  unfold keyV
  rw [← hID, ← hR] at hq ⊢
  have HQ := Lib.hid hq
  have HW1 := Lib.hid hW1.symm
  have hne : ¬ p = g := by omega
  have hne2 : ¬ g = p := by omega
  subst hg
  clear hq hID hR t t1 hW1 hq0 hpl
  go_enter Tryd.func39, Tryd.ntmps39
  go_wp2_with (go_at_call 46; rw [HW1.out]; (with_reducible refine HE.out.mono ?_); rintro e w1 ⟨rfl, hb1⟩; have HB2 := Lib.hid (HB1.out.next hb1); have hq1 := (hb1.block p (Array.getElem?_eq_some_iff.1 HQ.out).1).trans HQ.out; obtain ⟨c0, c1, c2, c3, c4, hp⟩ := cell5 hq1; have hg1 := (hb1.block w.heap.size (Array.getElem?_eq_some_iff.1 HG1.out).1).trans HG1.out; obtain ⟨k0, k1, k2, hgl⟩ := tcell hg1; have f0 := Lib.frozen_of_heap hg1 0; have f1 := Lib.frozen_of_heap hg1 1; have f2 := Lib.frozen_of_heap hg1 2; have HG2 := Lib.hid hg1; clear hb1 hq1 hg1)
  exact bodyPost_ret (results_cell_row rfl _ _ w.heap.size 46 _ (0, 0) _ rfl (tset3 HG2.out) Tryd.underlying46 rfl keySizeM) rfl ⟨rfl, ((HB2.out.setCell (p := ⟨w.heap.size, 0, none⟩) (Nat.le_refl _) _).setCell (p := ⟨w.heap.size, 1, none⟩) (Nat.le_refl _) _).setCell (p := ⟨w.heap.size, 2, none⟩) (Nat.le_refl _) _⟩

end Go.Proofs.YtphgpakfdhdklaaDoor
namespace Go.Proofs.YtphgpakfdhdklaaDoor
open Go.Shelf Go.RowKit

def renS : Go.Shelf.Ren := ⟨fun | 166 => 71 | 169 => 72 | 240 => 82 | 276 => 87 | n => n, fun | 0 => 0 | 3 => 3 | 4 => 4 | 5 => 5 | 9 => 9 | 20 => 20 | 37 => 36 | 70 => 103 | 72 => 105 | 75 => 107 | 80 => 41 | 127 => 111 | 164 => 120 | n => n, fun | n => n⟩
theorem lays166m : Go.Proofs.Lays.n166 Tryd.prog renS := {
  mixed := by kernel_rfl
  f166 := Tryd.func71.trans (congrArg some (by kernel_rfl))
  f240 := Tryd.func82.trans (congrArg some (by kernel_rfl))
  f276 := Tryd.func87.trans (congrArg some (by kernel_rfl))
  t0 := Tryd.underlying0
  a0 := Tryd.isAgg0
  z0 := Tryd.sizeOf0
  v0 := Tryd.zeroValue0
  t3 := Tryd.underlying3
  a3 := Tryd.isAgg3
  z3 := Tryd.sizeOf3
  v3 := Tryd.zeroValue3
  t4 := Tryd.underlying4
  a4 := Tryd.isAgg4
  z4 := Tryd.sizeOf4
  v4 := Tryd.zeroValue4
  t9 := Tryd.underlying9
  a9 := Tryd.isAgg9
  z9 := Tryd.sizeOf9
  v9 := Tryd.zeroValue9
  t20 := Tryd.underlying20
  a20 := Tryd.isAgg20
  z20 := Tryd.sizeOf20
  v20 := Tryd.zeroValue20
  t37 := Tryd.underlying36
  a37 := Tryd.isAgg36
  z37 := Tryd.sizeOf36
  v37 := Tryd.zeroValue36
  t70 := Tryd.underlying103
  a70 := Tryd.isAgg103
  z70 := Tryd.sizeOf103
  v70 := Tryd.zeroValue103
  t72 := Tryd.underlying105
  a72 := Tryd.isAgg105
  z72 := Tryd.sizeOf105
  v72 := Tryd.zeroValue105
  t75 := Tryd.underlying107
  a75 := Tryd.isAgg107
  z75 := Tryd.sizeOf107
  v75 := Tryd.zeroValue107
  t164 := Tryd.underlying120
  a164 := Tryd.isAgg120
  z164 := Tryd.sizeOf120
  v164 := Tryd.zeroValue120 }
theorem lays169m : Go.Proofs.Lays.n169 Tryd.prog renS := {
  mixed := by kernel_rfl
  f169 := Tryd.func72.trans (congrArg some (by kernel_rfl))
  t0 := Tryd.underlying0
  a0 := Tryd.isAgg0
  z0 := Tryd.sizeOf0
  v0 := Tryd.zeroValue0
  t3 := Tryd.underlying3
  a3 := Tryd.isAgg3
  z3 := Tryd.sizeOf3
  v3 := Tryd.zeroValue3
  t9 := Tryd.underlying9
  a9 := Tryd.isAgg9
  z9 := Tryd.sizeOf9
  v9 := Tryd.zeroValue9
  t37 := Tryd.underlying36
  a37 := Tryd.isAgg36
  z37 := Tryd.sizeOf36
  v37 := Tryd.zeroValue36
  t70 := Tryd.underlying103
  a70 := Tryd.isAgg103
  z70 := Tryd.sizeOf103
  v70 := Tryd.zeroValue103
  t72 := Tryd.underlying105
  a72 := Tryd.isAgg105
  z72 := Tryd.sizeOf105
  v72 := Tryd.zeroValue105
  t127 := Tryd.underlying111
  a127 := Tryd.isAgg111
  z127 := Tryd.sizeOf111
  v127 := Tryd.zeroValue111 }
theorem builderS : Go.Proofs.Builder.Extra Tryd.prog renS := {
  sizeBuilder := by kernel_rfl
  liesBuilder := by kernel_rfl
  t5 := Tryd.underlying5
  a5 := Tryd.isAgg5
  z5 := Tryd.sizeOf5
  v5 := Tryd.zeroValue5
  infoByte := by kernel_rfl
  cellsByte := by kernel_rfl
  sizeByte := by kernel_rfl
  neB5 := by decide }
def lays316m_ren : Go.Shelf.Ren := ⟨fun | 316 => 60 | n => n, fun | 0 => 0 | 3 => 3 | 4 => 4 | 5 => 5 | 9 => 9 | 37 => 36 | 127 => 111 | n => n, fun | n => n⟩
theorem lays316m : Go.Proofs.LaysM.n316 Tryd.prog lays316m_ren := {
  mixed := by kernel_rfl
  f316 := Tryd.func60.trans (congrArg some (by kernel_rfl))
  t0 := Tryd.underlying0
  a0 := Tryd.isAgg0
  z0 := Tryd.sizeOf0
  v0 := Tryd.zeroValue0
  t3 := Tryd.underlying3
  a3 := Tryd.isAgg3
  z3 := Tryd.sizeOf3
  v3 := Tryd.zeroValue3
  t4 := Tryd.underlying4
  a4 := Tryd.isAgg4
  z4 := Tryd.sizeOf4
  v4 := Tryd.zeroValue4
  t9 := Tryd.underlying9
  a9 := Tryd.isAgg9
  z9 := Tryd.sizeOf9
  v9 := Tryd.zeroValue9
  t37 := Tryd.underlying36
  a37 := Tryd.isAgg36
  z37 := Tryd.sizeOf36
  v37 := Tryd.zeroValue36
  t127 := Tryd.underlying111
  a127 := Tryd.isAgg111
  z127 := Tryd.sizeOf111
  v127 := Tryd.zeroValue111
  t5 := Tryd.underlying5
  a5 := Tryd.isAgg5
  z5 := Tryd.sizeOf5
  v5 := Tryd.zeroValue5
  i0 := by kernel_rfl
  i3 := by kernel_rfl
  i4 := by kernel_rfl
  i5 := by kernel_rfl
  i9 := by kernel_rfl
  i37 := by kernel_rfl
  i127 := by kernel_rfl }

/-- A strings.Builder of the call's own in block b, that holds the bytes l. -/
def BldS (B b : Nat) (l : List UInt8) (w : World) : Prop := Lib.IsBuilder 105 5 B b (Lib.byteCells l) w
theorem byteCells_app (l m : List UInt8) : Lib.byteCells (l ++ m) = Lib.byteCells l ++ Lib.byteCells m := by simp [Lib.byteCells]
theorem byteCells_len (l : List UInt8) : (Lib.byteCells l).length = l.length := by simp [Lib.byteCells]
theorem writeString_s (B b : Nat) (l : List UInt8) (s : ByteArray) (w : World) (h : BldS B b l w) (hlen : l.length + s.size ≤ 140737488355328) (hBw : B ≤ w.heap.size) :
    Calls Tryd.prog 71 #[.pointer (some ⟨b, 0, none⟩), .string s] w fun e w' => e = .returned (.tuple #[.int .i64 s.size, .nilIface]) ∧ BldS B b (l ++ s.data.toList) w' ∧ Below B w w' := by
  refine (Any.Builder_WriteString lays166m builderS B b (Lib.byteCells l) s w h (by rw [byteCells_len]; exact hlen) hBw).mono fun _ _ h => ⟨h.1, .inr ?_, h.2.2⟩
  rw [byteCells_app]
  exact h.2.1
theorem string_s (B b : Nat) (l : List UInt8) (w : World) (h : BldS B b l w) (hBw : B ≤ w.heap.size) :
    Calls Tryd.prog 72 #[.pointer (some ⟨b, 0, none⟩)] w fun e w' => e = .returned (.string ⟨l.toArray⟩) ∧ Below B w w' :=
  Any.Builder_String_any lays169m builderS B b l w h hBw
/-- A builder that nothing was written to. -/
theorem bldS_new (w : World) : BldS w.heap.size w.heap.size [] (w.alloc (.cells #[.pointer none, .slice none 0 0] 105)) := Lib.fresh_isBuilder _ _ w
set_option maxRecDepth 100000 in
theorem clone_s (s : ByteArray) (hs : s.size ≤ 1000000000) (w : World) :
    Calls Tryd.prog 41 #[.string s] w fun e w' => e = .returned (.string s) ∧ Below w.heap.size w w' := by
  have HC : Hid (∀ W : World, Calls Tryd.prog 60 #[.string s] W fun e w' => e = .returned (.string s) ∧ Below W.heap.size W w') := Lib.hid fun W => Any.stringslite_Clone lays316m s W (by omega)
  clear hs
  go_enter Tryd.func41, Tryd.ntmps41
  go_wp2_with (go_at_call 60; (with_reducible refine (HC.out _).mono ?_); rintro e w1 ⟨rfl, hb1⟩; have HB1 := Lib.hid hb1; clear hb1)
  go_ret
  exact ⟨rfl, HB1.out⟩
end Go.Proofs.YtphgpakfdhdklaaDoor
