/-
  The contract of the reference's Generate.
-/
import Derived.Test.YtphgpakfdhdklaaDoorAaf
import Derived.Deep.RegionLaw
namespace Go.Proofs.YtphgpakfdhdklaaDoor
open Go.RowKit

theorem rowInfo : (Tryd.prog.info? 59).map (fun i => (i.zero, i.size, i.bytes)) = some (some (.slice none 0 0), 1, 24) := by kernel_rfl
theorem tcell {w : World} {g : Nat} {a b c : Value} {t : TypeId} (h : w.heap[g]? = some (.cells #[a, b, c] t (0, 0))) : w.cell? ⟨g, 0, none⟩ = some a ∧ w.cell? ⟨g, 1, none⟩ = some b ∧ w.cell? ⟨g, 2, none⟩ = some c ∧ g < w.heap.size :=
  ⟨by rw [cell_of_row w g _ _ _ _ h]; rfl, by rw [cell_of_row w g _ _ _ _ h]; rfl, by rw [cell_of_row w g _ _ _ _ h]; rfl, (Array.getElem?_eq_some_iff.1 h).1⟩
theorem tset2 {w : World} {g : Nat} {a b c x : Value} {t : TypeId} (h : w.heap[g]? = some (.cells #[a, b, c] t (0, 0))) : (w.setCell ⟨g, 2, none⟩ x).heap[g]? = some (.cells #[a, b, x] t (0, 0)) := by
  simp [World.setCell, Array.getElem?_modify, h]
theorem rjoin_any (id x y : ByteArray) (l i : Nat) (hi : id.size ≤ 1000) (hx : x.size ≤ 1000) (hy : y.size ≤ 1000) (V : Value) (w : World) (hV : Reads_z w V [⟨#[78]⟩, id, strOf (b1 l), strOf (b4 i), x, y]) :
    Calls Tryd.prog 36 #[V] w fun e w' => e = .returned (.string (joinQ hQ id.data.toList l i x y)) ∧ Below w.heap.size w w' := by
  rw [← join_eq]
  exact refshort_any V _ w hV (show (6 : Nat) < 4611686018427387904 by decide) (join_room hi hx hy l i)
theorem cat_id (seed : ByteArray) : cat_z [⟨#[73]⟩, seed] = 73 :: seed.data.toList := by simp [cat_z]
theorem rid_any (seed : ByteArray) (hs : seed.size ≤ 1000) (V : Value) (w : World) (hV : Reads_z w V [⟨#[73]⟩, seed]) :
    Calls Tryd.prog 36 #[V] w fun e w' => e = .returned (.string (idT seed)) ∧ Below w.heap.size w w' := by
  have h := refshort_any V _ w hV (show (2 : Nat) < 4611686018427387904 by decide) (by rw [cat_id, List.length_cons]; show seed.size + 1 ≤ _; omega)
  rw [cat_id] at h
  exact h
theorem pow_small {h : Nat} (hh : h ≤ 8) : 2 ^ h ≤ 256 ∧ 1 ≤ 2 ^ h := ⟨Nat.pow_le_pow_right (n := 2) (by omega) hh, Nat.one_le_two_pow⟩

theorem own_low {w : World} {B T j : Nat} {e : TypeId} {k n : Nat} {v x : Value} {xs : List Value} (h : w.ownsRow B e k v n xs) (hT : T < B) : (w.setCell ⟨T, j, none⟩ x).ownsRow B e k v n xs :=
  World.ownsRow.kept h (grown_setCell w T j x) (.inr (fun e1 => by have := (World.ownsRow.lt h T e1).1; omega))
theorem OwnL.low {w : World} {B T j : Nat} {v x : Value} {ss : List ByteArray} (h : OwnL w B v ss) (hT : T < B) : OwnL (w.setCell ⟨T, j, none⟩ x) B v ss := own_low h hT
theorem OwnLL.low {w : World} {B T j : Nat} {v x : Value} {n : List (List ByteArray)} (h : OwnLL w B v n) (hT : T < B) : OwnLL (w.setCell ⟨T, j, none⟩ x) B v n := by
  obtain ⟨vs, h1, h2, h3⟩ := h
  exact ⟨vs, h1, own_low h2 hT, fun i hi => (h3 i hi).low hT⟩
theorem OwnL.base {w : World} {B B' : Nat} {v : Value} {ss : List ByteArray} (h : OwnL w B v ss) (hB : B' ≤ B) : OwnL w B' v ss := by
  refine ⟨h.1, ?_⟩
  rcases h.2 with h0 | ⟨g, cap, cur, hv, hg, r⟩
  · exact .inl h0
  · exact .inr ⟨g, cap, cur, hv, Nat.le_trans hB hg, r⟩
theorem range_next (seed : ByteArray) (l k : Nat) : (List.range (k + 1)).map (nodeS seed l) = (List.range k).map (nodeS seed l) ++ [nodeS seed l k] := by
  rw [List.range_succ, List.map_append]; rfl
theorem ones_row (u : Value) (h : u.oneCell' = true) : ∀ x ∈ [u], x.oneCell' = true := by
  intro x hx
  rw [List.mem_singleton.1 hx]
  exact h
theorem OwnLL.base {w : World} {B B' : Nat} {v : Value} {n : List (List ByteArray)} (h : OwnLL w B v n) (hB : B' ≤ B) : OwnLL w B' v n := by
  obtain ⟨vs, h1, h2, h3⟩ := h
  refine ⟨vs, h1, ⟨h2.1, ?_⟩, fun i hi => (h3 i hi).base hB⟩
  rcases h2.2 with h0 | ⟨g, cap, cur, hv, hg, r⟩
  · exact .inl h0
  · exact .inr ⟨g, cap, cur, hv, Nat.le_trans hB hg, r⟩
theorem own_slice {w : World} {B : Nat} {e : TypeId} {k n : Nat} {v : Value} {xs : List Value} (h : w.ownsRow B e k v n xs) : ∃ a c, v = .slice a n c := by
  rcases h.2 with ⟨hv, h0⟩ | ⟨g, cap, cur, hv, _⟩
  · exact ⟨none, 0, by rw [hv, h0]⟩
  · exact ⟨_, cap, hv⟩
theorem tset3 {w : World} {g : Nat} {a b c x y z : Value} {t : TypeId} (h : w.heap[g]? = some (.cells #[a, b, c] t (0, 0))) : (((w.setCell ⟨g, 0, none⟩ x).setCell ⟨g, 1, none⟩ y).setCell ⟨g, 2, none⟩ z).heap[g]? = some (.cells #[x, y, z] t (0, 0)) := by
  simp [World.setCell, Array.getElem?_modify, h]
theorem treeSize : (Tryd.prog.info? 25).map (·.size) = some 3 := by kernel_rfl
theorem strs_at {w : World} {a : Option Addr} {ss : List ByteArray} (h : StrsAt w a ss) (hn : ss ≠ []) : ∃ b o, a = some ⟨b, o, none⟩ ∧ b < w.heap.size ∧ ∀ i, i < ss.length → w.cell? ⟨b, o + i, none⟩ = some (.string (ss.getD i ByteArray.empty)) := by
  rcases h with h | h
  · exact absurd h hn
  · exact h
theorem keep_low {w6 w7 : World} {B2 : Nat} {u : Value} {D : List ByteArray} (hV : OwnL w6 B2 u D) (X : Obj) (hgr : (w6.alloc X).grownBy w7 u.ownBlock) {p : Addr} {x : Value} (hp : p.block < B2) (hc : w6.cell? p = some x) : w7.cell? p = some x :=
  hgr.cell (((belowNew w6 X).cell (block_lt_of_cell hc)).trans hc) (fun e => by have := (World.ownsRow.lt hV p.block e.symm).1; omega)
theorem ownl_next {wx w6 w7 : World} {B2 : Nat} {u u' : Value} {D : List ByteArray} {z : ByteArray} {X : Obj} (hB : B2 = wx.heap.size) (hV : OwnL w6 B2 u D) (hb : Below wx.heap.size wx w6)
    (hown : w7.ownsRow B2 9 1 u' (D.length + 1) (D.map Value.string ++ [.string z])) (hgr : (w6.alloc X).grownBy w7 u.ownBlock) : OwnL w7 B2 u' (D ++ [z]) ∧ Below wx.heap.size wx w7 := by
  subst hB
  exact ownl_round hV hb (Nat.le_refl _) hown hgr
/-- A row more in the tree's variable. -/
theorem tree_more {w1 wr w5 : World} {T B : Nat} {seed ID : ByteArray} {V V' u : Value} {D : List (List ByteArray)} {r : List ByteArray} {vs : List Value} {X : Obj}
    (hq : wr.heap[T]? = some (.cells #[.string seed, .string ID, V] 25 (0, 0))) (hT : T < B) (h1T : w1.heap.size ≤ T) (hB : B ≤ wr.heap.size)
    (h1 : vs.length = D.length) (h2 : wr.ownsRow B 59 1 V D.length vs) (h3 : ∀ i, i < D.length → OwnL wr B (vs.getD i (.slice none 0 0)) (D.getD i [])) (hu : OwnL wr B u r) (hb : Below w1.heap.size w1 wr)
    (hown : w5.ownsRow B 59 1 V' (D.length + 1) (vs ++ [u])) (hgr : (wr.alloc X).grownBy w5 V.ownBlock) :
    w5.heap[T]? = some (.cells #[.string seed, .string ID, V] 25 (0, 0)) ∧ (w5.setCell ⟨T, 2, none⟩ V').heap[T]? = some (.cells #[.string seed, .string ID, V'] 25 (0, 0)) ∧
      OwnLL (w5.setCell ⟨T, 2, none⟩ V') B V' (D ++ [r]) ∧ OwnL (w5.setCell ⟨T, 2, none⟩ V') B u r ∧ Below w1.heap.size w1 (w5.setCell ⟨T, 2, none⟩ V') ∧ wr.heap.size ≤ w5.heap.size := by
  have hTr : T < wr.heap.size := by omega
  have hne : V.ownBlock = none ∨ V.ownBlock ≠ some T := .inr (fun e => by have := (World.ownsRow.lt h2 T e).1; omega)
  have hTT : (wr.alloc X).heap[T]? = some (.cells #[.string seed, .string ID, V] 25 (0, 0)) := ((belowNew wr X).block T hTr).trans hq
  have h5T : w5.heap[T]? = some (.cells #[.string seed, .string ID, V] 25 (0, 0)) := by
    rw [← hTT]
    refine hgr.block T (by simp; omega) (fun e => ?_)
    rcases hne with h | h
    · rw [h] at e; cases e
    · exact h e.symm
  have hA : ∀ i, i < D.length → OwnL (wr.alloc X) B (vs.getD i (.slice none 0 0)) (D.getD i []) := fun i hi => (h3 i hi).below (belowNew wr X)
  have hll : OwnLL w5 B V' (D ++ [r]) := OwnLL.snoc h1 (ownl_below h2 (belowNew wr X)) hA (hu.below (belowNew wr X)) hgr hown
  have hu5 : OwnL w5 B u r := (hu.below (belowNew wr X)).kept (ownl_below h2 (belowNew wr X)) hgr
  have hb5 : Below w1.heap.size w1 w5 := (hb.alloc hb.size X).grown hgr (by simp; have := hb.size; omega) (fun k e => by have := (World.ownsRow.lt h2 k e).1; omega)
  have hsz := hgr.size
  simp at hsz
  exact ⟨h5T, tset2 h5T, hll.low hT, hu5.low hT, hb5.setCell (p := ⟨T, 2, none⟩) h1T _, by omega⟩

set_option maxRecDepth 100000 in
set_option maxHeartbeats 4000000 in
theorem rgen_ok (seed : ByteArray) (h : Nat) (hs : seed.size = 32) (hh : h ≤ 8) (w : World) :
    Calls Tryd.prog 27 #[.string seed, .int .i64 (h : Int)] w fun e w' => (∃ V, e = .returned (.tuple #[.agg #[.string seed, .string (idT seed), V], .int .i64 0]) ∧ OwnLL w' w.heap.size V (levelsS seed h (h + 1))) ∧ Below w.heap.size w w' := by
  obtain ⟨i0, hi, hz0, hz1, hz2⟩ := info_parts strInfo
  obtain ⟨r0, hr, hy0, hy1, hy2⟩ := info_parts rowInfo
  obtain ⟨n, hn⟩ : ∃ n : Nat, n = 2 ^ h := ⟨_, rfl⟩
  have hn1 : n ≤ 256 ∧ 1 ≤ n := by rw [hn]; exact pow_small hh
  have hsh : wrap64 (2 ^ h) = (n : Int) := by
    rw [hn]
    have : ((2 : Int) ^ h) = ((2 ^ h : Nat) : Int) := by norm_cast
    rw [this]
    have h1 := (pow_small hh).1
    generalize 2 ^ h = m at h1
    unfold wrap64
    omega
  obtain ⟨ID, hID⟩ : ∃ ID, ID = idT seed := ⟨_, rfl⟩
  have hIDs : ID.size = 16 := by rw [hID]; exact idT_size seed
  have HSH : Hid (∀ (V : Value) (W : World), Reads_z W V [⟨#[73]⟩, seed] → Calls Tryd.prog 36 #[V] W fun e w' => e = .returned (.string ID) ∧ Below W.heap.size W w') := Lib.hid fun V W hV => by rw [hID]; exact rid_any seed (by omega) V W hV
  have HPB : Hid (∀ (k : Nat) (W : World), k < 256 → Calls Tryd.prog 42 #[.string ID, .string seed, .int .i64 (k : Int)] W fun e w' => e = .returned (.tuple #[.string (nodeS seed 0 k), .int .i64 0]) ∧ Below W.heap.size W w') := Lib.hid fun k W hk => by
    have h1 := rpub_any ID seed (k : Int) W
    have h2 : chkQ ID seed (k : Int) = 0 := by unfold chkQ; rw [if_pos ⟨hIDs, hs⟩, if_pos (by omega)]
    unfold pubV at h1
    rw [if_pos h2] at h1
    rw [hID] at h1 ⊢
    exact h1
  have HJN : Hid (∀ (l i : Nat) (x y : ByteArray) (V : Value) (W : World), x.size ≤ 1000 → y.size ≤ 1000 → Reads_z W V [⟨#[78]⟩, ID, strOf (b1 l), strOf (b4 i), x, y] → Calls Tryd.prog 36 #[V] W fun e w' => e = .returned (.string (joinQ hQ (idT seed).data.toList l i x y)) ∧ Below W.heap.size W w') := Lib.hid fun l i x y V W hx hy hV => by
    rw [← hID]
    exact rjoin_any ID x y l i (by omega) hx hy V W hV
  have hsi : (seed.size : Int) = 32 := by rw [hs]; rfl
  have d0 : decide ((h : Int) < 0) = false := by simp
  have d1 : decide ((8 : Int) < (h : Int)) = false := by simp; omega
  obtain ⟨W2, hW2⟩ : ∃ W2, W2 = (w.alloc (.cells #[.string ⟨#[]⟩, .string ⟨#[]⟩, .slice none 0 0] 25)).alloc (.cells #[.string ⟨#[73]⟩, .string seed] 9) := ⟨_, rfl⟩
  have HR2 : Hid (Reads_z W2 (.slice (some ⟨w.heap.size + 1, 0, none⟩) 2 2) [⟨#[73]⟩, seed]) := Lib.hid (by
    have h := reads_row (w.alloc (.cells #[.string ⟨#[]⟩, .string ⟨#[]⟩, .slice none 0 0] 25)) [⟨#[73]⟩, seed] 9
    rw [show (w.alloc (.cells #[.string ⟨#[]⟩, .string ⟨#[]⟩, .slice none 0 0] 25)).heap.size = w.heap.size + 1 by simp] at h
    rw [hW2]
    exact h)
  have HB2 : Hid (Below w.heap.size w W2) := Lib.hid (by rw [hW2]; exact (belowNew w _).next (belowNew _ _))
  have HQ2 : Hid (W2.heap[w.heap.size]? = some (.cells #[.string ⟨#[]⟩, .string ⟨#[]⟩, .slice none 0 0] 25 (0, 0))) := Lib.hid (by rw [hW2]; exact ((belowNew _ _).block w.heap.size (by simp)).trans (heap_alloc_new w _))
  have HW2 := Lib.hid hW2.symm
  have HN := Lib.hid hn
  have HS := Lib.hid hs
  have HH := Lib.hid hh
  have HID := Lib.hid hID
  rw [← hID]
  clear hs hW2 hn hID
  go_enter Tryd.func27, Tryd.ntmps27
  go_wp2_with (go_at_call 36; rw [HW2.out]; (with_reducible refine (HSH.out _ _ HR2.out).mono ?_); rintro e w1 ⟨rfl, hb1⟩; have HB1 := Lib.hid (HB2.out.next hb1); have HQ1 := Lib.hid ((hb1.block w.heap.size (Array.getElem?_eq_some_iff.1 HQ2.out).1).trans HQ2.out); clear hb1)
  obtain ⟨T, hT⟩ : ∃ T, T = w1.heap.size := ⟨_, rfl⟩
  obtain ⟨W3, hW3⟩ : ∃ W3, W3 = w1.alloc (.cells #[.string seed, .string ID, .slice none 0 0] 25) := ⟨_, rfl⟩
  rw [← hW3, ← hT]
  have hq3 : W3.heap[T]? = some (.cells #[.string seed, .string ID, .slice none 0 0] 25 (0, 0)) := by rw [hW3, hT]; exact heap_alloc_new w1 _
  have HQ3 := Lib.hid hq3
  have HB3 : Hid (Below w1.heap.size w1 W3) := Lib.hid (by rw [hW3]; exact belowNew w1 _)
  have HT := Lib.hid hT
  have HZ3 : Hid (W3.heap.size = T + 1) := Lib.hid (by rw [hW3, hT]; simp)
  clear hW3 hT hq3
  go_loopw [7, 8] (fun u i wr => ∃ k : Nat, k ≤ n ∧ i = .int .i64 (k : Int) ∧ OwnL wr W3.heap.size u ((List.range k).map (nodeS seed 0)) ∧ Below W3.heap.size W3 wr) (fun _ i _ => n - (intOf i).toNat)
  case atStart => exact ⟨0, Nat.zero_le _, rfl, OwnL.nil _ _, Below.refl _ _⟩
  case round =>
    obtain ⟨k, hk, rfl, hu, hb⟩ := hrel
    have HU := Lib.hid hu
    have HB := Lib.hid hb
    have hq := (hb.block T (by have := HZ3.out; omega)).trans HQ3.out
    obtain ⟨c0, c1, c2, hTl⟩ := tcell hq
    have HQ := Lib.hid hq
    clear hu hb hq
    by_cases hlt : k < n
    · have hd : decide ((k : Int) < (n : Int)) = true := by simp; omega
      obtain ⟨D, hD⟩ : ∃ D, D = (List.range k).map (nodeS seed 0) := ⟨_, rfl⟩
      have HDN : Hid ((List.range (k + 1)).map (nodeS seed 0) = D ++ [nodeS seed 0 k]) := Lib.hid (by rw [range_next, hD])
      have HDL : Hid (D.length = k) := Lib.hid (by rw [hD, List.length_map, List.length_range])
      rw [← hD] at HU
      clear hD
      obtain ⟨x, hx⟩ : ∃ x, x = nodeS seed 0 k := ⟨_, rfl⟩
      have HP := Lib.hid (fun W => HPB.out k W (by omega))
      rw [← hx] at HP HDN
      clear hx
      go_wp2_with (first
        | (go_at_call 42; (with_reducible refine (HP.out _).mono ?_); rintro e w3 ⟨rfl, hb3⟩; have HU3 := Lib.hid (HU.out.below hb3); have HB3' := Lib.hid (HB.out.next hb3); clear hb3)
        | (at_builtin; (refine wpList_append_own _ rfl (.tmp 44) (.tmp 46) 59 rfl W3.heap.size 9 i0 (.string ByteArray.empty) 1 16 Tryd.underlying59 hi hz0 hz1 hz2 rfl (by decide) _ _ _ rfl (ownl_below HU3.out (belowNew _ _)) ⟨w3.heap.size, 0, none⟩ 1 1 [.string x] rfl rfl (news_l w3 _ _) (ones_l x) (by have := HDL.out; unfold maxLen; omega) (by have := HDL.out; omega) (by have := HB3'.out.size; simp; omega) ?_); intro v' w4 hown4 hgr4 _; have HO4 := Lib.hid (ownl_round HU3.out HB3'.out (Nat.le_refl _) hown4 hgr4).1; have HB4 := Lib.hid (ownl_round HU3.out HB3'.out (Nat.le_refl _) hown4 hgr4).2; clear hown4 hgr4))
      go_roundw
      case rel => exact ⟨k + 1, by omega, by go_num, by rw [HDN.out]; exact HO4.out, HB4.out⟩
      case measure => simp [intOf]; omega
    · have hkn : k = n := by omega
      subst hkn
      have hd : decide ((k : Int) < (k : Int)) = false := by simp
      have HBl := Lib.hid (show T < W3.heap.size by have := HZ3.out; omega)
      have hfz := Lib.frozen_of_heap HQ.out 2
      obtain ⟨au, cu, hue⟩ := own_slice HU.out
      rw [List.length_map, List.length_range] at hue
      subst hue
      go_wp2_with (at_builtin; (refine wpList_append_own _ rfl (.tmp 49) (.tmp 51) 23 rfl W3.heap.size 59 r0 (.slice none 0 0) 1 24 Tryd.underlying23 hr hy0 hy1 hy2 rfl (by decide) (.slice none 0 0) 0 [] rfl (World.ownsRow_nil _ _ _ _) ⟨wr.heap.size, 0, none⟩ 1 1 [.slice au k cu] rfl rfl (news_l wr _ _) (ones_row _ rfl) (by unfold maxLen; omega) (by omega) (by have := HB.out.size; simp; omega) ?_); intro v' w5 hown5 hgr5 _; obtain ⟨a5, c5, rfl⟩ := own_slice hown5; have hm := tree_more (D := []) (vs := []) HQ.out HBl.out (by rw [HT.out]; exact Nat.le_refl _) HB.out.size rfl (World.ownsRow_nil _ _ _ _) (fun i hi => absurd hi (Nat.not_lt_zero _)) HU.out (HB3.out.next HB.out) hown5 hgr5; have hq5 := hm.1; obtain ⟨e0, e1, e2, hT5⟩ := tcell hq5; have hf5 := Lib.frozen_of_heap hq5 2; have HM := Lib.hid hm; clear hm hown5 hgr5 hq5)
      obtain ⟨W5, hW5⟩ : ∃ W5, W5 = w5.setCell ⟨T, 2, none⟩ (.slice a5 1 c5) := ⟨_, rfl⟩
      rw [← hW5]
      have HM5 := HM.out
      rw [← hW5] at HM5
      obtain ⟨_, hq5, hll5, hu5, hb5, _⟩ := HM5
      have HX5 := Lib.hid hq5
      have HL5 := Lib.hid hll5
      have HU5 := Lib.hid hu5
      have HB5 := Lib.hid hb5
      have HNK := Lib.hid (show levelS seed h 0 = (List.range k).map (nodeS seed 0) by unfold levelS; rw [Nat.sub_zero, ← HN.out])
      clear hq5 hll5 hu5 hb5 e0 e1 e2 hT5 hf5 HM hW5 c0 c1 c2 hTl hfz hd hlt hk
      go_loopw [7, 11] (fun u i wx => ∃ l : Nat, l ≤ h ∧ i = .int .i64 (l : Int) ∧ ∃ V, wx.heap[T]? = some (.cells #[.string seed, .string ID, V] 25 (0, 0)) ∧ OwnLL wx W3.heap.size V (levelsS seed h (l + 1)) ∧ OwnL wx W3.heap.size u (levelS seed h l) ∧ Below w1.heap.size w1 wx) (fun _ i _ => h - (intOf i).toNat)
      case atStart => exact ⟨0, Nat.zero_le _, rfl, _, HX5.out, by rw [levelsS_succ, HNK.out]; exact HL5.out, by rw [HNK.out]; exact HU5.out, HB5.out⟩
      case round =>
        obtain ⟨wx, hwx⟩ : ∃ wx, wx = wr := ⟨_, rfl⟩
        subst hwx
        obtain ⟨l, hl, rfl, V, hqx, hllx, hux, hbx⟩ := hrel
        obtain ⟨aV, cV, hV⟩ := hllx.lies
        rw [levelsS_len] at hV
        obtain ⟨rfl, hcV, hRV⟩ := hV
        obtain ⟨m, hm⟩ : ∃ m, m = 2 ^ (h - l) := ⟨_, rfl⟩
        obtain ⟨au2, cu2, hu2⟩ := hux.lies
        rw [levelS_len, ← hm] at hu2
        obtain ⟨rfl, hcu2, hSt⟩ := hu2
        have HQX := Lib.hid hqx
        have HLX := Lib.hid hllx
        have HUX := Lib.hid hux
        have HBX := Lib.hid hbx
        have hm1 : 1 ≤ m ∧ m ≤ 256 := by
          have := pow_small (h := h - l) (by have := HH.out; omega)
          rw [hm]; omega
        have HSt := Lib.hid hSt
        have HMM := Lib.hid hm
        clear hqx hllx hux hbx hSt hm hRV hcV hcu2
        by_cases hlt : l < h
        · have hd : decide ((l : Int) < (h : Int)) = true := by simp; omega
          obtain ⟨m2, hm2⟩ : ∃ m2, m2 = 2 ^ (h - (l + 1)) := ⟨_, rfl⟩
          have hmm : m = 2 * m2 := by
            rw [HMM.out, hm2, show h - l = (h - (l + 1)) + 1 by omega, Nat.pow_succ, Nat.mul_comm]
          have HM2 := Lib.hid hm2
          have HMX := Lib.hid hmm
          have HLT := Lib.hid hlt
          obtain ⟨b, o, rfl, hbs, hcs⟩ := strs_at HSt.out (by intro e; have := levelS_len seed h l; rw [e] at this; have := hm1.1; have := HMM.out; simp at *; omega)
          have HCS : Hid (∀ i, i < m → wx.cell? ⟨b, o + i, none⟩ = some (.string (nodeS seed l i))) := Lib.hid (fun i hi => by
            have := hcs i (by rw [levelS_len, ← HMM.out]; exact hi)
            rw [levelS_at seed h l i (by rw [← HMM.out]; exact hi)] at this
            exact this)
          have HBS := Lib.hid hbs
          clear hm2 hmm hcs hbs HSt
          go_wp2_with fail
          obtain ⟨B2, hB2⟩ : ∃ B2, B2 = wx.heap.size := ⟨_, rfl⟩
          have HBB := Lib.hid hB2
          clear hB2
          go_loopw [12, 13] (fun v i wy => ∃ j : Nat, j ≤ m2 ∧ i = .int .i64 ((2 * j : Nat) : Int) ∧ OwnL wy B2 v ((List.range j).map (nodeS seed (l + 1))) ∧ Below wx.heap.size wx wy) (fun _ i _ => 2 * m2 - (intOf i).toNat)
          case atStart => exact ⟨0, Nat.zero_le _, rfl, OwnL.nil _ _, Below.refl _ _⟩
          case round =>
            obtain ⟨j, hj, rfl, hv, hbj⟩ := hrel
            have HV := Lib.hid hv
            have HBJ := Lib.hid hbj
            have HQJ := Lib.hid ((hbj.block T (by have := (Array.getElem?_eq_some_iff.1 HQX.out).1; exact this)).trans HQX.out)
            obtain ⟨c0, c1, c2, hTl⟩ := tcell HQJ.out
            clear hv hbj
            obtain ⟨i, hi2⟩ : ∃ i, i = 2 * j := ⟨_, rfl⟩
            rw [← hi2]
            obtain ⟨i1, hi1⟩ : ∃ i1, i1 = i + 1 := ⟨_, rfl⟩
            have hs1 : (i : Int) + 1 = (i1 : Int) := by omega
            by_cases hjl : j < m2
            · have hd1 : decide ((i1 : Int) < (m : Int)) = true := by have := HMX.out; simp; omega
              have him : i1 < m := by have := HMX.out; omega
              have hq : (i : Int) / 2 = (j : Int) := by omega
              have p0 := (HBJ.out.cell (p := ⟨b, o + i, none⟩) HBS.out).trans (HCS.out i (by omega))
              have p1 := (HBJ.out.cell (p := ⟨b, o + i1, none⟩) HBS.out).trans (HCS.out i1 him)
              obtain ⟨x, hx⟩ : ∃ x, x = nodeS seed l i := ⟨_, rfl⟩
              obtain ⟨y, hy⟩ : ∃ y, y = nodeS seed l i1 := ⟨_, rfl⟩
              have HXS := Lib.hid (show x.size ≤ 1000 by rw [hx, nodeS_size]; omega)
              have HYS := Lib.hid (show y.size ≤ 1000 by rw [hy, nodeS_size]; omega)
              obtain ⟨z, hz⟩ : ∃ z, z = nodeS seed (l + 1) j := ⟨_, rfl⟩
              have hzz : joinQ hQ (idT seed).data.toList l j x y = z := by rw [hz, node_up, hx, hy, hi1, hi2]
              have HJ := Lib.hid (fun V W => HJN.out l j x y V W HXS.out HYS.out)
              rw [hzz] at HJ
              rw [← hx] at p0
              rw [← hy] at p1
              obtain ⟨D, hD⟩ : ∃ D, D = (List.range j).map (nodeS seed (l + 1)) := ⟨_, rfl⟩
              have HDN : Hid ((List.range (j + 1)).map (nodeS seed (l + 1)) = D ++ [z]) := Lib.hid (by rw [range_next, hD, hz])
              have HDL : Hid (D.length = j) := Lib.hid (by rw [hD, List.length_map, List.length_range])
              rw [← hD] at HV
              have HI2 := Lib.hid hi2
              have HI1 := Lib.hid hi1
              have HJL := Lib.hid hjl
              have HB2B : Hid (B2 ≤ wr.heap.size) := Lib.hid (by rw [HBB.out]; exact HBJ.out.size)
              clear hD hz hzz hx hy hi2 hi1 hjl c0 c2
              have him1 : (i1 : Int) < (m : Int) := by omega
              have hii : (i : Int) < (m : Int) := by omega
              go_wp2_with fail
              have HTL := Lib.hid hTl
              have HDW := Lib.hid ((Below.refl wr.heap.size wr).drew)
              have HLB := Lib.hid (show l < 256 by have := HLT.out; have := HH.out; omega)
              have HJB := Lib.hid (show j < 4294967296 by have := HJL.out; have := HMX.out; omega)
              have hqt : (i : Int).tdiv 2 = (j : Int) := by rw [Int.tdiv_eq_ediv_of_nonneg (by omega)]; exact hq
              have hwi : IntKind.i64.wrap (i1 : Int) = (i1 : Int) := by rw [wrap_i64]; omega
              have hwj : IntKind.i64.wrap (j : Int) = (j : Int) := by rw [wrap_i64]; have := HJL.out; have := HMX.out; omega
              have HBW := Lib.hid (show b < wr.heap.size from Nat.lt_of_lt_of_le HBS.out HBJ.out.size)
              have HTB := Lib.hid (show T < B2 by rw [HBB.out]; exact (Array.getElem?_eq_some_iff.1 HQX.out).1)
              have HbB := Lib.hid (show b < B2 by rw [HBB.out]; exact HBS.out)
              clear hTl hd1
              go_region_held3 (fun w' => w'.cell? ⟨T, 1, none⟩ = some (.string ID) ∧ w'.cell? ⟨b, o + i, none⟩ = some (.string x) ∧ w'.cell? ⟨b, o + i1, none⟩ = some (.string y)) (first | with_reducible exact ⟨by assumption, by assumption, by assumption⟩ | go_keep)
                (first
                  | (go_at_call 37; (with_reducible refine (rb1_any l HLB.out _).mono ?_); rintro e w3 ⟨rfl, hb3⟩; have hx : Below wr.heap.size wr w3 := (by first | exact hb3 | exact (Below.refl _ _).drew.trans hb3); have e1 := (hx.cell (p := ⟨T, 1, none⟩) HTL.out).trans c1; have r0' := (hx.cell (p := ⟨b, o + i, none⟩) HBW.out).trans p0; have r1' := (hx.cell (p := ⟨b, o + i1, none⟩) HBW.out).trans p1; have HB3' := Lib.hid hx; clear hb3 hx)
                  | (go_at_call 32; (with_reducible refine (rb4_any j HJB.out _).mono ?_); rintro e w4 ⟨rfl, hb4⟩; have hx : Below wr.heap.size wr w4 := (by first | exact HB3'.out.next hb4 | exact HB3'.out.drew.next hb4); have s1 := (hx.cell (p := ⟨T, 1, none⟩) HTL.out).trans c1; have t0 := (hx.cell (p := ⟨b, o + i, none⟩) HBW.out).trans p0; have t1 := (hx.cell (p := ⟨b, o + i1, none⟩) HBW.out).trans p1; have HB4' := Lib.hid hx; clear hb4 hx)
                  | (go_at_call 36; refine (HJ.out _ _ (reads_row _ [⟨#[78]⟩, ID, strOf (b1 l), strOf (b4 j), x, y] 9)).mono ?_; rintro e w6 ⟨rfl, hb6⟩; have hx : Below wr.heap.size wr w6 := (HB4'.out.next (belowNew _ _)).next hb6; have HB6 := Lib.hid hx; have HV6 := Lib.hid (HV.out.below hx); have s6 := (hx.cell (p := ⟨T, 1, none⟩) HTL.out).trans c1; have t6 := (hx.cell (p := ⟨b, o + i, none⟩) HBW.out).trans p0; have t7 := (hx.cell (p := ⟨b, o + i1, none⟩) HBW.out).trans p1; clear hb6 hx)
                  | (refine step_append_own rfl (.tmp 66) (.tmp 85) 59 rfl B2 9 i0 (.string ByteArray.empty) 16 Tryd.underlying59 hi hz0 hz1 hz2 rfl u12 D.length (D.map Value.string) rfl (ownl_below HV6.out (belowNew w6 (.cells #[.string z] 9))) ⟨w6.heap.size, 0, none⟩ 1 1 [.string z] rfl rfl (news_l w6 (.string z) 9) (ones_l z) (by have := HDL.out; have := HJB.out; unfold maxLen; omega) (by have := HDL.out; have := HJL.out; have := HMX.out; omega) (by have := HB6.out.size; have := HB2B.out; simp; omega) ?_; intro v' w7 hown7 hgr7 _; have s7 := keep_low HV6.out _ hgr7 (p := ⟨T, 1, none⟩) HTB.out s6; have t8 := keep_low HV6.out _ hgr7 (p := ⟨b, o + i, none⟩) HbB.out t6; have t9 := keep_low HV6.out _ hgr7 (p := ⟨b, o + i1, none⟩) HbB.out t7; have hn7 := ownl_next HBB.out HV6.out (HBJ.out.next HB6.out) hown7 hgr7; have HN7 := Lib.hid hn7; clear hn7 hown7 hgr7))
              go_wp2_with fail
              go_roundw
              case rel =>
                refine ⟨j + 1, HJL.out, ?_, by rw [HDN.out]; exact HN7.out.1, HN7.out.2⟩
                congr 1
                have := HI2.out
                omega
              case measure => have := HI2.out; have := HMX.out; simp [intOf]; omega
            · have hjm : j = m2 := by omega
              have hnl : ¬ i1 < m := by have := HMX.out; omega
              have hwq : wrap64 (i1 : Int) = (i1 : Int) := by have := HMX.out; unfold wrap64; omega
              have hd1 : decide ((i1 : Int) < (m : Int)) = false := by simp; omega
              have hW3 := (World.ownsRow.lt HUX.out b rfl).1
              have hlv : levelS seed h (l + 1) = (List.range j).map (nodeS seed (l + 1)) := by unfold levelS; rw [hjm, HM2.out]
              have hnu : OwnL wr W3.heap.size u12 (levelS seed h (l + 1)) := by rw [hlv]; exact HV.out.base (by rw [HBB.out]; have := (World.ownsRow.lt HUX.out b rfl).2; omega)
              obtain ⟨au3, cu3, hu3⟩ := own_slice hnu
              rw [levelS_len, ← HM2.out] at hu3
              subst hu3
              obtain ⟨vs, v1, v2, v3⟩ := HLX.out.below HBJ.out
              have HNU := Lib.hid hnu
              have HV1 := Lib.hid v1
              have HV2 := Lib.hid v2
              have HV3 := Lib.hid v3
              have HW3r := Lib.hid (show W3.heap.size ≤ wr.heap.size by have h1 := (World.ownsRow.lt HUX.out b rfl).2; have h2 := HBJ.out.size; omega)
              have HJM := Lib.hid hjm
              rw [levelsS_len] at v1 v2
              have HO2 := Lib.hid v2
              have HSL := Lib.hid (levelsS_succ seed h (l + 1))
              clear hnu v1 v2 v3 hlv hjm hjl hi2 hi1 hW3
              go_wp2_with (at_builtin; (refine wpList_append_own _ rfl (.tmp 89) (.tmp 91) 23 rfl W3.heap.size 59 r0 (.slice none 0 0) 1 24 Tryd.underlying23 hr hy0 hy1 hy2 rfl (by decide) _ _ _ rfl (ownl_below HO2.out (belowNew _ _)) ⟨wr.heap.size, 0, none⟩ 1 1 [.slice au3 m2 cu3] rfl rfl (news_l wr _ _) (ones_row _ rfl) (by have := HLT.out; have := HH.out; unfold maxLen; omega) (by have := HLT.out; have := HH.out; omega) (by have := HW3r.out; simp; omega) ?_); intro v' w9 hown9 hgr9 _; obtain ⟨a9, c9, rfl⟩ := own_slice hown9; have hm := tree_more (D := levelsS seed h (l + 1)) (vs := vs) HQJ.out HBl.out (by rw [HT.out]; exact Nat.le_refl _) HW3r.out HV1.out HV2.out HV3.out HNU.out (HBX.out.next HBJ.out) (by rw [levelsS_len]; exact hown9) hgr9; have hq9 := hm.1; obtain ⟨e0, e1, e2, hT9⟩ := tcell hq9; have hf9 := Lib.frozen_of_heap hq9 2; have HM := Lib.hid hm; clear hm hown9 hgr9 hq9)
              go_roundw
              case rel => exact ⟨l + 1, HLT.out, by go_num, _, HM.out.2.1, by rw [HSL.out]; exact HM.out.2.2.1, HM.out.2.2.2.1, HM.out.2.2.2.2.1⟩
              case measure => have := HLT.out; simp [intOf]; omega
        · have hlh : l = h := by omega
          subst hlh
          have hd : decide ((l : Int) < (l : Int)) = false := by simp
          obtain ⟨e0, e1, e2, hTx⟩ := tcell HQX.out
          have hqr := (HBX.out.block w.heap.size (Array.getElem?_eq_some_iff.1 HQ1.out).1).trans HQ1.out
          obtain ⟨z0, z1, z2, hRx⟩ := tcell hqr
          have f0 := Lib.frozen_of_heap hqr 0
          have f1 := Lib.frozen_of_heap hqr 1
          have f2 := Lib.frozen_of_heap hqr 2
          have HQR := Lib.hid hqr
          have HRT := Lib.hid (show w.heap.size < W3.heap.size by have h1 := (Array.getElem?_eq_some_iff.1 HQ1.out).1; have h2 := HZ3.out; have h3 := HT.out; omega)
          have hRT := (show w.heap.size < T by have h1 := (Array.getElem?_eq_some_iff.1 HQ1.out).1; have h3 := HT.out; omega)
          have hne1 := Nat.ne_of_lt hRT
          have hne2 := Nat.ne_of_gt hRT
          clear hqr
          go_wp2_with fail
          exact bodyPost_ret (results_cell_row2 rfl _ _ w.heap.size 25 _ (0, 0) _ rfl (tset3 HQR.out) Tryd.underlying25 rfl treeSize) rfl ⟨⟨_, rfl, (((HLX.out.low HRT.out).low HRT.out).low HRT.out).base (Nat.le_of_lt HRT.out)⟩, (((HB1.out.next HBX.out).setCell (p := ⟨w.heap.size, 0, none⟩) (Nat.le_refl _) _).setCell (p := ⟨w.heap.size, 1, none⟩) (Nat.le_refl _) _).setCell (p := ⟨w.heap.size, 2, none⟩) (Nat.le_refl _) _⟩
end Go.Proofs.YtphgpakfdhdklaaDoor
