/-
  The walk of the law KeyinfoBack, over what is wanted of the program.
  Rows of strings, and rows of such rows, that a call has made itself. Nothing is claimed of the program here.
  Nothing is left of this text.
  The contract of the reference's Generate.
  Nothing is left of this text.
  Nothing is left of this text.
  The contracts of the program's numbers as bytes, of what follows from a public key, and of its checks of a key and of a signature's leaf.
  The contracts of the reference's Generate for what it refuses, of its KeyOf, and of certpathmade's Tree.
  Nothing is left of this text.
  Nothing is left of this text.
  Nothing is left of this text.
  What is wanted of the program's trees, as propositions; and the contract of the law package's sanity check over them.
  The contracts of the program's Check and Leaf.
-/
import Derived.Test.YtpmlkofceidnjaaDoorAau
import Derived.Test.YtpmlkofceidnjaaDoorAao
import Derived.Test.YtpmlkofceidnjaaDoorAat
import Derived.Deep.RegionLaw
import Derived.Deep.RegionHeld3
import Derived.Test.YtpmlkofceidnjaaDoorAar
namespace Go.Proofs.YtpmlkofceidnjaaDoor
open Go.RowKit

theorem but_baseb {w w' : World} {q B : Nat} (hb : But q w w') (hB : B ≤ q) (hBw : B ≤ w.heap.size) : Below B w w' :=
  ⟨hb.os, hb.tape, hb.output, hb.size, fun k hk => hb.block k (Nat.lt_of_lt_of_le hk hBw) (by simp; omega)⟩
set_option maxRecDepth 100000 in
set_option maxHeartbeats 4000000 in
theorem kbacklaw (hA : AlgPk) (hE : EncPk) (hD : DecPk) (a : Option Addr) (cap : Nat) (zs : List Int) (w : World) (hP : Pow10 w) (hli : ILies w a zs) (hz : zs.length ≤ 9223372036854775807) :
    Calls Tryd.prog 3 #[.slice a zs.length cap] w fun e w' => e = .returned (.bool true) ∧ Below w.heap.size w w' := by
  have HAW := Lib.hid (fun W hp => awakek_any hA hE hD W hp)
  obtain ⟨z, hzz⟩ : ∃ z, z = zs.length := ⟨_, rfl⟩
  have HND : Hid (∀ W : World, ILies W a zs → Calls Tryd.prog 4 #[.slice a z cap] W fun e w' => e = .returned (.pointer (some ⟨W.heap.size, 0, none⟩)) ∧ DeckAt w' W.heap.size a cap zs 0 ∧ Below W.heap.size W w') := Lib.hid fun W hl => by rw [hzz]; exact new_any a cap zs W hl hz
  have HEN := Lib.hid hE
  have HDE := Lib.hid hD
  have HP := Lib.hid hP
  have HLI := Lib.hid hli
  rw [← hzz]
  clear hzz hz hP hli hA hE hD
  go_enter Tryd.func3, Tryd.ntmps3
  go_upto_region 9 with (first
    | (go_at_call 4
       (with_reducible refine (HND.out _ HLI.out).mono ?_)
       rintro e w1 ⟨rfl, hd1, hb1⟩
       have HB1 := Lib.hid hb1
       have HD1 := Lib.hid hd1
       clear hb1 hd1)
    | (go_at_call 5
       (with_reducible refine (keyq_any w.heap.size a cap zs 0 _ HD1.out (by omega)).mono ?_)
       rintro e w2 ⟨k, k2, hk, rfl, hd2, hk2, hb2⟩
       have HD2 := Lib.hid hd2
       have HK2 := Lib.hid hk2
       have HB2 := Lib.hid (HB1.out.trans (but_baseb hb2 (Nat.le_refl _) HB1.out.size))
       have he := encKV_ok hk
       have hdd := decKV_enc hk
       have hs := encK_size hk
       have HE3 := Lib.hid (fun W => HEN.out k W)
       obtain ⟨X, hX⟩ : ∃ X, X = encK k := ⟨_, rfl⟩
       rw [← hX] at he hdd hs
       rw [he] at HE3
       have HXS := Lib.hid hs
       have HD3 := Lib.hid (fun W h => HDE.out X W (by omega) h)
       rw [hdd] at HD3
       obtain ⟨h, id, root⟩ := k
       unfold keyVV keyV at HE3 HD3 ⊢
       simp only at HE3 HD3 ⊢
       have hn2 := key_new w2 (.int .i64 h) (.string id) (.string root)
       have HN2 := Lib.hid hn2
       obtain ⟨c0, c1, c2, _⟩ := kcell3 hn2
       clear hX he hdd hs hk hd2 hk2 hb2 hn2)
    | (go_at_call 6
       (with_reducible refine (HE3.out _).mono ?_)
       rintro e w3 ⟨rfl, hb3⟩
       have HB3 := Lib.hid (below_next HB2.out (below_next (belowNew _ _) hb3))
       have HD3' := Lib.hid ((HD2.out.below (belowNew _ _)).below hb3)
       have HQ3 := Lib.hid ((hb3.block w2.heap.size (Array.getElem?_eq_some_iff.1 HN2.out).1).trans HN2.out)
       clear hb3 c0 c1 c2)
    | (go_at_call 7
       (with_reducible refine (HD3.out _ (HP.out.below HB3.out)).mono ?_)
       rintro e w4 ⟨rfl, hb4⟩
       have HB4 := Lib.hid (below_next HB3.out hb4)
       have HD4 := Lib.hid (HD3'.out.below hb4)
       have hq4 := (hb4.block w2.heap.size (Array.getElem?_eq_some_iff.1 HQ3.out).1).trans HQ3.out
       have hl4 := (Array.getElem?_eq_some_iff.1 hq4).1
       have hn4 := key_new w4 (.int .i64 h) (.string id) (.string root)
       obtain ⟨a0, a1, a2, _⟩ := kcell3 hn4
       obtain ⟨b0, b1, b2, _⟩ := kcell3 (((belowNew w4 (.cells #[.int .i64 h, .string id, .string root] 26)).block w2.heap.size hl4).trans hq4)
       clear hb4 hq4 hl4 hn4)
    | (go_at_call 8
       (with_reducible refine (rewrap_any w.heap.size a cap zs k2 X _ (HD4.out.below (belowNew _ _)) (by have := HK2.out; have := HXS.out; omega)).mono ?_)
       rintro e w5 ⟨Y, k5, rfl, hs5, _, _, hb5⟩
       have HS5 := Lib.hid hs5
       have HB5 := Lib.hid ((below_next HB4.out (belowNew _ _)).trans (but_baseb hb5 (Nat.le_refl _) (below_next HB4.out (belowNew w4 (.cells #[.int .i64 h, .string id, .string root] 26))).size))
       have HDY := Lib.hid (fun W hp => HDE.out Y W (by have := HXS.out; omega) hp)
       unfold decKV at HDY
       obtain ⟨E, K, hEK⟩ : ∃ E K, decK Y = (E, K) := ⟨_, _, rfl⟩
       rw [hEK] at HDY
       have HEK := Lib.hid hEK
       obtain ⟨h', id', root'⟩ := K
       unfold keyVV keyV at HDY
       simp only at HDY
       clear hs5 hb5 a0 a1 a2 b0 b1 b2 hEK)
    | (go_at_call 7
       (with_reducible refine (HDY.out _ (HP.out.below HB5.out)).mono ?_)
       rintro e w6 ⟨rfl, hb6⟩
       have HB6 := Lib.hid (below_next HB5.out hb6)
       clear hb6))
  by_cases hz : E = 0
  case neg =>
    have d0 : ((E : Int) == 0) = false := by simp; omega
    have d1 : ¬ (E : Int) = 0 := by omega
    have d2 : ¬ E = 0 := hz
    clear hz
    go_wp2_with (first
      | (go_at_call 9; (with_reducible refine (HAW.out _ (HP.out.below (below_next HB6.out (belowNew _ _)))).mono ?_); rintro e w7 ⟨rfl, hb7⟩; have HB7 := Lib.hid (below_next (below_next HB6.out (belowNew _ _)) hb7); clear hb7))
    go_ret
    exact ⟨rfl, HB7.out⟩
  subst hz
  obtain ⟨hk', hy⟩ := enc_decK HEK.out
  have HE7 := Lib.hid (fun W => HEN.out (h', id', root') W)
  rw [encKV_ok hk', hy] at HE7
  unfold keyVV keyV at HE7
  simp only at HE7
  have hn6 := key_new w6 (.int .i64 h') (.string id') (.string root')
  obtain ⟨c0, c1, c2, _⟩ := kcell3 hn6
  clear hn6 hk' hy
  go_wp2_with (first
    | (go_at_call 6
       (with_reducible refine (HE7.out _).mono ?_)
       rintro e w7 ⟨rfl, hb7⟩
       have HB7 := Lib.hid (below_next (below_next HB6.out (belowNew _ _)) hb7)
       clear hb7 c0 c1 c2)
    | (go_at_call 9; (with_reducible refine (HAW.out _ (HP.out.below HB7.out)).mono ?_); rintro e w8 ⟨rfl, hb8⟩; have HB8 := Lib.hid (below_next HB7.out hb8); clear hb8))
  go_ret
  exact ⟨rfl, HB8.out⟩
end Go.Proofs.YtpmlkofceidnjaaDoor
namespace Go.Proofs.YtpmlkofceidnjaaDoor
open Go.RowKit

/-- The slice value v, of memory from block B on, holds the strings ss. -/
def OwnL (w : World) (B : Nat) (v : Value) (ss : List ByteArray) : Prop := w.ownsRow B 9 1 v ss.length (ss.map Value.string)
/-- At the address lie the strings ss. -/
def StrsAt (w : World) (a : Option Addr) (ss : List ByteArray) : Prop := ss = [] ∨ ∃ b o, a = some ⟨b, o, none⟩ ∧ b < w.heap.size ∧ ∀ i, i < ss.length → w.cell? ⟨b, o + i, none⟩ = some (.string (ss.getD i ByteArray.empty))
theorem StrsAt.below {w w' : World} {a : Option Addr} {ss : List ByteArray} (h : StrsAt w a ss) (hb : Below w.heap.size w w') : StrsAt w' a ss := by
  rcases h with h | ⟨b, o, h1, h2, h3⟩
  · exact .inl h
  · exact .inr ⟨b, o, h1, Nat.lt_of_lt_of_le h2 hb.size, fun i hi => (hb.cell (p := ⟨b, o + i, none⟩) h2).trans (h3 i hi)⟩
theorem OwnL.nil (w : World) (B : Nat) : OwnL w B (.slice none 0 0) [] := World.ownsRow_nil _ _ _ _
theorem ownl_below {w w' : World} {B : Nat} {e : TypeId} {k n : Nat} {v : Value} {xs : List Value} (h : w.ownsRow B e k v n xs) (hb : Below w.heap.size w w') : w'.ownsRow B e k v n xs := by
  refine ⟨h.1, ?_⟩
  rcases h.2 with h0 | ⟨g, cap, cur, hv, hB, hg, r⟩
  · exact .inl h0
  · exact .inr ⟨g, cap, cur, hv, hB, (hb.block g (Array.getElem?_eq_some_iff.1 hg).1).trans hg, r⟩
theorem OwnL.below {w w' : World} {B : Nat} {v : Value} {ss : List ByteArray} (h : OwnL w B v ss) (hb : Below w.heap.size w w') : OwnL w' B v ss := ownl_below h hb
theorem OwnL.lies {w : World} {B : Nat} {v : Value} {ss : List ByteArray} (h : OwnL w B v ss) : ∃ a c, v = .slice a ss.length c ∧ ss.length ≤ c ∧ StrsAt w a ss := by
  have hh := h
  rcases h.2 with ⟨hv, h0⟩ | ⟨g, cap, cur, hv, _, hg, hcap, _⟩
  · exact ⟨none, 0, by rw [hv, h0], by omega, .inl (List.eq_nil_of_length_eq_zero h0)⟩
  · refine ⟨_, cap, hv, hcap, .inr ⟨g, 0, rfl, (Array.getElem?_eq_some_iff.1 hg).1, fun i hi => ?_⟩⟩
    unfold OwnL at hh
    rw [hv] at hh
    rw [Nat.zero_add, World.ownsRow.cellAt hh i (by omega), List.getElem?_map, List.getElem?_eq_getElem hi, List.getD_eq_getElem?_getD, List.getElem?_eq_getElem hi]
    rfl
/-- The slice value v, of memory from block B on, holds the rows n, each in memory of its own. -/
def OwnLL (w : World) (B : Nat) (v : Value) (n : List (List ByteArray)) : Prop := ∃ vs : List Value, vs.length = n.length ∧ w.ownsRow B 60 1 v n.length vs ∧ ∀ i, i < n.length → OwnL w B (vs.getD i (.slice none 0 0)) (n.getD i [])
/-- At the address lie the rows n. -/
def RowsAt (w : World) (a : Option Addr) (n : List (List ByteArray)) : Prop := n = [] ∨ ∃ b o, a = some ⟨b, o, none⟩ ∧ b < w.heap.size ∧ ∀ i, i < n.length → ∃ a' c', w.cell? ⟨b, o + i, none⟩ = some (.slice a' (n.getD i []).length c') ∧ (n.getD i []).length ≤ c' ∧ StrsAt w a' (n.getD i [])
theorem RowsAt.below {w w' : World} {a : Option Addr} {n : List (List ByteArray)} (h : RowsAt w a n) (hb : Below w.heap.size w w') : RowsAt w' a n := by
  rcases h with h | ⟨b, o, h1, h2, h3⟩
  · exact .inl h
  · refine .inr ⟨b, o, h1, Nat.lt_of_lt_of_le h2 hb.size, fun i hi => ?_⟩
    obtain ⟨a', c', e, q, r⟩ := h3 i hi
    exact ⟨a', c', (hb.cell (p := ⟨b, o + i, none⟩) h2).trans e, q, r.below hb⟩
theorem OwnLL.nil (w : World) (B : Nat) : OwnLL w B (.slice none 0 0) [] := ⟨[], rfl, World.ownsRow_nil _ _ _ _, fun _ hi => absurd hi (Nat.not_lt_zero _)⟩
theorem OwnLL.below {w w' : World} {B : Nat} {v : Value} {n : List (List ByteArray)} (h : OwnLL w B v n) (hb : Below w.heap.size w w') : OwnLL w' B v n := by
  obtain ⟨vs, h1, h2, h3⟩ := h
  exact ⟨vs, h1, ownl_below h2 hb, fun i hi => (h3 i hi).below hb⟩
theorem OwnLL.lies {w : World} {B : Nat} {v : Value} {n : List (List ByteArray)} (h : OwnLL w B v n) : ∃ a c, v = .slice a n.length c ∧ n.length ≤ c ∧ RowsAt w a n := by
  obtain ⟨vs, h1, h2, h3⟩ := h
  have hh := h2
  rcases h2.2 with ⟨hv, h0⟩ | ⟨g, cap, cur, hv, _, hg, hcap, _⟩
  · exact ⟨none, 0, by rw [hv, h0], by omega, .inl (List.eq_nil_of_length_eq_zero h0)⟩
  · refine ⟨_, cap, hv, hcap, .inr ⟨g, 0, rfl, (Array.getElem?_eq_some_iff.1 hg).1, fun i hi => ?_⟩⟩
    rw [hv] at hh
    obtain ⟨a', c', e, q3, q⟩ := (h3 i hi).lies
    refine ⟨a', c', ?_, q3, q⟩
    rw [Nat.zero_add, World.ownsRow.cellAt hh i (by omega), ← e, List.getD_eq_getElem?_getD, List.getElem?_eq_getElem (by omega)]
    rfl
/-- Rows of different types share no block. -/
theorem rowsl_apart {w : World} {B B' : Nat} {e e' : TypeId} {k k' n n' : Nat} {v v' : Value} {xs xs' : List Value} (h : w.ownsRow B e k v n xs) (h' : w.ownsRow B' e' k' v' n' xs') (hne : e ≠ e') : v.ownBlock = none ∨ v.ownBlock ≠ v'.ownBlock := by
  rcases h.2 with ⟨hv, _⟩ | ⟨g, cap, cur, hv, _, hg, _⟩
  · exact .inl (by rw [hv]; rfl)
  · rcases h'.2 with ⟨hv', _⟩ | ⟨g', cap', cur', hv', _, hg', _⟩
    · exact .inr (by rw [hv, hv']; simp [Value.ownBlock])
    · refine .inr (fun e1 => ?_)
      rw [hv, hv'] at e1
      simp [Value.ownBlock] at e1
      subst e1
      rw [hg] at hg'
      simp at hg'
      exact hne hg'.2
theorem OwnL.kept {w w' : World} {B B' k n : Nat} {v u : Value} {l : List ByteArray} {xs : List Value} (h : OwnL w B u l) (ho : w.ownsRow B' 60 k v n xs) (hg : w.grownBy w' v.ownBlock) : OwnL w' B u l :=
  World.ownsRow.kept h hg (rowsl_apart h ho (by decide))
end Go.Proofs.YtpmlkofceidnjaaDoor

namespace Go.Proofs.YtpmlkofceidnjaaDoor
open Go.RowKit

theorem tcell {w : World} {g : Nat} {a b c : Value} {t : TypeId} (h : w.heap[g]? = some (.cells #[a, b, c] t (0, 0))) : w.cell? ⟨g, 0, none⟩ = some a ∧ w.cell? ⟨g, 1, none⟩ = some b ∧ w.cell? ⟨g, 2, none⟩ = some c ∧ g < w.heap.size :=
  ⟨by rw [cell_of_row w g _ _ _ _ h]; rfl, by rw [cell_of_row w g _ _ _ _ h]; rfl, by rw [cell_of_row w g _ _ _ _ h]; rfl, (Array.getElem?_eq_some_iff.1 h).1⟩
theorem OwnL.base {w : World} {B B' : Nat} {v : Value} {ss : List ByteArray} (h : OwnL w B v ss) (hB : B' ≤ B) : OwnL w B' v ss := by
  refine ⟨h.1, ?_⟩
  rcases h.2 with h0 | ⟨g, cap, cur, hv, hg, r⟩
  · exact .inl h0
  · exact .inr ⟨g, cap, cur, hv, Nat.le_trans hB hg, r⟩
theorem OwnLL.base {w : World} {B B' : Nat} {v : Value} {n : List (List ByteArray)} (h : OwnLL w B v n) (hB : B' ≤ B) : OwnLL w B' v n := by
  obtain ⟨vs, h1, h2, h3⟩ := h
  refine ⟨vs, h1, ⟨h2.1, ?_⟩, fun i hi => (h3 i hi).base hB⟩
  rcases h2.2 with h0 | ⟨g, cap, cur, hv, hg, r⟩
  · exact .inl h0
  · exact .inr ⟨g, cap, cur, hv, Nat.le_trans hB hg, r⟩
theorem strs_at {w : World} {a : Option Addr} {ss : List ByteArray} (h : StrsAt w a ss) (hn : ss ≠ []) : ∃ b o, a = some ⟨b, o, none⟩ ∧ b < w.heap.size ∧ ∀ i, i < ss.length → w.cell? ⟨b, o + i, none⟩ = some (.string (ss.getD i ByteArray.empty)) := by
  rcases h with h | h
  · exact absurd h hn
  · exact h
end Go.Proofs.YtpmlkofceidnjaaDoor


namespace Go.Proofs.YtpmlkofceidnjaaDoor
open Go.RowKit

set_option maxRecDepth 100000 in
set_option maxHeartbeats 1000000 in
theorem mheight_any (h : Int) (w : World) :
    Calls Tryd.prog 26 #[.int .i64 h] w fun e w' => e = .returned (.bool (decide (0 ≤ h ∧ h ≤ 8))) ∧ Below w.heap.size w w' := by
  by_cases h1 : 0 ≤ h
  · have d1 : decide (0 ≤ h) = true := by simp; omega
    obtain ⟨b, hb⟩ : ∃ b, b = decide (h ≤ 8) := ⟨_, rfl⟩
    have hb2 : decide (h ≤ 8) = b := hb.symm
    have hbb : decide (0 ≤ h ∧ h ≤ 8) = b := by rw [hb]; simp [h1]
    rw [hbb]
    clear hbb hb
    cases b
    all_goals
      go_enter Tryd.func26, Tryd.ntmps26
      go_wp2_with fail
      go_ret
      exact ⟨rfl, Below.refl _ _⟩
  · have d1 : decide (0 ≤ h) = false := by simp; omega
    have hbb : decide (0 ≤ h ∧ h ≤ 8) = false := by simp; omega
    rw [hbb]
    clear hbb
    go_enter Tryd.func26, Tryd.ntmps26
    go_wp2_with fail
    go_ret
    exact ⟨rfl, Below.refl _ _⟩
end Go.Proofs.YtpmlkofceidnjaaDoor
namespace Go.Proofs.YtpmlkofceidnjaaDoor
open Go.RowKit

/-- The value of a tree of the definition that lies in w. -/
def TreeV (w : World) (v : Value) (seed : ByteArray) (h : Nat) : Prop := ∃ a c, v = .agg #[.string seed, .string (idT seed), .slice a (h + 1) c] ∧ h + 1 ≤ c ∧ RowsAt w a (levelsS seed h (h + 1))
theorem TreeV.below {w w' : World} {v : Value} {seed : ByteArray} {h : Nat} (t : TreeV w v seed h) (hb : Below w.heap.size w w') : TreeV w' v seed h := by
  obtain ⟨a, c, e, hc, hr⟩ := t
  exact ⟨a, c, e, hc, hr.below hb⟩
theorem rows_at {w : World} {a : Option Addr} {n : List (List ByteArray)} (h : RowsAt w a n) (hn : n ≠ []) : ∃ b o, a = some ⟨b, o, none⟩ ∧ b < w.heap.size ∧ ∀ i, i < n.length → ∃ a' c', w.cell? ⟨b, o + i, none⟩ = some (.slice a' (n.getD i []).length c') ∧ (n.getD i []).length ≤ c' ∧ StrsAt w a' (n.getD i []) := by
  rcases h with h | h
  · exact absurd h hn
  · exact h
/-- The levels of a tree, opened. -/
theorem TreeV.open {w : World} {v : Value} {seed : ByteArray} {h : Nat} (t : TreeV w v seed h) : ∃ b o c, v = .agg #[.string seed, .string (idT seed), .slice (some ⟨b, o, none⟩) (h + 1) c] ∧ h + 1 ≤ c ∧ b < w.heap.size ∧
    ∀ l, l ≤ h → ∃ b' o' c', w.cell? ⟨b, o + l, none⟩ = some (.slice (some ⟨b', o', none⟩) (2 ^ (h - l)) c') ∧ 2 ^ (h - l) ≤ c' ∧ b' < w.heap.size ∧ ∀ i, i < 2 ^ (h - l) → w.cell? ⟨b', o' + i, none⟩ = some (.string (nodeS seed l i)) := by
  obtain ⟨a, c, e, hc, hr⟩ := t
  obtain ⟨b, o, rfl, hb, hl⟩ := rows_at hr (by intro e; have := levelsS_len seed h (h + 1); rw [e] at this; cases this)
  refine ⟨b, o, c, e, hc, hb, fun l hlh => ?_⟩
  obtain ⟨a', c', e1, e2, e3⟩ := hl l (by rw [levelsS_len]; omega)
  rw [levelsS_at seed h (h + 1) l (by omega)] at e1 e2 e3
  rw [levelS_len] at e1 e2
  obtain ⟨b', o', rfl, hb', hs⟩ := strs_at e3 (by intro e; have := levelS_len seed h l; rw [e] at this; have := Nat.one_le_two_pow (n := h - l); simp at *; omega)
  refine ⟨b', o', c', e1, e2, hb', fun i hi => ?_⟩
  have := hs i (by rw [levelS_len]; exact hi)
  rw [levelS_at seed h l i hi] at this
  exact this

end Go.Proofs.YtpmlkofceidnjaaDoor



namespace Go.Proofs.YtpmlkofceidnjaaDoor
open Go.RowKit

def CheckPm : Prop := ∀ (h : Int) (id root : ByteArray) (w : World), Calls Tryd.prog 12 #[keyV h id root] w fun e w' => e = .returned (.int .i64 ((keyE h id root : Nat) : Int)) ∧ Below w.heap.size w w'
end Go.Proofs.YtpmlkofceidnjaaDoor
namespace Go.Proofs.YtpmlkofceidnjaaDoor
open Go.RowKit

set_option maxRecDepth 100000 in
set_option maxHeartbeats 1000000 in
theorem mcheck_any : CheckPm := by
  intro h id root w
  unfold keyV
  obtain ⟨n, hn⟩ : ∃ n, n = id.size := ⟨_, rfl⟩
  obtain ⟨m, hm⟩ : ∃ m, m = root.size := ⟨_, rfl⟩
  have hni : (id.size : Int) = (n : Int) := by rw [hn]
  have hmi : (root.size : Int) = (m : Int) := by rw [hm]
  have HQ := Lib.hid (show keyE h id root = if 0 ≤ h ∧ h ≤ 8 ∧ n = 16 ∧ m = 16 then 0 else 18 by unfold keyE; rw [hn, hm])
  clear hn hm
  by_cases h1 : 0 ≤ h ∧ h ≤ 8
  · have HV : Hid (∀ W : World, Calls Tryd.prog 26 #[.int .i64 h] W fun e w' => e = .returned (.bool true) ∧ Below W.heap.size W w') := Lib.hid fun W => by
      have := mheight_any h W
      rw [decide_eq_true h1] at this
      exact this
    rcases Nat.decEq n 16 with h3 | h3
    · have d3 : ((n : Int) == 16) = false := by simp; omega
      have h3i : ¬ (n : Int) = 16 := by omega
      have HR := Lib.hid (show keyE h id root = 18 by rw [HQ.out, if_neg (by omega)])
      clear HQ h1
      go_enter Tryd.func12, Tryd.ntmps12
      go_wp2_with (go_at_call 26; (with_reducible refine (HV.out _).mono ?_); rintro e w1 ⟨rfl, hb1⟩; have HB1 := Lib.hid ((belowNew w _).next hb1); obtain ⟨k0, k1, k2, hgl⟩ := tcell ((hb1.block w.heap.size (by simp)).trans (heap_alloc_new w _)); clear hb1)
      go_ret
      rw [HR.out]
      exact ⟨rfl, HB1.out⟩
    · subst h3
      rcases Nat.decEq m 16 with h4 | h4
      · have d4 : ((m : Int) == 16) = false := by simp; omega
        have h4i : ¬ (m : Int) = 16 := by omega
        have HR := Lib.hid (show keyE h id root = 18 by rw [HQ.out, if_neg (by omega)])
        clear HQ h1
        go_enter Tryd.func12, Tryd.ntmps12
        go_wp2_with (go_at_call 26; (with_reducible refine (HV.out _).mono ?_); rintro e w1 ⟨rfl, hb1⟩; have HB1 := Lib.hid ((belowNew w _).next hb1); obtain ⟨k0, k1, k2, hgl⟩ := tcell ((hb1.block w.heap.size (by simp)).trans (heap_alloc_new w _)); clear hb1)
        go_ret
        rw [HR.out]
        exact ⟨rfl, HB1.out⟩
      · subst h4
        have HR := Lib.hid (show keyE h id root = 0 by rw [HQ.out, if_pos (by omega)])
        clear HQ h1
        go_enter Tryd.func12, Tryd.ntmps12
        go_wp2_with (go_at_call 26; (with_reducible refine (HV.out _).mono ?_); rintro e w1 ⟨rfl, hb1⟩; have HB1 := Lib.hid ((belowNew w _).next hb1); obtain ⟨k0, k1, k2, hgl⟩ := tcell ((hb1.block w.heap.size (by simp)).trans (heap_alloc_new w _)); clear hb1)
        go_ret
        rw [HR.out]
        exact ⟨rfl, HB1.out⟩
  · have HV : Hid (∀ W : World, Calls Tryd.prog 26 #[.int .i64 h] W fun e w' => e = .returned (.bool false) ∧ Below W.heap.size W w') := Lib.hid fun W => by
      have := mheight_any h W
      rw [decide_eq_false h1] at this
      exact this
    have HR := Lib.hid (show keyE h id root = 18 by rw [HQ.out, if_neg (by omega)])
    clear HQ h1
    go_enter Tryd.func12, Tryd.ntmps12
    go_wp2_with (go_at_call 26; (with_reducible refine (HV.out _).mono ?_); rintro e w1 ⟨rfl, hb1⟩; have HB1 := Lib.hid ((belowNew w _).next hb1); obtain ⟨k0, k1, k2, hgl⟩ := tcell ((hb1.block w.heap.size (by simp)).trans (heap_alloc_new w _)); clear hb1)
    go_ret
    rw [HR.out]
    exact ⟨rfl, HB1.out⟩

end Go.Proofs.YtpmlkofceidnjaaDoor
