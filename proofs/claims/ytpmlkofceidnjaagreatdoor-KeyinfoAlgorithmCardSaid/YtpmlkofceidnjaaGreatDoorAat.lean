/-
  Rows of strings, and rows of such rows, that a call has made itself. Nothing is claimed of the program here.
  Nothing is left of this text.
  The contract of the reference's Generate.
  Nothing is left of this text.
  Nothing is left of this text.
  The contracts of the program's numbers as bytes, of what follows from a public key, and of its checks of a key and of a signature's leaf.
  The contracts of the reference's Generate for what it refuses, of its KeyOf, and of certpathmade's Tree.
  Nothing is left of this text.
  Nothing is left of this text.
  Nothing is left of this text.
  What is wanted of the program's trees, as propositions; and the contract of the law package's sanity check over them.
  The contracts of the program's Check and Leaf.
  The contracts of the program's wrap, Algorithm and join. (Of the landed program.)
  The contracts of the program's Identifier and Encode. (Of the landed program.)
-/
import Derived.Test.YtpmlkofceidnjaaGreatDoorAao
import Derived.Deep.RegionLaw
import Derived.Deep.RegionHeld3
import Derived.Test.YtpmlkofceidnjaaGreatDoorAan
import Derived.Test.YtpmlkofceidnjaaGreatDoorAap
import Derived.Test.YtpmlkofceidnjaaGreatDoorAae
namespace Go.Proofs.YtpmlkofceidnjaaGreatDoor
open Go.RowKit

/-- The slice value v, of memory from block B on, holds the strings ss. -/
def OwnL (w : World) (B : Nat) (v : Value) (ss : List ByteArray) : Prop := w.ownsRow B 9 1 v ss.length (ss.map Value.string)
/-- At the address lie the strings ss. -/
def StrsAt (w : World) (a : Option Addr) (ss : List ByteArray) : Prop := ss = [] ∨ ∃ b o, a = some ⟨b, o, none⟩ ∧ b < w.heap.size ∧ ∀ i, i < ss.length → w.cell? ⟨b, o + i, none⟩ = some (.string (ss.getD i ByteArray.empty))
theorem StrsAt.below {w w' : World} {a : Option Addr} {ss : List ByteArray} (h : StrsAt w a ss) (hb : Below w.heap.size w w') : StrsAt w' a ss := by
  rcases h with h | ⟨b, o, h1, h2, h3⟩
  · exact .inl h
  · exact .inr ⟨b, o, h1, Nat.lt_of_lt_of_le h2 hb.size, fun i hi => (hb.cell (p := ⟨b, o + i, none⟩) h2).trans (h3 i hi)⟩
theorem OwnL.nil (w : World) (B : Nat) : OwnL w B (.slice none 0 0) [] := World.ownsRow_nil _ _ _ _
theorem ownl_below {w w' : World} {B : Nat} {e : TypeId} {k n : Nat} {v : Value} {xs : List Value} (h : w.ownsRow B e k v n xs) (hb : Below w.heap.size w w') : w'.ownsRow B e k v n xs := by
  refine ⟨h.1, ?_⟩
  rcases h.2 with h0 | ⟨g, cap, cur, hv, hB, hg, r⟩
  · exact .inl h0
  · exact .inr ⟨g, cap, cur, hv, hB, (hb.block g (Array.getElem?_eq_some_iff.1 hg).1).trans hg, r⟩
theorem OwnL.below {w w' : World} {B : Nat} {v : Value} {ss : List ByteArray} (h : OwnL w B v ss) (hb : Below w.heap.size w w') : OwnL w' B v ss := ownl_below h hb
theorem OwnL.lies {w : World} {B : Nat} {v : Value} {ss : List ByteArray} (h : OwnL w B v ss) : ∃ a c, v = .slice a ss.length c ∧ ss.length ≤ c ∧ StrsAt w a ss := by
  have hh := h
  rcases h.2 with ⟨hv, h0⟩ | ⟨g, cap, cur, hv, _, hg, hcap, _⟩
  · exact ⟨none, 0, by rw [hv, h0], by omega, .inl (List.eq_nil_of_length_eq_zero h0)⟩
  · refine ⟨_, cap, hv, hcap, .inr ⟨g, 0, rfl, (Array.getElem?_eq_some_iff.1 hg).1, fun i hi => ?_⟩⟩
    unfold OwnL at hh
    rw [hv] at hh
    rw [Nat.zero_add, World.ownsRow.cellAt hh i (by omega), List.getElem?_map, List.getElem?_eq_getElem hi, List.getD_eq_getElem?_getD, List.getElem?_eq_getElem hi]
    rfl
/-- The slice value v, of memory from block B on, holds the rows n, each in memory of its own. -/
def OwnLL (w : World) (B : Nat) (v : Value) (n : List (List ByteArray)) : Prop := ∃ vs : List Value, vs.length = n.length ∧ w.ownsRow B 37 1 v n.length vs ∧ ∀ i, i < n.length → OwnL w B (vs.getD i (.slice none 0 0)) (n.getD i [])
/-- At the address lie the rows n. -/
def RowsAt (w : World) (a : Option Addr) (n : List (List ByteArray)) : Prop := n = [] ∨ ∃ b o, a = some ⟨b, o, none⟩ ∧ b < w.heap.size ∧ ∀ i, i < n.length → ∃ a' c', w.cell? ⟨b, o + i, none⟩ = some (.slice a' (n.getD i []).length c') ∧ (n.getD i []).length ≤ c' ∧ StrsAt w a' (n.getD i [])
theorem RowsAt.below {w w' : World} {a : Option Addr} {n : List (List ByteArray)} (h : RowsAt w a n) (hb : Below w.heap.size w w') : RowsAt w' a n := by
  rcases h with h | ⟨b, o, h1, h2, h3⟩
  · exact .inl h
  · refine .inr ⟨b, o, h1, Nat.lt_of_lt_of_le h2 hb.size, fun i hi => ?_⟩
    obtain ⟨a', c', e, q, r⟩ := h3 i hi
    exact ⟨a', c', (hb.cell (p := ⟨b, o + i, none⟩) h2).trans e, q, r.below hb⟩
theorem OwnLL.nil (w : World) (B : Nat) : OwnLL w B (.slice none 0 0) [] := ⟨[], rfl, World.ownsRow_nil _ _ _ _, fun _ hi => absurd hi (Nat.not_lt_zero _)⟩
theorem OwnLL.below {w w' : World} {B : Nat} {v : Value} {n : List (List ByteArray)} (h : OwnLL w B v n) (hb : Below w.heap.size w w') : OwnLL w' B v n := by
  obtain ⟨vs, h1, h2, h3⟩ := h
  exact ⟨vs, h1, ownl_below h2 hb, fun i hi => (h3 i hi).below hb⟩
theorem OwnLL.lies {w : World} {B : Nat} {v : Value} {n : List (List ByteArray)} (h : OwnLL w B v n) : ∃ a c, v = .slice a n.length c ∧ n.length ≤ c ∧ RowsAt w a n := by
  obtain ⟨vs, h1, h2, h3⟩ := h
  have hh := h2
  rcases h2.2 with ⟨hv, h0⟩ | ⟨g, cap, cur, hv, _, hg, hcap, _⟩
  · exact ⟨none, 0, by rw [hv, h0], by omega, .inl (List.eq_nil_of_length_eq_zero h0)⟩
  · refine ⟨_, cap, hv, hcap, .inr ⟨g, 0, rfl, (Array.getElem?_eq_some_iff.1 hg).1, fun i hi => ?_⟩⟩
    rw [hv] at hh
    obtain ⟨a', c', e, q3, q⟩ := (h3 i hi).lies
    refine ⟨a', c', ?_, q3, q⟩
    rw [Nat.zero_add, World.ownsRow.cellAt hh i (by omega), ← e, List.getD_eq_getElem?_getD, List.getElem?_eq_getElem (by omega)]
    rfl
/-- Rows of different types share no block. -/
theorem rowsl_apart {w : World} {B B' : Nat} {e e' : TypeId} {k k' n n' : Nat} {v v' : Value} {xs xs' : List Value} (h : w.ownsRow B e k v n xs) (h' : w.ownsRow B' e' k' v' n' xs') (hne : e ≠ e') : v.ownBlock = none ∨ v.ownBlock ≠ v'.ownBlock := by
  rcases h.2 with ⟨hv, _⟩ | ⟨g, cap, cur, hv, _, hg, _⟩
  · exact .inl (by rw [hv]; rfl)
  · rcases h'.2 with ⟨hv', _⟩ | ⟨g', cap', cur', hv', _, hg', _⟩
    · exact .inr (by rw [hv, hv']; simp [Value.ownBlock])
    · refine .inr (fun e1 => ?_)
      rw [hv, hv'] at e1
      simp [Value.ownBlock] at e1
      subst e1
      rw [hg] at hg'
      simp at hg'
      exact hne hg'.2
theorem OwnL.kept {w w' : World} {B B' k n : Nat} {v u : Value} {l : List ByteArray} {xs : List Value} (h : OwnL w B u l) (ho : w.ownsRow B' 37 k v n xs) (hg : w.grownBy w' v.ownBlock) : OwnL w' B u l :=
  World.ownsRow.kept h hg (rowsl_apart h ho (by decide))
end Go.Proofs.YtpmlkofceidnjaaGreatDoor

namespace Go.Proofs.YtpmlkofceidnjaaGreatDoor
open Go.RowKit

theorem tcell {w : World} {g : Nat} {a b c : Value} {t : TypeId} (h : w.heap[g]? = some (.cells #[a, b, c] t (0, 0))) : w.cell? ⟨g, 0, none⟩ = some a ∧ w.cell? ⟨g, 1, none⟩ = some b ∧ w.cell? ⟨g, 2, none⟩ = some c ∧ g < w.heap.size :=
  ⟨by rw [cell_of_row w g _ _ _ _ h]; rfl, by rw [cell_of_row w g _ _ _ _ h]; rfl, by rw [cell_of_row w g _ _ _ _ h]; rfl, (Array.getElem?_eq_some_iff.1 h).1⟩
theorem OwnL.base {w : World} {B B' : Nat} {v : Value} {ss : List ByteArray} (h : OwnL w B v ss) (hB : B' ≤ B) : OwnL w B' v ss := by
  refine ⟨h.1, ?_⟩
  rcases h.2 with h0 | ⟨g, cap, cur, hv, hg, r⟩
  · exact .inl h0
  · exact .inr ⟨g, cap, cur, hv, Nat.le_trans hB hg, r⟩
theorem OwnLL.base {w : World} {B B' : Nat} {v : Value} {n : List (List ByteArray)} (h : OwnLL w B v n) (hB : B' ≤ B) : OwnLL w B' v n := by
  obtain ⟨vs, h1, h2, h3⟩ := h
  refine ⟨vs, h1, ⟨h2.1, ?_⟩, fun i hi => (h3 i hi).base hB⟩
  rcases h2.2 with h0 | ⟨g, cap, cur, hv, hg, r⟩
  · exact .inl h0
  · exact .inr ⟨g, cap, cur, hv, Nat.le_trans hB hg, r⟩
theorem strs_at {w : World} {a : Option Addr} {ss : List ByteArray} (h : StrsAt w a ss) (hn : ss ≠ []) : ∃ b o, a = some ⟨b, o, none⟩ ∧ b < w.heap.size ∧ ∀ i, i < ss.length → w.cell? ⟨b, o + i, none⟩ = some (.string (ss.getD i ByteArray.empty)) := by
  rcases h with h | h
  · exact absurd h hn
  · exact h
end Go.Proofs.YtpmlkofceidnjaaGreatDoor


namespace Go.Proofs.YtpmlkofceidnjaaGreatDoor
open Go.RowKit

set_option maxRecDepth 100000 in
set_option maxHeartbeats 1000000 in
theorem mheight_any (h : Int) (w : World) :
    Calls Tryz.prog 50 #[.int .i64 h] w fun e w' => e = .returned (.bool (decide (0 ≤ h ∧ h ≤ 8))) ∧ Below w.heap.size w w' := by
  by_cases h1 : 0 ≤ h
  · have d1 : decide (0 ≤ h) = true := by simp; omega
    obtain ⟨b, hb⟩ : ∃ b, b = decide (h ≤ 8) := ⟨_, rfl⟩
    have hb2 : decide (h ≤ 8) = b := hb.symm
    have hbb : decide (0 ≤ h ∧ h ≤ 8) = b := by rw [hb]; simp [h1]
    rw [hbb]
    clear hbb hb
    cases b
    all_goals
      go_enter Tryz.func50, Tryz.ntmps50
      go_wp2_with fail
      go_ret
      exact ⟨rfl, Below.refl _ _⟩
  · have d1 : decide (0 ≤ h) = false := by simp; omega
    have hbb : decide (0 ≤ h ∧ h ≤ 8) = false := by simp; omega
    rw [hbb]
    clear hbb
    go_enter Tryz.func50, Tryz.ntmps50
    go_wp2_with fail
    go_ret
    exact ⟨rfl, Below.refl _ _⟩
end Go.Proofs.YtpmlkofceidnjaaGreatDoor
namespace Go.Proofs.YtpmlkofceidnjaaGreatDoor
open Go.RowKit

/-- The value of a tree of the definition that lies in w. -/
def TreeV (w : World) (v : Value) (seed : ByteArray) (h : Nat) : Prop := ∃ a c, v = .agg #[.string seed, .string (idT seed), .slice a (h + 1) c] ∧ h + 1 ≤ c ∧ RowsAt w a (levelsS seed h (h + 1))
theorem TreeV.below {w w' : World} {v : Value} {seed : ByteArray} {h : Nat} (t : TreeV w v seed h) (hb : Below w.heap.size w w') : TreeV w' v seed h := by
  obtain ⟨a, c, e, hc, hr⟩ := t
  exact ⟨a, c, e, hc, hr.below hb⟩
theorem rows_at {w : World} {a : Option Addr} {n : List (List ByteArray)} (h : RowsAt w a n) (hn : n ≠ []) : ∃ b o, a = some ⟨b, o, none⟩ ∧ b < w.heap.size ∧ ∀ i, i < n.length → ∃ a' c', w.cell? ⟨b, o + i, none⟩ = some (.slice a' (n.getD i []).length c') ∧ (n.getD i []).length ≤ c' ∧ StrsAt w a' (n.getD i []) := by
  rcases h with h | h
  · exact absurd h hn
  · exact h
/-- The levels of a tree, opened. -/
theorem TreeV.open {w : World} {v : Value} {seed : ByteArray} {h : Nat} (t : TreeV w v seed h) : ∃ b o c, v = .agg #[.string seed, .string (idT seed), .slice (some ⟨b, o, none⟩) (h + 1) c] ∧ h + 1 ≤ c ∧ b < w.heap.size ∧
    ∀ l, l ≤ h → ∃ b' o' c', w.cell? ⟨b, o + l, none⟩ = some (.slice (some ⟨b', o', none⟩) (2 ^ (h - l)) c') ∧ 2 ^ (h - l) ≤ c' ∧ b' < w.heap.size ∧ ∀ i, i < 2 ^ (h - l) → w.cell? ⟨b', o' + i, none⟩ = some (.string (nodeS seed l i)) := by
  obtain ⟨a, c, e, hc, hr⟩ := t
  obtain ⟨b, o, rfl, hb, hl⟩ := rows_at hr (by intro e; have := levelsS_len seed h (h + 1); rw [e] at this; cases this)
  refine ⟨b, o, c, e, hc, hb, fun l hlh => ?_⟩
  obtain ⟨a', c', e1, e2, e3⟩ := hl l (by rw [levelsS_len]; omega)
  rw [levelsS_at seed h (h + 1) l (by omega)] at e1 e2 e3
  rw [levelS_len] at e1 e2
  obtain ⟨b', o', rfl, hb', hs⟩ := strs_at e3 (by intro e; have := levelS_len seed h l; rw [e] at this; have := Nat.one_le_two_pow (n := h - l); simp at *; omega)
  refine ⟨b', o', c', e1, e2, hb', fun i hi => ?_⟩
  have := hs i (by rw [levelS_len]; exact hi)
  rw [levelS_at seed h l i hi] at this
  exact this

end Go.Proofs.YtpmlkofceidnjaaGreatDoor



namespace Go.Proofs.YtpmlkofceidnjaaGreatDoor
open Go.RowKit

def CheckPm : Prop := ∀ (h : Int) (id root : ByteArray) (w : World), Calls Tryz.prog 25 #[keyV h id root] w fun e w' => e = .returned (.int .i64 ((keyE h id root : Nat) : Int)) ∧ Below w.heap.size w w'
end Go.Proofs.YtpmlkofceidnjaaGreatDoor
namespace Go.Proofs.YtpmlkofceidnjaaGreatDoor
open Go.RowKit

set_option maxRecDepth 100000 in
set_option maxHeartbeats 1000000 in
theorem mcheck_any : CheckPm := by
  intro h id root w
  unfold keyV
  obtain ⟨n, hn⟩ : ∃ n, n = id.size := ⟨_, rfl⟩
  obtain ⟨m, hm⟩ : ∃ m, m = root.size := ⟨_, rfl⟩
  have hni : (id.size : Int) = (n : Int) := by rw [hn]
  have hmi : (root.size : Int) = (m : Int) := by rw [hm]
  have HQ := Lib.hid (show keyE h id root = if 0 ≤ h ∧ h ≤ 8 ∧ n = 16 ∧ m = 16 then 0 else 18 by unfold keyE; rw [hn, hm])
  clear hn hm
  by_cases h1 : 0 ≤ h ∧ h ≤ 8
  · have HV : Hid (∀ W : World, Calls Tryz.prog 50 #[.int .i64 h] W fun e w' => e = .returned (.bool true) ∧ Below W.heap.size W w') := Lib.hid fun W => by
      have := mheight_any h W
      rw [decide_eq_true h1] at this
      exact this
    rcases Nat.decEq n 16 with h3 | h3
    · have d3 : ((n : Int) == 16) = false := by simp; omega
      have h3i : ¬ (n : Int) = 16 := by omega
      have HR := Lib.hid (show keyE h id root = 18 by rw [HQ.out, if_neg (by omega)])
      clear HQ h1
      go_enter Tryz.func25, Tryz.ntmps25
      go_wp2_with (go_at_call 50; (with_reducible refine (HV.out _).mono ?_); rintro e w1 ⟨rfl, hb1⟩; have HB1 := Lib.hid ((belowNew w _).next hb1); obtain ⟨k0, k1, k2, hgl⟩ := tcell ((hb1.block w.heap.size (by simp)).trans (heap_alloc_new w _)); clear hb1)
      go_ret
      rw [HR.out]
      exact ⟨rfl, HB1.out⟩
    · subst h3
      rcases Nat.decEq m 16 with h4 | h4
      · have d4 : ((m : Int) == 16) = false := by simp; omega
        have h4i : ¬ (m : Int) = 16 := by omega
        have HR := Lib.hid (show keyE h id root = 18 by rw [HQ.out, if_neg (by omega)])
        clear HQ h1
        go_enter Tryz.func25, Tryz.ntmps25
        go_wp2_with (go_at_call 50; (with_reducible refine (HV.out _).mono ?_); rintro e w1 ⟨rfl, hb1⟩; have HB1 := Lib.hid ((belowNew w _).next hb1); obtain ⟨k0, k1, k2, hgl⟩ := tcell ((hb1.block w.heap.size (by simp)).trans (heap_alloc_new w _)); clear hb1)
        go_ret
        rw [HR.out]
        exact ⟨rfl, HB1.out⟩
      · subst h4
        have HR := Lib.hid (show keyE h id root = 0 by rw [HQ.out, if_pos (by omega)])
        clear HQ h1
        go_enter Tryz.func25, Tryz.ntmps25
        go_wp2_with (go_at_call 50; (with_reducible refine (HV.out _).mono ?_); rintro e w1 ⟨rfl, hb1⟩; have HB1 := Lib.hid ((belowNew w _).next hb1); obtain ⟨k0, k1, k2, hgl⟩ := tcell ((hb1.block w.heap.size (by simp)).trans (heap_alloc_new w _)); clear hb1)
        go_ret
        rw [HR.out]
        exact ⟨rfl, HB1.out⟩
  · have HV : Hid (∀ W : World, Calls Tryz.prog 50 #[.int .i64 h] W fun e w' => e = .returned (.bool false) ∧ Below W.heap.size W w') := Lib.hid fun W => by
      have := mheight_any h W
      rw [decide_eq_false h1] at this
      exact this
    have HR := Lib.hid (show keyE h id root = 18 by rw [HQ.out, if_neg (by omega)])
    clear HQ h1
    go_enter Tryz.func25, Tryz.ntmps25
    go_wp2_with (go_at_call 50; (with_reducible refine (HV.out _).mono ?_); rintro e w1 ⟨rfl, hb1⟩; have HB1 := Lib.hid ((belowNew w _).next hb1); obtain ⟨k0, k1, k2, hgl⟩ := tcell ((hb1.block w.heap.size (by simp)).trans (heap_alloc_new w _)); clear hb1)
    go_ret
    rw [HR.out]
    exact ⟨rfl, HB1.out⟩

end Go.Proofs.YtpmlkofceidnjaaGreatDoor
namespace Go.Proofs.YtpmlkofceidnjaaGreatDoor
open Go.RowKit

theorem pw1 (T : Int) (g : Nat) (x : ByteArray) (w : World) (h : w.cell? ⟨g, 0, none⟩ = some (.string x)) :
    Calls Tryz.prog 52 #[.int .i64 T, .slice (some ⟨g, 0, none⟩) 1 1] w fun e w' => e = .returned (.tuple #[.string (wr1 T x), .int .i64 ((wrapErr T x.size : Nat) : Int)]) ∧ Below w.heap.size w w' := by
  have h1 := wrap_any T _ _ w (reads_one h) (by simp)
  unfold wrapVal at h1
  rw [cat_one] at h1
  exact h1
theorem pw2 (T : Int) (g : Nat) (x y : ByteArray) (w : World) (h : w.cell? ⟨g, 0, none⟩ = some (.string x)) (k : w.cell? ⟨g, 1, none⟩ = some (.string y)) :
    Calls Tryz.prog 52 #[.int .i64 T, .slice (some ⟨g, 0, none⟩) 2 2] w fun e w' => e = .returned (.tuple #[.string (wr2 T x y), .int .i64 ((wrapErr T (x.size + y.size) : Nat) : Int)]) ∧ Below w.heap.size w w' := by
  have h1 := wrap_any T _ _ w (reads_two h k) (by simp)
  unfold wrapVal at h1
  rw [cat_two] at h1
  rw [List.length_append] at h1
  exact h1
set_option maxRecDepth 100000 in
set_option maxHeartbeats 1000000 in
theorem kw1 (T : Int) (g : Nat) (x : ByteArray) (w : World) (h : w.cell? ⟨g, 0, none⟩ = some (.string x)) :
    Calls Tryz.prog 28 #[.int .i64 T, .slice (some ⟨g, 0, none⟩) 1 1] w fun e w' => e = .returned (.string (wr1 T x)) ∧ Below w.heap.size w w' := by
  have H1 := Lib.hid (pw1 T g x w h)
  obtain ⟨R, hR⟩ : ∃ R, R = wr1 T x := ⟨_, rfl⟩
  obtain ⟨n, hn⟩ : ∃ n, n = wrapErr T x.size := ⟨_, rfl⟩
  rw [← hR, ← hn] at H1
  rw [← hR]
  clear h hR hn
  go_enter Tryz.func28, Tryz.ntmps28
  go_wp2_with (first
    | (go_at_call 52; (with_reducible refine H1.out.mono ?_); rintro e w1 ⟨rfl, hb⟩; have HB := Lib.hid hb; clear hb))
  go_ret
  exact ⟨rfl, HB.out⟩
set_option maxRecDepth 100000 in
set_option maxHeartbeats 1000000 in
theorem kw2 (T : Int) (g : Nat) (x y : ByteArray) (w : World) (h : w.cell? ⟨g, 0, none⟩ = some (.string x)) (k : w.cell? ⟨g, 1, none⟩ = some (.string y)) :
    Calls Tryz.prog 28 #[.int .i64 T, .slice (some ⟨g, 0, none⟩) 2 2] w fun e w' => e = .returned (.string (wr2 T x y)) ∧ Below w.heap.size w w' := by
  have H1 := Lib.hid (pw2 T g x y w h k)
  obtain ⟨R, hR⟩ : ∃ R, R = wr2 T x y := ⟨_, rfl⟩
  obtain ⟨n, hn⟩ : ∃ n, n = wrapErr T (x.size + y.size) := ⟨_, rfl⟩
  rw [← hR, ← hn] at H1
  rw [← hR]
  clear h k hR hn
  go_enter Tryz.func28, Tryz.ntmps28
  go_wp2_with (first
    | (go_at_call 52; (with_reducible refine H1.out.mono ?_); rintro e w1 ⟨rfl, hb⟩; have HB := Lib.hid hb; clear hb))
  go_ret
  exact ⟨rfl, HB.out⟩
set_option maxRecDepth 100000 in
set_option maxHeartbeats 1000000 in
theorem kalg_any : AlgPk := by
  intro w
  obtain ⟨C, hC⟩ : ∃ C, C = oidS oidA := ⟨_, rfl⟩
  obtain ⟨X, hX⟩ : ∃ X, X = wr1 6 C := ⟨_, rfl⟩
  have HO : Hid (∀ W : World, Calls Tryz.prog 47 #[.string ⟨#[49, 46, 51, 46, 54, 46, 49, 46, 52, 46, 49, 46, 53, 56, 56, 56, 56, 46, 49, 46, 49]⟩] W fun e w' => (∃ er : Int, e = .returned (.tuple #[.string C, .int .i64 er])) ∧ Below W.heap.size W w') := Lib.hid fun W => by rw [hC]; exact denc_any oidA W (by decide)
  have HC1 : Hid (∀ (g : Nat) (W : World), W.cell? ⟨g, 0, none⟩ = some (.string C) → Calls Tryz.prog 28 #[.int .i64 6, .slice (some ⟨g, 0, none⟩) 1 1] W fun e w' => e = .returned (.string X) ∧ Below W.heap.size W w') := Lib.hid fun g W h => by rw [hX]; exact kw1 6 g C W h
  have HC2 : Hid (∀ (g : Nat) (W : World), W.cell? ⟨g, 0, none⟩ = some (.string X) → Calls Tryz.prog 28 #[.int .i64 48, .slice (some ⟨g, 0, none⟩) 1 1] W fun e w' => e = .returned (.string algS) ∧ Below W.heap.size W w') := Lib.hid fun g W h => by
    have h1 := kw1 48 g X W h
    rw [show wr1 48 X = algS by rw [hX, hC]; rfl] at h1
    exact h1
  clear hC hX
  go_enter Tryz.func23, Tryz.ntmps23
  go_wp2_with (first
    | (go_at_call 47; (with_reducible refine (HO.out _).mono ?_); rintro e w1 ⟨⟨er, rfl⟩, hb⟩; have HB := Lib.hid hb; clear hb)
    | (go_at_call 28; (with_reducible refine (HC1.out _ _ (bx1 _ _ _)).mono ?_); rintro e w2 ⟨rfl, hb⟩; have HB2 := Lib.hid (below_next HB.out (below_next (belowNew _ _) hb)); clear hb)
    | (go_at_call 28; (with_reducible refine (HC2.out _ _ (bx1 _ _ _)).mono ?_); rintro e w3 ⟨rfl, hb⟩; have HB3 := Lib.hid (below_next HB2.out (below_next (belowNew _ _) hb)); clear hb))
  go_ret
  exact ⟨rfl, HB3.out⟩
set_option maxRecDepth 100000 in
set_option maxHeartbeats 1000000 in
theorem kjoin_any (k : KeyT) (hk : keyEE k = 0) (w : World) :
    Calls Tryz.prog 27 #[.agg #[.int .i64 k.1, .string k.2.1, .string k.2.2]] w fun e w' => e = .returned (.string (rawK k)) ∧ Below w.heap.size w w' := by
  obtain ⟨z0, z8, zi, zr⟩ := keyEE_zero hk
  obtain ⟨h, id, root⟩ := k
  simp only at z0 z8 zi zr ⊢
  obtain ⟨n, rfl⟩ : ∃ n : Nat, h = (n : Int) := ⟨h.toNat, by omega⟩
  have h1 := text_one (UInt8.ofNat (n % 256))
  rw [bcell_of (n % 256) (n : Int) (by omega)] at h1
  obtain ⟨X1, hX1⟩ : ∃ X, X = strOf (b1 n) := ⟨_, rfl⟩
  rw [show strOf [UInt8.ofNat (n % 256)] = X1 by rw [hX1]; rfl] at h1
  have h1s : X1.size = 1 := by rw [hX1]; rfl
  obtain ⟨S1, hS1⟩ : ∃ S, S = X1 ++ id := ⟨_, rfl⟩
  have hS1s : S1.size = 17 := by rw [hS1, ByteArray.size_append, h1s, zi]
  obtain ⟨S2, hS2⟩ : ∃ S, S = S1 ++ root := ⟨_, rfl⟩
  have HR : Hid (rawK ((n : Int), id, root) = S2) := Lib.hid (by rw [hS2, hS1, hX1]; rfl)
  have a1 : X1 ++ id = S1 := hS1.symm
  have a2 : S1 ++ root = S2 := hS2.symm
  have z1 : ((X1.size : Nat) : Int) + ((id.size : Nat) : Int) ≤ 9223372036854775807 := by omega
  have z2 : ((S1.size : Nat) : Int) + ((root.size : Nat) : Int) ≤ 9223372036854775807 := by omega
  have hmod : (n : Int) % 256 = (n : Int) := by omega
  rw [HR.out]
  have h2 : (convert 53 9 (.slice (some ⟨w.heap.size + 1, 0, none⟩) 1 1)).run Tryz.prog ((w.alloc (.cells #[.int .i64 (n : Int), .string id, .string root] 23)).alloc (.cells #[.int .u8 (n : Int)] 5)) = .ok (.string X1) ((w.alloc (.cells #[.int .i64 (n : Int), .string id, .string root] 23)).alloc (.cells #[.int .u8 (n : Int)] 5)) := by
    have h3 := h1 (w.alloc (.cells #[.int .i64 (n : Int), .string id, .string root] 23))
    rw [show (w.alloc (.cells #[.int .i64 (n : Int), .string id, .string root] 23)).heap.size = w.heap.size + 1 by simp] at h3
    exact h3
  clear hX1 h1s hS1 hS1s hS2 hk z0 zi zr h1
  go_enter Tryz.func27, Tryz.ntmps27
  go_wp2_with fail
  go_ret
  exact ⟨rfl, below_next (belowNew _ _) (belowNew _ _)⟩
end Go.Proofs.YtpmlkofceidnjaaGreatDoor
namespace Go.Proofs.YtpmlkofceidnjaaGreatDoor
open Go.RowKit

theorem kck_any (k : KeyT) (w : World) :
    Calls Tryz.prog 25 #[keyVV k] w fun e w' => e = .returned (.int .i64 ((keyEE k : Nat) : Int)) ∧ Below w.heap.size w w' := mcheck_any k.1 k.2.1 k.2.2 w
theorem wrapStr_small (T : Int) (c : List UInt8) (h : c.length ≤ 40) : (wrapStr T c).size ≤ 50 := by
  unfold wrapStr
  split
  · show (wrapL T.toNat c).length ≤ _
    unfold wrapL
    rw [List.length_cons, List.length_append, lenO_length]
    unfold lsz
    split <;> omega
  · show 0 ≤ _; omega
set_option maxRecDepth 100000 in
set_option maxHeartbeats 1000000 in
theorem kiden_any (k : KeyT) (w : World) (hK : Holds w 0 kWords) :
    Calls Tryz.prog 13 #[keyVV k] w fun e w' => e = .returned (.string (idenS k)) ∧ Below w.heap.size w w' := by
  have HKK := Lib.hid hK
  clear hK
  have HRW := Lib.hid (fun (hk : keyEE k = 0) (W : World) => kjoin_any k hk W)
  have HCK := Lib.hid (fun W : World => kck_any k W)
  unfold idenS
  obtain ⟨h, id, root⟩ := k
  unfold keyVV keyV at HCK ⊢
  simp only at HRW HCK ⊢
  obtain ⟨g, hg⟩ : ∃ g, g = w.heap.size := ⟨_, rfl⟩
  obtain ⟨W1, hW1⟩ : ∃ W1, W1 = w.alloc (.cells #[.int .i64 h, .string id, .string root] 23) := ⟨_, rfl⟩
  have hq1 : W1.heap[g]? = some (.cells #[.int .i64 h, .string id, .string root] 23 (0, 0)) := by rw [hW1, hg]; exact heap_alloc_new w _
  have HW : Hid (Below w.heap.size w W1) := Lib.hid (by rw [hW1]; exact belowNew w _)
  have HW1 := Lib.hid hW1.symm
  have HG := Lib.hid hg
  have HQ1 := Lib.hid hq1
  clear hg
  rcases keyEE_or (h, id, root) with hz | hz
  · have HRW2 := Lib.hid (HRW.out hz)
    have HSZ := Lib.hid (rawK_size hz)
    rw [if_pos hz]
    rw [hz] at HCK
    obtain ⟨X, hX⟩ : ∃ X, X = rawK (h, id, root) := ⟨_, rfl⟩
    rw [← hX] at HRW2 HSZ ⊢
    have HSH : Hid (∀ W : World, Holds (W.alloc (.cells #[.string X] 9)) 0 kWords → Calls Tryz.prog 32 #[.slice (some ⟨W.heap.size, 0, none⟩) 1 1] (W.alloc (.cells #[.string X] 9)) fun e w' => e = .returned (.string (shortStr X.data.toList)) ∧ Below (W.alloc (.cells #[.string X] 9)).heap.size (W.alloc (.cells #[.string X] 9)) w') := Lib.hid fun W hk => by
      have h1 := short_any _ _ _ (reads_row W [X] 9) (show (1 : Nat) < 4611686018427387904 by decide) hk (by show (X.data.toList ++ []).length < _; rw [List.append_nil]; show X.size < _; rw [HSZ.out]; decide)
      rw [show cat_z [X] = X.data.toList by simp [cat_z]] at h1
      exact h1
    clear hX HRW hz hW1 hq1
    go_enter Tryz.func13, Tryz.ntmps13
    go_wp2_with fail
    rw [HW1.out]
    refine (HCK.out _).mono ?_
    rintro e w2 ⟨rfl, hb2⟩
    obtain ⟨c0, c1, c2, hgl⟩ := kcell3 ((hb2.block g (Array.getElem?_eq_some_iff.1 HQ1.out).1).trans HQ1.out)
    have HB2 := Lib.hid (below_next HW.out hb2)
    rw [← HG.out]
    clear hb2
    go_wp2_with (first
      | (go_at_call 27; (with_reducible refine (HRW2.out _).mono ?_); rintro e w3 ⟨rfl, hb3⟩; have HB3 := Lib.hid (below_next HB2.out hb3); clear hb3)
      | (go_at_call 32; (with_reducible refine (HSH.out _ (HKK.out.old (below_next HB3.out (belowNew _ _)))).mono ?_); rintro e w4 ⟨rfl, hb4⟩; have HB4 := Lib.hid (below_next HB3.out (below_next (belowNew _ _) hb4)); clear hb4))
    go_ret
    exact ⟨rfl, HB4.out⟩
  · rw [if_neg (by omega)]
    rw [hz] at HCK
    clear HRW hz hW1 hq1
    go_enter Tryz.func13, Tryz.ntmps13
    go_wp2_with fail
    rw [HW1.out]
    refine (HCK.out _).mono ?_
    rintro e w2 ⟨rfl, hb2⟩
    have HB2 := Lib.hid (below_next HW.out hb2)
    clear hb2
    go_wp2_with fail
    go_ret
    exact ⟨rfl, HB2.out⟩
set_option maxRecDepth 100000 in
set_option maxHeartbeats 1000000 in
theorem kenck_any : EncPk := by
  intro k w
  have HRW := Lib.hid (fun (hk : keyEE k = 0) (W : World) => kjoin_any k hk W)
  have HCK := Lib.hid (fun W : World => kck_any k W)
  unfold encKV encK
  obtain ⟨h, id, root⟩ := k
  unfold keyVV keyV at HCK ⊢
  simp only at HRW HCK ⊢
  obtain ⟨g, hg⟩ : ∃ g, g = w.heap.size := ⟨_, rfl⟩
  obtain ⟨W1, hW1⟩ : ∃ W1, W1 = w.alloc (.cells #[.int .i64 h, .string id, .string root] 23) := ⟨_, rfl⟩
  have hq1 : W1.heap[g]? = some (.cells #[.int .i64 h, .string id, .string root] 23 (0, 0)) := by rw [hW1, hg]; exact heap_alloc_new w _
  have HW : Hid (Below w.heap.size w W1) := Lib.hid (by rw [hW1]; exact belowNew w _)
  have HW1 := Lib.hid hW1.symm
  have HG := Lib.hid hg
  have HQ1 := Lib.hid hq1
  clear hg
  rcases keyEE_or (h, id, root) with hz | hz
  · have HRW2 := Lib.hid (HRW.out hz)
    have hsz := rawK_size hz
    rw [if_pos hz]
    rw [hz] at HCK
    obtain ⟨X, hX⟩ : ∃ X, X = rawK (h, id, root) := ⟨_, rfl⟩
    rw [← hX] at HRW2 hsz ⊢
    obtain ⟨C1, hC1⟩ : ∃ C, C = strOf [0] ++ X := ⟨_, rfl⟩
    have hC1s : C1.size = 34 := by rw [hC1, ByteArray.size_append, hsz]; rfl
    rw [← hC1]
    have HPB : Hid (∀ W : World, Calls Tryz.prog 26 #[.string X, .int .i64 0] W fun e w' => e = .returned (.tuple #[.string C1, .int .i64 0]) ∧ Below W.heap.size W w') := Lib.hid fun W => by
      have h1 := pbits_any X ((0 : UInt8).toNat : Int) W (by omega)
      rw [pbits_good (by decide) (unusedOk_zero X), ← hC1] at h1
      exact h1
    obtain ⟨Y, hY⟩ : ∃ Y, Y = wr1 3 C1 := ⟨_, rfl⟩
    obtain ⟨A, hA⟩ : ∃ A, A = algS := ⟨_, rfl⟩
    obtain ⟨Z, hZ⟩ : ∃ Z, Z = wr2 48 A Y := ⟨_, rfl⟩
    have hAs : A.size = 14 := by rw [hA]; exact algS_size
    have hYs : Y.size ≤ 131000 := by
      rw [hY]
      refine Nat.le_trans (wrapStr_small 3 C1.data.toList ?_) (by decide)
      show C1.size ≤ 40
      omega
    have HAL : Hid (∀ W : World, Calls Tryz.prog 23 #[] W fun e w' => e = .returned (.string A) ∧ Below W.heap.size W w') := Lib.hid fun W => by rw [hA]; exact kalg_any W
    have HW3 : Hid (∀ (gg : Nat) (W : World), W.cell? ⟨gg, 0, none⟩ = some (.string C1) → Calls Tryz.prog 28 #[.int .i64 3, .slice (some ⟨gg, 0, none⟩) 1 1] W fun e w' => e = .returned (.string Y) ∧ Below W.heap.size W w') := Lib.hid fun gg W hh => by
      have h1 := kw1 3 gg C1 W hh
      rw [← hY] at h1
      exact h1
    have HW48 : Hid (∀ (gg : Nat) (W : World), W.cell? ⟨gg, 0, none⟩ = some (.string A) → W.cell? ⟨gg, 1, none⟩ = some (.string Y) → Calls Tryz.prog 28 #[.int .i64 48, .slice (some ⟨gg, 0, none⟩) 2 2] W fun e w' => e = .returned (.string Z) ∧ Below W.heap.size W w') := Lib.hid fun gg W hh kk => by
      have h1 := kw2 48 gg A Y W hh kk
      rw [← hZ] at h1
      exact h1
    rw [← hA, ← hY, ← hZ]
    clear hX HRW hz hW1 hq1 hC1 hC1s hsz hY hA hZ hAs hYs
    go_enter Tryz.func11, Tryz.ntmps11
    go_wp2_with fail
    rw [HW1.out]
    refine (HCK.out _).mono ?_
    rintro e w2 ⟨rfl, hb2⟩
    obtain ⟨c0, c1, c2, hgl⟩ := kcell3 ((hb2.block g (Array.getElem?_eq_some_iff.1 HQ1.out).1).trans HQ1.out)
    have HB2 := Lib.hid (below_next HW.out hb2)
    rw [← HG.out]
    clear hb2
    go_wp2_with (first
      | (go_at_call 27; (with_reducible refine (HRW2.out _).mono ?_); rintro e w3 ⟨rfl, hb3⟩; have HB3 := Lib.hid (below_next HB2.out hb3); clear hb3)
      | (go_at_call 26; (with_reducible refine (HPB.out _).mono ?_); rintro e w4 ⟨rfl, hb4⟩; have HB4 := Lib.hid (below_next HB3.out hb4); clear hb4)
      | (go_at_call 23; (with_reducible refine (HAL.out _).mono ?_); rintro e w5 ⟨rfl, hb5⟩; have HB5 := Lib.hid (below_next HB4.out hb5); clear hb5)
      | (go_at_call 28; (with_reducible refine (HW3.out _ _ (bx1 _ _ _)).mono ?_); rintro e w6 ⟨rfl, hb6⟩; have HB6 := Lib.hid (below_next HB5.out (below_next (belowNew _ _) hb6)); clear hb6)
      | (go_at_call 28; (with_reducible refine (HW48.out _ _ (bx2a _ _ _ _) (bx2b _ _ _ _)).mono ?_); rintro e w7 ⟨rfl, hb7⟩; have HB7 := Lib.hid (below_next HB6.out (below_next (belowNew _ _) hb7)); clear hb7))
    go_ret2
    exact ⟨rfl, HB7.out⟩
  · rw [if_neg (by omega)]
    rw [hz] at HCK
    clear HRW hz hW1 hq1
    go_enter Tryz.func11, Tryz.ntmps11
    go_wp2_with fail
    rw [HW1.out]
    refine (HCK.out _).mono ?_
    rintro e w2 ⟨rfl, hb2⟩
    have HB2 := Lib.hid (below_next HW.out hb2)
    clear hb2
    go_wp2_with fail
    go_ret2
    exact ⟨rfl, HB2.out⟩
end Go.Proofs.YtpmlkofceidnjaaGreatDoor
