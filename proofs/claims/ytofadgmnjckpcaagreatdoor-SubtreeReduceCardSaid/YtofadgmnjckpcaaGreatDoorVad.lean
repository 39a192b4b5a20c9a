/-
  Attributes and relative names in memory: that they can be read at an address, and that a slice of a call's own holds them. Nothing is claimed of the program here.
  The contracts of oid.Valid and of the reference's ValidOID.
  The contracts of checkAttribute and what it calls (the closure, slices.ContainsFunc): the first error of an attribute that stands behind others.
  The contracts of checkRelative and Check: the first error of a relative name, of a name.
  The contracts of the reference's checkAttributes and CheckName: the same first error.
  The contracts of the reference's Fold and MatchText; nothing that was there before the call has changed.
-/
import Derived.Test.YtofadgmnjckpcaaGreatDoorVac
import Derived.Deep.CutRange
namespace Go.Proofs.YtofadgmnjckpcaaGreatDoor
open Go.RowKit

theorem block_lt {w : World} {b o : Nat} {v : Value} (h : w.cell? ⟨b, o, none⟩ = some v) : b < w.heap.size := World.block_lt_of_cell? _ _ h
/-- At the address lie the attributes l. -/
def ALies (w : World) (a : Option Addr) (l : List At) : Prop :=
  l = [] ∨ ∃ b o, a = some ⟨b, o, none⟩ ∧ ∀ i, i < l.length → w.cell? ⟨b, o + i * 3, none⟩ = some (.string (l.getD i noAt).1) ∧ w.cell? ⟨b, o + i * 3 + 1, none⟩ = some (.int .i64 (l.getD i noAt).2.1) ∧ w.cell? ⟨b, o + i * 3 + 2, none⟩ = some (.string (l.getD i noAt).2.2)
theorem ALies.nil (w : World) (a : Option Addr) : ALies w a [] := .inl rfl
theorem ALies.below {w w' : World} {a : Option Addr} {l : List At} (h : ALies w a l) (hb : Below w.heap.size w w') : ALies w' a l := by
  rcases h with h | ⟨b, o, h1, h2⟩
  · exact .inl h
  · refine .inr ⟨b, o, h1, fun i hi => ?_⟩
    obtain ⟨c0, c1, c2⟩ := h2 i hi
    exact ⟨(hb.cell (block_lt c0)).trans c0, (hb.cell (block_lt c1)).trans c1, (hb.cell (block_lt c2)).trans c2⟩
theorem ALies.take {w : World} {a : Option Addr} {l : List At} (h : ALies w a l) (k : Nat) : ALies w a (l.take k) := by
  rcases h with h | ⟨b, o, h1, h2⟩
  · exact .inl (by rw [h]; simp)
  · refine .inr ⟨b, o, h1, fun i hi => ?_⟩
    rw [List.length_take] at hi
    rw [getD_take _ _ _ (by omega)]
    exact h2 i (by omega)
theorem ALies.at {w : World} {a : Option Addr} {l : List At} (h : ALies w a l) (k : Nat) (hk : k < l.length) : ∃ b o, a = some ⟨b, o, none⟩ ∧ b < w.heap.size ∧
    w.cell? ⟨b, o + k * 3, none⟩ = some (.string (l.getD k noAt).1) ∧ w.cell? ⟨b, o + k * 3 + 1, none⟩ = some (.int .i64 (l.getD k noAt).2.1) ∧ w.cell? ⟨b, o + k * 3 + 2, none⟩ = some (.string (l.getD k noAt).2.2) := by
  rcases h with h | ⟨b, o, h1, h2⟩
  · rw [h] at hk; exact absurd hk (Nat.not_lt_zero _)
  · obtain ⟨c0, c1, c2⟩ := h2 k hk
    exact ⟨b, o, h1, block_lt c0, c0, c1, c2⟩
/-- At the address lie the relative names n. -/
def RLies (w : World) (a : Option Addr) (n : Nm) : Prop :=
  n = [] ∨ ∃ b o, a = some ⟨b, o, none⟩ ∧ ∀ i, i < n.length → ∃ a' c', w.cell? ⟨b, o + i, none⟩ = some (.slice a' (n.getD i []).length c') ∧ (n.getD i []).length ≤ c' ∧ ALies w a' (n.getD i [])
theorem RLies.nil (w : World) (a : Option Addr) : RLies w a [] := .inl rfl
theorem RLies.below {w w' : World} {a : Option Addr} {n : Nm} (h : RLies w a n) (hb : Below w.heap.size w w') : RLies w' a n := by
  rcases h with h | ⟨b, o, h1, h2⟩
  · exact .inl h
  · refine .inr ⟨b, o, h1, fun i hi => ?_⟩
    obtain ⟨a', c', q1, q3, q2⟩ := h2 i hi
    exact ⟨a', c', (hb.cell (block_lt q1)).trans q1, q3, q2.below hb⟩
theorem RLies.take {w : World} {a : Option Addr} {n : Nm} (h : RLies w a n) (k : Nat) : RLies w a (n.take k) := by
  rcases h with h | ⟨b, o, h1, h2⟩
  · exact .inl (by rw [h]; simp)
  · refine .inr ⟨b, o, h1, fun i hi => ?_⟩
    rw [List.length_take] at hi
    rw [getD_take _ _ _ (by omega)]
    exact h2 i (by omega)
theorem RLies.at {w : World} {a : Option Addr} {n : Nm} (h : RLies w a n) (k : Nat) (hk : k < n.length) : ∃ b o, a = some ⟨b, o, none⟩ ∧ b < w.heap.size ∧
    ∃ a' c', w.cell? ⟨b, o + k, none⟩ = some (.slice a' (n.getD k []).length c') ∧ (n.getD k []).length ≤ c' ∧ ALies w a' (n.getD k []) := by
  rcases h with h | ⟨b, o, h1, h2⟩
  · rw [h] at hk; exact absurd hk (Nat.not_lt_zero _)
  · obtain ⟨a', c', q1, q3, q2⟩ := h2 k hk
    exact ⟨b, o, h1, block_lt q1, a', c', q1, q3, q2⟩
/-- The struct value v is the name n. -/
def NameV (w : World) (v : Value) (n : Nm) : Prop := ∃ a c, v = .agg #[.slice a n.length c] ∧ n.length ≤ c ∧ RLies w a n
theorem NameV.below {w w' : World} {v : Value} {n : Nm} (h : NameV w v n) (hb : Below w.heap.size w w') : NameV w' v n := by
  obtain ⟨a, c, h1, h3, h2⟩ := h
  exact ⟨a, c, h1, h3, h2.below hb⟩

/-! ### Slices of a call's own -/
def atsCells (l : List At) : List Value := l.flatMap atCells
theorem atsCells_length (l : List At) : (atsCells l).length = l.length * 3 := by
  induction l with
  | nil => rfl
  | cons e r ih => simp only [atsCells, List.flatMap_cons, List.length_append] at ih ⊢; rw [ih]; simp [atCells]; omega
theorem atsCells_snoc (l : List At) (e : At) : atsCells (l ++ [e]) = atsCells l ++ atCells e := by simp [atsCells]
theorem ats_at (l : List At) (i : Nat) (hi : i < l.length) (j : Nat) (hj : j < 3) : (atsCells l)[i * 3 + j]? = (atCells (l.getD i noAt))[j]? := by
  induction l generalizing i with
  | nil => exact absurd hi (Nat.not_lt_zero _)
  | cons e r ih =>
    have e0 : atsCells (e :: r) = atCells e ++ atsCells r := rfl
    have el : (atCells e).length = 3 := rfl
    rw [e0]
    cases i with
    | zero => rw [List.getElem?_append_left (by omega)]; simp
    | succ i =>
      rw [List.getElem?_append_right (by omega), el, show (i + 1) * 3 + j - 3 = i * 3 + j by omega, ih i (by simpa using hi)]
      rfl
theorem atCells_one (e : At) : ∀ u ∈ atCells e, u.oneCell' = true := by
  intro u hu
  simp only [atCells, List.mem_cons, List.not_mem_nil, or_false] at hu
  rcases hu with rfl | rfl | rfl <;> rfl
theorem atsCells_one (l : List At) : ∀ u ∈ atsCells l, u.oneCell' = true := by
  intro u hu
  obtain ⟨e, _, h⟩ := List.mem_flatMap.1 hu
  exact atCells_one e u h
theorem atInfo : (Tryz.prog.info? 69).map (fun i => (i.zero, i.size, i.bytes)) = some (some (.agg #[.string ⟨#[]⟩, .int .i64 0, .string ⟨#[]⟩]), 3, 40) := by kernel_rfl
/-- The slice value v, of memory from block B on, holds the attributes l. -/
def OwnA (w : World) (B : Nat) (v : Value) (l : List At) : Prop := w.ownsRow B 69 3 v l.length (atsCells l)
theorem OwnA.nil (w : World) (B : Nat) : OwnA w B (.slice none 0 0) [] := World.ownsRow_nil _ _ _ _
theorem OwnA.below {w w' : World} {B : Nat} {v : Value} {l : List At} (h : OwnA w B v l) (hb : Below w.heap.size w w') : OwnA w' B v l := own_below h hb
theorem OwnA.lies {w : World} {B : Nat} {v : Value} {l : List At} (h : OwnA w B v l) : ∃ a c, v = .slice a l.length c ∧ l.length ≤ c ∧ ALies w a l := by
  have hh := h
  rcases h.2 with ⟨hv, h0⟩ | ⟨g, cap, cur, hv, _, _, hcap, _⟩
  · exact ⟨none, 0, by rw [hv, h0], by omega, .inl (List.eq_nil_of_length_eq_zero h0)⟩
  · refine ⟨_, cap, hv, hcap, .inr ⟨g, 0, rfl, fun i hi => ?_⟩⟩
    unfold OwnA at hh
    rw [hv] at hh
    have q : ∀ j, j < 3 → w.cell? ⟨g, i * 3 + j, none⟩ = (atCells (l.getD i noAt))[j]? := fun j hj => by
      rw [World.ownsRow.cellAt hh (i * 3 + j) (by omega)]
      exact ats_at l i hi j hj
    rw [Nat.zero_add]
    exact ⟨q 0 (by omega), q 1 (by omega), q 2 (by omega)⟩
/-- The slice value v, of memory from block B on, holds the relative names n, each in memory of its own. -/
def OwnN (w : World) (B : Nat) (v : Value) (n : Nm) : Prop := ∃ vs : List Value, vs.length = n.length ∧ w.ownsRow B 67 1 v n.length vs ∧ ∀ i, i < n.length → OwnA w B (vs.getD i (.slice none 0 0)) (n.getD i [])
theorem OwnN.nil (w : World) (B : Nat) : OwnN w B (.slice none 0 0) [] := ⟨[], rfl, World.ownsRow_nil _ _ _ _, fun _ hi => absurd hi (Nat.not_lt_zero _)⟩
theorem OwnN.below {w w' : World} {B : Nat} {v : Value} {n : Nm} (h : OwnN w B v n) (hb : Below w.heap.size w w') : OwnN w' B v n := by
  obtain ⟨vs, h1, h2, h3⟩ := h
  exact ⟨vs, h1, own_below h2 hb, fun i hi => (h3 i hi).below hb⟩
theorem OwnN.lies {w : World} {B : Nat} {v : Value} {n : Nm} (h : OwnN w B v n) : ∃ a c, v = .slice a n.length c ∧ n.length ≤ c ∧ RLies w a n := by
  obtain ⟨vs, h1, h2, h3⟩ := h
  have hh := h2
  rcases h2.2 with ⟨hv, h0⟩ | ⟨g, cap, cur, hv, _, _, hcap, _⟩
  · exact ⟨none, 0, by rw [hv, h0], by omega, .inl (List.eq_nil_of_length_eq_zero h0)⟩
  · refine ⟨_, cap, hv, hcap, .inr ⟨g, 0, rfl, fun i hi => ?_⟩⟩
    rw [hv] at hh
    obtain ⟨a', c', e, q3, q⟩ := (h3 i hi).lies
    refine ⟨a', c', ?_, q3, q⟩
    rw [Nat.zero_add, World.ownsRow.cellAt hh i (by omega), ← e, List.getD_eq_getElem?_getD, List.getElem?_eq_getElem (by omega)]
    rfl
/-- Rows of different types share no block. -/
theorem rows_apart {w : World} {B B' : Nat} {e e' : TypeId} {k k' n n' : Nat} {v v' : Value} {xs xs' : List Value} (h : w.ownsRow B e k v n xs) (h' : w.ownsRow B' e' k' v' n' xs') (hne : e ≠ e') : v.ownBlock = none ∨ v.ownBlock ≠ v'.ownBlock := by
  rcases h.2 with ⟨hv, _⟩ | ⟨g, cap, cur, hv, _, hg, _⟩
  · exact .inl (by rw [hv]; rfl)
  · rcases h'.2 with ⟨hv', _⟩ | ⟨g', cap', cur', hv', _, hg', _⟩
    · exact .inr (by rw [hv, hv']; simp [Value.ownBlock])
    · refine .inr (fun e1 => ?_)
      rw [hv, hv'] at e1
      simp [Value.ownBlock] at e1
      subst e1
      rw [hg] at hg'
      simp at hg'
      exact hne hg'.2
/-- A row of attributes is kept while a slice of relative names grows. -/
theorem OwnA.kept {w w' : World} {B B' k n : Nat} {v u : Value} {l : List At} {xs : List Value} (h : OwnA w B u l) (ho : w.ownsRow B' 67 k v n xs) (hg : w.grownBy w' v.ownBlock) : OwnA w' B u l :=
  World.ownsRow.kept h hg (rows_apart h ho (by decide))
theorem getD_snoc_lt {α : Type} (l : List α) (x d : α) (i : Nat) (h : i < l.length) : (l ++ [x]).getD i d = l.getD i d := by
  rw [List.getD_eq_getElem?_getD, List.getD_eq_getElem?_getD, List.getElem?_append_left h]
theorem getD_snoc_eq {α : Type} (l : List α) (x d : α) : (l ++ [x]).getD l.length d = x := by
  rw [List.getD_eq_getElem?_getD, List.getElem?_append_right (Nat.le_refl _)]; simp
/-- One relative name more. -/
theorem OwnN.snoc {w w' : World} {B : Nat} {v v' u : Value} {n : Nm} {r : List At} {vs : List Value} (h1 : vs.length = n.length) (h2 : w.ownsRow B 67 1 v n.length vs) (h3 : ∀ i, i < n.length → OwnA w B (vs.getD i (.slice none 0 0)) (n.getD i []))
    (hr : OwnA w B u r) (hg : w.grownBy w' v.ownBlock) (h4 : w'.ownsRow B 67 1 v' (n.length + 1) (vs ++ [u])) : OwnN w' B v' (n ++ [r]) := by
  refine ⟨vs ++ [u], by simp [h1], by rw [List.length_append]; exact h4, fun i hi => ?_⟩
  by_cases hlt : i < n.length
  · rw [getD_snoc_lt _ _ _ _ (by omega), getD_snoc_lt _ _ _ _ hlt]
    exact (h3 i hlt).kept h2 hg
  · rw [List.length_append, List.length_singleton] at hi
    obtain rfl : i = n.length := by omega
    rw [getD_snoc_eq, ← h1, getD_snoc_eq]
    exact hr.kept h2 hg
theorem OwnA.base {w : World} {B B' : Nat} {v : Value} {l : List At} (h : OwnA w B v l) (hB : B' ≤ B) : OwnA w B' v l := own_base h hB
theorem OwnN.base {w : World} {B B' : Nat} {v : Value} {n : Nm} (h : OwnN w B v n) (hB : B' ≤ B) : OwnN w B' v n := by
  obtain ⟨vs, h1, h2, h3⟩ := h
  exact ⟨vs, h1, own_base h2 hB, fun i hi => (h3 i hi).base hB⟩
/-- A struct that holds a name of a call's own. -/
def OwnV (w : World) (B : Nat) (v : Value) (n : Nm) : Prop := ∃ s, v = .agg #[s] ∧ OwnN w B s n
theorem OwnV.name {w : World} {B : Nat} {v : Value} {n : Nm} (h : OwnV w B v n) : NameV w v n := by
  obtain ⟨s, rfl, h⟩ := h
  obtain ⟨a, c, rfl, h3, h2⟩ := h.lies
  exact ⟨a, c, rfl, h3, h2⟩
end Go.Proofs.YtofadgmnjckpcaaGreatDoor
namespace Go.Proofs.YtofadgmnjckpcaaGreatDoor
open Go.RowKit

end Go.Proofs.YtofadgmnjckpcaaGreatDoor
namespace Go.Proofs.YtofadgmnjckpcaaGreatDoor
open Go.RowKit

def SmallA (a : At) : Prop := a.1.size ≤ 1000000 ∧ a.2.2.size ≤ 1000000
def SmallR (r : List At) : Prop := r.length ≤ 1000000 ∧ ∀ i, i < r.length → SmallA (r.getD i noAt)
def SmallN (n : Nm) : Prop := n.length ≤ 1000000 ∧ ∀ i, i < n.length → SmallR (n.getD i [])
theorem beq_str (x y : ByteArray) : (x.toList == y.toList) = decide (x = y) := by
  rw [Bool.eq_iff_iff, beq_iff_eq, decide_eq_true_iff]
  exact toList_inj

theorem box_cell (w : World) (x y z : Value) (t : TypeId) : (w.alloc (.cells #[x, y, z] t)).cell? ⟨w.heap.size, 0, none⟩ = some x := by
  rw [cell_of_row _ _ 0 _ _ _ (heap_alloc_new w _)]; rfl
end Go.Proofs.YtofadgmnjckpcaaGreatDoor
namespace Go.Proofs.YtofadgmnjckpcaaGreatDoor
open Go.RowKit

end Go.Proofs.YtofadgmnjckpcaaGreatDoor
namespace Go.Proofs.YtofadgmnjckpcaaGreatDoor
open Go.RowKit

end Go.Proofs.YtofadgmnjckpcaaGreatDoor
namespace Go.Proofs.YtofadgmnjckpcaaGreatDoor
open Go.RowKit

/-- The text of the first bytes of a row that the call has made. -/
theorem own_pre {w : World} {B g n cap : Nat} {l : List UInt8} (h : OwnB 5 w B (.slice (some ⟨g, 0, none⟩) n cap) l) (hl : l.length = n) (m : Nat) (hm : m ≤ n) :
    (convert 119 9 (.slice (some ⟨g, 0, none⟩) m cap)).run Tryz.prog w = .ok (.string (strOf (l.take m))) w := by
  have e : (l.take m).length = m := by rw [List.length_take]; omega
  have := run_convert_bytes_back w 119 9 5 ⟨g, 0, none⟩ cap (l.take m) Tryz.underlying119 Tryz.underlying5 Tryz.underlying9 (fun j hj => by
    have hadd : (⟨g, 0, none⟩ : Addr).add j = ⟨g, j, none⟩ := by unfold Addr.add; split <;> simp_all
    rw [hadd, own_cell h hl j (by omega)]
    simp only [List.getElem_take]
    rw [List.getD_eq_getElem?_getD, List.getElem?_eq_getElem (by omega)]
    rfl)
  rw [e] at this
  exact this
theorem last_of {O : List UInt8} (h : O ≠ []) : O.getLast? = some (O.getD (O.length - 1) 0) := by
  have hp : 0 < O.length := List.length_pos_iff.2 h
  rw [List.getLast?_eq_getElem?, List.getD_eq_getElem?_getD, List.getElem?_eq_getElem (by omega)]
  rfl
theorem map_at (L : List UInt8) {k : Nat} (h : k < L.length) : (L.map small).getD k 0 = small (L.getD k 0) := by
  rw [List.getD_eq_getElem?_getD, List.getD_eq_getElem?_getD, List.getElem?_map, List.getElem?_eq_getElem h]
  rfl

set_option maxRecDepth 100000 in
set_option maxHeartbeats 2000000 in
theorem rfold_any (s : ByteArray) (w : World) (hn : s.size ≤ 1099511627776) :
    Calls Tryz.prog 138 #[.string s] w fun e w' => e = .returned (.string (foldS s)) ∧ Below w.heap.size w w' := by
  obtain ⟨i0, hi, hz0, hz1, hz2⟩ := info_parts byteInfo
  have HLOW := Lib.hid (fun w => lower_any s w hn)
  obtain ⟨L, hL⟩ : ∃ L, L = s.data.toList := ⟨_, rfl⟩
  have hz : L.length ≤ 1099511627776 := by rw [hL]; exact hn
  have hfS : foldS s = strOf (foldRun L).1 := by rw [hL]; rfl
  rw [← hL] at HLOW
  have HFS := Lib.hid hfS
  clear hfS hL hn
  obtain ⟨M, hM⟩ : ∃ M, M = strOf (L.map small) := ⟨_, rfl⟩
  have hMz : M.size = L.length := by rw [hM, strOf_size, List.length_map]
  have HMA := Lib.hid (show ∀ k, k < L.length → u8at M k = (small (L.getD k 0)).toNat from fun k hk => by rw [hM, byte_at, strOf_list, map_at L hk])
  rw [← hM] at HLOW
  clear hM
  go_enter Tryz.func138, Tryz.ntmps138
  go_wp2_with (go_at_call 97; (with_reducible refine (HLOW.out _).mono ?_); rintro e w1 ⟨rfl, hb1⟩; have HB1 := Lib.hid hb1; clear hb1)
  go_loopw [3, 4] (fun v i wr => ∃ (k : Nat) (O : List UInt8), k ≤ M.size ∧ i = .int .i64 k ∧ O = refOut (foldRun (L.take k)) ∧ OwnB 5 wr w.heap.size v O ∧ Below w.heap.size w wr) (fun _ i _ => M.size - (intOf i).toNat)
  case atStart => exact ⟨0, [], Nat.zero_le _, rfl, rfl, own_nil _ _ _, HB1.out⟩
  case round =>
    obtain ⟨k, O, hk, rfl, hO, hown, hb⟩ := hrel
    have hOl : O.length ≤ k := by
      have h1 := fold_len (L.take k)
      rw [← hO, List.length_take] at h1
      omega
    have HOO := Lib.hid hO
    have HB := Lib.hid hb
    have hsb := hb.size
    clear hO hb
    by_cases hlt : k < M.size
    · have hd : decide ((k : Int) < (M.size : Int)) = true := by simp; omega
      have hlL : k < L.length := by omega
      have hix := fun w => run_index_u8 (P := Tryz.prog) Tryz.underlying9 M k hlt (k : Int) rfl w
      rw [HMA.out k hlL] at hix
      have HN := Lib.hid (show refOut (foldRun (L.take (k + 1))) = if small (L.getD k 0) ≠ 32 ∨ (O ≠ [] ∧ O.getLast? ≠ some 32) then O ++ [small (L.getD k 0)] else O by
        rw [take_next_x L k hlL, foldRun_snoc, refOut_step (finv _), ← HOO.out])
      generalize small (L.getD k 0) = y at hix HN
      by_cases h32 : y = 32
      · subst h32
        have hq : (((UInt8.toNat 32 : Nat) : Int) != 32) = false := rfl
        rw [show (UInt8.toNat 32 : Int) = 32 from rfl] at hix
        by_cases h0 : O = []
        · subst h0
          obtain ⟨a, cp, rfl⟩ := own_form hown
          have HO := Lib.hid hown
          have HNN := Lib.hid (show refOut (foldRun (L.take (k + 1))) = [] by rw [HN.out]; simp)
          clear hown
          go_wp2_with fail
          go_roundw
          case rel => exact ⟨k + 1, [], by omega, by go_num, HNN.out.symm, HO.out, HB.out⟩
          case measure => simp [intOf]; omega
        · obtain ⟨g, cp, rfl⟩ := own_form2 hown h0
          have HO := Lib.hid hown
          obtain ⟨m, hm⟩ : ∃ m, m = O.length - 1 := ⟨_, rfl⟩
          have hp : 0 < O.length := List.length_pos_iff.2 h0
          have hd0 : decide (0 < O.length) = true := by simp; omega
          have hd1 : decide ((0 : Int) < (O.length : Int)) = true := by simp; omega
          have hmi : (O.length : Int) - 1 = (m : Int) := by omega
          have hml : (m : Int) < (O.length : Int) := by omega
          have hml2 : m < O.length := by omega
          have hcell := own_cell HO.out rfl m hml2
          have hlast := last_of h0
          rw [← hm] at hlast
          generalize O.getD m 0 = x at hcell hlast
          have HL := Lib.hid hlast
          clear hm hown hlast
          by_cases hx : x = 32
          · have hq2 : (((x.toNat : Nat) : Int) != 32) = false := by rw [hx]; rfl
            have HNN := Lib.hid (show refOut (foldRun (L.take (k + 1))) = O by rw [HN.out, HL.out, hx]; simp)
            clear hx hp
            go_wp2_with fail
            go_roundw
            case rel => exact ⟨k + 1, O, by omega, by go_num, HNN.out.symm, HO.out, HB.out⟩
            case measure => simp [intOf]; omega
          · have hxn : ¬ x.toNat = 32 := fun h => hx (UInt8.toNat_inj.1 h)
            have hq2 : (((x.toNat : Nat) : Int) != 32) = true := by simp; omega
            have HNN := Lib.hid (show refOut (foldRun (L.take (k + 1))) = O ++ [32] by rw [HN.out, HL.out, if_pos (.inr ⟨h0, fun e => hx (Option.some.inj e)⟩)])
            clear hx hxn hp
            go_wp2_with (at_builtin; (refine wpList_append_own _ rfl (.tmp 31) (.tmp 35) 119 rfl w.heap.size 5 i0 (.int .u8 0) 1 1 Tryz.underlying119 hi hz0 hz1 hz2 rfl (by decide) _ _ _ rfl (HO.out.alloc _) ⟨wr.heap.size, 0, none⟩ 1 1 [bcell 32] rfl rfl (news_row wr #[bcell 32] 5) (bcells_one [32]) (by unfold maxLen; omega) (by omega) (by simp; omega) ?_); intro v' w2 hown2 hgr2 _; obtain ⟨P1, P2⟩ := out_round HO.out HB.out hown2 hgr2; have HP1 := Lib.hid P1; have HP2 := Lib.hid P2; clear hown2 hgr2 P1 P2)
            go_roundw
            case rel => exact ⟨k + 1, O ++ [32], by omega, by go_num, HNN.out.symm, HP1.out, HP2.out⟩
            case measure => simp [intOf]; omega
      · have h32n : ¬ y.toNat = 32 := fun h => h32 (UInt8.toNat_inj.1 h)
        have hq : (((y.toNat : Nat) : Int) != 32) = true := by simp; omega
        obtain ⟨a, cp, rfl⟩ := own_form hown
        have HO := Lib.hid hown
        have HNN := Lib.hid (show refOut (foldRun (L.take (k + 1))) = O ++ [y] by rw [HN.out, if_pos (.inl h32)])
        clear hown h32 h32n
        go_wp2_with (at_builtin; (refine wpList_append_own _ rfl (.tmp 31) (.tmp 35) 119 rfl w.heap.size 5 i0 (.int .u8 0) 1 1 Tryz.underlying119 hi hz0 hz1 hz2 rfl (by decide) _ _ _ rfl (HO.out.alloc _) ⟨wr.heap.size, 0, none⟩ 1 1 [bcell y] rfl rfl (news_row wr #[bcell y] 5) (bcells_one [y]) (by unfold maxLen; omega) (by omega) (by simp; omega) ?_); intro v' w2 hown2 hgr2 _; obtain ⟨P1, P2⟩ := out_round HO.out HB.out hown2 hgr2; have HP1 := Lib.hid P1; have HP2 := Lib.hid P2; clear hown2 hgr2 P1 P2)
        go_roundw
        case rel => exact ⟨k + 1, O ++ [y], by omega, by go_num, HNN.out.symm, HP1.out, HP2.out⟩
        case measure => simp [intOf]; omega
    · have ek : k = M.size := by omega
      subst ek
      have hd : decide ((M.size : Int) < (M.size : Int)) = false := by simp
      have hO2 : O = refOut (foldRun L) := by rw [HOO.out, List.take_of_length_le (by omega)]
      have hcase := refOut_last (finv L)
      rw [← hO2] at hcase
      have HFF := Lib.hid hcase
      clear hO2 hcase
      by_cases h0 : O = []
      · subst h0
        obtain ⟨a, cp, rfl⟩ := own_form hown
        have hconv : (convert 119 9 (.slice a 0 cp)).run Tryz.prog wr = .ok (.string (strOf [])) wr := own_str hown
        have HR := Lib.hid (show strOf [] = foldS s by
          rw [HFS.out]
          rcases HFF.out with h | h
          · exact absurd rfl h.1
          · rw [← h.2])
        clear hown
        go_wp2_with fail
        go_ret
        exact ⟨by rw [← HR.out]; rfl, HB.out⟩
      · obtain ⟨g, cp, rfl⟩ := own_form2 hown h0
        have HO := Lib.hid hown
        obtain ⟨m, hm⟩ : ∃ m, m = O.length - 1 := ⟨_, rfl⟩
        have hp : 0 < O.length := List.length_pos_iff.2 h0
        have hd0 : decide (0 < O.length) = true := by simp; omega
        have hd1 : decide ((0 : Int) < (O.length : Int)) = true := by simp; omega
        have hmi : (O.length : Int) - 1 = (m : Int) := by omega
        have hml : (m : Int) < (O.length : Int) := by omega
        have hml2 : m < O.length := by omega
        have hcell := own_cell HO.out rfl m hml2
        have hlast := last_of h0
        rw [← hm] at hlast
        generalize O.getD m 0 = x at hcell hlast
        have HL := Lib.hid hlast
        by_cases hx : x = 32
        · have hq2 : (((x.toNat : Nat) : Int) == 32) = true := by rw [hx]; rfl
          have hcpl : O.length ≤ cp := by
            rcases HO.out.2 with ⟨h, _⟩ | ⟨_, _, _, h, _, _, h2, _⟩
            · cases h
            · cases h; exact h2
          have hconv := own_pre HO.out rfl m (by omega)
          have HR := Lib.hid (show strOf (O.take m) = foldS s by
            rw [HFS.out, hm, ← List.dropLast_eq_take]
            rcases HFF.out with h | h
            · rw [h.2.2]
            · exact absurd ⟨h0, by rw [HL.out, hx]⟩ h.1)
          clear hx hm hown hlast
          go_wp2_with fail
          go_ret
          exact ⟨by rw [← HR.out]; rfl, HB.out⟩
        · have hxn : ¬ x.toNat = 32 := fun h => hx (UInt8.toNat_inj.1 h)
          have hq2 : (((x.toNat : Nat) : Int) == 32) = false := by simp; omega
          have hconv := own_str HO.out
          have HR := Lib.hid (show strOf O = foldS s by
            rw [HFS.out]
            rcases HFF.out with h | h
            · exact absurd (Option.some.inj (HL.out.symm.trans h.2.1)) hx
            · rw [← h.2])
          clear hx hxn hm hown hlast
          go_wp2_with fail
          go_ret
          exact ⟨by rw [← HR.out]; rfl, HB.out⟩

set_option maxHeartbeats 1000000 in
theorem rmatch_any (a b : ByteArray) (w : World) (ha : a.size ≤ 1099511627776) (hb : b.size ≤ 1099511627776) :
    Calls Tryz.prog 124 #[.string a, .string b] w fun e w' => e = .returned (.bool (matchB a b)) ∧ Below w.heap.size w w' := by
  have HA := Lib.hid ha
  have HBB := Lib.hid hb
  clear ha hb
  go_enter Tryz.func124, Tryz.ntmps124
  go_wp2_with (first
    | (go_at_call 138; (with_reducible refine (rfold_any a _ HA.out).mono ?_); rintro e w1 ⟨rfl, hb1⟩; have HB1 := Lib.hid hb1; clear hb1)
    | (go_at_call 138; (with_reducible refine (rfold_any b _ HBB.out).mono ?_); rintro e w2 ⟨rfl, hb2⟩; have HB2 := Lib.hid (below_next HB1.out hb2); clear hb2))
  go_ret
  exact ⟨rfl, HB2.out⟩
end Go.Proofs.YtofadgmnjckpcaaGreatDoor
