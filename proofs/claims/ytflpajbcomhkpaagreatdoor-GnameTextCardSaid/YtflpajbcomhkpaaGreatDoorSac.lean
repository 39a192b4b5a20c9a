/-
  Small laws for the texts on object identifiers: a string's bytes at numbers that have been reckoned, slices of numbers and of bytes that a call has made itself. Nothing is claimed of the program here.
  The contracts of strings.Split and strings.Cut at a point of one byte, off the shelf.
  The plain functions: letters and digits, the folded form of a string, its escaped form, hexadecimal digits. Nothing is claimed of the program here.
-/
import Derived.Test.YtflpajbcomhkpaaGreatDoorSaa
import Derived.Test.YtflpajbcomhkpaaGreatDoorSab
import Derived.Lib.SplitLaws
import Derived.Lib.CutLaws
namespace Go.Proofs.YtflpajbcomhkpaaGreatDoor
open Go.RowKit

/-! ### Rows that a call has made itself -/
def OwnI (w : World) (B : Nat) (v : Value) (a : List Nat) : Prop := w.ownsRow B 3 1 v a.length (a.map icell)
/-- The numbers a lie from the beginning of block g on. -/
def ILie (w : World) (g : Nat) (a : List Nat) : Prop := g < w.heap.size ∧ ∀ j, j < a.length → w.cell? ⟨g, j, none⟩ = some (.int .i64 ((a.getD j 0 : Nat) : Int))
theorem ILie.cell {w : World} {g : Nat} {a : List Nat} (h : ILie w g a) (j : Nat) (hj : j < a.length) : w.cell? ⟨g, j, none⟩ = some (.int .i64 ((a.getD j 0 : Nat) : Int)) := h.2 j hj
theorem ILie.below {w w' : World} {g : Nat} {a : List Nat} (h : ILie w g a) (hb : Below w.heap.size w w') : ILie w' g a :=
  ⟨Nat.lt_of_lt_of_le h.1 hb.size, fun j hj => by
    have e := h.2 j hj
    rw [← e]
    exact hb.cell h.1⟩
theorem ILie.alloc {w : World} {g : Nat} {a : List Nat} (h : ILie w g a) (o : Obj) : ILie (w.alloc o) g a := h.below (belowNew w o)
theorem ILie.drawn {w : World} {g : Nat} {a : List Nat} (h : ILie w g a) (n : Nat) : ILie (w.drewN n) g a := h
theorem OwnI.open {w : World} {B : Nat} {v : Value} {a : List Nat} (h : OwnI w B v a) (ha : a ≠ []) : ∃ g cap, v = .slice (some ⟨g, 0, none⟩) a.length cap ∧ B ≤ g ∧ ILie w g a ∧ a.length ≤ cap := by
  rcases h.2 with ⟨rfl, h0⟩ | ⟨g, cap, cur, rfl, hB, hg, hn, _, hcs, htk⟩
  · exact absurd (List.eq_nil_of_length_eq_zero h0) ha
  · refine ⟨g, cap, rfl, hB, ⟨(Array.getElem?_eq_some_iff.1 hg).1, fun j hj => ?_⟩, hn⟩
    rw [cell_of_row w g j _ _ _ hg]
    have : (cur.toList.take (a.length * 1))[j]? = some (icell (a.getD j 0)) := by rw [htk]; simp [hj]
    rw [List.getElem?_take_of_lt (by omega)] at this
    simpa [icell] using this
theorem own_round {w wr w2 : World} {v v' : Value} {D : List Nat} {y : Nat} {X : Obj} (hown : OwnI wr w.heap.size v D) (hb : Below w.heap.size w wr)
    (hown2 : w2.ownsRow w.heap.size 3 1 v' (D.length + 1) (D.map icell ++ [icell y])) (hgr2 : (wr.alloc X).grownBy w2 v.ownBlock) : OwnI w2 w.heap.size v' (D ++ [y]) ∧ Below w.heap.size w w2 := by
  refine ⟨?_, ?_⟩
  · unfold OwnI
    rw [List.length_append, List.map_append]; exact hown2
  · exact (Below.alloc hb hb.size X).grown hgr2 (by simp; have := hb.size; omega) (fun k e => (World.ownsRow.lt hown k e).1)
theorem intInfo : (Tryz.prog.info? 3).map (fun i => (i.zero, i.size, i.bytes)) = some (some (.int .i64 0), 1, 8) := by kernel_rfl
theorem strInfo : (Tryz.prog.info? 9).map (fun i => (i.zero, i.size, i.bytes)) = some (some (.string ByteArray.empty), 1, 16) := by kernel_rfl
theorem int_made {w : World} {B : Nat} {v : Value} (m : Nat) (h : w.ownsRow B 3 1 v m (madeCells (Value.int .i64 0).cells (m * 1)).toList) : OwnI w B v (List.replicate m 0) := by
  unfold OwnI
  rw [List.length_replicate]
  have e : (madeCells (Value.int .i64 0).cells (m * 1)).toList = (List.replicate m 0).map icell := by
    simp only [madeCells, Value.cells, Nat.mul_one]
    apply List.ext_getElem
    · simp
    · intro i h1 h2
      simp [Nat.mod_one, icell]
  rw [← e]; exact h
theorem int_cell {w : World} {B g n cap : Nat} {l : List Nat} (h : OwnI w B (.slice (some ⟨g, 0, none⟩) n cap) l) (hl : l.length = n) (j : Nat) (hj : j < n) : w.cell? ⟨g, j, none⟩ = some (.int .i64 ((l.getD j 0 : Nat) : Int)) := by
  subst hl
  have := World.ownsRow.cellAt h j (by omega)
  rw [this]
  simp [hj, icell]
theorem int_free {w : World} {B g n cap : Nat} {l : List Nat} (h : OwnI w B (.slice (some ⟨g, 0, none⟩) n cap) l) (hl : l.length = n) (j : Nat) : w.frozen? ⟨g, j, none⟩ = false := by
  subst hl
  exact World.ownsRow.frozenAt h j
theorem int_set {w : World} {B g n cap : Nat} {l : List Nat} (h : OwnI w B (.slice (some ⟨g, 0, none⟩) n cap) l) (hl : l.length = n) (j : Nat) (b : Nat) :
    OwnI (w.setCell ⟨g, j, none⟩ (.int .i64 ((b : Nat) : Int))) B (.slice (some ⟨g, 0, none⟩) n cap) (l.set j b) := by
  subst hl
  unfold OwnI at h ⊢
  have := (World.ownsRow.stored h j (icell b)).1
  rw [List.length_set, List.map_set]
  exact this
theorem filled_set (A : List Nat) (n b : Nat) (h : A.length < n) : (A ++ List.replicate (n - A.length) 0).set A.length b = (A ++ [b]) ++ List.replicate (n - (A ++ [b]).length) 0 := by
  have e : n - A.length = (n - (A ++ [b]).length) + 1 := by simp; omega
  rw [e, List.replicate_succ, List.set_append_right _ _ (Nat.le_refl _)]
  simp
theorem filled_len (A : List Nat) (n : Nat) (h : A.length ≤ n) : (A ++ List.replicate (n - A.length) 0).length = n := by simp; omega
theorem OwnI.form {w : World} {B : Nat} {v : Value} {a : List Nat} (h : OwnI w B v a) : ∃ p cap, v = .slice p a.length cap := by
  rcases h.2 with ⟨rfl, h0⟩ | ⟨g, cap, cur, rfl, _⟩
  · exact ⟨none, 0, by rw [h0]⟩
  · exact ⟨_, cap, rfl⟩
/-- The cells of a new array of strings. -/
theorem row_pcs (W : World) (xs : List ByteArray) (N : Nat) (k : Nat) (hk : k < xs.length) : (W.alloc (.cells (Lib.cellsOf xs N) 9)).cell? ⟨W.heap.size, k, none⟩ = some (.string (xs.getD k ⟨#[]⟩)) := by
  rw [cell_of_row _ _ k _ _ _ (heap_alloc_new W _)]
  unfold Lib.cellsOf
  rw [List.getElem?_toArray, List.getElem?_append_left (by simpa using hk)]
  simp [hk]
end Go.Proofs.YtflpajbcomhkpaaGreatDoor
namespace Go.Proofs.YtflpajbcomhkpaaGreatDoor
open Go.RowKit

/-- The pieces of a text between the bytes c. -/
def pcsS (c : UInt8) (s : ByteArray) : List ByteArray := Lib.splitB ⟨#[c]⟩ 0 (Lib.countB s ⟨#[c]⟩) s
theorem pcsS_spl (c : UInt8) (s : ByteArray) : Spl c s.data.toList ((pcsS c s).map (·.data.toList)) := split_pieces c s
theorem pcsS_len (c : UInt8) (s : ByteArray) : (pcsS c s).length = Lib.countB s ⟨#[c]⟩ + 1 := Lib.splitB_all ⟨#[c]⟩ (by show 1 ≤ 1; omega) 0 _ s rfl
theorem index_byte (x : ByteArray) (c : UInt8) (w : World) :
    Calls Tryz.prog 187 #[.string x, .string ⟨#[c]⟩] w fun e w' => e = .returned (.int .i64 (Lib.indexByte x.data.toList c)) ∧ w' = w :=
  Any.stringslite_Index_one lays219 x c w
theorem sindex_byte (x : ByteArray) (c : UInt8) (w : World) :
    Calls Tryz.prog 183 #[.string x, .string ⟨#[c]⟩] w fun e w' => e = .returned (.int .i64 (Lib.indexB x ⟨#[c]⟩)) ∧ w' = w := by
  have c1 := Any.stringslite_Index_one lays219 x c w
  rw [← Lib.index_one] at c1
  go_enter Tryz.func183, Tryz.ntmps183
  go_wp2_with (go_at_call 187; refine c1.mono ?_; rintro e w' ⟨rfl, hw⟩; rw [hw])
  go_ret
  exact ⟨rfl, rfl⟩
theorem count_byte (x : ByteArray) (c : UInt8) (w : World) :
    Calls Tryz.prog 250 #[.string x, .string ⟨#[c]⟩] w fun e w' => e = .returned (.int .i64 (Lib.countB x ⟨#[c]⟩)) ∧ w' = w := by
  refine (Any.strings_Count_one lays138 x c w).mono fun e w' ⟨he, hw⟩ => ⟨?_, hw⟩
  rw [he]
  show _ = Ending.returned (Value.int .i64 ((Lib.count x.data.toList [c] : Nat) : Int))
  rw [Lib.count_one]
  rfl
theorem count_le (s : ByteArray) (c : UInt8) : Lib.countB s ⟨#[c]⟩ ≤ s.size := Lib.countB_le ⟨#[c]⟩ (by show 1 ≤ 1; omega) s.size s (Nat.le_refl _)
theorem gensplit_c (s : ByteArray) (c : UInt8) (w : World) (hs : s.size < 4294967281) :
    Calls Tryz.prog 207 #[.string s, .string ⟨#[c]⟩, .int .i64 0, .int .i64 (-1)] w fun e w' =>
      e = .returned (.slice (some ⟨w.heap.size, 0, none⟩) (pcsS c s).length (pcsS c s).length) ∧ w' = w.alloc (.cells ((pcsS c s).map Value.string).toArray 9) := by
  have hle := count_le s c
  have c1 := Any.strings_genSplit_core lays221 (by kernel_rfl) s ⟨#[c]⟩ 0 (-1) (Lib.countB s ⟨#[c]⟩ + 1) w hs (by show 1 ≤ 1; omega) (by omega)
    (fun x d _ => sindex_byte x c _) (count_byte s c w) (by decide) (by decide) (by rw [if_pos (by decide)]; omega)
  have e2 : Lib.cellsOf (pcsS c s) (Lib.countB s ⟨#[c]⟩ + 1) = ((pcsS c s).map Value.string).toArray := by rw [← pcsS_len]; exact Lib.cellsOf_full _
  rw [Nat.add_sub_cancel] at c1
  refine c1.mono fun e w' ⟨h1, h2⟩ => ⟨?_, ?_⟩
  · rw [h1]
    show Ending.returned (.slice _ (pcsS c s).length (Lib.countB s ⟨#[c]⟩ + 1)) = _
    rw [← pcsS_len]
  · rw [h2]
    show w.alloc (.cells (Lib.cellsOf (pcsS c s) (Lib.countB s ⟨#[c]⟩ + 1)) _) = _
    rw [e2]; rfl
theorem split_c (s : ByteArray) (c : UInt8) (w : World) (hs : s.size < 4294967281) :
    Calls Tryz.prog 176 #[.string s, .string ⟨#[c]⟩] w fun e w' =>
      e = .returned (.slice (some ⟨w.heap.size, 0, none⟩) (pcsS c s).length (pcsS c s).length) ∧ w' = w.alloc (.cells ((pcsS c s).map Value.string).toArray 9) := by
  have h := gensplit_c s c w hs
  go_enter Tryz.func176, Tryz.ntmps176
  go_wp2_with (go_at_call 207; refine h.mono ?_; rintro e w' ⟨rfl, hw⟩; rw [hw])
  go_ret
  exact ⟨rfl, rfl⟩
theorem pcs_cell (c : UInt8) (s : ByteArray) (W : World) (k : Nat) (hk : k < (pcsS c s).length) : (W.alloc (.cells ((pcsS c s).map Value.string).toArray 9)).cell? ⟨W.heap.size, k, none⟩ = some (.string ((pcsS c s).getD k ⟨#[]⟩)) := row_strs W _ k hk

set_option maxRecDepth 100000 in
set_option maxHeartbeats 1000000 in
theorem cut_hit (s : ByteArray) (c : UInt8) (i : Nat) (h : Lib.indexByte s.data.toList c = i) (hi : i < s.size) (hs : s.size ≤ 1000000) (w : World) :
    Calls Tryz.prog 150 #[.string s, .string ⟨#[c]⟩] w fun e w' => e = .returned (.tuple #[.string (s.extract 0 i), .string (s.extract (i + 1) s.size), .bool true]) ∧ Below w.heap.size w w' := by
  have hx := fun w => index_byte s c w
  rw [h] at hx
  have HX := Lib.hid hx
  have c1 : (0 : Int) ≤ (i : Int) := by omega
  have c2 : (i : Int) ≤ (s.size : Int) := by omega
  have c3 : (i : Int) + 1 ≤ (s.size : Int) := by omega
  have d0 : decide ((0 : Int) ≤ (i : Int)) = true := by simp
  clear hx h
  go_enter Tryz.func150, Tryz.ntmps150
  go_wp2_with (go_at_call 187; (with_reducible refine (HX.out _).mono ?_); rintro e w1 ⟨rfl, rfl⟩)
  go_region_o
  go_wp2
  go_ret3
  exact ⟨rfl, (Below.refl _ _).drew⟩
set_option maxRecDepth 100000 in
set_option maxHeartbeats 1000000 in
theorem cut_miss (s : ByteArray) (c : UInt8) (h : Lib.indexByte s.data.toList c = -1) (w : World) :
    Calls Tryz.prog 150 #[.string s, .string ⟨#[c]⟩] w fun e w' => e = .returned (.tuple #[.string s, .string ⟨#[]⟩, .bool false]) ∧ Below w.heap.size w w' := by
  have hx := fun w => index_byte s c w
  rw [h] at hx
  have HX := Lib.hid hx
  clear hx h
  go_enter Tryz.func150, Tryz.ntmps150
  go_wp2_with (go_at_call 187; (with_reducible refine (HX.out _).mono ?_); rintro e w1 ⟨rfl, rfl⟩)
  go_ret3
  exact ⟨rfl, Below.refl _ _⟩
/-- What Cut answers. -/
def cutV (s : ByteArray) (c : UInt8) : Value :=
  if Lib.indexByte s.data.toList c = -1 then .tuple #[.string s, .string ⟨#[]⟩, .bool false]
  else .tuple #[.string (s.extract 0 (Lib.indexByte s.data.toList c).toNat), .string (s.extract ((Lib.indexByte s.data.toList c).toNat + 1) s.size), .bool true]
set_option maxRecDepth 100000 in
theorem cut_any (s : ByteArray) (c : UInt8) (hs : s.size ≤ 1000000) (w : World) :
    Calls Tryz.prog 114 #[.string s, .string ⟨#[c]⟩] w fun e w' => e = .returned (cutV s c) ∧ Below w.heap.size w w' := by
  rcases index_cases s.data.toList c with ⟨h, _⟩ | ⟨i, h, hi⟩
  · have e : cutV s c = .tuple #[.string s, .string ⟨#[]⟩, .bool false] := if_pos h
    rw [e]
    have HC := Lib.hid (cut_miss s c h w)
    clear e h
    go_enter Tryz.func114, Tryz.ntmps114
    go_wp2_with (go_at_call 150; (with_reducible refine HC.out.mono ?_); rintro e w1 ⟨rfl, hb⟩; have HB := Lib.hid hb; clear hb)
    go_ret3
    exact ⟨rfl, HB.out⟩
  · have e : cutV s c = .tuple #[.string (s.extract 0 i), .string (s.extract (i + 1) s.size), .bool true] := by
      unfold cutV
      rw [h, if_neg (by omega)]
      rfl
    rw [e]
    have HC := Lib.hid (cut_hit s c i h hi hs w)
    clear e h
    go_enter Tryz.func114, Tryz.ntmps114
    go_wp2_with (go_at_call 150; (with_reducible refine HC.out.mono ?_); rintro e w1 ⟨rfl, hb⟩; have HB := Lib.hid hb; clear hb)
    go_ret3
    exact ⟨rfl, HB.out⟩
end Go.Proofs.YtflpajbcomhkpaaGreatDoor
namespace Go.Proofs.YtflpajbcomhkpaaGreatDoor
open Go.RowKit

/-! ### Letters and digits -/
def alnum (n : Nat) : Bool := decide (65 ≤ n ∧ n ≤ 90) || (decide (97 ≤ n ∧ n ≤ 122) || decide (48 ≤ n ∧ n ≤ 57))
theorem alnum_big {n : Nat} (h : 123 ≤ n) : alnum n = false := by
  simp [alnum]; omega

/-! ### Folding -/
def small (c : UInt8) : UInt8 := if 65 ≤ c.toNat ∧ c.toNat ≤ 90 then UInt8.ofNat (c.toNat + 32) else c
theorem small_low {c : UInt8} (h : ¬ (65 ≤ c.toNat ∧ c.toNat ≤ 90)) : small c = c := by unfold small; rw [if_neg h]
theorem small_big {c : UInt8} (h : 65 ≤ c.toNat ∧ c.toNat ≤ 90) : (small c).toNat = c.toNat + 32 := by
  unfold small
  rw [if_pos h]
  simp; omega
theorem small_space {c : UInt8} : small c = 32 ↔ c = 32 := by
  by_cases h : 65 ≤ c.toNat ∧ c.toNat ≤ 90
  · constructor
    · intro e
      have := small_big h
      rw [e] at this
      have e32 : (32 : UInt8).toNat = 32 := rfl
      omega
    · intro e
      rw [e] at h
      have e32 : (32 : UInt8).toNat = 32 := rfl
      omega
  · rw [small_low h]

def foldStep (st : List UInt8 × Bool) (c : UInt8) : List UInt8 × Bool := if c = 32 then (st.1, !st.1.isEmpty) else (st.1 ++ (if st.2 then [32] else []) ++ [small c], false)
def foldRun (l : List UInt8) : List UInt8 × Bool := l.foldl foldStep ([], false)
def foldL (l : List UInt8) : List UInt8 := (foldRun l).1
theorem foldRun_snoc (l : List UInt8) (c : UInt8) : foldRun (l ++ [c]) = foldStep (foldRun l) c := by simp [foldRun]
/-- What a state of folding always is. -/
structure FInv (st : List UInt8 × Bool) : Prop where
  gap : st.2 = true → st.1 ≠ []
  last : st.1.getLast? ≠ some 32
theorem FInv.step {st : List UInt8 × Bool} (h : FInv st) (c : UInt8) : FInv (foldStep st c) := by
  unfold foldStep
  by_cases hc : c = 32
  · rw [if_pos hc]
    refine ⟨fun e => ?_, h.last⟩
    intro e2
    rw [show st.1 = [] from e2] at e
    cases e
  · rw [if_neg hc]
    refine ⟨fun e => (by cases e), ?_⟩
    rw [List.getLast?_append]
    simp
    exact fun e => hc (small_space.1 e)
theorem snoc_ind {P : List UInt8 → Prop} (h0 : P []) (h1 : ∀ l c, P l → P (l ++ [c])) (l : List UInt8) : P l := by
  have : ∀ r : List UInt8, P r.reverse := by
    intro r
    induction r with
    | nil => exact h0
    | cons c r ih => rw [List.reverse_cons]; exact h1 _ _ ih
  have := this l.reverse
  rwa [List.reverse_reverse] at this
/-- The reference's bytes at that state. -/
def refOut (st : List UInt8 × Bool) : List UInt8 := st.1 ++ (if st.2 then [32] else [])
theorem fold_len (l : List UInt8) : (refOut (foldRun l)).length ≤ l.length := by
  induction l using snoc_ind with
  | h0 => simp [foldRun, refOut]
  | h1 l c ih =>
    rw [foldRun_snoc]
    unfold refOut foldStep at *
    rw [List.length_append] at ih
    by_cases hc : c = 32
    · rw [if_pos hc]
      simp only [List.length_append, List.length_singleton]
      split <;> simp <;> omega
    · rw [if_neg hc]
      simp only [List.length_append, List.length_singleton]
      simp
      omega
theorem foldL_len (l : List UInt8) : (foldL l).length ≤ l.length := by
  have := fold_len l
  unfold refOut at this
  rw [List.length_append] at this
  unfold foldL
  omega
/-! ### Hexadecimal digits -/
def hexDigit (n : Nat) : UInt8 := if n < 10 then UInt8.ofNat (48 + n) else UInt8.ofNat (87 + n)
def hexL (l : List UInt8) : List UInt8 := l.flatMap fun b => [hexDigit (b.toNat / 16), hexDigit (b.toNat % 16)]
theorem hexL_length (l : List UInt8) : (hexL l).length = 2 * l.length := by
  induction l with
  | nil => rfl
  | cons b r ih => simp only [hexL, List.flatMap_cons, List.length_append] at ih ⊢; rw [ih]; simp; omega
theorem hexL_snoc (l : List UInt8) (b : UInt8) : hexL (l ++ [b]) = hexL l ++ [hexDigit (b.toNat / 16), hexDigit (b.toNat % 16)] := by simp [hexL]
def digV (c : Nat) : Option Nat := if 48 ≤ c ∧ c ≤ 57 then some (c - 48) else if 97 ≤ c ∧ c ≤ 102 then some (c - 87) else none
theorem digV_low {c : Nat} (h : 48 ≤ c ∧ c ≤ 57) : digV c = some (c - 48) := by unfold digV; rw [if_pos h]
theorem digV_high {c : Nat} (h : 97 ≤ c ∧ c ≤ 102) : digV c = some (c - 87) := by unfold digV; rw [if_neg (by omega), if_pos h]
theorem digV_no {c : Nat} (h : ¬ (48 ≤ c ∧ c ≤ 57)) (k : ¬ (97 ≤ c ∧ c ≤ 102)) : digV c = none := by unfold digV; rw [if_neg h, if_neg k]
theorem digV_some {c : UInt8} {v : Nat} (h : digV c.toNat = some v) : v < 16 ∧ hexDigit v = c := by
  unfold digV at h
  split at h
  · rename_i h1
    obtain rfl := Option.some.inj h
    refine ⟨by omega, ?_⟩
    unfold hexDigit
    rw [if_pos (by omega), show 48 + (c.toNat - 48) = c.toNat by omega]
    simp
  · split at h
    · rename_i h1
      obtain rfl := Option.some.inj h
      refine ⟨by omega, ?_⟩
      unfold hexDigit
      rw [if_neg (by omega), show 87 + (c.toNat - 87) = c.toNat by omega]
      simp
    · cases h
theorem digV_hex : ∀ v, v < 16 → digV (hexDigit v).toNat = some v := by decide
theorem hexDigit_inj {v w : Nat} (hv : v < 16) (hw : w < 16) (h : hexDigit v = hexDigit w) : v = w := by
  have h1 := digV_hex v hv
  rw [h, digV_hex w hw] at h1
  exact (Option.some.inj h1).symm
theorem hexL_mem {l : List UInt8} {c : UInt8} (h : c ∈ hexL l) : (digV c.toNat).isSome = true := by
  unfold hexL at h
  obtain ⟨b, _, hb⟩ := List.mem_flatMap.1 h
  have := b.toNat_lt
  simp only [List.mem_cons, List.not_mem_nil, or_false] at hb
  rcases hb with rfl | rfl
  · rw [digV_hex _ (by omega)]; rfl
  · rw [digV_hex _ (by omega)]; rfl
theorem hexL_cons (a : UInt8) (l : List UInt8) : hexL (a :: l) = hexDigit (a.toNat / 16) :: hexDigit (a.toNat % 16) :: hexL l := by simp [hexL]
theorem byte_of {a b : UInt8} (h1 : hexDigit (a.toNat / 16) = hexDigit (b.toNat / 16)) (h2 : hexDigit (a.toNat % 16) = hexDigit (b.toNat % 16)) : a = b := by
  have hx := a.toNat_lt
  have hy := b.toNat_lt
  have e1 := hexDigit_inj (by omega) (by omega) h1
  have e2 := hexDigit_inj (by omega) (by omega) h2
  exact UInt8.toNat_inj.1 (by omega)
theorem hexL_inj : ∀ {a b : List UInt8}, hexL a = hexL b → a = b
  | [], [], _ => rfl
  | [], y :: b, h => by rw [hexL_cons] at h; cases h
  | x :: a, [], h => by rw [hexL_cons] at h; cases h
  | x :: a, y :: b, h => by
    rw [hexL_cons, hexL_cons] at h
    rw [hexL_inj (List.cons.inj (List.cons.inj h).2).2, byte_of (List.cons.inj h).1 (List.cons.inj (List.cons.inj h).2).1]
/-- What Unhex answers for the string s: the string whose digits are s, if there is one. -/
def Unh (s : List UInt8) (u : ByteArray) (ok : Bool) : Prop := (ok = true ∧ hexL u.data.toList = s) ∨ (ok = false ∧ u = ⟨#[]⟩ ∧ ∀ l, hexL l ≠ s)
theorem unh_odd {s : List UInt8} (h : s.length % 2 = 1) : Unh s ⟨#[]⟩ false := Or.inr ⟨rfl, rfl, fun l e => by
  have := congrArg List.length e
  rw [hexL_length] at this; omega⟩
theorem unh_bad {s : List UInt8} {c : UInt8} (hc : c ∈ s) (h : digV c.toNat = none) : Unh s ⟨#[]⟩ false := Or.inr ⟨rfl, rfl, fun l e => by
  rw [← e] at hc
  have := hexL_mem hc
  rw [h] at this; cases this⟩
theorem unh_step {s D : List UInt8} {j a b : Nat} {c0 c1 : UInt8} (hj : j + 1 < s.length) (hD : hexL D = s.take j) (h0 : s[j]'(by omega) = c0) (h1 : s[j + 1] = c1) (ha : digV c0.toNat = some a) (hb : digV c1.toNat = some b) :
    hexL (D ++ [UInt8.ofNat (16 * a + b)]) = s.take (j + 2) := by
  obtain ⟨a1, a2⟩ := digV_some ha
  obtain ⟨b1, b2⟩ := digV_some hb
  have e1 : s.take (j + 2) = s.take j ++ [c0, c1] := by
    rw [List.take_succ_eq_append_getElem hj, List.take_succ_eq_append_getElem (show j < s.length by omega), h0, h1]; simp
  have e2 : (UInt8.ofNat (16 * a + b)).toNat = 16 * a + b := by simp; omega
  rw [hexL_snoc, hD, e1, e2, show (16 * a + b) / 16 = a by omega, show (16 * a + b) % 16 = b by omega, a2, b2]

/-! ### Escaping -/
def plainL : List UInt8 := [32, 39, 40, 41, 45, 46, 47, 58, 63, 64, 95]
def plainB (c : UInt8) : Bool := alnum c.toNat || plainL.contains c
theorem plain_92 : plainB 92 = false := by decide
def escB (c : UInt8) : List UInt8 := if plainB c = true then [c] else [92, hexDigit (c.toNat / 16), hexDigit (c.toNat % 16)]
def escL (l : List UInt8) : List UInt8 := l.flatMap escB
theorem escB_plain {c : UInt8} (h : plainB c = true) : escB c = [c] := by unfold escB; rw [if_pos h]
theorem escB_other {c : UInt8} (h : plainB c = false) : escB c = [92, hexDigit (c.toNat / 16), hexDigit (c.toNat % 16)] := by unfold escB; rw [if_neg (by rw [h]; decide)]
theorem escL_nil : escL [] = [] := rfl
theorem escL_cons (c : UInt8) (l : List UInt8) : escL (c :: l) = escB c ++ escL l := by simp [escL]
theorem escL_snoc (l : List UInt8) (c : UInt8) : escL (l ++ [c]) = escL l ++ escB c := by simp [escL]
theorem escB_len (c : UInt8) : (escB c).length ≤ 3 := by unfold escB; split <;> simp
theorem escB_len1 (c : UInt8) : 1 ≤ (escB c).length := by unfold escB; split <;> simp
theorem escL_len (l : List UInt8) : (escL l).length ≤ 3 * l.length := by
  induction l with
  | nil => simp [escL]
  | cons c l ih =>
    have := escB_len c
    rw [escL_cons, List.length_append, List.length_cons]; omega
theorem escB_cut {x y : UInt8} {r t : List UInt8} (h : escB x ++ r = escB y ++ t) : x = y ∧ r = t := by
  cases hx : plainB x <;> cases hy : plainB y
  · rw [escB_other hx, escB_other hy] at h
    simp only [List.cons_append, List.nil_append, List.cons.injEq, true_and] at h
    exact ⟨byte_of h.1 h.2.1, h.2.2⟩
  · rw [escB_other hx, escB_plain hy] at h
    simp only [List.cons_append, List.nil_append, List.cons.injEq] at h
    rw [← h.1, plain_92] at hy; cases hy
  · rw [escB_plain hx, escB_other hy] at h
    simp only [List.cons_append, List.nil_append, List.cons.injEq] at h
    rw [h.1, plain_92] at hx; cases hx
  · rw [escB_plain hx, escB_plain hy] at h
    simp only [List.cons_append, List.nil_append, List.cons.injEq] at h
    exact h
theorem escL_cut : ∀ (D l r : List UInt8), escL l = escL D ++ r → ∃ l2, l = D ++ l2 ∧ escL l2 = r
  | [], l, r, h => ⟨l, rfl, h⟩
  | d :: D, [], r, h => by
    exfalso
    rw [escL_nil, escL_cons] at h
    have := congrArg List.length h
    have h1 := escB_len1 d
    simp at this
    omega
  | d :: D, x :: l, r, h => by
    rw [escL_cons, escL_cons, List.append_assoc] at h
    obtain ⟨rfl, h2⟩ := escB_cut h
    obtain ⟨l2, rfl, h3⟩ := escL_cut D l r h2
    exact ⟨l2, rfl, h3⟩
theorem escL_inj {a b : List UInt8} (h : escL a = escL b) : a = b := by
  obtain ⟨l2, rfl, h2⟩ := escL_cut b a [] (by rw [h, List.append_nil])
  cases l2 with
  | nil => simp
  | cons x l =>
    rw [escL_cons] at h2
    have := congrArg List.length h2
    have h1 := escB_len1 x
    rw [List.length_append, List.length_nil] at this
    omega
/-- What Unescape answers for the string s: the string whose escaped form is s, if there is one. -/
def Une (s : List UInt8) (u : ByteArray) (ok : Bool) : Prop := (ok = true ∧ escL u.data.toList = s) ∨ (ok = false ∧ u = ⟨#[]⟩ ∧ ∀ l, escL l ≠ s)
/-- The byte that the two digits at the head of a text are, if it is written so. -/
def escd (r : List UInt8) : Option UInt8 :=
  match digV (r.getD 0 0).toNat, digV (r.getD 1 0).toNat with
  | some a, some b => if plainB (UInt8.ofNat (16 * a + b)) = true then none else some (UInt8.ofNat (16 * a + b))
  | _, _ => none
theorem escd_some {r : List UInt8} {c : UInt8} (h : escd r = some c) : 2 ≤ r.length ∧ escB c = 92 :: r.take 2 := by
  unfold escd at h
  split at h
  · rename_i a b ha hb
    split at h
    · cases h
    · rename_i hp
      obtain rfl := Option.some.inj h
      have hz : digV (0 : UInt8).toNat = none := by decide
      match r, ha, hb with
      | [], ha, _ => exact absurd ha (by simp only [List.getD_nil]; rw [hz]; simp)
      | [x], _, hb => exact absurd hb (by simp only [List.getD_cons_succ, List.getD_nil]; rw [hz]; simp)
      | x :: y :: r, ha, hb =>
        refine ⟨by simp, ?_⟩
        simp only [List.getD_cons_zero, List.getD_cons_succ] at ha hb
        obtain ⟨a1, a2⟩ := digV_some ha
        obtain ⟨b1, b2⟩ := digV_some hb
        have e2 : (UInt8.ofNat (16 * a + b)).toNat = 16 * a + b := by simp; omega
        rw [escB_other (by simpa using hp), e2, show (16 * a + b) / 16 = a by omega, show (16 * a + b) % 16 = b by omega, a2, b2]
        rfl
  · cases h
theorem escd_none {r : List UInt8} (h : escd r = none) (x : UInt8) (t : List UInt8) : escB x ++ t ≠ 92 :: r := by
  intro e
  cases hx : plainB x with
  | true =>
    rw [escB_plain hx] at e
    simp only [List.cons_append, List.nil_append, List.cons.injEq] at e
    rw [e.1, plain_92] at hx; cases hx
  | false =>
    rw [escB_other hx] at e
    simp only [List.cons_append, List.nil_append, List.cons.injEq, true_and] at e
    rw [← e] at h
    have hb := x.toNat_lt
    unfold escd at h
    simp only [List.getD_cons_zero, List.getD_cons_succ] at h
    rw [digV_hex _ (by omega), digV_hex _ (by omega)] at h
    have e2 : UInt8.ofNat (16 * (x.toNat / 16) + x.toNat % 16) = x := by
      rw [show 16 * (x.toNat / 16) + x.toNat % 16 = x.toNat by omega]; simp
    simp only [e2] at h
    rw [if_neg (by rw [hx]; decide)] at h
    cases h
theorem drop_cons {s : List UInt8} {i : Nat} {c : UInt8} (h : s[i]? = some c) : s.drop i = c :: s.drop (i + 1) := by
  obtain ⟨hi, rfl⟩ := List.getElem?_eq_some_iff.1 h
  exact List.drop_eq_getElem_cons hi
/-- No text is escaped so: the bytes so far are right, and the next ones are none. -/
theorem une_no {s D : List UInt8} {i : Nat} (hD : escL D = s.take i) (h : ∀ x t, escB x ++ t ≠ s.drop i) (hne : s.drop i ≠ []) : ∀ l, escL l ≠ s := by
  intro l e
  obtain ⟨l2, _, h2⟩ := escL_cut D l (s.drop i) (by rw [hD, List.take_append_drop]; exact e)
  cases l2 with
  | nil => rw [escL_nil] at h2; exact hne h2.symm
  | cons x t => rw [escL_cons] at h2; exact h x _ h2
theorem une_bad {s D : List UInt8} {i : Nat} {c : UInt8} (hD : escL D = s.take i) (hc : s[i]? = some c) (h92 : c ≠ 92) (hp : plainB c = false) : ∀ l, escL l ≠ s := by
  refine une_no hD (fun x t e => ?_) (by rw [drop_cons hc]; simp)
  rw [drop_cons hc] at e
  cases hx : plainB x with
  | true =>
    rw [escB_plain hx] at e
    simp only [List.cons_append, List.nil_append, List.cons.injEq] at e
    rw [e.1, hp] at hx; cases hx
  | false =>
    rw [escB_other hx] at e
    simp only [List.cons_append, List.nil_append, List.cons.injEq] at e
    exact h92 e.1.symm
theorem une_bad92 {s D : List UInt8} {i : Nat} (hD : escL D = s.take i) (hc : s[i]? = some 92) (h : escd (s.drop (i + 1)) = none) : ∀ l, escL l ≠ s :=
  une_no hD (fun x t e => by rw [drop_cons hc] at e; exact escd_none h x t e) (by rw [drop_cons hc]; simp)
/-- Where the reference stands: what is escaped as s begins with out, and goes on behind i. -/
def Way (s : List UInt8) (i : Nat) (out : List UInt8) : Prop := ∀ l, escL l = s → ∃ l2, l = out ++ l2 ∧ escL l2 = s.drop i
theorem Way.start (s : List UInt8) : Way s 0 [] := fun l h => ⟨l, rfl, h⟩
theorem Way.one {s out : List UInt8} {i : Nat} {c : UInt8} (h : Way s i out) (hc : s[i]? = some c) (h92 : c ≠ 92) : Way s (i + 1) (out ++ [c]) := by
  intro l e
  obtain ⟨l2, rfl, h2⟩ := h l e
  rw [drop_cons hc] at h2
  cases l2 with
  | nil => rw [escL_nil] at h2; cases h2
  | cons x t =>
    rw [escL_cons] at h2
    cases hx : plainB x with
    | true =>
      rw [escB_plain hx] at h2
      simp only [List.cons_append, List.nil_append, List.cons.injEq] at h2
      exact ⟨t, by rw [h2.1]; simp, h2.2⟩
    | false =>
      rw [escB_other hx] at h2
      simp only [List.cons_append, List.nil_append, List.cons.injEq] at h2
      exact absurd h2.1.symm h92
theorem Way.two {s out : List UInt8} {i : Nat} (h : Way s i out) (hc : s[i]? = some 92) {l : List UInt8} (e : escL l = s) :
    ∃ x t, l = out ++ x :: t ∧ i + 3 ≤ s.length ∧ hexL [x] = (s.drop (i + 1)).take 2 ∧ escL t = s.drop (i + 3) := by
  obtain ⟨l2, rfl, h2⟩ := h l e
  rw [drop_cons hc] at h2
  cases l2 with
  | nil => rw [escL_nil] at h2; cases h2
  | cons x t =>
    rw [escL_cons] at h2
    cases hx : plainB x with
    | true =>
      rw [escB_plain hx] at h2
      simp only [List.cons_append, List.nil_append, List.cons.injEq] at h2
      rw [h2.1, plain_92] at hx; cases hx
    | false =>
      rw [escB_other hx] at h2
      simp only [List.cons_append, List.nil_append, List.cons.injEq, true_and] at h2
      have hl := congrArg List.length h2
      simp only [List.length_cons, List.length_drop] at hl
      refine ⟨x, t, rfl, by omega, by rw [← h2]; rfl, ?_⟩
      have e3 : s.drop (i + 3) = (s.drop (i + 1)).drop 2 := by rw [List.drop_drop]
      rw [e3, ← h2]; rfl
theorem Way.next {s out : List UInt8} {i : Nat} {u : ByteArray} (h : Way s i out) (hc : s[i]? = some 92) (hu : hexL u.data.toList = (s.drop (i + 1)).take 2) : Way s (i + 3) (out ++ u.data.toList) := by
  intro l e
  obtain ⟨x, t, rfl, _, h2, h3⟩ := h.two hc e
  have : u.data.toList = [x] := hexL_inj (hu.trans h2.symm)
  exact ⟨t, by rw [this]; simp, h3⟩
theorem Way.no {s out : List UInt8} {i : Nat} (h : Way s i out) (hc : s[i]? = some 92) (hu : ∀ l, hexL l ≠ (s.drop (i + 1)).take 2) : ∀ l, escL l ≠ s := by
  intro l e
  obtain ⟨x, t, _, _, h2, _⟩ := h.two hc e
  exact hu _ h2
theorem Way.short {s out : List UInt8} {i : Nat} (h : Way s i out) (hc : s[i]? = some 92) (hs : s.length < i + 3) : ∀ l, escL l ≠ s := by
  intro l e
  obtain ⟨_, _, _, h1, _⟩ := h.two hc e
  omega
theorem Way.last {s out : List UInt8} {i : Nat} (h : Way s i out) (hi : s.length ≤ i) (hne : escL out ≠ s) : ∀ l, escL l ≠ s := by
  intro l e
  obtain ⟨l2, rfl, h2⟩ := h l e
  rw [List.drop_eq_nil_of_le hi] at h2
  obtain rfl : l2 = [] := escL_inj (h2.trans escL_nil.symm)
  rw [List.append_nil] at e
  exact hne e
end Go.Proofs.YtflpajbcomhkpaaGreatDoor
