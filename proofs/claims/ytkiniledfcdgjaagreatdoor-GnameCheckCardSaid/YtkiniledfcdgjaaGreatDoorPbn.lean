/-
  The contract of the law's function id: the text of a good list of numbers that is made of the given ones.
  The contract of oid.Decode: the object identifier with these contents, if there is one.
  The contract of the definition's DecodeOID: the object identifier with these contents, if there is one.
  What the decoders of names answer; the contract of slices.Contains over ints, and of the closure next of decodeAttribute.
  The contract of decodeAttribute: what an element says of an attribute, or the error.
  The contract of decodeAttribute: what an element says of an attribute, or the error.
  The contract of decodeRelative: the attributes of an element, or the first error.
  The contract of certpathmade's Rewrap.
  The size of what a made name's encoding is; Damage of any string.
  How long the encoding of a valid name is at most. Nothing is claimed of the program here.
-/
import Derived.Test.YtkiniledfcdgjaaGreatDoorPbm
import Derived.Test.YtkiniledfcdgjaaGreatDoorPav
import Derived.Test.YtkiniledfcdgjaaGreatDoorPaz
import Derived.Test.YtkiniledfcdgjaaGreatDoorPaw
import Derived.Test.YtkiniledfcdgjaaGreatDoorPax
import Derived.Test.YtkiniledfcdgjaaGreatDoorPal
import Derived.Test.YtkiniledfcdgjaaGreatDoorPan
import Derived.Test.YtkiniledfcdgjaaGreatDoorPba
namespace Go.Proofs.YtkiniledfcdgjaaGreatDoor
open Go.RowKit

/-- The numbers L can be read from the address a0 on. -/
def WLies (w : World) (a0 : Option Addr) (L : List Nat) : Prop :=
  L = [] ∨ ∃ b off, a0 = some ⟨b, off, none⟩ ∧ ∀ i, i < L.length → w.cell? ⟨b, off + i, none⟩ = some (.int .u32 ((L.getD i 0 : Nat) : Int))
theorem WLies.below {w w' : World} {a0 : Option Addr} {L : List Nat} (h : WLies w a0 L) (hb : Below w.heap.size w w') : WLies w' a0 L := by
  rcases h with h | ⟨b, off, h1, h2⟩
  · exact .inl h
  · refine .inr ⟨b, off, h1, fun i hi => ?_⟩
    rw [← h2 i hi]
    exact hb.cell (World.block_lt_of_cell? _ _ (h2 i hi))
theorem WLies.take {w : World} {a0 : Option Addr} {L : List Nat} (h : WLies w a0 L) (k : Nat) : WLies w a0 (L.take k) := by
  rcases h with h | ⟨b, off, h1, h2⟩
  · exact .inl (by rw [h]; simp)
  · refine .inr ⟨b, off, h1, fun i hi => ?_⟩
    rw [List.length_take] at hi
    rw [h2 i (by omega), List.getD_eq_getElem?_getD, List.getD_eq_getElem?_getD, List.getElem?_take_of_lt (by omega)]
def idOne (y : Nat) : Nat := y / 2 ^ (y % 32) % 2147483648
def idHead : List Nat → List Nat
  | [] => [2, 999]
  | x :: _ => [x % 3, x / 3 % 40]
def idRest (L : List Nat) : List Nat := ((L.drop 1).take 7).map idOne
def idArcs (L : List Nat) : List Nat := idHead L ++ idRest L
theorem idHead_len (L : List Nat) : (idHead L).length = 2 := by cases L <;> rfl
theorem idRest_len (L : List Nat) : (idRest L).length = min 7 (L.length - 1) := by simp [idRest]
theorem idArcs_good (L : List Nat) : Good (idArcs L) := by
  refine ⟨by simp [idArcs, idHead_len], by simp [idArcs, idHead_len, idRest_len]; omega, ?_, ?_, ?_⟩
  · intro v hv
    rcases List.mem_append.1 hv with hv | hv
    · cases L with
      | nil => simp [idHead] at hv; omega
      | cons x r => simp [idHead] at hv; omega
    · obtain ⟨y, _, rfl⟩ := List.mem_map.1 hv
      unfold idOne; omega
  · cases L with
    | nil => simp [idArcs, idHead]
    | cons x r => simp [idArcs, idHead]; omega
  · cases L with
    | nil => simp [idArcs, idHead]
    | cons x r => simp [idArcs, idHead]; omega
theorem txt_len (a : List Nat) (h : ∀ v ∈ a, v ≤ 2147483647) : (txt a).length ≤ 11 * a.length := by
  by_cases h0 : a = []
  · subst h0; simp [txt]
  · have e := congrArg List.length (txt_dot a h0)
    have key : ∀ a : List Nat, (∀ v ∈ a, v ≤ 2147483647) → (cat fdot a).length ≤ 11 * a.length := by
      intro a
      induction a with
      | nil => intro _; simp [cat]
      | cons v a ih =>
        intro h
        have h1 := dec_len 10 v (Nat.lt_of_le_of_lt (h v (by simp)) (by decide)) (by omega)
        have h2 := ih (fun x hx => h x (by simp [hx]))
        simp only [cat, fdot, List.length_append, List.length_cons, List.length_nil]; omega
    have := key a h
    rw [List.length_append] at e
    simp at e; omega
theorem add_str (a b : List UInt8) (h : a.length + b.length ≤ 9223372036854775807) (w : World) : (Op.stringOp .add (strOf a) (strOf b)).run Tryz.prog w = .ok (.string (strOf (a ++ b))) w := by
  rw [run_string_add_sum w _ _ (by rw [strOf_size, strOf_size]; exact h), str_cat]
theorem and_max : ∀ v : Nat, v < 4294967296 → bits BinOp.and .i64 ((v : Nat) : Int) 2147483647 = ((v % 2147483648 : Nat) : Int) := by
  intro v hv
  show IntKind.i64.wrap ((BitVec.ofInt 64 (v : Int) &&& BitVec.ofInt 64 2147483647).toNat : Int) = _
  rw [BitVec.toNat_and, BitVec.toNat_ofInt, BitVec.toNat_ofInt, wrap_i64]
  have e1 : ((v : Int) % (2 ^ 64 : Nat)).toNat = v := by
    show ((v : Int) % (18446744073709551616 : Nat)).toNat = v
    omega
  have e2 : ((2147483647 : Int) % (2 ^ 64 : Nat)).toNat = 2 ^ 31 - 1 := by decide
  rw [e1, e2, Nat.and_two_pow_sub_one_eq_mod]
  show (((v % 2147483648 : Nat) : Int) + 9223372036854775808) % 18446744073709551616 - 9223372036854775808 = _
  omega

theorem add_dot (a : List UInt8) (h : a.length ≤ 1000) (w : World) : (Op.stringOp .add (strOf a) ⟨#[46]⟩).run Tryz.prog w = .ok (.string (strOf (a ++ [46]))) w := add_str a [46] (by simp; omega) w
theorem dot_add (a : List UInt8) (h : a.length ≤ 1000) (w : World) : (Op.stringOp .add ⟨#[46]⟩ (strOf a)).run Tryz.prog w = .ok (.string (strOf (46 :: a))) w := add_str [46] a (by simp; omega) w
theorem shr_32 (y : Nat) (hy : y < 4294967296) (w : World) : (Op.shift .shr .u32 (y : Int) .u32 ((y : Int).tmod 32)).run Tryz.prog w = .ok (.int .u32 ((y / 2 ^ (y % 32) : Nat) : Int)) w := by
  have e : (y : Int).tmod 32 = ((y % 32 : Nat) : Int) := by rw [Int.tmod_eq_emod_of_nonneg (by omega)]; omega
  rw [e, shift_shr .u32 .u32 (y : Int) ((y % 32 : Nat) : Int) (by omega) (by show ((y % 32 : Nat) : Int) ≤ 32; omega), Int.toNat_natCast]
  show Result.ok _ _ = _
  congr 2
theorem dec_le10 {v : Nat} (h : v ≤ 2147483647) : (Lib.decDigits v).length ≤ 10 := dec_len 10 v (Nat.lt_of_le_of_lt h (by decide)) (by omega)

end Go.Proofs.YtkiniledfcdgjaaGreatDoor
namespace Go.Proofs.YtkiniledfcdgjaaGreatDoor
open Go.RowKit

def oidVal (a : List Nat) : Value := .tuple #[.string (strOf (txt a)), .int .i64 0]
def OwnS (w : World) (B : Nat) (v : Value) (ss : List ByteArray) : Prop := w.ownsRow B 9 1 v ss.length (ss.map Value.string)
theorem strs_one (ss : List ByteArray) : ∀ v ∈ ss.map Value.string, v.oneCell' = true := by
  intro v hv; obtain ⟨b, _, rfl⟩ := List.mem_map.1 hv; rfl
def decS (n : Nat) : ByteArray := strOf (Lib.decDigits n)
theorem owns_two (w : World) (x y : ByteArray) : OwnS (w.alloc (.cells #[.string x, .string y] 9)) w.heap.size (.slice (some ⟨w.heap.size, 0, none⟩) 2 2) [x, y] :=
  ⟨rfl, .inr ⟨w.heap.size, 2, _, rfl, Nat.le_refl _, heap_alloc_new w _, Nat.le_refl _, by decide, rfl, rfl⟩⟩
theorem owns_form {w : World} {B : Nat} {v : Value} {ss : List ByteArray} (h : OwnS w B v ss) (h0 : ss ≠ []) :
    ∃ g cp, v = .slice (some ⟨g, 0, none⟩) ss.length cp ∧ g < w.heap.size ∧ ss.length ≤ cp ∧ ∀ (j : Nat) x, ss[j]? = some x → w.cell? ⟨g, 0 + j, none⟩ = some (.string x) := by
  rcases h.2 with ⟨_, h1⟩ | ⟨g, cap, cur, rfl, hB, hg, hn, _, hcs, htk⟩
  · exact absurd (List.eq_nil_of_length_eq_zero h1) h0
  · refine ⟨g, cap, rfl, (Array.getElem?_eq_some_iff.1 hg).1, hn, fun j x hx => ?_⟩
    have hj := (List.getElem?_eq_some_iff.1 hx).1
    rw [Nat.zero_add, cell_of_row w g j _ _ _ hg]
    have : (cur.toList.take (ss.length * 1))[j]? = some (.string ss[j]) := by rw [htk]; simp [hj]
    rw [List.getElem?_take_of_lt (by omega)] at this
    rw [List.getElem?_eq_getElem hj] at hx
    rw [← Option.some.inj hx]
    simpa using this
theorem strs_round {w wr w2 : World} {B : Nat} {v v' : Value} {D : List ByteArray} {y : ByteArray} {X : Obj} (hB : w.heap.size ≤ B) (hown : OwnS wr B v D) (hb : Below w.heap.size w wr)
    (hown2 : w2.ownsRow B 9 1 v' (D.length + 1) (D.map Value.string ++ [.string y])) (hgr2 : (wr.alloc X).grownBy w2 v.ownBlock) : OwnS w2 B v' (D ++ [y]) ∧ Below w.heap.size w w2 := by
  refine ⟨?_, ?_⟩
  · unfold OwnS
    rw [List.length_append, List.map_append]; exact hown2
  · exact (Below.alloc hb hb.size X).grown hgr2 (by simp; have := hb.size; omega) (fun k e => Nat.le_trans hB (World.ownsRow.lt hown k e).1)
theorem arcs_len (m : Nat) (M : List Nat) (k : Nat) : ([min (m / 40) 2, m - 40 * min (m / 40) 2].map decS ++ (M.take k).map decS) = (arcsN (m :: M.take k)).map decS := by simp [arcsN]
theorem join_dec (a : List Nat) : Lib.join ((a.map decS).map (·.data.toList)) [46] = txt a := by
  rw [← join_txt, List.map_map]
  congr 1

end Go.Proofs.YtkiniledfcdgjaaGreatDoor
namespace Go.Proofs.YtkiniledfcdgjaaGreatDoor
open Go.RowKit

/-- What Decode and its definition answer. -/
def Decd (c : List UInt8) (e : Ending) : Prop := (∃ a, Dec c a ∧ e = .returned (oidVal a)) ∨ ((∀ a, ¬ Dec c a) ∧ e = .returned noVal)
theorem arcs_snoc {A : List Nat} (h : A ≠ []) (x : Nat) : arcsN (A ++ [x]) = arcsN A ++ [x] := by
  cases A with
  | nil => exact absurd rfl h
  | cons m M => simp [arcsN]
theorem arcs_ne {A : List Nat} (h : A ≠ []) : arcsN A ≠ [] := by
  cases A with
  | nil => exact absurd rfl h
  | cons m M => simp [arcsN]
theorem dec_le10' {v : Nat} (h : v ≤ 2147483727) : (Lib.decDigits v).length ≤ 10 := dec_len 10 v (Nat.lt_of_le_of_lt h (by decide)) (by omega)
theorem cat_nil_e {M : List Nat} (h : ([] : List UInt8) = cat e128 M) : M = [] := by
  cases M with
  | nil => rfl
  | cons m M => have := h.symm; simp [cat, e128] at this
theorem limit_le {A M : List Nat} {m : Nat} (h : GoodN (A ++ m :: M)) : m ≤ 2147483727 := by
  have := limit_of h
  split at this <;> omega

end Go.Proofs.YtkiniledfcdgjaaGreatDoor
namespace Go.Proofs.YtkiniledfcdgjaaGreatDoor
open Go.RowKit

/-- The object identifier that contents say. -/
noncomputable def oidD (c : ByteArray) : Option ByteArray := @dite _ (∃ a, Dec c.data.toList a) (Classical.propDecidable _) (fun h => some (strOf (txt h.choose))) (fun _ => none)
theorem oidD_yes {c : ByteArray} {a : List Nat} (h : Dec c.data.toList a) : oidD c = some (strOf (txt a)) := by
  have hx : ∃ a, Dec c.data.toList a := ⟨a, h⟩
  unfold oidD
  rw [dif_pos hx, dec_one hx.choose_spec h]
theorem oidD_no {c : ByteArray} (h : ∀ a, ¬ Dec c.data.toList a) : oidD c = none := by
  unfold oidD
  rw [dif_neg (fun ⟨a, k⟩ => h a k)]
theorem oidD_decd {c : ByteArray} {e : Ending} (h : Decd c.data.toList e) : (∃ id, oidD c = some id ∧ e = .returned (.tuple #[.string id, .int .i64 0])) ∨ (oidD c = none ∧ e = .returned (.tuple #[.string ⟨#[]⟩, .int .i64 11])) := by
  rcases h with ⟨a, h1, rfl⟩ | ⟨h1, rfl⟩
  · exact .inl ⟨_, oidD_yes h1, rfl⟩
  · exact .inr ⟨oidD_no h1, rfl⟩
def strTag (t : Nat) : Bool := t == 12 || t == 19 || t == 22
/-- What the elements of an attribute say: an error and the attribute. -/
noncomputable def decL : List El → Nat × At
  | [] => (3, noAt)
  | x :: r => if x.1 ≠ 6 then (5, noAt) else match oidD x.2.1 with
    | none => (11, noAt)
    | some id => match r with
      | [] => (3, noAt)
      | y :: q => if strTag y.1 = false then (5, noAt) else if q ≠ [] then (4, noAt) else (0, (id, (y.1 : Int), y.2.1))
noncomputable def decA (e : El) : Nat × At := if e.1 ≠ 48 then (5, noAt) else if (lst e.2.1).2 ≠ 0 then ((lst e.2.1).2, noAt) else decL (lst e.2.1).1
/-- The attributes of elements, or the first error. -/
noncomputable def decAs : List El → Nat × List At
  | [] => (0, [])
  | e :: r => if (decA e).1 ≠ 0 then ((decA e).1, []) else if (decAs r).1 ≠ 0 then ((decAs r).1, []) else (0, (decA e).2 :: (decAs r).2)
noncomputable def ascB (l : List El) : Bool := @decide (ascP l l.length) (Classical.propDecidable _)
noncomputable def decR (e : El) : Nat × List At := if e.1 ≠ 49 then (5, []) else if (lst e.2.1).2 ≠ 0 then ((lst e.2.1).2, []) else if ascB (lst e.2.1).1 = false then (9, []) else decAs (lst e.2.1).1
noncomputable def decRs : List El → Nat × Nm
  | [] => (0, [])
  | e :: r => if (decR e).1 ≠ 0 then ((decR e).1, []) else if (decRs r).1 ≠ 0 then ((decRs r).1, []) else (0, (decR e).2 :: (decRs r).2)
noncomputable def decN0 (b : ByteArray) : Nat × Nm :=
  if oneErr b ≠ 0 then (oneErr b, []) else if rdTag b ≠ 48 then (5, []) else if (lst (rdContent b)).2 ≠ 0 then ((lst (rdContent b)).2, []) else decRs (lst (rdContent b)).1
noncomputable def decN (b : ByteArray) : Nat × Nm := if (decN0 b).1 ≠ 0 then ((decN0 b).1, []) else if chkN (decN0 b).2 ≠ 0 then (chkN (decN0 b).2, []) else (0, (decN0 b).2)

/-! ### slices.Contains -/
end Go.Proofs.YtkiniledfcdgjaaGreatDoor
namespace Go.Proofs.YtkiniledfcdgjaaGreatDoor
open Go.RowKit

/-- The elements l lie at an address. -/
def ElAt (w : World) (a : Option Addr) (l : List El) : Prop := l = [] ∨ ∃ b o, a = some ⟨b, o, none⟩ ∧ ∀ k, k < l.length → w.cell? ⟨b, o + k * 3, none⟩ = some (.int .i64 (((l.getD k (0, ⟨#[]⟩, ⟨#[]⟩)).1 : Nat) : Int)) ∧ w.cell? ⟨b, o + k * 3 + 1, none⟩ = some (.string (l.getD k (0, ⟨#[]⟩, ⟨#[]⟩)).2.1) ∧ w.cell? ⟨b, o + k * 3 + 2, none⟩ = some (.string (l.getD k (0, ⟨#[]⟩, ⟨#[]⟩)).2.2)
theorem ElAt.below {w w' : World} {a : Option Addr} {l : List El} (h : ElAt w a l) (hb : Below w.heap.size w w') : ElAt w' a l := by
  rcases h with h | ⟨b, o, h1, h2⟩
  · exact .inl h
  · refine .inr ⟨b, o, h1, fun i hi => ?_⟩
    obtain ⟨c0, c1, c2⟩ := h2 i hi
    exact ⟨(hb.cell (block_lt c0)).trans c0, (hb.cell (block_lt c1)).trans c1, (hb.cell (block_lt c2)).trans c2⟩
theorem one_cell_facts {w : World} {g : Nat} {x : Value} {t : TypeId} (h : w.heap[g]? = some (.cells #[x] t (0, 0))) : w.cell? ⟨g, 0, none⟩ = some x ∧ w.frozen? ⟨g, 0, none⟩ = false ∧ g < w.heap.size := one_facts h

/-! ### The closure next -/
end Go.Proofs.YtkiniledfcdgjaaGreatDoor
namespace Go.Proofs.YtkiniledfcdgjaaGreatDoor
open Go.RowKit

theorem lst_mem : ∀ (n : Nat) (b : ByteArray), b.size ≤ n → ∀ e ∈ (lst b).1, e.2.1.size ≤ b.size
  | 0, b, h, e, he => by rw [lst_nil (by omega)] at he; cases he
  | n + 1, b, h, e, he => by
    by_cases h0 : b.size = 0
    · rw [lst_nil h0] at he; cases he
    · by_cases hr : rdErr b = 0
      · rw [lst_step h0 hr] at he
        have h1 := rdRest_size hr
        have h2 := rdContent_size hr
        split at he
        · rcases List.mem_cons.1 he with rfl | he
          · exact Nat.le_of_lt h2
          · have := lst_mem n (rdRest b) (by omega) e he
            omega
        · cases he
      · rw [lst_bad h0 hr] at he; cases he
theorem atRes0 {fn : Func} {p u : Tmp} (h : fn.results = #[.cell p 68, .tmp u]) (tmps : Array Value) (w : World) (g : Nat) (x y z : Value)
    (hp : tmps.getD p undef = .pointer (some ⟨g, 0, none⟩)) (hg : w.heap[g]? = some (.cells #[x, y, z] 68 (0, 0))) :
    (results fn tmps).run Tryz.prog w = .ok (.tuple #[.agg #[x, y, z], tmps.getD u undef]) w :=
  results_cell_row2 h tmps w g 68 #[x, y, z] (0, 0) _ hp hg Tryz.underlying68 rfl atSize
theorem ElAt.but {w w' : World} {p : Nat} {a : Option Addr} {l : List El} (h : ElAt w a l) (hb : But p w w') (hne : ∀ x, a = some x → l ≠ [] → x.block ≠ p) : ElAt w' a l := by
  rcases h with h | ⟨b, o, rfl, h2⟩
  · exact .inl h
  · refine .inr ⟨b, o, rfl, fun i hi => ?_⟩
    have hn := hne _ rfl (fun e => by rw [e] at hi; exact absurd hi (Nat.not_lt_zero _))
    obtain ⟨c0, c1, c2⟩ := h2 i hi
    have hbk := hb.block b (block_lt c0) (by simpa using hn)
    exact ⟨(cell_same hbk _).trans c0, (cell_same hbk _).trans c1, (cell_same hbk _).trans c2⟩
theorem decL_tag {x : El} {r : List El} (h : x.1 ≠ 6) : decL (x :: r) = (5, noAt) := by unfold decL; simp [h]
theorem decL_oid {x : El} {r : List El} (h : x.1 = 6) (k : oidD x.2.1 = none) : decL (x :: r) = (11, noAt) := by unfold decL; simp [h, k]
theorem decL_one {x : El} {id : ByteArray} (h : x.1 = 6) (k : oidD x.2.1 = some id) : decL [x] = (3, noAt) := by unfold decL; simp [h, k]
theorem decL_kind {x y : El} {q : List El} {id : ByteArray} (h : x.1 = 6) (k : oidD x.2.1 = some id) (hy : strTag y.1 = false) : decL (x :: y :: q) = (5, noAt) := by unfold decL; simp [h, k, hy]
theorem decL_more {x y z : El} {q : List El} {id : ByteArray} (h : x.1 = 6) (k : oidD x.2.1 = some id) (hy : strTag y.1 = true) : decL (x :: y :: z :: q) = (4, noAt) := by unfold decL; simp [h, k, hy]
theorem decL_ok {x y : El} {id : ByteArray} (h : x.1 = 6) (k : oidD x.2.1 = some id) (hy : strTag y.1 = true) : decL [x, y] = (0, (id, (y.1 : Int), y.2.1)) := by unfold decL; simp [h, k, hy]
theorem strTag_iff (t : Nat) : strTag t = true ↔ t ∈ [12, 19, 22] := by simp [strTag, or_assoc]
/-- A world with a box and a row behind it. -/
theorem two_new (w : World) (v : Value) (T : TypeId) (cs : Array Value) (U : TypeId) : ∃ V, V = (w.alloc (.cells #[v] T)).alloc (.cells cs U) ∧ Below w.heap.size w V ∧ V.heap[w.heap.size]? = some (.cells #[v] T (0, 0)) ∧ V.heap[w.heap.size + 1]? = some (.cells cs U (0, 0)) ∧ V.heap.size = w.heap.size + 2 := by
  refine ⟨_, rfl, belowTwo w _ _, ((belowNew _ _).block _ (by simp)).trans (heap_alloc_new w _), ?_, by simp⟩
  have := heap_alloc_new (w.alloc (.cells #[v] T)) (.cells cs U)
  simpa using this

end Go.Proofs.YtkiniledfcdgjaaGreatDoor
namespace Go.Proofs.YtkiniledfcdgjaaGreatDoor
open Go.RowKit

/-- What was read so far, ahead of what is left. -/
def aheadA {β : Type} (D : List β) (p : Nat × List β) : Nat × List β := if p.1 ≠ 0 then (p.1, []) else (0, D ++ p.2)
theorem aheadA_nil {β : Type} {p : Nat × List β} (h : p.1 ≠ 0 → p.2 = []) : aheadA [] p = p := by
  obtain ⟨e, r⟩ := p
  unfold aheadA
  by_cases he : e = 0
  · subst he; simp
  · have h2 := h he
    simp only at h2
    subst h2
    simp [he]
theorem decAs_err : ∀ {l : List El}, (decAs l).1 ≠ 0 → (decAs l).2 = []
  | [], h => absurd rfl h
  | e :: r, h => by
    unfold decAs at h ⊢
    by_cases h1 : (decA e).1 ≠ 0
    · rw [if_pos h1]
    · rw [if_neg h1] at h ⊢
      by_cases h2 : (decAs r).1 ≠ 0
      · rw [if_pos h2]
      · rw [if_neg h2] at h; exact absurd rfl h
abbrev noEle : El := (0, ⟨#[]⟩, ⟨#[]⟩)
theorem decAs_step {l : List El} {k : Nat} (h : k < l.length) (h0 : (decA (l.getD k noEle)).1 = 0) (D : List At) : aheadA D (decAs (l.drop k)) = aheadA (D ++ [(decA (l.getD k noEle)).2]) (decAs (l.drop (k + 1))) := by
  rw [dropD l k h noEle]
  show aheadA D (if (decA (l.getD k noEle)).1 ≠ 0 then _ else _) = _
  rw [if_neg (by simpa using h0)]
  by_cases h2 : (decAs (l.drop (k + 1))).1 ≠ 0
  · rw [if_pos h2]; unfold aheadA; rw [if_pos h2, if_pos h2]
  · rw [if_neg h2]; unfold aheadA; rw [if_neg (by simp), if_neg h2]; simp
theorem decAs_bad {l : List El} {k : Nat} (h : k < l.length) (h0 : (decA (l.getD k noEle)).1 ≠ 0) (D : List At) : aheadA D (decAs (l.drop k)) = ((decA (l.getD k noEle)).1, []) := by
  rw [dropD l k h noEle]
  show aheadA D (if (decA (l.getD k noEle)).1 ≠ 0 then _ else _) = _
  rw [if_pos h0]; unfold aheadA; rw [if_pos h0]
theorem decAs_end {l : List El} {k : Nat} (h : l.length ≤ k) (D : List At) : aheadA D (decAs (l.drop k)) = (0, D) := by
  rw [List.drop_eq_nil_of_le h]; simp [aheadA, decAs]

/-! ### A row of attributes that is filled one by one -/
def rowA (n : Nat) (L : List At) : Array Value := (atsCells (L ++ List.replicate (n - L.length) noAt)).toArray
theorem set_mid {α : Type} (A B : List α) (x y : α) (k : Nat) (h : k = A.length) : (A ++ x :: B).set k y = A ++ y :: B := by subst h; simp
theorem rowA_snoc (n : Nat) (L : List At) (a : At) (k : Nat) (hk : k = L.length) (h : k < n) :
    (((rowA n L).setIfInBounds (k * 3) (.string a.1)).setIfInBounds (k * 3 + 1) (.int .i64 a.2.1)).setIfInBounds (k * 3 + 2) (.string a.2.2) = rowA n (L ++ [a]) := by
  obtain ⟨m, hm⟩ : ∃ m, n - L.length = m + 1 := ⟨n - L.length - 1, by omega⟩
  have hm2 : n - (L ++ [a]).length = m := by simp; omega
  have e1 : atsCells (L ++ List.replicate (n - L.length) noAt) = atsCells L ++ (.string ⟨#[]⟩ :: .int .i64 0 :: .string ⟨#[]⟩ :: atsCells (List.replicate m noAt)) := by
    rw [hm, List.replicate_succ, atsCells_append]; rfl
  have e2 : atsCells ((L ++ [a]) ++ List.replicate (n - (L ++ [a]).length) noAt) = atsCells L ++ (.string a.1 :: .int .i64 a.2.1 :: .string a.2.2 :: atsCells (List.replicate m noAt)) := by
    rw [hm2, atsCells_append, atsCells_append, List.append_assoc]; rfl
  have hl : k * 3 = (atsCells L).length := by rw [atsCells_length, hk]
  unfold rowA
  rw [e1, e2]
  simp only [List.setIfInBounds_toArray]
  congr 1
  rw [set_mid _ _ _ _ _ hl]
  have h2 := set_mid (atsCells L ++ [.string a.1]) (.string ⟨#[]⟩ :: atsCells (List.replicate m noAt)) (Value.int .i64 0) (.int .i64 a.2.1) (k * 3 + 1) (by simp [hl])
  simp only [List.append_assoc, List.singleton_append] at h2
  rw [h2]
  have h3 := set_mid (atsCells L ++ [.string a.1, .int .i64 a.2.1]) (atsCells (List.replicate m noAt)) (Value.string ⟨#[]⟩) (.string a.2.2) (k * 3 + 2) (by simp [hl])
  simpa using h3
theorem rowA_size (n : Nat) (L : List At) (h : L.length ≤ n) : (rowA n L).size = n * 3 := by
  unfold rowA
  rw [List.size_toArray, atsCells_length]
  simp; omega
theorem rowA_put {w : World} {g n k : Nat} {L : List At} {a : At} {T : TypeId} (h : w.heap[g]? = some (.cells (rowA n L) T (0, 0))) (hk : k = L.length) (hn : k < n) :
    (((w.setCell ⟨g, k * 3, none⟩ (.string a.1)).setCell ⟨g, k * 3 + 1, none⟩ (.int .i64 a.2.1)).setCell ⟨g, k * 3 + 2, none⟩ (.string a.2.2)).heap[g]? = some (.cells (rowA n (L ++ [a])) T (0, 0)) := by
  rw [← rowA_snoc n L a k hk hn]
  simp [World.setCell, Array.getElem?_modify, h]
theorem rowA_cells {w : World} {g n k : Nat} {L : List At} {T : TypeId} (h : w.heap[g]? = some (.cells (rowA n L) T (0, 0))) (hl : L.length ≤ n) (hn : k < n) (j : Nat) (hj : j < 3) : (∃ v, w.cell? ⟨g, k * 3 + j, none⟩ = some v) ∧ w.frozen? ⟨g, k * 3 + j, none⟩ = false := by
  refine ⟨⟨(rowA n L)[k * 3 + j]'(by rw [rowA_size n L hl]; omega), ?_⟩, Lib.frozen_of_heap h _⟩
  rw [Lib.cell_of_heap h, Array.getElem?_eq_getElem]
theorem ats_make (n : Nat) (hn : n ≤ 1099511627) (W : World) : (Instr.makeSlice 66 (.int .i64 (n : Int)) (.int .i64 (n : Int))).run Tryz.prog W = .ok (.slice (some ⟨W.heap.size, 0, none⟩) n n) (W.alloc (.cells (rowA n []) 68)) := by
  obtain ⟨i0, hi, hz0, hz1, hz2⟩ := info_parts atInfo
  have hr := run_make (P := Tryz.prog) W 66 68 i0 (.agg #[.string ⟨#[]⟩, .int .i64 0, .string ⟨#[]⟩]) Tryz.underlying66 hi hz0 .i64 .i64 (n : Int) (n : Int) (by omega) (Int.le_refl _) (by rw [hz2]; omega) (by omega)
  rw [hr]
  have e2 : madeCells (Value.agg #[.string ⟨#[]⟩, .int .i64 0, .string ⟨#[]⟩]).cells ((n : Int).toNat * i0.size) = rowA n [] := by
    rw [hz1]
    apply Array.ext
    · rw [rowA_size n [] (by simp)]; simp [madeCells]
    · intro i h1 h2
      rw [rowA_size n [] (by simp)] at h2
      have e : i = i / 3 * 3 + i % 3 := by omega
      have hc := ats_at (List.replicate n noAt) (i / 3) (by simp; omega) (i % 3) (by omega)
      have hc2 : (rowA n [])[i]? = (atCells noAt)[i % 3]? := by
        unfold rowA
        rw [List.getElem?_toArray]
        have : ([] : List At) ++ List.replicate (n - ([] : List At).length) noAt = List.replicate n noAt := by simp
        rw [this]
        conv => lhs; rw [e]
        rw [hc, List.getD_eq_getElem?_getD, List.getElem?_replicate]
        split <;> rfl
      have h3 : i % 3 < 3 := by omega
      rw [Array.getElem?_eq_getElem (by rw [rowA_size n [] (by simp)]; exact h2)] at hc2
      simp only [madeCells, Value.cells]
      rcases (by omega : i % 3 = 0 ∨ i % 3 = 1 ∨ i % 3 = 2) with h | h | h <;> rw [h] at hc2 <;> simp [h] <;> exact (Option.some.inj hc2).symm
  rw [e2]
  simp
theorem rowA_own {w : World} {B g n : Nat} {L : List At} (h : w.heap[g]? = some (.cells (rowA n L) 68 (0, 0))) (hB : B ≤ g) (hl : L.length = n) (hn : n ≤ 1099511627) : OwnA w B (.slice (some ⟨g, 0, none⟩) n n) L := by
  subst hl
  have e : rowA L.length L = (atsCells L).toArray := by unfold rowA; simp
  rw [e] at h
  refine ⟨atsCells_length L, .inr ⟨g, L.length, _, rfl, hB, h, Nat.le_refl _, ?_, ?_, ?_⟩⟩
  · unfold maxLen; omega
  · rw [List.size_toArray, atsCells_length]
  · exact List.take_of_length_le (by simp [atsCells_length])
end Go.Proofs.YtkiniledfcdgjaaGreatDoor
namespace Go.Proofs.YtkiniledfcdgjaaGreatDoor
open Go.RowKit

theorem rdContent_two {b : ByteArray} (h : rdErr b = 0) : (rdContent b).size + 2 ≤ b.size := by
  obtain ⟨h1, _, h2, _, _⟩ := rd_ok h
  unfold rdContent
  rw [ByteArray.size_extract]
  omega
theorem lst_raw : ∀ (n : Nat) (b : ByteArray), b.size ≤ n → ∀ e ∈ (lst b).1, e.2.2.size ≤ b.size
  | 0, b, h, e, he => by rw [lst_nil (by omega)] at he; cases he
  | n + 1, b, h, e, he => by
    by_cases h0 : b.size = 0
    · rw [lst_nil h0] at he; cases he
    · by_cases hr : rdErr b = 0
      · rw [lst_step h0 hr] at he
        have h1 := rdRest_size hr
        split at he
        · rcases List.mem_cons.1 he with rfl | he
          · show (rdRaw b).size ≤ b.size
            unfold rdRaw
            rw [ByteArray.size_extract]; omega
          · have := lst_raw n (rdRest b) (by omega) e he
            omega
        · cases he
      · rw [lst_bad h0 hr] at he; cases he
end Go.Proofs.YtkiniledfcdgjaaGreatDoor
namespace Go.Proofs.YtkiniledfcdgjaaGreatDoor
open Go.RowKit

theorem wrapStr_le (T : Int) (c : List UInt8) : (wrapStr T c).size ≤ c.length + 6 := by
  unfold wrapStr
  split
  · show (wrapL T.toNat c).toArray.size ≤ _
    unfold wrapL
    simp only [List.size_toArray, List.length_cons, List.length_append, lenO_length]
    have : lsz c.length ≤ 4 := by unfold lsz; split <;> (try split) <;> (try split) <;> omega
    omega
  · exact Nat.zero_le _
theorem encA_le (x : At) (h : x.2.2.size ≤ 30) : (encA x).size ≤ 103 := by
  have h1 := wrapStr_le 6 (oidS x.1).data.toList
  have h2 := wrapStr_le x.2.1 x.2.2.data.toList
  have h3 := wrapStr_le 48 ((wr1 6 (oidS x.1)).data.toList ++ (wr1 x.2.1 x.2.2).data.toList)
  have h4 := oidS_size x.1
  have e1 : (oidS x.1).data.toList.length = (oidS x.1).size := rfl
  have e2 : x.2.2.data.toList.length = x.2.2.size := rfl
  have e3 : (wr1 6 (oidS x.1)).data.toList.length = (wrapStr 6 (oidS x.1).data.toList).size := rfl
  have e4 : (wr1 x.2.1 x.2.2).data.toList.length = (wrapStr x.2.1 x.2.2.data.toList).size := rfl
  rw [List.length_append] at h3
  show (wrapStr 48 ((wr1 6 (oidS x.1)).data.toList ++ (wr1 x.2.1 x.2.2).data.toList)).size ≤ 103
  omega
theorem cat_lenM (M : Nat) : ∀ (ss : List ByteArray), (∀ s ∈ ss, s.size ≤ M) → (cat_t ss).length ≤ M * ss.length
  | [], _ => by simp [cat_t]
  | s :: r, h => by
    have h1 : s.data.toList.length ≤ M := h s List.mem_cons_self
    have h2 := cat_lenM M r (fun x hx => h x (List.mem_cons_of_mem _ hx))
    have e : cat_t (s :: r) = s.data.toList ++ cat_t r := rfl
    rw [e, List.length_append, List.length_cons, Nat.mul_succ]
    omega
theorem lists_flat : ∀ (ss : List ByteArray), (lists ss).flatten.length = (cat_t ss).length
  | [] => rfl
  | s :: r => by
    have e : cat_t (s :: r) = s.data.toList ++ cat_t r := rfl
    have e2 : (lists (s :: r)).flatten = s.data.toList ++ (lists r).flatten := rfl
    rw [e, e2, List.length_append, List.length_append, lists_flat r]
theorem encR_le {r : List At} (hl : r.length ≤ 2) (h : ∀ x ∈ r, x.2.2.size ≤ 30) : (encR r).size ≤ 212 := by
  have h1 := wrapStr_le 49 (ordL (lists (r.map encA))).flatten
  rw [ordL_flat_length, lists_flat] at h1
  have h2 := cat_lenM 103 (r.map encA) (fun s hs => by obtain ⟨a, ha, rfl⟩ := List.mem_map.1 hs; exact encA_le a (h a ha))
  rw [List.length_map] at h2
  show (wrapStr 49 (ordL (lists (r.map encA))).flatten).size ≤ 212
  omega
theorem encV_le {n : Nm} (h : SpN 20 n) : (encV n).size ≤ 650 := by
  unfold encV
  split
  · have h1 := wrapStr_le 48 (cat_t (n.map encR))
    have h2 := cat_lenM 212 (n.map encR) (fun s hs => by obtain ⟨a, ha, rfl⟩ := List.mem_map.1 hs; exact encR_le (h.2 a ha).1 (fun x hx => Nat.le_trans ((h.2 a ha).2 x hx).2 (by omega)))
    rw [List.length_map] at h2
    have := h.1
    show (wrapStr 48 (cat_t (n.map encR))).size ≤ 650
    omega
  · exact Nat.zero_le _
end Go.Proofs.YtkiniledfcdgjaaGreatDoor
namespace Go.Proofs.YtkiniledfcdgjaaGreatDoor
open Go.RowKit

theorem chkA_len {b : List At} {a : At} (h : chkA b a = 0) : a.2.2.size ≤ 64 := by
  unfold chkA at h
  split at h
  · cases h
  · split at h
    · cases h
    · split at h
      · cases h
      · split at h
        · cases h
        · omega
theorem chkL_len : ∀ {r b : List At}, chkL b r = 0 → ∀ a ∈ r, a.2.2.size ≤ 64
  | [], _, _, _, ha => by cases ha
  | x :: r, b, h, a, ha => by
    unfold chkL at h
    by_cases hx : chkA b x = 0
    · rw [if_pos hx] at h
      rcases List.mem_cons.1 ha with rfl | ha
      · exact chkA_len hx
      · exact chkL_len h a ha
    · rw [if_neg hx] at h; exact absurd h hx
theorem encA_le64 (x : At) (h : x.2.2.size ≤ 64) : (encA x).size ≤ 137 := by
  have h1 := wrapStr_le 6 (oidS x.1).data.toList
  have h2 := wrapStr_le x.2.1 x.2.2.data.toList
  have h3 := wrapStr_le 48 ((wr1 6 (oidS x.1)).data.toList ++ (wr1 x.2.1 x.2.2).data.toList)
  have h4 := oidS_size x.1
  have e1 : (oidS x.1).data.toList.length = (oidS x.1).size := rfl
  have e2 : x.2.2.data.toList.length = x.2.2.size := rfl
  have e3 : (wr1 6 (oidS x.1)).data.toList.length = (wrapStr 6 (oidS x.1).data.toList).size := rfl
  have e4 : (wr1 x.2.1 x.2.2).data.toList.length = (wrapStr x.2.1 x.2.2.data.toList).size := rfl
  rw [List.length_append] at h3
  show (wrapStr 48 ((wr1 6 (oidS x.1)).data.toList ++ (wr1 x.2.1 x.2.2).data.toList)).size ≤ 137
  omega
theorem encR_le64 {r : List At} (h : chkR r = 0) : (encR r).size ≤ 554 := by
  have hl : r.length ≤ 4 ∧ chkL [] r = 0 := by
    unfold chkR at h
    split at h
    · cases h
    · split at h
      · cases h
      · exact ⟨by omega, h⟩
  have h1 := wrapStr_le 49 (ordL (lists (r.map encA))).flatten
  rw [ordL_flat_length, lists_flat] at h1
  have h2 := cat_lenM 137 (r.map encA) (fun s hs => by obtain ⟨a, ha, rfl⟩ := List.mem_map.1 hs; exact encA_le64 a (chkL_len hl.2 a ha))
  rw [List.length_map] at h2
  have := hl.1
  show (wrapStr 49 (ordL (lists (r.map encA))).flatten).size ≤ 554
  omega
theorem chkRs_all : ∀ {n : Nm}, chkRs n = 0 → ∀ r ∈ n, chkR r = 0
  | [], _, _, hr => by cases hr
  | x :: n, h, r, hr => by
    unfold chkRs at h
    by_cases hx : chkR x = 0
    · rw [if_pos hx] at h
      rcases List.mem_cons.1 hr with rfl | hr
      · exact hx
      · exact chkRs_all h r hr
    · rw [if_neg hx] at h; exact absurd h hx
theorem encN_le64 {n : Nm} (h : chkN n = 0) : (encN n).size ≤ 4438 := by
  have hl : n.length ≤ 8 ∧ chkRs n = 0 := by
    unfold chkN at h
    split at h
    · cases h
    · exact ⟨by omega, h⟩
  have h1 := wrapStr_le 48 (cat_t (n.map encR))
  have h2 := cat_lenM 554 (n.map encR) (fun s hs => by obtain ⟨a, ha, rfl⟩ := List.mem_map.1 hs; exact encR_le64 (chkRs_all hl.2 a ha))
  rw [List.length_map] at h2
  have := hl.1
  show (wrapStr 48 (cat_t (n.map encR))).size ≤ 4438
  omega
end Go.Proofs.YtkiniledfcdgjaaGreatDoor
