/-
  The contract of the reference's Read, put together: the same answer as that of tlv.Read.
  The contracts of tlv.One and of the reference's One: the element that a string consists of, or the error; nothing that was there before the call has changed.
  What List answers, as a function of the string; the contracts of tlv.List and of the reference's List.
  What Check answers, as a function of the string; the contracts of tlv.Check and of the reference's Check.
  Nothing is left of this text.
  The contracts of tlv.Check and of the reference's Check.
  The contract of sameElements of certpathlaw02, of two slices that hold the same elements.
  The contract of the law's function same: all readers of tlv answer as those of the reference, at every string that memory can hold.
  Plain laws: a slice of bytes that lies in memory, converted to a string; a new row of bytes lies. Nothing is claimed of the program here.
  The contract of the reference's Wrap: the same answer as that of tlv.Wrap.
-/
import Derived.Test.YtpmlkofceidnjaaGreatDoorAaf
import Derived.Lib.Builder
import Derived.Test.YtpmlkofceidnjaaGreatDoorAag
import Derived.Test.YtpmlkofceidnjaaGreatDoorAaa
import Derived.Deep.DeepCutAuto
import Derived.Test.YtpmlkofceidnjaaGreatDoorAae
namespace Go.Proofs.YtpmlkofceidnjaaGreatDoor
open Go.RowKit

theorem rdVal_err {b : ByteArray} {x : Nat} (h : rd b = (x, 0, 0)) (hx : x ≠ 0) : rdVal b = .tuple #[noEl, .string ⟨#[]⟩, .int .i64 (x : Nat)] := by
  unfold rdVal rdErr
  rw [h]
  exact if_neg hx
theorem rdVal_ok {b : ByteArray} {a n : Nat} (h : rd b = (0, a, n)) : rdVal b = .tuple #[elV (u8at b 0) (b.extract a (a + n)) (b.extract 0 (a + n)), .string (b.extract (a + n) b.size), .int .i64 0] := by
  unfold rdVal rdErr rdContent rdRaw rdRest rdTag
  rw [h]
  exact if_pos rfl

theorem rread_any (b : ByteArray) (w : World) (hs : b.size ≤ 1099511627776) :
    Calls Tryz.prog 44 #[.string b] w fun e w' => e = .returned (rdVal b) ∧ Below w.heap.size w w' := by
  by_cases h0 : b.size = 0
  · have e : b = ⟨#[]⟩ := by
      apply ByteArray.ext
      exact Array.eq_empty_of_size_eq_zero h0
    subst e
    exact rread_empty w
  · by_cases h1 : u8at b 0 % 32 = 31
    · have hrd : rd b = (5, 0, 0) := by unfold rd; rw [if_neg h0, if_pos h1]
      rw [rdVal_err hrd (by decide)]
      exact rread_tag b w h0 _ rfl h1
    · have hrd := show rd b = _ from by unfold rd; rw [if_neg h0, if_neg h1]
      unfold lnAt at hrd
      by_cases h2 : b.size ≤ 1
      · rw [if_pos h2] at hrd
        rw [rdVal_err hrd (by decide)]
        exact rread_one b w (by omega) _ rfl h1
      · rw [if_neg h2] at hrd
        by_cases h3 : u8at b 1 < 128
        · rw [if_pos h3] at hrd
          refine rread_short b w hs (by omega) _ rfl h1 _ rfl h3 _ ?_
          by_cases h4 : b.size < 2 + u8at b 1
          · rw [if_pos h4]
            refine rdVal_err (x := 3) ?_ (by decide)
            rw [hrd]
            simp only [ne_eq, not_true_eq_false, if_false, Nat.reduceAdd]
            rw [if_pos h4]
          · rw [if_neg h4]
            refine rdVal_ok (a := 2) (n := u8at b 1) ?_
            rw [hrd]
            simp only [ne_eq, not_true_eq_false, if_false, Nat.reduceAdd]
            rw [if_neg h4]
        · rw [if_neg h3] at hrd
          by_cases h4 : u8at b 1 = 128 ∨ 131 < u8at b 1
          · rw [if_pos h4] at hrd
            rw [rdVal_err (x := 6) (by rw [hrd]; rfl) (by decide)]
            exact rread_form b w (by omega) _ rfl h1 _ rfl h4
          · rw [if_neg h4] at hrd
            have h5 := u8at_lt b 1
            obtain ⟨k, hk⟩ : ∃ k, u8at b 1 = 128 + k := ⟨u8at b 1 - 128, by omega⟩
            have ek : u8at b 1 - 128 = k := by omega
            rw [ek] at hrd
            by_cases h6 : b.size < 1 + 1 + k
            · rw [if_pos h6] at hrd
              rw [rdVal_err (x := 3) (by rw [hrd]; rfl) (by decide)]
              exact rread_more b w hs (by omega) _ rfl h1 k hk (by omega) (by omega) (by omega)
            · rw [if_neg h6] at hrd
              refine rread_long b w hs (by omega) _ rfl h1 k hk (by omega) (by omega) (by omega) _ rfl _ ?_
              by_cases h7 : be b (1 + 1) k < least k ∨ 131072 < be b (1 + 1) k
              · rw [if_pos h7] at hrd
                rw [if_pos h7]
                exact rdVal_err (x := 6) (by rw [hrd]; rfl) (by decide)
              · rw [if_neg h7] at hrd
                rw [if_neg h7]
                have e : 1 + (1 + k) = 2 + k := by omega
                simp only [ne_eq, not_true_eq_false, if_false, Nat.reduceAdd, e] at hrd
                by_cases h8 : b.size < 2 + k + be b 2 k
                · rw [if_pos h8] at hrd
                  rw [if_pos h8]
                  exact rdVal_err hrd (by decide)
                · rw [if_neg h8] at hrd
                  rw [if_neg h8]
                  exact rdVal_ok hrd
end Go.Proofs.YtpmlkofceidnjaaGreatDoor
namespace Go.Proofs.YtpmlkofceidnjaaGreatDoor
open Go.RowKit

/-- What One answers. -/
def oneErr (b : ByteArray) : Nat := if rdErr b ≠ 0 then rdErr b else if (rdRest b).size ≠ 0 then 4 else 0
def oneVal (b : ByteArray) : Value := if oneErr b = 0 then .tuple #[elV (rdTag b) (rdContent b) (rdRaw b), .int .i64 0] else .tuple #[noEl, .int .i64 ((oneErr b : Nat) : Int)]

theorem rdVal_bad {b : ByteArray} (h : rdErr b ≠ 0) : rdVal b = .tuple #[.agg #[.int .i64 0, .string ⟨#[]⟩, .string ⟨#[]⟩], .string ⟨#[]⟩, .int .i64 ((rdErr b : Nat) : Int)] := if_neg h
theorem rdVal_good {b : ByteArray} (h : rdErr b = 0) : rdVal b = .tuple #[.agg #[.int .i64 ((rdTag b : Nat) : Int), .string (rdContent b), .string (rdRaw b)], .string (rdRest b), .int .i64 0] := if_pos h
theorem el_facts {w : World} {g : Nat} {x y z : Value} {t : TypeId} (h : w.heap[g]? = some (.cells #[x, y, z] t (0, 0))) :
    w.cell? ⟨g, 0, none⟩ = some x ∧ w.cell? ⟨g, 1, none⟩ = some y ∧ w.cell? ⟨g, 2, none⟩ = some z ∧ w.frozen? ⟨g, 0, none⟩ = false ∧ w.frozen? ⟨g, 1, none⟩ = false ∧ w.frozen? ⟨g, 2, none⟩ = false ∧ g < w.heap.size := by
  refine ⟨?_, ?_, ?_, Lib.frozen_of_heap h 0, Lib.frozen_of_heap h 1, Lib.frozen_of_heap h 2, (Array.getElem?_eq_some_iff.1 h).1⟩
  · rw [Lib.cell_of_heap h]; rfl
  · rw [Lib.cell_of_heap h]; rfl
  · rw [Lib.cell_of_heap h]; rfl
theorem el_set {w : World} {g : Nat} {x y z a b c : Value} {t : TypeId} (h : w.heap[g]? = some (.cells #[x, y, z] t (0, 0))) :
    (((w.setCell ⟨g, 0, none⟩ a).setCell ⟨g, 1, none⟩ b).setCell ⟨g, 2, none⟩ c).heap[g]? = some (.cells #[a, b, c] t (0, 0)) := by
  simp [World.setCell, Array.getElem?_modify, h]
theorem el_below {B : Nat} {w0 w : World} {g : Nat} {a b c : Value} (h : Below B w0 w) (hg : B ≤ g) : Below B w0 (((w.setCell ⟨g, 0, none⟩ a).setCell ⟨g, 1, none⟩ b).setCell ⟨g, 2, none⟩ c) :=
  ((h.setCell (p := ⟨g, 0, none⟩) hg _).setCell (p := ⟨g, 1, none⟩) hg _).setCell (p := ⟨g, 2, none⟩) hg _
theorem heap_keep {w : World} {g : Nat} {x : Obj} (h : w.heap[g]? = some x) (o : Obj) : (w.alloc o).heap[g]? = some x := by
  have hlt : g < w.heap.size := by
    rcases Nat.lt_or_ge g w.heap.size with h' | h'
    · exact h'
    · simp [Array.getElem?_eq_none h'] at h
  show (w.heap.push o)[g]? = _
  rw [Array.getElem?_push, if_neg (Nat.ne_of_lt hlt)]
  exact h
theorem elRes2 {fn : Func} {p u : Tmp} (h : fn.results = #[.cell p 42, .tmp u]) (tmps : Array Value) (w w0 : World) (x y z : Value)
    (hp : tmps.getD p undef = .pointer (some ⟨w0.heap.size, 0, none⟩)) (hg : w.heap[w0.heap.size]? = some (.cells #[x, y, z] 42 (0, 0))) :
    (results fn tmps).run Tryz.prog w = .ok (.tuple #[.agg #[x, y, z], tmps.getD u undef]) w :=
  results_cell_row2 h tmps w w0.heap.size 42 #[x, y, z] (0, 0) _ hp hg Tryz.underlying42 rfl elSize

set_option maxRecDepth 100000 in
set_option maxHeartbeats 1000000 in
theorem one_bad (b : ByteArray) (w : World) (hs : b.size ≤ 1099511627776) (x : Nat) (hx : x ≠ 0) (hr : rdVal b = .tuple #[.agg #[.int .i64 0, .string ⟨#[]⟩, .string ⟨#[]⟩], .string ⟨#[]⟩, .int .i64 (x : Nat)]) :
    Calls Tryz.prog 36 #[.string b] w fun e w' => e = .returned (.tuple #[noEl, .int .i64 (x : Nat)]) ∧ Below w.heap.size w w' := by
  have HS := Lib.hid hs
  have HR := Lib.hid hr
  have dx : ((x : Int) != 0) = true := by simp; omega
  clear hx
  clear hs hr
  go_enter Tryz.func36, Tryz.ntmps36
  go_wp2_with (go_at_call 55; (with_reducible refine (read_any b _ HS.out).mono ?_); rw [HR.out]; rintro e w1 ⟨rfl, hb1⟩; have hc := ((hb1.block w.heap.size (by simp)).trans (elNew w _)); obtain ⟨c0, c1, c2, f0, f1, f2, hlt⟩ := el_facts hc; have HC := Lib.hid hc; clear hc; have HB1 := Lib.hid hb1; clear hb1)
  exact bodyPost_ret (elRes2 rfl _ _ w _ _ _ rfl (heap_keep (el_set HC.out) _)) rfl ⟨rfl, (el_below ((belowNew w _).trans (HB1.out.mono (by simp))) (Nat.le_refl _)).alloc (by simp; omega) _⟩
set_option maxRecDepth 100000 in
set_option maxHeartbeats 1000000 in
theorem one_trail (b : ByteArray) (w : World) (hs : b.size ≤ 1099511627776) (t : Nat) (c r u : ByteArray) (hu : u.size ≠ 0) (hr : rdVal b = .tuple #[.agg #[.int .i64 (t : Nat), .string c, .string r], .string u, .int .i64 0]) :
    Calls Tryz.prog 36 #[.string b] w fun e w' => e = .returned (.tuple #[noEl, .int .i64 4]) ∧ Below w.heap.size w w' := by
  have HS := Lib.hid hs
  have HR := Lib.hid hr
  have he := nonempty_list hu
  have hd : decide (0 < (u.size : Int)) = true := by simp; omega
  clear hs hr
  go_enter Tryz.func36, Tryz.ntmps36
  go_wp2_with (go_at_call 55; (with_reducible refine (read_any b _ HS.out).mono ?_); rw [HR.out]; rintro e w1 ⟨rfl, hb1⟩; have hc := ((hb1.block w.heap.size (by simp)).trans (elNew w _)); obtain ⟨c0, c1, c2, f0, f1, f2, hlt⟩ := el_facts hc; have HC := Lib.hid hc; clear hc; have HB1 := Lib.hid hb1; clear hb1)
  exact bodyPost_ret (elRes2 rfl _ _ w _ _ _ rfl (heap_keep (el_set HC.out) _)) rfl ⟨rfl, (el_below ((belowNew w _).trans (HB1.out.mono (by simp))) (Nat.le_refl _)).alloc (by simp; omega) _⟩
set_option maxRecDepth 100000 in
set_option maxHeartbeats 1000000 in
theorem one_good (b : ByteArray) (w : World) (hs : b.size ≤ 1099511627776) (t : Nat) (c r : ByteArray) (hr : rdVal b = .tuple #[.agg #[.int .i64 (t : Nat), .string c, .string r], .string ⟨#[]⟩, .int .i64 0]) :
    Calls Tryz.prog 36 #[.string b] w fun e w' => e = .returned (.tuple #[elV t c r, .int .i64 0]) ∧ Below w.heap.size w w' := by
  have HS := Lib.hid hs
  have HR := Lib.hid hr
  clear hs hr
  go_enter Tryz.func36, Tryz.ntmps36
  go_wp2_with (go_at_call 55; (with_reducible refine (read_any b _ HS.out).mono ?_); rw [HR.out]; rintro e w1 ⟨rfl, hb1⟩; have hc := ((hb1.block w.heap.size (by simp)).trans (elNew w _)); obtain ⟨c0, c1, c2, f0, f1, f2, hlt⟩ := el_facts hc; have HC := Lib.hid hc; clear hc; have HB1 := Lib.hid hb1; clear hb1)
  exact bodyPost_ret (elRes2 rfl _ _ w _ _ _ rfl (heap_keep (el_set HC.out) _)) rfl ⟨rfl, (el_below ((belowNew w _).trans (HB1.out.mono (by simp))) (Nat.le_refl _)).alloc (by simp; omega) _⟩

theorem one_any (b : ByteArray) (w : World) (hs : b.size ≤ 1099511627776) :
    Calls Tryz.prog 36 #[.string b] w fun e w' => e = .returned (oneVal b) ∧ Below w.heap.size w w' := by
  unfold oneVal oneErr
  by_cases h : rdErr b = 0
  · by_cases h2 : (rdRest b).size = 0
    · have e : rdRest b = ⟨#[]⟩ := by
        apply ByteArray.ext
        exact Array.eq_empty_of_size_eq_zero h2
      simp only [h, h2, ne_eq, not_true_eq_false, if_false, if_true]
      exact one_good b w hs _ _ _ (by rw [rdVal_good h, e])
    · simp only [h, h2, ne_eq, not_true_eq_false, not_false_eq_true, if_false, if_true, Nat.reduceEqDiff]
      exact one_trail b w hs _ _ _ _ h2 (rdVal_good h)
  · simp only [h, ne_eq, not_false_eq_true, if_true, if_false]
    exact one_bad b w hs _ h (rdVal_bad h)
set_option maxRecDepth 100000 in
set_option maxHeartbeats 1000000 in
theorem rone_bad (b : ByteArray) (w : World) (hs : b.size ≤ 1099511627776) (x : Nat) (hx : x ≠ 0) (hr : rdVal b = .tuple #[.agg #[.int .i64 0, .string ⟨#[]⟩, .string ⟨#[]⟩], .string ⟨#[]⟩, .int .i64 (x : Nat)]) :
    Calls Tryz.prog 20 #[.string b] w fun e w' => e = .returned (.tuple #[noEl, .int .i64 (x : Nat)]) ∧ Below w.heap.size w w' := by
  have HS := Lib.hid hs
  have HR := Lib.hid hr
  have dx : ((x : Int) != 0) = true := by simp; omega
  clear hx
  clear hs hr
  go_enter Tryz.func20, Tryz.ntmps20
  go_wp2_with (go_at_call 44; (with_reducible refine (rread_any b _ HS.out).mono ?_); rw [HR.out]; rintro e w1 ⟨rfl, hb1⟩; have hc := ((hb1.block w.heap.size (by simp)).trans (elNew w _)); obtain ⟨c0, c1, c2, f0, f1, f2, hlt⟩ := el_facts hc; have HC := Lib.hid hc; clear hc; have HB1 := Lib.hid hb1; clear hb1)
  exact bodyPost_ret (elRes2 rfl _ _ w _ _ _ rfl (heap_keep (el_set HC.out) _)) rfl ⟨rfl, (el_below ((belowNew w _).trans (HB1.out.mono (by simp))) (Nat.le_refl _)).alloc (by simp; omega) _⟩
set_option maxRecDepth 100000 in
set_option maxHeartbeats 1000000 in
theorem rone_trail (b : ByteArray) (w : World) (hs : b.size ≤ 1099511627776) (t : Nat) (c r u : ByteArray) (hu : u.size ≠ 0) (hr : rdVal b = .tuple #[.agg #[.int .i64 (t : Nat), .string c, .string r], .string u, .int .i64 0]) :
    Calls Tryz.prog 20 #[.string b] w fun e w' => e = .returned (.tuple #[noEl, .int .i64 4]) ∧ Below w.heap.size w w' := by
  have HS := Lib.hid hs
  have HR := Lib.hid hr
  have he := nonempty_list hu
  have hd : decide (0 < (u.size : Int)) = true := by simp; omega
  clear hs hr
  go_enter Tryz.func20, Tryz.ntmps20
  go_wp2_with (go_at_call 44; (with_reducible refine (rread_any b _ HS.out).mono ?_); rw [HR.out]; rintro e w1 ⟨rfl, hb1⟩; have hc := ((hb1.block w.heap.size (by simp)).trans (elNew w _)); obtain ⟨c0, c1, c2, f0, f1, f2, hlt⟩ := el_facts hc; have HC := Lib.hid hc; clear hc; have HB1 := Lib.hid hb1; clear hb1)
  exact bodyPost_ret (elRes2 rfl _ _ w _ _ _ rfl (heap_keep (el_set HC.out) _)) rfl ⟨rfl, (el_below ((belowNew w _).trans (HB1.out.mono (by simp))) (Nat.le_refl _)).alloc (by simp; omega) _⟩
set_option maxRecDepth 100000 in
set_option maxHeartbeats 1000000 in
theorem rone_good (b : ByteArray) (w : World) (hs : b.size ≤ 1099511627776) (t : Nat) (c r : ByteArray) (hr : rdVal b = .tuple #[.agg #[.int .i64 (t : Nat), .string c, .string r], .string ⟨#[]⟩, .int .i64 0]) :
    Calls Tryz.prog 20 #[.string b] w fun e w' => e = .returned (.tuple #[elV t c r, .int .i64 0]) ∧ Below w.heap.size w w' := by
  have HS := Lib.hid hs
  have HR := Lib.hid hr
  clear hs hr
  go_enter Tryz.func20, Tryz.ntmps20
  go_wp2_with (go_at_call 44; (with_reducible refine (rread_any b _ HS.out).mono ?_); rw [HR.out]; rintro e w1 ⟨rfl, hb1⟩; have hc := ((hb1.block w.heap.size (by simp)).trans (elNew w _)); obtain ⟨c0, c1, c2, f0, f1, f2, hlt⟩ := el_facts hc; have HC := Lib.hid hc; clear hc; have HB1 := Lib.hid hb1; clear hb1)
  exact bodyPost_ret (elRes2 rfl _ _ w _ _ _ rfl (heap_keep (el_set HC.out) _)) rfl ⟨rfl, (el_below ((belowNew w _).trans (HB1.out.mono (by simp))) (Nat.le_refl _)).alloc (by simp; omega) _⟩

theorem rone_any (b : ByteArray) (w : World) (hs : b.size ≤ 1099511627776) :
    Calls Tryz.prog 20 #[.string b] w fun e w' => e = .returned (oneVal b) ∧ Below w.heap.size w w' := by
  unfold oneVal oneErr
  by_cases h : rdErr b = 0
  · by_cases h2 : (rdRest b).size = 0
    · have e : rdRest b = ⟨#[]⟩ := by
        apply ByteArray.ext
        exact Array.eq_empty_of_size_eq_zero h2
      simp only [h, h2, ne_eq, not_true_eq_false, if_false, if_true]
      exact rone_good b w hs _ _ _ (by rw [rdVal_good h, e])
    · simp only [h, h2, ne_eq, not_true_eq_false, not_false_eq_true, if_false, if_true, Nat.reduceEqDiff]
      exact rone_trail b w hs _ _ _ _ h2 (rdVal_good h)
  · simp only [h, ne_eq, not_false_eq_true, if_true, if_false]
    exact rone_bad b w hs _ h (rdVal_bad h)
end Go.Proofs.YtpmlkofceidnjaaGreatDoor
namespace Go.Proofs.YtpmlkofceidnjaaGreatDoor
open Go.RowKit

/-- An element: identifier octet, contents, the whole of it. -/
abbrev El := Nat × ByteArray × ByteArray
def elCells (e : El) : List Value := [.int .i64 ((e.1 : Nat) : Int), .string e.2.1, .string e.2.2]
def elsCells (l : List El) : List Value := l.flatMap elCells
theorem elsCells_snoc (l : List El) (e : El) : elsCells (l ++ [e]) = elsCells l ++ elCells e := by simp [elsCells]
def rdElem (b : ByteArray) : El := (rdTag b, rdContent b, rdRaw b)

/-- The elements of which a string consists, and the error (with an error no element). -/
def lst (b : ByteArray) : List El × Nat :=
  if b.size = 0 then ([], 0)
  else if _h : rdErr b = 0 then
    if (lst (rdRest b)).2 = 0 then (rdElem b :: (lst (rdRest b)).1, 0) else ([], (lst (rdRest b)).2)
  else ([], rdErr b)
termination_by b.size
decreasing_by all_goals exact rdRest_size (by assumption)
theorem lst_nil {b : ByteArray} (h : b.size = 0) : lst b = ([], 0) := by rw [lst, if_pos h]
theorem lst_bad {b : ByteArray} (h0 : b.size ≠ 0) (h : rdErr b ≠ 0) : lst b = ([], rdErr b) := by rw [lst, if_neg h0, dif_neg h]
theorem lst_step {b : ByteArray} (h0 : b.size ≠ 0) (h : rdErr b = 0) : lst b = if (lst (rdRest b)).2 = 0 then (rdElem b :: (lst (rdRest b)).1, 0) else ([], (lst (rdRest b)).2) := by
  rw [lst, if_neg h0, dif_pos h]
/-- Elements ahead of those of a string. -/
def ahead (D : List El) (p : List El × Nat) : List El × Nat := if p.2 = 0 then (D ++ p.1, 0) else ([], p.2)
theorem ahead_nil (b : ByteArray) : ahead [] (lst b) = lst b := by
  unfold ahead
  by_cases h0 : b.size = 0
  · rw [lst_nil h0]; rfl
  · by_cases h : rdErr b = 0
    · rw [lst_step h0 h]
      by_cases h2 : (lst (rdRest b)).2 = 0
      · simp [h2]
      · simp [h2]
    · rw [lst_bad h0 h]
      simp [h]
theorem ahead_step {b : ByteArray} (D : List El) (h0 : b.size ≠ 0) (h : rdErr b = 0) : ahead D (lst b) = ahead (D ++ [rdElem b]) (lst (rdRest b)) := by
  rw [lst_step h0 h]
  unfold ahead
  by_cases h2 : (lst (rdRest b)).2 = 0
  · simp [h2]
  · simp [h2]
theorem ahead_bad {b : ByteArray} (D : List El) (h0 : b.size ≠ 0) (h : rdErr b ≠ 0) : ahead D (lst b) = ([], rdErr b) := by
  rw [lst_bad h0 h]
  unfold ahead
  simp [h]
theorem ahead_end {b : ByteArray} (D : List El) (h0 : b.size = 0) : ahead D (lst b) = (D, 0) := by
  rw [lst_nil h0]
  unfold ahead
  simp

/-- The slice value v, of memory from block B on, holds the elements l. -/
def OwnE (w : World) (B : Nat) (v : Value) (l : List El) : Prop := w.ownsRow B 42 3 v l.length (elsCells l)
theorem elInfo : (Tryz.prog.info? 42).map (fun i => (i.zero, i.size, i.bytes)) = some (some (.agg #[.int .i64 0, .string ⟨#[]⟩, .string ⟨#[]⟩]), 3, 40) := by kernel_rfl

theorem elCells_one (e : El) : ∀ u ∈ elCells e, u.oneCell' = true := by
  intro u hu
  simp only [elCells, List.mem_cons, List.not_mem_nil, or_false] at hu
  rcases hu with rfl | rfl | rfl <;> rfl
theorem els_round {w wr w1 w2 : World} {v v' : Value} {D : List El} {e : El} {X Y : Obj} (hown : OwnE wr w.heap.size v D) (hb : Below w.heap.size w wr) (hb1 : Below wr.heap.size wr w1)
    (hown2 : w2.ownsRow w.heap.size 42 3 v' (D.length + 1) (elsCells D ++ elCells e)) (hgr2 : ((w1.alloc X).alloc Y).grownBy w2 v.ownBlock) : OwnE w2 w.heap.size v' (D ++ [e]) ∧ Below w.heap.size w w2 := by
  have h1 := hb.size
  have h2 := hb1.size
  refine ⟨?_, ?_⟩
  · unfold OwnE
    rw [List.length_append, elsCells_snoc]; exact hown2
  · exact (((hb.trans (hb1.mono h1)).alloc (by omega) X).alloc (by simp; omega) Y).grown hgr2 (by simp; omega) (fun k e => (World.ownsRow.lt hown k e).1)
theorem els_news (w1 : World) (X : Obj) (e : El) (cs : Array Value) (hcs : cs = (elCells e).toArray) :
    ∀ j u, (elCells e)[j]? = some u → ((w1.alloc X).alloc (.cells cs 42)).cell? ((⟨w1.heap.size + 1, 0, none⟩ : Addr).add j) = some u := by
  intro j u h
  have := news_row (w1.alloc X) cs 42 j u (by rw [hcs]; simpa using h)
  simpa using this

set_option maxRecDepth 100000 in
set_option maxHeartbeats 1000000 in
theorem list_any (b : ByteArray) (w : World) (hs : b.size ≤ 1099511627776) :
    Calls Tryz.prog 56 #[.string b] w fun e w' => ∃ v, e = .returned (.tuple #[v, .int .i64 (((lst b).2 : Nat) : Int)]) ∧ OwnE w' w.heap.size v (lst b).1 ∧ Below w.heap.size w w' := by
  obtain ⟨i0, hi, hz0, hz1, hz2⟩ := info_parts elInfo
  have HSB := Lib.hid hs
  go_enter Tryz.func56, Tryz.ntmps56
  go_wp2_with fail
  go_loopw [0, 4] (fun c v wr => ∃ (r : ByteArray) (D : List El), r.size + D.length ≤ b.size ∧ c = .string r ∧ ahead D (lst r) = lst b ∧ OwnE wr w.heap.size v D ∧ Below w.heap.size w wr) (fun c _ _ => strLen c)
  case atStart => exact ⟨b, [], Nat.le_refl _, rfl, ahead_nil b, World.ownsRow_nil _ _ _ _, Below.refl _ _⟩
  case round =>
    obtain ⟨r, D, hrs, rfl, hD, hown, hb⟩ := hrel
    have HO := Lib.hid hown
    have HB := Lib.hid hb
    have HD := Lib.hid hD
    have HRS := Lib.hid hrs
    have HS := Lib.hid (show r.size ≤ 1099511627776 by omega)
    clear hown hb hD hs hrs
    by_cases h0 : r.size = 0
    · have er : r = ⟨#[]⟩ := by
        apply ByteArray.ext
        exact Array.eq_empty_of_size_eq_zero h0
      subst er
      have HF := Lib.hid ((ahead_end D h0).symm.trans HD.out)
      clear h0
      go_wp2_with fail
      go_ret2
      obtain ⟨e1, e2⟩ : (lst b).1 = D ∧ (lst b).2 = 0 := by rw [← HF.out]; exact ⟨rfl, rfl⟩
      rw [e1, e2]
      exact ⟨_, rfl, HO.out, HB.out⟩
    · have he := nonempty_list h0
      have hpos : 0 < r.size := by omega
      by_cases hx : rdErr r = 0
      · have HV := Lib.hid (rdVal_good hx)
        have HX := Lib.hid hx
        have H0 := Lib.hid h0
        have hlt := rdRest_size hx
        have hDl : D.length + 1 ≤ 1099511627776 := by have := HRS.out; have := HSB.out; omega
        have HL := Lib.hid hDl
        have HLT := Lib.hid hlt
        clear hx h0 hlt hDl
        go_wp2_with (first | (go_at_call 55; (with_reducible refine (read_any r _ HS.out).mono ?_); rw [HV.out]; rintro e w1 ⟨rfl, hb1⟩; have HB1 := Lib.hid hb1; clear hb1) | (at_builtin; (refine wpList_append_own _ rfl (.tmp 19) (.tmp 21) 45 rfl w.heap.size 42 i0 (.agg #[.int .i64 0, .string ⟨#[]⟩, .string ⟨#[]⟩]) 3 40 Tryz.underlying45 hi hz0 hz1 hz2 rfl (by decide) _ D.length (elsCells D) rfl (((own_below HO.out HB1.out).alloc _).alloc _) ⟨w1.heap.size + 1, 0, none⟩ 1 1 (elCells (rdElem r)) rfl rfl (els_news w1 _ (rdElem r) _ rfl) (elCells_one _) (by have := HL.out; unfold maxLen; omega) (by have := HL.out; omega) (by have := HB.out.size; have := HB1.out.size; simp; omega) ?_); intro v' w2 hown2 hgr2 _; obtain ⟨P1, P2⟩ := els_round HO.out HB.out HB1.out hown2 hgr2; have HP1 := Lib.hid P1; have HP2 := Lib.hid P2; clear hown2 hgr2 P1 P2))
        go_roundw
        case rel => exact ⟨rdRest r, D ++ [rdElem r], by have := HRS.out; have := HLT.out; rw [List.length_append]; simp; omega, rfl, (ahead_step D H0.out HX.out).symm.trans HD.out, HP1.out, HP2.out⟩
        case measure => exact HLT.out
      · have HV := Lib.hid (rdVal_bad hx)
        have HX := Lib.hid hx
        have H0 := Lib.hid h0
        have dx : (((rdErr r : Nat) : Int) != 0) = true := by simp; omega
        have HF := Lib.hid ((ahead_bad D h0 hx).symm.trans HD.out)
        clear hx h0
        go_wp2_with (go_at_call 55; (with_reducible refine (read_any r _ HS.out).mono ?_); rw [HV.out]; rintro e w1 ⟨rfl, hb1⟩; have HB1 := Lib.hid hb1; clear hb1)
        go_ret2
        obtain ⟨e1, e2⟩ : (lst b).1 = [] ∧ (lst b).2 = rdErr r := by rw [← HF.out]; exact ⟨rfl, rfl⟩
        rw [e1, e2]
        exact ⟨_, rfl, World.ownsRow_nil _ _ _ _, (HB.out.trans (HB1.out.mono HB.out.size)).alloc (by have := HB.out.size; have := HB1.out.size; omega) _⟩
set_option maxRecDepth 100000 in
set_option maxHeartbeats 1000000 in
theorem rlist_any (b : ByteArray) (w : World) (hs : b.size ≤ 1099511627776) :
    Calls Tryz.prog 35 #[.string b] w fun e w' => ∃ v, e = .returned (.tuple #[v, .int .i64 (((lst b).2 : Nat) : Int)]) ∧ OwnE w' w.heap.size v (lst b).1 ∧ Below w.heap.size w w' := by
  obtain ⟨i0, hi, hz0, hz1, hz2⟩ := info_parts elInfo
  have HSB := Lib.hid hs
  go_enter Tryz.func35, Tryz.ntmps35
  go_wp2_with fail
  go_loopw [0, 4] (fun c v wr => ∃ (r : ByteArray) (D : List El), r.size + D.length ≤ b.size ∧ c = .string r ∧ ahead D (lst r) = lst b ∧ OwnE wr w.heap.size v D ∧ Below w.heap.size w wr) (fun c _ _ => strLen c)
  case atStart => exact ⟨b, [], Nat.le_refl _, rfl, ahead_nil b, World.ownsRow_nil _ _ _ _, Below.refl _ _⟩
  case round =>
    obtain ⟨r, D, hrs, rfl, hD, hown, hb⟩ := hrel
    have HO := Lib.hid hown
    have HB := Lib.hid hb
    have HD := Lib.hid hD
    have HRS := Lib.hid hrs
    have HS := Lib.hid (show r.size ≤ 1099511627776 by omega)
    clear hown hb hD hs hrs
    by_cases h0 : r.size = 0
    · have er : r = ⟨#[]⟩ := by
        apply ByteArray.ext
        exact Array.eq_empty_of_size_eq_zero h0
      subst er
      have HF := Lib.hid ((ahead_end D h0).symm.trans HD.out)
      clear h0
      go_wp2_with fail
      go_ret2
      obtain ⟨e1, e2⟩ : (lst b).1 = D ∧ (lst b).2 = 0 := by rw [← HF.out]; exact ⟨rfl, rfl⟩
      rw [e1, e2]
      exact ⟨_, rfl, HO.out, HB.out⟩
    · have he := nonempty_list h0
      have hpos : 0 < r.size := by omega
      by_cases hx : rdErr r = 0
      · have HV := Lib.hid (rdVal_good hx)
        have HX := Lib.hid hx
        have H0 := Lib.hid h0
        have hlt := rdRest_size hx
        have hDl : D.length + 1 ≤ 1099511627776 := by have := HRS.out; have := HSB.out; omega
        have HL := Lib.hid hDl
        have HLT := Lib.hid hlt
        clear hx h0 hlt hDl
        go_wp2_with (first | (go_at_call 44; (with_reducible refine (rread_any r _ HS.out).mono ?_); rw [HV.out]; rintro e w1 ⟨rfl, hb1⟩; have HB1 := Lib.hid hb1; clear hb1) | (at_builtin; (refine wpList_append_own _ rfl (.tmp 20) (.tmp 22) 45 rfl w.heap.size 42 i0 (.agg #[.int .i64 0, .string ⟨#[]⟩, .string ⟨#[]⟩]) 3 40 Tryz.underlying45 hi hz0 hz1 hz2 rfl (by decide) _ D.length (elsCells D) rfl (((own_below HO.out HB1.out).alloc _).alloc _) ⟨w1.heap.size + 1, 0, none⟩ 1 1 (elCells (rdElem r)) rfl rfl (els_news w1 _ (rdElem r) _ rfl) (elCells_one _) (by have := HL.out; unfold maxLen; omega) (by have := HL.out; omega) (by have := HB.out.size; have := HB1.out.size; simp; omega) ?_); intro v' w2 hown2 hgr2 _; obtain ⟨P1, P2⟩ := els_round HO.out HB.out HB1.out hown2 hgr2; have HP1 := Lib.hid P1; have HP2 := Lib.hid P2; clear hown2 hgr2 P1 P2))
        go_roundw
        case rel => exact ⟨rdRest r, D ++ [rdElem r], by have := HRS.out; have := HLT.out; rw [List.length_append]; simp; omega, rfl, (ahead_step D H0.out HX.out).symm.trans HD.out, HP1.out, HP2.out⟩
        case measure => exact HLT.out
      · have HV := Lib.hid (rdVal_bad hx)
        have HX := Lib.hid hx
        have H0 := Lib.hid h0
        have dx : (((rdErr r : Nat) : Int) != 0) = true := by simp; omega
        have HF := Lib.hid ((ahead_bad D h0 hx).symm.trans HD.out)
        clear hx h0
        go_wp2_with (go_at_call 44; (with_reducible refine (rread_any r _ HS.out).mono ?_); rw [HV.out]; rintro e w1 ⟨rfl, hb1⟩; have HB1 := Lib.hid hb1; clear hb1)
        go_ret2
        obtain ⟨e1, e2⟩ : (lst b).1 = [] ∧ (lst b).2 = rdErr r := by rw [← HF.out]; exact ⟨rfl, rfl⟩
        rw [e1, e2]
        exact ⟨_, rfl, World.ownsRow_nil _ _ _ _, (HB.out.trans (HB1.out.mono HB.out.size)).alloc (by have := HB.out.size; have := HB1.out.size; omega) _⟩
end Go.Proofs.YtpmlkofceidnjaaGreatDoor
namespace Go.Proofs.YtpmlkofceidnjaaGreatDoor
open Go.RowKit

theorem rdTag_lt (b : ByteArray) : rdTag b < 256 := u8at_lt b 0

end Go.Proofs.YtpmlkofceidnjaaGreatDoor

namespace Go.Proofs.YtpmlkofceidnjaaGreatDoor
open Go.RowKit

theorem oneErr_rd {b : ByteArray} (h : oneErr b = 0) : rdErr b = 0 := by
  unfold oneErr at h
  by_cases h1 : rdErr b = 0
  · exact h1
  · rw [if_pos h1] at h; exact absurd h h1

end Go.Proofs.YtpmlkofceidnjaaGreatDoor
namespace Go.Proofs.YtpmlkofceidnjaaGreatDoor
open Go.RowKit

theorem own_base_t {w : World} {B : Nat} {v : Value} {l : List El} (h : OwnE w B v l) : OwnE w 0 v l := by
  refine ⟨h.1, ?_⟩
  rcases h.2 with h0 | ⟨g, cap, cur, hv, _, r⟩
  · exact .inl h0
  · exact .inr ⟨g, cap, cur, hv, Nat.zero_le _, r⟩
theorem els_cell {w : World} {g : Nat} {B cap : Nat} {l : List El} (h : OwnE w B (.slice (some ⟨g, 0, none⟩) l.length cap) l) (i : Nat) (hi : i < l.length) (j : Nat) (hj : j < 3) :
    w.cell? ⟨g, i * 3 + j, none⟩ = (elCells l[i])[j]? := by
  rw [World.ownsRow.cellAt h (i * 3 + j) (by omega)]
  clear h
  induction l generalizing i with
  | nil => exact absurd hi (Nat.not_lt_zero _)
  | cons e r ih =>
    have e0 : elsCells (e :: r) = elCells e ++ elsCells r := rfl
    have el : (elCells e).length = 3 := rfl
    rw [e0]
    cases i with
    | zero => rw [List.getElem?_append_left (by omega)]; simp
    | succ i =>
      rw [List.getElem?_append_right (by omega), el, show (i + 1) * 3 + j - 3 = i * 3 + j by omega, ih i (by simpa using hi)]
      rfl

end Go.Proofs.YtpmlkofceidnjaaGreatDoor
namespace Go.Proofs.YtpmlkofceidnjaaGreatDoor
open Go.RowKit

theorem lst_length (b : ByteArray) : ∀ n, b.size ≤ n → (lst b).1.length ≤ n := by
  intro n
  induction n generalizing b with
  | zero => intro h; rw [lst_nil (by omega)]; exact Nat.le_refl 0
  | succ n ih =>
    intro h
    by_cases h0 : b.size = 0
    · rw [lst_nil h0]; exact Nat.zero_le _
    · by_cases hx : rdErr b = 0
      · rw [lst_step h0 hx]
        have h1 := rdRest_size hx
        have h2 := ih (rdRest b) (by omega)
        by_cases h3 : (lst (rdRest b)).2 = 0
        · rw [if_pos h3]; simp; exact h2
        · rw [if_neg h3]; exact Nat.zero_le _
      · rw [lst_bad h0 hx]; exact Nat.zero_le _
theorem OwnE.below {w w' : World} {B : Nat} {v : Value} {l : List El} (h : OwnE w B v l) (hb : Below w.heap.size w w') : OwnE w' B v l := own_below h hb
theorem below_next_t {w0 w w' : World} (h : Below w0.heap.size w0 w) (hb : Below w.heap.size w w') : Below w0.heap.size w0 w' := h.trans (hb.mono h.size)
theorem el_other {w : World} {g k : Nat} {a b c : Value} {o : Option Obj} (h : w.heap[k]? = o) (hne : g ≠ k) : (((w.setCell ⟨g, 0, none⟩ a).setCell ⟨g, 1, none⟩ b).setCell ⟨g, 2, none⟩ c).heap[k]? = o := by
  simp [World.setCell, Array.getElem?_modify, h, hne]

end Go.Proofs.YtpmlkofceidnjaaGreatDoor
namespace Go.Proofs.YtpmlkofceidnjaaGreatDoor
open Go.RowKit

theorem run_convert_lies {P : Program} {src dst e : TypeId} (hs : P.underlying src = some (.slice e)) (he : P.underlying e = some (.int .u8)) (hd : P.underlying dst = some .string) {w : World} {a : Option Addr} {cap : Nat} {l : List UInt8} (h : BLies w a l) {w' : World} (hb : Below w.heap.size w w') :
    (convert src dst (.slice a l.length cap)).run P w' = .ok (.string ⟨l.toArray⟩) w' := by
  cases a with
  | none =>
    rcases h with rfl | ⟨b, o, h, _⟩
    · rw [List.length_nil, run_convert_bytes_string w' src dst e none 0 cap hs he hd]
      unfold Conv.bytesToString
      simp
      rfl
    · cases h
  | some ad =>
    refine run_convert_bytes_back w' src dst e ad cap l hs he hd (fun j hj => ?_)
    rcases h with rfl | ⟨b, o, h, hc⟩
    · exact absurd hj (Nat.not_lt_zero _)
    · obtain rfl := Option.some.inj h
      have hadd : (⟨b, o, none⟩ : Addr).add j = ⟨b, o + j, none⟩ := by unfold Addr.add; split <;> simp_all
      rw [hadd, hb.cell (p := ⟨b, o + j, none⟩) (block_lt_of_cell (hc j hj))]
      exact hc j hj
theorem row_lies (W : World) (g : Nat) (hg : g = W.heap.size) (l : List UInt8) (cs : Array Value) (hcs : cs = (l.map bcell).toArray) : BLies (W.alloc (.cells cs 5)) (some ⟨g, 0, none⟩) l := by
  subst hg hcs
  refine .inr ⟨_, _, rfl, fun i hi => ?_⟩
  rw [Lib.cell_of_heap (heap_alloc_new W _)]
  simp [hi]
end Go.Proofs.YtpmlkofceidnjaaGreatDoor
namespace Go.Proofs.YtpmlkofceidnjaaGreatDoor
open Go.RowKit

set_option maxRecDepth 100000 in
set_option maxHeartbeats 1000000 in
theorem rwrap_out (T : Int) (v : Value) (w : World) (h : T < 0 ∨ 255 < T) :
    Calls Tryz.prog 19 #[.int .i64 T, v] w fun e w' => e = .returned (.tuple #[.string ⟨#[]⟩, .int .i64 5]) ∧ w' = w := by
  by_cases h0 : T < 0
  · have d0 : decide (T < 0) = true := by simpa using h0
    clear h h0
    go_enter Tryz.func19, Tryz.ntmps19
    go_wp2_with fail
    go_ret2
    exact ⟨rfl, rfl⟩
  · have h1 : 255 < T := by omega
    have d0 : decide (T < 0) = false := by simpa using h0
    have d1 : decide (255 < T) = true := by simpa using h1
    clear h h0 h1
    go_enter Tryz.func19, Tryz.ntmps19
    go_wp2_with fail
    go_ret2
    exact ⟨rfl, rfl⟩
set_option maxRecDepth 100000 in
set_option maxHeartbeats 1000000 in
theorem rwrap_tag (t : Nat) (v : Value) (w : World) (ht : t < 256) (h : t % 32 = 31) :
    Calls Tryz.prog 19 #[.int .i64 (t : Nat), v] w fun e w' => e = .returned (.tuple #[.string ⟨#[]⟩, .int .i64 5]) ∧ w' = w := by
  have d1 : decide (255 < (t : Int)) = false := by simp; omega
  have dt : ((t : Int) % 32 == 31) = true := beq_iff_eq.2 (by omega)
  clear h
  go_enter Tryz.func19, Tryz.ntmps19
  go_wp2_with fail
  go_ret2
  exact ⟨rfl, rfl⟩
theorem wrap_string (y : UInt8) (c : List UInt8) (S : ByteArray) (L : List UInt8) (hS : S.data.toList = c) (hL : L = y :: lenO c.length) : (⟨L.toArray⟩ : ByteArray) ++ S = ⟨(wrapL y.toNat c).toArray⟩ := by
  apply ByteArray.ext
  rw [ByteArray.data_append, ← Array.toList_inj]
  simp only [Array.toList_append, hS, hL]
  unfold wrapL
  rw [UInt8.ofNat_toNat]
  rfl
theorem lenO1 {x : UInt8} (h : x.toNat < 128) : lenO x.toNat = [x] := by unfold lenO; rw [if_pos (lsz1 h), UInt8.ofNat_toNat]
theorem lenO2 {x : UInt8} (h : 128 ≤ x.toNat) : lenO x.toNat = [129, x] := by
  have hz := lsz2 h x.toNat_lt
  unfold lenO
  rw [if_neg (by omega), hz]
  show [UInt8.ofNat 129, UInt8.ofNat (x.toNat / 256 ^ 0)] = _
  rw [Nat.pow_zero, Nat.div_one, UInt8.ofNat_toNat]
  rfl
theorem lenO3 {n : Nat} {x1 x0 : UInt8} (h : 256 ≤ n) (h' : n < 65536) (h1 : (n : Int) / 256 = ((x1.toNat : Nat) : Int)) (h0 : (n : Int) % 256 = ((x0.toNat : Nat) : Int)) : lenO n = [130, x1, x0] := by
  have hz := lsz3 h h'
  unfold lenO
  rw [if_neg (by omega), hz]
  show [UInt8.ofNat 130, UInt8.ofNat (n / 256 ^ 1), UInt8.ofNat (n / 256 ^ 0)] = _
  have q1 : UInt8.ofNat (n / 256 ^ 1) = x1 := by rw [← UInt8.toNat_inj]; simp; omega
  have q2 : UInt8.ofNat (n / 256 ^ 0) = x0 := by rw [← UInt8.toNat_inj]; simp; omega
  rw [q1, q2]
  rfl
theorem lenO4 {n : Nat} {x2 x1 x0 : UInt8} (h : 65536 ≤ n) (h2 : (n : Int) / 65536 = ((x2.toNat : Nat) : Int)) (h1 : (n : Int) / 256 % 256 = ((x1.toNat : Nat) : Int)) (h0 : (n : Int) % 256 = ((x0.toNat : Nat) : Int)) : lenO n = [131, x2, x1, x0] := by
  have hz := lsz4 h
  unfold lenO
  rw [if_neg (by omega), hz]
  show [UInt8.ofNat 131, UInt8.ofNat (n / 256 ^ 2), UInt8.ofNat (n / 256 ^ 1), UInt8.ofNat (n / 256 ^ 0)] = _
  have l2 := x2.toNat_lt
  have q1 : UInt8.ofNat (n / 256 ^ 2) = x2 := by rw [← UInt8.toNat_inj]; simp; omega
  have q2 : UInt8.ofNat (n / 256 ^ 1) = x1 := by rw [← UInt8.toNat_inj]; simp; omega
  have q3 : UInt8.ofNat (n / 256 ^ 0) = x0 := by rw [← UInt8.toNat_inj]; simp; omega
  rw [q1, q2, q3]
  rfl
theorem row_conv (W : World) (g k : Nat) (hg : g = W.heap.size) (L : List UInt8) (hk : k = L.length) (cs : Array Value) (hcs : cs = (L.map bcell).toArray) :
    (convert 53 9 (.slice (some ⟨g, 0, none⟩) k k)).run Tryz.prog (W.alloc (.cells cs 5)) = .ok (.string ⟨L.toArray⟩) (W.alloc (.cells cs 5)) := by
  subst hk
  exact run_convert_lies (P := Tryz.prog) Tryz.underlying53 Tryz.underlying5 Tryz.underlying9 (row_lies W g hg L cs hcs) (Below.refl _ _)

set_option maxRecDepth 100000 in
set_option maxHeartbeats 4000000 in
theorem rwrap_fits (y : UInt8) (a0 : Option Addr) (cap : Nat) (ss : List ByteArray) (w : World) (h : y.toNat % 32 ≠ 31) (hv : Lies w a0 ss) (hn : ss.length < 4611686018427387904) (hb : (cat_t ss).length ≤ 1099511627776) (R : Value)
    (hR : R = if 131072 < (cat_t ss).length then .tuple #[.string ⟨#[]⟩, .int .i64 6] else .tuple #[.string ⟨(wrapL y.toNat (cat_t ss)).toArray⟩, .int .i64 0]) :
    Calls Tryz.prog 19 #[.int .i64 ((y.toNat : Nat) : Int), .slice a0 ss.length cap] w fun e w' => e = .returned R ∧ Below w.heap.size w w' := by
  have hy := y.toNat_lt
  have d1 : decide (255 < ((y.toNat : Nat) : Int)) = false := by simp; omega
  have dt : (((y.toNat : Nat) : Int) % 32 == 31) = false := beq_eq_false_iff_ne.2 (by omega)
  obtain ⟨n, hln⟩ : ∃ n, n = ss.length := ⟨_, rfl⟩
  rw [← hln] at hn ⊢
  have HLN := Lib.hid hln
  have HV := Lib.hid hv
  have HB := Lib.hid hb
  have HR := Lib.hid hR
  have HY := Lib.hid hy
  clear hln hv hb hR h
  go_enter Tryz.func19, Tryz.ntmps19
  go_wp2_with fail
  clear d1 dt
  go_loopw [6, 24] (fun s i wr => ∃ (k : Nat) (S : ByteArray), k ≤ n ∧ i = .int .i64 k ∧ s = .string S ∧ S.data.toList = cat_t (ss.take k) ∧ wr = w) (fun _ i _ => n - (intOf i).toNat)
  case atStart => exact ⟨0, ⟨#[]⟩, Nat.zero_le _, rfl, rfl, rfl, rfl⟩
  case round =>
    obtain ⟨k, S, hk, rfl, rfl, hS, rfl⟩ := hrel
    have HS := Lib.hid hS
    clear hS
    by_cases hlt : k < n
    · have hd : decide ((k : Int) < (n : Int)) = true := by simp; omega
      obtain ⟨b, o, ha, hc⟩ := HV.out.at k (by rw [← HLN.out]; exact hlt)
      have hcs := cat_take_succ ss k (by rw [← HLN.out]; exact hlt)
      have hle := cat_take_le ss (k + 1)
      generalize ss.getD k ByteArray.empty = x at hc hcs
      subst ha
      have hsz : S.size + x.size ≤ 1099511627776 := by
        have h2 := HB.out
        rw [hcs, List.length_append, ← HS.out] at hle
        have h3 : x.data.toList.length = x.size := rfl
        have h4 : S.data.toList.length = S.size := rfl
        omega
      have HCS := Lib.hid hcs
      clear hcs hle
      go_wp2_with fail
      go_roundw
      case rel =>
        refine ⟨k + 1, S ++ x, by omega, by go_num, rfl, ?_, trivial⟩
        rw [HCS.out, ← HS.out]
        simp
      case measure => simp [intOf]; omega
    · have ek : k = n := by omega
      subst ek
      have hd : decide ((k : Int) < (k : Int)) = false := by simp
      have hS : S.data.toList = cat_t ss := by rw [HS.out, List.take_of_length_le (by rw [← HLN.out]; exact Nat.le_refl _)]
      have hsl : (cat_t ss).length = S.size := by rw [← hS]; rfl
      rw [hsl] at HR HB
      have HSS := Lib.hid hS
      have HSL := Lib.hid hsl
      have hsb : S.size ≤ 1099511627776 := HB.out
      have hymod : ((y.toNat : Nat) : Int) % 256 = ((y.toNat : Nat) : Int) := by have := HY.out; omega
      clear hS hsl
      by_cases c0 : 131072 < S.size
      · have e0 : decide (131072 < (S.size : Int)) = true := by simp; omega
        have HF := Lib.hid (HR.out.trans (if_pos c0))
        clear c0
        go_wp2_with fail
        go_ret2
        exact ⟨by rw [HF.out]; rfl, Below.refl _ _⟩
      · have e0 : decide (131072 < (S.size : Int)) = false := by simp; omega
        have HF := Lib.hid (HR.out.trans (if_neg c0))
        have hSm : S.size ≤ 131072 := by omega
        clear c0
        by_cases c1 : S.size < 128
        · have e65536 : decide (65536 ≤ (S.size : Int)) = false := by simp; omega
          have e256 : decide (256 ≤ (S.size : Int)) = false := by simp; omega
          have e128 : decide (128 ≤ (S.size : Int)) = false := by simp; omega
          obtain ⟨x0, hx0⟩ : ∃ x : UInt8, S.size = x.toNat := ⟨UInt8.ofNat S.size, by simp; omega⟩
          have HW := Lib.hid (wrap_string y (cat_t ss) S [y, x0] HSS.out (by rw [HSL.out, hx0, lenO1 (by omega)]))
          have cv := row_conv wr wr.heap.size 2 rfl [y, x0] rfl #[.int .u8 ((y.toNat : Nat) : Int), .int .u8 (S.size : Int)] (by simp [bcell, hx0])
          obtain ⟨B1, hB1⟩ : ∃ B1 : ByteArray, B1 = ⟨[y, x0].toArray⟩ := ⟨_, rfl⟩
          rw [← hB1] at cv HW
          have hb1 : B1.size ≤ 6 := by rw [hB1]; show 2 ≤ 6; omega
          clear hB1 hx0
          go_wp2_with fail
          go_ret2
          exact ⟨by rw [HF.out, ← HW.out]; rfl, belowNew _ _⟩
        · by_cases c2 : S.size < 256
          · have e65536 : decide (65536 ≤ (S.size : Int)) = false := by simp; omega
            have e256 : decide (256 ≤ (S.size : Int)) = false := by simp; omega
            have e128 : decide (128 ≤ (S.size : Int)) = true := by simp; omega
            obtain ⟨x0, hx0⟩ : ∃ x : UInt8, S.size = x.toNat := ⟨UInt8.ofNat S.size, by simp; omega⟩
            have HW := Lib.hid (wrap_string y (cat_t ss) S [y, 129, x0] HSS.out (by rw [HSL.out, hx0, lenO2 (by omega)]))
            have cv := row_conv (wr.alloc (.cells #[.int .u8 ((y.toNat : Nat) : Int), .int .u8 (S.size : Int)] 5)) (wr.heap.size + 1) 3 (by simp) [y, 129, x0] rfl #[.int .u8 ((y.toNat : Nat) : Int), .int .u8 129, .int .u8 (S.size : Int)] (by simp [bcell, hx0])
            obtain ⟨B1, hB1⟩ : ∃ B1 : ByteArray, B1 = ⟨[y, 129, x0].toArray⟩ := ⟨_, rfl⟩
            rw [← hB1] at cv HW
            have hb1 : B1.size ≤ 6 := by rw [hB1]; show 3 ≤ 6; omega
            clear hB1 hx0
            go_wp2_with fail
            go_ret2
            exact ⟨by rw [HF.out, ← HW.out]; rfl, belowNew2 _ _ _⟩
          · by_cases c3 : S.size < 65536
            · have e65536 : decide (65536 ≤ (S.size : Int)) = false := by simp; omega
              have e256 : decide (256 ≤ (S.size : Int)) = true := by simp; omega
              obtain ⟨x0, hx0⟩ : ∃ x : UInt8, (S.size : Int) % 256 = ((x.toNat : Nat) : Int) := ⟨UInt8.ofNat S.size, by simp⟩
              obtain ⟨x1, hx1⟩ : ∃ x : UInt8, (S.size : Int) / 256 = ((x.toNat : Nat) : Int) := ⟨UInt8.ofNat (S.size / 256), by simp; omega⟩
              have HW := Lib.hid (wrap_string y (cat_t ss) S [y, 130, x1, x0] HSS.out (by rw [HSL.out, lenO3 (by omega) (by omega) hx1 hx0]))
              have cv := row_conv (wr.alloc (.cells #[.int .u8 ((y.toNat : Nat) : Int), .int .u8 ((S.size : Int) % 256)] 5)) (wr.heap.size + 1) 4 (by simp) [y, 130, x1, x0] rfl #[.int .u8 ((y.toNat : Nat) : Int), .int .u8 130, .int .u8 ((S.size : Int) / 256), .int .u8 ((S.size : Int) % 256)] (by simp [bcell, hx0, hx1])
              obtain ⟨B1, hB1⟩ : ∃ B1 : ByteArray, B1 = ⟨[y, 130, x1, x0].toArray⟩ := ⟨_, rfl⟩
              rw [← hB1] at cv HW
              have hb1 : B1.size ≤ 6 := by rw [hB1]; show 4 ≤ 6; omega
              clear hB1 hx0 hx1
              go_wp2_with fail
              go_ret2
              exact ⟨by rw [HF.out, ← HW.out]; rfl, belowNew2 _ _ _⟩
            · have e65536 : decide (65536 ≤ (S.size : Int)) = true := by simp; omega
              obtain ⟨x0, hx0⟩ : ∃ x : UInt8, (S.size : Int) % 256 = ((x.toNat : Nat) : Int) := ⟨UInt8.ofNat S.size, by simp⟩
              obtain ⟨x1, hx1⟩ : ∃ x : UInt8, (S.size : Int) / 256 % 256 = ((x.toNat : Nat) : Int) := ⟨UInt8.ofNat (S.size / 256), by simp⟩
              obtain ⟨x2, hx2⟩ : ∃ x : UInt8, (S.size : Int) / 65536 = ((x.toNat : Nat) : Int) := ⟨UInt8.ofNat (S.size / 65536), by simp; omega⟩
              have HW := Lib.hid (wrap_string y (cat_t ss) S [y, 131, x2, x1, x0] HSS.out (by rw [HSL.out, lenO4 (by omega) hx2 hx1 hx0]))
              have cv := row_conv (wr.alloc (.cells #[.int .u8 ((y.toNat : Nat) : Int), .int .u8 ((S.size : Int) % 256)] 5)) (wr.heap.size + 1) 5 (by simp) [y, 131, x2, x1, x0] rfl #[.int .u8 ((y.toNat : Nat) : Int), .int .u8 131, .int .u8 ((S.size : Int) / 65536), .int .u8 ((S.size : Int) / 256 % 256), .int .u8 ((S.size : Int) % 256)] (by simp [bcell, hx0, hx1, hx2])
              obtain ⟨B1, hB1⟩ : ∃ B1 : ByteArray, B1 = ⟨[y, 131, x2, x1, x0].toArray⟩ := ⟨_, rfl⟩
              rw [← hB1] at cv HW
              have hb1 : B1.size ≤ 6 := by rw [hB1]; show 5 ≤ 6; omega
              clear hB1 hx0 hx1 hx2
              go_wp2_with fail
              go_ret2
              exact ⟨by rw [HF.out, ← HW.out]; rfl, belowNew2 _ _ _⟩

theorem rwrap_any (T : Int) (v : Value) (ss : List ByteArray) (w : World) (hv : Reads w v ss) (hn : ss.length < 4611686018427387904) (hb : (cat_t ss).length ≤ 1099511627776) :
    Calls Tryz.prog 19 #[.int .i64 T, v] w fun e w' => e = .returned (wrapVal T (cat_t ss)) ∧ Below w.heap.size w w' := by
  by_cases h0 : T < 0 ∨ 255 < T
  · have e : wrapErr T (cat_t ss).length = 5 := if_pos (by omega)
    unfold wrapVal wrapStr
    rw [e]
    exact (rwrap_out T v w h0).mono fun _ _ h => ⟨h.1, by rw [h.2]; exact Below.refl _ _⟩
  · obtain ⟨t, rfl⟩ := Int.eq_ofNat_of_zero_le (show 0 ≤ T by omega)
    have ht : t < 256 := by omega
    by_cases h1 : t % 32 = 31
    · have e : wrapErr (t : Int) (cat_t ss).length = 5 := if_pos (by omega)
      unfold wrapVal wrapStr
      rw [e]
      exact (rwrap_tag t v w ht h1).mono fun _ _ h => ⟨h.1, by rw [h.2]; exact Below.refl _ _⟩
    · obtain ⟨a, cap, rfl, hl⟩ := hv
      obtain ⟨y, rfl⟩ : ∃ y : UInt8, t = y.toNat := ⟨UInt8.ofNat t, by simp; omega⟩
      refine rwrap_fits y a cap ss w h1 hl hn hb _ ?_
      by_cases h2 : (cat_t ss).length ≤ 131072
      · have e : wrapErr ((y.toNat : Nat) : Int) (cat_t ss).length = 0 := by unfold wrapErr; rw [if_neg (by omega), if_neg (by omega)]
        unfold wrapVal wrapStr
        rw [e, if_neg (show ¬ 131072 < (cat_t ss).length by omega)]
        rfl
      · have e : wrapErr ((y.toNat : Nat) : Int) (cat_t ss).length = 6 := by unfold wrapErr; rw [if_neg (by omega), if_pos (by omega)]
        unfold wrapVal wrapStr
        rw [e, if_pos (show 131072 < (cat_t ss).length by omega)]
        rfl
end Go.Proofs.YtpmlkofceidnjaaGreatDoor
