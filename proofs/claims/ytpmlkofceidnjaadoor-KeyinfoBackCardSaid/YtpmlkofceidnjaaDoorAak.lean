/-
  The contract of the reference's Read, put together: the same answer as that of tlv.Read.
  The contracts of tlv.One and of the reference's One: the element that a string consists of, or the error; nothing that was there before the call has changed.
-/
import Derived.Test.YtpmlkofceidnjaaDoorAai
import Derived.Lib.Builder
namespace Go.Proofs.YtpmlkofceidnjaaDoor
open Go.RowKit

theorem rdVal_err {b : ByteArray} {x : Nat} (h : rd b = (x, 0, 0)) (hx : x ≠ 0) : rdVal b = .tuple #[noEl, .string ⟨#[]⟩, .int .i64 (x : Nat)] := by
  unfold rdVal rdErr
  rw [h]
  exact if_neg hx
theorem rdVal_ok {b : ByteArray} {a n : Nat} (h : rd b = (0, a, n)) : rdVal b = .tuple #[elV (u8at b 0) (b.extract a (a + n)) (b.extract 0 (a + n)), .string (b.extract (a + n) b.size), .int .i64 0] := by
  unfold rdVal rdErr rdContent rdRaw rdRest rdTag
  rw [h]
  exact if_pos rfl

theorem rread_any (b : ByteArray) (w : World) (hs : b.size ≤ 1099511627776) :
    Calls Tryd.prog 34 #[.string b] w fun e w' => e = .returned (rdVal b) ∧ Below w.heap.size w w' := by
  by_cases h0 : b.size = 0
  · have e : b = ⟨#[]⟩ := by
      apply ByteArray.ext
      exact Array.eq_empty_of_size_eq_zero h0
    subst e
    exact rread_empty w
  · by_cases h1 : u8at b 0 % 32 = 31
    · have hrd : rd b = (5, 0, 0) := by unfold rd; rw [if_neg h0, if_pos h1]
      rw [rdVal_err hrd (by decide)]
      exact rread_tag b w h0 _ rfl h1
    · have hrd := show rd b = _ from by unfold rd; rw [if_neg h0, if_neg h1]
      unfold lnAt at hrd
      by_cases h2 : b.size ≤ 1
      · rw [if_pos h2] at hrd
        rw [rdVal_err hrd (by decide)]
        exact rread_one b w (by omega) _ rfl h1
      · rw [if_neg h2] at hrd
        by_cases h3 : u8at b 1 < 128
        · rw [if_pos h3] at hrd
          refine rread_short b w hs (by omega) _ rfl h1 _ rfl h3 _ ?_
          by_cases h4 : b.size < 2 + u8at b 1
          · rw [if_pos h4]
            refine rdVal_err (x := 3) ?_ (by decide)
            rw [hrd]
            simp only [ne_eq, not_true_eq_false, if_false, Nat.reduceAdd]
            rw [if_pos h4]
          · rw [if_neg h4]
            refine rdVal_ok (a := 2) (n := u8at b 1) ?_
            rw [hrd]
            simp only [ne_eq, not_true_eq_false, if_false, Nat.reduceAdd]
            rw [if_neg h4]
        · rw [if_neg h3] at hrd
          by_cases h4 : u8at b 1 = 128 ∨ 131 < u8at b 1
          · rw [if_pos h4] at hrd
            rw [rdVal_err (x := 6) (by rw [hrd]; rfl) (by decide)]
            exact rread_form b w (by omega) _ rfl h1 _ rfl h4
          · rw [if_neg h4] at hrd
            have h5 := u8at_lt b 1
            obtain ⟨k, hk⟩ : ∃ k, u8at b 1 = 128 + k := ⟨u8at b 1 - 128, by omega⟩
            have ek : u8at b 1 - 128 = k := by omega
            rw [ek] at hrd
            by_cases h6 : b.size < 1 + 1 + k
            · rw [if_pos h6] at hrd
              rw [rdVal_err (x := 3) (by rw [hrd]; rfl) (by decide)]
              exact rread_more b w hs (by omega) _ rfl h1 k hk (by omega) (by omega) (by omega)
            · rw [if_neg h6] at hrd
              refine rread_long b w hs (by omega) _ rfl h1 k hk (by omega) (by omega) (by omega) _ rfl _ ?_
              by_cases h7 : be b (1 + 1) k < least k ∨ 131072 < be b (1 + 1) k
              · rw [if_pos h7] at hrd
                rw [if_pos h7]
                exact rdVal_err (x := 6) (by rw [hrd]; rfl) (by decide)
              · rw [if_neg h7] at hrd
                rw [if_neg h7]
                have e : 1 + (1 + k) = 2 + k := by omega
                simp only [ne_eq, not_true_eq_false, if_false, Nat.reduceAdd, e] at hrd
                by_cases h8 : b.size < 2 + k + be b 2 k
                · rw [if_pos h8] at hrd
                  rw [if_pos h8]
                  exact rdVal_err hrd (by decide)
                · rw [if_neg h8] at hrd
                  rw [if_neg h8]
                  exact rdVal_ok hrd
end Go.Proofs.YtpmlkofceidnjaaDoor
namespace Go.Proofs.YtpmlkofceidnjaaDoor
open Go.RowKit

/-- What One answers. -/
def oneErr (b : ByteArray) : Nat := if rdErr b ≠ 0 then rdErr b else if (rdRest b).size ≠ 0 then 4 else 0
def oneVal (b : ByteArray) : Value := if oneErr b = 0 then .tuple #[elV (rdTag b) (rdContent b) (rdRaw b), .int .i64 0] else .tuple #[noEl, .int .i64 ((oneErr b : Nat) : Int)]

theorem rdVal_bad {b : ByteArray} (h : rdErr b ≠ 0) : rdVal b = .tuple #[.agg #[.int .i64 0, .string ⟨#[]⟩, .string ⟨#[]⟩], .string ⟨#[]⟩, .int .i64 ((rdErr b : Nat) : Int)] := if_neg h
theorem rdVal_good {b : ByteArray} (h : rdErr b = 0) : rdVal b = .tuple #[.agg #[.int .i64 ((rdTag b : Nat) : Int), .string (rdContent b), .string (rdRaw b)], .string (rdRest b), .int .i64 0] := if_pos h
theorem el_facts {w : World} {g : Nat} {x y z : Value} {t : TypeId} (h : w.heap[g]? = some (.cells #[x, y, z] t (0, 0))) :
    w.cell? ⟨g, 0, none⟩ = some x ∧ w.cell? ⟨g, 1, none⟩ = some y ∧ w.cell? ⟨g, 2, none⟩ = some z ∧ w.frozen? ⟨g, 0, none⟩ = false ∧ w.frozen? ⟨g, 1, none⟩ = false ∧ w.frozen? ⟨g, 2, none⟩ = false ∧ g < w.heap.size := by
  refine ⟨?_, ?_, ?_, Lib.frozen_of_heap h 0, Lib.frozen_of_heap h 1, Lib.frozen_of_heap h 2, (Array.getElem?_eq_some_iff.1 h).1⟩
  · rw [Lib.cell_of_heap h]; rfl
  · rw [Lib.cell_of_heap h]; rfl
  · rw [Lib.cell_of_heap h]; rfl
theorem el_set {w : World} {g : Nat} {x y z a b c : Value} {t : TypeId} (h : w.heap[g]? = some (.cells #[x, y, z] t (0, 0))) :
    (((w.setCell ⟨g, 0, none⟩ a).setCell ⟨g, 1, none⟩ b).setCell ⟨g, 2, none⟩ c).heap[g]? = some (.cells #[a, b, c] t (0, 0)) := by
  simp [World.setCell, Array.getElem?_modify, h]
theorem el_below {B : Nat} {w0 w : World} {g : Nat} {a b c : Value} (h : Below B w0 w) (hg : B ≤ g) : Below B w0 (((w.setCell ⟨g, 0, none⟩ a).setCell ⟨g, 1, none⟩ b).setCell ⟨g, 2, none⟩ c) :=
  ((h.setCell (p := ⟨g, 0, none⟩) hg _).setCell (p := ⟨g, 1, none⟩) hg _).setCell (p := ⟨g, 2, none⟩) hg _
theorem heap_keep {w : World} {g : Nat} {x : Obj} (h : w.heap[g]? = some x) (o : Obj) : (w.alloc o).heap[g]? = some x := by
  have hlt : g < w.heap.size := by
    rcases Nat.lt_or_ge g w.heap.size with h' | h'
    · exact h'
    · simp [Array.getElem?_eq_none h'] at h
  show (w.heap.push o)[g]? = _
  rw [Array.getElem?_push, if_neg (Nat.ne_of_lt hlt)]
  exact h
theorem elRes2 {fn : Func} {p u : Tmp} (h : fn.results = #[.cell p 46, .tmp u]) (tmps : Array Value) (w w0 : World) (x y z : Value)
    (hp : tmps.getD p undef = .pointer (some ⟨w0.heap.size, 0, none⟩)) (hg : w.heap[w0.heap.size]? = some (.cells #[x, y, z] 46 (0, 0))) :
    (results fn tmps).run Tryd.prog w = .ok (.tuple #[.agg #[x, y, z], tmps.getD u undef]) w :=
  results_cell_row2 h tmps w w0.heap.size 46 #[x, y, z] (0, 0) _ hp hg Tryd.underlying46 rfl elSize

set_option maxRecDepth 100000 in
set_option maxHeartbeats 1000000 in
theorem one_bad (b : ByteArray) (w : World) (hs : b.size ≤ 1099511627776) (x : Nat) (hx : x ≠ 0) (hr : rdVal b = .tuple #[.agg #[.int .i64 0, .string ⟨#[]⟩, .string ⟨#[]⟩], .string ⟨#[]⟩, .int .i64 (x : Nat)]) :
    Calls Tryd.prog 17 #[.string b] w fun e w' => e = .returned (.tuple #[noEl, .int .i64 (x : Nat)]) ∧ Below w.heap.size w w' := by
  have HS := Lib.hid hs
  have HR := Lib.hid hr
  have dx : ((x : Int) != 0) = true := by simp; omega
  clear hx
  clear hs hr
  go_enter Tryd.func17, Tryd.ntmps17
  go_wp2_with (go_at_call 30; (with_reducible refine (read_any b _ HS.out).mono ?_); rw [HR.out]; rintro e w1 ⟨rfl, hb1⟩; have hc := ((hb1.block w.heap.size (by simp)).trans (elNew w _)); obtain ⟨c0, c1, c2, f0, f1, f2, hlt⟩ := el_facts hc; have HC := Lib.hid hc; clear hc; have HB1 := Lib.hid hb1; clear hb1)
  exact bodyPost_ret (elRes2 rfl _ _ w _ _ _ rfl (heap_keep (el_set HC.out) _)) rfl ⟨rfl, (el_below ((belowNew w _).trans (HB1.out.mono (by simp))) (Nat.le_refl _)).alloc (by simp; omega) _⟩
set_option maxRecDepth 100000 in
set_option maxHeartbeats 1000000 in
theorem one_trail (b : ByteArray) (w : World) (hs : b.size ≤ 1099511627776) (t : Nat) (c r u : ByteArray) (hu : u.size ≠ 0) (hr : rdVal b = .tuple #[.agg #[.int .i64 (t : Nat), .string c, .string r], .string u, .int .i64 0]) :
    Calls Tryd.prog 17 #[.string b] w fun e w' => e = .returned (.tuple #[noEl, .int .i64 4]) ∧ Below w.heap.size w w' := by
  have HS := Lib.hid hs
  have HR := Lib.hid hr
  have he := nonempty_list hu
  have hd : decide (0 < (u.size : Int)) = true := by simp; omega
  clear hs hr
  go_enter Tryd.func17, Tryd.ntmps17
  go_wp2_with (go_at_call 30; (with_reducible refine (read_any b _ HS.out).mono ?_); rw [HR.out]; rintro e w1 ⟨rfl, hb1⟩; have hc := ((hb1.block w.heap.size (by simp)).trans (elNew w _)); obtain ⟨c0, c1, c2, f0, f1, f2, hlt⟩ := el_facts hc; have HC := Lib.hid hc; clear hc; have HB1 := Lib.hid hb1; clear hb1)
  exact bodyPost_ret (elRes2 rfl _ _ w _ _ _ rfl (heap_keep (el_set HC.out) _)) rfl ⟨rfl, (el_below ((belowNew w _).trans (HB1.out.mono (by simp))) (Nat.le_refl _)).alloc (by simp; omega) _⟩
set_option maxRecDepth 100000 in
set_option maxHeartbeats 1000000 in
theorem one_good (b : ByteArray) (w : World) (hs : b.size ≤ 1099511627776) (t : Nat) (c r : ByteArray) (hr : rdVal b = .tuple #[.agg #[.int .i64 (t : Nat), .string c, .string r], .string ⟨#[]⟩, .int .i64 0]) :
    Calls Tryd.prog 17 #[.string b] w fun e w' => e = .returned (.tuple #[elV t c r, .int .i64 0]) ∧ Below w.heap.size w w' := by
  have HS := Lib.hid hs
  have HR := Lib.hid hr
  clear hs hr
  go_enter Tryd.func17, Tryd.ntmps17
  go_wp2_with (go_at_call 30; (with_reducible refine (read_any b _ HS.out).mono ?_); rw [HR.out]; rintro e w1 ⟨rfl, hb1⟩; have hc := ((hb1.block w.heap.size (by simp)).trans (elNew w _)); obtain ⟨c0, c1, c2, f0, f1, f2, hlt⟩ := el_facts hc; have HC := Lib.hid hc; clear hc; have HB1 := Lib.hid hb1; clear hb1)
  exact bodyPost_ret (elRes2 rfl _ _ w _ _ _ rfl (heap_keep (el_set HC.out) _)) rfl ⟨rfl, (el_below ((belowNew w _).trans (HB1.out.mono (by simp))) (Nat.le_refl _)).alloc (by simp; omega) _⟩

theorem one_any (b : ByteArray) (w : World) (hs : b.size ≤ 1099511627776) :
    Calls Tryd.prog 17 #[.string b] w fun e w' => e = .returned (oneVal b) ∧ Below w.heap.size w w' := by
  unfold oneVal oneErr
  by_cases h : rdErr b = 0
  · by_cases h2 : (rdRest b).size = 0
    · have e : rdRest b = ⟨#[]⟩ := by
        apply ByteArray.ext
        exact Array.eq_empty_of_size_eq_zero h2
      simp only [h, h2, ne_eq, not_true_eq_false, if_false, if_true]
      exact one_good b w hs _ _ _ (by rw [rdVal_good h, e])
    · simp only [h, h2, ne_eq, not_true_eq_false, not_false_eq_true, if_false, if_true, Nat.reduceEqDiff]
      exact one_trail b w hs _ _ _ _ h2 (rdVal_good h)
  · simp only [h, ne_eq, not_false_eq_true, if_true, if_false]
    exact one_bad b w hs _ h (rdVal_bad h)
set_option maxRecDepth 100000 in
set_option maxHeartbeats 1000000 in
theorem rone_bad (b : ByteArray) (w : World) (hs : b.size ≤ 1099511627776) (x : Nat) (hx : x ≠ 0) (hr : rdVal b = .tuple #[.agg #[.int .i64 0, .string ⟨#[]⟩, .string ⟨#[]⟩], .string ⟨#[]⟩, .int .i64 (x : Nat)]) :
    Calls Tryd.prog 20 #[.string b] w fun e w' => e = .returned (.tuple #[noEl, .int .i64 (x : Nat)]) ∧ Below w.heap.size w w' := by
  have HS := Lib.hid hs
  have HR := Lib.hid hr
  have dx : ((x : Int) != 0) = true := by simp; omega
  clear hx
  clear hs hr
  go_enter Tryd.func20, Tryd.ntmps20
  go_wp2_with (go_at_call 34; (with_reducible refine (rread_any b _ HS.out).mono ?_); rw [HR.out]; rintro e w1 ⟨rfl, hb1⟩; have hc := ((hb1.block w.heap.size (by simp)).trans (elNew w _)); obtain ⟨c0, c1, c2, f0, f1, f2, hlt⟩ := el_facts hc; have HC := Lib.hid hc; clear hc; have HB1 := Lib.hid hb1; clear hb1)
  exact bodyPost_ret (elRes2 rfl _ _ w _ _ _ rfl (heap_keep (el_set HC.out) _)) rfl ⟨rfl, (el_below ((belowNew w _).trans (HB1.out.mono (by simp))) (Nat.le_refl _)).alloc (by simp; omega) _⟩
set_option maxRecDepth 100000 in
set_option maxHeartbeats 1000000 in
theorem rone_trail (b : ByteArray) (w : World) (hs : b.size ≤ 1099511627776) (t : Nat) (c r u : ByteArray) (hu : u.size ≠ 0) (hr : rdVal b = .tuple #[.agg #[.int .i64 (t : Nat), .string c, .string r], .string u, .int .i64 0]) :
    Calls Tryd.prog 20 #[.string b] w fun e w' => e = .returned (.tuple #[noEl, .int .i64 4]) ∧ Below w.heap.size w w' := by
  have HS := Lib.hid hs
  have HR := Lib.hid hr
  have he := nonempty_list hu
  have hd : decide (0 < (u.size : Int)) = true := by simp; omega
  clear hs hr
  go_enter Tryd.func20, Tryd.ntmps20
  go_wp2_with (go_at_call 34; (with_reducible refine (rread_any b _ HS.out).mono ?_); rw [HR.out]; rintro e w1 ⟨rfl, hb1⟩; have hc := ((hb1.block w.heap.size (by simp)).trans (elNew w _)); obtain ⟨c0, c1, c2, f0, f1, f2, hlt⟩ := el_facts hc; have HC := Lib.hid hc; clear hc; have HB1 := Lib.hid hb1; clear hb1)
  exact bodyPost_ret (elRes2 rfl _ _ w _ _ _ rfl (heap_keep (el_set HC.out) _)) rfl ⟨rfl, (el_below ((belowNew w _).trans (HB1.out.mono (by simp))) (Nat.le_refl _)).alloc (by simp; omega) _⟩
set_option maxRecDepth 100000 in
set_option maxHeartbeats 1000000 in
theorem rone_good (b : ByteArray) (w : World) (hs : b.size ≤ 1099511627776) (t : Nat) (c r : ByteArray) (hr : rdVal b = .tuple #[.agg #[.int .i64 (t : Nat), .string c, .string r], .string ⟨#[]⟩, .int .i64 0]) :
    Calls Tryd.prog 20 #[.string b] w fun e w' => e = .returned (.tuple #[elV t c r, .int .i64 0]) ∧ Below w.heap.size w w' := by
  have HS := Lib.hid hs
  have HR := Lib.hid hr
  clear hs hr
  go_enter Tryd.func20, Tryd.ntmps20
  go_wp2_with (go_at_call 34; (with_reducible refine (rread_any b _ HS.out).mono ?_); rw [HR.out]; rintro e w1 ⟨rfl, hb1⟩; have hc := ((hb1.block w.heap.size (by simp)).trans (elNew w _)); obtain ⟨c0, c1, c2, f0, f1, f2, hlt⟩ := el_facts hc; have HC := Lib.hid hc; clear hc; have HB1 := Lib.hid hb1; clear hb1)
  exact bodyPost_ret (elRes2 rfl _ _ w _ _ _ rfl (heap_keep (el_set HC.out) _)) rfl ⟨rfl, (el_below ((belowNew w _).trans (HB1.out.mono (by simp))) (Nat.le_refl _)).alloc (by simp; omega) _⟩

theorem rone_any (b : ByteArray) (w : World) (hs : b.size ≤ 1099511627776) :
    Calls Tryd.prog 20 #[.string b] w fun e w' => e = .returned (oneVal b) ∧ Below w.heap.size w w' := by
  unfold oneVal oneErr
  by_cases h : rdErr b = 0
  · by_cases h2 : (rdRest b).size = 0
    · have e : rdRest b = ⟨#[]⟩ := by
        apply ByteArray.ext
        exact Array.eq_empty_of_size_eq_zero h2
      simp only [h, h2, ne_eq, not_true_eq_false, if_false, if_true]
      exact rone_good b w hs _ _ _ (by rw [rdVal_good h, e])
    · simp only [h, h2, ne_eq, not_true_eq_false, not_false_eq_true, if_false, if_true, Nat.reduceEqDiff]
      exact rone_trail b w hs _ _ _ _ h2 (rdVal_good h)
  · simp only [h, ne_eq, not_false_eq_true, if_true, if_false]
    exact rone_bad b w hs _ h (rdVal_bad h)
end Go.Proofs.YtpmlkofceidnjaaDoor
