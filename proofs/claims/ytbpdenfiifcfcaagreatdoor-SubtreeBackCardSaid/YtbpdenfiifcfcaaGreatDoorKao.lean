/-
  The contract of the reference's Read, put together: the same answer as that of tlv.Read.
  The contracts of tlv.One and of the reference's One: the element that a string consists of, or the error; nothing that was there before the call has changed.
  What List answers, as a function of the string; the contracts of tlv.List and of the reference's List.
  What Check answers, as a function of the string; the contracts of tlv.Check and of the reference's Check.
  The contract of the reference's check: the first error within an element.
  The contracts of tlv.Check and of the reference's Check.
  The contract of sameElements of certpathlaw02, of two slices that hold the same elements.
  The contract of the law's function same: all readers of tlv answer as those of the reference, at every string that memory can hold.
  Plain laws: a slice of bytes that lies in memory, converted to a string; a new row of bytes lies. Nothing is claimed of the program here.
  The contract of the reference's Wrap: the same answer as that of tlv.Wrap.
  The contract of the reference's EncodeOID: the contents of the object identifier that the text is, if it is one.
-/
import Derived.Test.YtbpdenfiifcfcaaGreatDoorKan
import Derived.Lib.Builder
import Derived.Test.YtbpdenfiifcfcaaGreatDoorKaa
import Derived.Deep.DeepCutAuto
import Derived.Test.YtbpdenfiifcfcaaGreatDoorKal
namespace Go.Proofs.YtbpdenfiifcfcaaGreatDoor
open Go.RowKit

end Go.Proofs.YtbpdenfiifcfcaaGreatDoor
namespace Go.Proofs.YtbpdenfiifcfcaaGreatDoor
open Go.RowKit

/-- What One answers. -/
def oneErr (b : ByteArray) : Nat := if rdErr b ≠ 0 then rdErr b else if (rdRest b).size ≠ 0 then 4 else 0
def oneVal (b : ByteArray) : Value := if oneErr b = 0 then .tuple #[elV (rdTag b) (rdContent b) (rdRaw b), .int .i64 0] else .tuple #[noEl, .int .i64 ((oneErr b : Nat) : Int)]

theorem rdVal_bad {b : ByteArray} (h : rdErr b ≠ 0) : rdVal b = .tuple #[.agg #[.int .i64 0, .string ⟨#[]⟩, .string ⟨#[]⟩], .string ⟨#[]⟩, .int .i64 ((rdErr b : Nat) : Int)] := if_neg h
theorem rdVal_good {b : ByteArray} (h : rdErr b = 0) : rdVal b = .tuple #[.agg #[.int .i64 ((rdTag b : Nat) : Int), .string (rdContent b), .string (rdRaw b)], .string (rdRest b), .int .i64 0] := if_pos h
theorem el_facts {w : World} {g : Nat} {x y z : Value} {t : TypeId} (h : w.heap[g]? = some (.cells #[x, y, z] t (0, 0))) :
    w.cell? ⟨g, 0, none⟩ = some x ∧ w.cell? ⟨g, 1, none⟩ = some y ∧ w.cell? ⟨g, 2, none⟩ = some z ∧ w.frozen? ⟨g, 0, none⟩ = false ∧ w.frozen? ⟨g, 1, none⟩ = false ∧ w.frozen? ⟨g, 2, none⟩ = false ∧ g < w.heap.size := by
  refine ⟨?_, ?_, ?_, Lib.frozen_of_heap h 0, Lib.frozen_of_heap h 1, Lib.frozen_of_heap h 2, (Array.getElem?_eq_some_iff.1 h).1⟩
  · rw [Lib.cell_of_heap h]; rfl
  · rw [Lib.cell_of_heap h]; rfl
  · rw [Lib.cell_of_heap h]; rfl
theorem el_set {w : World} {g : Nat} {x y z a b c : Value} {t : TypeId} (h : w.heap[g]? = some (.cells #[x, y, z] t (0, 0))) :
    (((w.setCell ⟨g, 0, none⟩ a).setCell ⟨g, 1, none⟩ b).setCell ⟨g, 2, none⟩ c).heap[g]? = some (.cells #[a, b, c] t (0, 0)) := by
  simp [World.setCell, Array.getElem?_modify, h]
theorem el_below {B : Nat} {w0 w : World} {g : Nat} {a b c : Value} (h : Below B w0 w) (hg : B ≤ g) : Below B w0 (((w.setCell ⟨g, 0, none⟩ a).setCell ⟨g, 1, none⟩ b).setCell ⟨g, 2, none⟩ c) :=
  ((h.setCell (p := ⟨g, 0, none⟩) hg _).setCell (p := ⟨g, 1, none⟩) hg _).setCell (p := ⟨g, 2, none⟩) hg _
theorem heap_keep {w : World} {g : Nat} {x : Obj} (h : w.heap[g]? = some x) (o : Obj) : (w.alloc o).heap[g]? = some x := by
  have hlt : g < w.heap.size := by
    rcases Nat.lt_or_ge g w.heap.size with h' | h'
    · exact h'
    · simp [Array.getElem?_eq_none h'] at h
  show (w.heap.push o)[g]? = _
  rw [Array.getElem?_push, if_neg (Nat.ne_of_lt hlt)]
  exact h
theorem elRes2 {fn : Func} {p u : Tmp} (h : fn.results = #[.cell p 67, .tmp u]) (tmps : Array Value) (w w0 : World) (x y z : Value)
    (hp : tmps.getD p undef = .pointer (some ⟨w0.heap.size, 0, none⟩)) (hg : w.heap[w0.heap.size]? = some (.cells #[x, y, z] 67 (0, 0))) :
    (results fn tmps).run Tryz.prog w = .ok (.tuple #[.agg #[x, y, z], tmps.getD u undef]) w :=
  results_cell_row2 h tmps w w0.heap.size 67 #[x, y, z] (0, 0) _ hp hg Tryz.underlying67 rfl elSize

set_option maxRecDepth 100000 in
set_option maxHeartbeats 1000000 in
theorem one_bad (b : ByteArray) (w : World) (hs : b.size ≤ 1099511627776) (x : Nat) (hx : x ≠ 0) (hr : rdVal b = .tuple #[.agg #[.int .i64 0, .string ⟨#[]⟩, .string ⟨#[]⟩], .string ⟨#[]⟩, .int .i64 (x : Nat)]) :
    Calls Tryz.prog 64 #[.string b] w fun e w' => e = .returned (.tuple #[noEl, .int .i64 (x : Nat)]) ∧ Below w.heap.size w w' := by
  have HS := Lib.hid hs
  have HR := Lib.hid hr
  have dx : ((x : Int) != 0) = true := by simp; omega
  clear hx
  clear hs hr
  go_enter Tryz.func64, Tryz.ntmps64
  go_wp2_with (go_at_call 90; (with_reducible refine (read_any b _ HS.out).mono ?_); rw [HR.out]; rintro e w1 ⟨rfl, hb1⟩; have hc := ((hb1.block w.heap.size (by simp)).trans (elNew w _)); obtain ⟨c0, c1, c2, f0, f1, f2, hlt⟩ := el_facts hc; have HC := Lib.hid hc; clear hc; have HB1 := Lib.hid hb1; clear hb1)
  exact bodyPost_ret (elRes2 rfl _ _ w _ _ _ rfl (heap_keep (el_set HC.out) _)) rfl ⟨rfl, (el_below ((belowNew w _).trans (HB1.out.mono (by simp))) (Nat.le_refl _)).alloc (by simp; omega) _⟩
set_option maxRecDepth 100000 in
set_option maxHeartbeats 1000000 in
theorem one_trail (b : ByteArray) (w : World) (hs : b.size ≤ 1099511627776) (t : Nat) (c r u : ByteArray) (hu : u.size ≠ 0) (hr : rdVal b = .tuple #[.agg #[.int .i64 (t : Nat), .string c, .string r], .string u, .int .i64 0]) :
    Calls Tryz.prog 64 #[.string b] w fun e w' => e = .returned (.tuple #[noEl, .int .i64 4]) ∧ Below w.heap.size w w' := by
  have HS := Lib.hid hs
  have HR := Lib.hid hr
  have he := nonempty_list hu
  have hd : decide (0 < (u.size : Int)) = true := by simp; omega
  clear hs hr
  go_enter Tryz.func64, Tryz.ntmps64
  go_wp2_with (go_at_call 90; (with_reducible refine (read_any b _ HS.out).mono ?_); rw [HR.out]; rintro e w1 ⟨rfl, hb1⟩; have hc := ((hb1.block w.heap.size (by simp)).trans (elNew w _)); obtain ⟨c0, c1, c2, f0, f1, f2, hlt⟩ := el_facts hc; have HC := Lib.hid hc; clear hc; have HB1 := Lib.hid hb1; clear hb1)
  exact bodyPost_ret (elRes2 rfl _ _ w _ _ _ rfl (heap_keep (el_set HC.out) _)) rfl ⟨rfl, (el_below ((belowNew w _).trans (HB1.out.mono (by simp))) (Nat.le_refl _)).alloc (by simp; omega) _⟩
set_option maxRecDepth 100000 in
set_option maxHeartbeats 1000000 in
theorem one_good (b : ByteArray) (w : World) (hs : b.size ≤ 1099511627776) (t : Nat) (c r : ByteArray) (hr : rdVal b = .tuple #[.agg #[.int .i64 (t : Nat), .string c, .string r], .string ⟨#[]⟩, .int .i64 0]) :
    Calls Tryz.prog 64 #[.string b] w fun e w' => e = .returned (.tuple #[elV t c r, .int .i64 0]) ∧ Below w.heap.size w w' := by
  have HS := Lib.hid hs
  have HR := Lib.hid hr
  clear hs hr
  go_enter Tryz.func64, Tryz.ntmps64
  go_wp2_with (go_at_call 90; (with_reducible refine (read_any b _ HS.out).mono ?_); rw [HR.out]; rintro e w1 ⟨rfl, hb1⟩; have hc := ((hb1.block w.heap.size (by simp)).trans (elNew w _)); obtain ⟨c0, c1, c2, f0, f1, f2, hlt⟩ := el_facts hc; have HC := Lib.hid hc; clear hc; have HB1 := Lib.hid hb1; clear hb1)
  exact bodyPost_ret (elRes2 rfl _ _ w _ _ _ rfl (heap_keep (el_set HC.out) _)) rfl ⟨rfl, (el_below ((belowNew w _).trans (HB1.out.mono (by simp))) (Nat.le_refl _)).alloc (by simp; omega) _⟩

theorem one_any (b : ByteArray) (w : World) (hs : b.size ≤ 1099511627776) :
    Calls Tryz.prog 64 #[.string b] w fun e w' => e = .returned (oneVal b) ∧ Below w.heap.size w w' := by
  unfold oneVal oneErr
  by_cases h : rdErr b = 0
  · by_cases h2 : (rdRest b).size = 0
    · have e : rdRest b = ⟨#[]⟩ := by
        apply ByteArray.ext
        exact Array.eq_empty_of_size_eq_zero h2
      simp only [h, h2, ne_eq, not_true_eq_false, if_false, if_true]
      exact one_good b w hs _ _ _ (by rw [rdVal_good h, e])
    · simp only [h, h2, ne_eq, not_true_eq_false, not_false_eq_true, if_false, if_true, Nat.reduceEqDiff]
      exact one_trail b w hs _ _ _ _ h2 (rdVal_good h)
  · simp only [h, ne_eq, not_false_eq_true, if_true, if_false]
    exact one_bad b w hs _ h (rdVal_bad h)
end Go.Proofs.YtbpdenfiifcfcaaGreatDoor
namespace Go.Proofs.YtbpdenfiifcfcaaGreatDoor
open Go.RowKit

/-- An element: identifier octet, contents, the whole of it. -/
abbrev El := Nat × ByteArray × ByteArray
def elCells (e : El) : List Value := [.int .i64 ((e.1 : Nat) : Int), .string e.2.1, .string e.2.2]
def elsCells (l : List El) : List Value := l.flatMap elCells
theorem elsCells_snoc (l : List El) (e : El) : elsCells (l ++ [e]) = elsCells l ++ elCells e := by simp [elsCells]
def rdElem (b : ByteArray) : El := (rdTag b, rdContent b, rdRaw b)

/-- The elements of which a string consists, and the error (with an error no element). -/
def lst (b : ByteArray) : List El × Nat :=
  if b.size = 0 then ([], 0)
  else if _h : rdErr b = 0 then
    if (lst (rdRest b)).2 = 0 then (rdElem b :: (lst (rdRest b)).1, 0) else ([], (lst (rdRest b)).2)
  else ([], rdErr b)
termination_by b.size
decreasing_by all_goals exact rdRest_size (by assumption)
theorem lst_nil {b : ByteArray} (h : b.size = 0) : lst b = ([], 0) := by rw [lst, if_pos h]
theorem lst_bad {b : ByteArray} (h0 : b.size ≠ 0) (h : rdErr b ≠ 0) : lst b = ([], rdErr b) := by rw [lst, if_neg h0, dif_neg h]
theorem lst_step {b : ByteArray} (h0 : b.size ≠ 0) (h : rdErr b = 0) : lst b = if (lst (rdRest b)).2 = 0 then (rdElem b :: (lst (rdRest b)).1, 0) else ([], (lst (rdRest b)).2) := by
  rw [lst, if_neg h0, dif_pos h]
/-- Elements ahead of those of a string. -/
def ahead (D : List El) (p : List El × Nat) : List El × Nat := if p.2 = 0 then (D ++ p.1, 0) else ([], p.2)
theorem ahead_nil (b : ByteArray) : ahead [] (lst b) = lst b := by
  unfold ahead
  by_cases h0 : b.size = 0
  · rw [lst_nil h0]; rfl
  · by_cases h : rdErr b = 0
    · rw [lst_step h0 h]
      by_cases h2 : (lst (rdRest b)).2 = 0
      · simp [h2]
      · simp [h2]
    · rw [lst_bad h0 h]
      simp [h]
theorem ahead_step {b : ByteArray} (D : List El) (h0 : b.size ≠ 0) (h : rdErr b = 0) : ahead D (lst b) = ahead (D ++ [rdElem b]) (lst (rdRest b)) := by
  rw [lst_step h0 h]
  unfold ahead
  by_cases h2 : (lst (rdRest b)).2 = 0
  · simp [h2]
  · simp [h2]
theorem ahead_bad {b : ByteArray} (D : List El) (h0 : b.size ≠ 0) (h : rdErr b ≠ 0) : ahead D (lst b) = ([], rdErr b) := by
  rw [lst_bad h0 h]
  unfold ahead
  simp [h]
theorem ahead_end {b : ByteArray} (D : List El) (h0 : b.size = 0) : ahead D (lst b) = (D, 0) := by
  rw [lst_nil h0]
  unfold ahead
  simp

/-- The slice value v, of memory from block B on, holds the elements l. -/
def OwnE (w : World) (B : Nat) (v : Value) (l : List El) : Prop := w.ownsRow B 67 3 v l.length (elsCells l)
theorem elInfo : (Tryz.prog.info? 67).map (fun i => (i.zero, i.size, i.bytes)) = some (some (.agg #[.int .i64 0, .string ⟨#[]⟩, .string ⟨#[]⟩]), 3, 40) := by kernel_rfl

theorem elCells_one (e : El) : ∀ u ∈ elCells e, u.oneCell' = true := by
  intro u hu
  simp only [elCells, List.mem_cons, List.not_mem_nil, or_false] at hu
  rcases hu with rfl | rfl | rfl <;> rfl
theorem els_round {w wr w1 w2 : World} {v v' : Value} {D : List El} {e : El} {X Y : Obj} (hown : OwnE wr w.heap.size v D) (hb : Below w.heap.size w wr) (hb1 : Below wr.heap.size wr w1)
    (hown2 : w2.ownsRow w.heap.size 67 3 v' (D.length + 1) (elsCells D ++ elCells e)) (hgr2 : ((w1.alloc X).alloc Y).grownBy w2 v.ownBlock) : OwnE w2 w.heap.size v' (D ++ [e]) ∧ Below w.heap.size w w2 := by
  have h1 := hb.size
  have h2 := hb1.size
  refine ⟨?_, ?_⟩
  · unfold OwnE
    rw [List.length_append, elsCells_snoc]; exact hown2
  · exact (((hb.trans (hb1.mono h1)).alloc (by omega) X).alloc (by simp; omega) Y).grown hgr2 (by simp; omega) (fun k e => (World.ownsRow.lt hown k e).1)
theorem els_news (w1 : World) (X : Obj) (e : El) (cs : Array Value) (hcs : cs = (elCells e).toArray) :
    ∀ j u, (elCells e)[j]? = some u → ((w1.alloc X).alloc (.cells cs 67)).cell? ((⟨w1.heap.size + 1, 0, none⟩ : Addr).add j) = some u := by
  intro j u h
  have := news_row (w1.alloc X) cs 67 j u (by rw [hcs]; simpa using h)
  simpa using this

set_option maxRecDepth 100000 in
set_option maxHeartbeats 1000000 in
theorem list_any (b : ByteArray) (w : World) (hs : b.size ≤ 1099511627776) :
    Calls Tryz.prog 91 #[.string b] w fun e w' => ∃ v, e = .returned (.tuple #[v, .int .i64 (((lst b).2 : Nat) : Int)]) ∧ OwnE w' w.heap.size v (lst b).1 ∧ Below w.heap.size w w' := by
  obtain ⟨i0, hi, hz0, hz1, hz2⟩ := info_parts elInfo
  have HSB := Lib.hid hs
  go_enter Tryz.func91, Tryz.ntmps91
  go_wp2_with fail
  go_loopw [0, 4] (fun c v wr => ∃ (r : ByteArray) (D : List El), r.size + D.length ≤ b.size ∧ c = .string r ∧ ahead D (lst r) = lst b ∧ OwnE wr w.heap.size v D ∧ Below w.heap.size w wr) (fun c _ _ => strLen c)
  case atStart => exact ⟨b, [], Nat.le_refl _, rfl, ahead_nil b, World.ownsRow_nil _ _ _ _, Below.refl _ _⟩
  case round =>
    obtain ⟨r, D, hrs, rfl, hD, hown, hb⟩ := hrel
    have HO := Lib.hid hown
    have HB := Lib.hid hb
    have HD := Lib.hid hD
    have HRS := Lib.hid hrs
    have HS := Lib.hid (show r.size ≤ 1099511627776 by omega)
    clear hown hb hD hs hrs
    by_cases h0 : r.size = 0
    · have er : r = ⟨#[]⟩ := by
        apply ByteArray.ext
        exact Array.eq_empty_of_size_eq_zero h0
      subst er
      have HF := Lib.hid ((ahead_end D h0).symm.trans HD.out)
      clear h0
      go_wp2_with fail
      go_ret2
      obtain ⟨e1, e2⟩ : (lst b).1 = D ∧ (lst b).2 = 0 := by rw [← HF.out]; exact ⟨rfl, rfl⟩
      rw [e1, e2]
      exact ⟨_, rfl, HO.out, HB.out⟩
    · have he := nonempty_list h0
      have hpos : 0 < r.size := by omega
      by_cases hx : rdErr r = 0
      · have HV := Lib.hid (rdVal_good hx)
        have HX := Lib.hid hx
        have H0 := Lib.hid h0
        have hlt := rdRest_size hx
        have hDl : D.length + 1 ≤ 1099511627776 := by have := HRS.out; have := HSB.out; omega
        have HL := Lib.hid hDl
        have HLT := Lib.hid hlt
        clear hx h0 hlt hDl
        go_wp2_with (first | (go_at_call 90; (with_reducible refine (read_any r _ HS.out).mono ?_); rw [HV.out]; rintro e w1 ⟨rfl, hb1⟩; have HB1 := Lib.hid hb1; clear hb1) | (at_builtin; (refine wpList_append_own _ rfl (.tmp 19) (.tmp 21) 70 rfl w.heap.size 67 i0 (.agg #[.int .i64 0, .string ⟨#[]⟩, .string ⟨#[]⟩]) 3 40 Tryz.underlying70 hi hz0 hz1 hz2 rfl (by decide) _ D.length (elsCells D) rfl (((own_below HO.out HB1.out).alloc _).alloc _) ⟨w1.heap.size + 1, 0, none⟩ 1 1 (elCells (rdElem r)) rfl rfl (els_news w1 _ (rdElem r) _ rfl) (elCells_one _) (by have := HL.out; unfold maxLen; omega) (by have := HL.out; omega) (by have := HB.out.size; have := HB1.out.size; simp; omega) ?_); intro v' w2 hown2 hgr2 _; obtain ⟨P1, P2⟩ := els_round HO.out HB.out HB1.out hown2 hgr2; have HP1 := Lib.hid P1; have HP2 := Lib.hid P2; clear hown2 hgr2 P1 P2))
        go_roundw
        case rel => exact ⟨rdRest r, D ++ [rdElem r], by have := HRS.out; have := HLT.out; rw [List.length_append]; simp; omega, rfl, (ahead_step D H0.out HX.out).symm.trans HD.out, HP1.out, HP2.out⟩
        case measure => exact HLT.out
      · have HV := Lib.hid (rdVal_bad hx)
        have HX := Lib.hid hx
        have H0 := Lib.hid h0
        have dx : (((rdErr r : Nat) : Int) != 0) = true := by simp; omega
        have HF := Lib.hid ((ahead_bad D h0 hx).symm.trans HD.out)
        clear hx h0
        go_wp2_with (go_at_call 90; (with_reducible refine (read_any r _ HS.out).mono ?_); rw [HV.out]; rintro e w1 ⟨rfl, hb1⟩; have HB1 := Lib.hid hb1; clear hb1)
        go_ret2
        obtain ⟨e1, e2⟩ : (lst b).1 = [] ∧ (lst b).2 = rdErr r := by rw [← HF.out]; exact ⟨rfl, rfl⟩
        rw [e1, e2]
        exact ⟨_, rfl, World.ownsRow_nil _ _ _ _, (HB.out.trans (HB1.out.mono HB.out.size)).alloc (by have := HB.out.size; have := HB1.out.size; omega) _⟩
end Go.Proofs.YtbpdenfiifcfcaaGreatDoor
namespace Go.Proofs.YtbpdenfiifcfcaaGreatDoor
open Go.RowKit

theorem rdTag_lt (b : ByteArray) : rdTag b < 256 := u8at_lt b 0

end Go.Proofs.YtbpdenfiifcfcaaGreatDoor
namespace Go.Proofs.YtbpdenfiifcfcaaGreatDoor
open Go.RowKit

end Go.Proofs.YtbpdenfiifcfcaaGreatDoor
namespace Go.Proofs.YtbpdenfiifcfcaaGreatDoor
open Go.RowKit

theorem oneErr_rd {b : ByteArray} (h : oneErr b = 0) : rdErr b = 0 := by
  unfold oneErr at h
  by_cases h1 : rdErr b = 0
  · exact h1
  · rw [if_pos h1] at h; exact absurd h h1

end Go.Proofs.YtbpdenfiifcfcaaGreatDoor
namespace Go.Proofs.YtbpdenfiifcfcaaGreatDoor
open Go.RowKit

theorem own_base_t {w : World} {B : Nat} {v : Value} {l : List El} (h : OwnE w B v l) : OwnE w 0 v l := by
  refine ⟨h.1, ?_⟩
  rcases h.2 with h0 | ⟨g, cap, cur, hv, _, r⟩
  · exact .inl h0
  · exact .inr ⟨g, cap, cur, hv, Nat.zero_le _, r⟩
theorem els_cell {w : World} {g : Nat} {B cap : Nat} {l : List El} (h : OwnE w B (.slice (some ⟨g, 0, none⟩) l.length cap) l) (i : Nat) (hi : i < l.length) (j : Nat) (hj : j < 3) :
    w.cell? ⟨g, i * 3 + j, none⟩ = (elCells l[i])[j]? := by
  rw [World.ownsRow.cellAt h (i * 3 + j) (by omega)]
  clear h
  induction l generalizing i with
  | nil => exact absurd hi (Nat.not_lt_zero _)
  | cons e r ih =>
    have e0 : elsCells (e :: r) = elCells e ++ elsCells r := rfl
    have el : (elCells e).length = 3 := rfl
    rw [e0]
    cases i with
    | zero => rw [List.getElem?_append_left (by omega)]; simp
    | succ i =>
      rw [List.getElem?_append_right (by omega), el, show (i + 1) * 3 + j - 3 = i * 3 + j by omega, ih i (by simpa using hi)]
      rfl

end Go.Proofs.YtbpdenfiifcfcaaGreatDoor
namespace Go.Proofs.YtbpdenfiifcfcaaGreatDoor
open Go.RowKit

theorem lst_length (b : ByteArray) : ∀ n, b.size ≤ n → (lst b).1.length ≤ n := by
  intro n
  induction n generalizing b with
  | zero => intro h; rw [lst_nil (by omega)]; exact Nat.le_refl 0
  | succ n ih =>
    intro h
    by_cases h0 : b.size = 0
    · rw [lst_nil h0]; exact Nat.zero_le _
    · by_cases hx : rdErr b = 0
      · rw [lst_step h0 hx]
        have h1 := rdRest_size hx
        have h2 := ih (rdRest b) (by omega)
        by_cases h3 : (lst (rdRest b)).2 = 0
        · rw [if_pos h3]; simp; exact h2
        · rw [if_neg h3]; exact Nat.zero_le _
      · rw [lst_bad h0 hx]; exact Nat.zero_le _
theorem OwnE.below {w w' : World} {B : Nat} {v : Value} {l : List El} (h : OwnE w B v l) (hb : Below w.heap.size w w') : OwnE w' B v l := own_below h hb
theorem below_next_t {w0 w w' : World} (h : Below w0.heap.size w0 w) (hb : Below w.heap.size w w') : Below w0.heap.size w0 w' := h.trans (hb.mono h.size)
theorem el_other {w : World} {g k : Nat} {a b c : Value} {o : Option Obj} (h : w.heap[k]? = o) (hne : g ≠ k) : (((w.setCell ⟨g, 0, none⟩ a).setCell ⟨g, 1, none⟩ b).setCell ⟨g, 2, none⟩ c).heap[k]? = o := by
  simp [World.setCell, Array.getElem?_modify, h, hne]

end Go.Proofs.YtbpdenfiifcfcaaGreatDoor
namespace Go.Proofs.YtbpdenfiifcfcaaGreatDoor
open Go.RowKit

end Go.Proofs.YtbpdenfiifcfcaaGreatDoor
namespace Go.Proofs.YtbpdenfiifcfcaaGreatDoor
open Go.RowKit

end Go.Proofs.YtbpdenfiifcfcaaGreatDoor
namespace Go.Proofs.YtbpdenfiifcfcaaGreatDoor
open Go.RowKit

theorem OwnB.open {w : World} {B : Nat} {v : Value} {l : List UInt8} (h : OwnB 5 w B v l) (hl : l ≠ []) : ∃ g cap, v = .slice (some ⟨g, 0, none⟩) l.length cap ∧ B ≤ g ∧ g < w.heap.size ∧ l.length ≤ cap := by
  rcases h.2 with ⟨rfl, h0⟩ | ⟨g, cap, cur, rfl, hB, hg, hn, _, _, _⟩
  · exact absurd (List.eq_nil_of_length_eq_zero h0) hl
  · exact ⟨g, cap, rfl, hB, (Array.getElem?_eq_some_iff.1 hg).1, hn⟩
theorem OwnB.news {w w' : World} {B g n cap : Nat} {l : List UInt8} (h : OwnB 5 w B (.slice (some ⟨g, 0, none⟩) n cap) l) (hb : Below w.heap.size w w') : ∀ j u, (l.map bcell)[j]? = some u → w'.cell? ((⟨g, 0, none⟩ : Addr).add j) = some u := fun j u hu => by
  rw [← World.ownsRow.cells h rfl j u hu]
  exact hb.cell (p := (⟨g, 0, none⟩ : Addr).add j) (by
    have : ((⟨g, 0, none⟩ : Addr).add j).block = g := by unfold Addr.add; split <;> rfl
    rw [this]; exact (World.ownsRow.lt h g rfl).2)

end Go.Proofs.YtbpdenfiifcfcaaGreatDoor
