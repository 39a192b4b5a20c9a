/-
  What List answers, as a function of the string; the contracts of tlv.List and of the reference's List.
-/
import Derived.Test.YtgpockpfefjjkaaTone
namespace Go.Proofs.Ytgpockpfefjjkaa
open Go.RowKit

/-- An element: identifier octet, contents, the whole of it. -/
abbrev El := Nat × ByteArray × ByteArray
def elCells (e : El) : List Value := [.int .i64 ((e.1 : Nat) : Int), .string e.2.1, .string e.2.2]
def elsCells (l : List El) : List Value := l.flatMap elCells
theorem elsCells_length (l : List El) : (elsCells l).length = l.length * 3 := by
  induction l with
  | nil => rfl
  | cons e r ih => simp only [elsCells, List.flatMap_cons, List.length_append] at ih ⊢; rw [ih]; simp [elCells]; omega
theorem elsCells_snoc (l : List El) (e : El) : elsCells (l ++ [e]) = elsCells l ++ elCells e := by simp [elsCells]
def rdElem (b : ByteArray) : El := (rdTag b, rdContent b, rdRaw b)

/-- The elements of which a string consists, and the error (with an error no element). -/
def lst (b : ByteArray) : List El × Nat :=
  if b.size = 0 then ([], 0)
  else if _h : rdErr b = 0 then
    if (lst (rdRest b)).2 = 0 then (rdElem b :: (lst (rdRest b)).1, 0) else ([], (lst (rdRest b)).2)
  else ([], rdErr b)
termination_by b.size
decreasing_by all_goals exact rdRest_size (by assumption)
theorem lst_nil {b : ByteArray} (h : b.size = 0) : lst b = ([], 0) := by rw [lst, if_pos h]
theorem lst_bad {b : ByteArray} (h0 : b.size ≠ 0) (h : rdErr b ≠ 0) : lst b = ([], rdErr b) := by rw [lst, if_neg h0, dif_neg h]
theorem lst_step {b : ByteArray} (h0 : b.size ≠ 0) (h : rdErr b = 0) : lst b = if (lst (rdRest b)).2 = 0 then (rdElem b :: (lst (rdRest b)).1, 0) else ([], (lst (rdRest b)).2) := by
  rw [lst, if_neg h0, dif_pos h]
/-- Elements ahead of those of a string. -/
def ahead (D : List El) (p : List El × Nat) : List El × Nat := if p.2 = 0 then (D ++ p.1, 0) else ([], p.2)
theorem ahead_nil (b : ByteArray) : ahead [] (lst b) = lst b := by
  unfold ahead
  by_cases h0 : b.size = 0
  · rw [lst_nil h0]; rfl
  · by_cases h : rdErr b = 0
    · rw [lst_step h0 h]
      by_cases h2 : (lst (rdRest b)).2 = 0
      · simp [h2]
      · simp [h2]
    · rw [lst_bad h0 h]
      simp [h]
theorem ahead_step {b : ByteArray} (D : List El) (h0 : b.size ≠ 0) (h : rdErr b = 0) : ahead D (lst b) = ahead (D ++ [rdElem b]) (lst (rdRest b)) := by
  rw [lst_step h0 h]
  unfold ahead
  by_cases h2 : (lst (rdRest b)).2 = 0
  · simp [h2]
  · simp [h2]
theorem ahead_bad {b : ByteArray} (D : List El) (h0 : b.size ≠ 0) (h : rdErr b ≠ 0) : ahead D (lst b) = ([], rdErr b) := by
  rw [lst_bad h0 h]
  unfold ahead
  simp [h]
theorem ahead_end {b : ByteArray} (D : List El) (h0 : b.size = 0) : ahead D (lst b) = (D, 0) := by
  rw [lst_nil h0]
  unfold ahead
  simp

/-- The slice value v, of memory from block B on, holds the elements l. -/
def OwnE (w : World) (B : Nat) (v : Value) (l : List El) : Prop := w.ownsRow B 43 3 v l.length (elsCells l)
theorem elInfo : (Try.prog.info? 43).map (fun i => (i.zero, i.size, i.bytes)) = some (some (.agg #[.int .i64 0, .string ⟨#[]⟩, .string ⟨#[]⟩]), 3, 40) := by kernel_rfl

theorem own_below {w w' : World} {B : Nat} {e : TypeId} {k n : Nat} {v : Value} {xs : List Value} (h : w.ownsRow B e k v n xs) (hb : Below w.heap.size w w') : w'.ownsRow B e k v n xs := by
  refine ⟨h.1, ?_⟩
  rcases h.2 with h0 | ⟨g, cap, cur, hv, hB, hg, r⟩
  · exact .inl h0
  · exact .inr ⟨g, cap, cur, hv, hB, (hb.block g (Array.getElem?_eq_some_iff.1 hg).1).trans hg, r⟩
theorem elCells_one (e : El) : ∀ u ∈ elCells e, u.oneCell' = true := by
  intro u hu
  simp only [elCells, List.mem_cons, List.not_mem_nil, or_false] at hu
  rcases hu with rfl | rfl | rfl <;> rfl
theorem els_round {w wr w1 w2 : World} {v v' : Value} {D : List El} {e : El} {X Y : Obj} (hown : OwnE wr w.heap.size v D) (hb : Below w.heap.size w wr) (hb1 : Below wr.heap.size wr w1)
    (hown2 : w2.ownsRow w.heap.size 43 3 v' (D.length + 1) (elsCells D ++ elCells e)) (hgr2 : ((w1.alloc X).alloc Y).grownBy w2 v.ownBlock) : OwnE w2 w.heap.size v' (D ++ [e]) ∧ Below w.heap.size w w2 := by
  have h1 := hb.size
  have h2 := hb1.size
  refine ⟨?_, ?_⟩
  · unfold OwnE
    rw [List.length_append, elsCells_snoc]; exact hown2
  · exact (((hb.trans (hb1.mono h1)).alloc (by omega) X).alloc (by simp; omega) Y).grown hgr2 (by simp; omega) (fun k e => (World.ownsRow.lt hown k e).1)
theorem els_news (w1 : World) (X : Obj) (e : El) (cs : Array Value) (hcs : cs = (elCells e).toArray) :
    ∀ j u, (elCells e)[j]? = some u → ((w1.alloc X).alloc (.cells cs 43)).cell? ((⟨w1.heap.size + 1, 0, none⟩ : Addr).add j) = some u := by
  intro j u h
  have := news_row (w1.alloc X) cs 43 j u (by rw [hcs]; simpa using h)
  simpa using this

def strLen : Value → Nat
  | .string r => r.size
  | _ => 0
set_option maxRecDepth 100000 in
set_option maxHeartbeats 1000000 in
theorem list_any (b : ByteArray) (w : World) (hs : b.size ≤ 1099511627776) :
    Calls Try.prog 26 #[.string b] w fun e w' => ∃ v, e = .returned (.tuple #[v, .int .i64 (((lst b).2 : Nat) : Int)]) ∧ OwnE w' w.heap.size v (lst b).1 ∧ Below w.heap.size w w' := by
  obtain ⟨i0, hi, hz0, hz1, hz2⟩ := info_parts elInfo
  have HSB := Lib.hid hs
  go_enter Try.func26, Try.ntmps26
  go_wp2_with fail
  go_loopw [0, 4] (fun c v wr => ∃ (r : ByteArray) (D : List El), r.size + D.length ≤ b.size ∧ c = .string r ∧ ahead D (lst r) = lst b ∧ OwnE wr w.heap.size v D ∧ Below w.heap.size w wr) (fun c _ _ => strLen c)
  case atStart => exact ⟨b, [], Nat.le_refl _, rfl, ahead_nil b, World.ownsRow_nil _ _ _ _, Below.refl _ _⟩
  case round =>
    obtain ⟨r, D, hrs, rfl, hD, hown, hb⟩ := hrel
    have HO := Lib.hid hown
    have HB := Lib.hid hb
    have HD := Lib.hid hD
    have HRS := Lib.hid hrs
    have HS := Lib.hid (show r.size ≤ 1099511627776 by omega)
    clear hown hb hD hs hrs
    by_cases h0 : r.size = 0
    · have er : r = ⟨#[]⟩ := by
        apply ByteArray.ext
        exact Array.eq_empty_of_size_eq_zero h0
      subst er
      have HF := Lib.hid ((ahead_end D h0).symm.trans HD.out)
      clear h0
      go_wp2_with fail
      go_ret2
      obtain ⟨e1, e2⟩ : (lst b).1 = D ∧ (lst b).2 = 0 := by rw [← HF.out]; exact ⟨rfl, rfl⟩
      rw [e1, e2]
      exact ⟨_, rfl, HO.out, HB.out⟩
    · have he := nonempty_list h0
      have hpos : 0 < r.size := by omega
      by_cases hx : rdErr r = 0
      · have HV := Lib.hid (rdVal_good hx)
        have HX := Lib.hid hx
        have H0 := Lib.hid h0
        have hlt := rdRest_size hx
        have hDl : D.length + 1 ≤ 1099511627776 := by have := HRS.out; have := HSB.out; omega
        have HL := Lib.hid hDl
        have HLT := Lib.hid hlt
        clear hx h0 hlt hDl
        go_wp2_with (first | (go_at_call 21; (with_reducible refine (read_any r _ HS.out).mono ?_); rw [HV.out]; rintro e w1 ⟨rfl, hb1⟩; have HB1 := Lib.hid hb1; clear hb1) | (at_builtin; (refine wpList_append_own _ rfl (.tmp 19) (.tmp 21) 51 rfl w.heap.size 43 i0 (.agg #[.int .i64 0, .string ⟨#[]⟩, .string ⟨#[]⟩]) 3 40 Try.underlying51 hi hz0 hz1 hz2 rfl (by decide) _ D.length (elsCells D) rfl (((own_below HO.out HB1.out).alloc _).alloc _) ⟨w1.heap.size + 1, 0, none⟩ 1 1 (elCells (rdElem r)) rfl rfl (els_news w1 _ (rdElem r) _ rfl) (elCells_one _) (by have := HL.out; unfold maxLen; omega) (by have := HL.out; omega) (by have := HB.out.size; have := HB1.out.size; simp; omega) ?_); intro v' w2 hown2 hgr2 _; obtain ⟨P1, P2⟩ := els_round HO.out HB.out HB1.out hown2 hgr2; have HP1 := Lib.hid P1; have HP2 := Lib.hid P2; clear hown2 hgr2 P1 P2))
        go_roundw
        case rel => exact ⟨rdRest r, D ++ [rdElem r], by have := HRS.out; have := HLT.out; rw [List.length_append]; simp; omega, rfl, (ahead_step D H0.out HX.out).symm.trans HD.out, HP1.out, HP2.out⟩
        case measure => exact HLT.out
      · have HV := Lib.hid (rdVal_bad hx)
        have HX := Lib.hid hx
        have H0 := Lib.hid h0
        have dx : (((rdErr r : Nat) : Int) != 0) = true := by simp; omega
        have HF := Lib.hid ((ahead_bad D h0 hx).symm.trans HD.out)
        clear hx h0
        go_wp2_with (go_at_call 21; (with_reducible refine (read_any r _ HS.out).mono ?_); rw [HV.out]; rintro e w1 ⟨rfl, hb1⟩; have HB1 := Lib.hid hb1; clear hb1)
        go_ret2
        obtain ⟨e1, e2⟩ : (lst b).1 = [] ∧ (lst b).2 = rdErr r := by rw [← HF.out]; exact ⟨rfl, rfl⟩
        rw [e1, e2]
        exact ⟨_, rfl, World.ownsRow_nil _ _ _ _, (HB.out.trans (HB1.out.mono HB.out.size)).alloc (by have := HB.out.size; have := HB1.out.size; omega) _⟩
set_option maxRecDepth 100000 in
set_option maxHeartbeats 1000000 in
theorem rlist_any (b : ByteArray) (w : World) (hs : b.size ≤ 1099511627776) :
    Calls Try.prog 29 #[.string b] w fun e w' => ∃ v, e = .returned (.tuple #[v, .int .i64 (((lst b).2 : Nat) : Int)]) ∧ OwnE w' w.heap.size v (lst b).1 ∧ Below w.heap.size w w' := by
  obtain ⟨i0, hi, hz0, hz1, hz2⟩ := info_parts elInfo
  have HSB := Lib.hid hs
  go_enter Try.func29, Try.ntmps29
  go_wp2_with fail
  go_loopw [0, 4] (fun c v wr => ∃ (r : ByteArray) (D : List El), r.size + D.length ≤ b.size ∧ c = .string r ∧ ahead D (lst r) = lst b ∧ OwnE wr w.heap.size v D ∧ Below w.heap.size w wr) (fun c _ _ => strLen c)
  case atStart => exact ⟨b, [], Nat.le_refl _, rfl, ahead_nil b, World.ownsRow_nil _ _ _ _, Below.refl _ _⟩
  case round =>
    obtain ⟨r, D, hrs, rfl, hD, hown, hb⟩ := hrel
    have HO := Lib.hid hown
    have HB := Lib.hid hb
    have HD := Lib.hid hD
    have HRS := Lib.hid hrs
    have HS := Lib.hid (show r.size ≤ 1099511627776 by omega)
    clear hown hb hD hs hrs
    by_cases h0 : r.size = 0
    · have er : r = ⟨#[]⟩ := by
        apply ByteArray.ext
        exact Array.eq_empty_of_size_eq_zero h0
      subst er
      have HF := Lib.hid ((ahead_end D h0).symm.trans HD.out)
      clear h0
      go_wp2_with fail
      go_ret2
      obtain ⟨e1, e2⟩ : (lst b).1 = D ∧ (lst b).2 = 0 := by rw [← HF.out]; exact ⟨rfl, rfl⟩
      rw [e1, e2]
      exact ⟨_, rfl, HO.out, HB.out⟩
    · have he := nonempty_list h0
      have hpos : 0 < r.size := by omega
      by_cases hx : rdErr r = 0
      · have HV := Lib.hid (rdVal_good hx)
        have HX := Lib.hid hx
        have H0 := Lib.hid h0
        have hlt := rdRest_size hx
        have hDl : D.length + 1 ≤ 1099511627776 := by have := HRS.out; have := HSB.out; omega
        have HL := Lib.hid hDl
        have HLT := Lib.hid hlt
        clear hx h0 hlt hDl
        go_wp2_with (first | (go_at_call 27; (with_reducible refine (rread_any r _ HS.out).mono ?_); rw [HV.out]; rintro e w1 ⟨rfl, hb1⟩; have HB1 := Lib.hid hb1; clear hb1) | (at_builtin; (refine wpList_append_own _ rfl (.tmp 20) (.tmp 22) 51 rfl w.heap.size 43 i0 (.agg #[.int .i64 0, .string ⟨#[]⟩, .string ⟨#[]⟩]) 3 40 Try.underlying51 hi hz0 hz1 hz2 rfl (by decide) _ D.length (elsCells D) rfl (((own_below HO.out HB1.out).alloc _).alloc _) ⟨w1.heap.size + 1, 0, none⟩ 1 1 (elCells (rdElem r)) rfl rfl (els_news w1 _ (rdElem r) _ rfl) (elCells_one _) (by have := HL.out; unfold maxLen; omega) (by have := HL.out; omega) (by have := HB.out.size; have := HB1.out.size; simp; omega) ?_); intro v' w2 hown2 hgr2 _; obtain ⟨P1, P2⟩ := els_round HO.out HB.out HB1.out hown2 hgr2; have HP1 := Lib.hid P1; have HP2 := Lib.hid P2; clear hown2 hgr2 P1 P2))
        go_roundw
        case rel => exact ⟨rdRest r, D ++ [rdElem r], by have := HRS.out; have := HLT.out; rw [List.length_append]; simp; omega, rfl, (ahead_step D H0.out HX.out).symm.trans HD.out, HP1.out, HP2.out⟩
        case measure => exact HLT.out
      · have HV := Lib.hid (rdVal_bad hx)
        have HX := Lib.hid hx
        have H0 := Lib.hid h0
        have dx : (((rdErr r : Nat) : Int) != 0) = true := by simp; omega
        have HF := Lib.hid ((ahead_bad D h0 hx).symm.trans HD.out)
        clear hx h0
        go_wp2_with (go_at_call 27; (with_reducible refine (rread_any r _ HS.out).mono ?_); rw [HV.out]; rintro e w1 ⟨rfl, hb1⟩; have HB1 := Lib.hid hb1; clear hb1)
        go_ret2
        obtain ⟨e1, e2⟩ : (lst b).1 = [] ∧ (lst b).2 = rdErr r := by rw [← HF.out]; exact ⟨rfl, rfl⟩
        rw [e1, e2]
        exact ⟨_, rfl, World.ownsRow_nil _ _ _ _, (HB.out.trans (HB1.out.mono HB.out.size)).alloc (by have := HB.out.size; have := HB1.out.size; omega) _⟩
end Go.Proofs.Ytgpockpfefjjkaa
