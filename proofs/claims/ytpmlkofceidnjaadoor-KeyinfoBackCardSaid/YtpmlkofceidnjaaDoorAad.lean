/-
  Small laws for the texts on object identifiers: a string's bytes at numbers that have been reckoned, slices of numbers and of bytes that a call has made itself. Nothing is claimed of the program here.
  The contract of oid.arcOf: the number whose decimal digits the text is, if there is one up to the greatest arc.
  The contract of oid.arcsOf: the numbers of the object identifier that the text is, if it is one.
-/
import Derived.Test.YtpmlkofceidnjaaDoorAaa
import Derived.Test.YtpmlkofceidnjaaDoorAab
import Derived.Test.YtpmlkofceidnjaaDoorAac
namespace Go.Proofs.YtpmlkofceidnjaaDoor
open Go.RowKit

/-! ### Rows that a call has made itself -/
def OwnI (w : World) (B : Nat) (v : Value) (a : List Nat) : Prop := w.ownsRow B 3 1 v a.length (a.map icell)
/-- The numbers a lie from the beginning of block g on. -/
def ILie (w : World) (g : Nat) (a : List Nat) : Prop := g < w.heap.size ∧ ∀ j, j < a.length → w.cell? ⟨g, j, none⟩ = some (.int .i64 ((a.getD j 0 : Nat) : Int))
theorem ILie.cell {w : World} {g : Nat} {a : List Nat} (h : ILie w g a) (j : Nat) (hj : j < a.length) : w.cell? ⟨g, j, none⟩ = some (.int .i64 ((a.getD j 0 : Nat) : Int)) := h.2 j hj
theorem ILie.below {w w' : World} {g : Nat} {a : List Nat} (h : ILie w g a) (hb : Below w.heap.size w w') : ILie w' g a :=
  ⟨Nat.lt_of_lt_of_le h.1 hb.size, fun j hj => by
    have e := h.2 j hj
    rw [← e]
    exact hb.cell h.1⟩
theorem ILie.alloc {w : World} {g : Nat} {a : List Nat} (h : ILie w g a) (o : Obj) : ILie (w.alloc o) g a := h.below (belowNew w o)
theorem OwnI.open {w : World} {B : Nat} {v : Value} {a : List Nat} (h : OwnI w B v a) (ha : a ≠ []) : ∃ g cap, v = .slice (some ⟨g, 0, none⟩) a.length cap ∧ B ≤ g ∧ ILie w g a ∧ a.length ≤ cap := by
  rcases h.2 with ⟨rfl, h0⟩ | ⟨g, cap, cur, rfl, hB, hg, hn, _, hcs, htk⟩
  · exact absurd (List.eq_nil_of_length_eq_zero h0) ha
  · refine ⟨g, cap, rfl, hB, ⟨(Array.getElem?_eq_some_iff.1 hg).1, fun j hj => ?_⟩, hn⟩
    rw [cell_of_row w g j _ _ _ hg]
    have : (cur.toList.take (a.length * 1))[j]? = some (icell (a.getD j 0)) := by rw [htk]; simp [hj]
    rw [List.getElem?_take_of_lt (by omega)] at this
    simpa [icell] using this
theorem own_round {w wr w2 : World} {v v' : Value} {D : List Nat} {y : Nat} {X : Obj} (hown : OwnI wr w.heap.size v D) (hb : Below w.heap.size w wr)
    (hown2 : w2.ownsRow w.heap.size 3 1 v' (D.length + 1) (D.map icell ++ [icell y])) (hgr2 : (wr.alloc X).grownBy w2 v.ownBlock) : OwnI w2 w.heap.size v' (D ++ [y]) ∧ Below w.heap.size w w2 := by
  refine ⟨?_, ?_⟩
  · unfold OwnI
    rw [List.length_append, List.map_append]; exact hown2
  · exact (Below.alloc hb hb.size X).grown hgr2 (by simp; have := hb.size; omega) (fun k e => (World.ownsRow.lt hown k e).1)
theorem intInfo : (Tryd.prog.info? 3).map (fun i => (i.zero, i.size, i.bytes)) = some (some (.int .i64 0), 1, 8) := by kernel_rfl
theorem strInfo : (Tryd.prog.info? 9).map (fun i => (i.zero, i.size, i.bytes)) = some (some (.string ByteArray.empty), 1, 16) := by kernel_rfl
theorem int_made {w : World} {B : Nat} {v : Value} (m : Nat) (h : w.ownsRow B 3 1 v m (madeCells (Value.int .i64 0).cells (m * 1)).toList) : OwnI w B v (List.replicate m 0) := by
  unfold OwnI
  rw [List.length_replicate]
  have e : (madeCells (Value.int .i64 0).cells (m * 1)).toList = (List.replicate m 0).map icell := by
    simp only [madeCells, Value.cells, Nat.mul_one]
    apply List.ext_getElem
    · simp
    · intro i h1 h2
      simp [Nat.mod_one, icell]
  rw [← e]; exact h
theorem int_cell {w : World} {B g n cap : Nat} {l : List Nat} (h : OwnI w B (.slice (some ⟨g, 0, none⟩) n cap) l) (hl : l.length = n) (j : Nat) (hj : j < n) : w.cell? ⟨g, j, none⟩ = some (.int .i64 ((l.getD j 0 : Nat) : Int)) := by
  subst hl
  have := World.ownsRow.cellAt h j (by omega)
  rw [this]
  simp [hj, icell]
theorem int_free {w : World} {B g n cap : Nat} {l : List Nat} (h : OwnI w B (.slice (some ⟨g, 0, none⟩) n cap) l) (hl : l.length = n) (j : Nat) : w.frozen? ⟨g, j, none⟩ = false := by
  subst hl
  exact World.ownsRow.frozenAt h j
theorem int_set {w : World} {B g n cap : Nat} {l : List Nat} (h : OwnI w B (.slice (some ⟨g, 0, none⟩) n cap) l) (hl : l.length = n) (j : Nat) (b : Nat) :
    OwnI (w.setCell ⟨g, j, none⟩ (.int .i64 ((b : Nat) : Int))) B (.slice (some ⟨g, 0, none⟩) n cap) (l.set j b) := by
  subst hl
  unfold OwnI at h ⊢
  have := (World.ownsRow.stored h j (icell b)).1
  rw [List.length_set, List.map_set]
  exact this
theorem filled_set (A : List Nat) (n b : Nat) (h : A.length < n) : (A ++ List.replicate (n - A.length) 0).set A.length b = (A ++ [b]) ++ List.replicate (n - (A ++ [b]).length) 0 := by
  have e : n - A.length = (n - (A ++ [b]).length) + 1 := by simp; omega
  rw [e, List.replicate_succ, List.set_append_right _ _ (Nat.le_refl _)]
  simp
theorem filled_len (A : List Nat) (n : Nat) (h : A.length ≤ n) : (A ++ List.replicate (n - A.length) 0).length = n := by simp; omega
theorem OwnI.form {w : World} {B : Nat} {v : Value} {a : List Nat} (h : OwnI w B v a) : ∃ p cap, v = .slice p a.length cap := by
  rcases h.2 with ⟨rfl, h0⟩ | ⟨g, cap, cur, rfl, _⟩
  · exact ⟨none, 0, by rw [h0]⟩
  · exact ⟨_, cap, rfl⟩
/-- The cells of a new array of strings. -/
theorem row_pcs (W : World) (xs : List ByteArray) (N : Nat) (k : Nat) (hk : k < xs.length) : (W.alloc (.cells (Lib.cellsOf xs N) 9)).cell? ⟨W.heap.size, k, none⟩ = some (.string (xs.getD k ⟨#[]⟩)) := by
  rw [cell_of_row _ _ k _ _ _ (heap_alloc_new W _)]
  unfold Lib.cellsOf
  rw [List.getElem?_toArray, List.getElem?_append_left (by simpa using hk)]
  simp [hk]
end Go.Proofs.YtpmlkofceidnjaaDoor
namespace Go.Proofs.YtpmlkofceidnjaaDoor
open Go.RowKit

/-- The text p is the arc v. -/
def IsArc (p : List UInt8) (v : Nat) : Prop := p = Lib.decDigits v ∧ v ≤ 2147483647
theorem arc_val {p : List UInt8} {v : Nat} (h : IsArc p v) : dval p = v := by rw [h.1, dec_val]
theorem arc_dig {p : List UInt8} {v : Nat} (h : IsArc p v) {c : UInt8} (hc : c ∈ p) : isDig c := by rw [h.1] at hc; exact dec_dig hc
theorem arc_ne {p : List UInt8} {v : Nat} (h : IsArc p v) : p ≠ [] := by rw [h.1]; exact dec_ne v
theorem arc_head {p : List UInt8} {v : Nat} (h : IsArc p v) (h0 : p.head? = some 48) : p = [48] := by
  rw [h.1] at h0 ⊢
  rw [dec_head h0, dec_zero]
theorem arc_of {p : List UInt8} (h0 : p ≠ []) (h1 : ∀ c ∈ p, isDig c) (h2 : p.head? = some 48 → p = [48]) (h3 : dval p ≤ 2147483647) : IsArc p (dval p) :=
  ⟨dec_of p h0 h1 (fun e => by rw [h2 e]; rfl), h3⟩

def Arced (p : ByteArray) (e : Ending) : Prop := ∃ (v : Nat) (ok : Bool), e = .returned (.tuple #[.int .i64 ((v : Nat) : Int), .bool ok]) ∧ (ok = true ∧ IsArc p.data.toList v ∨ ok = false ∧ v = 0 ∧ ∀ m, ¬ IsArc p.data.toList m)
theorem arced_no {p : ByteArray} (h : ∀ m, ¬ IsArc p.data.toList m) : Arced p (.returned (.tuple #[.int .i64 0, .bool false])) := ⟨0, false, rfl, .inr ⟨rfl, rfl, h⟩⟩
theorem head_u8 {p : ByteArray} (h : p.size ≠ 0) : ∃ c : UInt8, p.data.toList.head? = some c ∧ u8at p 0 = c.toNat := by
  obtain ⟨c, h1, h2⟩ := u8at_list p 0 (by omega)
  exact ⟨c, by rw [List.head?_eq_getElem?]; exact h1, h2⟩

set_option maxRecDepth 100000 in
set_option maxHeartbeats 1000000 in
theorem arcOf_any (p : ByteArray) (w : World) (hs : p.size ≤ 1099511627776) :
    Calls Tryd.prog 55 #[.string p] w fun e w' => Arced p e ∧ w' = w := by
  by_cases h0 : p.size = 0
  · obtain rfl := empty_of_size h0
    clear h0
    go_enter Tryd.func55, Tryd.ntmps55
    go_wp2_with fail
    go_ret2
    exact ⟨arced_no fun m h => arc_ne h rfl, rfl⟩
  · have he := nonempty_list h0
    have hi0 := fun w => run_index_u8 (P := Tryd.prog) Tryd.underlying9 p 0 (by omega) 0 rfl w
    obtain ⟨c0, hc0, hcn⟩ := head_u8 h0
    have HC0 := Lib.hid hc0
    have HN0 := Lib.hid (show p.data.toList ≠ [] from fun e => h0 (by show p.data.toList.length = 0; rw [e]; rfl))
    rw [hcn] at hi0
    clear hc0 hcn
    by_cases hz : c0 = 48 ∧ p.data.toList ≠ [48]
    · have e1 : (((c0.toNat : Nat) : Int) == 48) = true := by rw [hz.1]; rfl
      have e2 : (p.toList == [48]) = false := beq_eq_false_iff_ne.2 (by rw [toList_eq_list]; exact hz.2)
      have HZ := Lib.hid hz
      clear hz h0
      go_enter Tryd.func55, Tryd.ntmps55
      go_wp2_with fail
      go_ret2
      exact ⟨arced_no fun m h => HZ.out.2 (arc_head h (by rw [HC0.out, HZ.out.1])), rfl⟩
    · have hh : p.data.toList.head? = some 48 → p.data.toList = [48] := fun e => Classical.byContradiction fun h => hz ⟨Option.some.inj (HC0.out.symm.trans e), h⟩
      have HH := Lib.hid hh
      have hor : ((((c0.toNat : Nat) : Int) == 48) = false) ∨ (((((c0.toNat : Nat) : Int) == 48) = true) ∧ (p.toList == [48]) = true) := by
        by_cases e : c0 = 48
        · right
          refine ⟨by rw [e]; rfl, beq_iff_eq.2 ?_⟩
          rw [toList_eq_list]; exact hh (by rw [HC0.out, e])
        · left
          refine beq_eq_false_iff_ne.2 fun e2 => e (UInt8.toNat_inj.1 ?_)
          show c0.toNat = 48
          omega
      clear hz hh h0
      rcases hor with e1 | ⟨e1, e2⟩
      all_goals
        go_enter Tryd.func55, Tryd.ntmps55
        go_wp2_with fail
        clear e1 hi0 he
        try clear e2
        go_loopw [4, 19] (fun a i wr => ∃ k : Nat, k ≤ p.size ∧ i = .int .i64 k ∧ a = .int .i64 ((dval (p.data.toList.take k) : Nat) : Int) ∧ dval (p.data.toList.take k) ≤ 2147483647 ∧ (∀ c ∈ p.data.toList.take k, isDig c) ∧ wr = w) (fun _ i _ => p.size - (intOf i).toNat)
        case atStart => exact ⟨0, by omega, rfl, rfl, by simp [dval], by simp, rfl⟩
        case round =>
          obtain ⟨k, hk, rfl, rfl, hv, hdg, rfl⟩ := hrel
          have HV := Lib.hid hv
          have HD := Lib.hid hdg
          obtain ⟨V, hV⟩ : ∃ V, V = dval (p.data.toList.take k) := ⟨_, rfl⟩
          rw [← hV] at hv
          rw [← hV]
          have HVV := Lib.hid hV
          clear hV hdg
          by_cases hlt : k < p.size
          · have hd : decide ((k : Int) < (p.size : Int)) = true := by simp; omega
            have hi := fun w => run_index_u8 (P := Tryd.prog) Tryd.underlying9 p k hlt (k : Int) rfl w
            obtain ⟨c, hc, hcn⟩ := u8at_list p k hlt
            rw [hcn] at hi
            have HC := Lib.hid hc
            have HM := Lib.hid (show c ∈ p.data.toList from List.mem_of_getElem? hc)
            clear hc hcn
            obtain ⟨n, hn⟩ : ∃ n, n = c.toNat := ⟨_, rfl⟩
            have hn256 : n < 256 := by rw [hn]; exact c.toNat_lt
            rw [← hn] at hi
            by_cases hlo : n < 48
            · have d1 : decide ((n : Int) < 48) = true := by simp; omega
              have HL := Lib.hid (show ¬ isDig c by unfold isDig; omega)
              clear hn
              go_wp2_with fail
              go_ret2
              exact ⟨arced_no fun m h => HL.out (arc_dig h HM.out), rfl⟩
            · by_cases hhi : 57 < n
              · have d1 : decide ((n : Int) < 48) = false := by simp; omega
                have d2 : decide ((57 : Int) < (n : Int)) = true := by simp; omega
                have HL := Lib.hid (show ¬ isDig c by unfold isDig; omega)
                clear hn
                go_wp2_with fail
                go_ret2
                exact ⟨arced_no fun m h => HL.out (arc_dig h HM.out), rfl⟩
              · have d1 : decide ((n : Int) < 48) = false := by simp; omega
                have d2 : decide ((57 : Int) < (n : Int)) = false := by simp; omega
                have HL := Lib.hid (show isDig c by unfold isDig; omega)
                have hnew : dval (p.data.toList.take (k + 1)) = 10 * V + (n - 48) := by rw [take_snoc HC.out, dval_snoc, ← HVV.out, hn]
                have HNW := Lib.hid hnew
                clear hn hnew
                by_cases hbig : 2147483647 < 10 * V + (n - 48)
                · have d3 : decide ((2147483647 : Int) < 10 * (V : Int) + ((n : Int) - 48)) = true := by simp; omega
                  have HB := Lib.hid hbig
                  clear hbig
                  go_wp2_with fail
                  go_ret2
                  refine ⟨arced_no fun m h => ?_, rfl⟩
                  have h1 := dval_le (p.data.toList.take (k + 1)) (p.data.toList.drop (k + 1))
                  rw [List.take_append_drop, arc_val h, HNW.out] at h1
                  have := HB.out
                  have := h.2
                  omega
                · have d3 : decide ((2147483647 : Int) < 10 * (V : Int) + ((n : Int) - 48)) = false := by simp; omega
                  have HB := Lib.hid hbig
                  clear hbig
                  go_wp2_with fail
                  go_roundw
                  case rel => exact ⟨k + 1, by omega, by go_num, by rw [HNW.out]; congr 1; omega, by rw [HNW.out]; have := HB.out; omega, by
                    rw [take_snoc HC.out]
                    intro x hx
                    rcases List.mem_append.1 hx with hx | hx
                    · exact HD.out x hx
                    · obtain rfl : x = c := by simpa using hx
                      exact HL.out, trivial⟩
                  case measure => simp [intOf]; omega
          · have ek : k = p.size := by omega
            subst ek
            have hd : decide ((p.size : Int) < (p.size : Int)) = false := by simp
            have HALL := Lib.hid (show p.data.toList.take p.size = p.data.toList from List.take_of_length_le (Nat.le_refl _))
            go_wp2_with fail
            go_ret2
            rw [HALL.out] at HVV HD HV
            refine ⟨⟨V, true, rfl, .inl ⟨rfl, ?_⟩⟩, rfl⟩
            rw [HVV.out]
            exact arc_of HN0.out HD.out HH.out HV.out
theorem arc_yes {p : ByteArray} {v : Nat} (h : IsArc p.data.toList v) (w : World) (hs : p.size ≤ 1099511627776) :
    Calls Tryd.prog 55 #[.string p] w fun e w' => e = .returned (.tuple #[.int .i64 ((v : Nat) : Int), .bool true]) ∧ w' = w := by
  refine (arcOf_any p w hs).mono ?_
  rintro e w' ⟨⟨u, ok, rfl, h1 | h1⟩, hw⟩
  · obtain ⟨rfl, h1⟩ := h1
    obtain rfl : u = v := (arc_val h1).symm.trans (arc_val h)
    exact ⟨rfl, hw⟩
  · exact absurd h (h1.2.2 v)
theorem arc_no {p : ByteArray} (h : ∀ v, ¬ IsArc p.data.toList v) (w : World) (hs : p.size ≤ 1099511627776) :
    Calls Tryd.prog 55 #[.string p] w fun e w' => e = .returned (.tuple #[.int .i64 0, .bool false]) ∧ w' = w := by
  refine (arcOf_any p w hs).mono ?_
  rintro e w' ⟨⟨u, ok, rfl, h1 | h1⟩, hw⟩
  · exact absurd h1.2 (h u)
  · obtain ⟨rfl, rfl, _⟩ := h1
    exact ⟨rfl, hw⟩
end Go.Proofs.YtpmlkofceidnjaaDoor
namespace Go.Proofs.YtpmlkofceidnjaaDoor
open Go.RowKit

/-- What arcsOf answers: the numbers, in a block of the call's own, or no. -/
def Arcsd (l : List UInt8) (B : Nat) (w' : World) (e : Ending) : Prop :=
  (∃ a g cap, Oid l a ∧ e = .returned (.tuple #[.slice (some ⟨g, 0, none⟩) a.length cap, .bool true]) ∧ ILie w' g a ∧ B ≤ g ∧ a.length ≤ cap) ∨ ((∀ a, ¬ Oid l a) ∧ e = .returned (.tuple #[.slice none 0 0, .bool false]))
theorem piece_len {Q : List (List UInt8)} {p : List UInt8} (h : p ∈ Q) : p.length ≤ (dotted Q).length := by
  induction Q with
  | nil => cases h
  | cons q Q ih =>
    rw [dotted, List.flatMap_cons, List.length_append, List.length_append]
    rcases List.mem_cons.1 h with rfl | h
    · omega
    · have := ih h; rw [dotted] at this; omega
theorem pcs_list (s : ByteArray) : (pcs s).map (·.data.toList) = Lib.splitK [46] 0 (min 12 s.data.toList.length) s.data.toList := Lib.splitB_data ⟨#[46]⟩ 0 (min 12 s.size) s
theorem pcs_size (s : ByteArray) (k : Nat) (hk : k < (pcs s).length) : ((pcs s).getD k ⟨#[]⟩).size ≤ s.size + 1 := by
  have hm : ((pcs s).getD k ⟨#[]⟩).data.toList ∈ (pcs s).map (·.data.toList) := by
    rw [List.getD_eq_getElem?_getD, List.getElem?_eq_getElem hk]
    exact List.mem_map.2 ⟨_, List.getElem_mem hk, rfl⟩
  have := piece_len hm
  rw [pcs_list, (split_spec _ _).1, List.length_append] at this
  exact this
theorem good_of {A : List Nat} (h2 : 2 ≤ A.length) (h12 : A.length ≤ 12) (hm : ∀ v ∈ A, v ≤ 2147483647) (h0 : ¬ 2 < A.getD 0 0) (h1 : ¬ (A.getD 0 0 < 2 ∧ 40 ≤ A.getD 1 0)) : Good A :=
  ⟨h2, h12, hm, by omega, fun h => by omega⟩

set_option maxRecDepth 100000 in
set_option maxHeartbeats 1000000 in
theorem arcsOf_any (s : ByteArray) (w : World) (hs : s.size ≤ 1099511627) :
    Calls Tryd.prog 46 #[.string s] w fun e w' => Arcsd s.data.toList w.heap.size w' e ∧ Below w.heap.size w w' := by
  obtain ⟨i0, hi, hz0, hz1, hz2⟩ := info_parts intInfo
  obtain ⟨q1, q2, q3, q4⟩ := split13 (l := s.data.toList) (k := min 12 s.data.toList.length) rfl (pcs_list s)
  have HQ1 := Lib.hid q1
  have HQ2 := Lib.hid q2
  have hsz := pcs_size s
  have hcell := row_pcs w (pcs s) (min 13 (s.size + 1))
  have HSP := Lib.hid (split_any s w (by omega))
  obtain ⟨xs, hxs⟩ : ∃ xs, xs = pcs s := ⟨_, rfl⟩
  rw [← hxs] at HQ1 HQ2 HSP q3 q4 hsz hcell
  rw [List.length_map] at q3 q4
  obtain ⟨N, hN⟩ : ∃ N, N = min 13 (s.size + 1) := ⟨_, rfl⟩
  rw [← hN] at HSP hcell
  obtain ⟨w1, hw1⟩ : ∃ w1, w1 = w.alloc (.cells (Lib.cellsOf xs N) 9) := ⟨_, rfl⟩
  have HB1 := Lib.hid (show Below w.heap.size w w1 by rw [hw1]; exact belowNew w _)
  have HS1 := Lib.hid (show w1.heap.size = w.heap.size + 1 by rw [hw1]; simp)
  rw [← hw1] at HSP hcell
  obtain ⟨n, hn⟩ : ∃ n, n = xs.length := ⟨_, rfl⟩
  rw [← hn] at HSP hcell hsz q3 q4
  have HN := Lib.hid hn
  have HCL := Lib.hid hcell
  have HSZ := Lib.hid hsz
  have HSS := Lib.hid hs
  clear hw1 hN hxs q1 q2 hcell hsz hs hn
  have no : ∀ {Q : List (List UInt8)}, Q.length = n → (∀ a, Oid s.data.toList a → Q = a.map Lib.decDigits) → (n < 2 ∨ 12 < n) → ∀ a, ¬ Oid s.data.toList a := by
    intro Q h1 h2 h3 a h
    have e := congrArg List.length (h2 a h)
    rw [List.length_map, h1] at e
    have := h.1.1
    have := h.1.2.1
    omega
  have hlen : (xs.map (·.data.toList)).length = n := by rw [List.length_map, HN.out]
  by_cases h2 : n < 2
  · have d1 : decide ((n : Int) < 2) = true := by simp; omega
    have HX := Lib.hid (no hlen HQ1.out (.inl h2))
    clear no hlen h2
    go_enter Tryd.func46, Tryd.ntmps46
    go_wp2_with (go_at_call 54; (with_reducible refine HSP.out.mono ?_); rintro e w2 ⟨rfl, rfl⟩)
    go_ret2
    exact ⟨.inr ⟨HX.out, rfl⟩, HB1.out⟩
  · by_cases h12 : 12 < n
    · have d1 : decide ((n : Int) < 2) = false := by simp; omega
      have d2 : decide ((12 : Int) < (n : Int)) = true := by simp; omega
      have HX := Lib.hid (no hlen HQ1.out (.inr h12))
      clear no hlen h2 h12
      go_enter Tryd.func46, Tryd.ntmps46
      go_wp2_with (go_at_call 54; (with_reducible refine HSP.out.mono ?_); rintro e w2 ⟨rfl, rfl⟩)
      go_ret2
      exact ⟨.inr ⟨HX.out, rfl⟩, HB1.out⟩
    · have d1 : decide ((n : Int) < 2) = false := by simp; omega
      have d2 : decide ((12 : Int) < (n : Int)) = false := by simp; omega
      clear no q3 q4
      go_enter Tryd.func46, Tryd.ntmps46
      go_wp2_with (first | (go_at_call 54; (with_reducible refine HSP.out.mono ?_); rintro e w2 ⟨rfl, rfl⟩) | (at_make; refine wpList_make_full _ rfl _ _ 22 rfl w2.heap.size 3 i0 (.int .i64 0) 1 Tryd.underlying22 hi hz0 hz1 .i64 .i64 (n : Int) (n : Int) n rfl rfl rfl rfl (by rw [hz2]; omega) (by unfold maxLen; omega) (Nat.le_refl _) ?_; intro w3 hown3 hgr3; have HO3 := Lib.hid (int_made n hown3); have HG3 := Lib.hid hgr3; clear hown3 hgr3))
      have HB3 := Lib.hid ((Below.refl w2.heap.size w2).grown HG3.out (Nat.le_refl _) (fun _ e => by cases e))
      clear HSP d1 d2
      go_loopw [25] (fun i wr => ∃ k : Nat, k ≤ n ∧ i = .int .i64 (k : Int) ∧ (∃ A : List Nat, A.length = k ∧ (xs.map (·.data.toList)).take k = A.map Lib.decDigits ∧ (∀ v ∈ A, v ≤ 2147483647) ∧ OwnI wr w2.heap.size (.slice (some ⟨w2.heap.size, 0, none⟩) n n) (A ++ List.replicate (n - A.length) 0)) ∧ Below w2.heap.size w2 wr) (fun i _ => n - (intOf i).toNat)
      case atStart => exact ⟨0, by omega, rfl, ⟨[], rfl, rfl, by simp, by simpa using HO3.out⟩, HB3.out⟩
      case round =>
        obtain ⟨k, hk, rfl, ⟨A, hA, hAQ, hAm, ho⟩, hb⟩ := hrel
        have HO := Lib.hid ho
        have HB := Lib.hid hb
        have HA := Lib.hid hA
        have HAQ := Lib.hid hAQ
        have HAM := Lib.hid hAm
        by_cases hlt : k < n
        · have hd : decide ((k : Int) < (n : Int)) = true := by simp; omega
          have hcx : wr.cell? ⟨w.heap.size, k, none⟩ = some (.string (xs.getD k ⟨#[]⟩)) := by
            rw [← HCL.out k hlt]
            exact hb.cell (by show w.heap.size < w2.heap.size; rw [HS1.out]; omega)
          have HXS := Lib.hid (HSZ.out k hlt)
          have hx : (xs.map (·.data.toList))[k]? = some (xs.getD k ⟨#[]⟩).data.toList := by
            have : k < xs.length := by have := HN.out; omega
            rw [List.getElem?_map, List.getD_eq_getElem?_getD, List.getElem?_eq_getElem this]; rfl
          generalize xs.getD k ⟨#[]⟩ = x at hcx HXS hx
          have HX := Lib.hid hx
          have HLX := Lib.hid (show x.size ≤ 1099511627776 by have := HXS.out; have := HSS.out; omega)
          have hci := int_cell ho (filled_len A n (by omega)) k hlt
          have hcf := int_free ho (filled_len A n (by omega)) k
          clear hA hAQ hAm ho hb hx hlen
          by_cases hv : ∃ v, IsArc x.data.toList v
          · obtain ⟨v, hv⟩ := hv
            have HV := Lib.hid hv
            have hs2 := Lib.hid (int_set HO.out (filled_len A n (by have := HA.out; omega)) k v)
            clear hv
            go_wp2_with (go_at_call 55; (with_reducible refine (arc_yes HV.out _ HLX.out).mono ?_); rintro e w4 ⟨rfl, rfl⟩)
            go_roundw
            case rel =>
              have hAk := HA.out
              have h3 := hs2.out
              subst hAk
              rw [filled_set A n v hlt] at h3
              refine ⟨A.length + 1, by omega, by go_num, ⟨A ++ [v], by simp, ?_, ?_, h3⟩, HB.out.setCell (Nat.le_refl _) _⟩
              · rw [List.take_add_one, HX.out, HAQ.out, List.map_append, HV.out.1]; rfl
              · intro y hy
                rcases List.mem_append.1 hy with hy | hy
                · exact HAM.out y hy
                · obtain rfl : y = v := by simpa using hy
                  exact HV.out.2
            case measure => simp [intOf]; omega
          · have HV := Lib.hid (show ∀ v, ¬ IsArc x.data.toList v from fun v h => hv ⟨v, h⟩)
            clear hv
            go_wp2_with (go_at_call 55; (with_reducible refine (arc_no HV.out _ HLX.out).mono ?_); rintro e w4 ⟨rfl, rfl⟩)
            go_ret2
            refine ⟨.inr ⟨fun a h => ?_, rfl⟩, below_next HB1.out HB.out⟩
            have e := HQ1.out a h
            have hx := HX.out
            rw [e, List.getElem?_map] at hx
            obtain ⟨v, hv1, hv2⟩ : ∃ v, a[k]? = some v ∧ Lib.decDigits v = x.data.toList := by simpa using hx
            exact HV.out v ⟨hv2.symm, h.1.2.2.1 v (List.mem_of_getElem? hv1)⟩
        · have ek : k = n := by omega
          subst ek
          have hAl : A.length = k := hA
          have eAA : A ++ List.replicate (k - A.length) 0 = A := by rw [hA]; simp
          rw [eAA] at HO ho
          have hd : decide ((k : Int) < (k : Int)) = false := by simp
          have hc0 := int_cell ho hAl 0 (by omega)
          have hc1 := int_cell ho hAl 1 (by omega)
          have HQA := Lib.hid (show xs.map (·.data.toList) = A.map Lib.decDigits by rw [← hAQ]; exact (List.take_of_length_le (by rw [hlen]; exact Nat.le_refl _)).symm)
          have HG := Lib.hid (fun h0 h1 => good_of (A := A) (by omega) (by omega) hAm h0 h1)
          have bad : ¬ (¬ 2 < A.getD 0 0 ∧ ¬ (A.getD 0 0 < 2 ∧ 40 ≤ A.getD 1 0)) → ∀ a, ¬ Oid s.data.toList a := by
            intro hn a h
            have e := (HQ1.out a h).symm.trans HQA.out
            have e2 : a = A := by
              have h1 := dec_pieces a
              rw [e, dec_pieces A] at h1
              exact (code_inj fdot_code fdot_ne h1).symm
            subst e2
            obtain ⟨_, _, _, g0, g1⟩ := h.1
            exact hn ⟨by omega, fun ⟨x1, x2⟩ => by have := g1 x1; omega⟩
          have HBAD := Lib.hid bad
          have hm0 : A.getD 0 0 ≤ 2147483647 := by
            rw [List.getD_eq_getElem?_getD, List.getElem?_eq_getElem (by omega)]
            exact hAm _ (List.getElem_mem _)
          have hm1 : A.getD 1 0 ≤ 2147483647 := by
            rw [List.getD_eq_getElem?_getD, List.getElem?_eq_getElem (by omega)]
            exact hAm _ (List.getElem_mem _)
          clear bad hA hAQ hAm ho hb hlen hAl eAA
          obtain ⟨a0, ha0⟩ : ∃ a0, a0 = A.getD 0 0 := ⟨_, rfl⟩
          obtain ⟨a1, ha1⟩ : ∃ a1, a1 = A.getD 1 0 := ⟨_, rfl⟩
          rw [← ha0] at hc0 HG HBAD hm0
          rw [← ha1] at hc1 HG HBAD hm1
          clear ha0 ha1
          by_cases g0 : 2 < a0
          · have e0 : decide ((2 : Int) < (a0 : Int)) = true := by simp; omega
            have HX := Lib.hid (HBAD.out (fun h => h.1 g0))
            clear g0
            go_wp2_with fail
            go_ret2
            exact ⟨.inr ⟨HX.out, rfl⟩, below_next HB1.out HB.out⟩
          · have e0 : decide ((2 : Int) < (a0 : Int)) = false := by simp; omega
            by_cases g1 : a0 < 2
            · have e1 : decide ((a0 : Int) < 2) = true := by simp; omega
              by_cases g2 : 40 ≤ a1
              · have e2 : decide ((40 : Int) ≤ (a1 : Int)) = true := by simp; omega
                have HX := Lib.hid (HBAD.out (fun h => h.2 ⟨g1, g2⟩))
                clear g0 g1 g2
                go_wp2_with fail
                go_ret2
                exact ⟨.inr ⟨HX.out, rfl⟩, below_next HB1.out HB.out⟩
              · have e2 : decide ((40 : Int) ≤ (a1 : Int)) = false := by simp; omega
                have HX := Lib.hid (HG.out g0 (fun h => g2 h.2))
                clear g0 g1 g2
                go_wp2_with fail
                go_ret2
                obtain ⟨g, cap, e, hg, hl, hcp⟩ := HO.out.open HX.out.ne
                refine ⟨.inl ⟨A, g, cap, ⟨HX.out, HQ2.out A HQA.out⟩, by rw [← e]; rfl, hl, ?_, hcp⟩, below_next HB1.out HB.out⟩
                have := HS1.out; omega
            · have e1 : decide ((a0 : Int) < 2) = false := by simp; omega
              have HX := Lib.hid (HG.out g0 (fun h => g1 h.1))
              clear g0 g1
              go_wp2_with fail
              go_ret2
              obtain ⟨g, cap, e, hg, hl, hcp⟩ := HO.out.open HX.out.ne
              refine ⟨.inl ⟨A, g, cap, ⟨HX.out, HQ2.out A HQA.out⟩, by rw [← e]; rfl, hl, ?_, hcp⟩, below_next HB1.out HB.out⟩
              have := HS1.out; omega
end Go.Proofs.YtpmlkofceidnjaaDoor
