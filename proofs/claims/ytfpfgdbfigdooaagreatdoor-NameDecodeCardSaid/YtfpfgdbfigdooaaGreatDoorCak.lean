/-
  Small laws for the texts on object identifiers: a string's bytes at numbers that have been reckoned, slices of numbers and of bytes that a call has made itself. Nothing is claimed of the program here.
  The contract of oid.arcOf: the number whose decimal digits the text is, if there is one up to the greatest arc.
-/
import Derived.Test.YtfpfgdbfigdooaaGreatDoorCaa
import Derived.Test.YtfpfgdbfigdooaaGreatDoorCai
import Derived.Test.YtfpfgdbfigdooaaGreatDoorCaj
namespace Go.Proofs.YtfpfgdbfigdooaaGreatDoor
open Go.RowKit

/-! ### Rows that a call has made itself -/
def OwnI (w : World) (B : Nat) (v : Value) (a : List Nat) : Prop := w.ownsRow B 3 1 v a.length (a.map icell)
/-- The numbers a lie from the beginning of block g on. -/
def ILie (w : World) (g : Nat) (a : List Nat) : Prop := g < w.heap.size ∧ ∀ j, j < a.length → w.cell? ⟨g, j, none⟩ = some (.int .i64 ((a.getD j 0 : Nat) : Int))
theorem ILie.cell {w : World} {g : Nat} {a : List Nat} (h : ILie w g a) (j : Nat) (hj : j < a.length) : w.cell? ⟨g, j, none⟩ = some (.int .i64 ((a.getD j 0 : Nat) : Int)) := h.2 j hj
theorem ILie.below {w w' : World} {g : Nat} {a : List Nat} (h : ILie w g a) (hb : Below w.heap.size w w') : ILie w' g a :=
  ⟨Nat.lt_of_lt_of_le h.1 hb.size, fun j hj => by
    have e := h.2 j hj
    rw [← e]
    exact hb.cell h.1⟩
theorem ILie.alloc {w : World} {g : Nat} {a : List Nat} (h : ILie w g a) (o : Obj) : ILie (w.alloc o) g a := h.below (belowNew w o)
theorem ILie.drawn {w : World} {g : Nat} {a : List Nat} (h : ILie w g a) (n : Nat) : ILie (w.drewN n) g a := h
theorem OwnI.open {w : World} {B : Nat} {v : Value} {a : List Nat} (h : OwnI w B v a) (ha : a ≠ []) : ∃ g cap, v = .slice (some ⟨g, 0, none⟩) a.length cap ∧ B ≤ g ∧ ILie w g a ∧ a.length ≤ cap := by
  rcases h.2 with ⟨rfl, h0⟩ | ⟨g, cap, cur, rfl, hB, hg, hn, _, hcs, htk⟩
  · exact absurd (List.eq_nil_of_length_eq_zero h0) ha
  · refine ⟨g, cap, rfl, hB, ⟨(Array.getElem?_eq_some_iff.1 hg).1, fun j hj => ?_⟩, hn⟩
    rw [cell_of_row w g j _ _ _ hg]
    have : (cur.toList.take (a.length * 1))[j]? = some (icell (a.getD j 0)) := by rw [htk]; simp [hj]
    rw [List.getElem?_take_of_lt (by omega)] at this
    simpa [icell] using this
theorem own_round {w wr w2 : World} {v v' : Value} {D : List Nat} {y : Nat} {X : Obj} (hown : OwnI wr w.heap.size v D) (hb : Below w.heap.size w wr)
    (hown2 : w2.ownsRow w.heap.size 3 1 v' (D.length + 1) (D.map icell ++ [icell y])) (hgr2 : (wr.alloc X).grownBy w2 v.ownBlock) : OwnI w2 w.heap.size v' (D ++ [y]) ∧ Below w.heap.size w w2 := by
  refine ⟨?_, ?_⟩
  · unfold OwnI
    rw [List.length_append, List.map_append]; exact hown2
  · exact (Below.alloc hb hb.size X).grown hgr2 (by simp; have := hb.size; omega) (fun k e => (World.ownsRow.lt hown k e).1)
theorem intInfo : (Tryz.prog.info? 3).map (fun i => (i.zero, i.size, i.bytes)) = some (some (.int .i64 0), 1, 8) := by kernel_rfl
theorem strInfo : (Tryz.prog.info? 9).map (fun i => (i.zero, i.size, i.bytes)) = some (some (.string ByteArray.empty), 1, 16) := by kernel_rfl
theorem int_made {w : World} {B : Nat} {v : Value} (m : Nat) (h : w.ownsRow B 3 1 v m (madeCells (Value.int .i64 0).cells (m * 1)).toList) : OwnI w B v (List.replicate m 0) := by
  unfold OwnI
  rw [List.length_replicate]
  have e : (madeCells (Value.int .i64 0).cells (m * 1)).toList = (List.replicate m 0).map icell := by
    simp only [madeCells, Value.cells, Nat.mul_one]
    apply List.ext_getElem
    · simp
    · intro i h1 h2
      simp [Nat.mod_one, icell]
  rw [← e]; exact h
theorem int_cell {w : World} {B g n cap : Nat} {l : List Nat} (h : OwnI w B (.slice (some ⟨g, 0, none⟩) n cap) l) (hl : l.length = n) (j : Nat) (hj : j < n) : w.cell? ⟨g, j, none⟩ = some (.int .i64 ((l.getD j 0 : Nat) : Int)) := by
  subst hl
  have := World.ownsRow.cellAt h j (by omega)
  rw [this]
  simp [hj, icell]
theorem int_free {w : World} {B g n cap : Nat} {l : List Nat} (h : OwnI w B (.slice (some ⟨g, 0, none⟩) n cap) l) (hl : l.length = n) (j : Nat) : w.frozen? ⟨g, j, none⟩ = false := by
  subst hl
  exact World.ownsRow.frozenAt h j
theorem int_set {w : World} {B g n cap : Nat} {l : List Nat} (h : OwnI w B (.slice (some ⟨g, 0, none⟩) n cap) l) (hl : l.length = n) (j : Nat) (b : Nat) :
    OwnI (w.setCell ⟨g, j, none⟩ (.int .i64 ((b : Nat) : Int))) B (.slice (some ⟨g, 0, none⟩) n cap) (l.set j b) := by
  subst hl
  unfold OwnI at h ⊢
  have := (World.ownsRow.stored h j (icell b)).1
  rw [List.length_set, List.map_set]
  exact this
theorem filled_set (A : List Nat) (n b : Nat) (h : A.length < n) : (A ++ List.replicate (n - A.length) 0).set A.length b = (A ++ [b]) ++ List.replicate (n - (A ++ [b]).length) 0 := by
  have e : n - A.length = (n - (A ++ [b]).length) + 1 := by simp; omega
  rw [e, List.replicate_succ, List.set_append_right _ _ (Nat.le_refl _)]
  simp
theorem filled_len (A : List Nat) (n : Nat) (h : A.length ≤ n) : (A ++ List.replicate (n - A.length) 0).length = n := by simp; omega
theorem OwnI.form {w : World} {B : Nat} {v : Value} {a : List Nat} (h : OwnI w B v a) : ∃ p cap, v = .slice p a.length cap := by
  rcases h.2 with ⟨rfl, h0⟩ | ⟨g, cap, cur, rfl, _⟩
  · exact ⟨none, 0, by rw [h0]⟩
  · exact ⟨_, cap, rfl⟩
/-- The cells of a new array of strings. -/
theorem row_pcs (W : World) (xs : List ByteArray) (N : Nat) (k : Nat) (hk : k < xs.length) : (W.alloc (.cells (Lib.cellsOf xs N) 9)).cell? ⟨W.heap.size, k, none⟩ = some (.string (xs.getD k ⟨#[]⟩)) := by
  rw [cell_of_row _ _ k _ _ _ (heap_alloc_new W _)]
  unfold Lib.cellsOf
  rw [List.getElem?_toArray, List.getElem?_append_left (by simpa using hk)]
  simp [hk]
end Go.Proofs.YtfpfgdbfigdooaaGreatDoor
namespace Go.Proofs.YtfpfgdbfigdooaaGreatDoor
open Go.RowKit

/-- The text p is the arc v. -/
def IsArc (p : List UInt8) (v : Nat) : Prop := p = Lib.decDigits v ∧ v ≤ 2147483647
theorem arc_val {p : List UInt8} {v : Nat} (h : IsArc p v) : dval p = v := by rw [h.1, dec_val]
theorem arc_dig {p : List UInt8} {v : Nat} (h : IsArc p v) {c : UInt8} (hc : c ∈ p) : isDig c := by rw [h.1] at hc; exact dec_dig hc
theorem arc_ne {p : List UInt8} {v : Nat} (h : IsArc p v) : p ≠ [] := by rw [h.1]; exact dec_ne v
theorem arc_head {p : List UInt8} {v : Nat} (h : IsArc p v) (h0 : p.head? = some 48) : p = [48] := by
  rw [h.1] at h0 ⊢
  rw [dec_head h0, dec_zero]
theorem arc_of {p : List UInt8} (h0 : p ≠ []) (h1 : ∀ c ∈ p, isDig c) (h2 : p.head? = some 48 → p = [48]) (h3 : dval p ≤ 2147483647) : IsArc p (dval p) :=
  ⟨dec_of p h0 h1 (fun e => by rw [h2 e]; rfl), h3⟩

def Arced (p : ByteArray) (e : Ending) : Prop := ∃ (v : Nat) (ok : Bool), e = .returned (.tuple #[.int .i64 ((v : Nat) : Int), .bool ok]) ∧ (ok = true ∧ IsArc p.data.toList v ∨ ok = false ∧ v = 0 ∧ ∀ m, ¬ IsArc p.data.toList m)
theorem arced_no {p : ByteArray} (h : ∀ m, ¬ IsArc p.data.toList m) : Arced p (.returned (.tuple #[.int .i64 0, .bool false])) := ⟨0, false, rfl, .inr ⟨rfl, rfl, h⟩⟩
theorem head_u8 {p : ByteArray} (h : p.size ≠ 0) : ∃ c : UInt8, p.data.toList.head? = some c ∧ u8at p 0 = c.toNat := by
  obtain ⟨c, h1, h2⟩ := u8at_list p 0 (by omega)
  exact ⟨c, by rw [List.head?_eq_getElem?]; exact h1, h2⟩

set_option maxRecDepth 100000 in
set_option maxHeartbeats 1000000 in
theorem arcOf_any (p : ByteArray) (w : World) (hs : p.size ≤ 1099511627776) :
    Calls Tryz.prog 173 #[.string p] w fun e w' => Arced p e ∧ w' = w := by
  by_cases h0 : p.size = 0
  · obtain rfl := empty_of_size h0
    clear h0
    go_enter Tryz.func173, Tryz.ntmps173
    go_wp2_with fail
    go_ret2
    exact ⟨arced_no fun m h => arc_ne h rfl, rfl⟩
  · have he := nonempty_list h0
    have hi0 := fun w => run_index_u8 (P := Tryz.prog) Tryz.underlying9 p 0 (by omega) 0 rfl w
    obtain ⟨c0, hc0, hcn⟩ := head_u8 h0
    have HC0 := Lib.hid hc0
    have HN0 := Lib.hid (show p.data.toList ≠ [] from fun e => h0 (by show p.data.toList.length = 0; rw [e]; rfl))
    rw [hcn] at hi0
    clear hc0 hcn
    by_cases hz : c0 = 48 ∧ p.data.toList ≠ [48]
    · have e1 : (((c0.toNat : Nat) : Int) == 48) = true := by rw [hz.1]; rfl
      have e2 : (p.toList == [48]) = false := beq_eq_false_iff_ne.2 (by rw [toList_eq_list]; exact hz.2)
      have HZ := Lib.hid hz
      clear hz h0
      go_enter Tryz.func173, Tryz.ntmps173
      go_wp2_with fail
      go_ret2
      exact ⟨arced_no fun m h => HZ.out.2 (arc_head h (by rw [HC0.out, HZ.out.1])), rfl⟩
    · have hh : p.data.toList.head? = some 48 → p.data.toList = [48] := fun e => Classical.byContradiction fun h => hz ⟨Option.some.inj (HC0.out.symm.trans e), h⟩
      have HH := Lib.hid hh
      have hor : ((((c0.toNat : Nat) : Int) == 48) = false) ∨ (((((c0.toNat : Nat) : Int) == 48) = true) ∧ (p.toList == [48]) = true) := by
        by_cases e : c0 = 48
        · right
          refine ⟨by rw [e]; rfl, beq_iff_eq.2 ?_⟩
          rw [toList_eq_list]; exact hh (by rw [HC0.out, e])
        · left
          refine beq_eq_false_iff_ne.2 fun e2 => e (UInt8.toNat_inj.1 ?_)
          show c0.toNat = 48
          omega
      clear hz hh h0
      rcases hor with e1 | ⟨e1, e2⟩
      all_goals
        go_enter Tryz.func173, Tryz.ntmps173
        go_wp2_with fail
        clear e1 hi0 he
        try clear e2
        go_loopw [4, 19] (fun a i wr => ∃ k : Nat, k ≤ p.size ∧ i = .int .i64 k ∧ a = .int .i64 ((dval (p.data.toList.take k) : Nat) : Int) ∧ dval (p.data.toList.take k) ≤ 2147483647 ∧ (∀ c ∈ p.data.toList.take k, isDig c) ∧ wr = w) (fun _ i _ => p.size - (intOf i).toNat)
        case atStart => exact ⟨0, by omega, rfl, rfl, by simp [dval], by simp, rfl⟩
        case round =>
          obtain ⟨k, hk, rfl, rfl, hv, hdg, rfl⟩ := hrel
          have HV := Lib.hid hv
          have HD := Lib.hid hdg
          obtain ⟨V, hV⟩ : ∃ V, V = dval (p.data.toList.take k) := ⟨_, rfl⟩
          rw [← hV] at hv
          rw [← hV]
          have HVV := Lib.hid hV
          clear hV hdg
          by_cases hlt : k < p.size
          · have hd : decide ((k : Int) < (p.size : Int)) = true := by simp; omega
            have hi := fun w => run_index_u8 (P := Tryz.prog) Tryz.underlying9 p k hlt (k : Int) rfl w
            obtain ⟨c, hc, hcn⟩ := u8at_list p k hlt
            rw [hcn] at hi
            have HC := Lib.hid hc
            have HM := Lib.hid (show c ∈ p.data.toList from List.mem_of_getElem? hc)
            clear hc hcn
            obtain ⟨n, hn⟩ : ∃ n, n = c.toNat := ⟨_, rfl⟩
            have hn256 : n < 256 := by rw [hn]; exact c.toNat_lt
            rw [← hn] at hi
            by_cases hlo : n < 48
            · have d1 : decide ((n : Int) < 48) = true := by simp; omega
              have HL := Lib.hid (show ¬ isDig c by unfold isDig; omega)
              clear hn
              go_wp2_with fail
              go_ret2
              exact ⟨arced_no fun m h => HL.out (arc_dig h HM.out), rfl⟩
            · by_cases hhi : 57 < n
              · have d1 : decide ((n : Int) < 48) = false := by simp; omega
                have d2 : decide ((57 : Int) < (n : Int)) = true := by simp; omega
                have HL := Lib.hid (show ¬ isDig c by unfold isDig; omega)
                clear hn
                go_wp2_with fail
                go_ret2
                exact ⟨arced_no fun m h => HL.out (arc_dig h HM.out), rfl⟩
              · have d1 : decide ((n : Int) < 48) = false := by simp; omega
                have d2 : decide ((57 : Int) < (n : Int)) = false := by simp; omega
                have HL := Lib.hid (show isDig c by unfold isDig; omega)
                have hnew : dval (p.data.toList.take (k + 1)) = 10 * V + (n - 48) := by rw [take_snoc HC.out, dval_snoc, ← HVV.out, hn]
                have HNW := Lib.hid hnew
                clear hn hnew
                by_cases hbig : 2147483647 < 10 * V + (n - 48)
                · have d3 : decide ((2147483647 : Int) < 10 * (V : Int) + ((n : Int) - 48)) = true := by simp; omega
                  have HB := Lib.hid hbig
                  clear hbig
                  go_wp2_with fail
                  go_ret2
                  refine ⟨arced_no fun m h => ?_, rfl⟩
                  have h1 := dval_le (p.data.toList.take (k + 1)) (p.data.toList.drop (k + 1))
                  rw [List.take_append_drop, arc_val h, HNW.out] at h1
                  have := HB.out
                  have := h.2
                  omega
                · have d3 : decide ((2147483647 : Int) < 10 * (V : Int) + ((n : Int) - 48)) = false := by simp; omega
                  have HB := Lib.hid hbig
                  clear hbig
                  go_wp2_with fail
                  go_roundw
                  case rel => exact ⟨k + 1, by omega, by go_num, by rw [HNW.out]; congr 1; omega, by rw [HNW.out]; have := HB.out; omega, by
                    rw [take_snoc HC.out]
                    intro x hx
                    rcases List.mem_append.1 hx with hx | hx
                    · exact HD.out x hx
                    · obtain rfl : x = c := by simpa using hx
                      exact HL.out, trivial⟩
                  case measure => simp [intOf]; omega
          · have ek : k = p.size := by omega
            subst ek
            have hd : decide ((p.size : Int) < (p.size : Int)) = false := by simp
            have HALL := Lib.hid (show p.data.toList.take p.size = p.data.toList from List.take_of_length_le (Nat.le_refl _))
            go_wp2_with fail
            go_ret2
            rw [HALL.out] at HVV HD HV
            refine ⟨⟨V, true, rfl, .inl ⟨rfl, ?_⟩⟩, rfl⟩
            rw [HVV.out]
            exact arc_of HN0.out HD.out HH.out HV.out
theorem arc_yes {p : ByteArray} {v : Nat} (h : IsArc p.data.toList v) (w : World) (hs : p.size ≤ 1099511627776) :
    Calls Tryz.prog 173 #[.string p] w fun e w' => e = .returned (.tuple #[.int .i64 ((v : Nat) : Int), .bool true]) ∧ w' = w := by
  refine (arcOf_any p w hs).mono ?_
  rintro e w' ⟨⟨u, ok, rfl, h1 | h1⟩, hw⟩
  · obtain ⟨rfl, h1⟩ := h1
    obtain rfl : u = v := (arc_val h1).symm.trans (arc_val h)
    exact ⟨rfl, hw⟩
  · exact absurd h (h1.2.2 v)
theorem arc_no {p : ByteArray} (h : ∀ v, ¬ IsArc p.data.toList v) (w : World) (hs : p.size ≤ 1099511627776) :
    Calls Tryz.prog 173 #[.string p] w fun e w' => e = .returned (.tuple #[.int .i64 0, .bool false]) ∧ w' = w := by
  refine (arcOf_any p w hs).mono ?_
  rintro e w' ⟨⟨u, ok, rfl, h1 | h1⟩, hw⟩
  · exact absurd h1.2 (h u)
  · obtain ⟨rfl, rfl, _⟩ := h1
    exact ⟨rfl, hw⟩
end Go.Proofs.YtfpfgdbfigdooaaGreatDoor
