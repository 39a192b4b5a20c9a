/-
  Arrays of sixteen bytes: they are compared as their bytes are. Nothing is claimed of the program here.
  The walk of the law OtsApart: it returns true.
  A byte of an array is set; a row of a block that is new is stored. Nothing is claimed of the program here.
-/
import Derived.Test.YtbmphhiafepnoaaCaj
import Derived.ChangeKeysEq
namespace Go.Proofs.Ytbmphhiafepnoaa
open Go.RowKit

def litB (a : UInt8) : Lit := .int .u8 ((a.toNat : Nat) : Int)
theorem litB_inj {a b : UInt8} (h : litB a = litB b) : a = b := by
  have h2 : ((a.toNat : Nat) : Int) = ((b.toNat : Nat) : Int) := by injection h
  exact UInt8.toNat_inj.1 (by omega)
theorem keyLit_b (a : UInt8) : Try.prog.keyLits 1 5 [bcell a] = some [litB a] := by
  have hw : ∀ n : Nat, n < 256 → (Lit.int .u8 (n : Int)).wf = true := by decide +kernel
  unfold Program.keyLits
  simp [Try.underlying5, bcell, litB, hw a.toNat a.toNat_lt]
theorem mapM_cells (l : List UInt8) : ∀ is : List Nat, (∀ i ∈ is, i < l.length) → is.mapM (fun i => Try.prog.keyLits 1 5 (((l.map bcell).toArray.toList.drop (i * 1)).take 1)) = some (is.map fun i => [litB (l.getD i 0)])
  | [], _ => rfl
  | i :: r, h => by
    have hi := h i (by simp)
    have e : (((l.map bcell).toArray.toList.drop (i * 1)).take 1) = [bcell (l.getD i 0)] := by
      rw [Nat.mul_one]
      rw [List.drop_eq_getElem_cons (by simpa using hi)]
      simp [hi]
    rw [List.mapM_cons, e, keyLit_b, mapM_cells l r (fun j hj => h j (List.mem_cons_of_mem _ hj))]
    rfl
theorem flat_one {α β : Type} (f : α → β) : ∀ l : List α, (l.map fun i => [f i]).flatten = l.map f
  | [] => rfl
  | i :: r => by simp [flat_one f r]
theorem lists_same {a b : List UInt8} (hl : a.length = b.length) : (((List.range a.length).map fun i => [litB (a.getD i 0)]).flatten = ((List.range a.length).map fun i => [litB (b.getD i 0)]).flatten) ↔ a = b := by
  rw [flat_one, flat_one]
  constructor
  · intro h
    apply List.ext_getElem hl
    intro i h1 h2
    have := List.map_inj_left.1 h i (List.mem_range.2 h1)
    have := litB_inj this
    simpa [h1, h2] using this
  · rintro rfl; rfl
theorem arr_eq (a b : List UInt8) (ha : a.length = 16) (hb : b.length = 16) (w : World) :
    (Op.equalIn 10000 22 (.agg (a.map bcell).toArray) (.agg (b.map bcell).toArray)).run Try.prog w = .ok (decide (a = b)) w := by
  have hc : Try.prog.cellsOf 5 = 1 := by kernel_rfl
  obtain ⟨i0, hi⟩ : ∃ i0, Try.prog.info? 5 = some i0 := ⟨_, rfl⟩
  rw [run_equalIn_array w 9999 _ _ Try.underlying22 hi]
  have m1 := mapM_cells a (List.range 16) (fun i h => by rw [ha]; exact List.mem_range.1 h)
  have m2 := mapM_cells b (List.range 16) (fun i h => by rw [hb]; exact List.mem_range.1 h)
  obtain ⟨r, hr, hiff⟩ := run_eqItems_plain (P := Try.prog) w 9998 (e := 5) (by kernel_rfl) (a.map bcell).toArray (b.map bcell).toArray (D := 1) (D' := 1) (List.range 16) _ _ (by rw [hc]; exact m1) (by rw [hc]; exact m2)
  rw [hr]
  congr 1
  have h2 := lists_same (a := a) (b := b) (by omega)
  rw [ha] at h2
  rw [h2] at hiff
  cases r
  · exact (decide_eq_false (fun h => by cases hiff.2 h)).symm
  · exact (decide_eq_true (hiff.1 rfl)).symm
end Go.Proofs.Ytbmphhiafepnoaa
namespace Go.Proofs.Ytbmphhiafepnoaa
open Go.RowKit

theorem keep_cells {w : World} {g : Nat} {x : Obj} (h : w.heap[g]? = some x) (o : Obj) : (w.alloc o).heap[g]? = some x :=
  ((belowNew w o).block g (Array.getElem?_eq_some_iff.1 h).1).trans h
theorem CB.of {w : World} {g : Nat} {l : List UInt8} {t : TypeId} (h : w.heap[g]? = some (.cells (l.map bcell).toArray t (0, 0))) : CB w g l :=
  ⟨(Array.getElem?_eq_some_iff.1 h).1, fun j hj => by
    rw [cell_of_row _ _ _ _ _ _ h]
    simp [hj]⟩
/-- Whether one of the first k numbers is less than the other row's. -/
def lessQ (D F : List Nat) : Nat → Bool
  | 0 => false
  | k + 1 => lessQ D F k || decide ((D.getD k 0 : Int) < (F.getD k 0 : Int))
theorem lessQ_true {D F : List Nat} : ∀ {n i : Nat}, i < n → D.getD i 0 < F.getD i 0 → lessQ D F n = true
  | n + 1, i, h, hl => by
    show (lessQ D F n || decide ((D.getD n 0 : Int) < (F.getD n 0 : Int))) = true
    by_cases hi : i = n
    · subst hi
      have : decide ((D.getD i 0 : Int) < (F.getD i 0 : Int)) = true := decide_eq_true (by omega)
      rw [this, Bool.or_true]
    · rw [lessQ_true (n := n) (i := i) (by omega) hl, Bool.true_or]
set_option maxRecDepth 100000 in
set_option maxHeartbeats 2000000 in
theorem apart_far (LA LB : List UInt8) (hA : LA.length = 16) (hB : LB.length = 16) (at' c : Nat) (hD : DigP) (w : World) :
    Calls Try.prog 4 #[.agg (LA.map bcell).toArray, .agg (LB.map bcell).toArray, .int .u8 (at' : Int), .int .u8 (c : Int), .bool false] w fun e w' => e = .returned (.bool true) ∧ Below w.heap.size w w' := by
  have HAW := Lib.hid (awakeq_any hD)
  have HD := Lib.hid hD
  have HLA := Lib.hid hA
  have HLB := Lib.hid hB
  have hcmp := arr_eq LA LB hA hB
  obtain ⟨A, hAe⟩ : ∃ A, A = (LA.map bcell).toArray := ⟨_, rfl⟩
  obtain ⟨B, hBe⟩ : ∃ B, B = (LB.map bcell).toArray := ⟨_, rfl⟩
  rw [← hAe, ← hBe] at hcmp ⊢
  have HSA : Hid ((Try.prog.info? 22).map (·.size) = some A.size) := Lib.hid (by rw [show A.size = 16 by rw [hAe]; simp [hA]]; kernel_rfl)
  have HSB : Hid ((Try.prog.info? 22).map (·.size) = some B.size) := Lib.hid (by rw [show B.size = 16 by rw [hBe]; simp [hB]]; kernel_rfl)
  have HAE := Lib.hid hAe
  have HBE := Lib.hid hBe
  have HGA : Hid (((w.alloc (.cells A 22)).alloc (.cells B 22)).heap[w.heap.size]? = some (.cells A 22 (0, 0))) := Lib.hid (keep_cells (heap_alloc_new w _) _)
  have HGB : Hid (((w.alloc (.cells A 22)).alloc (.cells B 22)).heap[w.heap.size + 1]? = some (.cells B 22 (0, 0))) := Lib.hid (by
    have := heap_alloc_new (w.alloc (.cells A 22)) (.cells B 22)
    simpa using this)
  have HW : Hid (Below w.heap.size w ((w.alloc (.cells A 22)).alloc (.cells B 22))) := Lib.hid ((belowNew w _).next (belowNew _ _))
  obtain ⟨U, hU⟩ : ∃ U, U = strOf LA := ⟨_, rfl⟩
  obtain ⟨V, hV⟩ : ∃ V, V = strOf LB := ⟨_, rfl⟩
  obtain ⟨D, hDe⟩ : ∃ D, D = digs LA := ⟨_, rfl⟩
  obtain ⟨F, hFe⟩ : ∃ F, F = digs LB := ⟨_, rfl⟩
  have HDL := Lib.hid (show D.length = 35 by rw [hDe, digs_len, hA])
  have HFL := Lib.hid (show F.length = 35 by rw [hFe, digs_len, hB])
  have HDN := Lib.hid (show D ≠ [] by intro h; have := HDL.out; rw [h] at this; cases this)
  have HFN := Lib.hid (show F ≠ [] by intro h; have := HFL.out; rw [h] at this; cases this)
  have HP1 : Hid (∀ W : World, Calls Try.prog 7 #[.string U] W fun e w' => (∃ v, e = .returned (.tuple #[v, .int .i64 0]) ∧ OwnI w' W.heap.size v D) ∧ Below W.heap.size W w') := Lib.hid fun W => by rw [hU, hDe]; exact HD.out _ W hA
  have HP2 : Hid (∀ W : World, Calls Try.prog 7 #[.string V] W fun e w' => (∃ v, e = .returned (.tuple #[v, .int .i64 0]) ∧ OwnI w' W.heap.size v F) ∧ Below W.heap.size W w') := Lib.hid fun W => by rw [hV, hFe]; exact HD.out _ W hB
  have HCA : Hid (CB ((w.alloc (.cells A 22)).alloc (.cells B 22)) w.heap.size LA) := Lib.hid (CB.of (t := 22) (by rw [← hAe]; exact HGA.out))
  have HCB : Hid (CB ((w.alloc (.cells A 22)).alloc (.cells B 22)) (w.heap.size + 1) LB) := Lib.hid (CB.of (t := 22) (by rw [← hBe]; exact HGB.out))
  have hcvA := HCA.out.text Try.underlying24 16 16 HLA.out.symm
  rw [← hU] at hcvA
  have HU := Lib.hid hU
  have HV := Lib.hid hV
  have HDE := Lib.hid hDe
  have HFE := Lib.hid hFe
  clear hAe hBe hA hB hD hU hV hDe hFe
  by_cases hab : LA = LB
  · have hdec : decide (LA = LB) = true := decide_eq_true hab
    rw [hdec] at hcmp
    clear hab hdec
    go_enter Try.func4, Try.ntmps4
    go_wp2_with (first | (refine wpList_load_row rfl 22 (.tmp 5) rfl w.heap.size rfl 22 A (0,0) _ HGA.out Try.underlying22 rfl HSA.out ?_) | (refine wpList_load_row rfl 22 (.tmp 6) rfl (w.heap.size + 1) rfl 22 B (0,0) _ HGB.out Try.underlying22 rfl HSB.out ?_) | (go_at_call 5; (with_reducible refine (HAW.out _).mono ?_); rintro e w9 ⟨rfl, hb9⟩; have HB9 := Lib.hid (HW.out.next hb9); clear hb9))
    go_ret
    exact ⟨rfl, HB9.out⟩
  · have hdec : decide (LA = LB) = false := decide_eq_false hab
    rw [hdec] at hcmp
    have HNE := Lib.hid hab
    clear hab hdec
    go_enter Try.func4, Try.ntmps4
    go_wp2_with (first | (refine wpList_load_row rfl 22 (.tmp 5) rfl w.heap.size rfl 22 A (0,0) _ HGA.out Try.underlying22 rfl HSA.out ?_) | (refine wpList_load_row rfl 22 (.tmp 6) rfl (w.heap.size + 1) rfl 22 B (0,0) _ HGB.out Try.underlying22 rfl HSB.out ?_) | (go_at_call 7; (with_reducible refine (HP1.out _).mono ?_); rintro e w3 ⟨⟨v, rfl, ho3⟩, hb3⟩; obtain ⟨g3, c3, rfl, _, hI3, _⟩ := ho3.open HDN.out; rw [HDL.out]; have HI3 := Lib.hid hI3; have HB3 := Lib.hid (HW.out.next hb3); have hcvB := (HCB.out.below hb3).text Try.underlying24 16 16 HLB.out.symm; rw [← HV.out] at hcvB; clear hb3 ho3 hI3) | (go_at_call 7; (with_reducible refine (HP2.out _).mono ?_); rintro e w4 ⟨⟨v, rfl, ho4⟩, hb4⟩; obtain ⟨g4, c4, rfl, _, hI4, _⟩ := ho4.open HFN.out; rw [HFL.out]; have HI4 := Lib.hid hI4; have HI34 := Lib.hid (HI3.out.below hb4); have HB4 := Lib.hid (HB3.out.next hb4); clear hb4 ho4 hI4))
    go_loopw [15, 16, 58] (fun l m i wr => ∃ k : Nat, k ≤ 35 ∧ i = .int .i64 (k : Int) ∧ l = .bool (lessQ D F k) ∧ m = .bool (lessQ F D k) ∧ ILie wr g3 D ∧ ILie wr g4 F ∧ Below w.heap.size w wr) (fun _ _ i _ => 35 - (intOf i).toNat)
    case atStart => exact ⟨0, by decide, rfl, rfl, rfl, HI34.out, HI4.out, HB4.out⟩
    case round =>
      obtain ⟨k, hk, rfl, rfl, rfl, hi3, hi4, hb⟩ := hrel
      have HK3 := Lib.hid hi3
      have HK4 := Lib.hid hi4
      have HB := Lib.hid hb
      by_cases hlt : k < 35
      · have hd : decide ((k : Int) < 35) = true := by simp; omega
        have hki : (k : Int) < 35 := by omega
        have hc3 := hi3.cell k (by rw [HDL.out]; exact hlt)
        have hc4 := hi4.cell k (by rw [HFL.out]; exact hlt)
        have H1 : Hid (lessQ D F (k + 1) = (lessQ D F k || decide ((D.getD k 0 : Int) < (F.getD k 0 : Int)))) := Lib.hid rfl
        have H2 : Hid (lessQ F D (k + 1) = (lessQ F D k || decide ((F.getD k 0 : Int) < (D.getD k 0 : Int)))) := Lib.hid rfl
        generalize lessQ D F k = l at H1 ⊢
        generalize lessQ F D k = m at H2 ⊢
        generalize D.getD k 0 = x at hc3 H1 H2
        generalize F.getD k 0 = y at hc4 H1 H2
        obtain ⟨p, hp⟩ : ∃ p, decide ((x : Int) < (y : Int)) = p := ⟨_, rfl⟩
        obtain ⟨q, hq⟩ : ∃ q, decide ((y : Int) < (x : Int)) = q := ⟨_, rfl⟩
        rw [hp] at H1
        rw [hq] at H2
        have hc3d : wr.drew.cell? ⟨g3, k, none⟩ = some (.int .i64 ((x : Nat) : Int)) := hc3
        have hc4d : wr.drew.cell? ⟨g4, k, none⟩ = some (.int .i64 ((y : Nat) : Int)) := hc4
        clear hi3 hi4 hb
        cases l <;> cases m <;>
        ( go_wp2_with fail
          go_region
          go_wp2_with fail
          go_roundw
          case rel => exact ⟨k + 1, by omega, by go_num, by rw [H1.out]; simp [← hp], by rw [H2.out]; simp [← hq], HK3.out, HK4.out, HB.out.drew⟩
          case measure => simp [intOf]; omega )
      · have hk35 : k = 35 := by omega
        subst hk35
        have hd : decide ((35 : Int) < 35) = false := by decide
        have e1 : lessQ D F 35 = true := by
          obtain ⟨i, hi, hl⟩ := digs_apart (a := LA) (b := LB) (by rw [HLA.out, HLB.out]) HNE.out
          rw [← HDE.out] at hi hl
          rw [← HFE.out] at hl
          exact lessQ_true (by have := HDL.out; omega) hl
        have e2 : lessQ F D 35 = true := by
          obtain ⟨i, hi, hl⟩ := digs_apart (a := LB) (b := LA) (by rw [HLA.out, HLB.out]) (fun h => HNE.out h.symm)
          rw [← HFE.out] at hi hl
          rw [← HDE.out] at hl
          exact lessQ_true (by have := HFL.out; omega) hl
        rw [e1, e2]
        clear hi3 hi4 hb
        go_wp2_with (first | (go_at_call 5; (with_reducible refine (HAW.out _).mono ?_); rintro e w9 ⟨rfl, hb9⟩; have HB9 := Lib.hid (HB.out.next hb9); clear hb9))
        go_ret
        exact ⟨rfl, HB9.out⟩
end Go.Proofs.Ytbmphhiafepnoaa
namespace Go.Proofs.Ytbmphhiafepnoaa
open Go.RowKit

theorem set_arr (l : List UInt8) (i c : Nat) (hc : c < 256) : (l.map bcell).toArray.setIfInBounds i (.int .u8 (c : Int)) = ((l.set i (UInt8.ofNat c)).map bcell).toArray := by
  have e : bcell (UInt8.ofNat c) = .int .u8 (c : Int) := by
    unfold bcell
    congr 1
    simp
    omega
  rw [List.map_set, e]
  simp
theorem below_row {w W : World} (h : Below w.heap.size w W) (g : Nat) (hg : w.heap.size ≤ g) (cs : Array Value) : Below w.heap.size w (W.setRow g cs) :=
  ⟨h.os, h.tape, h.output, by rw [setRow_size]; exact h.size, fun k hk => by rw [setRow_other _ _ _ _ (by omega)]; exact h.block k hk⟩
end Go.Proofs.Ytbmphhiafepnoaa
