/-
  The walk of the law OidOrder: for every three slices of numbers and every string it returns true, and leaves all that was there as it was.
-/
import Derived.Test.YtapokiplmcfmoaaDoorOrless
import Derived.Test.YtapokiplmcfmoaaDoorOawake
import Derived.Test.YtapokiplmcfmoaaDoorOid
import Derived.Lib.QuietBelow
namespace Go.Proofs.YtapokiplmcfmoaaDoor
open Go.RowKit

/-- Pairs of strings as cells. -/
def pairCells : List (ByteArray × ByteArray) → List Value
  | [] => []
  | p :: r => .string p.1 :: .string p.2 :: pairCells r
theorem pair_at : ∀ (l : List (ByteArray × ByteArray)) (k : Nat), k < l.length → (pairCells l)[k * 2]? = some (.string (l.getD k (⟨#[]⟩, ⟨#[]⟩)).1) ∧ (pairCells l)[k * 2 + 1]? = some (.string (l.getD k (⟨#[]⟩, ⟨#[]⟩)).2)
  | [], k, h => by simp at h
  | p :: r, 0, _ => ⟨rfl, rfl⟩
  | p :: r, k + 1, h => by
    have := pair_at r k (by simpa using h)
    exact ⟨by simpa [pairCells, Nat.add_mul] using this.1, by simpa [pairCells, Nat.add_mul] using this.2⟩
theorem row_pairs (W : World) (l : List (ByteArray × ByteArray)) (t : TypeId) (k : Nat) (hk : k < l.length) :
    (W.alloc (.cells (pairCells l).toArray t)).cell? ⟨W.heap.size, k * 2, none⟩ = some (.string (l.getD k (⟨#[]⟩, ⟨#[]⟩)).1) ∧ (W.alloc (.cells (pairCells l).toArray t)).cell? ⟨W.heap.size, k * 2 + 1, none⟩ = some (.string (l.getD k (⟨#[]⟩, ⟨#[]⟩)).2) := by
  rw [cell_of_row _ _ _ _ _ _ (heap_alloc_new W _), cell_of_row _ _ _ _ _ _ (heap_alloc_new W _), List.getElem?_toArray, List.getElem?_toArray]
  exact pair_at l k hk

/-- The text of a list of numbers that id makes. -/
structure IdText (A : ByteArray) (L : List Nat) : Prop where
  oid : Oid A.data.toList (idArcs L)
  size : A.size ≤ 1099511627
theorem id_text (L : List Nat) : IdText (strOf (txt (idArcs L))) L :=
  ⟨oid_of (idArcs_good L), by
    have h := txt_len (idArcs L) (idArcs_good L).2.2.1
    have h2 := (idArcs_good L).2.1
    rw [strOf_size]; omega⟩

set_option maxRecDepth 100000 in
set_option maxHeartbeats 2000000 in
theorem ordlaw (a0 a1 a2 : Option Addr) (L0 L1 L2 : List Nat) (c0 c1 c2 : Nat) (s : ByteArray) (w : World)
    (hl0 : WLies w a0 L0) (hl1 : WLies w a1 L1) (hl2 : WLies w a2 L2) (hm0 : ∀ v ∈ L0, v < 4294967296) (hm1 : ∀ v ∈ L1, v < 4294967296) (hm2 : ∀ v ∈ L2, v < 4294967296)
    (hn0 : L0.length ≤ 9223372036854775807) (hn1 : L1.length ≤ 9223372036854775807) (hn2 : L2.length ≤ 9223372036854775807) :
    Calls Tryd.prog 6 #[.slice a0 L0.length c0, .slice a1 L1.length c1, .slice a2 L2.length c2, .string s] w fun e w' => e = .returned (.bool true) ∧ Below w.heap.size w w' := by
  by_cases h : 200 < s.size
  · have d : decide ((200 : Int) < (s.size : Int)) = true := by simp; omega
    clear h
    go_enter Tryd.func6, Tryd.ntmps6
    go_wp2_with (go_at_call 8; (with_reducible refine (awake_any _).mono ?_); rintro e w1 ⟨rfl, hb1⟩; have HB1 := Lib.hid hb1; clear hb1)
    go_ret
    exact ⟨rfl, HB1.out⟩
  · have d : decide ((200 : Int) < (s.size : Int)) = false := by simp; omega
    have hs : s.size ≤ 200 := by omega
    have HL0 := Lib.hid hl0
    have HL1 := Lib.hid hl1
    have HL2 := Lib.hid hl2
    have HM0 := Lib.hid hm0
    have HM1 := Lib.hid hm1
    have HM2 := Lib.hid hm2
    have HN0 := Lib.hid hn0
    have HN1 := Lib.hid hn1
    have HN2 := Lib.hid hn2
    clear h hl0 hl1 hl2 hm0 hm1 hm2 hn0 hn1 hn2
    go_enter Tryd.func6, Tryd.ntmps6
    go_wp2_with (first
      | (go_at_call 16; (with_reducible refine (id_any a0 L0 c0 _ HL0.out HM0.out HN0.out).mono ?_); rintro e w1 ⟨rfl, hb1⟩; have HB1 := Lib.hid hb1; clear hb1)
      | (go_at_call 16; (with_reducible refine (id_any a1 L1 c1 _ (HL1.out.below HB1.out) HM1.out HN1.out).mono ?_); rintro e w2 ⟨rfl, hb2⟩; have HB2 := Lib.hid (below_next HB1.out hb2); clear hb2)
      | (go_at_call 16; (with_reducible refine (id_any a2 L2 c2 _ (HL2.out.below HB2.out) HM2.out HN2.out).mono ?_); rintro e w3 ⟨rfl, hb3⟩; have HB3 := Lib.hid (below_next HB2.out hb3); clear hb3))
    have HA := Lib.hid (id_text L0)
    have HB := Lib.hid (id_text L1)
    have HC := Lib.hid (id_text L2)
    have HTOT := Lib.hid (show strOf (txt (idArcs L0)) = strOf (txt (idArcs L1)) ∨ idArcs L0 ≠ idArcs L1 by
      by_cases e : idArcs L0 = idArcs L1
      · left; rw [e]
      · right; exact e)
    generalize strOf (txt (idArcs L0)) = A at HA HTOT ⊢
    generalize strOf (txt (idArcs L1)) = B at HB HTOT ⊢
    generalize strOf (txt (idArcs L2)) = C at HC ⊢
    have HSA := Lib.hid HA.out.size
    have HSB := Lib.hid HB.out.size
    have HSC := Lib.hid HC.out.size
    obtain ⟨PL, hPL⟩ : ∃ PL : List (ByteArray × ByteArray), PL = [(A, B), (B, A), (A, s), (s, B), (A, A)] := ⟨_, rfl⟩
    have HSZ := Lib.hid (show ∀ k, k < 5 → (PL.getD k (⟨#[]⟩, ⟨#[]⟩)).1.size ≤ 1099511627 ∧ (PL.getD k (⟨#[]⟩, ⟨#[]⟩)).2.size ≤ 1099511627 from fun k hk => by
      have h1 := HSA.out
      have h2 := HSB.out
      rw [hPL]
      rcases (by omega : k = 0 ∨ k = 1 ∨ k = 2 ∨ k = 3 ∨ k = 4) with rfl | rfl | rfl | rfl | rfl
      · exact ⟨h1, h2⟩
      · exact ⟨h2, h1⟩
      · exact ⟨h1, by show s.size ≤ _; omega⟩
      · exact ⟨by show s.size ≤ _; omega, h2⟩
      · exact ⟨h1, h1⟩)
    have HCL := Lib.hid (show ∀ k, k < 5 → (w3.alloc (.cells #[.string A, .string B, .string B, .string A, .string A, .string s, .string s, .string B, .string A, .string A] 34)).cell? ⟨w3.heap.size, k * 2, none⟩ = some (.string (PL.getD k (⟨#[]⟩, ⟨#[]⟩)).1) ∧ (w3.alloc (.cells #[.string A, .string B, .string B, .string A, .string A, .string s, .string s, .string B, .string A, .string A] 34)).cell? ⟨w3.heap.size, k * 2 + 1, none⟩ = some (.string (PL.getD k (⟨#[]⟩, ⟨#[]⟩)).2) from fun k hk => by
      rw [hPL]
      exact row_pairs w3 [(A, B), (B, A), (A, s), (s, B), (A, A)] 34 k hk)
    have HBA := Lib.hid (show Below w.heap.size w (w3.alloc (.cells #[.string A, .string B, .string B, .string A, .string A, .string s, .string s, .string B, .string A, .string A] 34)) from below_next HB3.out (belowNew w3 _))
    generalize hw4 : w3.alloc (.cells #[.string A, .string B, .string B, .string A, .string A, .string s, .string s, .string B, .string A, .string A] 34) = w4 at HBA HCL ⊢
    have HS4 := Lib.hid (show w3.heap.size < w4.heap.size by rw [← hw4]; simp)
    clear hw4 hPL
    go_loopw [42] (fun i wr => ∃ k : Nat, k ≤ 5 ∧ i = .int .i64 (k : Int) ∧ Below w4.heap.size w4 wr) (fun i _ => 5 - (intOf i).toNat)
    case atStart => exact ⟨0, by omega, rfl, Below.refl _ _⟩
    case round =>
      obtain ⟨k, hk, rfl, hb⟩ := hrel
      have HBR := Lib.hid hb
      by_cases hlt : k < 5
      · have hd5 : decide ((k : Int) < 5) = true := by simp; omega
        have hcx : wr.cell? ⟨w3.heap.size, k * 2, none⟩ = some (.string (PL.getD k (⟨#[]⟩, ⟨#[]⟩)).1) := by
          rw [← (HCL.out k hlt).1]; exact hb.cell HS4.out
        have hcy : wr.cell? ⟨w3.heap.size, k * 2 + 1, none⟩ = some (.string (PL.getD k (⟨#[]⟩, ⟨#[]⟩)).2) := by
          rw [← (HCL.out k hlt).2]; exact hb.cell HS4.out
        have HXZ := Lib.hid (HSZ.out k hlt).1
        have HYZ := Lib.hid (HSZ.out k hlt).2
        generalize (PL.getD k (⟨#[]⟩, ⟨#[]⟩)).1 = x at hcx HXZ
        generalize (PL.getD k (⟨#[]⟩, ⟨#[]⟩)).2 = y at hcy HYZ
        clear hb
        go_wp2_with fail
        obtain ⟨v, hv⟩ : ∃ v, lessB x.data.toList y.data.toList = v := ⟨_, rfl⟩
        have hw0 := (row_pairs wr [(x, y)] 34 0 (by simp)).1
        have hw1 := (row_pairs wr [(x, y)] 34 0 (by simp)).2
        simp only [pairCells, List.getD_cons_zero, Nat.zero_mul, Nat.zero_add] at hw0 hw1
        have HBW := Lib.hid (HBR.out.alloc HBR.out.size (.cells #[.string x, .string y] 34))
        clear hcx hcy hd5
        generalize wr.alloc (Obj.cells #[Value.string x, Value.string y] 34) = W at hw0 hw1 HBW ⊢
        have k0 := cell_regrown hw0
        have k1 := cell_regrown hw1
        have cL : ∀ d os, Calls Tryd.prog 17 #[.string x, .string y] (Sort.grow (redrawn W d) os) fun e w'' => e = .returned (.bool v) ∧ ∃ p : Regrown, w'' = Sort.grow (redrawn W p.d) p.os := fun d os => Calls.regrown_of (by
          have := less_any x y (Sort.grow (redrawn W d) os) HXZ.out HYZ.out
          rwa [hv] at this)
        have cR : ∀ d os, Calls Tryd.prog 18 #[.string x, .string y] (Sort.grow (redrawn W d) os) fun e w'' => e = .returned (.bool v) ∧ ∃ p : Regrown, w'' = Sort.grow (redrawn W p.d) p.os := fun d os => Calls.regrown_of (by
          have := rless_any x y (Sort.grow (redrawn W d) os) HXZ.out HYZ.out
          rwa [hv] at this)
        clear hw0 hw1 hv
        refine wp_region_quiet_below (by kernel_rfl) (by kernel_rfl) ?_
        repeat (quiet_step (first | exact cL _ _ | exact cR _ _))
        refine wpQuiet_nil ?_
        intro _ hw'
        obtain ⟨⟨dq, osq⟩, hw''⟩ := hw'
        subst hw''
        clear k0 k1 cL cR
        have HBZ := Lib.hid (HBW.out.trans ((below_regrown W dq osq).mono HBW.out.size))
        go_wp2_with fail
        go_roundw
        case rel => exact ⟨k + 1, by omega, by go_num, HBZ.out⟩
        case measure => simp [intOf]; omega
      · obtain rfl : k = 5 := by omega
        have hd5 : decide (((5 : Nat) : Int) < 5) = false := rfl
        have HBZ := Lib.hid (below_next HBA.out hb)
        clear hb hlt
        obtain ⟨ab, hab⟩ : ∃ v, lessB A.data.toList B.data.toList = v := ⟨_, rfl⟩
        obtain ⟨ba, hba⟩ : ∃ v, lessB B.data.toList A.data.toList = v := ⟨_, rfl⟩
        obtain ⟨bc, hbc⟩ : ∃ v, lessB B.data.toList C.data.toList = v := ⟨_, rfl⟩
        obtain ⟨ac, hac⟩ : ∃ v, lessB A.data.toList C.data.toList = v := ⟨_, rfl⟩
        have haa : lessB A.data.toList A.data.toList = false := by rw [lessB_of HA.out.oid HA.out.oid]; exact ltL_irrefl _
        have hch : ab = true → bc = true → ac = true := by
          rw [← hab, ← hbc, ← hac, lessB_of HA.out.oid HB.out.oid, lessB_of HB.out.oid HC.out.oid, lessB_of HA.out.oid HC.out.oid]
          exact ltL_trans _ _ _
        have htt : (A = B ∧ ab = false ∧ ba = false) ∨ (A ≠ B ∧ ab = true ∧ ba = false) ∨ (A ≠ B ∧ ab = false ∧ ba = true) := by
          rcases HTOT.out with e | e
          · left
            refine ⟨e, ?_, ?_⟩
            · rw [← hab, ← e]; exact haa
            · rw [← hba, ← e]; exact haa
          · right
            have h1 := ltL_total _ _ e
            rw [← lessB_of HA.out.oid HB.out.oid, ← lessB_of HB.out.oid HA.out.oid, hab, hba] at h1
            have hne : A ≠ B := fun e2 => e (oid_one (e2 ▸ HA.out.oid) HB.out.oid)
            cases ab <;> cases ba <;> simp at h1
            · exact .inr ⟨hne, rfl, rfl⟩
            · exact .inl ⟨hne, rfl, rfl⟩
        have Hab := Lib.hid hab
        have Hba := Lib.hid hba
        have Hbc := Lib.hid hbc
        have Hac := Lib.hid hac
        have Haa := Lib.hid haa
        clear hab hba hbc hac haa
        have hq : ∃ q : Bool, (A.toList == B.toList) = q ∧ (q = true ∧ ab = false ∧ ba = false ∨ q = false ∧ ab = true ∧ ba = false ∨ q = false ∧ ab = false ∧ ba = true) := by
          rcases htt with ⟨e, h1, h2⟩ | ⟨e, h1, h2⟩ | ⟨e, h1, h2⟩
          · exact ⟨true, by rw [e]; simp, .inl ⟨rfl, h1, h2⟩⟩
          · exact ⟨false, beq_eq_false_iff_ne.2 fun h => e (list_inj (by rw [← toList_eq_list, ← toList_eq_list, h])), .inr (.inl ⟨rfl, h1, h2⟩)⟩
          · exact ⟨false, beq_eq_false_iff_ne.2 fun h => e (list_inj (by rw [← toList_eq_list, ← toList_eq_list, h])), .inr (.inr ⟨rfl, h1, h2⟩)⟩
        obtain ⟨q, hq, hcase⟩ := hq
        clear htt
        rcases hcase with ⟨rfl, rfl, rfl⟩ | ⟨rfl, rfl, rfl⟩ | ⟨rfl, rfl, rfl⟩
        all_goals cases bc
        all_goals cases ac
        all_goals first
        | (exfalso; exact absurd (hch rfl rfl) (by decide))
        | (clear hch
           go_wp2_with (first
             | (go_at_call 17; (with_reducible refine (less_any A B _ HSA.out HSB.out).mono ?_); rw [Hab.out]; rintro e w5 ⟨rfl, hb5⟩; have HBZ := Lib.hid (below_next HBZ.out hb5); clear hb5)
             | (go_at_call 17; (with_reducible refine (less_any B C _ HSB.out HSC.out).mono ?_); rw [Hbc.out]; rintro e w5 ⟨rfl, hb5⟩; have HBZ := Lib.hid (below_next HBZ.out hb5); clear hb5)
             | (go_at_call 17; (with_reducible refine (less_any A C _ HSA.out HSC.out).mono ?_); rw [Hac.out]; rintro e w5 ⟨rfl, hb5⟩; have HBZ := Lib.hid (below_next HBZ.out hb5); clear hb5)
             | (go_at_call 17; (with_reducible refine (less_any A A _ HSA.out HSA.out).mono ?_); rw [Haa.out]; rintro e w5 ⟨rfl, hb5⟩; have HBZ := Lib.hid (below_next HBZ.out hb5); clear hb5)
             | (go_at_call 17; (with_reducible refine (less_any B A _ HSB.out HSA.out).mono ?_); rw [Hba.out]; rintro e w5 ⟨rfl, hb5⟩; have HBZ := Lib.hid (below_next HBZ.out hb5); clear hb5)
             | (go_at_call 8; (with_reducible refine (awake_any _).mono ?_); rintro e w6 ⟨rfl, hb6⟩; have HBZ := Lib.hid (below_next HBZ.out hb6); clear hb6))
           go_ret
           exact ⟨rfl, HBZ.out⟩)
end Go.Proofs.YtapokiplmcfmoaaDoor
