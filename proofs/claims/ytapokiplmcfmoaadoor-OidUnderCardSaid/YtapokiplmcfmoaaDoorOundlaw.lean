/-
  The walk of the law OidUnder: for every slice of numbers, both bytes and every string it returns true, and leaves all that was there as it was.
-/
import Derived.Test.YtapokiplmcfmoaaDoorOunder
import Derived.Test.YtapokiplmcfmoaaDoorOordlaw
import Derived.Laws.Cover1
namespace Go.Proofs.YtapokiplmcfmoaaDoor
open Go.RowKit

theorem id_prefix (L : List Nat) (m : Nat) (h : L ≠ [] → 1 ≤ m) : under (idArcs L) (idArcs (L.take m)) = true := by
  rw [under_iff]
  cases L with
  | nil => exact ⟨[], by simp⟩
  | cons x r =>
    have hm := h (by simp)
    obtain ⟨m, rfl⟩ : ∃ k, m = k + 1 := ⟨m - 1, by omega⟩
    refine ⟨(((r.take 7).map idOne).drop (min m (min 7 r.length))), ?_⟩
    have e : (r.take m).take 7 = (r.take 7).take (min m (min 7 r.length)) := by
      rw [List.take_take, List.take_take]
      by_cases h7 : r.length ≤ m
      · rw [List.take_eq_take_iff]; omega
      · rw [List.take_eq_take_iff]; omega
    simp only [idArcs, idHead, idRest, List.take_succ_cons, List.drop_succ_cons, List.drop_zero]
    rw [e, List.append_assoc]
    congr 1
    have := List.take_append_drop (min m (min 7 r.length)) ((r.take 7).map idOne)
    rw [← List.map_take] at this
    exact this.symm

set_option maxRecDepth 100000 in
set_option maxHeartbeats 4000000 in
theorem undlaw (a0 : Option Addr) (L : List Nat) (c0 k j : Nat) (s : ByteArray) (w : World) (hl : WLies w a0 L) (hm : ∀ v ∈ L, v < 4294967296) (hn : L.length ≤ 9223372036854775807) (hcap : L.length ≤ c0) (hk : k < 256) (hj : j < 256) :
    Calls Tryd.prog 7 #[.slice a0 L.length c0, .int .u8 (k : Int), .int .u8 (j : Int), .string s] w fun e w' => e = .returned (.bool true) ∧ Below w.heap.size w w' := by
  by_cases h : 200 < s.size
  · have d : decide ((200 : Int) < (s.size : Int)) = true := by simp; omega
    clear h
    go_enter Tryd.func7, Tryd.ntmps7
    go_wp2_with (go_at_call 8; (with_reducible refine (awake_any _).mono ?_); rintro e w1 ⟨rfl, hb1⟩; have HB1 := Lib.hid hb1; clear hb1)
    go_ret
    exact ⟨rfl, HB1.out⟩
  · have d : decide ((200 : Int) < (s.size : Int)) = false := by simp; omega
    by_cases h8 : 8 < L.length
    · have d8 : decide ((8 : Int) < (L.length : Int)) = true := by simp; omega
      clear h h8
      go_enter Tryd.func7, Tryd.ntmps7
      go_wp2_with (go_at_call 8; (with_reducible refine (awake_any _).mono ?_); rintro e w1 ⟨rfl, hb1⟩; have HB1 := Lib.hid hb1; clear hb1)
      go_ret
      exact ⟨rfl, HB1.out⟩
    · have d8 : decide ((8 : Int) < (L.length : Int)) = false := by simp; omega
      have hs : s.size ≤ 200 := by omega
      obtain ⟨m1, hm1⟩ : ∃ m1, m1 = min L.length (1 + k % 8) := ⟨_, rfl⟩
      obtain ⟨m2, hm2⟩ : ∃ m2, m2 = min m1 (1 + j % 8) := ⟨_, rfl⟩
      have e1 : min (L.length : Int) (1 + (k : Int) % 8) = (m1 : Int) := by omega
      have e2 : ∀ w, (Builtin.min_ #[3, 3, 3] 3 #[.int .i64 (L.length : Int), .int .i64 (1 + (k : Int) % 8), .int .i64 (1 + (j : Int) % 8)]).run Tryd.prog w = .ok (.int .i64 (m2 : Int)) w := fun w => by
        rw [run_min_int3]
        congr 2
        omega
      have b1 : m1 ≤ L.length := by omega
      have b2 : m2 ≤ m1 := by omega
      have b3 : m1 ≤ c0 := by omega
      have b4 : m2 ≤ c0 := by omega
      have HU1 := Lib.hid (id_prefix L m1 (fun h => by have := List.length_pos_iff.2 h; omega))
      have ht : (L.take m1).take m2 = L.take m2 := by rw [List.take_take, Nat.min_eq_left b2]
      have HU2 := Lib.hid (show under (idArcs (L.take m1)) (idArcs (L.take m2)) = true by
        have := id_prefix (L.take m1) m2 (fun h => by have := List.length_pos_iff.2 h; rw [List.length_take] at this; omega)
        rwa [ht] at this)
      have HM := Lib.hid hm
      have HL := Lib.hid hl
      have HN := Lib.hid hn
      have l1 : (L.take m1).length = m1 := by rw [List.length_take]; omega
      have l2 : (L.take m2).length = m2 := by rw [List.length_take]; omega
      have HI1 := Lib.hid (fun (w1 : World) (h : WLies w1 a0 L) => id_any a0 (L.take m1) c0 w1 (h.take m1) (fun v hv => hm v (List.mem_of_mem_take hv)) (by omega))
      have HI2 := Lib.hid (fun (w1 : World) (h : WLies w1 a0 L) => id_any a0 (L.take m2) c0 w1 (h.take m2) (fun v hv => hm v (List.mem_of_mem_take hv)) (by omega))
      rw [l1] at HI1
      rw [l2] at HI2
      have hc0 : ∀ w, (Op.stringOp .add (strOf (txt (idArcs L))) ⟨#[48]⟩).run Tryd.prog w = .ok (.string (strOf (txt (idArcs L)) ++ ⟨#[48]⟩)) w := fun w => run_string_add_sum w _ _ (by have := (id_text L).size; show _ + 1 ≤ _; omega)
      clear h h8 hm1 hm2 ht l1 l2 hm hl hn
      go_enter Tryd.func7, Tryd.ntmps7
      go_wp2_with (first
        | (go_at_call 16; (with_reducible refine (id_any a0 L c0 _ HL.out HM.out HN.out).mono ?_); rintro e w1 ⟨rfl, hb1⟩; have HB1 := Lib.hid hb1; clear hb1)
        | (go_at_call 16; (with_reducible refine (HI1.out _ (HL.out.below HB1.out)).mono ?_); rintro e w2 ⟨rfl, hb2⟩; have HB2 := Lib.hid (below_next HB1.out hb2); clear hb2)
        | (go_at_call 16; (with_reducible refine (HI2.out _ (HL.out.below HB2.out)).mono ?_); rintro e w3 ⟨rfl, hb3⟩; have HB3 := Lib.hid (below_next HB2.out hb3); clear hb3))
      obtain ⟨A0, hA0⟩ : ∃ A0, A0 = strOf (txt (idArcs L)) ++ ⟨#[48]⟩ := ⟨_, rfl⟩
      have HZ0 := Lib.hid (show A0.size ≤ 1099511627 by
        have h1 := txt_len (idArcs L) (idArcs_good L).2.2.1
        have h2 := (idArcs_good L).2.1
        rw [hA0, ByteArray.size_append, strOf_size]
        show _ + 1 ≤ _
        omega)
      rw [← hA0]
      clear hA0 hc0
      have HA := Lib.hid (id_text L)
      have HB := Lib.hid (id_text (L.take m1))
      have HC := Lib.hid (id_text (L.take m2))
      generalize strOf (txt (idArcs L)) = A at HA ⊢
      generalize strOf (txt (idArcs (L.take m1))) = B at HB ⊢
      generalize strOf (txt (idArcs (L.take m2))) = C at HC ⊢
      have HSA := Lib.hid HA.out.size
      have HSB := Lib.hid HB.out.size
      have HSC := Lib.hid HC.out.size
      obtain ⟨PL, hPL⟩ : ∃ PL : List (ByteArray × ByteArray), PL = [(A, B), (B, A), (B, C), (C, B), (A, s), (s, A), (A, A0)] := ⟨_, rfl⟩
      have HSZ := Lib.hid (show ∀ k, k < 7 → (PL.getD k (⟨#[]⟩, ⟨#[]⟩)).1.size ≤ 1099511627 ∧ (PL.getD k (⟨#[]⟩, ⟨#[]⟩)).2.size ≤ 1099511627 from fun k hk => by
        have h1 := HSA.out
        have h2 := HSB.out
        have h3 := HSC.out
        have h4 := HZ0.out
        rw [hPL]
        rcases (by omega : k = 0 ∨ k = 1 ∨ k = 2 ∨ k = 3 ∨ k = 4 ∨ k = 5 ∨ k = 6) with rfl | rfl | rfl | rfl | rfl | rfl | rfl
        · exact ⟨h1, h2⟩
        · exact ⟨h2, h1⟩
        · exact ⟨h2, h3⟩
        · exact ⟨h3, h2⟩
        · exact ⟨h1, by show s.size ≤ _; omega⟩
        · exact ⟨by show s.size ≤ _; omega, h1⟩
        · exact ⟨h1, h4⟩)
      have HCL := Lib.hid (show ∀ k, k < 7 → (w3.alloc (.cells #[.string A, .string B, .string B, .string A, .string B, .string C, .string C, .string B, .string A, .string s, .string s, .string A, .string A, .string A0] 34)).cell? ⟨w3.heap.size, k * 2, none⟩ = some (.string (PL.getD k (⟨#[]⟩, ⟨#[]⟩)).1) ∧ (w3.alloc (.cells #[.string A, .string B, .string B, .string A, .string B, .string C, .string C, .string B, .string A, .string s, .string s, .string A, .string A, .string A0] 34)).cell? ⟨w3.heap.size, k * 2 + 1, none⟩ = some (.string (PL.getD k (⟨#[]⟩, ⟨#[]⟩)).2) from fun k hk => by
        rw [hPL]
        exact row_pairs w3 [(A, B), (B, A), (B, C), (C, B), (A, s), (s, A), (A, A0)] 34 k hk)
      have HBA := Lib.hid (show Below w.heap.size w (w3.alloc (.cells #[.string A, .string B, .string B, .string A, .string B, .string C, .string C, .string B, .string A, .string s, .string s, .string A, .string A, .string A0] 34)) from below_next HB3.out (belowNew w3 _))
      generalize hw4 : w3.alloc (.cells #[.string A, .string B, .string B, .string A, .string B, .string C, .string C, .string B, .string A, .string s, .string s, .string A, .string A, .string A0] 34) = w4 at HBA HCL ⊢
      have HS4 := Lib.hid (show w3.heap.size < w4.heap.size by rw [← hw4]; simp)
      clear hw4 hPL e1 e2 b1 b2 b3 b4
      go_loopw [73] (fun i wr => ∃ k : Nat, k ≤ 7 ∧ i = .int .i64 (k : Int) ∧ Below w4.heap.size w4 wr) (fun i _ => 7 - (intOf i).toNat)
      case atStart => exact ⟨0, by omega, rfl, Below.refl _ _⟩
      case round =>
        obtain ⟨q, hq, rfl, hb⟩ := hrel
        have HBR := Lib.hid hb
        by_cases hlt : q < 7
        · have hd7 : decide ((q : Int) < 7) = true := by simp; omega
          have hcx : wr.cell? ⟨w3.heap.size, q * 2, none⟩ = some (.string (PL.getD q (⟨#[]⟩, ⟨#[]⟩)).1) := by
            rw [← (HCL.out q hlt).1]; exact hb.cell HS4.out
          have hcy : wr.cell? ⟨w3.heap.size, q * 2 + 1, none⟩ = some (.string (PL.getD q (⟨#[]⟩, ⟨#[]⟩)).2) := by
            rw [← (HCL.out q hlt).2]; exact hb.cell HS4.out
          have HXZ := Lib.hid (HSZ.out q hlt).1
          have HYZ := Lib.hid (HSZ.out q hlt).2
          generalize (PL.getD q (⟨#[]⟩, ⟨#[]⟩)).1 = x at hcx HXZ
          generalize (PL.getD q (⟨#[]⟩, ⟨#[]⟩)).2 = y at hcy HYZ
          clear hb
          go_wp2_with fail
          obtain ⟨v, hv⟩ : ∃ v, underB x.data.toList y.data.toList = v := ⟨_, rfl⟩
          have hw0 := (row_pairs wr [(x, y)] 34 0 (by simp)).1
          have hw1 := (row_pairs wr [(x, y)] 34 0 (by simp)).2
          simp only [pairCells, List.getD_cons_zero, Nat.zero_mul, Nat.zero_add] at hw0 hw1
          have HBW := Lib.hid (HBR.out.alloc HBR.out.size (.cells #[.string x, .string y] 34))
          clear hcx hcy hd7
          generalize wr.alloc (Obj.cells #[Value.string x, Value.string y] 34) = W at hw0 hw1 HBW ⊢
          have k0 := cell_regrown hw0
          have k1 := cell_regrown hw1
          have cL : ∀ d os, Calls Tryd.prog 19 #[.string x, .string y] (Sort.grow (redrawn W d) os) fun e w'' => e = .returned (.bool v) ∧ ∃ p : Regrown, w'' = Sort.grow (redrawn W p.d) p.os := fun d os => Calls.regrown_of (by
            have := under_any x y (Sort.grow (redrawn W d) os) HXZ.out HYZ.out
            rwa [hv] at this)
          have cR : ∀ d os, Calls Tryd.prog 20 #[.string x, .string y] (Sort.grow (redrawn W d) os) fun e w'' => e = .returned (.bool v) ∧ ∃ p : Regrown, w'' = Sort.grow (redrawn W p.d) p.os := fun d os => Calls.regrown_of (by
            have := runder_any x y (Sort.grow (redrawn W d) os) HXZ.out HYZ.out
            rwa [hv] at this)
          clear hw0 hw1 hv
          refine wp_region_quiet_below (by kernel_rfl) (by kernel_rfl) ?_
          repeat (quiet_step (first | exact cL _ _ | exact cR _ _))
          refine wpQuiet_nil ?_
          intro _ hw'
          obtain ⟨⟨dq, osq⟩, hw''⟩ := hw'
          subst hw''
          clear k0 k1 cL cR
          have HBZ := Lib.hid (HBW.out.trans ((below_regrown W dq osq).mono HBW.out.size))
          go_wp2_with fail
          go_roundw
          case rel => exact ⟨q + 1, by omega, by go_num, HBZ.out⟩
          case measure => simp [intOf]; omega
        · obtain rfl : q = 7 := by omega
          have hd7 : decide (((7 : Nat) : Int) < 7) = false := rfl
          have HBZ := Lib.hid (below_next HBA.out hb)
          clear hb hlt
          have Haa := Lib.hid (show underB A.data.toList A.data.toList = true by rw [underB_of HA.out.oid HA.out.oid]; exact under_refl _)
          have Hab := Lib.hid (show underB A.data.toList B.data.toList = true by rw [underB_of HA.out.oid HB.out.oid]; exact HU1.out)
          have Hbc := Lib.hid (show underB B.data.toList C.data.toList = true by rw [underB_of HB.out.oid HC.out.oid]; exact HU2.out)
          have Hac := Lib.hid (show underB A.data.toList C.data.toList = true by rw [underB_of HA.out.oid HC.out.oid]; exact under_trans HU1.out HU2.out)
          go_wp2_with (first
            | (go_at_call 19; (with_reducible refine (under_any A A _ HSA.out HSA.out).mono ?_); rw [Haa.out]; rintro e w5 ⟨rfl, hb5⟩; have HBZ := Lib.hid (below_next HBZ.out hb5); clear hb5)
            | (go_at_call 19; (with_reducible refine (under_any A B _ HSA.out HSB.out).mono ?_); rw [Hab.out]; rintro e w5 ⟨rfl, hb5⟩; have HBZ := Lib.hid (below_next HBZ.out hb5); clear hb5)
            | (go_at_call 19; (with_reducible refine (under_any B C _ HSB.out HSC.out).mono ?_); rw [Hbc.out]; rintro e w5 ⟨rfl, hb5⟩; have HBZ := Lib.hid (below_next HBZ.out hb5); clear hb5)
            | (go_at_call 19; (with_reducible refine (under_any A C _ HSA.out HSC.out).mono ?_); rw [Hac.out]; rintro e w5 ⟨rfl, hb5⟩; have HBZ := Lib.hid (below_next HBZ.out hb5); clear hb5)
            | (go_at_call 8; (with_reducible refine (awake_any _).mono ?_); rintro e w6 ⟨rfl, hb6⟩; have HBZ := Lib.hid (below_next HBZ.out hb6); clear hb6))
          go_ret
          exact ⟨rfl, HBZ.out⟩
end Go.Proofs.YtapokiplmcfmoaaDoor
