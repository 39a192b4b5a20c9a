/-
  The contract of oid.arcOf: the number whose decimal digits the text is, if there is one up to the greatest arc.
-/
import Derived.Test.YtfpfgdbfigdooaaDoorObase
namespace Go.Proofs.YtfpfgdbfigdooaaDoor
open Go.RowKit

/-- The text p is the arc v. -/
def IsArc (p : List UInt8) (v : Nat) : Prop := p = Lib.decDigits v ∧ v ≤ 2147483647
theorem arc_val {p : List UInt8} {v : Nat} (h : IsArc p v) : dval p = v := by rw [h.1, dec_val]
theorem arc_dig {p : List UInt8} {v : Nat} (h : IsArc p v) {c : UInt8} (hc : c ∈ p) : isDig c := by rw [h.1] at hc; exact dec_dig hc
theorem arc_ne {p : List UInt8} {v : Nat} (h : IsArc p v) : p ≠ [] := by rw [h.1]; exact dec_ne v
theorem arc_head {p : List UInt8} {v : Nat} (h : IsArc p v) (h0 : p.head? = some 48) : p = [48] := by
  rw [h.1] at h0 ⊢
  rw [dec_head h0, dec_zero]
theorem arc_of {p : List UInt8} (h0 : p ≠ []) (h1 : ∀ c ∈ p, isDig c) (h2 : p.head? = some 48 → p = [48]) (h3 : dval p ≤ 2147483647) : IsArc p (dval p) :=
  ⟨dec_of p h0 h1 (fun e => by rw [h2 e]; rfl), h3⟩

def Arced (p : ByteArray) (e : Ending) : Prop := ∃ (v : Nat) (ok : Bool), e = .returned (.tuple #[.int .i64 ((v : Nat) : Int), .bool ok]) ∧ (ok = true ∧ IsArc p.data.toList v ∨ ok = false ∧ v = 0 ∧ ∀ m, ¬ IsArc p.data.toList m)
theorem arced_no {p : ByteArray} (h : ∀ m, ¬ IsArc p.data.toList m) : Arced p (.returned (.tuple #[.int .i64 0, .bool false])) := ⟨0, false, rfl, .inr ⟨rfl, rfl, h⟩⟩
theorem head_u8 {p : ByteArray} (h : p.size ≠ 0) : ∃ c : UInt8, p.data.toList.head? = some c ∧ u8at p 0 = c.toNat := by
  obtain ⟨c, h1, h2⟩ := u8at_list p 0 (by omega)
  exact ⟨c, by rw [List.head?_eq_getElem?]; exact h1, h2⟩

set_option maxRecDepth 100000 in
set_option maxHeartbeats 1000000 in
theorem arcOf_any (p : ByteArray) (w : World) (hs : p.size ≤ 1099511627776) :
    Calls Tryd.prog 76 #[.string p] w fun e w' => Arced p e ∧ w' = w := by
  by_cases h0 : p.size = 0
  · obtain rfl := empty_of_size h0
    clear h0
    go_enter Tryd.func76, Tryd.ntmps76
    go_wp2_with fail
    go_ret2
    exact ⟨arced_no fun m h => arc_ne h rfl, rfl⟩
  · have he := nonempty_list h0
    have hi0 := fun w => run_index_u8 (P := Tryd.prog) Tryd.underlying9 p 0 (by omega) 0 rfl w
    obtain ⟨c0, hc0, hcn⟩ := head_u8 h0
    have HC0 := Lib.hid hc0
    have HN0 := Lib.hid (show p.data.toList ≠ [] from fun e => h0 (by show p.data.toList.length = 0; rw [e]; rfl))
    rw [hcn] at hi0
    clear hc0 hcn
    by_cases hz : c0 = 48 ∧ p.data.toList ≠ [48]
    · have e1 : (((c0.toNat : Nat) : Int) == 48) = true := by rw [hz.1]; rfl
      have e2 : (p.toList == [48]) = false := beq_eq_false_iff_ne.2 (by rw [toList_eq_list]; exact hz.2)
      have HZ := Lib.hid hz
      clear hz h0
      go_enter Tryd.func76, Tryd.ntmps76
      go_wp2_with fail
      go_ret2
      exact ⟨arced_no fun m h => HZ.out.2 (arc_head h (by rw [HC0.out, HZ.out.1])), rfl⟩
    · have hh : p.data.toList.head? = some 48 → p.data.toList = [48] := fun e => Classical.byContradiction fun h => hz ⟨Option.some.inj (HC0.out.symm.trans e), h⟩
      have HH := Lib.hid hh
      have hor : ((((c0.toNat : Nat) : Int) == 48) = false) ∨ (((((c0.toNat : Nat) : Int) == 48) = true) ∧ (p.toList == [48]) = true) := by
        by_cases e : c0 = 48
        · right
          refine ⟨by rw [e]; rfl, beq_iff_eq.2 ?_⟩
          rw [toList_eq_list]; exact hh (by rw [HC0.out, e])
        · left
          refine beq_eq_false_iff_ne.2 fun e2 => e (UInt8.toNat_inj.1 ?_)
          show c0.toNat = 48
          omega
      clear hz hh h0
      rcases hor with e1 | ⟨e1, e2⟩
      all_goals
        go_enter Tryd.func76, Tryd.ntmps76
        go_wp2_with fail
        clear e1 hi0 he
        try clear e2
        go_loopw [4, 19] (fun a i wr => ∃ k : Nat, k ≤ p.size ∧ i = .int .i64 k ∧ a = .int .i64 ((dval (p.data.toList.take k) : Nat) : Int) ∧ dval (p.data.toList.take k) ≤ 2147483647 ∧ (∀ c ∈ p.data.toList.take k, isDig c) ∧ wr = w) (fun _ i _ => p.size - (intOf i).toNat)
        case atStart => exact ⟨0, by omega, rfl, rfl, by simp [dval], by simp, rfl⟩
        case round =>
          obtain ⟨k, hk, rfl, rfl, hv, hdg, rfl⟩ := hrel
          have HV := Lib.hid hv
          have HD := Lib.hid hdg
          obtain ⟨V, hV⟩ : ∃ V, V = dval (p.data.toList.take k) := ⟨_, rfl⟩
          rw [← hV] at hv
          rw [← hV]
          have HVV := Lib.hid hV
          clear hV hdg
          by_cases hlt : k < p.size
          · have hd : decide ((k : Int) < (p.size : Int)) = true := by simp; omega
            have hi := fun w => run_index_u8 (P := Tryd.prog) Tryd.underlying9 p k hlt (k : Int) rfl w
            obtain ⟨c, hc, hcn⟩ := u8at_list p k hlt
            rw [hcn] at hi
            have HC := Lib.hid hc
            have HM := Lib.hid (show c ∈ p.data.toList from List.mem_of_getElem? hc)
            clear hc hcn
            obtain ⟨n, hn⟩ : ∃ n, n = c.toNat := ⟨_, rfl⟩
            have hn256 : n < 256 := by rw [hn]; exact c.toNat_lt
            rw [← hn] at hi
            by_cases hlo : n < 48
            · have d1 : decide ((n : Int) < 48) = true := by simp; omega
              have HL := Lib.hid (show ¬ isDig c by unfold isDig; omega)
              clear hn
              go_wp2_with fail
              go_ret2
              exact ⟨arced_no fun m h => HL.out (arc_dig h HM.out), rfl⟩
            · by_cases hhi : 57 < n
              · have d1 : decide ((n : Int) < 48) = false := by simp; omega
                have d2 : decide ((57 : Int) < (n : Int)) = true := by simp; omega
                have HL := Lib.hid (show ¬ isDig c by unfold isDig; omega)
                clear hn
                go_wp2_with fail
                go_ret2
                exact ⟨arced_no fun m h => HL.out (arc_dig h HM.out), rfl⟩
              · have d1 : decide ((n : Int) < 48) = false := by simp; omega
                have d2 : decide ((57 : Int) < (n : Int)) = false := by simp; omega
                have HL := Lib.hid (show isDig c by unfold isDig; omega)
                have hnew : dval (p.data.toList.take (k + 1)) = 10 * V + (n - 48) := by rw [take_snoc HC.out, dval_snoc, ← HVV.out, hn]
                have HNW := Lib.hid hnew
                clear hn hnew
                by_cases hbig : 2147483647 < 10 * V + (n - 48)
                · have d3 : decide ((2147483647 : Int) < 10 * (V : Int) + ((n : Int) - 48)) = true := by simp; omega
                  have HB := Lib.hid hbig
                  clear hbig
                  go_wp2_with fail
                  go_ret2
                  refine ⟨arced_no fun m h => ?_, rfl⟩
                  have h1 := dval_le (p.data.toList.take (k + 1)) (p.data.toList.drop (k + 1))
                  rw [List.take_append_drop, arc_val h, HNW.out] at h1
                  have := HB.out
                  have := h.2
                  omega
                · have d3 : decide ((2147483647 : Int) < 10 * (V : Int) + ((n : Int) - 48)) = false := by simp; omega
                  have HB := Lib.hid hbig
                  clear hbig
                  go_wp2_with fail
                  go_roundw
                  case rel => exact ⟨k + 1, by omega, by go_num, by rw [HNW.out]; congr 1; omega, by rw [HNW.out]; have := HB.out; omega, by
                    rw [take_snoc HC.out]
                    intro x hx
                    rcases List.mem_append.1 hx with hx | hx
                    · exact HD.out x hx
                    · obtain rfl : x = c := by simpa using hx
                      exact HL.out, trivial⟩
                  case measure => simp [intOf]; omega
          · have ek : k = p.size := by omega
            subst ek
            have hd : decide ((p.size : Int) < (p.size : Int)) = false := by simp
            have HALL := Lib.hid (show p.data.toList.take p.size = p.data.toList from List.take_of_length_le (Nat.le_refl _))
            go_wp2_with fail
            go_ret2
            rw [HALL.out] at HVV HD HV
            refine ⟨⟨V, true, rfl, .inl ⟨rfl, ?_⟩⟩, rfl⟩
            rw [HVV.out]
            exact arc_of HN0.out HD.out HH.out HV.out
theorem arc_yes {p : ByteArray} {v : Nat} (h : IsArc p.data.toList v) (w : World) (hs : p.size ≤ 1099511627776) :
    Calls Tryd.prog 76 #[.string p] w fun e w' => e = .returned (.tuple #[.int .i64 ((v : Nat) : Int), .bool true]) ∧ w' = w := by
  refine (arcOf_any p w hs).mono ?_
  rintro e w' ⟨⟨u, ok, rfl, h1 | h1⟩, hw⟩
  · obtain ⟨rfl, h1⟩ := h1
    obtain rfl : u = v := (arc_val h1).symm.trans (arc_val h)
    exact ⟨rfl, hw⟩
  · exact absurd h (h1.2.2 v)
theorem arc_no {p : ByteArray} (h : ∀ v, ¬ IsArc p.data.toList v) (w : World) (hs : p.size ≤ 1099511627776) :
    Calls Tryd.prog 76 #[.string p] w fun e w' => e = .returned (.tuple #[.int .i64 0, .bool false]) ∧ w' = w := by
  refine (arcOf_any p w hs).mono ?_
  rintro e w' ⟨⟨u, ok, rfl, h1 | h1⟩, hw⟩
  · exact absurd h1.2 (h u)
  · obtain ⟨rfl, rfl, _⟩ := h1
    exact ⟨rfl, hw⟩
end Go.Proofs.YtfpfgdbfigdooaaDoor
