/-
  The walk of the law HashStream: for every slice of strings it returns true, and leaves all that was there as it was.
-/
import Derived.Test.YtoickijglahipaaDoorHashSum
namespace Go.Proofs.YtoickijglahipaaDoor
open Go.RowKit

set_option maxHeartbeats 400000 in
theorem write_nil (b : ByteArray) (w : World) :
    Calls Tryd.prog 19 #[.pointer none, .string b] w fun e w' => e = .returned (.tuple #[]) ∧ w = w' := by
  go_enter Tryd.func19, Tryd.ntmps19
  go_wp2_with fail
  refine bodyPost_ret (results_none rfl _ _ _) rfl ?_
  exact ⟨rfl, rfl⟩

set_option maxHeartbeats 400000 in
theorem len_nil (w : World) :
    Calls Tryd.prog 21 #[.pointer none] w fun e w' => e = .returned (.int .i64 0) ∧ w = w' := by
  go_enter Tryd.func21, Tryd.ntmps21
  go_wp2_with fail
  go_ret
  exact ⟨rfl, rfl⟩

set_option maxHeartbeats 400000 in
theorem sum_nil (w : World) (hK : Holds w 0 kWords) :
    Calls Tryd.prog 20 #[.pointer none] w fun e w' => e = .returned (.string (shaStr [])) ∧ Below w.heap.size w w' := by
  obtain ⟨E, hE⟩ : ∃ E, E = shaStr [] := ⟨_, rfl⟩
  have HE := Lib.hid hE
  have HK := Lib.hid hK
  rw [← hE]
  clear hE hK
  go_enter Tryd.func20, Tryd.ntmps20
  go_wp2_with (go_at_call 10; (with_reducible refine (hsumStr_any (.slice none 0 0) [] _ (reads_nil _) (by decide) HK.out (by decide)).mono ?_); rintro e w1 ⟨he, hb1⟩; obtain rfl : e = .returned (.string E) := (by rw [he, HE.out]; rfl); have HB1 := Lib.hid hb1; clear hb1)
  go_ret
  exact ⟨rfl, HB1.out⟩

theorem reads_one (W : World) (c : ByteArray) : Reads (W.alloc (.cells #[.string c] 9)) (.slice (some ⟨W.heap.size, 0, none⟩) 1 1) [c] := reads_row W [c] 9
theorem cat_one (c : ByteArray) : cat [c] = c.data.toList := by simp [cat]
/-- A stream's block is another one's: a write to one leaves the other. -/
theorem IsStr.grown {T : TypeId} {w w' : World} {p q : Nat} {m : List UInt8} (h : IsStr T w p m) (hg : w.grownBy w' (some q)) (hne : p ≠ q) : IsStr T w' p m :=
  h.of_heap (hg.block p h.lt (by simp; omega))

theorem stream_far (v : Value) (ss : List ByteArray) (w : World) (hv : Reads w v ss) (hK : Holds w 0 kWords) (hF : fewB ss 20 400 = false) :
    Calls Tryd.prog 6 #[v] w fun e w' => e = .returned (.bool true) ∧ Below w.heap.size w w' := by
  have HV := Lib.hid hv
  have HK := Lib.hid hK
  have HF := Lib.hid hF
  clear hv hK hF
  go_enter Tryd.func6, Tryd.ntmps6
  go_wp2_with (first | (go_at_call 8; (with_reducible refine (few_law v ss _ HV.out).mono ?_); rintro e w1 ⟨he, rfl⟩; obtain rfl : e = .returned (.bool false) := (by rw [he, HF.out])) | (go_at_call 9; (with_reducible refine (awake_any _ HK.out).mono ?_); rintro e w1 ⟨rfl, hb1⟩; have HB1 := Lib.hid hb1; clear hb1))
  go_ret
  exact ⟨rfl, HB1.out⟩

set_option maxRecDepth 100000 in
set_option maxHeartbeats 2000000 in
theorem stream_near (a0 : Option Addr) (cap : Nat) (ss : List ByteArray) (w : World) (hv : ss = [] ∨ ∃ b o, a0 = some ⟨b, o, none⟩ ∧ ∀ i, i < ss.length → w.cell? ⟨b, o + i, none⟩ = some (.string (ss.getD i ByteArray.empty)))
    (hK : Holds w 0 kWords) (hF : fewB ss 20 400 = true) :
    Calls Tryd.prog 6 #[.slice a0 ss.length cap] w fun e w' => e = .returned (.bool true) ∧ Below w.heap.size w w' := by
  have hc := few_cat hF
  have HL := Lib.hid (show (cat ss).length ≤ 8000 by omega)
  have hfw := few_law (.slice a0 ss.length cap) ss w ⟨_, _, rfl, hv⟩
  obtain ⟨n, hln⟩ : ∃ n, n = ss.length := ⟨_, rfl⟩
  rw [← hln] at hfw hc ⊢
  have HFW := Lib.hid hfw
  have hn : n ≤ 20 := hc.1
  have HLN := Lib.hid hln
  have HV := Lib.hid hv
  have HK := Lib.hid hK
  have HF := Lib.hid hF
  obtain ⟨E0, hE0⟩ : ∃ E, E = shaStr [] := ⟨_, rfl⟩
  have HE0 := Lib.hid hE0
  have hz := zeroStr
  clear hc hfw hln hv hK hF hE0
  go_enter Tryd.func6, Tryd.ntmps6
  go_wp2_with (first | (go_at_call 8; (with_reducible refine HFW.out.mono ?_); rintro e w1 ⟨he, rfl⟩; obtain rfl : e = .returned (.bool true) := (by rw [he, HF.out])) | (go_at_call 18; (with_reducible refine (start_any _).mono ?_); rintro e w1 ⟨rfl, hs1, hb1⟩; have HS1 := Lib.hid hs1; have HB1 := Lib.hid hb1; clear hs1 hb1))
  have hpq : w.heap.size < w1.heap.size := HS1.out.lt
  have h0 : 0 < w.heap.size := HK.out.lt
  go_loopw [5, 20] (fun t i wr => ∃ (k : Nat) (c : ByteArray), k ≤ n ∧ i = .int .i64 k ∧ t = .string c ∧ c.data.toList = cat (ss.take k) ∧ IsStr 40 wr w.heap.size c.data.toList ∧ IsStr 40 wr w1.heap.size c.data.toList ∧ Below w.heap.size w wr) (fun _ i _ => n - (intOf i).toNat)
  case atStart =>
    refine ⟨0, ⟨#[]⟩, Nat.zero_le _, rfl, rfl, rfl, HS1.out.of_heap ?_, isStr_new w1, HB1.out.alloc HB1.out.size _⟩
    exact ((Below.refl w1.heap.size w1).alloc (Nat.le_refl _) _).block _ hpq
  case round =>
    obtain ⟨k, c, hk, rfl, rfl, hcc, hs, hq, hb⟩ := hrel
    have HCC := Lib.hid hcc
    have HS := Lib.hid hs
    have HQ := Lib.hid hq
    have HB := Lib.hid hb
    have HKR := Lib.hid (HK.out.old hb)
    have hcz : c.size ≤ 8000 := by
      have h2 := cat_take_le ss k
      rw [← hcc] at h2
      have h4 : c.data.toList.length = c.size := rfl
      have := HL.out
      omega
    clear hcc hs hq hb
    by_cases hlt : k < n
    · have hd : decide ((k : Int) < (n : Int)) = true := by simp; omega
      obtain ⟨b, o, ha, hc⟩ : ∃ b o, a0 = some ⟨b, o, none⟩ ∧ wr.cell? ⟨b, o + k, none⟩ = some (.string (ss.getD k ByteArray.empty)) := by
        rcases HV.out with h | ⟨b, o, h1, h2⟩
        · have := HLN.out; rw [h] at this; simp at this; omega
        · exact ⟨b, o, h1, (HB.out.cell (p := ⟨b, o + k, none⟩) (block_lt_of_cell (h2 k (by rw [← HLN.out]; exact hlt)))).trans (h2 k (by rw [← HLN.out]; exact hlt))⟩
      obtain ⟨x, hx⟩ : ∃ x, x = ss.getD k ByteArray.empty := ⟨_, rfl⟩
      rw [← hx] at hc
      have HX := Lib.hid hx
      clear hx
      subst ha
      obtain ⟨y, hy⟩ : ∃ y, y = c ++ x := ⟨_, rfl⟩
      have hyd : y.data.toList = c.data.toList ++ x.data.toList := by rw [hy]; simp
      have hyc : y.data.toList = cat (ss.take (k + 1)) := by
        rw [hyd, cat_take_succ ss k (by rw [← HLN.out]; exact hlt), ← HX.out, ← HCC.out]
      have hyz : y.size = c.size + x.size := by
        have := congrArg List.length hyd
        rw [List.length_append] at this
        exact this
      have hyn : y.data.toList.length ≤ 8000 := by
        rw [hyc]; have := cat_take_le ss (k + 1); have := HL.out; omega
      have hyl : y.data.toList.length = y.size := rfl
      have hcl : c.data.toList.length = c.size := rfl
      have hxz : c.data.toList.length + x.size < 4611686018427387904 := by omega
      have hcy : ((c.size : Nat) : Int) + ((x.size : Nat) : Int) ≤ 9223372036854775807 := by omega
      obtain ⟨E, hE⟩ : ∃ E, E = shaStr y.data.toList := ⟨_, rfl⟩
      have HE := Lib.hid hE
      have HYD := Lib.hid hyd
      have HYC := Lib.hid hyc
      have HYN := Lib.hid hyn
      have HYZ := Lib.hid hyz
      have HXZ := Lib.hid hxz
      have hyy := hy.symm
      clear hy hyd hyc hyz hyn hyl hcl hxz hE
      go_wp2_with (first
        | (go_at_call 19; (with_reducible refine (write_any w.heap.size x c.data.toList _ HS.out HKR.out (by omega) HXZ.out).mono ?_); rintro e w2 ⟨rfl, hs2, hg2⟩; have HS2 := Lib.hid hs2; have HQ2 := Lib.hid (HQ.out.grown hg2 (by omega)); have HK2 := Lib.hid (HKR.out.grown hg2 (by omega)); have HB2 := Lib.hid (below_of_grown HB.out hg2 HB.out.size (Nat.le_refl _)); clear hs2 hg2)
        | (go_at_call 19; (with_reducible refine (write_any w1.heap.size x c.data.toList _ HQ2.out HK2.out (by omega) HXZ.out).mono ?_); rintro e w3 ⟨rfl, hs3, hg3⟩; rw [← HYD.out] at hs3; have HQ3 := Lib.hid hs3; have hs2' := HS2.out; rw [← HYD.out] at hs2'; have HS3 := Lib.hid (hs2'.grown hg3 (by omega)); have HK3 := Lib.hid (HK2.out.grown hg3 (by omega)); have HB3 := Lib.hid (below_of_grown HB2.out hg3 HB2.out.size (by omega)); have HZ := Lib.hid (Below.refl w3.heap.size w3); clear hs3 hg3 hs2')
        | (go_at_call 20; (with_reducible refine (sum_any w.heap.size y.data.toList _ (HS3.out.of_heap (HZ.out.block _ HS3.out.lt)) (HK3.out.old HZ.out) (by have := HYN.out; omega)).mono ?_); rintro e w4 ⟨he, hb4⟩; obtain rfl : e = .returned (.string E) := (by rw [he, HE.out]; rfl); have HZ := Lib.hid (HZ.out.next hb4); clear hb4)
        | (go_at_call 20; (with_reducible refine (sum_any w1.heap.size y.data.toList _ (HQ3.out.of_heap (HZ.out.block _ HQ3.out.lt)) (HK3.out.old HZ.out) (by have := HYN.out; omega)).mono ?_); rintro e w4 ⟨he, hb4⟩; obtain rfl : e = .returned (.string E) := (by rw [he, HE.out]; rfl); have HZ := Lib.hid (HZ.out.next hb4); clear hb4)
        | (go_at_call 11; (refine (refsum_any _ [y] _ (reads_one _ y) (by simp) (by rw [cat_one]; have := HYN.out; omega)).mono ?_); rintro e w6 ⟨he, hb6⟩; obtain rfl : e = .returned (.string E) := (by rw [he, HE.out, cat_one]); have HZ := Lib.hid ((HZ.out.alloc HZ.out.size _).next hb6); clear hb6)
        | (go_at_call 21; (with_reducible refine (len_any w.heap.size y.data.toList _ (HS3.out.of_heap (HZ.out.block _ HS3.out.lt))).mono ?_); rintro e w7 ⟨he, rfl⟩; obtain rfl : e = .returned (.int .i64 (y.size : Nat)) := he)
        | (go_at_call 21; (with_reducible refine (len_any w1.heap.size y.data.toList _ (HQ3.out.of_heap (HZ.out.block _ HQ3.out.lt))).mono ?_); rintro e w7 ⟨he, rfl⟩; obtain rfl : e = .returned (.int .i64 (y.size : Nat)) := he))
      go_roundw
      case rel =>
        exact ⟨k + 1, y, by omega, by go_num, (by first | rfl | rw [hyy]), HYC.out, HS3.out.of_heap (HZ.out.block _ HS3.out.lt), HQ3.out.of_heap (HZ.out.block _ HQ3.out.lt), HB3.out.next HZ.out⟩
      case measure => simp [intOf]; omega
    · have ek : k = n := by omega
      subst ek
      have hd : decide ((k : Int) < (k : Int)) = false := by simp
      obtain ⟨E, hE⟩ : ∃ E, E = shaStr c.data.toList := ⟨_, rfl⟩
      have HE := Lib.hid hE
      have HZ := Lib.hid (Below.refl wr.heap.size wr)
      have hcl : c.data.toList.length ≤ 8000 := hcz
      have HCL := Lib.hid hcl
      clear hE hcl
      go_wp2_with (first
        | (go_at_call 19; (with_reducible refine (write_nil c _).mono ?_); rintro e w2 ⟨rfl, rfl⟩)
        | (go_at_call 9; (with_reducible refine (awake_any _ (HKR.out.old HZ.out)).mono ?_); rintro e w4 ⟨rfl, hb4⟩; have HZ := Lib.hid (HZ.out.next hb4); clear hb4)
        | (go_at_call 20; (with_reducible refine (sum_nil _ (HKR.out.old HZ.out)).mono ?_); rintro e w4 ⟨he, hb4⟩; obtain rfl : e = .returned (.string E0) := (by rw [he, HE0.out]); have HZ := Lib.hid (HZ.out.next hb4); clear hb4)
        | (go_at_call 20; (with_reducible refine (sum_any w.heap.size c.data.toList _ (HS.out.of_heap (HZ.out.block _ HS.out.lt)) (HKR.out.old HZ.out) (by have := HCL.out; omega)).mono ?_); rintro e w4 ⟨he, hb4⟩; obtain rfl : e = .returned (.string E) := (by rw [he, HE.out]; rfl); have HZ := Lib.hid (HZ.out.next hb4); clear hb4)
        | (go_at_call 11; (with_reducible refine (refsum_any (.slice none 0 0) [] _ (reads_nil _) (by decide) (by decide)).mono ?_); rintro e w6 ⟨he, hb6⟩; obtain rfl : e = .returned (.string E0) := (by rw [he, HE0.out]; rfl); have HZ := Lib.hid (HZ.out.next hb6); clear hb6)
        | (go_at_call 11; (refine (refsum_any _ [c] _ (reads_one _ c) (by simp) (by rw [cat_one]; have := HCL.out; omega)).mono ?_); rintro e w6 ⟨he, hb6⟩; obtain rfl : e = .returned (.string E) := (by rw [he, HE.out, cat_one]); have HZ := Lib.hid ((HZ.out.alloc HZ.out.size _).next hb6); clear hb6)
        | (go_at_call 21; (with_reducible refine (len_nil _).mono ?_); rintro e w7 ⟨rfl, rfl⟩))
      go_ret
      exact ⟨rfl, HB.out.next HZ.out⟩

theorem stream_law (v : Value) (ss : List ByteArray) (w : World) (hv : Reads w v ss) (hK : Holds w 0 kWords) :
    Calls Tryd.prog 6 #[v] w fun e w' => e = .returned (.bool true) ∧ Below w.heap.size w w' := by
  cases hF : fewB ss 20 400 with
  | false => exact stream_far v ss w hv hK hF
  | true =>
    obtain ⟨a, cap, rfl, h⟩ := hv
    exact stream_near a cap ss w h hK hF
end Go.Proofs.YtoickijglahipaaDoor
