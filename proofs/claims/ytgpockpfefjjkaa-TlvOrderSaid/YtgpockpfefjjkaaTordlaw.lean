/-
  The walk of the law TlvOrder: for every slice of strings it returns true, and leaves all that was there as it was.
-/
import Derived.Test.YtgpockpfefjjkaaTordpure
import Derived.Test.YtgpockpfefjjkaaTawake
import Derived.Test.YtgpockpfefjjkaaTbacklaw
import Derived.Test.YtgpockpfefjjkaaTrwrap
import Derived.Test.YtgpockpfefjjkaaTasc
import Derived.Maps.AppendAt
namespace Go.Proofs.Ytgpockpfefjjkaa
open Go.RowKit

set_option maxRecDepth 100000 in
set_option maxHeartbeats 4000000 in
theorem order_law (v : Value) (ss : List ByteArray) (w : World) (hv : Reads w v ss) :
    Calls Try.prog 10 #[v] w fun e w' => e = .returned (.bool true) ∧ Below w.heap.size w w' := by
  obtain ⟨i0, hi, hz0, hz1, hz2⟩ := info_parts strInfo
  obtain ⟨j0, hj, hy0, hy1, hy2⟩ := info_parts elInfo
  have HV := Lib.hid hv
  obtain ⟨F, hF⟩ : ∃ F, F = fewB ss 20 100 := ⟨_, rfl⟩
  have HF := Lib.hid hF
  clear hF
  cases F with
  | false =>
    clear hv
    go_enter Try.func10, Try.ntmps10
    go_wp2_with (first | (go_at_call 18; (with_reducible refine (few_law100 v ss _ HV.out).mono ?_); rintro e w1 ⟨he, rfl⟩; obtain rfl : e = .returned (.bool false) := (by rw [he, HF.out])) | (go_at_call 11; (with_reducible refine (awake_any _).mono ?_); rintro e w1 ⟨rfl, hb1⟩; have HB1 := Lib.hid hb1; clear hb1))
    go_ret
    exact ⟨rfl, HB1.out⟩
  | true =>
    obtain ⟨hf1, hf2⟩ := few_each HF.out.symm
    have HF2 := Lib.hid hf2
    obtain ⟨a0, cap, rfl, hL⟩ := hv
    have HL := Lib.hid hL
    obtain ⟨n, hn⟩ : ∃ n, n = ss.length := ⟨_, rfl⟩
    rw [← hn] at hf1
    rw [← hn] at HV ⊢
    have HN := Lib.hid hn
    have HFEW := Lib.hid (show ∀ w0 : World, Calls Try.prog 18 #[.slice a0 n cap, .int .i64 20, .int .i64 100] w fun e w' => e = .returned (.bool true) ∧ w = w' from fun _ => by
      have := few_law100 (.slice a0 n cap) ss w HV.out
      rw [← HF.out] at this
      exact this)
    clear hf2 hL hn
    go_enter Try.func10, Try.ntmps10
    go_wp2_with (go_at_call 18; (with_reducible refine (HFEW.out w).mono ?_); rintro e w1 ⟨rfl, rfl⟩)
    go_loopw [3, 4, 5, 18] (fun v1 v2 v3 i wr => ∃ k : Nat, k ≤ n ∧ i = .int .i64 k ∧ Tri w wr v1 v2 v3 (ss.take k) ((ss.take k).map encS) ((ss.take k).map elS)) (fun _ _ _ i _ => n - (intOf i).toNat)
    case atStart => exact ⟨0, Nat.zero_le _, rfl, Tri.nil w⟩
    case round =>
      obtain ⟨k, hk, rfl, hT⟩ := hrel
      have HT := Lib.hid hT
      clear hT
      by_cases hlt : k < n
      · have hd : decide ((k : Int) < (n : Int)) = true := by simp; omega
        obtain ⟨b, o, ha, hc⟩ := (HL.out.old HT.out.2.2.2.2.2.2).at k (by rw [← HN.out]; exact hlt)
        subst ha
        obtain ⟨s, hs⟩ : ∃ s, s = ss.getD k ByteArray.empty := ⟨_, rfl⟩
        rw [← hs] at hc
        have HS := Lib.hid hs
        have hs100 : s.size ≤ 100 := HF2.out s (by rw [hs, List.getD_eq_getElem?_getD, List.getElem?_eq_getElem (by rw [← HN.out]; exact hlt)]; exact List.getElem_mem _)
        obtain ⟨x, hx⟩ : ∃ x, x = encS s := ⟨_, rfl⟩
        have HX := Lib.hid hx
        have HWR := Lib.hid (wrap_encS (s := s) (by omega))
        have HC := Lib.hid (show (cat [s]).length ≤ 1099511627776 by
          have : (cat [s]).length = s.size := by simp [cat]
          omega)
        rw [← hx] at HWR
        clear hs hx hs100
        obtain ⟨D, hD⟩ : ∃ D, D = ss.take k := ⟨_, rfl⟩
        rw [← hD] at HT
        have hl1 : D.length ≤ 20 := by rw [hD, List.length_take]; omega
        have hl2 : (D.map encS).length ≤ 20 := by rw [List.length_map]; exact hl1
        have hl3 : (D.map elS).length ≤ 20 := by rw [List.length_map]; exact hl1
        have HD := Lib.hid hD
        clear hD
        go_wp2_with ((first | (go_at_call 19; (with_reducible refine (rwrap_any 4 _ [s] _ (one_read wr wr.heap.size rfl s) (by simp) HC.out).mono ?_); rw [HWR.out]; rintro e w1 ⟨rfl, hb1⟩; have HT1 := Lib.hid ((HT.out.alloc _).below hb1); clear hb1) | (at_builtin; (refine wpList_append_own_at _ rfl (.tmp 28) (.tmp 30) 39 rfl w.heap.size 9 i0 (.string ⟨#[]⟩) 1 16 Try.underlying39 hi hz0 hz1 hz2 rfl (by decide) _ D.length (D.map Value.string) rfl (HT1.out.alloc _).1 ⟨w1.heap.size, 0, none⟩ 1 1 [.string s] rfl rfl (str_news w1 _ rfl s) (strs_one [s]) (by unfold maxLen; omega) (by omega) (HT1.out.alloc _).2.2.2.2.2.2.size ?_); intro v1 w2 ho2 hg2 _ hat2; have HT2 := Lib.hid ((HT1.out.alloc _).first ho2 hg2 hat2); clear ho2 hg2 hat2) | (at_builtin; (refine wpList_append_own_at _ rfl (.tmp 32) (.tmp 34) 39 rfl w.heap.size 9 i0 (.string ⟨#[]⟩) 1 16 Try.underlying39 hi hz0 hz1 hz2 rfl (by decide) _ (D.map encS).length ((D.map encS).map Value.string) rfl (HT2.out.alloc _).2.1 ⟨w2.heap.size, 0, none⟩ 1 1 [.string x] rfl rfl (str_news w2 _ rfl x) (strs_one [x]) (by unfold maxLen; omega) (by omega) (HT2.out.alloc _).2.2.2.2.2.2.size ?_); intro v2 w3 ho3 hg3 _ hat3; have HT3 := Lib.hid ((HT2.out.alloc _).second ho3 hg3 hat3); clear ho3 hg3 hat3) | (at_builtin; (refine wpList_append_own_at _ rfl (.tmp 36) (.tmp 40) 51 rfl w.heap.size 43 j0 (.agg #[.int .i64 0, .string ⟨#[]⟩, .string ⟨#[]⟩]) 3 40 Try.underlying51 hj hy0 hy1 hy2 rfl (by decide) _ (D.map elS).length (elsCells (D.map elS)) rfl (HT3.out.alloc _).2.2.1 ⟨w3.heap.size, 0, none⟩ 1 1 (elCells (4, s, x)) rfl rfl (el_news w3 _ rfl s x) (elCells_one _) (by unfold maxLen; omega) (by omega) (HT3.out.alloc _).2.2.2.2.2.2.size ?_); intro v3 w4 ho4 hg4 _ hat4; have HT4 := Lib.hid ((HT3.out.alloc _).third ho4 hg4 hat4); clear ho4 hg4 hat4)))
        go_roundw
        case rel => exact ⟨k + 1, by omega, by go_num, HT4.out.next HX.out HD.out (by rw [← HN.out]; exact hlt) HS.out⟩
        case measure => simp [intOf]; omega
      · have hdk : decide (k < n) = false := decide_eq_false hlt
        have hd : decide ((k : Int) < (n : Int)) = false := by simp; omega
        have hE : ss.take k = ss := List.take_of_length_le (by rw [← HN.out]; omega)
        rw [hE] at HT
        have hl : ss.length ≤ 20 := by rw [← HN.out]; exact hf1
        obtain ⟨S, hS⟩ : ∃ S : ByteArray, S = ⟨(ordL (lists ss)).flatten.toArray⟩ := ⟨_, rfl⟩
        obtain ⟨U, hU⟩ : ∃ U : ByteArray, U = ⟨(ordL (lists (ss.map encS))).flatten.toArray⟩ := ⟨_, rfl⟩
        obtain ⟨b, hb⟩ : ∃ b : Bool, b = true ↔ ascP (ss.map elS) (ss.map elS).length := ⟨@decide (ascP (ss.map elS) (ss.map elS).length) (Classical.propDecidable _), @decide_eq_true_iff _ (Classical.propDecidable _)⟩
        obtain ⟨els, he1, he2, he3⟩ := lst_ord ss (fun s hs => by have := HF2.out s hs; omega)
        rw [← hU] at he1
        have hz : U.size ≤ 1099511627776 := by rw [hU]; exact ord_size (by rw [List.length_map]; omega) (enc_each HF2.out)
        have HS := Lib.hid hS
        have HU := Lib.hid hU
        have HBB := Lib.hid hb
        have HLI := Lib.hid (law_list he1 (he2.trans HN.out.symm) hz)
        have HAS := Lib.hid he3
        have HNL := Lib.hid hl
        have HN2 := Lib.hid (show (ss.map encS).length ≤ 20 by rw [List.length_map]; exact hl)
        have HN3 := Lib.hid (show (ss.map elS).length ≤ 20 by rw [List.length_map]; exact hl)
        have HE2 := Lib.hid (enc_each HF2.out)
        have HEL := Lib.hid (show els.length ≤ 20 by omega)
        have HSZ := Lib.hid (show ∀ s ∈ ss, s.size ≤ 200 from fun s hs => by have := HF2.out s hs; omega)
        clear hl hE hS hU hb he1 he2 he3 hz
        go_wp2_with ((first | (go_at_call 22; (with_reducible refine (law_order HT.out HNL.out HSZ.out S HS.out).mono ?_); rintro e w1 ⟨rfl, hb1⟩; have HT1 := Lib.hid (HT.out.below hb1); clear hb1) | (go_at_call 23; (with_reducible refine (law_rorder HT1.out HNL.out HSZ.out S HS.out).mono ?_); rintro e w2 ⟨rfl, hb1⟩; have HT2 := Lib.hid (HT1.out.below hb1); clear hb1) | (go_at_call 24; (with_reducible refine (law_asc3 HT2.out HN3.out b HBB.out).mono ?_); rintro e w3 ⟨rfl, hb1⟩; have HT3 := Lib.hid (HT2.out.below hb1); clear hb1) | (go_at_call 25; (with_reducible refine (law_rasc3 HT3.out HN3.out b HBB.out).mono ?_); rintro e w4 ⟨rfl, hb1⟩; have HT4 := Lib.hid (HT3.out.below hb1); clear hb1) | (go_at_call 22; (with_reducible refine (law_order2 HT4.out HN2.out HE2.out U HU.out).mono ?_); rintro e w5 ⟨rfl, hb1⟩; have HT5 := Lib.hid (HT4.out.below hb1); clear hb1) | (go_at_call 26; (with_reducible refine (HLI.out _).mono ?_); rintro e w6 ⟨am, cm, rfl, ho, hb1⟩; have HM := Lib.hid ho; have HT6 := Lib.hid (HT5.out.below hb1); clear hb1 ho) | (go_at_call 11; (with_reducible refine (awake_any _).mono ?_); rintro e w7 ⟨rfl, hb1⟩; have HM2 := Lib.hid (HM.out.old hb1); have HT7 := Lib.hid (HT6.out.below hb1); clear hb1) | (go_at_call 24; (with_reducible refine (law_ascs HM2.out HEL.out HAS.out).mono ?_); rintro e w8 ⟨rfl, hb1⟩; have HT8 := Lib.hid (HT7.out.below hb1); clear hb1)))
        go_ret
        exact ⟨rfl, HT8.out.2.2.2.2.2.2⟩
end Go.Proofs.Ytgpockpfefjjkaa
