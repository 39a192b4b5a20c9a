/-
  How long the encoding of a valid name is at most. Nothing is claimed of the program here.
  The contract of gname's Encode: the whole element of a general name, or the error of Check.
  The contracts of gname's small and equal: whether two texts differ in case only.
  The contracts of gname's sameMail, Same, Match and Within.
  General names that are the same are within the same bases: plain laws; and what the law GnameSame wants of the program's functions.
  The contracts of gname's Check, Encode, Same, Match and Within, as the laws want them.
-/
import Derived.Test.YtflpajbcomhkpaaGreatDoorSbf
import Derived.Test.YtflpajbcomhkpaaGreatDoorSbc
import Derived.Test.YtflpajbcomhkpaaGreatDoorSaw
import Derived.Test.YtflpajbcomhkpaaGreatDoorSbo
import Derived.Test.YtflpajbcomhkpaaGreatDoorSar
import Derived.Test.YtflpajbcomhkpaaGreatDoorSaz
import Derived.Test.YtflpajbcomhkpaaGreatDoorSae
import Derived.Deep.CutRange
import Derived.Deep.DeepCutAuto
import Derived.Deep.RegionWith
import Derived.Lib.QuietBelow
import Derived.BigQuiet
import Derived.Test.YtflpajbcomhkpaaGreatDoorSax
import Derived.Test.YtflpajbcomhkpaaGreatDoorSal
import Derived.Test.YtflpajbcomhkpaaGreatDoorSbb
import Derived.Test.YtflpajbcomhkpaaGreatDoorSbe
namespace Go.Proofs.YtflpajbcomhkpaaGreatDoor
open Go.RowKit

theorem chkA_len {b : List At} {a : At} (h : chkA b a = 0) : a.2.2.size ≤ 64 := by
  unfold chkA at h
  split at h
  · cases h
  · split at h
    · cases h
    · split at h
      · cases h
      · split at h
        · cases h
        · omega
theorem chkL_len : ∀ {r b : List At}, chkL b r = 0 → ∀ a ∈ r, a.2.2.size ≤ 64
  | [], _, _, _, ha => by cases ha
  | x :: r, b, h, a, ha => by
    unfold chkL at h
    by_cases hx : chkA b x = 0
    · rw [if_pos hx] at h
      rcases List.mem_cons.1 ha with rfl | ha
      · exact chkA_len hx
      · exact chkL_len h a ha
    · rw [if_neg hx] at h; exact absurd h hx
theorem encA_le64 (x : At) (h : x.2.2.size ≤ 64) : (encA x).size ≤ 137 := by
  have h1 := wrapStr_le 6 (oidS x.1).data.toList
  have h2 := wrapStr_le x.2.1 x.2.2.data.toList
  have h3 := wrapStr_le 48 ((wr1 6 (oidS x.1)).data.toList ++ (wr1 x.2.1 x.2.2).data.toList)
  have h4 := oidS_size x.1
  have e1 : (oidS x.1).data.toList.length = (oidS x.1).size := rfl
  have e2 : x.2.2.data.toList.length = x.2.2.size := rfl
  have e3 : (wr1 6 (oidS x.1)).data.toList.length = (wrapStr 6 (oidS x.1).data.toList).size := rfl
  have e4 : (wr1 x.2.1 x.2.2).data.toList.length = (wrapStr x.2.1 x.2.2.data.toList).size := rfl
  rw [List.length_append] at h3
  show (wrapStr 48 ((wr1 6 (oidS x.1)).data.toList ++ (wr1 x.2.1 x.2.2).data.toList)).size ≤ 137
  omega
theorem encR_le64 {r : List At} (h : chkR r = 0) : (encR r).size ≤ 554 := by
  have hl : r.length ≤ 4 ∧ chkL [] r = 0 := by
    unfold chkR at h
    split at h
    · cases h
    · split at h
      · cases h
      · exact ⟨by omega, h⟩
  have h1 := wrapStr_le 49 (ordL (lists (r.map encA))).flatten
  rw [ordL_flat_length, lists_flat] at h1
  have h2 := cat_lenM 137 (r.map encA) (fun s hs => by obtain ⟨a, ha, rfl⟩ := List.mem_map.1 hs; exact encA_le64 a (chkL_len hl.2 a ha))
  rw [List.length_map] at h2
  have := hl.1
  show (wrapStr 49 (ordL (lists (r.map encA))).flatten).size ≤ 554
  omega
theorem chkRs_all : ∀ {n : Nm}, chkRs n = 0 → ∀ r ∈ n, chkR r = 0
  | [], _, _, hr => by cases hr
  | x :: n, h, r, hr => by
    unfold chkRs at h
    by_cases hx : chkR x = 0
    · rw [if_pos hx] at h
      rcases List.mem_cons.1 hr with rfl | hr
      · exact hx
      · exact chkRs_all h r hr
    · rw [if_neg hx] at h; exact absurd h hx
theorem encN_le64 {n : Nm} (h : chkN n = 0) : (encN n).size ≤ 4438 := by
  have hl : n.length ≤ 8 ∧ chkRs n = 0 := by
    unfold chkN at h
    split at h
    · cases h
    · exact ⟨by omega, h⟩
  have h1 := wrapStr_le 48 (cat_t (n.map encR))
  have h2 := cat_lenM 554 (n.map encR) (fun s hs => by obtain ⟨a, ha, rfl⟩ := List.mem_map.1 hs; exact encR_le64 (chkRs_all hl.2 a ha))
  rw [List.length_map] at h2
  have := hl.1
  show (wrapStr 48 (cat_t (n.map encR))).size ≤ 4438
  omega
end Go.Proofs.YtflpajbcomhkpaaGreatDoor
namespace Go.Proofs.YtflpajbcomhkpaaGreatDoor
open Go.RowKit

theorem pw1 (T : Int) (g : Nat) (x : ByteArray) (w : World) (h : w.cell? ⟨g, 0, none⟩ = some (.string x)) :
    Calls Tryz.prog 62 #[.int .i64 T, .slice (some ⟨g, 0, none⟩) 1 1] w fun e w' => e = .returned (wrapVal T x.data.toList) ∧ Below w.heap.size w w' := by
  have := wrap_any T _ _ w (reads_one h) (by simp)
  rwa [cat_one] at this
theorem wrapVal_ok {T : Int} {x : ByteArray} (h : wrapErr T x.data.toList.length = 0) : wrapVal T x.data.toList = .tuple #[.string (wr1 T x), .int .i64 0] := by
  unfold wrapVal
  rw [h]
  rfl
theorem encN_fit {n : Nm} (h : chkN n = 0) : wrapErr 164 (encN n).data.toList.length = 0 := by
  have h2 := encN_le64 h
  have e : (encN n).data.toList.length = (encN n).size := rfl
  unfold wrapErr
  rw [if_neg (by decide), e, if_neg (by omega)]
set_option maxRecDepth 100000 in
set_option maxHeartbeats 4000000 in
theorem genc_core (a0 : Option Addr) (c m : Nat) (k : Int) (t : List UInt8) (n : Nm) (con : Bool) (w : World) (h : RLies w a0 n) (hn : m = n.length) (ht : t.length ≤ 150000) (hs : SmallN n) (hT : Tab w) (hmk : Mk w) :
    Calls Tryz.prog 30 #[.agg #[.int .i64 k, .string (strOf t), .slice a0 m c], .bool con] w fun e w' => e = .returned (.tuple #[.string (encG con k t n), .int .i64 ((chkG con k t n : Nat) : Int)]) ∧ Below w.heap.size w w' := by
  obtain ⟨W0, hW0⟩ : ∃ W0, W0 = w.alloc (.cells #[.int .i64 k, .string (strOf t), .slice a0 m c] 32) := ⟨_, rfl⟩
  have hwr : w.alloc (.cells #[.int .i64 k, .string (strOf t), .slice a0 m c] 32) = W0 := hW0.symm
  have hb0 : Below w.heap.size w W0 := by rw [hW0]; exact belowNew w _
  have hq0 : W0.heap[w.heap.size]? = some (.cells #[.int .i64 k, .string (strOf t), .slice a0 m c] 32 (0, 0)) := by rw [hW0]; exact heap_alloc_new w _
  obtain ⟨c0, c1, c2, l0⟩ := three_facts hq0
  have HB0 := Lib.hid hb0
  have HC := Lib.hid (gchk_core a0 c m k t n con W0 (h.below hb0) hn ht hs (hT.below hb0) (hmk.below hb0))
  have HK := Lib.hid (fun W (hb : Below w.heap.size w W) => gkind_any k (strOf t) a0 m c W (hmk.below hb).2)
  have HN := Lib.hid (fun W (hb : Below w.heap.size w W) => encode_core a0 c m n W (h.below hb) hn hs (hT.below hb))
  have HKC := Lib.hid (fun W (hb : Below w.heap.size w W) => (hmk.below hb).2.cells)
  obtain ⟨E, hE⟩ : ∃ E, E = chkG con k t n := ⟨_, rfl⟩
  obtain ⟨V, hV⟩ : ∃ V, V = encG con k t n := ⟨_, rfl⟩
  rw [← hE] at HC ⊢
  rw [← hV]
  have HTL := Lib.hid ht
  clear h hn ht hs hT hmk hW0 hb0 hq0
  by_cases hz : E = 0
  · subst hz
    rcases encG_zero hE.symm with ⟨rfl, rfl, hk⟩ | ⟨h4, hok, _, hk⟩
    · have HV := Lib.hid (show V = wr1 164 (encN n) by rw [hV]; unfold encG; rw [← hE, if_pos rfl, if_pos rfl])
      have he : encV n = encN n := by unfold encV; rw [if_pos hk]
      have HW1 := Lib.hid (fun g W h => pw1 164 g (encN n) W h)
      rw [wrapVal_ok (encN_fit hk), ← HV.out] at HW1
      rw [he, hk] at HN
      rw [show ((kdOf 4 : Nat) : Int) = 2 from rfl] at HK
      have hix := fun W => index_kd 2 (by decide) W
      clear he hk hE hV HV
      go_enter Tryz.func30, Tryz.ntmps30
      go_wp2_with (first
        | (go_at_call 42; (with_reducible refine HC.out.mono ?_); rintro e w1 ⟨rfl, hb1⟩; have HB1 := Lib.hid (below_next HB0.out hb1); have d0 := (hb1.cell (p := ⟨w.heap.size, 0, none⟩) l0).trans c0; have d1 := (hb1.cell (p := ⟨w.heap.size, 1, none⟩) l0).trans c1; have d2 := (hb1.cell (p := ⟨w.heap.size, 2, none⟩) l0).trans c2; have l1 := Nat.lt_of_lt_of_le l0 hb1.size; clear hb1)
        | (go_at_call 50; (with_reducible refine (HK.out _ HB1.out).mono ?_); rintro e w2 ⟨rfl, hb2⟩; have HB2 := Lib.hid (below_next HB1.out hb2); have e1 := (hb2.cell (p := ⟨w.heap.size, 1, none⟩) l1).trans d1; have e2 := (hb2.cell (p := ⟨w.heap.size, 2, none⟩) l1).trans d2; obtain ⟨k0, k1, k2, k3, k4, k5, k6, k7, k8, k9, k10, k11⟩ := HKC.out _ HB2.out; clear hb2)
        | (go_at_call 61; (with_reducible refine (HN.out _ HB2.out).mono ?_); rintro e w3 ⟨rfl, hb3⟩; have HB3 := Lib.hid (below_next HB2.out hb3); clear k0 k1 k2 k3 k4 k5 k6 k7 k8 k9 k10 k11; obtain ⟨k0, k1, k2, k3, k4, k5, k6, k7, k8, k9, k10, k11⟩ := HKC.out _ HB3.out; clear hb3)
        | (go_at_call 62; (with_reducible refine (HW1.out _ _ (bx1 _ _ _)).mono ?_); rintro e w5 ⟨rfl, hb5⟩; have HB5 := Lib.hid (below_next HB3.out (below_next (belowNew _ _) hb5)); clear hb5))
      go_ret2
      exact ⟨rfl, HB5.out⟩
    · have HV := Lib.hid (show V = wr1 (128 + k) (strOf t) by rw [hV]; unfold encG; rw [← hE, if_pos rfl, if_neg h4])
      have htl : t.length ≤ 128 := okT_len hok
      clear hE hV h4 HN hok
      rcases hk with rfl | rfl | rfl
      · have HW1 := Lib.hid (fun g W h => pw1 129 g (strOf t) W h)
        rw [wrapVal_ok (x := strOf t) (by rw [strOf_list]; unfold wrapErr; rw [if_neg (by decide), if_neg (by omega)]), ← show V = wr1 129 (strOf t) from HV.out] at HW1
        rw [show ((kdOf 1 : Nat) : Int) = 0 from rfl] at HK
        have hix := fun W => index_kd 0 (by decide) W
        clear HV htl
        go_enter Tryz.func30, Tryz.ntmps30
        go_wp2_with (first
          | (go_at_call 42; (with_reducible refine HC.out.mono ?_); rintro e w1 ⟨rfl, hb1⟩; have HB1 := Lib.hid (below_next HB0.out hb1); have d0 := (hb1.cell (p := ⟨w.heap.size, 0, none⟩) l0).trans c0; have d1 := (hb1.cell (p := ⟨w.heap.size, 1, none⟩) l0).trans c1; have d2 := (hb1.cell (p := ⟨w.heap.size, 2, none⟩) l0).trans c2; have l1 := Nat.lt_of_lt_of_le l0 hb1.size; clear hb1)
          | (go_at_call 50; (with_reducible refine (HK.out _ HB1.out).mono ?_); rintro e w2 ⟨rfl, hb2⟩; have HB2 := Lib.hid (below_next HB1.out hb2); have e1 := (hb2.cell (p := ⟨w.heap.size, 1, none⟩) l1).trans d1; have e2 := (hb2.cell (p := ⟨w.heap.size, 2, none⟩) l1).trans d2; obtain ⟨k0, k1, k2, k3, k4, k5, k6, k7, k8, k9, k10, k11⟩ := HKC.out _ HB2.out; clear hb2)
          | (go_at_call 62; (with_reducible refine (HW1.out _ _ (bx1 _ _ _)).mono ?_); rintro e w5 ⟨rfl, hb5⟩; have HB5 := Lib.hid (below_next HB2.out (below_next (belowNew _ _) hb5)); clear hb5))
        go_ret2
        exact ⟨rfl, HB5.out⟩
      · have HW1 := Lib.hid (fun g W h => pw1 130 g (strOf t) W h)
        rw [wrapVal_ok (x := strOf t) (by rw [strOf_list]; unfold wrapErr; rw [if_neg (by decide), if_neg (by omega)]), ← show V = wr1 130 (strOf t) from HV.out] at HW1
        rw [show ((kdOf 2 : Nat) : Int) = 1 from rfl] at HK
        have hix := fun W => index_kd 1 (by decide) W
        clear HV htl
        go_enter Tryz.func30, Tryz.ntmps30
        go_wp2_with (first
          | (go_at_call 42; (with_reducible refine HC.out.mono ?_); rintro e w1 ⟨rfl, hb1⟩; have HB1 := Lib.hid (below_next HB0.out hb1); have d0 := (hb1.cell (p := ⟨w.heap.size, 0, none⟩) l0).trans c0; have d1 := (hb1.cell (p := ⟨w.heap.size, 1, none⟩) l0).trans c1; have d2 := (hb1.cell (p := ⟨w.heap.size, 2, none⟩) l0).trans c2; have l1 := Nat.lt_of_lt_of_le l0 hb1.size; clear hb1)
          | (go_at_call 50; (with_reducible refine (HK.out _ HB1.out).mono ?_); rintro e w2 ⟨rfl, hb2⟩; have HB2 := Lib.hid (below_next HB1.out hb2); have e1 := (hb2.cell (p := ⟨w.heap.size, 1, none⟩) l1).trans d1; have e2 := (hb2.cell (p := ⟨w.heap.size, 2, none⟩) l1).trans d2; obtain ⟨k0, k1, k2, k3, k4, k5, k6, k7, k8, k9, k10, k11⟩ := HKC.out _ HB2.out; clear hb2)
          | (go_at_call 62; (with_reducible refine (HW1.out _ _ (bx1 _ _ _)).mono ?_); rintro e w5 ⟨rfl, hb5⟩; have HB5 := Lib.hid (below_next HB2.out (below_next (belowNew _ _) hb5)); clear hb5))
        go_ret2
        exact ⟨rfl, HB5.out⟩
      · have HW1 := Lib.hid (fun g W h => pw1 135 g (strOf t) W h)
        rw [wrapVal_ok (x := strOf t) (by rw [strOf_list]; unfold wrapErr; rw [if_neg (by decide), if_neg (by omega)]), ← show V = wr1 135 (strOf t) from HV.out] at HW1
        rw [show ((kdOf 7 : Nat) : Int) = 3 from rfl] at HK
        have hix := fun W => index_kd 3 (by decide) W
        clear HV htl
        go_enter Tryz.func30, Tryz.ntmps30
        go_wp2_with (first
          | (go_at_call 42; (with_reducible refine HC.out.mono ?_); rintro e w1 ⟨rfl, hb1⟩; have HB1 := Lib.hid (below_next HB0.out hb1); have d0 := (hb1.cell (p := ⟨w.heap.size, 0, none⟩) l0).trans c0; have d1 := (hb1.cell (p := ⟨w.heap.size, 1, none⟩) l0).trans c1; have d2 := (hb1.cell (p := ⟨w.heap.size, 2, none⟩) l0).trans c2; have l1 := Nat.lt_of_lt_of_le l0 hb1.size; clear hb1)
          | (go_at_call 50; (with_reducible refine (HK.out _ HB1.out).mono ?_); rintro e w2 ⟨rfl, hb2⟩; have HB2 := Lib.hid (below_next HB1.out hb2); have e1 := (hb2.cell (p := ⟨w.heap.size, 1, none⟩) l1).trans d1; have e2 := (hb2.cell (p := ⟨w.heap.size, 2, none⟩) l1).trans d2; obtain ⟨k0, k1, k2, k3, k4, k5, k6, k7, k8, k9, k10, k11⟩ := HKC.out _ HB2.out; clear hb2)
          | (go_at_call 62; (with_reducible refine (HW1.out _ _ (bx1 _ _ _)).mono ?_); rintro e w5 ⟨rfl, hb5⟩; have HB5 := Lib.hid (below_next HB2.out (below_next (belowNew _ _) hb5)); clear hb5))
        go_ret2
        exact ⟨rfl, HB5.out⟩
  · have hz1 := errno_ne hz
    have HV := Lib.hid (show V = ⟨#[]⟩ by rw [hV]; unfold encG; rw [← hE, if_neg hz])
    clear hE hV HN HK HKC
    rw [HV.out]
    go_enter Tryz.func30, Tryz.ntmps30
    go_wp2_with (go_at_call 42; (with_reducible refine HC.out.mono ?_); rintro e w1 ⟨rfl, hb1⟩; have HB1 := Lib.hid (below_next HB0.out hb1); clear hb1)
    go_ret2
    exact ⟨rfl, HB1.out⟩
end Go.Proofs.YtflpajbcomhkpaaGreatDoor
namespace Go.Proofs.YtflpajbcomhkpaaGreatDoor
open Go.RowKit

set_option maxHeartbeats 1000000 in
theorem gsmall_any (c : UInt8) (w : World) :
    Calls Tryz.prog 154 #[.int .u8 ((c.toNat : Nat) : Int)] w fun e w' => e = .returned (.int .u8 (((small c).toNat : Nat) : Int)) ∧ w' = w := by
  by_cases h : 65 ≤ c.toNat ∧ c.toNat ≤ 90
  · have HS := Lib.hid (small_big h)
    obtain ⟨n, hn⟩ : ∃ n, n = c.toNat := ⟨_, rfl⟩
    rw [← hn] at h HS ⊢
    have d1 : decide ((65 : Int) ≤ (n : Int)) = true := by simp; omega
    have d2 : decide ((n : Int) ≤ 90) = true := by simp; omega
    obtain ⟨m, hm⟩ : ∃ m, m = (small c).toNat := ⟨_, rfl⟩
    rw [← hm] at HS ⊢
    have HM := Lib.hid (show (m : Int) = (n : Int) - 65 + 97 by have := HS.out; omega)
    clear hm hn
    go_enter Tryz.func154, Tryz.ntmps154
    go_wp2_with fail
    go_ret
    exact ⟨by rw [HM.out]; rfl, rfl⟩
  · have HS := Lib.hid (small_low h)
    obtain ⟨n, hn⟩ : ∃ n, n = c.toNat := ⟨_, rfl⟩
    have HN := Lib.hid (show small c = c → (small c).toNat = n from fun e => by rw [e, hn])
    rw [← hn] at h ⊢
    clear hn
    by_cases h1 : 65 ≤ n
    · have d1 : decide ((65 : Int) ≤ (n : Int)) = true := by simp; omega
      have d2 : decide ((n : Int) ≤ 90) = false := by simp; omega
      clear h
      go_enter Tryz.func154, Tryz.ntmps154
      go_wp2_with fail
      go_ret
      exact ⟨by rw [HN.out HS.out]; rfl, rfl⟩
    · have d1 : decide ((65 : Int) ≤ (n : Int)) = false := by simp; omega
      clear h
      go_enter Tryz.func154, Tryz.ntmps154
      go_wp2_with fail
      go_ret
      exact ⟨by rw [HN.out HS.out]; rfl, rfl⟩
theorem alike_cons (x y : UInt8) (s t : List UInt8) : alikeB (x :: s) (y :: t) = (decide (small x = small y) && alikeB s t) := by
  unfold alikeB lowL
  rw [List.map_cons, List.map_cons, Bool.eq_iff_iff, Bool.and_eq_true, decide_eq_true_iff, decide_eq_true_iff, decide_eq_true_iff, List.cons.injEq]
theorem alike_len {a b : List UInt8} (h : a.length ≠ b.length) : alikeB a b = false :=
  decide_eq_false (fun e => h (by have := congrArg List.length e; rwa [lowL_length, lowL_length] at this))
theorem small_eq {x y : UInt8} : small x = small y ↔ (small x).toNat = (small y).toNat := UInt8.toNat_inj.symm
theorem gsmall_b (c : UInt8) (w : World) :
    Calls Tryz.prog 154 #[.int .u8 ((c.toNat : Nat) : Int)] w fun e w' => e = .returned (.int .u8 (((small c).toNat : Nat) : Int)) ∧ Below w.heap.size w w' :=
  (gsmall_any c w).mono fun _ _ h => ⟨h.1, by rw [h.2]; exact Below.refl _ _⟩
set_option maxRecDepth 100000 in
set_option maxHeartbeats 2000000 in
theorem gequal_any (a b : List UInt8) (ha : a.length ≤ 150000) (_ : b.length ≤ 150000) (w : World) :
    Calls Tryz.prog 117 #[.string (strOf a), .string (strOf b)] w fun e w' => e = .returned (.bool (alikeB a b)) ∧ Below w.heap.size w w' := by
  have es := strOf_size a
  have et := strOf_size b
  by_cases hn : a.length = b.length
  · rw [← hn] at et
    go_enter Tryz.func117, Tryz.ntmps117
    go_wp2_with fail
    go_loopw [13] (fun i wr => ∃ m : Nat, m ≤ a.length ∧ i = .int .i64 (m : Int) ∧ alikeB a b = alikeB (a.drop m) (b.drop m) ∧ Below w.heap.size w wr) (fun i _ => a.length - (intOf i).toNat)
    case atStart => exact ⟨0, Nat.zero_le _, rfl, rfl, Below.refl _ _⟩
    case round =>
      obtain ⟨m, hm, rfl, hal, hb⟩ := hrel
      have HB := Lib.hid hb
      clear hb
      by_cases hmt : m < a.length
      · have hd : decide ((m : Int) < (a.length : Int)) = true := by simp; omega
        obtain ⟨c, hc, hcn⟩ := u8at_list (strOf a) m (by rw [es]; exact hmt)
        have hix := run_index_u8 (P := Tryz.prog) Tryz.underlying9 (strOf a) m (by rw [es]; exact hmt) (m : Int) rfl
        rw [hcn] at hix
        rw [strOf_list] at hc
        obtain ⟨d, hd1, hdn⟩ := u8at_list (strOf b) m (by rw [et]; exact hmt)
        have hjx := run_index_u8 (P := Tryz.prog) Tryz.underlying9 (strOf b) m (by rw [et]; exact hmt) (m : Int) rfl
        rw [hdn] at hjx
        rw [strOf_list] at hd1
        rw [drop_cons hc, drop_cons hd1, alike_cons] at hal
        have HAL := Lib.hid hal
        have HC := Lib.hid (fun W => gsmall_b c W)
        have HD := Lib.hid (fun W => gsmall_b d W)
        have HSE := Lib.hid (small_eq (x := c) (y := d))
        generalize small c = x at HC HAL HSE
        generalize small d = y at HD HAL HSE
        generalize hp : x.toNat = p at HC HSE
        generalize hq : y.toNat = q at HD HSE
        clear hc hd1 hcn hdn hal hp hq
        by_cases hpq : p = q
        · have HN2 := Lib.hid (show alikeB a b = alikeB (a.drop (m + 1)) (b.drop (m + 1)) by rw [HAL.out, decide_eq_true (HSE.out.2 hpq), Bool.true_and])
          have e1 : ((p : Int) == (q : Int)) = true := beq_iff_eq.2 (by omega)
          have e2 : (p == q) = true := beq_iff_eq.2 hpq
          clear hpq HAL HSE
          go_upto_region 6 with (fail)
          have z1 : ∀ d os, _ := fun d os => Calls.regrown_of (HC.out (Sort.grow (redrawn wr d) os))
          have z2 : ∀ d os, _ := fun d os => Calls.regrown_of (HD.out (Sort.grow (redrawn wr d) os))
          refine wp_region_quiet_below (by kernel_rfl) (by kernel_rfl) ?_
          repeat (go_big_quiet_step (with_reducible first | exact z1 _ _ | exact z2 _ _))
          refine wpQuiet_nil ?_
          intro _ hw'
          obtain ⟨⟨dq, osq⟩, hw''⟩ := hw'
          subst hw''
          have HZ := Lib.hid (below_next HB.out (below_regrown wr dq osq))
          clear z1 z2
          go_wp2_with fail
          go_roundw
          case rel => exact ⟨m + 1, by omega, by go_num, HN2.out, HZ.out⟩
          case measure => simp [intOf]; omega
        · have HF := Lib.hid (show alikeB a b = false by rw [HAL.out, decide_eq_false (fun e => hpq (HSE.out.1 e)), Bool.false_and])
          have e1 : ((p : Int) == (q : Int)) = false := beq_eq_false_iff_ne.2 (fun e => hpq (by omega))
          have e2 : (p == q) = false := beq_eq_false_iff_ne.2 hpq
          clear hpq HAL HSE
          go_upto_region 6 with (fail)
          have z1 : ∀ d os, _ := fun d os => Calls.regrown_of (HC.out (Sort.grow (redrawn wr d) os))
          have z2 : ∀ d os, _ := fun d os => Calls.regrown_of (HD.out (Sort.grow (redrawn wr d) os))
          refine wp_region_quiet_below (by kernel_rfl) (by kernel_rfl) ?_
          repeat (go_big_quiet_step (with_reducible first | exact z1 _ _ | exact z2 _ _))
          refine wpQuiet_nil ?_
          intro _ hw'
          obtain ⟨⟨dq, osq⟩, hw''⟩ := hw'
          subst hw''
          have HZ := Lib.hid (below_next HB.out (below_regrown wr dq osq))
          clear z1 z2
          go_wp2_with fail
          go_ret
          exact ⟨by rw [HF.out]; rfl, HZ.out⟩
      · have hd : decide ((m : Int) < (a.length : Int)) = false := by simp; omega
        have HF := Lib.hid (show alikeB a b = true by rw [hal, List.drop_eq_nil_of_le (by omega), List.drop_eq_nil_of_le (by omega)]; exact alikeB_refl _)
        clear hal
        go_wp2_with fail
        go_ret
        exact ⟨by rw [HF.out]; rfl, HB.out⟩
  · have e1 : ((a.length : Int) == (b.length : Int)) = false := beq_eq_false_iff_ne.2 (fun e => hn (by omega))
    have e2 : (a.length == b.length) = false := beq_eq_false_iff_ne.2 hn
    have HF := Lib.hid (alike_len hn)
    clear hn
    go_enter Tryz.func117, Tryz.ntmps117
    go_wp2_with fail
    go_ret
    exact ⟨by rw [HF.out]; rfl, Below.refl _ _⟩
end Go.Proofs.YtflpajbcomhkpaaGreatDoor
namespace Go.Proofs.YtflpajbcomhkpaaGreatDoor
open Go.RowKit

set_option maxRecDepth 100000 in
set_option maxHeartbeats 2000000 in
theorem samemail_any (t u : List UInt8) (ht : t.length ≤ 150000) (hu : u.length ≤ 150000) (w : World) (hm : Mx w) :
    Calls Tryz.prog 116 #[.string (strOf t), .string (strOf u)] w fun e w' => e = .returned (.bool (if mailB t = true ∧ mailB u = true then mailMatchB t u else alikeB t u)) ∧ Below w.heap.size w w' := by
  have H1 := Lib.hid (fun W (hb : Below w.heap.size w W) => pmail_any t ht W (hm.below hb))
  have H2 := Lib.hid (fun W (hb : Below w.heap.size w W) => pmail_any u hu W (hm.below hb))
  have H3 := Lib.hid (fun W (hb : Below w.heap.size w W) => pmm_any t u ht hu W (hm.below hb))
  have H4 := Lib.hid (fun W => gequal_any t u ht hu W)
  have HR := Lib.hid (Below.refl w.heap.size w)
  clear hm
  cases b1 : mailB t with
  | false =>
    rw [b1] at H1
    rw [if_neg (by simp)]
    clear b1
    go_enter Tryz.func116, Tryz.ntmps116
    go_wp2_with (first
      | (go_at_call 152; (with_reducible refine (H1.out _ HR.out).mono ?_); rintro e w1 ⟨rfl, hb1⟩; have HB1 := Lib.hid hb1; clear hb1)
      | (go_at_call 117; (with_reducible refine (H4.out _).mono ?_); rintro e w4 ⟨rfl, hb4⟩; have HB4 := Lib.hid (below_next HB1.out hb4); clear hb4))
    go_ret
    exact ⟨rfl, HB4.out⟩
  | true =>
    rw [b1] at H1
    cases b2 : mailB u with
    | false =>
      rw [b2] at H2
      rw [if_neg (by simp)]
      clear b1 b2
      go_enter Tryz.func116, Tryz.ntmps116
      go_wp2_with (first
        | (go_at_call 152; (with_reducible refine (H1.out _ HR.out).mono ?_); rintro e w1 ⟨rfl, hb1⟩; have HB1 := Lib.hid hb1; clear hb1)
        | (go_at_call 152; (with_reducible refine (H2.out _ HB1.out).mono ?_); rintro e w2 ⟨rfl, hb2⟩; have HB2 := Lib.hid (below_next HB1.out hb2); clear hb2)
        | (go_at_call 117; (with_reducible refine (H4.out _).mono ?_); rintro e w4 ⟨rfl, hb4⟩; have HB4 := Lib.hid (below_next HB2.out hb4); clear hb4))
      go_ret
      exact ⟨rfl, HB4.out⟩
    | true =>
      rw [b2] at H2
      rw [if_pos ⟨rfl, rfl⟩]
      clear b1 b2
      go_enter Tryz.func116, Tryz.ntmps116
      go_wp2_with (first
        | (go_at_call 152; (with_reducible refine (H1.out _ HR.out).mono ?_); rintro e w1 ⟨rfl, hb1⟩; have HB1 := Lib.hid hb1; clear hb1)
        | (go_at_call 152; (with_reducible refine (H2.out _ HB1.out).mono ?_); rintro e w2 ⟨rfl, hb2⟩; have HB2 := Lib.hid (below_next HB1.out hb2); clear hb2)
        | (go_at_call 153; (with_reducible refine (H3.out _ HB2.out).mono ?_); rintro e w3 ⟨rfl, hb3⟩; have HB3 := Lib.hid (below_next HB2.out hb3); clear hb3))
      go_ret
      exact ⟨rfl, HB3.out⟩

set_option maxRecDepth 100000 in
set_option maxHeartbeats 4000000 in
theorem gsame_core (a0 b0 : Option Addr) (c d n m : Nat) (k l : Int) (t u : List UInt8) (r s : Nm) (w : World) (h1 : RLies w a0 r) (h2 : RLies w b0 s) (hn : n = r.length) (hm : m = s.length) (_ : n ≤ c) (ht : t.length ≤ 150000) (hu : u.length ≤ 150000) (hr : SmallN r) (hs : SmallN s) (hmk : Mk w) :
    Calls Tryz.prog 69 #[.agg #[.int .i64 k, .string (strOf t), .slice a0 n c], .agg #[.int .i64 l, .string (strOf u), .slice b0 m d]] w fun e w' => e = .returned (.bool (sameG k t r l u s)) ∧ Below w.heap.size w w' := by
  obtain ⟨W0, hW0⟩ : ∃ W0, W0 = (w.alloc (.cells #[.int .i64 k, .string (strOf t), .slice a0 n c] 32)).alloc (.cells #[.int .i64 l, .string (strOf u), .slice b0 m d] 32) := ⟨_, rfl⟩
  have hwr : (w.alloc (.cells #[.int .i64 k, .string (strOf t), .slice a0 n c] 32)).alloc (.cells #[.int .i64 l, .string (strOf u), .slice b0 m d] 32) = W0 := hW0.symm
  have hb0 : Below w.heap.size w W0 := by rw [hW0]; exact belowTwo w _ _
  obtain ⟨c0, c1, c2, d0, d1, d2, l1⟩ := box_two w (.int .i64 k) (.string (strOf t)) (.slice a0 n c) (.int .i64 l) (.string (strOf u)) (.slice b0 m d) 32
  rw [← hW0] at c0 c1 c2 d0 d1 d2 l1
  have l0 : w.heap.size < W0.heap.size := by omega
  have HB0 := Lib.hid hb0
  have HT := Lib.hid ht
  have HU := Lib.hid hu
  have HK := Lib.hid (fun W (hb : Below w.heap.size w W) => gkind_any k (strOf t) a0 n c W (hmk.below hb).2)
  obtain ⟨E, hE⟩ : ∃ E, E = sameG k t r l u s := ⟨_, rfl⟩
  rw [← hE]
  have HE := Lib.hid hE
  clear hE hW0
  have HSM := Lib.hid (fun W (hb : Below w.heap.size w W) => samemail_any t u HT.out HU.out W (hmk.below hb).1)
  have HA := Lib.hid (fun W (hb : Below w.heap.size w W) => gequal_any t u HT.out HU.out W)
  have HX := Lib.hid (fun W (hb : Below w.heap.size w W) => match_core a0 b0 c d n m r s W (h1.below hb) (h2.below hb) hn hm hr hs)
  clear h1 h2 hn hm hr hs ht hu hb0 hmk
  by_cases hkl : k = l
  case neg =>
    have e1 : (k != l) = true := bne_iff_ne.2 hkl
    have HV := Lib.hid (show E = false by rw [HE.out]; unfold sameG; rw [if_pos hkl])
    clear hkl
    go_enter Tryz.func69, Tryz.ntmps69
    go_wp2_with fail
    go_ret
    exact ⟨by rw [HV.out]; rfl, HB0.out⟩
  subst hkl
  rcases kind_or k with rfl | rfl | rfl | rfl | hk
  · have HV := Lib.hid (show E = (if mailB t = true ∧ mailB u = true then mailMatchB t u else alikeB t u) by rw [HE.out]; unfold sameG; rw [if_neg (by simp), if_pos rfl])
    rw [show ((kdOf 1 : Nat) : Int) = 0 from rfl] at HK
    rw [← HV.out] at HSM
    go_enter Tryz.func69, Tryz.ntmps69
    go_wp2_with (first
      | (go_at_call 50; (with_reducible refine (HK.out _ HB0.out).mono ?_); rintro e w1 ⟨rfl, hb9⟩; have HB1 := Lib.hid (below_next HB0.out hb9); have q0 := (hb9.cell (p := ⟨w.heap.size, 0, none⟩) l0).trans c0; have q1 := (hb9.cell (p := ⟨w.heap.size, 1, none⟩) l0).trans c1; have q2 := (hb9.cell (p := ⟨w.heap.size, 2, none⟩) l0).trans c2; have p0 := (hb9.cell (p := ⟨w.heap.size + 1, 0, none⟩) l1).trans d0; have p1 := (hb9.cell (p := ⟨w.heap.size + 1, 1, none⟩) l1).trans d1; have p2 := (hb9.cell (p := ⟨w.heap.size + 1, 2, none⟩) l1).trans d2; clear hb9)
      | (go_at_call 116; (with_reducible refine (HSM.out _ HB1.out).mono ?_); rintro e w2 ⟨rfl, hb9⟩; have HB2 := Lib.hid (below_next HB1.out hb9); clear hb9))
    go_ret
    exact ⟨rfl, HB2.out⟩
  · have HV := Lib.hid (show E = alikeB t u by rw [HE.out]; unfold sameG; rw [if_neg (by simp), if_neg (by decide), if_pos rfl])
    rw [show ((kdOf 2 : Nat) : Int) = 1 from rfl] at HK
    go_enter Tryz.func69, Tryz.ntmps69
    go_wp2_with (first
      | (go_at_call 50; (with_reducible refine (HK.out _ HB0.out).mono ?_); rintro e w1 ⟨rfl, hb9⟩; have HB1 := Lib.hid (below_next HB0.out hb9); have q0 := (hb9.cell (p := ⟨w.heap.size, 0, none⟩) l0).trans c0; have q1 := (hb9.cell (p := ⟨w.heap.size, 1, none⟩) l0).trans c1; have q2 := (hb9.cell (p := ⟨w.heap.size, 2, none⟩) l0).trans c2; have p0 := (hb9.cell (p := ⟨w.heap.size + 1, 0, none⟩) l1).trans d0; have p1 := (hb9.cell (p := ⟨w.heap.size + 1, 1, none⟩) l1).trans d1; have p2 := (hb9.cell (p := ⟨w.heap.size + 1, 2, none⟩) l1).trans d2; clear hb9)
      | (go_at_call 117; (with_reducible refine (HA.out _ HB1.out).mono ?_); rintro e w2 ⟨rfl, hb9⟩; have HB2 := Lib.hid (below_next HB1.out hb9); clear hb9))
    go_ret
    exact ⟨by rw [HV.out]; rfl, HB2.out⟩
  · have HV := Lib.hid (show E = decide (MatchN r s) by rw [HE.out]; unfold sameG; rw [if_neg (by simp), if_neg (by decide), if_neg (by decide), if_pos rfl])
    rw [show ((kdOf 4 : Nat) : Int) = 2 from rfl] at HK
    go_enter Tryz.func69, Tryz.ntmps69
    go_wp2_with (first
      | (go_at_call 50; (with_reducible refine (HK.out _ HB0.out).mono ?_); rintro e w1 ⟨rfl, hb9⟩; have HB1 := Lib.hid (below_next HB0.out hb9); have q0 := (hb9.cell (p := ⟨w.heap.size, 0, none⟩) l0).trans c0; have q1 := (hb9.cell (p := ⟨w.heap.size, 1, none⟩) l0).trans c1; have q2 := (hb9.cell (p := ⟨w.heap.size, 2, none⟩) l0).trans c2; have p0 := (hb9.cell (p := ⟨w.heap.size + 1, 0, none⟩) l1).trans d0; have p1 := (hb9.cell (p := ⟨w.heap.size + 1, 1, none⟩) l1).trans d1; have p2 := (hb9.cell (p := ⟨w.heap.size + 1, 2, none⟩) l1).trans d2; clear hb9)
      | (go_at_call 118; (with_reducible refine (HX.out _ HB1.out).mono ?_); rintro e w2 ⟨rfl, hb9⟩; have HB2 := Lib.hid (below_next HB1.out hb9); clear hb9))
    go_ret
    exact ⟨by rw [HV.out]; rfl, HB2.out⟩
  · have HV := Lib.hid (show E = decide (t = u) by rw [HE.out]; unfold sameG; rw [if_neg (by simp), if_neg (by decide), if_neg (by decide), if_neg (by decide), if_pos rfl])
    rw [show ((kdOf 7 : Nat) : Int) = 3 from rfl] at HK
    go_enter Tryz.func69, Tryz.ntmps69
    go_wp2_with (go_at_call 50; (with_reducible refine (HK.out _ HB0.out).mono ?_); rintro e w1 ⟨rfl, hb9⟩; have HB1 := Lib.hid (below_next HB0.out hb9); have q0 := (hb9.cell (p := ⟨w.heap.size, 0, none⟩) l0).trans c0; have q1 := (hb9.cell (p := ⟨w.heap.size, 1, none⟩) l0).trans c1; have q2 := (hb9.cell (p := ⟨w.heap.size, 2, none⟩) l0).trans c2; have p0 := (hb9.cell (p := ⟨w.heap.size + 1, 0, none⟩) l1).trans d0; have p1 := (hb9.cell (p := ⟨w.heap.size + 1, 1, none⟩) l1).trans d1; have p2 := (hb9.cell (p := ⟨w.heap.size + 1, 2, none⟩) l1).trans d2; clear hb9)
    go_ret
    exact ⟨by rw [HV.out, ← beq_of]; rfl, HB1.out⟩
  · have HV := Lib.hid (show E = false by rw [HE.out]; unfold sameG; rw [if_neg (by simp), if_neg hk.1, if_neg hk.2.1, if_neg hk.2.2.1, if_neg hk.2.2.2])
    rw [kdOf_no hk, show (((4 : Nat)) : Int) = 4 from rfl] at HK
    have e0 : (k != k) = false := by simp
    clear hk
    go_enter Tryz.func69, Tryz.ntmps69
    go_wp2_with (go_at_call 50; (with_reducible refine (HK.out _ HB0.out).mono ?_); rintro e w1 ⟨rfl, hb9⟩; have HB1 := Lib.hid (below_next HB0.out hb9); have q0 := (hb9.cell (p := ⟨w.heap.size, 0, none⟩) l0).trans c0; have q1 := (hb9.cell (p := ⟨w.heap.size, 1, none⟩) l0).trans c1; have q2 := (hb9.cell (p := ⟨w.heap.size, 2, none⟩) l0).trans c2; have p0 := (hb9.cell (p := ⟨w.heap.size + 1, 0, none⟩) l1).trans d0; have p1 := (hb9.cell (p := ⟨w.heap.size + 1, 1, none⟩) l1).trans d1; have p2 := (hb9.cell (p := ⟨w.heap.size + 1, 2, none⟩) l1).trans d2; clear hb9)
    go_ret
    exact ⟨by rw [HV.out]; rfl, HB1.out⟩

set_option maxRecDepth 100000 in
set_option maxHeartbeats 4000000 in
theorem gmatch_core (a0 b0 : Option Addr) (c d n m : Nat) (k l : Int) (t u : List UInt8) (r s : Nm) (w : World) (h1 : RLies w a0 r) (h2 : RLies w b0 s) (hn : n = r.length) (hm : m = s.length) (hnc : n ≤ c) (ht : t.length ≤ 150000) (hu : u.length ≤ 150000) (hr : SmallN r) (hs : SmallN s) (hmk : Mk w) :
    Calls Tryz.prog 33 #[.agg #[.int .i64 k, .string (strOf t), .slice a0 n c], .agg #[.int .i64 l, .string (strOf u), .slice b0 m d]] w fun e w' => e = .returned (.bool (matchG k t r l u s)) ∧ Below w.heap.size w w' := by
  obtain ⟨W0, hW0⟩ : ∃ W0, W0 = (w.alloc (.cells #[.int .i64 k, .string (strOf t), .slice a0 n c] 32)).alloc (.cells #[.int .i64 l, .string (strOf u), .slice b0 m d] 32) := ⟨_, rfl⟩
  have hwr : (w.alloc (.cells #[.int .i64 k, .string (strOf t), .slice a0 n c] 32)).alloc (.cells #[.int .i64 l, .string (strOf u), .slice b0 m d] 32) = W0 := hW0.symm
  have hb0 : Below w.heap.size w W0 := by rw [hW0]; exact belowTwo w _ _
  obtain ⟨c0, c1, c2, d0, d1, d2, l1⟩ := box_two w (.int .i64 k) (.string (strOf t)) (.slice a0 n c) (.int .i64 l) (.string (strOf u)) (.slice b0 m d) 32
  rw [← hW0] at c0 c1 c2 d0 d1 d2 l1
  have l0 : w.heap.size < W0.heap.size := by omega
  have HB0 := Lib.hid hb0
  have HT := Lib.hid ht
  have HU := Lib.hid hu
  have HK := Lib.hid (fun W (hb : Below w.heap.size w W) => gkind_any k (strOf t) a0 n c W (hmk.below hb).2)
  obtain ⟨E, hE⟩ : ∃ E, E = matchG k t r l u s := ⟨_, rfl⟩
  rw [← hE]
  have HE := Lib.hid hE
  clear hE hW0
  have HDM := Lib.hid (fun W (hb : Below w.heap.size w W) => pmatch_any t u HT.out HU.out W)
  have HX := Lib.hid (fun W (hb : Below w.heap.size w W) => gsame_core a0 b0 c d n m k l t u r s W (h1.below hb) (h2.below hb) hn hm hnc HT.out HU.out hr hs (hmk.below hb))
  clear h1 h2 hn hm hnc hr hs ht hu hb0 hmk
  by_cases hkl : k = l
  case neg =>
    have e1 : (k == l) = false := beq_eq_false_iff_ne.2 hkl
    have HV := Lib.hid (show E = sameG k t r l u s by rw [HE.out]; unfold matchG; rw [if_neg (fun q => hkl (q.1.trans q.2.symm))])
    clear hkl
    go_enter Tryz.func33, Tryz.ntmps33
    go_wp2_with (go_at_call 69; (with_reducible refine (HX.out _ HB0.out).mono ?_); rintro e w2 ⟨rfl, hb9⟩; have HB2 := Lib.hid (below_next HB0.out hb9); clear hb9)
    go_ret
    exact ⟨by rw [HV.out]; rfl, HB2.out⟩
  subst hkl
  by_cases hk : k = 2
  · subst hk
    have HV := Lib.hid (show E = dnsMatchB t u by rw [HE.out]; unfold matchG; rw [if_pos ⟨rfl, rfl⟩])
    rw [show ((kdOf 2 : Nat) : Int) = 1 from rfl] at HK
    go_enter Tryz.func33, Tryz.ntmps33
    go_wp2_with (first
      | (go_at_call 50; (with_reducible refine (HK.out _ HB0.out).mono ?_); rintro e w1 ⟨rfl, hb9⟩; have HB1 := Lib.hid (below_next HB0.out hb9); have q0 := (hb9.cell (p := ⟨w.heap.size, 0, none⟩) l0).trans c0; have q1 := (hb9.cell (p := ⟨w.heap.size, 1, none⟩) l0).trans c1; have q2 := (hb9.cell (p := ⟨w.heap.size, 2, none⟩) l0).trans c2; have p0 := (hb9.cell (p := ⟨w.heap.size + 1, 0, none⟩) l1).trans d0; have p1 := (hb9.cell (p := ⟨w.heap.size + 1, 1, none⟩) l1).trans d1; have p2 := (hb9.cell (p := ⟨w.heap.size + 1, 2, none⟩) l1).trans d2; clear hb9)
      | (go_at_call 68; (with_reducible refine (HDM.out _ HB1.out).mono ?_); rintro e w2 ⟨rfl, hb9⟩; have HB2 := Lib.hid (below_next HB1.out hb9); clear hb9))
    go_ret
    exact ⟨by rw [HV.out]; rfl, HB2.out⟩
  · have HV := Lib.hid (show E = sameG k t r k u s by rw [HE.out]; unfold matchG; rw [if_neg (fun q => hk q.1)])
    have e1 : (k == k) = true := by simp
    have hz : (((kdOf k : Nat) : Int) == 1) = false := by
      rcases kind_or k with rfl | rfl | rfl | rfl | hk'
      · rfl
      · exact absurd rfl hk
      · rfl
      · rfl
      · rw [kdOf_no hk']; rfl
    generalize ((kdOf k : Nat) : Int) = z at HK hz
    clear hk
    go_enter Tryz.func33, Tryz.ntmps33
    go_wp2_with (first
      | (go_at_call 50; (with_reducible refine (HK.out _ HB0.out).mono ?_); rintro e w1 ⟨rfl, hb9⟩; have HB1 := Lib.hid (below_next HB0.out hb9); have q0 := (hb9.cell (p := ⟨w.heap.size, 0, none⟩) l0).trans c0; have q1 := (hb9.cell (p := ⟨w.heap.size, 1, none⟩) l0).trans c1; have q2 := (hb9.cell (p := ⟨w.heap.size, 2, none⟩) l0).trans c2; have p0 := (hb9.cell (p := ⟨w.heap.size + 1, 0, none⟩) l1).trans d0; have p1 := (hb9.cell (p := ⟨w.heap.size + 1, 1, none⟩) l1).trans d1; have p2 := (hb9.cell (p := ⟨w.heap.size + 1, 2, none⟩) l1).trans d2; clear hb9)
      | (go_at_call 69; (with_reducible refine (HX.out _ HB1.out).mono ?_); rintro e w2 ⟨rfl, hb9⟩; have HB2 := Lib.hid (below_next HB1.out hb9); clear hb9))
    go_ret
    exact ⟨by rw [HV.out]; rfl, HB2.out⟩
end Go.Proofs.YtflpajbcomhkpaaGreatDoor
namespace Go.Proofs.YtflpajbcomhkpaaGreatDoor
open Go.RowKit

end Go.Proofs.YtflpajbcomhkpaaGreatDoor
namespace Go.Proofs.YtflpajbcomhkpaaGreatDoor
open Go.RowKit

theorem gPEnc : PEnc := fun a0 c m k t n con w h hn ht hs hT hmk => genc_core a0 c m k t n con w h hn ht hs hT hmk
theorem gPMatch : PMatch := fun a0 b0 c d n m k l t u r s w h1 h2 hn hm hnc ht hu hr hs hmk => gmatch_core a0 b0 c d n m k l t u r s w h1 h2 hn hm hnc ht hu hr hs hmk
end Go.Proofs.YtflpajbcomhkpaaGreatDoor
