/-
  All contracts of package host at one place.
  The contracts of gname's sameMail, Same, Match and Within.
-/
import Derived.Test.YtofadgmnjckpcaaGreatDoorVay
import Derived.Test.YtofadgmnjckpcaaGreatDoorVap
import Derived.Test.YtofadgmnjckpcaaGreatDoorVau
import Derived.Test.YtofadgmnjckpcaaGreatDoorVao
import Derived.Test.YtofadgmnjckpcaaGreatDoorVaf
import Derived.Test.YtofadgmnjckpcaaGreatDoorVan

namespace Go.Proofs.YtofadgmnjckpcaaGreatDoor
open Go.RowKit

set_option maxRecDepth 100000 in
set_option maxHeartbeats 2000000 in
theorem samemail_any (t u : List UInt8) (ht : t.length ≤ 100000) (hu : u.length ≤ 100000) (w : World) (hm : Mx w) :
    Calls Tryz.prog 73 #[.string (strOf t), .string (strOf u)] w fun e w' => e = .returned (.bool (if mailB t = true ∧ mailB u = true then mailMatchB t u else alikeB t u)) ∧ Below w.heap.size w w' := by
  have H1 := Lib.hid (fun W (hb : Below w.heap.size w W) => pmail_any t ht W (hm.below hb))
  have H2 := Lib.hid (fun W (hb : Below w.heap.size w W) => pmail_any u hu W (hm.below hb))
  have H3 := Lib.hid (fun W (hb : Below w.heap.size w W) => pmm_any t u ht hu W (hm.below hb))
  have H4 := Lib.hid (fun W => gequal_any t u ht hu W)
  have HR := Lib.hid (Below.refl w.heap.size w)
  clear hm
  cases b1 : mailB t with
  | false =>
    rw [b1] at H1
    rw [if_neg (by simp)]
    clear b1
    go_enter Tryz.func73, Tryz.ntmps73
    go_wp2_with (first
      | (go_at_call 92; (with_reducible refine (H1.out _ HR.out).mono ?_); rintro e w1 ⟨rfl, hb1⟩; have HB1 := Lib.hid hb1; clear hb1)
      | (go_at_call 74; (with_reducible refine (H4.out _).mono ?_); rintro e w4 ⟨rfl, hb4⟩; have HB4 := Lib.hid (below_next HB1.out hb4); clear hb4))
    go_ret
    exact ⟨rfl, HB4.out⟩
  | true =>
    rw [b1] at H1
    cases b2 : mailB u with
    | false =>
      rw [b2] at H2
      rw [if_neg (by simp)]
      clear b1 b2
      go_enter Tryz.func73, Tryz.ntmps73
      go_wp2_with (first
        | (go_at_call 92; (with_reducible refine (H1.out _ HR.out).mono ?_); rintro e w1 ⟨rfl, hb1⟩; have HB1 := Lib.hid hb1; clear hb1)
        | (go_at_call 92; (with_reducible refine (H2.out _ HB1.out).mono ?_); rintro e w2 ⟨rfl, hb2⟩; have HB2 := Lib.hid (below_next HB1.out hb2); clear hb2)
        | (go_at_call 74; (with_reducible refine (H4.out _).mono ?_); rintro e w4 ⟨rfl, hb4⟩; have HB4 := Lib.hid (below_next HB2.out hb4); clear hb4))
      go_ret
      exact ⟨rfl, HB4.out⟩
    | true =>
      rw [b2] at H2
      rw [if_pos ⟨rfl, rfl⟩]
      clear b1 b2
      go_enter Tryz.func73, Tryz.ntmps73
      go_wp2_with (first
        | (go_at_call 92; (with_reducible refine (H1.out _ HR.out).mono ?_); rintro e w1 ⟨rfl, hb1⟩; have HB1 := Lib.hid hb1; clear hb1)
        | (go_at_call 92; (with_reducible refine (H2.out _ HB1.out).mono ?_); rintro e w2 ⟨rfl, hb2⟩; have HB2 := Lib.hid (below_next HB1.out hb2); clear hb2)
        | (go_at_call 93; (with_reducible refine (H3.out _ HB2.out).mono ?_); rintro e w3 ⟨rfl, hb3⟩; have HB3 := Lib.hid (below_next HB2.out hb3); clear hb3))
      go_ret
      exact ⟨rfl, HB3.out⟩

set_option maxRecDepth 100000 in
set_option maxHeartbeats 4000000 in
theorem gsame_core (a0 b0 : Option Addr) (c d n m : Nat) (k l : Int) (t u : List UInt8) (r s : Nm) (w : World) (h1 : RLies w a0 r) (h2 : RLies w b0 s) (hn : n = r.length) (hm : m = s.length) (_ : n ≤ c) (ht : t.length ≤ 100000) (hu : u.length ≤ 100000) (hr : SmallN r) (hs : SmallN s) (hmk : Mk w) :
    Calls Tryz.prog 59 #[.agg #[.int .i64 k, .string (strOf t), .slice a0 n c], .agg #[.int .i64 l, .string (strOf u), .slice b0 m d]] w fun e w' => e = .returned (.bool (sameG k t r l u s)) ∧ Below w.heap.size w w' := by
  obtain ⟨W0, hW0⟩ : ∃ W0, W0 = (w.alloc (.cells #[.int .i64 k, .string (strOf t), .slice a0 n c] 32)).alloc (.cells #[.int .i64 l, .string (strOf u), .slice b0 m d] 32) := ⟨_, rfl⟩
  have hwr : (w.alloc (.cells #[.int .i64 k, .string (strOf t), .slice a0 n c] 32)).alloc (.cells #[.int .i64 l, .string (strOf u), .slice b0 m d] 32) = W0 := hW0.symm
  have hb0 : Below w.heap.size w W0 := by rw [hW0]; exact belowTwo w _ _
  obtain ⟨c0, c1, c2, d0, d1, d2, l1⟩ := box_two w (.int .i64 k) (.string (strOf t)) (.slice a0 n c) (.int .i64 l) (.string (strOf u)) (.slice b0 m d) 32
  rw [← hW0] at c0 c1 c2 d0 d1 d2 l1
  have l0 : w.heap.size < W0.heap.size := by omega
  have HB0 := Lib.hid hb0
  have HT := Lib.hid ht
  have HU := Lib.hid hu
  have HK := Lib.hid (fun W (hb : Below w.heap.size w W) => gkind_any k (strOf t) a0 n c W (hmk.below hb).2)
  obtain ⟨E, hE⟩ : ∃ E, E = sameG k t r l u s := ⟨_, rfl⟩
  rw [← hE]
  have HE := Lib.hid hE
  clear hE hW0
  have HSM := Lib.hid (fun W (hb : Below w.heap.size w W) => samemail_any t u HT.out HU.out W (hmk.below hb).1)
  have HA := Lib.hid (fun W (hb : Below w.heap.size w W) => gequal_any t u HT.out HU.out W)
  have HX := Lib.hid (fun W (hb : Below w.heap.size w W) => match_core a0 b0 c d n m r s W (h1.below hb) (h2.below hb) hn hm hr hs)
  clear h1 h2 hn hm hr hs ht hu hb0 hmk
  by_cases hkl : k = l
  case neg =>
    have e1 : (k != l) = true := bne_iff_ne.2 hkl
    have HV := Lib.hid (show E = false by rw [HE.out]; unfold sameG; rw [if_pos hkl])
    clear hkl
    go_enter Tryz.func59, Tryz.ntmps59
    go_wp2_with fail
    go_ret
    exact ⟨by rw [HV.out]; rfl, HB0.out⟩
  subst hkl
  rcases kind_or k with rfl | rfl | rfl | rfl | hk
  · have HV := Lib.hid (show E = (if mailB t = true ∧ mailB u = true then mailMatchB t u else alikeB t u) by rw [HE.out]; unfold sameG; rw [if_neg (by simp), if_pos rfl])
    rw [show ((kdOf 1 : Nat) : Int) = 0 from rfl] at HK
    rw [← HV.out] at HSM
    go_enter Tryz.func59, Tryz.ntmps59
    go_wp2_with (first
      | (go_at_call 72; (with_reducible refine (HK.out _ HB0.out).mono ?_); rintro e w1 ⟨rfl, hb9⟩; have HB1 := Lib.hid (below_next HB0.out hb9); have q0 := (hb9.cell (p := ⟨w.heap.size, 0, none⟩) l0).trans c0; have q1 := (hb9.cell (p := ⟨w.heap.size, 1, none⟩) l0).trans c1; have q2 := (hb9.cell (p := ⟨w.heap.size, 2, none⟩) l0).trans c2; have p0 := (hb9.cell (p := ⟨w.heap.size + 1, 0, none⟩) l1).trans d0; have p1 := (hb9.cell (p := ⟨w.heap.size + 1, 1, none⟩) l1).trans d1; have p2 := (hb9.cell (p := ⟨w.heap.size + 1, 2, none⟩) l1).trans d2; clear hb9)
      | (go_at_call 73; (with_reducible refine (HSM.out _ HB1.out).mono ?_); rintro e w2 ⟨rfl, hb9⟩; have HB2 := Lib.hid (below_next HB1.out hb9); clear hb9))
    go_ret
    exact ⟨rfl, HB2.out⟩
  · have HV := Lib.hid (show E = alikeB t u by rw [HE.out]; unfold sameG; rw [if_neg (by simp), if_neg (by decide), if_pos rfl])
    rw [show ((kdOf 2 : Nat) : Int) = 1 from rfl] at HK
    go_enter Tryz.func59, Tryz.ntmps59
    go_wp2_with (first
      | (go_at_call 72; (with_reducible refine (HK.out _ HB0.out).mono ?_); rintro e w1 ⟨rfl, hb9⟩; have HB1 := Lib.hid (below_next HB0.out hb9); have q0 := (hb9.cell (p := ⟨w.heap.size, 0, none⟩) l0).trans c0; have q1 := (hb9.cell (p := ⟨w.heap.size, 1, none⟩) l0).trans c1; have q2 := (hb9.cell (p := ⟨w.heap.size, 2, none⟩) l0).trans c2; have p0 := (hb9.cell (p := ⟨w.heap.size + 1, 0, none⟩) l1).trans d0; have p1 := (hb9.cell (p := ⟨w.heap.size + 1, 1, none⟩) l1).trans d1; have p2 := (hb9.cell (p := ⟨w.heap.size + 1, 2, none⟩) l1).trans d2; clear hb9)
      | (go_at_call 74; (with_reducible refine (HA.out _ HB1.out).mono ?_); rintro e w2 ⟨rfl, hb9⟩; have HB2 := Lib.hid (below_next HB1.out hb9); clear hb9))
    go_ret
    exact ⟨by rw [HV.out]; rfl, HB2.out⟩
  · have HV := Lib.hid (show E = decide (MatchN r s) by rw [HE.out]; unfold sameG; rw [if_neg (by simp), if_neg (by decide), if_neg (by decide), if_pos rfl])
    rw [show ((kdOf 4 : Nat) : Int) = 2 from rfl] at HK
    go_enter Tryz.func59, Tryz.ntmps59
    go_wp2_with (first
      | (go_at_call 72; (with_reducible refine (HK.out _ HB0.out).mono ?_); rintro e w1 ⟨rfl, hb9⟩; have HB1 := Lib.hid (below_next HB0.out hb9); have q0 := (hb9.cell (p := ⟨w.heap.size, 0, none⟩) l0).trans c0; have q1 := (hb9.cell (p := ⟨w.heap.size, 1, none⟩) l0).trans c1; have q2 := (hb9.cell (p := ⟨w.heap.size, 2, none⟩) l0).trans c2; have p0 := (hb9.cell (p := ⟨w.heap.size + 1, 0, none⟩) l1).trans d0; have p1 := (hb9.cell (p := ⟨w.heap.size + 1, 1, none⟩) l1).trans d1; have p2 := (hb9.cell (p := ⟨w.heap.size + 1, 2, none⟩) l1).trans d2; clear hb9)
      | (go_at_call 75; (with_reducible refine (HX.out _ HB1.out).mono ?_); rintro e w2 ⟨rfl, hb9⟩; have HB2 := Lib.hid (below_next HB1.out hb9); clear hb9))
    go_ret
    exact ⟨by rw [HV.out]; rfl, HB2.out⟩
  · have HV := Lib.hid (show E = decide (t = u) by rw [HE.out]; unfold sameG; rw [if_neg (by simp), if_neg (by decide), if_neg (by decide), if_neg (by decide), if_pos rfl])
    rw [show ((kdOf 7 : Nat) : Int) = 3 from rfl] at HK
    go_enter Tryz.func59, Tryz.ntmps59
    go_wp2_with (go_at_call 72; (with_reducible refine (HK.out _ HB0.out).mono ?_); rintro e w1 ⟨rfl, hb9⟩; have HB1 := Lib.hid (below_next HB0.out hb9); have q0 := (hb9.cell (p := ⟨w.heap.size, 0, none⟩) l0).trans c0; have q1 := (hb9.cell (p := ⟨w.heap.size, 1, none⟩) l0).trans c1; have q2 := (hb9.cell (p := ⟨w.heap.size, 2, none⟩) l0).trans c2; have p0 := (hb9.cell (p := ⟨w.heap.size + 1, 0, none⟩) l1).trans d0; have p1 := (hb9.cell (p := ⟨w.heap.size + 1, 1, none⟩) l1).trans d1; have p2 := (hb9.cell (p := ⟨w.heap.size + 1, 2, none⟩) l1).trans d2; clear hb9)
    go_ret
    exact ⟨by rw [HV.out, ← beq_of]; rfl, HB1.out⟩
  · have HV := Lib.hid (show E = false by rw [HE.out]; unfold sameG; rw [if_neg (by simp), if_neg hk.1, if_neg hk.2.1, if_neg hk.2.2.1, if_neg hk.2.2.2])
    rw [kdOf_no hk, show (((4 : Nat)) : Int) = 4 from rfl] at HK
    have e0 : (k != k) = false := by simp
    clear hk
    go_enter Tryz.func59, Tryz.ntmps59
    go_wp2_with (go_at_call 72; (with_reducible refine (HK.out _ HB0.out).mono ?_); rintro e w1 ⟨rfl, hb9⟩; have HB1 := Lib.hid (below_next HB0.out hb9); have q0 := (hb9.cell (p := ⟨w.heap.size, 0, none⟩) l0).trans c0; have q1 := (hb9.cell (p := ⟨w.heap.size, 1, none⟩) l0).trans c1; have q2 := (hb9.cell (p := ⟨w.heap.size, 2, none⟩) l0).trans c2; have p0 := (hb9.cell (p := ⟨w.heap.size + 1, 0, none⟩) l1).trans d0; have p1 := (hb9.cell (p := ⟨w.heap.size + 1, 1, none⟩) l1).trans d1; have p2 := (hb9.cell (p := ⟨w.heap.size + 1, 2, none⟩) l1).trans d2; clear hb9)
    go_ret
    exact ⟨by rw [HV.out]; rfl, HB1.out⟩

set_option maxRecDepth 100000 in
set_option maxHeartbeats 4000000 in
theorem gwithin_core (a0 b0 : Option Addr) (c d n m : Nat) (k l : Int) (t u : List UInt8) (r s : Nm) (w : World) (h1 : RLies w a0 r) (h2 : RLies w b0 s) (hn : n = r.length) (hm : m = s.length) (hnc : n ≤ c) (ht : t.length ≤ 100000) (hu : u.length ≤ 100000) (hr : SmallN r) (hs : SmallN s) (hmk : Mk w) :
    Calls Tryz.prog 65 #[.agg #[.int .i64 k, .string (strOf t), .slice a0 n c], .agg #[.int .i64 l, .string (strOf u), .slice b0 m d]] w fun e w' => e = .returned (.bool (withinG k t r l u s)) ∧ Below w.heap.size w w' := by
  obtain ⟨W0, hW0⟩ : ∃ W0, W0 = (w.alloc (.cells #[.int .i64 k, .string (strOf t), .slice a0 n c] 32)).alloc (.cells #[.int .i64 l, .string (strOf u), .slice b0 m d] 32) := ⟨_, rfl⟩
  have hwr : (w.alloc (.cells #[.int .i64 k, .string (strOf t), .slice a0 n c] 32)).alloc (.cells #[.int .i64 l, .string (strOf u), .slice b0 m d] 32) = W0 := hW0.symm
  have hb0 : Below w.heap.size w W0 := by rw [hW0]; exact belowTwo w _ _
  obtain ⟨c0, c1, c2, d0, d1, d2, l1⟩ := box_two w (.int .i64 k) (.string (strOf t)) (.slice a0 n c) (.int .i64 l) (.string (strOf u)) (.slice b0 m d) 32
  rw [← hW0] at c0 c1 c2 d0 d1 d2 l1
  have l0 : w.heap.size < W0.heap.size := by omega
  have HB0 := Lib.hid hb0
  have HT := Lib.hid ht
  have HU := Lib.hid hu
  have HK := Lib.hid (fun W (hb : Below w.heap.size w W) => gkind_any k (strOf t) a0 n c W (hmk.below hb).2)
  obtain ⟨E, hE⟩ : ∃ E, E = withinG k t r l u s := ⟨_, rfl⟩
  rw [← hE]
  have HE := Lib.hid hE
  clear hE hW0
  have HMW := Lib.hid (fun W (hb : Below w.heap.size w W) => pmw_any t u HT.out HU.out W (hmk.below hb).1)
  have HDW := Lib.hid (fun W (hb : Below w.heap.size w W) => pwithin_any t u HT.out HU.out W)
  have HX := Lib.hid (fun W (hb : Below w.heap.size w W) => within_core a0 b0 c d n m r s W (h1.below hb) (h2.below hb) hn hm hnc hr hs)
  have HAW := Lib.hid (fun W (hb : Below w.heap.size w W) => paw_any t u HT.out HU.out W)
  clear h1 h2 hn hm hnc hr hs ht hu hb0 hmk
  by_cases hkl : k = l
  case neg =>
    have e1 : (k != l) = true := bne_iff_ne.2 hkl
    have HV := Lib.hid (show E = false by rw [HE.out]; unfold withinG; rw [if_pos hkl])
    clear hkl
    go_enter Tryz.func65, Tryz.ntmps65
    go_wp2_with fail
    go_ret
    exact ⟨by rw [HV.out]; rfl, HB0.out⟩
  subst hkl
  rcases kind_or k with rfl | rfl | rfl | rfl | hk
  · have HV := Lib.hid (show E = mailWithinB t u by rw [HE.out]; unfold withinG; rw [if_neg (by simp), if_pos rfl])
    rw [show ((kdOf 1 : Nat) : Int) = 0 from rfl] at HK
    go_enter Tryz.func65, Tryz.ntmps65
    go_wp2_with (first
      | (go_at_call 72; (with_reducible refine (HK.out _ HB0.out).mono ?_); rintro e w1 ⟨rfl, hb9⟩; have HB1 := Lib.hid (below_next HB0.out hb9); have q0 := (hb9.cell (p := ⟨w.heap.size, 0, none⟩) l0).trans c0; have q1 := (hb9.cell (p := ⟨w.heap.size, 1, none⟩) l0).trans c1; have q2 := (hb9.cell (p := ⟨w.heap.size, 2, none⟩) l0).trans c2; have p0 := (hb9.cell (p := ⟨w.heap.size + 1, 0, none⟩) l1).trans d0; have p1 := (hb9.cell (p := ⟨w.heap.size + 1, 1, none⟩) l1).trans d1; have p2 := (hb9.cell (p := ⟨w.heap.size + 1, 2, none⟩) l1).trans d2; clear hb9)
      | (go_at_call 80; (with_reducible refine (HMW.out _ HB1.out).mono ?_); rintro e w2 ⟨rfl, hb9⟩; have HB2 := Lib.hid (below_next HB1.out hb9); clear hb9))
    go_ret
    exact ⟨by rw [HV.out]; rfl, HB2.out⟩
  · have HV := Lib.hid (show E = dnsWithinB t u by rw [HE.out]; unfold withinG; rw [if_neg (by simp), if_neg (by decide), if_pos rfl])
    rw [show ((kdOf 2 : Nat) : Int) = 1 from rfl] at HK
    go_enter Tryz.func65, Tryz.ntmps65
    go_wp2_with (first
      | (go_at_call 72; (with_reducible refine (HK.out _ HB0.out).mono ?_); rintro e w1 ⟨rfl, hb9⟩; have HB1 := Lib.hid (below_next HB0.out hb9); have q0 := (hb9.cell (p := ⟨w.heap.size, 0, none⟩) l0).trans c0; have q1 := (hb9.cell (p := ⟨w.heap.size, 1, none⟩) l0).trans c1; have q2 := (hb9.cell (p := ⟨w.heap.size, 2, none⟩) l0).trans c2; have p0 := (hb9.cell (p := ⟨w.heap.size + 1, 0, none⟩) l1).trans d0; have p1 := (hb9.cell (p := ⟨w.heap.size + 1, 1, none⟩) l1).trans d1; have p2 := (hb9.cell (p := ⟨w.heap.size + 1, 2, none⟩) l1).trans d2; clear hb9)
      | (go_at_call 81; (with_reducible refine (HDW.out _ HB1.out).mono ?_); rintro e w2 ⟨rfl, hb9⟩; have HB2 := Lib.hid (below_next HB1.out hb9); clear hb9))
    go_ret
    exact ⟨by rw [HV.out]; rfl, HB2.out⟩
  · have HV := Lib.hid (show E = decide (WithinN r s) by rw [HE.out]; unfold withinG; rw [if_neg (by simp), if_neg (by decide), if_neg (by decide), if_pos rfl])
    rw [show ((kdOf 4 : Nat) : Int) = 2 from rfl] at HK
    go_enter Tryz.func65, Tryz.ntmps65
    go_wp2_with (first
      | (go_at_call 72; (with_reducible refine (HK.out _ HB0.out).mono ?_); rintro e w1 ⟨rfl, hb9⟩; have HB1 := Lib.hid (below_next HB0.out hb9); have q0 := (hb9.cell (p := ⟨w.heap.size, 0, none⟩) l0).trans c0; have q1 := (hb9.cell (p := ⟨w.heap.size, 1, none⟩) l0).trans c1; have q2 := (hb9.cell (p := ⟨w.heap.size, 2, none⟩) l0).trans c2; have p0 := (hb9.cell (p := ⟨w.heap.size + 1, 0, none⟩) l1).trans d0; have p1 := (hb9.cell (p := ⟨w.heap.size + 1, 1, none⟩) l1).trans d1; have p2 := (hb9.cell (p := ⟨w.heap.size + 1, 2, none⟩) l1).trans d2; clear hb9)
      | (go_at_call 82; (with_reducible refine (HX.out _ HB1.out).mono ?_); rintro e w2 ⟨rfl, hb9⟩; have HB2 := Lib.hid (below_next HB1.out hb9); clear hb9))
    go_ret
    exact ⟨by rw [HV.out]; rfl, HB2.out⟩
  · have HV := Lib.hid (show E = addrWithinB t u by rw [HE.out]; unfold withinG; rw [if_neg (by simp), if_neg (by decide), if_neg (by decide), if_neg (by decide), if_pos rfl])
    rw [show ((kdOf 7 : Nat) : Int) = 3 from rfl] at HK
    go_enter Tryz.func65, Tryz.ntmps65
    go_wp2_with (first
      | (go_at_call 72; (with_reducible refine (HK.out _ HB0.out).mono ?_); rintro e w1 ⟨rfl, hb9⟩; have HB1 := Lib.hid (below_next HB0.out hb9); have q0 := (hb9.cell (p := ⟨w.heap.size, 0, none⟩) l0).trans c0; have q1 := (hb9.cell (p := ⟨w.heap.size, 1, none⟩) l0).trans c1; have q2 := (hb9.cell (p := ⟨w.heap.size, 2, none⟩) l0).trans c2; have p0 := (hb9.cell (p := ⟨w.heap.size + 1, 0, none⟩) l1).trans d0; have p1 := (hb9.cell (p := ⟨w.heap.size + 1, 1, none⟩) l1).trans d1; have p2 := (hb9.cell (p := ⟨w.heap.size + 1, 2, none⟩) l1).trans d2; clear hb9)
      | (go_at_call 83; (with_reducible refine (HAW.out _ HB1.out).mono ?_); rintro e w2 ⟨rfl, hb9⟩; have HB2 := Lib.hid (below_next HB1.out hb9); clear hb9))
    go_ret
    exact ⟨by rw [HV.out]; rfl, HB2.out⟩
  · have HV := Lib.hid (show E = false by rw [HE.out]; unfold withinG; rw [if_neg (by simp), if_neg hk.1, if_neg hk.2.1, if_neg hk.2.2.1, if_neg hk.2.2.2])
    rw [kdOf_no hk, show (((4 : Nat)) : Int) = 4 from rfl] at HK
    have e0 : (k != k) = false := by simp
    clear hk
    go_enter Tryz.func65, Tryz.ntmps65
    go_wp2_with (go_at_call 72; (with_reducible refine (HK.out _ HB0.out).mono ?_); rintro e w1 ⟨rfl, hb9⟩; have HB1 := Lib.hid (below_next HB0.out hb9); have q0 := (hb9.cell (p := ⟨w.heap.size, 0, none⟩) l0).trans c0; have q1 := (hb9.cell (p := ⟨w.heap.size, 1, none⟩) l0).trans c1; have q2 := (hb9.cell (p := ⟨w.heap.size, 2, none⟩) l0).trans c2; have p0 := (hb9.cell (p := ⟨w.heap.size + 1, 0, none⟩) l1).trans d0; have p1 := (hb9.cell (p := ⟨w.heap.size + 1, 1, none⟩) l1).trans d1; have p2 := (hb9.cell (p := ⟨w.heap.size + 1, 2, none⟩) l1).trans d2; clear hb9)
    go_ret
    exact ⟨by rw [HV.out]; rfl, HB1.out⟩

end Go.Proofs.YtofadgmnjckpcaaGreatDoor
