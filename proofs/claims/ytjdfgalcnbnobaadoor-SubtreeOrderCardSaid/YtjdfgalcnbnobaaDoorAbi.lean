/-
  All contracts of package host at one place.
  The contracts of gname's sameMail, Same, Match and Within.
-/
import Derived.Test.YtjdfgalcnbnobaaDoorAbh
import Derived.Test.YtjdfgalcnbnobaaDoorAaq
import Derived.Test.YtjdfgalcnbnobaaDoorAba
import Derived.Test.YtjdfgalcnbnobaaDoorAao
import Derived.Test.YtjdfgalcnbnobaaDoorAaj

namespace Go.Proofs.YtjdfgalcnbnobaaDoor
open Go.RowKit

set_option maxRecDepth 100000 in
set_option maxHeartbeats 4000000 in
theorem gwithin_core (a0 b0 : Option Addr) (c d n m : Nat) (k l : Int) (t u : List UInt8) (r s : Nm) (w : World) (h1 : RLies w a0 r) (h2 : RLies w b0 s) (hn : n = r.length) (hm : m = s.length) (hnc : n ≤ c) (ht : t.length ≤ 100000) (hu : u.length ≤ 100000) (hr : SmallN r) (hs : SmallN s) (hmk : Mk w) :
    Calls Tryd.prog 27 #[.agg #[.int .i64 k, .string (strOf t), .slice a0 n c], .agg #[.int .i64 l, .string (strOf u), .slice b0 m d]] w fun e w' => e = .returned (.bool (withinG k t r l u s)) ∧ Below w.heap.size w w' := by
  obtain ⟨W0, hW0⟩ : ∃ W0, W0 = (w.alloc (.cells #[.int .i64 k, .string (strOf t), .slice a0 n c] 38)).alloc (.cells #[.int .i64 l, .string (strOf u), .slice b0 m d] 38) := ⟨_, rfl⟩
  have hwr : (w.alloc (.cells #[.int .i64 k, .string (strOf t), .slice a0 n c] 38)).alloc (.cells #[.int .i64 l, .string (strOf u), .slice b0 m d] 38) = W0 := hW0.symm
  have hb0 : Below w.heap.size w W0 := by rw [hW0]; exact belowTwo w _ _
  obtain ⟨c0, c1, c2, d0, d1, d2, l1⟩ := box_two w (.int .i64 k) (.string (strOf t)) (.slice a0 n c) (.int .i64 l) (.string (strOf u)) (.slice b0 m d) 38
  rw [← hW0] at c0 c1 c2 d0 d1 d2 l1
  have l0 : w.heap.size < W0.heap.size := by omega
  have HB0 := Lib.hid hb0
  have HT := Lib.hid ht
  have HU := Lib.hid hu
  have HK := Lib.hid (fun W (hb : Below w.heap.size w W) => gkind_any k (strOf t) a0 n c W (hmk.below hb).2)
  obtain ⟨E, hE⟩ : ∃ E, E = withinG k t r l u s := ⟨_, rfl⟩
  rw [← hE]
  have HE := Lib.hid hE
  clear hE hW0
  have HMW := Lib.hid (fun W (hb : Below w.heap.size w W) => pmw_any t u HT.out HU.out W (hmk.below hb).1)
  have HDW := Lib.hid (fun W (hb : Below w.heap.size w W) => pwithin_any t u HT.out HU.out W)
  have HX := Lib.hid (fun W (hb : Below w.heap.size w W) => within_core a0 b0 c d n m r s W (h1.below hb) (h2.below hb) hn hm hnc hr hs)
  have HAW := Lib.hid (fun W (hb : Below w.heap.size w W) => paw_any t u HT.out HU.out W)
  clear h1 h2 hn hm hnc hr hs ht hu hb0 hmk
  by_cases hkl : k = l
  case neg =>
    have e1 : (k != l) = true := bne_iff_ne.2 hkl
    have HV := Lib.hid (show E = false by rw [HE.out]; unfold withinG; rw [if_pos hkl])
    clear hkl
    go_enter Tryd.func27, Tryd.ntmps27
    go_wp2_with fail
    go_ret
    exact ⟨by rw [HV.out]; rfl, HB0.out⟩
  subst hkl
  rcases kind_or k with rfl | rfl | rfl | rfl | hk
  · have HV := Lib.hid (show E = mailWithinB t u by rw [HE.out]; unfold withinG; rw [if_neg (by simp), if_pos rfl])
    rw [show ((kdOf 1 : Nat) : Int) = 0 from rfl] at HK
    go_enter Tryd.func27, Tryd.ntmps27
    go_wp2_with (first
      | (go_at_call 29; (with_reducible refine (HK.out _ HB0.out).mono ?_); rintro e w1 ⟨rfl, hb9⟩; have HB1 := Lib.hid (below_next HB0.out hb9); have q0 := (hb9.cell (p := ⟨w.heap.size, 0, none⟩) l0).trans c0; have q1 := (hb9.cell (p := ⟨w.heap.size, 1, none⟩) l0).trans c1; have q2 := (hb9.cell (p := ⟨w.heap.size, 2, none⟩) l0).trans c2; have p0 := (hb9.cell (p := ⟨w.heap.size + 1, 0, none⟩) l1).trans d0; have p1 := (hb9.cell (p := ⟨w.heap.size + 1, 1, none⟩) l1).trans d1; have p2 := (hb9.cell (p := ⟨w.heap.size + 1, 2, none⟩) l1).trans d2; clear hb9)
      | (go_at_call 30; (with_reducible refine (HMW.out _ HB1.out).mono ?_); rintro e w2 ⟨rfl, hb9⟩; have HB2 := Lib.hid (below_next HB1.out hb9); clear hb9))
    go_ret
    exact ⟨by rw [HV.out]; rfl, HB2.out⟩
  · have HV := Lib.hid (show E = dnsWithinB t u by rw [HE.out]; unfold withinG; rw [if_neg (by simp), if_neg (by decide), if_pos rfl])
    rw [show ((kdOf 2 : Nat) : Int) = 1 from rfl] at HK
    go_enter Tryd.func27, Tryd.ntmps27
    go_wp2_with (first
      | (go_at_call 29; (with_reducible refine (HK.out _ HB0.out).mono ?_); rintro e w1 ⟨rfl, hb9⟩; have HB1 := Lib.hid (below_next HB0.out hb9); have q0 := (hb9.cell (p := ⟨w.heap.size, 0, none⟩) l0).trans c0; have q1 := (hb9.cell (p := ⟨w.heap.size, 1, none⟩) l0).trans c1; have q2 := (hb9.cell (p := ⟨w.heap.size, 2, none⟩) l0).trans c2; have p0 := (hb9.cell (p := ⟨w.heap.size + 1, 0, none⟩) l1).trans d0; have p1 := (hb9.cell (p := ⟨w.heap.size + 1, 1, none⟩) l1).trans d1; have p2 := (hb9.cell (p := ⟨w.heap.size + 1, 2, none⟩) l1).trans d2; clear hb9)
      | (go_at_call 31; (with_reducible refine (HDW.out _ HB1.out).mono ?_); rintro e w2 ⟨rfl, hb9⟩; have HB2 := Lib.hid (below_next HB1.out hb9); clear hb9))
    go_ret
    exact ⟨by rw [HV.out]; rfl, HB2.out⟩
  · have HV := Lib.hid (show E = decide (WithinN r s) by rw [HE.out]; unfold withinG; rw [if_neg (by simp), if_neg (by decide), if_neg (by decide), if_pos rfl])
    rw [show ((kdOf 4 : Nat) : Int) = 2 from rfl] at HK
    go_enter Tryd.func27, Tryd.ntmps27
    go_wp2_with (first
      | (go_at_call 29; (with_reducible refine (HK.out _ HB0.out).mono ?_); rintro e w1 ⟨rfl, hb9⟩; have HB1 := Lib.hid (below_next HB0.out hb9); have q0 := (hb9.cell (p := ⟨w.heap.size, 0, none⟩) l0).trans c0; have q1 := (hb9.cell (p := ⟨w.heap.size, 1, none⟩) l0).trans c1; have q2 := (hb9.cell (p := ⟨w.heap.size, 2, none⟩) l0).trans c2; have p0 := (hb9.cell (p := ⟨w.heap.size + 1, 0, none⟩) l1).trans d0; have p1 := (hb9.cell (p := ⟨w.heap.size + 1, 1, none⟩) l1).trans d1; have p2 := (hb9.cell (p := ⟨w.heap.size + 1, 2, none⟩) l1).trans d2; clear hb9)
      | (go_at_call 32; (with_reducible refine (HX.out _ HB1.out).mono ?_); rintro e w2 ⟨rfl, hb9⟩; have HB2 := Lib.hid (below_next HB1.out hb9); clear hb9))
    go_ret
    exact ⟨by rw [HV.out]; rfl, HB2.out⟩
  · have HV := Lib.hid (show E = addrWithinB t u by rw [HE.out]; unfold withinG; rw [if_neg (by simp), if_neg (by decide), if_neg (by decide), if_neg (by decide), if_pos rfl])
    rw [show ((kdOf 7 : Nat) : Int) = 3 from rfl] at HK
    go_enter Tryd.func27, Tryd.ntmps27
    go_wp2_with (first
      | (go_at_call 29; (with_reducible refine (HK.out _ HB0.out).mono ?_); rintro e w1 ⟨rfl, hb9⟩; have HB1 := Lib.hid (below_next HB0.out hb9); have q0 := (hb9.cell (p := ⟨w.heap.size, 0, none⟩) l0).trans c0; have q1 := (hb9.cell (p := ⟨w.heap.size, 1, none⟩) l0).trans c1; have q2 := (hb9.cell (p := ⟨w.heap.size, 2, none⟩) l0).trans c2; have p0 := (hb9.cell (p := ⟨w.heap.size + 1, 0, none⟩) l1).trans d0; have p1 := (hb9.cell (p := ⟨w.heap.size + 1, 1, none⟩) l1).trans d1; have p2 := (hb9.cell (p := ⟨w.heap.size + 1, 2, none⟩) l1).trans d2; clear hb9)
      | (go_at_call 33; (with_reducible refine (HAW.out _ HB1.out).mono ?_); rintro e w2 ⟨rfl, hb9⟩; have HB2 := Lib.hid (below_next HB1.out hb9); clear hb9))
    go_ret
    exact ⟨by rw [HV.out]; rfl, HB2.out⟩
  · have HV := Lib.hid (show E = false by rw [HE.out]; unfold withinG; rw [if_neg (by simp), if_neg hk.1, if_neg hk.2.1, if_neg hk.2.2.1, if_neg hk.2.2.2])
    rw [kdOf_no hk, show (((4 : Nat)) : Int) = 4 from rfl] at HK
    have e0 : (k != k) = false := by simp
    clear hk
    go_enter Tryd.func27, Tryd.ntmps27
    go_wp2_with (go_at_call 29; (with_reducible refine (HK.out _ HB0.out).mono ?_); rintro e w1 ⟨rfl, hb9⟩; have HB1 := Lib.hid (below_next HB0.out hb9); have q0 := (hb9.cell (p := ⟨w.heap.size, 0, none⟩) l0).trans c0; have q1 := (hb9.cell (p := ⟨w.heap.size, 1, none⟩) l0).trans c1; have q2 := (hb9.cell (p := ⟨w.heap.size, 2, none⟩) l0).trans c2; have p0 := (hb9.cell (p := ⟨w.heap.size + 1, 0, none⟩) l1).trans d0; have p1 := (hb9.cell (p := ⟨w.heap.size + 1, 1, none⟩) l1).trans d1; have p2 := (hb9.cell (p := ⟨w.heap.size + 1, 2, none⟩) l1).trans d2; clear hb9)
    go_ret
    exact ⟨by rw [HV.out]; rfl, HB1.out⟩

end Go.Proofs.YtjdfgalcnbnobaaDoor
