/-
  The contracts of the reference's SameGeneral, MatchGeneral and WithinGeneral.
  The contracts of strings.HasPrefix, HasSuffix, TrimPrefix, CutPrefix, IndexByte, Contains and EqualFold and of internal/stringslite.Index: the library's theorems, laid at the program's own numbers. Nothing is claimed of the program beyond its bodies.
-/
import Derived.Test.YtkiniledfcdgjaaGreatDoorPba
import Derived.Test.YtkiniledfcdgjaaGreatDoorPan
import Derived.Test.YtkiniledfcdgjaaGreatDoorPaq
import Derived.Test.YtkiniledfcdgjaaGreatDoorPar
import Derived.Test.YtkiniledfcdgjaaGreatDoorPap
import Derived.Test.YtkiniledfcdgjaaGreatDoorPas
import Derived.Test.YtkiniledfcdgjaaGreatDoorPaa
import Derived.Test.YtkiniledfcdgjaaGreatDoorPae
import Derived.Shelf.Strings.Prefix
import Derived.Shelf.Strings.Fold
import Derived.Shelf.Strings.Search3
import Derived.Shelf.Small.Strs
import Derived.Shelf.Small.Wraps
import Derived.Shelf.Vars
import Derived.Test.YtkiniledfcdgjaaGreatDoorPac
namespace Go.Proofs.YtkiniledfcdgjaaGreatDoor
open Go.RowKit


theorem box_two (w : World) (x0 x1 x2 y0 y1 y2 : Value) (T : TypeId) :
    ((w.alloc (.cells #[x0, x1, x2] T)).alloc (.cells #[y0, y1, y2] T)).cell? ⟨w.heap.size, 0, none⟩ = some x0 ∧ ((w.alloc (.cells #[x0, x1, x2] T)).alloc (.cells #[y0, y1, y2] T)).cell? ⟨w.heap.size, 1, none⟩ = some x1 ∧ ((w.alloc (.cells #[x0, x1, x2] T)).alloc (.cells #[y0, y1, y2] T)).cell? ⟨w.heap.size, 2, none⟩ = some x2 ∧
    ((w.alloc (.cells #[x0, x1, x2] T)).alloc (.cells #[y0, y1, y2] T)).cell? ⟨w.heap.size + 1, 0, none⟩ = some y0 ∧ ((w.alloc (.cells #[x0, x1, x2] T)).alloc (.cells #[y0, y1, y2] T)).cell? ⟨w.heap.size + 1, 1, none⟩ = some y1 ∧ ((w.alloc (.cells #[x0, x1, x2] T)).alloc (.cells #[y0, y1, y2] T)).cell? ⟨w.heap.size + 1, 2, none⟩ = some y2 ∧
    w.heap.size + 1 < ((w.alloc (.cells #[x0, x1, x2] T)).alloc (.cells #[y0, y1, y2] T)).heap.size := by
  have h1 := heap_alloc_new (w.alloc (.cells #[x0, x1, x2] T)) (.cells #[y0, y1, y2] T)
  rw [show (w.alloc (.cells #[x0, x1, x2] T)).heap.size = w.heap.size + 1 by simp] at h1
  obtain ⟨f0, f1, f2, f3⟩ := three_facts h1
  obtain ⟨g0, g1, g2, g3⟩ := three_facts (heap_alloc_new w (.cells #[x0, x1, x2] T))
  exact ⟨(World.cell?_alloc_old _ _ _ (Nat.ne_of_lt g3)).trans g0, (World.cell?_alloc_old _ _ _ (Nat.ne_of_lt g3)).trans g1, (World.cell?_alloc_old _ _ _ (Nat.ne_of_lt g3)).trans g2, f0, f1, f2, f3⟩

set_option maxRecDepth 100000 in
set_option maxHeartbeats 4000000 in
theorem rsameG_core (a0 b0 : Option Addr) (c d n m : Nat) (k l : Int) (t u : List UInt8) (r s : Nm) (w : World) (h1 : RLies w a0 r) (h2 : RLies w b0 s) (hn : n = r.length) (hm : m = s.length) (ht : t.length ≤ 100000) (hu : u.length ≤ 100000) (hr : SmallN r) (hs : SmallN s) :
    Calls Tryz.prog 17 #[.agg #[.int .i64 k, .string (strOf t), .slice a0 n c], .agg #[.int .i64 l, .string (strOf u), .slice b0 m d]] w fun e w' => e = .returned (.bool (sameG k t r l u s)) ∧ Below w.heap.size w w' := by
  obtain ⟨W0, hW0⟩ : ∃ W0, W0 = (w.alloc (.cells #[.int .i64 k, .string (strOf t), .slice a0 n c] 26)).alloc (.cells #[.int .i64 l, .string (strOf u), .slice b0 m d] 26) := ⟨_, rfl⟩
  have hwr : (w.alloc (.cells #[.int .i64 k, .string (strOf t), .slice a0 n c] 26)).alloc (.cells #[.int .i64 l, .string (strOf u), .slice b0 m d] 26) = W0 := hW0.symm
  have hb0 : Below w.heap.size w W0 := by rw [hW0]; exact belowTwo w _ _
  obtain ⟨c0, c1, c2, d0, d1, d2, l1⟩ := box_two w (.int .i64 k) (.string (strOf t)) (.slice a0 n c) (.int .i64 l) (.string (strOf u)) (.slice b0 m d) 26
  rw [← hW0] at c0 c1 c2 d0 d1 d2 l1
  have HB0 := Lib.hid hb0
  have HT := Lib.hid ht
  have HU := Lib.hid hu
  obtain ⟨E, hE⟩ : ∃ E, E = sameG k t r l u s := ⟨_, rfl⟩
  rw [← hE]
  have HE := Lib.hid hE
  clear hE hW0
  have HX := Lib.hid (fun W (hb : Below w.heap.size w W) => rmatch_core a0 b0 c d n m r s W (h1.below hb) (h2.below hb) hn hm hr hs)
  have HA := Lib.hid (fun W => ralike_any t u (Nat.le_trans HT.out (by decide)) (Nat.le_trans HU.out (by decide)) W)
  have HM1 := Lib.hid (fun W => rmail_any t HT.out W)
  have HM2 := Lib.hid (fun W => rmail_any u HU.out W)
  have HMM := Lib.hid (fun W => rmm_any t u HT.out HU.out W)
  clear h1 h2 hn hm hr hs ht hu hb0
  by_cases hkl : k = l
  case neg =>
    have e1 : (k != l) = true := bne_iff_ne.2 hkl
    have HV := Lib.hid (show E = false by rw [HE.out]; unfold sameG; rw [if_pos hkl])
    clear hkl
    go_enter Tryz.func17, Tryz.ntmps17
    go_wp2_with fail
    go_ret
    exact ⟨by rw [HV.out]; rfl, HB0.out⟩
  subst hkl
  rcases kind_or k with rfl | rfl | rfl | rfl | hk
  · cases b1 : mailB t with
    | false =>
      have HV := Lib.hid (show E = alikeB t u by rw [HE.out]; unfold sameG; rw [if_neg (by simp), if_pos rfl, b1]; rfl)
      rw [b1] at HM1
      clear b1
      go_enter Tryz.func17, Tryz.ntmps17
      go_wp2_with (first
        | (go_at_call 34; (with_reducible refine (HM1.out _).mono ?_); rintro e w1 ⟨rfl, hb9⟩; have H1 := Lib.hid (below_next HB0.out hb9); have q1 := (hb9.cell (p := ⟨w.heap.size, 1, none⟩) (show w.heap.size < W0.heap.size by omega)).trans c1; have p1 := (hb9.cell (p := ⟨w.heap.size + 1, 1, none⟩) (show w.heap.size + 1 < W0.heap.size by omega)).trans d1; clear hb9)
        | (go_at_call 44; (with_reducible refine (HA.out _).mono ?_); rintro e w2 ⟨rfl, hb9⟩; have H2 := Lib.hid (below_next H1.out hb9); clear hb9))
      go_ret
      exact ⟨by rw [HV.out]; rfl, H2.out⟩
    | true =>
      rw [b1] at HM1
      cases b2 : mailB u with
      | false =>
        have HV := Lib.hid (show E = alikeB t u by rw [HE.out]; unfold sameG; rw [if_neg (by simp), if_pos rfl, b1, b2]; rfl)
        rw [b2] at HM2
        clear b1 b2
        go_enter Tryz.func17, Tryz.ntmps17
        go_wp2_with (first
          | (go_at_call 34; (with_reducible refine (HM1.out _).mono ?_); rintro e w1 ⟨rfl, hb9⟩; have H1 := Lib.hid (below_next HB0.out hb9); have q1 := (hb9.cell (p := ⟨w.heap.size, 1, none⟩) (show w.heap.size < W0.heap.size by omega)).trans c1; have p1 := (hb9.cell (p := ⟨w.heap.size + 1, 1, none⟩) l1).trans d1; have l2 := Nat.lt_of_lt_of_le l1 hb9.size; clear hb9)
          | (go_at_call 34; (with_reducible refine (HM2.out _).mono ?_); rintro e w2 ⟨rfl, hb9⟩; have H2 := Lib.hid (below_next H1.out hb9); have q2 := (hb9.cell (p := ⟨w.heap.size, 1, none⟩) (show w.heap.size < w1.heap.size by omega)).trans q1; have p2 := (hb9.cell (p := ⟨w.heap.size + 1, 1, none⟩) l2).trans p1; clear hb9)
          | (go_at_call 44; (with_reducible refine (HA.out _).mono ?_); rintro e w3 ⟨rfl, hb9⟩; have H3 := Lib.hid (below_next H2.out hb9); clear hb9))
        go_ret
        exact ⟨by rw [HV.out]; rfl, H3.out⟩
      | true =>
        have HV := Lib.hid (show E = mailMatchB t u by rw [HE.out]; unfold sameG; rw [if_neg (by simp), if_pos rfl, b1, b2]; rfl)
        rw [b2] at HM2
        clear b1 b2
        go_enter Tryz.func17, Tryz.ntmps17
        go_wp2_with (first
          | (go_at_call 34; (with_reducible refine (HM1.out _).mono ?_); rintro e w1 ⟨rfl, hb9⟩; have H1 := Lib.hid (below_next HB0.out hb9); have q1 := (hb9.cell (p := ⟨w.heap.size, 1, none⟩) (show w.heap.size < W0.heap.size by omega)).trans c1; have p1 := (hb9.cell (p := ⟨w.heap.size + 1, 1, none⟩) l1).trans d1; have l2 := Nat.lt_of_lt_of_le l1 hb9.size; clear hb9)
          | (go_at_call 34; (with_reducible refine (HM2.out _).mono ?_); rintro e w2 ⟨rfl, hb9⟩; have H2 := Lib.hid (below_next H1.out hb9); have q2 := (hb9.cell (p := ⟨w.heap.size, 1, none⟩) (show w.heap.size < w1.heap.size by omega)).trans q1; have p2 := (hb9.cell (p := ⟨w.heap.size + 1, 1, none⟩) l2).trans p1; clear hb9)
          | (go_at_call 43; (with_reducible refine (HMM.out _).mono ?_); rintro e w3 ⟨rfl, hb9⟩; have H3 := Lib.hid (below_next H2.out hb9); clear hb9))
        go_ret
        exact ⟨by rw [HV.out]; rfl, H3.out⟩
  · have HV := Lib.hid (show E = alikeB t u by rw [HE.out]; unfold sameG; rw [if_neg (by simp), if_neg (by decide), if_pos rfl])
    go_enter Tryz.func17, Tryz.ntmps17
    go_wp2_with (go_at_call 44; (with_reducible refine (HA.out _).mono ?_); rintro e w1 ⟨rfl, hb9⟩; have H1 := Lib.hid (below_next HB0.out hb9); clear hb9)
    go_ret
    exact ⟨by rw [HV.out]; rfl, H1.out⟩
  · have HV := Lib.hid (show E = decide (MatchN r s) by rw [HE.out]; unfold sameG; rw [if_neg (by simp), if_neg (by decide), if_neg (by decide), if_pos rfl])
    go_enter Tryz.func17, Tryz.ntmps17
    go_wp2_with (go_at_call 45; (with_reducible refine (HX.out _ HB0.out).mono ?_); rintro e w1 ⟨rfl, hb9⟩; have H1 := Lib.hid (below_next HB0.out hb9); clear hb9)
    go_ret
    exact ⟨by rw [HV.out]; rfl, H1.out⟩
  · have HV := Lib.hid (show E = decide (t = u) by rw [HE.out]; unfold sameG; rw [if_neg (by simp), if_neg (by decide), if_neg (by decide), if_neg (by decide), if_pos rfl])
    go_enter Tryz.func17, Tryz.ntmps17
    go_wp2_with fail
    go_ret
    exact ⟨by rw [HV.out, ← beq_of]; rfl, HB0.out⟩
  · have HV := Lib.hid (show E = false by rw [HE.out]; unfold sameG; rw [if_neg (by simp), if_neg hk.1, if_neg hk.2.1, if_neg hk.2.2.1, if_neg hk.2.2.2])
    obtain ⟨k1, k2, k4, k7⟩ := hk
    have e1 : (k == 1) = false := beq_eq_false_iff_ne.2 k1
    have e2 : (k == 2) = false := beq_eq_false_iff_ne.2 k2
    have e4 : (k == 4) = false := beq_eq_false_iff_ne.2 k4
    have e7 : (k == 7) = false := beq_eq_false_iff_ne.2 k7
    have e0 : (k != k) = false := by simp
    clear k1 k2 k4 k7
    go_enter Tryz.func17, Tryz.ntmps17
    go_wp2_with fail
    go_ret
    exact ⟨by rw [HV.out]; rfl, HB0.out⟩

set_option maxRecDepth 100000 in
set_option maxHeartbeats 4000000 in
theorem rmatchG_core (a0 b0 : Option Addr) (c d n m : Nat) (k l : Int) (t u : List UInt8) (r s : Nm) (w : World) (h1 : RLies w a0 r) (h2 : RLies w b0 s) (hn : n = r.length) (hm : m = s.length) (ht : t.length ≤ 100000) (hu : u.length ≤ 100000) (hr : SmallN r) (hs : SmallN s) :
    Calls Tryz.prog 19 #[.agg #[.int .i64 k, .string (strOf t), .slice a0 n c], .agg #[.int .i64 l, .string (strOf u), .slice b0 m d]] w fun e w' => e = .returned (.bool (matchG k t r l u s)) ∧ Below w.heap.size w w' := by
  obtain ⟨W0, hW0⟩ : ∃ W0, W0 = (w.alloc (.cells #[.int .i64 k, .string (strOf t), .slice a0 n c] 26)).alloc (.cells #[.int .i64 l, .string (strOf u), .slice b0 m d] 26) := ⟨_, rfl⟩
  have hwr : (w.alloc (.cells #[.int .i64 k, .string (strOf t), .slice a0 n c] 26)).alloc (.cells #[.int .i64 l, .string (strOf u), .slice b0 m d] 26) = W0 := hW0.symm
  have hb0 : Below w.heap.size w W0 := by rw [hW0]; exact belowTwo w _ _
  obtain ⟨c0, c1, c2, d0, d1, d2, l1⟩ := box_two w (.int .i64 k) (.string (strOf t)) (.slice a0 n c) (.int .i64 l) (.string (strOf u)) (.slice b0 m d) 26
  rw [← hW0] at c0 c1 c2 d0 d1 d2 l1
  have HB0 := Lib.hid hb0
  have HT := Lib.hid ht
  have HU := Lib.hid hu
  obtain ⟨E, hE⟩ : ∃ E, E = matchG k t r l u s := ⟨_, rfl⟩
  rw [← hE]
  have HE := Lib.hid hE
  clear hE hW0
  have HX := Lib.hid (rsameG_core a0 b0 c d n m k l t u r s W0 (h1.below hb0) (h2.below hb0) hn hm ht hu hr hs)
  have HD := Lib.hid (fun W => rmatch_any_h t u HT.out HU.out W)
  clear h1 h2 hn hm hr hs ht hu hb0
  by_cases hk : k = 2
  · subst hk
    by_cases hl : l = 2
    · subst hl
      have HV := Lib.hid (show E = dnsMatchB t u by rw [HE.out]; unfold matchG; rw [if_pos ⟨rfl, rfl⟩])
      go_enter Tryz.func19, Tryz.ntmps19
      go_wp2_with (go_at_call 47; (with_reducible refine (HD.out _).mono ?_); rintro e w1 ⟨rfl, hb9⟩; have H1 := Lib.hid (below_next HB0.out hb9); clear hb9)
      go_ret
      exact ⟨by rw [HV.out]; rfl, H1.out⟩
    · have HV := Lib.hid (show E = sameG 2 t r l u s by rw [HE.out]; unfold matchG; rw [if_neg (fun q => hl q.2)])
      have e2 : (l == 2) = false := beq_eq_false_iff_ne.2 hl
      clear hl
      go_enter Tryz.func19, Tryz.ntmps19
      go_wp2_with (go_at_call 17; (with_reducible refine HX.out.mono ?_); rintro e w1 ⟨rfl, hb9⟩; have H1 := Lib.hid (below_next HB0.out hb9); clear hb9)
      go_ret
      exact ⟨by rw [HV.out]; rfl, H1.out⟩
  · have HV := Lib.hid (show E = sameG k t r l u s by rw [HE.out]; unfold matchG; rw [if_neg (fun q => hk q.1)])
    have e2 : (k == 2) = false := beq_eq_false_iff_ne.2 hk
    clear hk
    go_enter Tryz.func19, Tryz.ntmps19
    go_wp2_with (go_at_call 17; (with_reducible refine HX.out.mono ?_); rintro e w1 ⟨rfl, hb9⟩; have H1 := Lib.hid (below_next HB0.out hb9); clear hb9)
    go_ret
    exact ⟨by rw [HV.out]; rfl, H1.out⟩

set_option maxRecDepth 100000 in
set_option maxHeartbeats 4000000 in
theorem rwithinG_core (a0 b0 : Option Addr) (c d n m : Nat) (k l : Int) (t u : List UInt8) (r s : Nm) (w : World) (h1 : RLies w a0 r) (h2 : RLies w b0 s) (hn : n = r.length) (hm : m = s.length) (ht : t.length ≤ 100000) (hu : u.length ≤ 100000) (hr : SmallN r) (hs : SmallN s) :
    Calls Tryz.prog 21 #[.agg #[.int .i64 k, .string (strOf t), .slice a0 n c], .agg #[.int .i64 l, .string (strOf u), .slice b0 m d]] w fun e w' => e = .returned (.bool (withinG k t r l u s)) ∧ Below w.heap.size w w' := by
  obtain ⟨W0, hW0⟩ : ∃ W0, W0 = (w.alloc (.cells #[.int .i64 k, .string (strOf t), .slice a0 n c] 26)).alloc (.cells #[.int .i64 l, .string (strOf u), .slice b0 m d] 26) := ⟨_, rfl⟩
  have hwr : (w.alloc (.cells #[.int .i64 k, .string (strOf t), .slice a0 n c] 26)).alloc (.cells #[.int .i64 l, .string (strOf u), .slice b0 m d] 26) = W0 := hW0.symm
  have hb0 : Below w.heap.size w W0 := by rw [hW0]; exact belowTwo w _ _
  obtain ⟨c0, c1, c2, d0, d1, d2, l1⟩ := box_two w (.int .i64 k) (.string (strOf t)) (.slice a0 n c) (.int .i64 l) (.string (strOf u)) (.slice b0 m d) 26
  rw [← hW0] at c0 c1 c2 d0 d1 d2 l1
  have HB0 := Lib.hid hb0
  have HT := Lib.hid ht
  have HU := Lib.hid hu
  obtain ⟨E, hE⟩ : ∃ E, E = withinG k t r l u s := ⟨_, rfl⟩
  rw [← hE]
  have HE := Lib.hid hE
  clear hE hW0
  have HX := Lib.hid (fun W (hb : Below w.heap.size w W) => rwithin_core a0 b0 c d n m r s W (h1.below hb) (h2.below hb) hn hm hr hs)
  have H1W := Lib.hid (fun W => rmw_any t u HT.out HU.out W)
  have H2W := Lib.hid (fun W => rwithin_any t u HT.out HU.out W)
  have H7W := Lib.hid (fun W => raw_any t u W)
  clear h1 h2 hn hm hr hs ht hu hb0
  by_cases hkl : k = l
  case neg =>
    have e1 : (k != l) = true := bne_iff_ne.2 hkl
    have HV := Lib.hid (show E = false by rw [HE.out]; unfold withinG; rw [if_pos hkl])
    clear hkl
    go_enter Tryz.func21, Tryz.ntmps21
    go_wp2_with fail
    go_ret
    exact ⟨by rw [HV.out]; rfl, HB0.out⟩
  subst hkl
  rcases kind_or k with rfl | rfl | rfl | rfl | hk
  · have HV := Lib.hid (show E = mailWithinB t u by rw [HE.out]; unfold withinG; rw [if_neg (by simp), if_pos rfl])
    go_enter Tryz.func21, Tryz.ntmps21
    go_wp2_with (go_at_call 52; (with_reducible refine (H1W.out _).mono ?_); rintro e w1 ⟨rfl, hb9⟩; have H1 := Lib.hid (below_next HB0.out hb9); clear hb9)
    go_ret
    exact ⟨by rw [HV.out]; rfl, H1.out⟩
  · have HV := Lib.hid (show E = dnsWithinB t u by rw [HE.out]; unfold withinG; rw [if_neg (by simp), if_neg (by decide), if_pos rfl])
    go_enter Tryz.func21, Tryz.ntmps21
    go_wp2_with (go_at_call 53; (with_reducible refine (H2W.out _).mono ?_); rintro e w1 ⟨rfl, hb9⟩; have H1 := Lib.hid (below_next HB0.out hb9); clear hb9)
    go_ret
    exact ⟨by rw [HV.out]; rfl, H1.out⟩
  · have HV := Lib.hid (show E = decide (WithinN r s) by rw [HE.out]; unfold withinG; rw [if_neg (by simp), if_neg (by decide), if_neg (by decide), if_pos rfl])
    go_enter Tryz.func21, Tryz.ntmps21
    go_wp2_with (go_at_call 54; (with_reducible refine (HX.out _ HB0.out).mono ?_); rintro e w1 ⟨rfl, hb9⟩; have H1 := Lib.hid (below_next HB0.out hb9); clear hb9)
    go_ret
    exact ⟨by rw [HV.out]; rfl, H1.out⟩
  · have HV := Lib.hid (show E = addrWithinB t u by rw [HE.out]; unfold withinG; rw [if_neg (by simp), if_neg (by decide), if_neg (by decide), if_neg (by decide), if_pos rfl])
    go_enter Tryz.func21, Tryz.ntmps21
    go_wp2_with (go_at_call 55; (with_reducible refine (H7W.out _).mono ?_); rintro e w1 ⟨rfl, hb9⟩; have H1 := Lib.hid (below_next HB0.out hb9); clear hb9)
    go_ret
    exact ⟨by rw [HV.out]; rfl, H1.out⟩
  · have HV := Lib.hid (show E = false by rw [HE.out]; unfold withinG; rw [if_neg (by simp), if_neg hk.1, if_neg hk.2.1, if_neg hk.2.2.1, if_neg hk.2.2.2])
    obtain ⟨k1, k2, k4, k7⟩ := hk
    have e1 : (k == 1) = false := beq_eq_false_iff_ne.2 k1
    have e2 : (k == 2) = false := beq_eq_false_iff_ne.2 k2
    have e4 : (k == 4) = false := beq_eq_false_iff_ne.2 k4
    have e7 : (k == 7) = false := beq_eq_false_iff_ne.2 k7
    have e0 : (k != k) = false := by simp
    clear k1 k2 k4 k7
    go_enter Tryz.func21, Tryz.ntmps21
    go_wp2_with fail
    go_ret
    exact ⟨by rw [HV.out]; rfl, HB0.out⟩
end Go.Proofs.YtkiniledfcdgjaaGreatDoor
namespace Go.Proofs.YtkiniledfcdgjaaGreatDoor
open Go.Shelf Go.RowKit

def lays99_ren : Go.Shelf.Ren := ⟨fun | 99 => 118 | 206 => 141 | n => n, fun | 3 => 3 | 4 => 4 | 9 => 9 | n => n, fun | n => n⟩
theorem lays99 : Go.Proofs.Lays.n99 Tryz.prog lays99_ren := {
  mixed := by kernel_rfl
  f99 := Tryz.func118.trans (congrArg some (by kernel_rfl))
  f206 := Tryz.func141.trans (congrArg some (by kernel_rfl))
  t3 := Tryz.underlying3
  a3 := Tryz.isAgg3
  z3 := Tryz.sizeOf3
  v3 := Tryz.zeroValue3
  t4 := Tryz.underlying4
  a4 := Tryz.isAgg4
  z4 := Tryz.sizeOf4
  v4 := Tryz.zeroValue4
  t9 := Tryz.underlying9
  a9 := Tryz.isAgg9
  z9 := Tryz.sizeOf9
  v9 := Tryz.zeroValue9 }
def lays100_ren : Go.Shelf.Ren := ⟨fun | 100 => 134 | 207 => 157 | n => n, fun | 3 => 3 | 4 => 4 | 9 => 9 | n => n, fun | n => n⟩
theorem lays100 : Go.Proofs.Lays.n100 Tryz.prog lays100_ren := {
  mixed := by kernel_rfl
  f100 := Tryz.func134.trans (congrArg some (by kernel_rfl))
  f207 := Tryz.func157.trans (congrArg some (by kernel_rfl))
  t3 := Tryz.underlying3
  a3 := Tryz.isAgg3
  z3 := Tryz.sizeOf3
  v3 := Tryz.zeroValue3
  t4 := Tryz.underlying4
  a4 := Tryz.isAgg4
  z4 := Tryz.sizeOf4
  v4 := Tryz.zeroValue4
  t9 := Tryz.underlying9
  a9 := Tryz.isAgg9
  z9 := Tryz.sizeOf9
  v9 := Tryz.zeroValue9 }
def lays101_ren : Go.Shelf.Ren := ⟨fun | 101 => 117 | 206 => 141 | 208 => 145 | n => n, fun | 3 => 3 | 4 => 4 | 9 => 9 | n => n, fun | n => n⟩
theorem lays101 : Go.Proofs.Lays.n101 Tryz.prog lays101_ren := {
  mixed := by kernel_rfl
  f101 := Tryz.func117.trans (congrArg some (by kernel_rfl))
  f206 := Tryz.func141.trans (congrArg some (by kernel_rfl))
  f208 := Tryz.func145.trans (congrArg some (by kernel_rfl))
  t3 := Tryz.underlying3
  a3 := Tryz.isAgg3
  z3 := Tryz.sizeOf3
  v3 := Tryz.zeroValue3
  t4 := Tryz.underlying4
  a4 := Tryz.isAgg4
  z4 := Tryz.sizeOf4
  v4 := Tryz.zeroValue4
  t9 := Tryz.underlying9
  a9 := Tryz.isAgg9
  z9 := Tryz.sizeOf9
  v9 := Tryz.zeroValue9 }
def lays103_ren : Go.Shelf.Ren := ⟨fun | 103 => 84 | 206 => 141 | 210 => 114 | n => n, fun | 3 => 3 | 4 => 4 | 9 => 9 | 24 => 95 | n => n, fun | n => n⟩
theorem lays103 : Go.Proofs.Lays.n103 Tryz.prog lays103_ren := {
  mixed := by kernel_rfl
  f103 := Tryz.func84.trans (congrArg some (by kernel_rfl))
  f206 := Tryz.func141.trans (congrArg some (by kernel_rfl))
  f210 := Tryz.func114.trans (congrArg some (by kernel_rfl))
  t3 := Tryz.underlying3
  a3 := Tryz.isAgg3
  z3 := Tryz.sizeOf3
  v3 := Tryz.zeroValue3
  t4 := Tryz.underlying4
  a4 := Tryz.isAgg4
  z4 := Tryz.sizeOf4
  v4 := Tryz.zeroValue4
  t9 := Tryz.underlying9
  a9 := Tryz.isAgg9
  z9 := Tryz.sizeOf9
  v9 := Tryz.zeroValue9
  t24 := Tryz.underlying95
  a24 := Tryz.isAgg95
  z24 := Tryz.sizeOf95
  v24 := Tryz.zeroValue95 }
def lays144_ren : Go.Shelf.Ren := ⟨fun | 143 => 138 | 144 => 111 | 217 => 162 | 219 => 142 | 224 => 164 | 225 => 163 | 266 => 186 | 267 => 165 | 314 => 187 | n => n, fun | 3 => 3 | 4 => 4 | 5 => 5 | 9 => 9 | 46 => 103 | 51 => 160 | 146 => 169 | n => n, fun | 1 => 1 | n => n⟩
theorem lays144 : Go.Proofs.Lays.n144 Tryz.prog lays144_ren := {
  mixed := by kernel_rfl
  f143 := Tryz.func138.trans (congrArg some (by kernel_rfl))
  f144 := Tryz.func111.trans (congrArg some (by kernel_rfl))
  f217 := Tryz.func162.trans (congrArg some (by kernel_rfl))
  f219 := Tryz.func142.trans (congrArg some (by kernel_rfl))
  f224 := Tryz.func164.trans (congrArg some (by kernel_rfl))
  f225 := Tryz.func163.trans (congrArg some (by kernel_rfl))
  f266 := Tryz.func186.trans (congrArg some (by kernel_rfl))
  f267 := Tryz.func165.trans (congrArg some (by kernel_rfl))
  f314 := Tryz.func187.trans (congrArg some (by kernel_rfl))
  t3 := Tryz.underlying3
  a3 := Tryz.isAgg3
  z3 := Tryz.sizeOf3
  v3 := Tryz.zeroValue3
  t4 := Tryz.underlying4
  a4 := Tryz.isAgg4
  z4 := Tryz.sizeOf4
  v4 := Tryz.zeroValue4
  t5 := Tryz.underlying5
  a5 := Tryz.isAgg5
  z5 := Tryz.sizeOf5
  v5 := Tryz.zeroValue5
  t9 := Tryz.underlying9
  a9 := Tryz.isAgg9
  z9 := Tryz.sizeOf9
  v9 := Tryz.zeroValue9
  t46 := Tryz.underlying103
  a46 := Tryz.isAgg103
  z46 := Tryz.sizeOf103
  v46 := Tryz.zeroValue103
  t51 := Tryz.underlying160
  a51 := Tryz.isAgg160
  z51 := Tryz.sizeOf160
  v51 := Tryz.zeroValue160
  t146 := Tryz.underlying169
  a146 := Tryz.isAgg169
  z146 := Tryz.sizeOf169
  v146 := Tryz.zeroValue169
  g1 := by kernel_rfl }
def lays164_ren : Go.Shelf.Ren := ⟨fun | 164 => 116 | 197 => 143 | 239 => 144 | 260 => 166 | 274 => 167 | 275 => 168 | n => n, fun | 0 => 0 | 3 => 3 | 4 => 4 | 5 => 5 | 9 => 9 | 21 => 21 | 46 => 103 | 49 => 141 | 51 => 160 | 105 => 132 | 119 => 164 | 138 => 166 | 139 => 167 | 156 => 142 | 157 => 143 | 159 => 145 | 160 => 146 | 162 => 148 | 206 => 172 | 208 => 174 | n => n, fun | 3 => 5 | 4 => 6 | 11 => 2 | 12 => 3 | 13 => 4 | n => n⟩
theorem lays164 : Go.Proofs.Lays.n164 Tryz.prog lays164_ren := {
  mixed := by kernel_rfl
  f164 := Tryz.func116.trans (congrArg some (by kernel_rfl))
  f197 := Tryz.func143.trans (congrArg some (by kernel_rfl))
  f239 := Tryz.func144.trans (congrArg some (by kernel_rfl))
  f260 := Tryz.func166.trans (congrArg some (by kernel_rfl))
  f274 := Tryz.func167.trans (congrArg some (by kernel_rfl))
  f275 := Tryz.func168.trans (congrArg some (by kernel_rfl))
  t0 := Tryz.underlying0
  a0 := Tryz.isAgg0
  z0 := Tryz.sizeOf0
  v0 := Tryz.zeroValue0
  t3 := Tryz.underlying3
  a3 := Tryz.isAgg3
  z3 := Tryz.sizeOf3
  v3 := Tryz.zeroValue3
  t4 := Tryz.underlying4
  a4 := Tryz.isAgg4
  z4 := Tryz.sizeOf4
  v4 := Tryz.zeroValue4
  t5 := Tryz.underlying5
  a5 := Tryz.isAgg5
  z5 := Tryz.sizeOf5
  v5 := Tryz.zeroValue5
  t9 := Tryz.underlying9
  a9 := Tryz.isAgg9
  z9 := Tryz.sizeOf9
  v9 := Tryz.zeroValue9
  t21 := Tryz.underlying21
  a21 := Tryz.isAgg21
  z21 := Tryz.sizeOf21
  v21 := Tryz.zeroValue21
  t46 := Tryz.underlying103
  a46 := Tryz.isAgg103
  z46 := Tryz.sizeOf103
  v46 := Tryz.zeroValue103
  t49 := Tryz.underlying141
  a49 := Tryz.isAgg141
  z49 := Tryz.sizeOf141
  v49 := Tryz.zeroValue141
  t51 := Tryz.underlying160
  a51 := Tryz.isAgg160
  z51 := Tryz.sizeOf160
  v51 := Tryz.zeroValue160
  t105 := Tryz.underlying132
  a105 := Tryz.isAgg132
  z105 := Tryz.sizeOf132
  v105 := Tryz.zeroValue132
  t119 := Tryz.underlying164
  a119 := Tryz.isAgg164
  z119 := Tryz.sizeOf164
  t138 := Tryz.underlying166
  a138 := Tryz.isAgg166
  z138 := Tryz.sizeOf166
  v138 := Tryz.zeroValue166
  t139 := Tryz.underlying167
  a139 := Tryz.isAgg167
  z139 := Tryz.sizeOf167
  v139 := Tryz.zeroValue167
  t156 := Tryz.underlying142
  a156 := Tryz.isAgg142
  z156 := Tryz.sizeOf142
  t157 := Tryz.underlying143
  a157 := Tryz.isAgg143
  z157 := Tryz.sizeOf143
  v157 := Tryz.zeroValue143
  t159 := Tryz.underlying145
  a159 := Tryz.isAgg145
  z159 := Tryz.sizeOf145
  v159 := Tryz.zeroValue145
  t160 := Tryz.underlying146
  a160 := Tryz.isAgg146
  z160 := Tryz.sizeOf146
  v160 := Tryz.zeroValue146
  t162 := Tryz.underlying148
  a162 := Tryz.isAgg148
  z162 := Tryz.sizeOf148
  v162 := Tryz.zeroValue148
  t206 := Tryz.underlying172
  a206 := Tryz.isAgg172
  z206 := Tryz.sizeOf172
  v206 := Tryz.zeroValue172
  t208 := Tryz.underlying174
  a208 := Tryz.isAgg174
  z208 := Tryz.sizeOf174
  v208 := Tryz.zeroValue174
  g3 := by kernel_rfl
  g4 := by kernel_rfl
  g11 := by kernel_rfl
  g12 := by kernel_rfl
  g13 := by kernel_rfl }

/-- The library's variable MaxLen holds some number. -/
def Mx (w : World) : Prop := ∃ m, w.cell? ⟨1, 0, none⟩ = some (.int .i64 m)
theorem Mx.below {w w' : World} (h : Mx w) (hb : Below w.heap.size w w') : Mx w' := by
  obtain ⟨m, hm⟩ := h
  exact ⟨m, (hb.cell (p := ⟨_, 0, none⟩) (World.block_lt_of_cell? _ _ hm)).trans hm⟩
theorem mx_shaped {w : World} (h : w.ShapedOpen Tryz.prog) : Mx w :=
  cell_of_shapedOpen_int (zero := #[.int .i64 0]) (t := 3) h (of_decide_eq_true (by kernel_rfl)) (by kernel_rfl) rfl (by kernel_rfl) (by kernel_rfl) Tryz.underlying3
end Go.Proofs.YtkiniledfcdgjaaGreatDoor
