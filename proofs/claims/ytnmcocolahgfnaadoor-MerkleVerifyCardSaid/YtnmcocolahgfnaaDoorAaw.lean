/-
  The walk of the law MerkleVerify, over what is wanted of the program.
-/
import Derived.Test.YtnmcocolahgfnaaDoorAap
import Derived.Test.YtnmcocolahgfnaaDoorAav
import Derived.Deep.RegionHeld3
namespace Go.Proofs.YtnmcocolahgfnaaDoor
open Go.RowKit

theorem next6 (p : Nat) (a : Option Addr) (cap : Nat) (zs : List Int) (k : Nat) (w : World) (h : DeckAt w p a cap zs k) (hk2 : k < 30000) :
    Calls Tryd.prog 24 #[.pointer (some ⟨p, 0, none⟩), .int .i64 6] w fun e w' => ∃ r k' : Nat, r < 6 ∧ e = .returned (.int .i64 (r : Int)) ∧ DeckAt w' p a cap zs k' ∧ k' ≤ k + 1 ∧ But p w w' :=
  next_any p a cap zs k 6 w h hk2 (by omega) (by omega)
theorem next12 (p : Nat) (a : Option Addr) (cap : Nat) (zs : List Int) (k : Nat) (w : World) (h : DeckAt w p a cap zs k) (hk2 : k < 30000) :
    Calls Tryd.prog 24 #[.pointer (some ⟨p, 0, none⟩), .int .i64 12] w fun e w' => ∃ r k' : Nat, r < 12 ∧ e = .returned (.int .i64 (r : Int)) ∧ DeckAt w' p a cap zs k' ∧ k' ≤ k + 1 ∧ But p w w' :=
  next_any p a cap zs k 12 w h hk2 (by omega) (by omega)
theorem but_block {p g : Nat} {w w' : World} {o : Obj} (h : But p w w') (hg : w.heap[g]? = some o) (hne : g ≠ p) : w'.heap[g]? = some o :=
  (h.block g (Array.getElem?_eq_some_iff.1 hg).1 (fun e => hne (Option.some.inj e))).trans hg
theorem below_more {p : Nat} {a w w' : World} (hb : Below p a w) (h : Below w.heap.size w w') (hp : p ≤ w.heap.size) : Below p a w' := hb.trans (h.mono hp)
theorem mset0 {w : World} {g : Nat} {a b c x : Value} {t : TypeId} (h : w.heap[g]? = some (.cells #[a, b, c] t (0, 0))) : (w.setCell ⟨g, 0, none⟩ x).heap[g]? = some (.cells #[x, b, c] t (0, 0)) := by
  simp [World.setCell, Array.getElem?_modify, h]
theorem mset1 {w : World} {g : Nat} {a b c x : Value} {t : TypeId} (h : w.heap[g]? = some (.cells #[a, b, c] t (0, 0))) : (w.setCell ⟨g, 1, none⟩ x).heap[g]? = some (.cells #[a, x, c] t (0, 0)) := by
  simp [World.setCell, Array.getElem?_modify, h]
theorem ilies_lt {w : World} {a : Option Addr} {zs : List Int} (h : ILies w a zs) : ∀ x, a = some x → zs ≠ [] → x.block < w.heap.size := by
  intro x hx hne
  obtain ⟨b, o, e, hc⟩ := h.at 0 (List.length_pos_iff.2 hne)
  rw [hx] at e
  obtain rfl := Option.some.inj e
  exact block_lt_of_cell hc
theorem below_but {p : Nat} {a w w' : World} (hb : Below p a w) (h : But p w w') (hp : p ≤ w.heap.size) : Below p a w' := hb.trans (h.below hp)
set_option maxRecDepth 100000 in
set_option maxHeartbeats 2000000 in
theorem ver_out {TA : TreeP} (hT : Trees TA) (hV : VerPm) (k x y : Nat) (m o : ByteArray) (a : Option Addr) (cap n : Nat) (hbig : 200 < m.size ∨ 200 < o.size) (w : World) (hK : Holds w 0 kWords) :
    Calls Tryd.prog 6 #[.int .u8 (k : Int), .int .u8 (x : Int), .int .u8 (y : Int), .string m, .string o, .slice a n cap] w fun e w' => e = .returned (.bool true) ∧ Below w.heap.size w w' := by
  have HAW := Lib.hid (awakem_any hT hV w hK)
  clear hT hV hK
  by_cases h1 : 200 < m.size
  · have d1 : decide ((200 : Int) < (m.size : Int)) = true := by simp; omega
    clear hbig
    go_enter Tryd.func6, Tryd.ntmps6
    go_wp2_with (go_at_call 11; (with_reducible refine HAW.out.mono ?_); rintro e w1 ⟨rfl, hb1⟩; have HB1 := Lib.hid hb1; clear hb1)
    go_ret
    exact ⟨rfl, HB1.out⟩
  · have d1 : decide ((200 : Int) < (m.size : Int)) = false := by simp; omega
    have h2 : 200 < o.size := by omega
    have d2 : decide ((200 : Int) < (o.size : Int)) = true := by simp; omega
    clear hbig
    go_enter Tryd.func6, Tryd.ntmps6
    go_wp2_with (go_at_call 11; (with_reducible refine HAW.out.mono ?_); rintro e w1 ⟨rfl, hb1⟩; have HB1 := Lib.hid hb1; clear hb1)
    go_ret
    exact ⟨rfl, HB1.out⟩

set_option maxRecDepth 100000 in
set_option maxHeartbeats 4000000 in
theorem ver_in {TA : TreeP} (hT : Trees TA) (hV : VerPm) (k x y : Nat) (m om : ByteArray) (a : Option Addr) (cap : Nat) (zs : List Int) (hk : k < 256) (hy : y < 256) (hm : m.size ≤ 200) (ho : om.size ≤ 200) (w : World) (hK : Holds w 0 kWords) (hli : ILies w a zs) (hz : zs.length ≤ 9223372036854775807) :
    Calls Tryd.prog 6 #[.int .u8 (k : Int), .int .u8 (x : Int), .int .u8 (y : Int), .string m, .string om, .slice a zs.length cap] w fun e w' => e = .returned (.bool true) ∧ Below w.heap.size w w' := by
  have dm : decide ((200 : Int) < (m.size : Int)) = false := by simp; omega
  have do2 : decide ((200 : Int) < (om.size : Int)) = false := by simp; omega
  obtain ⟨h, hx⟩ : ∃ h, h = x % 3 := ⟨_, rfl⟩
  have hxi : (x : Int) % 3 = (h : Int) := by omega
  have hh : h ≤ 8 := by omega
  obtain ⟨S, hS⟩ : ∃ S, S = seedS k := ⟨_, rfl⟩
  have hSs : S.size = 32 := by rw [hS]; exact seedS_size k
  obtain ⟨N, hN⟩ : ∃ N, N = 2 ^ h := ⟨_, rfl⟩
  have hN1 : 1 ≤ N ∧ N ≤ 256 := by rw [hN]; exact ⟨(pow_small hh).2, (pow_small hh).1⟩
  obtain ⟨lf, hlf⟩ : ∃ lf, lf = y % N := ⟨_, rfl⟩
  have hlN : lf < N := by rw [hlf]; exact Nat.mod_lt _ (by omega)
  have hlt : (y : Int).tmod (N : Int) = (lf : Int) := by rw [Int.tmod_eq_emod_of_nonneg (by omega), hlf]; rfl
  have hlw : IntKind.i64.wrap (lf : Int) = (lf : Int) := by rw [wrap_i64]; omega
  have hlp : lf < 2 ^ h := by rw [← hN]; exact hlN
  obtain ⟨X, hX⟩ : ∃ X, X = sigT S h lf m := ⟨_, rfl⟩
  have hXs : X.size = 564 + h * 16 := by rw [hX, sigT_size]
  obtain ⟨ID, hID⟩ : ∃ ID, ID = idT S := ⟨_, rfl⟩
  obtain ⟨R, hR⟩ : ∃ R, R = rootS S h := ⟨_, rfl⟩
  have HIDs := Lib.hid (show ID.size = 16 by rw [hID]; exact idT_size S)
  have HRs := Lib.hid (show R.size = 16 by rw [hR]; exact rootS_size S h)
  have HTR : Hid (∀ W : World, Calls Tryd.prog 14 #[.int .i64 (k : Int), .int .i64 (h : Int)] W fun e w' => (∃ v, e = .returned v ∧ TreeV w' v S h) ∧ Below W.heap.size W w') := Lib.hid fun W => by rw [hS]; exact treeq_any k h (by omega) hh W
  have HST : Hid (∀ (v : Value) (W : World), TreeV W v S h → Calls Tryd.prog 20 #[v, .int .i64 (lf : Int), .string m] W fun e w' => e = .returned (.tuple #[.string X, .int .i64 0]) ∧ Below W.heap.size W w') := Lib.hid fun v W ht => by
    have := rsgnt_ok v S h lf m hSs hh hlp (by omega) W ht
    rw [← hX] at this
    exact this
  have HKO : Hid (∀ (v : Value) (W : World), TreeV W v S h → Calls Tryd.prog 13 #[v] W fun e w' => e = .returned (.agg #[.int .i64 (h : Int), .string ID, .string R]) ∧ Below W.heap.size W w') := Lib.hid fun v W ht => by
    have := rkeyof_any v S h hh W ht
    unfold keyV at this
    rw [← hID, ← hR] at this
    exact this
  have HVE : Hid (∀ W : World, Holds W 0 kWords → Calls Tryd.prog 25 #[.agg #[.int .i64 (h : Int), .string ID, .string R], .string m, .string X] W fun e w' => e = .returned (.int .i64 0) ∧ Below W.heap.size W w') := Lib.hid fun W k => by
    have h1 := hV (h : Int) ID R m X W (by omega) (by omega) k
    rw [hID, hR, hX, sigT_ver S h lf m hlp hh, ← hX, ← hID, ← hR] at h1
    exact h1
  have HVP : Hid (∀ (h' : Int) (A B M Y : ByteArray) (W : World), M.size ≤ 1000 → Y.size ≤ 1000 → Holds W 0 kWords → Calls Tryd.prog 25 #[.agg #[.int .i64 h', .string A, .string B], .string M, .string Y] W fun e w' => e = .returned (.int .i64 ((verE h' A B M Y : Nat) : Int)) ∧ Below W.heap.size W w') := Lib.hid fun h' A B M Y W h1 h2 k => hV h' A B M Y W (by omega) (by omega) k
  have HVR : Hid (∀ (h' : Int) (A B M Y : ByteArray) (W : World), M.size ≤ 1000 → Y.size ≤ 1000 → Calls Tryd.prog 26 #[.agg #[.int .i64 h', .string A, .string B], .string M, .string Y] W fun e w' => e = .returned (.int .i64 ((verE h' A B M Y : Nat) : Int)) ∧ Below W.heap.size W w') := Lib.hid fun h' A B M Y W h1 h2 => rver_any h' A B M Y (by omega) (by omega) W
  have HAW := Lib.hid (fun W hk => awakem_any hT hV W hk)
  have HK := Lib.hid hK
  have HLI := Lib.hid hli
  have HXS := Lib.hid (show X.size ≠ 0 ∧ X.size ≤ 900 by omega)
  have HMS := Lib.hid hm
  have HOS := Lib.hid ho
  obtain ⟨z, hzz⟩ : ∃ z, z = zs.length := ⟨_, rfl⟩
  have HNW : Hid (∀ W : World, ILies W a zs → Calls Tryd.prog 22 #[.slice a z cap] W fun e w' => e = .returned (.pointer (some ⟨W.heap.size, 0, none⟩)) ∧ DeckAt w' W.heap.size a cap zs 0 ∧ Below W.heap.size W w') := Lib.hid fun W hl => by rw [hzz]; exact new_any a cap zs W hl hz
  rw [← hzz]
  have hkw : IntKind.i64.wrap (k : Int) = (k : Int) := by rw [wrap_i64]; omega
  have hyw : IntKind.i64.wrap (y : Int) = (y : Int) := by rw [wrap_i64]; omega
  have hNz : ¬ (N : Int) = 0 := by omega
  have hNz2 : ¬ N = 0 := by omega
  have hw1 := wrap_pow hh hN
  have hw2 := wrap_pow2 hh hN
  clear hS hSs hN hX hK hT hV hx hlf hlp hm ho hN1 hID hR hli hz hzz hXs
  go_enter Tryd.func6, Tryd.ntmps6
  go_wp2_with (first
    | (go_at_call 14; (with_reducible refine (HTR.out _).mono ?_); rintro e w1 ⟨⟨v, rfl, hv⟩, hb1⟩; have HV1 := Lib.hid hv; obtain ⟨b, o, c, rfl, _, _, _⟩ := hv.open; have HB1 := Lib.hid hb1; clear hb1 hv))
  obtain ⟨n1, hn1⟩ : ∃ n1, n1 = h + 1 := ⟨_, rfl⟩
  rw [← hn1] at HV1 ⊢
  obtain ⟨T, hT⟩ : ∃ T, T = w1.heap.size := ⟨_, rfl⟩
  obtain ⟨W2, hW2⟩ : ∃ W2, W2 = w1.alloc (.cells #[.string S, .string (idT S), .slice (some ⟨b, o, none⟩) n1 c] 34) := ⟨_, rfl⟩
  rw [← hW2, ← hT]
  have hq2 : W2.heap[T]? = some (.cells #[.string S, .string (idT S), .slice (some ⟨b, o, none⟩) n1 c] 34 (0, 0)) := by rw [hW2, hT]; exact heap_alloc_new w1 _
  have HB2 : Hid (Below w.heap.size w W2) := Lib.hid (by rw [hW2]; exact HB1.out.next (belowNew w1 _))
  have HV2 : Hid (TreeV W2 (.agg #[.string S, .string (idT S), .slice (some ⟨b, o, none⟩) n1 c]) S h) := Lib.hid (by rw [hW2]; exact HV1.out.below (belowNew w1 _))
  obtain ⟨t0, t1, t2, hTl⟩ := tcell hq2
  have HQ2 := Lib.hid hq2
  have HTL := Lib.hid hTl
  clear hW2 hT hq2 hTl hn1
  go_region_held3 (fun w' => w'.cell? ⟨T, 0, none⟩ = some (.string S) ∧ w'.cell? ⟨T, 1, none⟩ = some (.string (idT S)) ∧ w'.cell? ⟨T, 2, none⟩ = some (.slice (some ⟨b, o, none⟩) n1 c)) (first | with_reducible exact ⟨by assumption, by assumption, by assumption⟩ | go_keep)
    (first
      | (go_at_call 20; (with_reducible refine (HST.out _ _ (by first | exact HV2.out | exact HV2.out.below (Below.refl _ _).drew)).mono ?_); rintro e w3 ⟨rfl, hb3⟩; have hx : Below W2.heap.size W2 w3 := (by first | exact hb3 | exact (Below.refl _ _).drew.trans hb3); have u0 := (hx.cell (p := ⟨T, 0, none⟩) HTL.out).trans t0; have u1 := (hx.cell (p := ⟨T, 1, none⟩) HTL.out).trans t1; have u2 := (hx.cell (p := ⟨T, 2, none⟩) HTL.out).trans t2; have HB3 := Lib.hid (HB2.out.next hx); have HV3 := Lib.hid (HV2.out.below hx); have HQ3 := Lib.hid ((hx.block T HTL.out).trans HQ2.out); have HTL3 := Lib.hid (Nat.lt_of_lt_of_le HTL.out hx.size); have HNW3 := Lib.hid (HNW.out w3 (HLI.out.below (HB2.out.next hx) (ilies_lt HLI.out))); clear hb3 hx))
  obtain ⟨p, hp⟩ : ∃ p, p = w3.heap.size := ⟨_, rfl⟩
  rw [← hp] at HNW3
  have HP := Lib.hid hp
  clear t0 t1 t2 u0 u1 u2 hp hw1 hw2 hNz hNz2 hlt hlw hkw hyw dm do2
  go_wp2_with (first
    | (go_at_call 22; (with_reducible refine HNW3.out.mono ?_); rintro e w4 ⟨rfl, hd4, hb4⟩; have HD4 := Lib.hid hd4; have HB4 := Lib.hid hb4; obtain ⟨t0, t1, t2, _⟩ := tcell ((hb4.block T (by rw [HP.out]; exact HTL3.out)).trans HQ3.out); have HV4 := Lib.hid (HV3.out.below (by rw [← HP.out]; exact hb4)); clear hd4 hb4)
    | (go_at_call 13; (with_reducible refine (HKO.out _ _ HV4.out).mono ?_); rintro e w5 ⟨rfl, hb5⟩; have HD5 := Lib.hid ((HD4.out.below hb5).below (belowNew w5 (.cells #[.int .i64 (h : Int), .string ID, .string R] 29))); have HB5 := Lib.hid (below_more HB4.out (hb5.next (belowNew w5 (.cells #[.int .i64 (h : Int), .string ID, .string R] 29))) (by rw [HP.out]; exact HB4.out.size)); have HK5 := Lib.hid (heap_alloc_new w5 (.cells #[.int .i64 (h : Int), .string ID, .string R] 29)); have HPK := Lib.hid (Nat.lt_of_lt_of_le HD4.out.lt hb5.size); clear hb5)
    | (go_at_call 23; (with_reducible refine (damage_but p a cap zs 0 X _ HD5.out (by omega) HXS.out.1 (by have := HXS.out.2; omega)).mono ?_); rintro e w7 ⟨X2, k7, rfl, hx7, hd7, hk7, hb7⟩; have HB7 := Lib.hid (below_but HB5.out hb7 (by have := HPK.out; simp; omega)); have HK7 := Lib.hid (but_block hb7 HK5.out (Nat.ne_of_gt HPK.out)); have HN7 := Lib.hid (next6 p a cap zs k7 w7 hd7 (by omega)); have HX2 := Lib.hid hx7; have HK77 := Lib.hid hk7; clear hb7 hd7 hx7 hk7)
    | (go_at_call 24; (with_reducible refine HN7.out.mono ?_); rintro e w8 ⟨r, k8, hr, rfl, hd8, hk8, hb8⟩; have HB8 := Lib.hid (below_but HB7.out hb8 (by have h1 := HPK.out; have h2 := (Array.getElem?_eq_some_iff.1 HK7.out).1; omega)); have hq8 := but_block hb8 HK7.out (Nat.ne_of_gt HPK.out); obtain ⟨q0, q1, q2, _⟩ := tcell hq8; have f0 := Lib.frozen_of_heap hq8 0; have f1 := Lib.frozen_of_heap hq8 1; have f2 := Lib.frozen_of_heap hq8 2; have HKW := Lib.hid hq8; clear hq8; have HN12 := Lib.hid (next12 p a cap zs k8 w8 hd8 (by have := HK77.out; omega)); have HDA := Lib.hid (damage_but p a cap zs k8 ID w8 hd8 (by have := HK77.out; omega) (by rw [HIDs.out]; decide) (by rw [HIDs.out]; decide)); have HDB := Lib.hid (damage_but p a cap zs k8 R w8 hd8 (by have := HK77.out; omega) (by rw [HRs.out]; decide) (by rw [HRs.out]; decide)); have HR := Lib.hid hr; clear hb8 hd8 hk8 hr)
    | (go_at_call 24; (with_reducible refine HN12.out.mono ?_); rintro e w9 ⟨r2, k9, hr2, rfl, hd9, hk9, hb9⟩; have HBW := Lib.hid (below_but HB8.out hb9 (by have h1 := HPK.out; have h2 := (Array.getElem?_eq_some_iff.1 HKW.out).1; omega)); clear q0 q1 q2 f0 f1 f2; have hq9 := but_block hb9 HKW.out (Nat.ne_of_gt HPK.out); obtain ⟨q0, q1, q2, _⟩ := tcell hq9; have f0 := Lib.frozen_of_heap hq9 0; have f1 := Lib.frozen_of_heap hq9 1; have f2 := Lib.frozen_of_heap hq9 2; have HKW := Lib.hid hq9; clear hq9; clear hd9 hk9 hb9)
    | (go_at_call 23; (with_reducible refine HDA.out.mono ?_); rintro e w9 ⟨A, k9, rfl, _, hd9, hk9, hb9⟩; have HBW := Lib.hid (below_but HB8.out hb9 (by have h1 := HPK.out; have h2 := (Array.getElem?_eq_some_iff.1 HKW.out).1; omega)); clear q0 q1 q2 f0 f1 f2; have hq9 := but_block hb9 HKW.out (Nat.ne_of_gt HPK.out); obtain ⟨q0, q1, q2, _⟩ := tcell hq9; have f0 := Lib.frozen_of_heap hq9 0; have f1 := Lib.frozen_of_heap hq9 1; have f2 := Lib.frozen_of_heap hq9 2; have HKW := Lib.hid hq9; clear hq9; clear hd9 hk9 hb9)
    | (go_at_call 23; (with_reducible refine HDB.out.mono ?_); rintro e w9 ⟨A, k9, rfl, _, hd9, hk9, hb9⟩; have HBW := Lib.hid (below_but HB8.out hb9 (by have h1 := HPK.out; have h2 := (Array.getElem?_eq_some_iff.1 HKW.out).1; omega)); clear q0 q1 q2 f0 f1 f2; have hq9 := but_block hb9 HKW.out (Nat.ne_of_gt HPK.out); obtain ⟨q0, q1, q2, _⟩ := tcell hq9; have f0 := Lib.frozen_of_heap hq9 0; have f1 := Lib.frozen_of_heap hq9 1; have f2 := Lib.frozen_of_heap hq9 2; have HKW := Lib.hid hq9; clear hq9; clear hd9 hk9 hb9))
  · obtain ⟨W9, hW9⟩ : ∃ W9, W9 = w9.setCell ⟨w5.heap.size, 0, none⟩ (.int .i64 ((r2 : Int) - 1)) := ⟨_, rfl⟩
    have HKN : Hid (W9.heap[w5.heap.size]? = some (.cells #[.int .i64 ((r2 : Int) - 1), .string ID, .string R] 29 (0, 0))) := Lib.hid (by rw [hW9]; exact mset0 HKW.out)
    have HBN : Hid (Below p w3 W9) := Lib.hid (by rw [hW9]; exact HBW.out.setCell (p := ⟨w5.heap.size, 0, none⟩) (Nat.le_of_lt HPK.out) _)
    rw [← hW9]
    clear hW9
    clear q0 q1 q2 f0 f1 f2 t0 t1 t2
    obtain ⟨ve, hve⟩ : ∃ ve, ve = verE (((r2 : Int) - 1)) ID R m X2 := ⟨_, rfl⟩
    have HP1 : Hid (∀ U : World, Holds U 0 kWords → Calls Tryd.prog 25 #[.agg #[.int .i64 (((r2 : Int) - 1)), .string ID, .string R], .string m, .string X2] U fun e w' => e = .returned (.int .i64 (ve : Int)) ∧ Below U.heap.size U w') := Lib.hid fun U k => by rw [hve]; exact HVP.out (((r2 : Int) - 1)) ID R m X2 U (by have := HMS.out; omega) (by have := HX2.out; have := HXS.out; omega) k
    have HP2 : Hid (∀ U : World, Calls Tryd.prog 26 #[.agg #[.int .i64 (((r2 : Int) - 1)), .string ID, .string R], .string m, .string X2] U fun e w' => e = .returned (.int .i64 (ve : Int)) ∧ Below U.heap.size U w') := Lib.hid fun U => by rw [hve]; exact HVR.out (((r2 : Int) - 1)) ID R m X2 U (by have := HMS.out; omega) (by have := HX2.out; have := HXS.out; omega)
    obtain ⟨k0, k1, k2, hKl⟩ := tcell HKN.out
    obtain ⟨e0, e1, e2, hTl⟩ := tcell ((HBN.out.block T (by rw [HP.out]; exact HTL3.out)).trans HQ3.out)
    have HKL := Lib.hid hKl
    have HTL9 := Lib.hid hTl
    have HBU : Hid (∀ U : World, Below W9.heap.size W9 U → Below w3.heap.size w3 U) := Lib.hid fun U hx => by
      have h1 := below_more HBN.out hx (by have h1 := HPK.out; have h2 := HKL.out; omega)
      rw [HP.out] at h1
      exact h1
    have HKH : Hid (∀ U : World, Below W9.heap.size W9 U → Holds U 0 kWords) := Lib.hid fun U hx => HK.out.old (HB3.out.next (HBU.out U hx))
    clear hve hKl hTl
    go_region_held3 (fun w' => w'.cell? ⟨w5.heap.size, 0, none⟩ = some (.int .i64 ((r2 : Int) - 1)) ∧ w'.cell? ⟨w5.heap.size, 1, none⟩ = some (.string ID) ∧ w'.cell? ⟨w5.heap.size, 2, none⟩ = some (.string R) ∧ w'.cell? ⟨T, 0, none⟩ = some (.string S) ∧ w'.cell? ⟨T, 1, none⟩ = some (.string (idT S)) ∧ w'.cell? ⟨T, 2, none⟩ = some (.slice (some ⟨b, o, none⟩) n1 c)) (first | with_reducible exact ⟨by assumption, by assumption, by assumption, by assumption, by assumption, by assumption⟩ | go_keep)
      (first
        | (go_at_call 11; (with_reducible refine (HAW.out _ (by first | exact HKH.out _ (Below.refl _ _) | exact HKH.out _ (Below.refl _ _).drew)).mono ?_); rintro e x1 ⟨rfl, hb1⟩; have hx : Below W9.heap.size W9 x1 := (by first | exact hb1 | exact (Below.refl _ _).drew.trans hb1); have y10 := (hx.cell (p := ⟨w5.heap.size, 0, none⟩) HKL.out).trans k0; have z10 := (hx.cell (p := ⟨T, 0, none⟩) HTL9.out).trans e0; have y11 := (hx.cell (p := ⟨w5.heap.size, 1, none⟩) HKL.out).trans k1; have z11 := (hx.cell (p := ⟨T, 1, none⟩) HTL9.out).trans e1; have y12 := (hx.cell (p := ⟨w5.heap.size, 2, none⟩) HKL.out).trans k2; have z12 := (hx.cell (p := ⟨T, 2, none⟩) HTL9.out).trans e2; have HX1 := Lib.hid hx; clear hb1 hx)
        | (go_at_call 25; (with_reducible refine (HP1.out _ (HKH.out _ HX1.out)).mono ?_); rintro e x2 ⟨rfl, hb1⟩; have hx : Below W9.heap.size W9 x2 := HX1.out.next hb1; have y20 := (hx.cell (p := ⟨w5.heap.size, 0, none⟩) HKL.out).trans k0; have z20 := (hx.cell (p := ⟨T, 0, none⟩) HTL9.out).trans e0; have y21 := (hx.cell (p := ⟨w5.heap.size, 1, none⟩) HKL.out).trans k1; have z21 := (hx.cell (p := ⟨T, 1, none⟩) HTL9.out).trans e1; have y22 := (hx.cell (p := ⟨w5.heap.size, 2, none⟩) HKL.out).trans k2; have z22 := (hx.cell (p := ⟨T, 2, none⟩) HTL9.out).trans e2; have HX2' := Lib.hid hx; clear hb1 hx)
        | (go_at_call 26; (with_reducible refine (HP2.out _).mono ?_); rintro e x3 ⟨rfl, hb1⟩; have hx : Below W9.heap.size W9 x3 := HX2'.out.next hb1; have y30 := (hx.cell (p := ⟨w5.heap.size, 0, none⟩) HKL.out).trans k0; have z30 := (hx.cell (p := ⟨T, 0, none⟩) HTL9.out).trans e0; have y31 := (hx.cell (p := ⟨w5.heap.size, 1, none⟩) HKL.out).trans k1; have z31 := (hx.cell (p := ⟨T, 1, none⟩) HTL9.out).trans e1; have y32 := (hx.cell (p := ⟨w5.heap.size, 2, none⟩) HKL.out).trans k2; have z32 := (hx.cell (p := ⟨T, 2, none⟩) HTL9.out).trans e2; have HX3 := Lib.hid hx; clear hb1 hx)
        | (go_at_call 13; (with_reducible refine (HKO.out _ _ (HV3.out.below (HBU.out _ HX3.out))).mono ?_); rintro e x4 ⟨rfl, hb1⟩; have hx : Below W9.heap.size W9 x4 := HX3.out.next hb1; have y40 := (hx.cell (p := ⟨w5.heap.size, 0, none⟩) HKL.out).trans k0; have z40 := (hx.cell (p := ⟨T, 0, none⟩) HTL9.out).trans e0; have y41 := (hx.cell (p := ⟨w5.heap.size, 1, none⟩) HKL.out).trans k1; have z41 := (hx.cell (p := ⟨T, 1, none⟩) HTL9.out).trans e1; have y42 := (hx.cell (p := ⟨w5.heap.size, 2, none⟩) HKL.out).trans k2; have z42 := (hx.cell (p := ⟨T, 2, none⟩) HTL9.out).trans e2; have HX4 := Lib.hid hx; clear hb1 hx)
        | (go_at_call 25; (with_reducible refine (HVE.out _ (HKH.out _ HX4.out)).mono ?_); rintro e x5 ⟨rfl, hb1⟩; have hx : Below W9.heap.size W9 x5 := HX4.out.next hb1; have y50 := (hx.cell (p := ⟨w5.heap.size, 0, none⟩) HKL.out).trans k0; have z50 := (hx.cell (p := ⟨T, 0, none⟩) HTL9.out).trans e0; have y51 := (hx.cell (p := ⟨w5.heap.size, 1, none⟩) HKL.out).trans k1; have z51 := (hx.cell (p := ⟨T, 1, none⟩) HTL9.out).trans e1; have y52 := (hx.cell (p := ⟨w5.heap.size, 2, none⟩) HKL.out).trans k2; have z52 := (hx.cell (p := ⟨T, 2, none⟩) HTL9.out).trans e2; have HX5 := Lib.hid hx; clear hb1 hx))
    go_wp2_with fail
    go_ret
    exact ⟨rfl, HB3.out.next (HBU.out _ HX5.out)⟩
  · obtain ⟨W9, hW9⟩ : ∃ W9, W9 = w9.setCell ⟨w5.heap.size, 1, none⟩ (.string A) := ⟨_, rfl⟩
    have HKN : Hid (W9.heap[w5.heap.size]? = some (.cells #[.int .i64 (h : Int), .string A, .string R] 29 (0, 0))) := Lib.hid (by rw [hW9]; exact mset1 HKW.out)
    have HBN : Hid (Below p w3 W9) := Lib.hid (by rw [hW9]; exact HBW.out.setCell (p := ⟨w5.heap.size, 1, none⟩) (Nat.le_of_lt HPK.out) _)
    rw [← hW9]
    clear hW9
    clear q0 q1 q2 f0 f1 f2 t0 t1 t2
    obtain ⟨ve, hve⟩ : ∃ ve, ve = verE ((h : Int)) A R m X2 := ⟨_, rfl⟩
    have HP1 : Hid (∀ U : World, Holds U 0 kWords → Calls Tryd.prog 25 #[.agg #[.int .i64 ((h : Int)), .string A, .string R], .string m, .string X2] U fun e w' => e = .returned (.int .i64 (ve : Int)) ∧ Below U.heap.size U w') := Lib.hid fun U k => by rw [hve]; exact HVP.out ((h : Int)) A R m X2 U (by have := HMS.out; omega) (by have := HX2.out; have := HXS.out; omega) k
    have HP2 : Hid (∀ U : World, Calls Tryd.prog 26 #[.agg #[.int .i64 ((h : Int)), .string A, .string R], .string m, .string X2] U fun e w' => e = .returned (.int .i64 (ve : Int)) ∧ Below U.heap.size U w') := Lib.hid fun U => by rw [hve]; exact HVR.out ((h : Int)) A R m X2 U (by have := HMS.out; omega) (by have := HX2.out; have := HXS.out; omega)
    obtain ⟨k0, k1, k2, hKl⟩ := tcell HKN.out
    obtain ⟨e0, e1, e2, hTl⟩ := tcell ((HBN.out.block T (by rw [HP.out]; exact HTL3.out)).trans HQ3.out)
    have HKL := Lib.hid hKl
    have HTL9 := Lib.hid hTl
    have HBU : Hid (∀ U : World, Below W9.heap.size W9 U → Below w3.heap.size w3 U) := Lib.hid fun U hx => by
      have h1 := below_more HBN.out hx (by have h1 := HPK.out; have h2 := HKL.out; omega)
      rw [HP.out] at h1
      exact h1
    have HKH : Hid (∀ U : World, Below W9.heap.size W9 U → Holds U 0 kWords) := Lib.hid fun U hx => HK.out.old (HB3.out.next (HBU.out U hx))
    clear hve hKl hTl
    go_region_held3 (fun w' => w'.cell? ⟨w5.heap.size, 0, none⟩ = some (.int .i64 (h : Int)) ∧ w'.cell? ⟨w5.heap.size, 1, none⟩ = some (.string A) ∧ w'.cell? ⟨w5.heap.size, 2, none⟩ = some (.string R) ∧ w'.cell? ⟨T, 0, none⟩ = some (.string S) ∧ w'.cell? ⟨T, 1, none⟩ = some (.string (idT S)) ∧ w'.cell? ⟨T, 2, none⟩ = some (.slice (some ⟨b, o, none⟩) n1 c)) (first | with_reducible exact ⟨by assumption, by assumption, by assumption, by assumption, by assumption, by assumption⟩ | go_keep)
      (first
        | (go_at_call 11; (with_reducible refine (HAW.out _ (by first | exact HKH.out _ (Below.refl _ _) | exact HKH.out _ (Below.refl _ _).drew)).mono ?_); rintro e x1 ⟨rfl, hb1⟩; have hx : Below W9.heap.size W9 x1 := (by first | exact hb1 | exact (Below.refl _ _).drew.trans hb1); have y10 := (hx.cell (p := ⟨w5.heap.size, 0, none⟩) HKL.out).trans k0; have z10 := (hx.cell (p := ⟨T, 0, none⟩) HTL9.out).trans e0; have y11 := (hx.cell (p := ⟨w5.heap.size, 1, none⟩) HKL.out).trans k1; have z11 := (hx.cell (p := ⟨T, 1, none⟩) HTL9.out).trans e1; have y12 := (hx.cell (p := ⟨w5.heap.size, 2, none⟩) HKL.out).trans k2; have z12 := (hx.cell (p := ⟨T, 2, none⟩) HTL9.out).trans e2; have HX1 := Lib.hid hx; clear hb1 hx)
        | (go_at_call 25; (with_reducible refine (HP1.out _ (HKH.out _ HX1.out)).mono ?_); rintro e x2 ⟨rfl, hb1⟩; have hx : Below W9.heap.size W9 x2 := HX1.out.next hb1; have y20 := (hx.cell (p := ⟨w5.heap.size, 0, none⟩) HKL.out).trans k0; have z20 := (hx.cell (p := ⟨T, 0, none⟩) HTL9.out).trans e0; have y21 := (hx.cell (p := ⟨w5.heap.size, 1, none⟩) HKL.out).trans k1; have z21 := (hx.cell (p := ⟨T, 1, none⟩) HTL9.out).trans e1; have y22 := (hx.cell (p := ⟨w5.heap.size, 2, none⟩) HKL.out).trans k2; have z22 := (hx.cell (p := ⟨T, 2, none⟩) HTL9.out).trans e2; have HX2' := Lib.hid hx; clear hb1 hx)
        | (go_at_call 26; (with_reducible refine (HP2.out _).mono ?_); rintro e x3 ⟨rfl, hb1⟩; have hx : Below W9.heap.size W9 x3 := HX2'.out.next hb1; have y30 := (hx.cell (p := ⟨w5.heap.size, 0, none⟩) HKL.out).trans k0; have z30 := (hx.cell (p := ⟨T, 0, none⟩) HTL9.out).trans e0; have y31 := (hx.cell (p := ⟨w5.heap.size, 1, none⟩) HKL.out).trans k1; have z31 := (hx.cell (p := ⟨T, 1, none⟩) HTL9.out).trans e1; have y32 := (hx.cell (p := ⟨w5.heap.size, 2, none⟩) HKL.out).trans k2; have z32 := (hx.cell (p := ⟨T, 2, none⟩) HTL9.out).trans e2; have HX3 := Lib.hid hx; clear hb1 hx)
        | (go_at_call 13; (with_reducible refine (HKO.out _ _ (HV3.out.below (HBU.out _ HX3.out))).mono ?_); rintro e x4 ⟨rfl, hb1⟩; have hx : Below W9.heap.size W9 x4 := HX3.out.next hb1; have y40 := (hx.cell (p := ⟨w5.heap.size, 0, none⟩) HKL.out).trans k0; have z40 := (hx.cell (p := ⟨T, 0, none⟩) HTL9.out).trans e0; have y41 := (hx.cell (p := ⟨w5.heap.size, 1, none⟩) HKL.out).trans k1; have z41 := (hx.cell (p := ⟨T, 1, none⟩) HTL9.out).trans e1; have y42 := (hx.cell (p := ⟨w5.heap.size, 2, none⟩) HKL.out).trans k2; have z42 := (hx.cell (p := ⟨T, 2, none⟩) HTL9.out).trans e2; have HX4 := Lib.hid hx; clear hb1 hx)
        | (go_at_call 25; (with_reducible refine (HVE.out _ (HKH.out _ HX4.out)).mono ?_); rintro e x5 ⟨rfl, hb1⟩; have hx : Below W9.heap.size W9 x5 := HX4.out.next hb1; have y50 := (hx.cell (p := ⟨w5.heap.size, 0, none⟩) HKL.out).trans k0; have z50 := (hx.cell (p := ⟨T, 0, none⟩) HTL9.out).trans e0; have y51 := (hx.cell (p := ⟨w5.heap.size, 1, none⟩) HKL.out).trans k1; have z51 := (hx.cell (p := ⟨T, 1, none⟩) HTL9.out).trans e1; have y52 := (hx.cell (p := ⟨w5.heap.size, 2, none⟩) HKL.out).trans k2; have z52 := (hx.cell (p := ⟨T, 2, none⟩) HTL9.out).trans e2; have HX5 := Lib.hid hx; clear hb1 hx))
    go_wp2_with fail
    go_ret
    exact ⟨rfl, HB3.out.next (HBU.out _ HX5.out)⟩
  · obtain ⟨W9, hW9⟩ : ∃ W9, W9 = w9.setCell ⟨w5.heap.size, 2, none⟩ (.string A) := ⟨_, rfl⟩
    have HKN : Hid (W9.heap[w5.heap.size]? = some (.cells #[.int .i64 (h : Int), .string ID, .string A] 29 (0, 0))) := Lib.hid (by rw [hW9]; exact tset2 HKW.out)
    have HBN : Hid (Below p w3 W9) := Lib.hid (by rw [hW9]; exact HBW.out.setCell (p := ⟨w5.heap.size, 2, none⟩) (Nat.le_of_lt HPK.out) _)
    rw [← hW9]
    clear hW9
    clear q0 q1 q2 f0 f1 f2 t0 t1 t2
    obtain ⟨ve, hve⟩ : ∃ ve, ve = verE ((h : Int)) ID A m X2 := ⟨_, rfl⟩
    have HP1 : Hid (∀ U : World, Holds U 0 kWords → Calls Tryd.prog 25 #[.agg #[.int .i64 ((h : Int)), .string ID, .string A], .string m, .string X2] U fun e w' => e = .returned (.int .i64 (ve : Int)) ∧ Below U.heap.size U w') := Lib.hid fun U k => by rw [hve]; exact HVP.out ((h : Int)) ID A m X2 U (by have := HMS.out; omega) (by have := HX2.out; have := HXS.out; omega) k
    have HP2 : Hid (∀ U : World, Calls Tryd.prog 26 #[.agg #[.int .i64 ((h : Int)), .string ID, .string A], .string m, .string X2] U fun e w' => e = .returned (.int .i64 (ve : Int)) ∧ Below U.heap.size U w') := Lib.hid fun U => by rw [hve]; exact HVR.out ((h : Int)) ID A m X2 U (by have := HMS.out; omega) (by have := HX2.out; have := HXS.out; omega)
    obtain ⟨k0, k1, k2, hKl⟩ := tcell HKN.out
    obtain ⟨e0, e1, e2, hTl⟩ := tcell ((HBN.out.block T (by rw [HP.out]; exact HTL3.out)).trans HQ3.out)
    have HKL := Lib.hid hKl
    have HTL9 := Lib.hid hTl
    have HBU : Hid (∀ U : World, Below W9.heap.size W9 U → Below w3.heap.size w3 U) := Lib.hid fun U hx => by
      have h1 := below_more HBN.out hx (by have h1 := HPK.out; have h2 := HKL.out; omega)
      rw [HP.out] at h1
      exact h1
    have HKH : Hid (∀ U : World, Below W9.heap.size W9 U → Holds U 0 kWords) := Lib.hid fun U hx => HK.out.old (HB3.out.next (HBU.out U hx))
    clear hve hKl hTl
    go_region_held3 (fun w' => w'.cell? ⟨w5.heap.size, 0, none⟩ = some (.int .i64 (h : Int)) ∧ w'.cell? ⟨w5.heap.size, 1, none⟩ = some (.string ID) ∧ w'.cell? ⟨w5.heap.size, 2, none⟩ = some (.string A) ∧ w'.cell? ⟨T, 0, none⟩ = some (.string S) ∧ w'.cell? ⟨T, 1, none⟩ = some (.string (idT S)) ∧ w'.cell? ⟨T, 2, none⟩ = some (.slice (some ⟨b, o, none⟩) n1 c)) (first | with_reducible exact ⟨by assumption, by assumption, by assumption, by assumption, by assumption, by assumption⟩ | go_keep)
      (first
        | (go_at_call 11; (with_reducible refine (HAW.out _ (by first | exact HKH.out _ (Below.refl _ _) | exact HKH.out _ (Below.refl _ _).drew)).mono ?_); rintro e x1 ⟨rfl, hb1⟩; have hx : Below W9.heap.size W9 x1 := (by first | exact hb1 | exact (Below.refl _ _).drew.trans hb1); have y10 := (hx.cell (p := ⟨w5.heap.size, 0, none⟩) HKL.out).trans k0; have z10 := (hx.cell (p := ⟨T, 0, none⟩) HTL9.out).trans e0; have y11 := (hx.cell (p := ⟨w5.heap.size, 1, none⟩) HKL.out).trans k1; have z11 := (hx.cell (p := ⟨T, 1, none⟩) HTL9.out).trans e1; have y12 := (hx.cell (p := ⟨w5.heap.size, 2, none⟩) HKL.out).trans k2; have z12 := (hx.cell (p := ⟨T, 2, none⟩) HTL9.out).trans e2; have HX1 := Lib.hid hx; clear hb1 hx)
        | (go_at_call 25; (with_reducible refine (HP1.out _ (HKH.out _ HX1.out)).mono ?_); rintro e x2 ⟨rfl, hb1⟩; have hx : Below W9.heap.size W9 x2 := HX1.out.next hb1; have y20 := (hx.cell (p := ⟨w5.heap.size, 0, none⟩) HKL.out).trans k0; have z20 := (hx.cell (p := ⟨T, 0, none⟩) HTL9.out).trans e0; have y21 := (hx.cell (p := ⟨w5.heap.size, 1, none⟩) HKL.out).trans k1; have z21 := (hx.cell (p := ⟨T, 1, none⟩) HTL9.out).trans e1; have y22 := (hx.cell (p := ⟨w5.heap.size, 2, none⟩) HKL.out).trans k2; have z22 := (hx.cell (p := ⟨T, 2, none⟩) HTL9.out).trans e2; have HX2' := Lib.hid hx; clear hb1 hx)
        | (go_at_call 26; (with_reducible refine (HP2.out _).mono ?_); rintro e x3 ⟨rfl, hb1⟩; have hx : Below W9.heap.size W9 x3 := HX2'.out.next hb1; have y30 := (hx.cell (p := ⟨w5.heap.size, 0, none⟩) HKL.out).trans k0; have z30 := (hx.cell (p := ⟨T, 0, none⟩) HTL9.out).trans e0; have y31 := (hx.cell (p := ⟨w5.heap.size, 1, none⟩) HKL.out).trans k1; have z31 := (hx.cell (p := ⟨T, 1, none⟩) HTL9.out).trans e1; have y32 := (hx.cell (p := ⟨w5.heap.size, 2, none⟩) HKL.out).trans k2; have z32 := (hx.cell (p := ⟨T, 2, none⟩) HTL9.out).trans e2; have HX3 := Lib.hid hx; clear hb1 hx)
        | (go_at_call 13; (with_reducible refine (HKO.out _ _ (HV3.out.below (HBU.out _ HX3.out))).mono ?_); rintro e x4 ⟨rfl, hb1⟩; have hx : Below W9.heap.size W9 x4 := HX3.out.next hb1; have y40 := (hx.cell (p := ⟨w5.heap.size, 0, none⟩) HKL.out).trans k0; have z40 := (hx.cell (p := ⟨T, 0, none⟩) HTL9.out).trans e0; have y41 := (hx.cell (p := ⟨w5.heap.size, 1, none⟩) HKL.out).trans k1; have z41 := (hx.cell (p := ⟨T, 1, none⟩) HTL9.out).trans e1; have y42 := (hx.cell (p := ⟨w5.heap.size, 2, none⟩) HKL.out).trans k2; have z42 := (hx.cell (p := ⟨T, 2, none⟩) HTL9.out).trans e2; have HX4 := Lib.hid hx; clear hb1 hx)
        | (go_at_call 25; (with_reducible refine (HVE.out _ (HKH.out _ HX4.out)).mono ?_); rintro e x5 ⟨rfl, hb1⟩; have hx : Below W9.heap.size W9 x5 := HX4.out.next hb1; have y50 := (hx.cell (p := ⟨w5.heap.size, 0, none⟩) HKL.out).trans k0; have z50 := (hx.cell (p := ⟨T, 0, none⟩) HTL9.out).trans e0; have y51 := (hx.cell (p := ⟨w5.heap.size, 1, none⟩) HKL.out).trans k1; have z51 := (hx.cell (p := ⟨T, 1, none⟩) HTL9.out).trans e1; have y52 := (hx.cell (p := ⟨w5.heap.size, 2, none⟩) HKL.out).trans k2; have z52 := (hx.cell (p := ⟨T, 2, none⟩) HTL9.out).trans e2; have HX5 := Lib.hid hx; clear hb1 hx))
    go_wp2_with fail
    go_ret
    exact ⟨rfl, HB3.out.next (HBU.out _ HX5.out)⟩
  · obtain ⟨W9, hW9⟩ : ∃ W9, W9 = w8 := ⟨_, rfl⟩
    have HKN : Hid (W9.heap[w5.heap.size]? = some (.cells #[.int .i64 (h : Int), .string ID, .string R] 29 (0, 0))) := Lib.hid (by rw [hW9]; exact HKW.out)
    have HBN : Hid (Below p w3 W9) := Lib.hid (by rw [hW9]; exact HB8.out)
    rw [← hW9]
    clear hW9
    clear q0 q1 q2 f0 f1 f2 t0 t1 t2
    obtain ⟨ve, hve⟩ : ∃ ve, ve = verE ((h : Int)) ID R om X2 := ⟨_, rfl⟩
    have HP1 : Hid (∀ U : World, Holds U 0 kWords → Calls Tryd.prog 25 #[.agg #[.int .i64 ((h : Int)), .string ID, .string R], .string om, .string X2] U fun e w' => e = .returned (.int .i64 (ve : Int)) ∧ Below U.heap.size U w') := Lib.hid fun U k => by rw [hve]; exact HVP.out ((h : Int)) ID R om X2 U (by have := HOS.out; omega) (by have := HX2.out; have := HXS.out; omega) k
    have HP2 : Hid (∀ U : World, Calls Tryd.prog 26 #[.agg #[.int .i64 ((h : Int)), .string ID, .string R], .string om, .string X2] U fun e w' => e = .returned (.int .i64 (ve : Int)) ∧ Below U.heap.size U w') := Lib.hid fun U => by rw [hve]; exact HVR.out ((h : Int)) ID R om X2 U (by have := HOS.out; omega) (by have := HX2.out; have := HXS.out; omega)
    obtain ⟨k0, k1, k2, hKl⟩ := tcell HKN.out
    obtain ⟨e0, e1, e2, hTl⟩ := tcell ((HBN.out.block T (by rw [HP.out]; exact HTL3.out)).trans HQ3.out)
    have HKL := Lib.hid hKl
    have HTL9 := Lib.hid hTl
    have HBU : Hid (∀ U : World, Below W9.heap.size W9 U → Below w3.heap.size w3 U) := Lib.hid fun U hx => by
      have h1 := below_more HBN.out hx (by have h1 := HPK.out; have h2 := HKL.out; omega)
      rw [HP.out] at h1
      exact h1
    have HKH : Hid (∀ U : World, Below W9.heap.size W9 U → Holds U 0 kWords) := Lib.hid fun U hx => HK.out.old (HB3.out.next (HBU.out U hx))
    clear hve hKl hTl
    go_region_held3 (fun w' => w'.cell? ⟨w5.heap.size, 0, none⟩ = some (.int .i64 (h : Int)) ∧ w'.cell? ⟨w5.heap.size, 1, none⟩ = some (.string ID) ∧ w'.cell? ⟨w5.heap.size, 2, none⟩ = some (.string R) ∧ w'.cell? ⟨T, 0, none⟩ = some (.string S) ∧ w'.cell? ⟨T, 1, none⟩ = some (.string (idT S)) ∧ w'.cell? ⟨T, 2, none⟩ = some (.slice (some ⟨b, o, none⟩) n1 c)) (first | with_reducible exact ⟨by assumption, by assumption, by assumption, by assumption, by assumption, by assumption⟩ | go_keep)
      (first
        | (go_at_call 11; (with_reducible refine (HAW.out _ (by first | exact HKH.out _ (Below.refl _ _) | exact HKH.out _ (Below.refl _ _).drew)).mono ?_); rintro e x1 ⟨rfl, hb1⟩; have hx : Below W9.heap.size W9 x1 := (by first | exact hb1 | exact (Below.refl _ _).drew.trans hb1); have y10 := (hx.cell (p := ⟨w5.heap.size, 0, none⟩) HKL.out).trans k0; have z10 := (hx.cell (p := ⟨T, 0, none⟩) HTL9.out).trans e0; have y11 := (hx.cell (p := ⟨w5.heap.size, 1, none⟩) HKL.out).trans k1; have z11 := (hx.cell (p := ⟨T, 1, none⟩) HTL9.out).trans e1; have y12 := (hx.cell (p := ⟨w5.heap.size, 2, none⟩) HKL.out).trans k2; have z12 := (hx.cell (p := ⟨T, 2, none⟩) HTL9.out).trans e2; have HX1 := Lib.hid hx; clear hb1 hx)
        | (go_at_call 25; (with_reducible refine (HP1.out _ (HKH.out _ HX1.out)).mono ?_); rintro e x2 ⟨rfl, hb1⟩; have hx : Below W9.heap.size W9 x2 := HX1.out.next hb1; have y20 := (hx.cell (p := ⟨w5.heap.size, 0, none⟩) HKL.out).trans k0; have z20 := (hx.cell (p := ⟨T, 0, none⟩) HTL9.out).trans e0; have y21 := (hx.cell (p := ⟨w5.heap.size, 1, none⟩) HKL.out).trans k1; have z21 := (hx.cell (p := ⟨T, 1, none⟩) HTL9.out).trans e1; have y22 := (hx.cell (p := ⟨w5.heap.size, 2, none⟩) HKL.out).trans k2; have z22 := (hx.cell (p := ⟨T, 2, none⟩) HTL9.out).trans e2; have HX2' := Lib.hid hx; clear hb1 hx)
        | (go_at_call 26; (with_reducible refine (HP2.out _).mono ?_); rintro e x3 ⟨rfl, hb1⟩; have hx : Below W9.heap.size W9 x3 := HX2'.out.next hb1; have y30 := (hx.cell (p := ⟨w5.heap.size, 0, none⟩) HKL.out).trans k0; have z30 := (hx.cell (p := ⟨T, 0, none⟩) HTL9.out).trans e0; have y31 := (hx.cell (p := ⟨w5.heap.size, 1, none⟩) HKL.out).trans k1; have z31 := (hx.cell (p := ⟨T, 1, none⟩) HTL9.out).trans e1; have y32 := (hx.cell (p := ⟨w5.heap.size, 2, none⟩) HKL.out).trans k2; have z32 := (hx.cell (p := ⟨T, 2, none⟩) HTL9.out).trans e2; have HX3 := Lib.hid hx; clear hb1 hx)
        | (go_at_call 13; (with_reducible refine (HKO.out _ _ (HV3.out.below (HBU.out _ HX3.out))).mono ?_); rintro e x4 ⟨rfl, hb1⟩; have hx : Below W9.heap.size W9 x4 := HX3.out.next hb1; have y40 := (hx.cell (p := ⟨w5.heap.size, 0, none⟩) HKL.out).trans k0; have z40 := (hx.cell (p := ⟨T, 0, none⟩) HTL9.out).trans e0; have y41 := (hx.cell (p := ⟨w5.heap.size, 1, none⟩) HKL.out).trans k1; have z41 := (hx.cell (p := ⟨T, 1, none⟩) HTL9.out).trans e1; have y42 := (hx.cell (p := ⟨w5.heap.size, 2, none⟩) HKL.out).trans k2; have z42 := (hx.cell (p := ⟨T, 2, none⟩) HTL9.out).trans e2; have HX4 := Lib.hid hx; clear hb1 hx)
        | (go_at_call 25; (with_reducible refine (HVE.out _ (HKH.out _ HX4.out)).mono ?_); rintro e x5 ⟨rfl, hb1⟩; have hx : Below W9.heap.size W9 x5 := HX4.out.next hb1; have y50 := (hx.cell (p := ⟨w5.heap.size, 0, none⟩) HKL.out).trans k0; have z50 := (hx.cell (p := ⟨T, 0, none⟩) HTL9.out).trans e0; have y51 := (hx.cell (p := ⟨w5.heap.size, 1, none⟩) HKL.out).trans k1; have z51 := (hx.cell (p := ⟨T, 1, none⟩) HTL9.out).trans e1; have y52 := (hx.cell (p := ⟨w5.heap.size, 2, none⟩) HKL.out).trans k2; have z52 := (hx.cell (p := ⟨T, 2, none⟩) HTL9.out).trans e2; have HX5 := Lib.hid hx; clear hb1 hx))
    go_wp2_with fail
    go_ret
    exact ⟨rfl, HB3.out.next (HBU.out _ HX5.out)⟩
  · obtain ⟨W9, hW9⟩ : ∃ W9, W9 = w8 := ⟨_, rfl⟩
    have HKN : Hid (W9.heap[w5.heap.size]? = some (.cells #[.int .i64 (h : Int), .string ID, .string R] 29 (0, 0))) := Lib.hid (by rw [hW9]; exact HKW.out)
    have HBN : Hid (Below p w3 W9) := Lib.hid (by rw [hW9]; exact HB8.out)
    rw [← hW9]
    clear hW9
    clear q0 q1 q2 f0 f1 f2 t0 t1 t2
    obtain ⟨ve, hve⟩ : ∃ ve, ve = verE ((h : Int)) ID R m X2 := ⟨_, rfl⟩
    have HP1 : Hid (∀ U : World, Holds U 0 kWords → Calls Tryd.prog 25 #[.agg #[.int .i64 ((h : Int)), .string ID, .string R], .string m, .string X2] U fun e w' => e = .returned (.int .i64 (ve : Int)) ∧ Below U.heap.size U w') := Lib.hid fun U k => by rw [hve]; exact HVP.out ((h : Int)) ID R m X2 U (by have := HMS.out; omega) (by have := HX2.out; have := HXS.out; omega) k
    have HP2 : Hid (∀ U : World, Calls Tryd.prog 26 #[.agg #[.int .i64 ((h : Int)), .string ID, .string R], .string m, .string X2] U fun e w' => e = .returned (.int .i64 (ve : Int)) ∧ Below U.heap.size U w') := Lib.hid fun U => by rw [hve]; exact HVR.out ((h : Int)) ID R m X2 U (by have := HMS.out; omega) (by have := HX2.out; have := HXS.out; omega)
    obtain ⟨k0, k1, k2, hKl⟩ := tcell HKN.out
    obtain ⟨e0, e1, e2, hTl⟩ := tcell ((HBN.out.block T (by rw [HP.out]; exact HTL3.out)).trans HQ3.out)
    have HKL := Lib.hid hKl
    have HTL9 := Lib.hid hTl
    have HBU : Hid (∀ U : World, Below W9.heap.size W9 U → Below w3.heap.size w3 U) := Lib.hid fun U hx => by
      have h1 := below_more HBN.out hx (by have h1 := HPK.out; have h2 := HKL.out; omega)
      rw [HP.out] at h1
      exact h1
    have HKH : Hid (∀ U : World, Below W9.heap.size W9 U → Holds U 0 kWords) := Lib.hid fun U hx => HK.out.old (HB3.out.next (HBU.out U hx))
    clear hve hKl hTl
    go_region_held3 (fun w' => w'.cell? ⟨w5.heap.size, 0, none⟩ = some (.int .i64 (h : Int)) ∧ w'.cell? ⟨w5.heap.size, 1, none⟩ = some (.string ID) ∧ w'.cell? ⟨w5.heap.size, 2, none⟩ = some (.string R) ∧ w'.cell? ⟨T, 0, none⟩ = some (.string S) ∧ w'.cell? ⟨T, 1, none⟩ = some (.string (idT S)) ∧ w'.cell? ⟨T, 2, none⟩ = some (.slice (some ⟨b, o, none⟩) n1 c)) (first | with_reducible exact ⟨by assumption, by assumption, by assumption, by assumption, by assumption, by assumption⟩ | go_keep)
      (first
        | (go_at_call 11; (with_reducible refine (HAW.out _ (by first | exact HKH.out _ (Below.refl _ _) | exact HKH.out _ (Below.refl _ _).drew)).mono ?_); rintro e x1 ⟨rfl, hb1⟩; have hx : Below W9.heap.size W9 x1 := (by first | exact hb1 | exact (Below.refl _ _).drew.trans hb1); have y10 := (hx.cell (p := ⟨w5.heap.size, 0, none⟩) HKL.out).trans k0; have z10 := (hx.cell (p := ⟨T, 0, none⟩) HTL9.out).trans e0; have y11 := (hx.cell (p := ⟨w5.heap.size, 1, none⟩) HKL.out).trans k1; have z11 := (hx.cell (p := ⟨T, 1, none⟩) HTL9.out).trans e1; have y12 := (hx.cell (p := ⟨w5.heap.size, 2, none⟩) HKL.out).trans k2; have z12 := (hx.cell (p := ⟨T, 2, none⟩) HTL9.out).trans e2; have HX1 := Lib.hid hx; clear hb1 hx)
        | (go_at_call 25; (with_reducible refine (HP1.out _ (HKH.out _ HX1.out)).mono ?_); rintro e x2 ⟨rfl, hb1⟩; have hx : Below W9.heap.size W9 x2 := HX1.out.next hb1; have y20 := (hx.cell (p := ⟨w5.heap.size, 0, none⟩) HKL.out).trans k0; have z20 := (hx.cell (p := ⟨T, 0, none⟩) HTL9.out).trans e0; have y21 := (hx.cell (p := ⟨w5.heap.size, 1, none⟩) HKL.out).trans k1; have z21 := (hx.cell (p := ⟨T, 1, none⟩) HTL9.out).trans e1; have y22 := (hx.cell (p := ⟨w5.heap.size, 2, none⟩) HKL.out).trans k2; have z22 := (hx.cell (p := ⟨T, 2, none⟩) HTL9.out).trans e2; have HX2' := Lib.hid hx; clear hb1 hx)
        | (go_at_call 26; (with_reducible refine (HP2.out _).mono ?_); rintro e x3 ⟨rfl, hb1⟩; have hx : Below W9.heap.size W9 x3 := HX2'.out.next hb1; have y30 := (hx.cell (p := ⟨w5.heap.size, 0, none⟩) HKL.out).trans k0; have z30 := (hx.cell (p := ⟨T, 0, none⟩) HTL9.out).trans e0; have y31 := (hx.cell (p := ⟨w5.heap.size, 1, none⟩) HKL.out).trans k1; have z31 := (hx.cell (p := ⟨T, 1, none⟩) HTL9.out).trans e1; have y32 := (hx.cell (p := ⟨w5.heap.size, 2, none⟩) HKL.out).trans k2; have z32 := (hx.cell (p := ⟨T, 2, none⟩) HTL9.out).trans e2; have HX3 := Lib.hid hx; clear hb1 hx)
        | (go_at_call 13; (with_reducible refine (HKO.out _ _ (HV3.out.below (HBU.out _ HX3.out))).mono ?_); rintro e x4 ⟨rfl, hb1⟩; have hx : Below W9.heap.size W9 x4 := HX3.out.next hb1; have y40 := (hx.cell (p := ⟨w5.heap.size, 0, none⟩) HKL.out).trans k0; have z40 := (hx.cell (p := ⟨T, 0, none⟩) HTL9.out).trans e0; have y41 := (hx.cell (p := ⟨w5.heap.size, 1, none⟩) HKL.out).trans k1; have z41 := (hx.cell (p := ⟨T, 1, none⟩) HTL9.out).trans e1; have y42 := (hx.cell (p := ⟨w5.heap.size, 2, none⟩) HKL.out).trans k2; have z42 := (hx.cell (p := ⟨T, 2, none⟩) HTL9.out).trans e2; have HX4 := Lib.hid hx; clear hb1 hx)
        | (go_at_call 25; (with_reducible refine (HVE.out _ (HKH.out _ HX4.out)).mono ?_); rintro e x5 ⟨rfl, hb1⟩; have hx : Below W9.heap.size W9 x5 := HX4.out.next hb1; have y50 := (hx.cell (p := ⟨w5.heap.size, 0, none⟩) HKL.out).trans k0; have z50 := (hx.cell (p := ⟨T, 0, none⟩) HTL9.out).trans e0; have y51 := (hx.cell (p := ⟨w5.heap.size, 1, none⟩) HKL.out).trans k1; have z51 := (hx.cell (p := ⟨T, 1, none⟩) HTL9.out).trans e1; have y52 := (hx.cell (p := ⟨w5.heap.size, 2, none⟩) HKL.out).trans k2; have z52 := (hx.cell (p := ⟨T, 2, none⟩) HTL9.out).trans e2; have HX5 := Lib.hid hx; clear hb1 hx))
    go_wp2_with fail
    go_ret
    exact ⟨rfl, HB3.out.next (HBU.out _ HX5.out)⟩
theorem verlaw {TA : TreeP} (hT : Trees TA) (hV : VerPm) (k x y : Nat) (m o : ByteArray) (a : Option Addr) (cap : Nat) (zs : List Int) (hk : k < 256) (hy : y < 256) (w : World) (hK : Holds w 0 kWords) (hli : ILies w a zs) (hz : zs.length ≤ 9223372036854775807) :
    Calls Tryd.prog 6 #[.int .u8 (k : Int), .int .u8 (x : Int), .int .u8 (y : Int), .string m, .string o, .slice a zs.length cap] w fun e w' => e = .returned (.bool true) ∧ Below w.heap.size w w' := by
  by_cases hb : 200 < m.size ∨ 200 < o.size
  · exact ver_out hT hV k x y m o a cap zs.length hb w hK
  · exact ver_in hT hV k x y m o a cap zs hk hy (by omega) (by omega) w hK hli hz
end Go.Proofs.YtnmcocolahgfnaaDoor
