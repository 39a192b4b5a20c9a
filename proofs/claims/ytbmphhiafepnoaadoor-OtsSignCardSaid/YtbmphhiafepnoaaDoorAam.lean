/-
  The contracts of the program's Public, Sign and Recover.
-/
import Derived.Test.YtbmphhiafepnoaaDoorAak
import Derived.Test.YtbmphhiafepnoaaDoorAal
namespace Go.Proofs.YtbmphhiafepnoaaDoor
open Go.RowKit

theorem egPub : ∀ (args : Array Value) (w : World), (callFunc 23 args).run Tryd.prog w = .ok (.enter 23 args) w := enters_of Tryd.func23 (by kernel_rfl) rfl
theorem egSgn : ∀ (args : Array Value) (w : World), (callFunc 34 args).run Tryd.prog w = .ok (.enter 34 args) w := enters_of Tryd.func34 (by kernel_rfl) rfl
theorem egRec : ∀ (args : Array Value) (w : World), (callFunc 37 args).run Tryd.prog w = .ok (.enter 37 args) w := enters_of Tryd.func37 (by kernel_rfl) rfl

theorem inv_pub {w2 : World} {gs : Nat} (id : ByteArray) {seed L4 : ByteArray} {leaf : Nat} (hL : L4 = strOf (b4 leaf)) (hs : StrAt w2 gs seed) (hK : Holds w2 0 kWords) : InvP w2.heap.size gs id seed leaf (w2.alloc (.cells #[.string id, .string L4] 41)) := by
  subst hL
  exact ⟨heap_alloc_new w2 _, hs.below (belowNew w2 _), hK.old (belowNew w2 _)⟩
set_option maxRecDepth 100000 in
set_option maxHeartbeats 2000000 in
theorem ppub_ok (id seed : ByteArray) (leaf : Nat) (h0 : chkQ id seed (leaf : Int) = 0) (w : World) (hK : Holds w 0 kWords) :
    Calls Tryd.prog 8 #[.string id, .string seed, .int .i64 (leaf : Int)] w fun e w' => e = .returned (someV (pubS id seed leaf)) ∧ Below w.heap.size w w' := by
  obtain ⟨hi, hs, n, hn, hlt⟩ := chkQ_zero h0
  have hl : leaf < 256 := by omega
  clear hn hlt n
  obtain ⟨L4, hL4⟩ : ∃ L4, L4 = strOf (b4 leaf) := ⟨_, rfl⟩
  have HL4 := Lib.hid hL4
  have HCK : Hid (∀ W : World, Calls Tryd.prog 20 #[.string id, .string seed, .int .i64 (leaf : Int)] W fun e w' => e = .returned (.int .i64 0) ∧ Below W.heap.size W w') := Lib.hid fun W => by
    have := pchks_any id seed (leaf : Int) W
    rw [h0] at this
    exact this
  have HKO : Hid (∀ W : World, Calls Tryd.prog 21 #[.string id, .int .i64 (leaf : Int)] W fun e w' => e = .returned (.agg #[.string id, .string L4]) ∧ Below W.heap.size W w') := Lib.hid fun W => by rw [hL4]; exact pkey_any id leaf (by omega) W
  have HJ := Lib.hid (fun gk gs W (h : InvP gk gs id seed leaf W) => pjoin_any _ _ egPub (fun c => valS id seed leaf c 15) (fun c => valS_size id seed leaf c 15) (InvP gk gs id seed leaf) InvP.keep (cpub_any gk gs id seed leaf (by omega) (by omega)) W h)
  obtain ⟨R, hR⟩ : ∃ R, R = rowB (fun c => valS id seed leaf c 15) 35 := ⟨_, rfl⟩
  have HRP : Hid (keySq id leaf R = pubS id seed leaf) := Lib.hid (by rw [hR]; rfl)
  rw [← hR] at HJ
  have hRs : R.size = 560 := by rw [hR]; exact rowB_size (fun c => valS_size _ _ _ _ _) 35
  have HPK : Hid (∀ W : World, Holds W 0 kWords → Calls Tryd.prog 26 #[.agg #[.string id, .string L4], .string R] W fun e w' => e = .returned (.string (pubS id seed leaf)) ∧ Below W.heap.size W w') := Lib.hid fun W hk => by
    rw [hL4, ← HRP.out]
    exact pkeyp_any id R leaf (by omega) (by omega) W hk
  have HK := Lib.hid hK
  clear hi hs hl h0 hL4 hR hRs hK
  go_enter Tryd.func8, Tryd.ntmps8
  go_wp2_with (first
    | (go_at_call 20; (with_reducible refine (HCK.out _).mono ?_); rintro e w1 ⟨rfl, hb1⟩; have HS1 := Lib.hid ((show StrAt (w.alloc _) w.heap.size seed from heap_alloc_new w _).below hb1); have HB1 := Lib.hid ((belowNew w _).next hb1); clear hb1)
    | (go_at_call 21; (with_reducible refine (HKO.out _).mono ?_); rintro e w2 ⟨rfl, hb2⟩; have HS2 := Lib.hid (HS1.out.below hb2); have HB2 := Lib.hid (HB1.out.next hb2); have hk3 := heap_alloc_new w2 (.cells #[.string id, .string L4] 41); have HI3 := Lib.hid (inv_pub id HL4.out HS2.out (HK.out.old HB2.out)); have HB3 := Lib.hid (HB2.out.next (belowNew w2 (.cells #[.string id, .string L4] 41))); have HK3 := Lib.hid hk3; clear hb2 hk3)
    | (go_at_call 22; (with_reducible refine (HJ.out _ _ _ HI3.out).mono ?_); rintro e w4 ⟨rfl, hb4⟩; have hk4 := kept_heap HK3.out hb4; obtain ⟨k0, k1, hkl⟩ := kcell hk4; have HB4 := Lib.hid (HB3.out.next hb4); clear hb4 hk4)
    | (go_at_call 26; (with_reducible refine (HPK.out _ (HK.out.old HB4.out)).mono ?_); rintro e w5 ⟨rfl, hb5⟩; have HB5 := Lib.hid (HB4.out.next hb5); clear hb5))
  go_ret2
  exact ⟨rfl, HB5.out⟩
set_option maxRecDepth 100000 in
set_option maxHeartbeats 1000000 in
theorem ppub_bad (id seed : ByteArray) (leaf : Int) (n : Nat) (hn : chkQ id seed leaf = n) (h0 : n ≠ 0) (w : World) :
    Calls Tryd.prog 8 #[.string id, .string seed, .int .i64 leaf] w fun e w' => e = .returned (noneV n) ∧ Below w.heap.size w w' := by
  have HCK : Hid (∀ W : World, Calls Tryd.prog 20 #[.string id, .string seed, .int .i64 leaf] W fun e w' => e = .returned (.int .i64 (n : Int)) ∧ Below W.heap.size W w') := Lib.hid fun W => by
    have := pchks_any id seed leaf W
    rw [hn] at this
    exact this
  have d1 : ((n : Int) == 0) = false := by simp; omega
  clear hn
  go_enter Tryd.func8, Tryd.ntmps8
  go_wp2_with (first | (go_at_call 20; (with_reducible refine (HCK.out _).mono ?_); rintro e w1 ⟨rfl, hb1⟩; have HB1 := Lib.hid ((belowNew w _).next hb1); clear hb1))
  go_ret2
  exact ⟨rfl, HB1.out⟩
theorem pubP : PubP := fun id seed leaf w hK => by
  unfold pubV
  by_cases h : chkQ id seed leaf = 0
  · rw [if_pos h]
    obtain ⟨_, _, n, rfl, _⟩ := chkQ_zero h
    exact ppub_ok id seed n h w hK
  · rw [if_neg h]
    exact ppub_bad id seed leaf _ rfl h w

theorem inv_sgn {w4 : World} {gd gs : Nat} (id : ByteArray) {seed L4 : ByteArray} {leaf : Nat} {D : List Nat} (hL : L4 = strOf (b4 leaf)) (hd : RowAt w4 gd D) (hs : StrAt w4 gs seed) (hK : Holds w4 0 kWords) : InvS w4.heap.size gd gs id seed leaf D (w4.alloc (.cells #[.string id, .string L4] 41)) := by
  subst hL
  exact ⟨heap_alloc_new w4 _, hd.below (belowNew w4 _), hs.below (belowNew w4 _), hK.old (belowNew w4 _)⟩
theorem row_new {w : World} {b c : Nat} {D : List Nat} (h : ILie w b D) (hc : 35 ≤ c) : RowAt (w.alloc (.cells #[.slice (some ⟨b, 0, none⟩) 35 c] 34)) w.heap.size D := ⟨b, c, heap_alloc_new w _, h.alloc _, hc⟩
set_option maxRecDepth 100000 in
set_option maxHeartbeats 2000000 in
theorem psgn_ok (id seed dg : ByteArray) (leaf : Nat) (h0 : chkQ id seed (leaf : Int) = 0) (hd16 : dg.size = 16) (w : World) (hK : Holds w 0 kWords) :
    Calls Tryd.prog 13 #[.string id, .string seed, .int .i64 (leaf : Int), .string dg] w fun e w' => e = .returned (someV (sigS id seed leaf (digs dg.data.toList))) ∧ Below w.heap.size w w' := by
  obtain ⟨hi, hs, n, hn, hlt⟩ := chkQ_zero h0
  have hl : leaf < 256 := by omega
  clear hn hlt n
  obtain ⟨L4, hL4⟩ : ∃ L4, L4 = strOf (b4 leaf) := ⟨_, rfl⟩
  have HL4 := Lib.hid hL4
  have HCK : Hid (∀ W : World, Calls Tryd.prog 20 #[.string id, .string seed, .int .i64 (leaf : Int)] W fun e w' => e = .returned (.int .i64 0) ∧ Below W.heap.size W w') := Lib.hid fun W => by
    have := pchks_any id seed (leaf : Int) W
    rw [h0] at this
    exact this
  have HKO : Hid (∀ W : World, Calls Tryd.prog 21 #[.string id, .int .i64 (leaf : Int)] W fun e w' => e = .returned (.agg #[.string id, .string L4]) ∧ Below W.heap.size W w') := Lib.hid fun W => by rw [hL4]; exact pkey_any id leaf (by omega) W
  have HDG : Hid (∀ W : World, Calls Tryd.prog 33 #[.string dg] W fun e w' => (∃ v, e = .returned (.tuple #[v, .int .i64 0]) ∧ OwnI w' W.heap.size v (digs dg.data.toList)) ∧ Below W.heap.size W w') := Lib.hid fun W => pdig_ok dg hd16 W
  obtain ⟨D, hD⟩ : ∃ D, D = digs dg.data.toList := ⟨_, rfl⟩
  rw [← hD] at HDG ⊢
  have hDl : D.length = 35 := by rw [hD, digs_len]; show 2 * dg.size + 3 = 35; rw [hd16]
  have HDL := Lib.hid hDl
  have hDv : ∀ c, D.getD c 0 ≤ 15 := fun c => by rw [hD]; exact digs_getD_le _ (by show dg.size ≤ 16; omega) c
  have hDne : D ≠ [] := by intro h; rw [h] at hDl; cases hDl
  have HNE := Lib.hid hDne
  have HJ := Lib.hid (fun gk gd gs W (h : InvS gk gd gs id seed leaf D W) => pjoin_any _ _ egSgn (fun c => valS id seed leaf c (D.getD c 0)) (fun c => valS_size id seed leaf c _) (InvS gk gd gs id seed leaf D) InvS.keep (csgn_any gk gd gs id seed leaf D hDl hDv (by omega) (by omega)) W h)
  obtain ⟨R, hR⟩ : ∃ R, R = rowB (fun c => valS id seed leaf c (D.getD c 0)) 35 := ⟨_, rfl⟩
  have HRP : Hid (R = sigS id seed leaf D) := Lib.hid (by rw [hR]; rfl)
  rw [← hR] at HJ
  have HK := Lib.hid hK
  clear hi hs hl h0 hL4 hR hK hD hDl hDv hDne hd16
  go_enter Tryd.func13, Tryd.ntmps13
  go_wp2_with (first
    | (go_at_call 20; (with_reducible refine (HCK.out _).mono ?_); rintro e w1 ⟨rfl, hb1⟩; have HS1 := Lib.hid ((show StrAt (w.alloc _) w.heap.size seed from heap_alloc_new w _).below hb1); have HB1 := Lib.hid ((belowNew w _).next hb1); clear hb1)
    | (go_at_call 33; (with_reducible refine (HDG.out _).mono ?_); rintro e w2 ⟨⟨v, rfl, ho2⟩, hb2⟩; obtain ⟨gd, cd, rfl, hgB, hIL, hcd⟩ := ho2.open HNE.out; rw [HDL.out] at hcd ⊢; have HR3 := Lib.hid (row_new hIL hcd); have HS2 := Lib.hid (HS1.out.below hb2); have HB2 := Lib.hid (HB1.out.next hb2); clear hb2 ho2 hIL hcd hgB)
    | (go_at_call 21; (with_reducible refine (HKO.out _).mono ?_); rintro e w4 ⟨rfl, hb4⟩; have hb4' := (belowNew w2 (.cells #[.slice (some ⟨gd, 0, none⟩) 35 cd] 34)).next hb4; have HS4 := Lib.hid (HS2.out.below hb4'); have HR4 := Lib.hid (HR3.out.below hb4); have HB4 := Lib.hid (HB2.out.next hb4'); have HI5 := Lib.hid (inv_sgn id HL4.out HR4.out HS4.out (HK.out.old HB4.out)); have HB5 := Lib.hid (HB4.out.next (belowNew w4 (.cells #[.string id, .string L4] 41))); clear hb4 hb4')
    | (go_at_call 22; (with_reducible refine (HJ.out _ _ _ _ HI5.out).mono ?_); rintro e w6 ⟨rfl, hb6⟩; have HB6 := Lib.hid (HB5.out.next hb6); clear hb6))
  go_ret2
  rw [← HRP.out]
  exact ⟨rfl, HB6.out⟩
set_option maxRecDepth 100000 in
set_option maxHeartbeats 1000000 in
theorem psgn_bad (id seed dg : ByteArray) (leaf : Int) (n : Nat) (hn : chkQ id seed leaf = n) (h0 : n ≠ 0) (w : World) :
    Calls Tryd.prog 13 #[.string id, .string seed, .int .i64 leaf, .string dg] w fun e w' => e = .returned (noneV n) ∧ Below w.heap.size w w' := by
  have HCK : Hid (∀ W : World, Calls Tryd.prog 20 #[.string id, .string seed, .int .i64 leaf] W fun e w' => e = .returned (.int .i64 (n : Int)) ∧ Below W.heap.size W w') := Lib.hid fun W => by
    have := pchks_any id seed leaf W
    rw [hn] at this
    exact this
  have d1 : ((n : Int) == 0) = false := by simp; omega
  clear hn
  go_enter Tryd.func13, Tryd.ntmps13
  go_wp2_with (first | (go_at_call 20; (with_reducible refine (HCK.out _).mono ?_); rintro e w1 ⟨rfl, hb1⟩; have HB1 := Lib.hid ((belowNew w _).next hb1); clear hb1))
  go_ret2
  exact ⟨rfl, HB1.out⟩
set_option maxRecDepth 100000 in
set_option maxHeartbeats 1000000 in
theorem psgn_dig (id seed dg : ByteArray) (leaf : Int) (hn : chkQ id seed leaf = 0) (h0 : dg.size ≠ 16) (w : World) :
    Calls Tryd.prog 13 #[.string id, .string seed, .int .i64 leaf, .string dg] w fun e w' => e = .returned (noneV 7) ∧ Below w.heap.size w w' := by
  have HCK : Hid (∀ W : World, Calls Tryd.prog 20 #[.string id, .string seed, .int .i64 leaf] W fun e w' => e = .returned (.int .i64 0) ∧ Below W.heap.size W w') := Lib.hid fun W => by
    have := pchks_any id seed leaf W
    rw [hn] at this
    exact this
  have HDG : Hid (∀ W : World, Calls Tryd.prog 33 #[.string dg] W fun e w' => e = .returned (.tuple #[.slice none 0 0, .int .i64 7]) ∧ Below W.heap.size W w') := Lib.hid fun W => pdig_bad dg h0 W
  clear hn
  go_enter Tryd.func13, Tryd.ntmps13
  go_wp2_with (first
    | (go_at_call 20; (with_reducible refine (HCK.out _).mono ?_); rintro e w1 ⟨rfl, hb1⟩; have HB1 := Lib.hid ((belowNew w _).next hb1); clear hb1)
    | (go_at_call 33; (with_reducible refine (HDG.out _).mono ?_); rintro e w2 ⟨rfl, hb2⟩; have HB2 := Lib.hid (HB1.out.next hb2); clear hb2))
  go_ret2
  exact ⟨rfl, HB2.out.next (belowNew _ _)⟩
theorem sigP : SigP := fun id seed dg leaf w hK => by
  unfold sigV
  by_cases h : chkQ id seed leaf = 0
  · by_cases h2 : dg.size = 16
    · have e : sigE id seed leaf dg = 0 := by unfold sigE; rw [if_pos h, if_pos h2]
      rw [if_pos e]
      obtain ⟨_, _, n, rfl, _⟩ := chkQ_zero h
      exact psgn_ok id seed dg n h h2 w hK
    · have e : sigE id seed leaf dg = 7 := by unfold sigE; rw [if_pos h, if_neg h2]
      rw [e, if_neg (by decide)]
      exact psgn_dig id seed dg leaf h h2 w
  · have e : sigE id seed leaf dg = chkQ id seed leaf := by unfold sigE; rw [if_neg h]
    rw [e, if_neg h]
    exact psgn_bad id seed dg leaf _ rfl h w

theorem inv_rec {w4 : World} {gs gd : Nat} (id : ByteArray) {s L4 : ByteArray} {leaf : Nat} {D : List Nat} (hL : L4 = strOf (b4 leaf)) (hs : StrAt w4 gs s) (hd : RowAt w4 gd D) (hK : Holds w4 0 kWords) : InvR gs w4.heap.size gd id s leaf D (w4.alloc (.cells #[.string id, .string L4] 41)) := by
  subst hL
  exact ⟨hs.below (belowNew w4 _), heap_alloc_new w4 _, hd.below (belowNew w4 _), hK.old (belowNew w4 _)⟩
/-- endS' for chains that there are, sixteen bytes for all others. -/
def endT (id : ByteArray) (leaf : Nat) (D : List Nat) (s : ByteArray) (c : Nat) : ByteArray := if c < 35 then endS' id leaf D s c else strOf (List.replicate 16 0)
theorem endT_size {id : ByteArray} {leaf : Nat} {D : List Nat} {s : ByteArray} (hs : s.size = 560) (c : Nat) : (endT id leaf D s c).size = 16 := by
  unfold endT
  by_cases h : c < 35
  · rw [if_pos h]
    exact steps_size (fun p v => stepS_size id leaf c p v) _ _ _ (partQ_size hs h)
  · rw [if_neg h]; rfl
theorem rowB_congr {f g : Nat → ByteArray} : ∀ n, (∀ c, c < n → f c = g c) → rowB f n = rowB g n
  | 0, _ => rfl
  | n + 1, h => by
    show rowB f n ++ f n = rowB g n ++ g n
    rw [rowB_congr n (fun c hc => h c (by omega)), h n (by omega)]
theorem endT_row (id : ByteArray) (leaf : Nat) (D : List Nat) (s : ByteArray) : rowB (endT id leaf D s) 35 = rowB (endS' id leaf D s) 35 := rowB_congr 35 fun c hc => by unfold endT; rw [if_pos hc]
theorem crec_gives (gs gk gd : Nat) (id s : ByteArray) (leaf : Nat) (D : List Nat) (hDl : D.length = 35) (hDv : ∀ c, D.getD c 0 ≤ 15) (hi : id.size ≤ 1000) (hs : s.size = 560) :
    GivesB 37 #[.pointer (some ⟨gs, 0, none⟩), .pointer (some ⟨gk, 0, none⟩), .pointer (some ⟨gd, 0, none⟩)] (endT id leaf D s) (InvR gs gk gd id s leaf D) := by
  intro c W hc hI
  have h := crec_any gs gk gd id s leaf D hDl hDv hi hs c W hc hI
  unfold endT
  rw [if_pos hc]
  exact h

set_option maxRecDepth 100000 in
set_option maxHeartbeats 2000000 in
theorem prec_ok (id dg s : ByteArray) (leaf : Nat) (hi : id.size = 16) (hl : leaf < 256) (hd16 : dg.size = 16) (hs : s.size = 560) (w : World) (hK : Holds w 0 kWords) :
    Calls Tryd.prog 16 #[.string id, .int .i64 (leaf : Int), .string dg, .string s] w fun e w' => e = .returned (someV (recS id leaf (digs dg.data.toList) s)) ∧ Below w.heap.size w w' := by
  obtain ⟨L4, hL4⟩ : ∃ L4, L4 = strOf (b4 leaf) := ⟨_, rfl⟩
  have HL4 := Lib.hid hL4
  have HCK : Hid (∀ W : World, Calls Tryd.prog 36 #[.string id, .int .i64 (leaf : Int)] W fun e w' => e = .returned (.int .i64 0) ∧ Below W.heap.size W w') := Lib.hid fun W => by
    have := pchkl_any id (leaf : Int) W
    rw [show leafE id (leaf : Int) = 0 by unfold leafE; rw [if_pos hi, if_pos (by omega)]] at this
    exact this
  have HKO : Hid (∀ W : World, Calls Tryd.prog 21 #[.string id, .int .i64 (leaf : Int)] W fun e w' => e = .returned (.agg #[.string id, .string L4]) ∧ Below W.heap.size W w') := Lib.hid fun W => by rw [hL4]; exact pkey_any id leaf (by omega) W
  have HDG : Hid (∀ W : World, Calls Tryd.prog 33 #[.string dg] W fun e w' => (∃ v, e = .returned (.tuple #[v, .int .i64 0]) ∧ OwnI w' W.heap.size v (digs dg.data.toList)) ∧ Below W.heap.size W w') := Lib.hid fun W => pdig_ok dg hd16 W
  obtain ⟨D, hD⟩ : ∃ D, D = digs dg.data.toList := ⟨_, rfl⟩
  rw [← hD] at HDG ⊢
  have hDl : D.length = 35 := by rw [hD, digs_len]; show 2 * dg.size + 3 = 35; rw [hd16]
  have HDL := Lib.hid hDl
  have hDv : ∀ c, D.getD c 0 ≤ 15 := fun c => by rw [hD]; exact digs_getD_le _ (by show dg.size ≤ 16; omega) c
  have hDne : D ≠ [] := by intro h; rw [h] at hDl; cases hDl
  have HNE := Lib.hid hDne
  have HJ := Lib.hid (fun gs gk gd W (h : InvR gs gk gd id s leaf D W) => pjoin_any _ _ egRec (endT id leaf D s) (fun c => endT_size hs c) (InvR gs gk gd id s leaf D) InvR.keep (crec_gives gs gk gd id s leaf D hDl hDv (by omega) hs) W h)
  obtain ⟨R, hR⟩ : ∃ R, R = rowB (endT id leaf D s) 35 := ⟨_, rfl⟩
  have HRP : Hid (keySq id leaf R = recS id leaf D s) := Lib.hid (by rw [hR, endT_row]; rfl)
  rw [← hR] at HJ
  have hRs : R.size = 560 := by rw [hR]; exact rowB_size (fun c => endT_size hs c) 35
  have HPK : Hid (∀ W : World, Holds W 0 kWords → Calls Tryd.prog 26 #[.agg #[.string id, .string L4], .string R] W fun e w' => e = .returned (.string (recS id leaf D s)) ∧ Below W.heap.size W w') := Lib.hid fun W hk => by
    rw [hL4, ← HRP.out]
    exact pkeyp_any id R leaf (by omega) (by omega) W hk
  have HK := Lib.hid hK
  have hsi : (s.size : Int) = 560 := by rw [hs]; rfl
  clear hi hl hL4 hR hRs hK hD hDl hDv hDne hd16 hs
  go_enter Tryd.func16, Tryd.ntmps16
  go_wp2_with (first
    | (go_at_call 36; (with_reducible refine (HCK.out _).mono ?_); rintro e w1 ⟨rfl, hb1⟩; have HS1 := Lib.hid ((show StrAt (w.alloc _) w.heap.size s from heap_alloc_new w _).below hb1); have HB1 := Lib.hid ((belowNew w _).next hb1); clear hb1)
    | (go_at_call 33; (with_reducible refine (HDG.out _).mono ?_); rintro e w2 ⟨⟨v, rfl, ho2⟩, hb2⟩; obtain ⟨gd, cd, rfl, hgB, hIL, hcd⟩ := ho2.open HNE.out; rw [HDL.out] at hcd ⊢; have HR3 := Lib.hid (row_new hIL hcd); have hS2 := HS1.out.below hb2; have s2 := scell hS2; have hlt := (Array.getElem?_eq_some_iff.1 hS2).1; have hne := Nat.ne_of_lt hlt; have hne' := Nat.ne_of_gt hlt; have s3 := fun o => scell (hS2.below (belowNew w2 o)); have HS2 := Lib.hid hS2; have HB2 := Lib.hid (HB1.out.next hb2); clear hb2 ho2 hIL hcd hgB hS2)
    | (go_at_call 21; (with_reducible refine (HKO.out _).mono ?_); rintro e w4 ⟨rfl, hb4⟩; have hb4' := (belowNew w2 (.cells #[.slice (some ⟨gd, 0, none⟩) 35 cd] 34)).next hb4; have HS4 := Lib.hid (HS2.out.below hb4'); have HR4 := Lib.hid (HR3.out.below hb4); have HB4 := Lib.hid (HB2.out.next hb4'); have HI5 := Lib.hid (inv_rec id HL4.out HS4.out HR4.out (HK.out.old HB4.out)); have hk5 := heap_alloc_new w4 (.cells #[.string id, .string L4] 41); have HK5 := Lib.hid hk5; have HB5 := Lib.hid (HB4.out.next (belowNew w4 (.cells #[.string id, .string L4] 41))); clear hb4 hb4' hk5)
    | (go_at_call 22; (with_reducible refine (HJ.out _ _ _ _ HI5.out).mono ?_); rintro e w6 ⟨rfl, hb6⟩; have hk6 := kept_heap HK5.out hb6; obtain ⟨k0, k1, hkl⟩ := kcell hk6; have HB6 := Lib.hid (HB5.out.next hb6); clear hb6 hk6)
    | (go_at_call 26; (with_reducible refine (HPK.out _ (HK.out.old HB6.out)).mono ?_); rintro e w7 ⟨rfl, hb7⟩; have HB7 := Lib.hid (HB6.out.next hb7); clear hb7))
  go_ret2
  exact ⟨rfl, HB7.out⟩
set_option maxRecDepth 100000 in
set_option maxHeartbeats 1000000 in
theorem prec_key (id dg s : ByteArray) (leaf : Int) (n : Nat) (hn : leafE id leaf = n) (h0 : n ≠ 0) (w : World) :
    Calls Tryd.prog 16 #[.string id, .int .i64 leaf, .string dg, .string s] w fun e w' => e = .returned (noneV n) ∧ Below w.heap.size w w' := by
  have HCK : Hid (∀ W : World, Calls Tryd.prog 36 #[.string id, .int .i64 leaf] W fun e w' => e = .returned (.int .i64 (n : Int)) ∧ Below W.heap.size W w') := Lib.hid fun W => by
    have := pchkl_any id leaf W
    rw [hn] at this
    exact this
  have d1 : ((n : Int) == 0) = false := by simp; omega
  clear hn
  go_enter Tryd.func16, Tryd.ntmps16
  go_wp2_with (first | (go_at_call 36; (with_reducible refine (HCK.out _).mono ?_); rintro e w1 ⟨rfl, hb1⟩; have HB1 := Lib.hid ((belowNew w _).next hb1); clear hb1))
  go_ret2
  exact ⟨rfl, HB1.out⟩
set_option maxRecDepth 100000 in
set_option maxHeartbeats 1000000 in
theorem prec_dig (id dg s : ByteArray) (leaf : Int) (hn : leafE id leaf = 0) (h0 : dg.size ≠ 16) (w : World) :
    Calls Tryd.prog 16 #[.string id, .int .i64 leaf, .string dg, .string s] w fun e w' => e = .returned (noneV 7) ∧ Below w.heap.size w w' := by
  have HCK : Hid (∀ W : World, Calls Tryd.prog 36 #[.string id, .int .i64 leaf] W fun e w' => e = .returned (.int .i64 0) ∧ Below W.heap.size W w') := Lib.hid fun W => by
    have := pchkl_any id leaf W
    rw [hn] at this
    exact this
  have HDG : Hid (∀ W : World, Calls Tryd.prog 33 #[.string dg] W fun e w' => e = .returned (.tuple #[.slice none 0 0, .int .i64 7]) ∧ Below W.heap.size W w') := Lib.hid fun W => pdig_bad dg h0 W
  clear hn
  go_enter Tryd.func16, Tryd.ntmps16
  go_wp2_with (first
    | (go_at_call 36; (with_reducible refine (HCK.out _).mono ?_); rintro e w1 ⟨rfl, hb1⟩; have HB1 := Lib.hid ((belowNew w _).next hb1); clear hb1)
    | (go_at_call 33; (with_reducible refine (HDG.out _).mono ?_); rintro e w2 ⟨rfl, hb2⟩; have HB2 := Lib.hid (HB1.out.next hb2); clear hb2))
  go_ret2
  exact ⟨rfl, HB2.out.next (belowNew _ _)⟩
set_option maxRecDepth 100000 in
set_option maxHeartbeats 1000000 in
theorem prec_sig (id dg s : ByteArray) (leaf : Int) (hn : leafE id leaf = 0) (hd16 : dg.size = 16) (h0 : s.size ≠ 560) (w : World) :
    Calls Tryd.prog 16 #[.string id, .int .i64 leaf, .string dg, .string s] w fun e w' => e = .returned (noneV 17) ∧ Below w.heap.size w w' := by
  have HCK : Hid (∀ W : World, Calls Tryd.prog 36 #[.string id, .int .i64 leaf] W fun e w' => e = .returned (.int .i64 0) ∧ Below W.heap.size W w') := Lib.hid fun W => by
    have := pchkl_any id leaf W
    rw [hn] at this
    exact this
  have HDG : Hid (∀ W : World, Calls Tryd.prog 33 #[.string dg] W fun e w' => (∃ v, e = .returned (.tuple #[v, .int .i64 0]) ∧ OwnI w' W.heap.size v (digs dg.data.toList)) ∧ Below W.heap.size W w') := Lib.hid fun W => pdig_ok dg hd16 W
  obtain ⟨b, hb⟩ : ∃ b, b = s.size := ⟨_, rfl⟩
  have hbi : (s.size : Int) = (b : Int) := by rw [hb]
  rw [← hb] at h0
  have d5 : ((b : Int) == 560) = false := by simp; omega
  clear hn hb hd16
  go_enter Tryd.func16, Tryd.ntmps16
  go_wp2_with (first
    | (go_at_call 36; (with_reducible refine (HCK.out _).mono ?_); rintro e w1 ⟨rfl, hb1⟩; have HS1 := Lib.hid ((show StrAt (w.alloc _) w.heap.size s from heap_alloc_new w _).below hb1); have HB1 := Lib.hid ((belowNew w _).next hb1); clear hb1)
    | (go_at_call 33; (with_reducible refine (HDG.out _).mono ?_); rintro e w2 ⟨⟨v, rfl, ho2⟩, hb2⟩; obtain ⟨a, cd, rfl⟩ := ho2.form; have hS2 := HS1.out.below hb2; have s2 := scell hS2; have hlt := (Array.getElem?_eq_some_iff.1 hS2).1; have hne := Nat.ne_of_lt hlt; have hne' := Nat.ne_of_gt hlt; have s3 := fun o => scell (hS2.below (belowNew w2 o)); have HB2 := Lib.hid (HB1.out.next hb2); clear hb2 ho2 hS2))
  go_ret2
  exact ⟨rfl, HB2.out.next (belowNew _ _)⟩
theorem recP : RecP := fun id dg s leaf w hK => by
  unfold recV
  by_cases h : leafE id leaf = 0
  · obtain ⟨h1, n, rfl, h2⟩ : id.size = 16 ∧ ∃ n : Nat, leaf = (n : Int) ∧ n < 256 := by
      unfold leafE at h
      split at h
      · split at h
        · exact ⟨by assumption, leaf.toNat, by omega, by omega⟩
        · cases h
      · cases h
    by_cases h3 : dg.size = 16
    · by_cases h4 : s.size = 560
      · have e : recE id (n : Int) dg s = 0 := by unfold recE; rw [if_pos h1, if_pos (by omega), if_pos h3, if_pos h4]
        rw [if_pos e]
        exact prec_ok id dg s n h1 h2 h3 h4 w hK
      · have e : recE id (n : Int) dg s = 17 := by unfold recE; rw [if_pos h1, if_pos (by omega), if_pos h3, if_neg h4]
        rw [e, if_neg (by decide)]
        exact prec_sig id dg s n h h3 h4 w
    · have e : recE id (n : Int) dg s = 7 := by unfold recE; rw [if_pos h1, if_pos (by omega), if_neg h3]
      rw [e, if_neg (by decide)]
      exact prec_dig id dg s n h h3 w
  · have e : recE id leaf dg s = leafE id leaf := by
      unfold leafE at h ⊢
      unfold recE
      by_cases h1 : id.size = 16
      · rw [if_pos h1] at h
        rw [if_pos h1, if_pos h1]
        by_cases h2 : 0 ≤ leaf ∧ leaf < 256
        · rw [if_pos h2] at h; exact absurd rfl h
        · rw [if_neg h2, if_neg h2]
      · rw [if_neg h1, if_neg h1]
    rw [e, if_neg h]
    exact prec_key id dg s leaf _ rfl h w
end Go.Proofs.YtbmphhiafepnoaaDoor
