/-
  The contracts of the program's Public, Sign and Recover.
  The contract of the program's Verify.
-/
import Derived.Test.YtphgpakfdhdklaaDoorAal
import Derived.Test.YtphgpakfdhdklaaDoorAak
namespace Go.Proofs.YtphgpakfdhdklaaDoor
open Go.RowKit

theorem egPub : ∀ (args : Array Value) (w : World), (callFunc 85 args).run Tryd.prog w = .ok (.enter 85 args) w := enters_of Tryd.func85 (by kernel_rfl) rfl
theorem egSgn : ∀ (args : Array Value) (w : World), (callFunc 68 args).run Tryd.prog w = .ok (.enter 68 args) w := enters_of Tryd.func68 (by kernel_rfl) rfl
theorem egRec : ∀ (args : Array Value) (w : World), (callFunc 77 args).run Tryd.prog w = .ok (.enter 77 args) w := enters_of Tryd.func77 (by kernel_rfl) rfl

theorem inv_pub {w2 : World} {gs : Nat} (id : ByteArray) {seed L4 : ByteArray} {leaf : Nat} (hL : L4 = strOf (b4 leaf)) (hs : StrAt w2 gs seed) (hK : Holds w2 0 kWords) : InvP w2.heap.size gs id seed leaf (w2.alloc (.cells #[.string id, .string L4] 98)) := by
  subst hL
  exact ⟨heap_alloc_new w2 _, hs.below (belowNew w2 _), hK.old (belowNew w2 _)⟩
set_option maxRecDepth 100000 in
set_option maxHeartbeats 2000000 in
theorem ppub_ok (id seed : ByteArray) (leaf : Nat) (h0 : chkQ id seed (leaf : Int) = 0) (w : World) (hK : Holds w 0 kWords) :
    Calls Tryd.prog 74 #[.string id, .string seed, .int .i64 (leaf : Int)] w fun e w' => e = .returned (someV (pubS id seed leaf)) ∧ Below w.heap.size w w' := by
  obtain ⟨hi, hs, n, hn, hlt⟩ := chkQ_zero h0
  have hl : leaf < 256 := by omega
  clear hn hlt n
  obtain ⟨L4, hL4⟩ : ∃ L4, L4 = strOf (b4 leaf) := ⟨_, rfl⟩
  have HL4 := Lib.hid hL4
  have HCK : Hid (∀ W : World, Calls Tryd.prog 64 #[.string id, .string seed, .int .i64 (leaf : Int)] W fun e w' => e = .returned (.int .i64 0) ∧ Below W.heap.size W w') := Lib.hid fun W => by
    have := pchks_any id seed (leaf : Int) W
    rw [h0] at this
    exact this
  have HKO : Hid (∀ W : World, Calls Tryd.prog 66 #[.string id, .int .i64 (leaf : Int)] W fun e w' => e = .returned (.agg #[.string id, .string L4]) ∧ Below W.heap.size W w') := Lib.hid fun W => by rw [hL4]; exact pkey_any id leaf (by omega) W
  have HJ := Lib.hid (fun gk gs W (h : InvP gk gs id seed leaf W) => pjoin_any _ _ egPub (fun c => valS id seed leaf c 15) (fun c => valS_size id seed leaf c 15) (InvP gk gs id seed leaf) InvP.keep (cpub_any gk gs id seed leaf (by omega) (by omega)) W h)
  obtain ⟨R, hR⟩ : ∃ R, R = rowB (fun c => valS id seed leaf c 15) 35 := ⟨_, rfl⟩
  have HRP : Hid (keySq id leaf R = pubS id seed leaf) := Lib.hid (by rw [hR]; rfl)
  rw [← hR] at HJ
  have hRs : R.size = 560 := by rw [hR]; exact rowB_size (fun c => valS_size _ _ _ _ _) 35
  have HPK : Hid (∀ W : World, Holds W 0 kWords → Calls Tryd.prog 78 #[.agg #[.string id, .string L4], .string R] W fun e w' => e = .returned (.string (pubS id seed leaf)) ∧ Below W.heap.size W w') := Lib.hid fun W hk => by
    rw [hL4, ← HRP.out]
    exact pkeyp_any id R leaf (by omega) (by omega) W hk
  have HK := Lib.hid hK
  clear hi hs hl h0 hL4 hR hRs hK
  go_enter Tryd.func74, Tryd.ntmps74
  go_wp2_with (first
    | (go_at_call 64; (with_reducible refine (HCK.out _).mono ?_); rintro e w1 ⟨rfl, hb1⟩; have HS1 := Lib.hid ((show StrAt (w.alloc _) w.heap.size seed from heap_alloc_new w _).below hb1); have HB1 := Lib.hid ((belowNew w _).next hb1); clear hb1)
    | (go_at_call 66; (with_reducible refine (HKO.out _).mono ?_); rintro e w2 ⟨rfl, hb2⟩; have HS2 := Lib.hid (HS1.out.below hb2); have HB2 := Lib.hid (HB1.out.next hb2); have hk3 := heap_alloc_new w2 (.cells #[.string id, .string L4] 98); have HI3 := Lib.hid (inv_pub id HL4.out HS2.out (HK.out.old HB2.out)); have HB3 := Lib.hid (HB2.out.next (belowNew w2 (.cells #[.string id, .string L4] 98))); have HK3 := Lib.hid hk3; clear hb2 hk3)
    | (go_at_call 67; (with_reducible refine (HJ.out _ _ _ HI3.out).mono ?_); rintro e w4 ⟨rfl, hb4⟩; have hk4 := kept_heap HK3.out hb4; obtain ⟨k0, k1, hkl⟩ := kcell hk4; have HB4 := Lib.hid (HB3.out.next hb4); clear hb4 hk4)
    | (go_at_call 78; (with_reducible refine (HPK.out _ (HK.out.old HB4.out)).mono ?_); rintro e w5 ⟨rfl, hb5⟩; have HB5 := Lib.hid (HB4.out.next hb5); clear hb5))
  go_ret2
  exact ⟨rfl, HB5.out⟩
set_option maxRecDepth 100000 in
set_option maxHeartbeats 1000000 in
theorem ppub_bad (id seed : ByteArray) (leaf : Int) (n : Nat) (hn : chkQ id seed leaf = n) (h0 : n ≠ 0) (w : World) :
    Calls Tryd.prog 74 #[.string id, .string seed, .int .i64 leaf] w fun e w' => e = .returned (noneV n) ∧ Below w.heap.size w w' := by
  have HCK : Hid (∀ W : World, Calls Tryd.prog 64 #[.string id, .string seed, .int .i64 leaf] W fun e w' => e = .returned (.int .i64 (n : Int)) ∧ Below W.heap.size W w') := Lib.hid fun W => by
    have := pchks_any id seed leaf W
    rw [hn] at this
    exact this
  have d1 : ((n : Int) == 0) = false := by simp; omega
  clear hn
  go_enter Tryd.func74, Tryd.ntmps74
  go_wp2_with (first | (go_at_call 64; (with_reducible refine (HCK.out _).mono ?_); rintro e w1 ⟨rfl, hb1⟩; have HB1 := Lib.hid ((belowNew w _).next hb1); clear hb1))
  go_ret2
  exact ⟨rfl, HB1.out⟩
theorem pubP : PubP := fun id seed leaf w hK => by
  unfold pubV
  by_cases h : chkQ id seed leaf = 0
  · rw [if_pos h]
    obtain ⟨_, _, n, rfl, _⟩ := chkQ_zero h
    exact ppub_ok id seed n h w hK
  · rw [if_neg h]
    exact ppub_bad id seed leaf _ rfl h w

theorem inv_sgn {w4 : World} {gd gs : Nat} (id : ByteArray) {seed L4 : ByteArray} {leaf : Nat} {D : List Nat} (hL : L4 = strOf (b4 leaf)) (hd : RowAt w4 gd D) (hs : StrAt w4 gs seed) (hK : Holds w4 0 kWords) : InvS w4.heap.size gd gs id seed leaf D (w4.alloc (.cells #[.string id, .string L4] 98)) := by
  subst hL
  exact ⟨heap_alloc_new w4 _, hd.below (belowNew w4 _), hs.below (belowNew w4 _), hK.old (belowNew w4 _)⟩
theorem row_new {w : World} {b c : Nat} {D : List Nat} (h : ILie w b D) (hc : 35 ≤ c) : RowAt (w.alloc (.cells #[.slice (some ⟨b, 0, none⟩) 35 c] 22)) w.heap.size D := ⟨b, c, heap_alloc_new w _, h.alloc _, hc⟩
set_option maxRecDepth 100000 in
set_option maxHeartbeats 2000000 in
theorem psgn_ok (id seed dg : ByteArray) (leaf : Nat) (h0 : chkQ id seed (leaf : Int) = 0) (hd16 : dg.size = 16) (w : World) (hK : Holds w 0 kWords) :
    Calls Tryd.prog 47 #[.string id, .string seed, .int .i64 (leaf : Int), .string dg] w fun e w' => e = .returned (someV (sigS id seed leaf (digs dg.data.toList))) ∧ Below w.heap.size w w' := by
  obtain ⟨hi, hs, n, hn, hlt⟩ := chkQ_zero h0
  have hl : leaf < 256 := by omega
  clear hn hlt n
  obtain ⟨L4, hL4⟩ : ∃ L4, L4 = strOf (b4 leaf) := ⟨_, rfl⟩
  have HL4 := Lib.hid hL4
  have HCK : Hid (∀ W : World, Calls Tryd.prog 64 #[.string id, .string seed, .int .i64 (leaf : Int)] W fun e w' => e = .returned (.int .i64 0) ∧ Below W.heap.size W w') := Lib.hid fun W => by
    have := pchks_any id seed (leaf : Int) W
    rw [h0] at this
    exact this
  have HKO : Hid (∀ W : World, Calls Tryd.prog 66 #[.string id, .int .i64 (leaf : Int)] W fun e w' => e = .returned (.agg #[.string id, .string L4]) ∧ Below W.heap.size W w') := Lib.hid fun W => by rw [hL4]; exact pkey_any id leaf (by omega) W
  have HDG : Hid (∀ W : World, Calls Tryd.prog 65 #[.string dg] W fun e w' => (∃ v, e = .returned (.tuple #[v, .int .i64 0]) ∧ OwnI w' W.heap.size v (digs dg.data.toList)) ∧ Below W.heap.size W w') := Lib.hid fun W => pdig_ok dg hd16 W
  obtain ⟨D, hD⟩ : ∃ D, D = digs dg.data.toList := ⟨_, rfl⟩
  rw [← hD] at HDG ⊢
  have hDl : D.length = 35 := by rw [hD, digs_len]; show 2 * dg.size + 3 = 35; rw [hd16]
  have HDL := Lib.hid hDl
  have hDv : ∀ c, D.getD c 0 ≤ 15 := fun c => by rw [hD]; exact digs_getD_le _ (by show dg.size ≤ 16; omega) c
  have hDne : D ≠ [] := by intro h; rw [h] at hDl; cases hDl
  have HNE := Lib.hid hDne
  have HJ := Lib.hid (fun gk gd gs W (h : InvS gk gd gs id seed leaf D W) => pjoin_any _ _ egSgn (fun c => valS id seed leaf c (D.getD c 0)) (fun c => valS_size id seed leaf c _) (InvS gk gd gs id seed leaf D) InvS.keep (csgn_any gk gd gs id seed leaf D hDl hDv (by omega) (by omega)) W h)
  obtain ⟨R, hR⟩ : ∃ R, R = rowB (fun c => valS id seed leaf c (D.getD c 0)) 35 := ⟨_, rfl⟩
  have HRP : Hid (R = sigS id seed leaf D) := Lib.hid (by rw [hR]; rfl)
  rw [← hR] at HJ
  have HK := Lib.hid hK
  clear hi hs hl h0 hL4 hR hK hD hDl hDv hDne hd16
  go_enter Tryd.func47, Tryd.ntmps47
  go_wp2_with (first
    | (go_at_call 64; (with_reducible refine (HCK.out _).mono ?_); rintro e w1 ⟨rfl, hb1⟩; have HS1 := Lib.hid ((show StrAt (w.alloc _) w.heap.size seed from heap_alloc_new w _).below hb1); have HB1 := Lib.hid ((belowNew w _).next hb1); clear hb1)
    | (go_at_call 65; (with_reducible refine (HDG.out _).mono ?_); rintro e w2 ⟨⟨v, rfl, ho2⟩, hb2⟩; obtain ⟨gd, cd, rfl, hgB, hIL, hcd⟩ := ho2.open HNE.out; rw [HDL.out] at hcd ⊢; have HR3 := Lib.hid (row_new hIL hcd); have HS2 := Lib.hid (HS1.out.below hb2); have HB2 := Lib.hid (HB1.out.next hb2); clear hb2 ho2 hIL hcd hgB)
    | (go_at_call 66; (with_reducible refine (HKO.out _).mono ?_); rintro e w4 ⟨rfl, hb4⟩; have hb4' := (belowNew w2 (.cells #[.slice (some ⟨gd, 0, none⟩) 35 cd] 22)).next hb4; have HS4 := Lib.hid (HS2.out.below hb4'); have HR4 := Lib.hid (HR3.out.below hb4); have HB4 := Lib.hid (HB2.out.next hb4'); have HI5 := Lib.hid (inv_sgn id HL4.out HR4.out HS4.out (HK.out.old HB4.out)); have HB5 := Lib.hid (HB4.out.next (belowNew w4 (.cells #[.string id, .string L4] 98))); clear hb4 hb4')
    | (go_at_call 67; (with_reducible refine (HJ.out _ _ _ _ HI5.out).mono ?_); rintro e w6 ⟨rfl, hb6⟩; have HB6 := Lib.hid (HB5.out.next hb6); clear hb6))
  go_ret2
  rw [← HRP.out]
  exact ⟨rfl, HB6.out⟩
set_option maxRecDepth 100000 in
set_option maxHeartbeats 1000000 in
theorem psgn_bad (id seed dg : ByteArray) (leaf : Int) (n : Nat) (hn : chkQ id seed leaf = n) (h0 : n ≠ 0) (w : World) :
    Calls Tryd.prog 47 #[.string id, .string seed, .int .i64 leaf, .string dg] w fun e w' => e = .returned (noneV n) ∧ Below w.heap.size w w' := by
  have HCK : Hid (∀ W : World, Calls Tryd.prog 64 #[.string id, .string seed, .int .i64 leaf] W fun e w' => e = .returned (.int .i64 (n : Int)) ∧ Below W.heap.size W w') := Lib.hid fun W => by
    have := pchks_any id seed leaf W
    rw [hn] at this
    exact this
  have d1 : ((n : Int) == 0) = false := by simp; omega
  clear hn
  go_enter Tryd.func47, Tryd.ntmps47
  go_wp2_with (first | (go_at_call 64; (with_reducible refine (HCK.out _).mono ?_); rintro e w1 ⟨rfl, hb1⟩; have HB1 := Lib.hid ((belowNew w _).next hb1); clear hb1))
  go_ret2
  exact ⟨rfl, HB1.out⟩
set_option maxRecDepth 100000 in
set_option maxHeartbeats 1000000 in
theorem psgn_dig (id seed dg : ByteArray) (leaf : Int) (hn : chkQ id seed leaf = 0) (h0 : dg.size ≠ 16) (w : World) :
    Calls Tryd.prog 47 #[.string id, .string seed, .int .i64 leaf, .string dg] w fun e w' => e = .returned (noneV 7) ∧ Below w.heap.size w w' := by
  have HCK : Hid (∀ W : World, Calls Tryd.prog 64 #[.string id, .string seed, .int .i64 leaf] W fun e w' => e = .returned (.int .i64 0) ∧ Below W.heap.size W w') := Lib.hid fun W => by
    have := pchks_any id seed leaf W
    rw [hn] at this
    exact this
  have HDG : Hid (∀ W : World, Calls Tryd.prog 65 #[.string dg] W fun e w' => e = .returned (.tuple #[.slice none 0 0, .int .i64 7]) ∧ Below W.heap.size W w') := Lib.hid fun W => pdig_bad dg h0 W
  clear hn
  go_enter Tryd.func47, Tryd.ntmps47
  go_wp2_with (first
    | (go_at_call 64; (with_reducible refine (HCK.out _).mono ?_); rintro e w1 ⟨rfl, hb1⟩; have HB1 := Lib.hid ((belowNew w _).next hb1); clear hb1)
    | (go_at_call 65; (with_reducible refine (HDG.out _).mono ?_); rintro e w2 ⟨rfl, hb2⟩; have HB2 := Lib.hid (HB1.out.next hb2); clear hb2))
  go_ret2
  exact ⟨rfl, HB2.out.next (belowNew _ _)⟩
theorem sigP : SigP := fun id seed dg leaf w hK => by
  unfold sigV
  by_cases h : chkQ id seed leaf = 0
  · by_cases h2 : dg.size = 16
    · have e : sigE id seed leaf dg = 0 := by unfold sigE; rw [if_pos h, if_pos h2]
      rw [if_pos e]
      obtain ⟨_, _, n, rfl, _⟩ := chkQ_zero h
      exact psgn_ok id seed dg n h h2 w hK
    · have e : sigE id seed leaf dg = 7 := by unfold sigE; rw [if_pos h, if_neg h2]
      rw [e, if_neg (by decide)]
      exact psgn_dig id seed dg leaf h h2 w
  · have e : sigE id seed leaf dg = chkQ id seed leaf := by unfold sigE; rw [if_neg h]
    rw [e, if_neg h]
    exact psgn_bad id seed dg leaf _ rfl h w

theorem inv_rec {w4 : World} {gs gd : Nat} (id : ByteArray) {s L4 : ByteArray} {leaf : Nat} {D : List Nat} (hL : L4 = strOf (b4 leaf)) (hs : StrAt w4 gs s) (hd : RowAt w4 gd D) (hK : Holds w4 0 kWords) : InvR gs w4.heap.size gd id s leaf D (w4.alloc (.cells #[.string id, .string L4] 98)) := by
  subst hL
  exact ⟨hs.below (belowNew w4 _), heap_alloc_new w4 _, hd.below (belowNew w4 _), hK.old (belowNew w4 _)⟩
/-- endS' for chains that there are, sixteen bytes for all others. -/
def endT (id : ByteArray) (leaf : Nat) (D : List Nat) (s : ByteArray) (c : Nat) : ByteArray := if c < 35 then endS' id leaf D s c else strOf (List.replicate 16 0)
theorem endT_size {id : ByteArray} {leaf : Nat} {D : List Nat} {s : ByteArray} (hs : s.size = 560) (c : Nat) : (endT id leaf D s c).size = 16 := by
  unfold endT
  by_cases h : c < 35
  · rw [if_pos h]
    exact steps_size (fun p v => stepS_size id leaf c p v) _ _ _ (partQ_size hs h)
  · rw [if_neg h]; rfl
theorem rowB_congr {f g : Nat → ByteArray} : ∀ n, (∀ c, c < n → f c = g c) → rowB f n = rowB g n
  | 0, _ => rfl
  | n + 1, h => by
    show rowB f n ++ f n = rowB g n ++ g n
    rw [rowB_congr n (fun c hc => h c (by omega)), h n (by omega)]
theorem endT_row (id : ByteArray) (leaf : Nat) (D : List Nat) (s : ByteArray) : rowB (endT id leaf D s) 35 = rowB (endS' id leaf D s) 35 := rowB_congr 35 fun c hc => by unfold endT; rw [if_pos hc]
theorem crec_gives (gs gk gd : Nat) (id s : ByteArray) (leaf : Nat) (D : List Nat) (hDl : D.length = 35) (hDv : ∀ c, D.getD c 0 ≤ 15) (hi : id.size ≤ 1000) (hs : s.size = 560) :
    GivesB 77 #[.pointer (some ⟨gs, 0, none⟩), .pointer (some ⟨gk, 0, none⟩), .pointer (some ⟨gd, 0, none⟩)] (endT id leaf D s) (InvR gs gk gd id s leaf D) := by
  intro c W hc hI
  have h := crec_any gs gk gd id s leaf D hDl hDv hi hs c W hc hI
  unfold endT
  rw [if_pos hc]
  exact h

set_option maxRecDepth 100000 in
set_option maxHeartbeats 2000000 in
theorem prec_ok (id dg s : ByteArray) (leaf : Nat) (hi : id.size = 16) (hl : leaf < 256) (hd16 : dg.size = 16) (hs : s.size = 560) (w : World) (hK : Holds w 0 kWords) :
    Calls Tryd.prog 62 #[.string id, .int .i64 (leaf : Int), .string dg, .string s] w fun e w' => e = .returned (someV (recS id leaf (digs dg.data.toList) s)) ∧ Below w.heap.size w w' := by
  obtain ⟨L4, hL4⟩ : ∃ L4, L4 = strOf (b4 leaf) := ⟨_, rfl⟩
  have HL4 := Lib.hid hL4
  have HCK : Hid (∀ W : World, Calls Tryd.prog 76 #[.string id, .int .i64 (leaf : Int)] W fun e w' => e = .returned (.int .i64 0) ∧ Below W.heap.size W w') := Lib.hid fun W => by
    have := pchkl_any id (leaf : Int) W
    rw [show leafE id (leaf : Int) = 0 by unfold leafE; rw [if_pos hi, if_pos (by omega)]] at this
    exact this
  have HKO : Hid (∀ W : World, Calls Tryd.prog 66 #[.string id, .int .i64 (leaf : Int)] W fun e w' => e = .returned (.agg #[.string id, .string L4]) ∧ Below W.heap.size W w') := Lib.hid fun W => by rw [hL4]; exact pkey_any id leaf (by omega) W
  have HDG : Hid (∀ W : World, Calls Tryd.prog 65 #[.string dg] W fun e w' => (∃ v, e = .returned (.tuple #[v, .int .i64 0]) ∧ OwnI w' W.heap.size v (digs dg.data.toList)) ∧ Below W.heap.size W w') := Lib.hid fun W => pdig_ok dg hd16 W
  obtain ⟨D, hD⟩ : ∃ D, D = digs dg.data.toList := ⟨_, rfl⟩
  rw [← hD] at HDG ⊢
  have hDl : D.length = 35 := by rw [hD, digs_len]; show 2 * dg.size + 3 = 35; rw [hd16]
  have HDL := Lib.hid hDl
  have hDv : ∀ c, D.getD c 0 ≤ 15 := fun c => by rw [hD]; exact digs_getD_le _ (by show dg.size ≤ 16; omega) c
  have hDne : D ≠ [] := by intro h; rw [h] at hDl; cases hDl
  have HNE := Lib.hid hDne
  have HJ := Lib.hid (fun gs gk gd W (h : InvR gs gk gd id s leaf D W) => pjoin_any _ _ egRec (endT id leaf D s) (fun c => endT_size hs c) (InvR gs gk gd id s leaf D) InvR.keep (crec_gives gs gk gd id s leaf D hDl hDv (by omega) hs) W h)
  obtain ⟨R, hR⟩ : ∃ R, R = rowB (endT id leaf D s) 35 := ⟨_, rfl⟩
  have HRP : Hid (keySq id leaf R = recS id leaf D s) := Lib.hid (by rw [hR, endT_row]; rfl)
  rw [← hR] at HJ
  have hRs : R.size = 560 := by rw [hR]; exact rowB_size (fun c => endT_size hs c) 35
  have HPK : Hid (∀ W : World, Holds W 0 kWords → Calls Tryd.prog 78 #[.agg #[.string id, .string L4], .string R] W fun e w' => e = .returned (.string (recS id leaf D s)) ∧ Below W.heap.size W w') := Lib.hid fun W hk => by
    rw [hL4, ← HRP.out]
    exact pkeyp_any id R leaf (by omega) (by omega) W hk
  have HK := Lib.hid hK
  have hsi : (s.size : Int) = 560 := by rw [hs]; rfl
  clear hi hl hL4 hR hRs hK hD hDl hDv hDne hd16 hs
  go_enter Tryd.func62, Tryd.ntmps62
  go_wp2_with (first
    | (go_at_call 76; (with_reducible refine (HCK.out _).mono ?_); rintro e w1 ⟨rfl, hb1⟩; have HS1 := Lib.hid ((show StrAt (w.alloc _) w.heap.size s from heap_alloc_new w _).below hb1); have HB1 := Lib.hid ((belowNew w _).next hb1); clear hb1)
    | (go_at_call 65; (with_reducible refine (HDG.out _).mono ?_); rintro e w2 ⟨⟨v, rfl, ho2⟩, hb2⟩; obtain ⟨gd, cd, rfl, hgB, hIL, hcd⟩ := ho2.open HNE.out; rw [HDL.out] at hcd ⊢; have HR3 := Lib.hid (row_new hIL hcd); have hS2 := HS1.out.below hb2; have s2 := scell hS2; have hlt := (Array.getElem?_eq_some_iff.1 hS2).1; have hne := Nat.ne_of_lt hlt; have hne' := Nat.ne_of_gt hlt; have s3 := fun o => scell (hS2.below (belowNew w2 o)); have HS2 := Lib.hid hS2; have HB2 := Lib.hid (HB1.out.next hb2); clear hb2 ho2 hIL hcd hgB hS2)
    | (go_at_call 66; (with_reducible refine (HKO.out _).mono ?_); rintro e w4 ⟨rfl, hb4⟩; have hb4' := (belowNew w2 (.cells #[.slice (some ⟨gd, 0, none⟩) 35 cd] 22)).next hb4; have HS4 := Lib.hid (HS2.out.below hb4'); have HR4 := Lib.hid (HR3.out.below hb4); have HB4 := Lib.hid (HB2.out.next hb4'); have HI5 := Lib.hid (inv_rec id HL4.out HS4.out HR4.out (HK.out.old HB4.out)); have hk5 := heap_alloc_new w4 (.cells #[.string id, .string L4] 98); have HK5 := Lib.hid hk5; have HB5 := Lib.hid (HB4.out.next (belowNew w4 (.cells #[.string id, .string L4] 98))); clear hb4 hb4' hk5)
    | (go_at_call 67; (with_reducible refine (HJ.out _ _ _ _ HI5.out).mono ?_); rintro e w6 ⟨rfl, hb6⟩; have hk6 := kept_heap HK5.out hb6; obtain ⟨k0, k1, hkl⟩ := kcell hk6; have HB6 := Lib.hid (HB5.out.next hb6); clear hb6 hk6)
    | (go_at_call 78; (with_reducible refine (HPK.out _ (HK.out.old HB6.out)).mono ?_); rintro e w7 ⟨rfl, hb7⟩; have HB7 := Lib.hid (HB6.out.next hb7); clear hb7))
  go_ret2
  exact ⟨rfl, HB7.out⟩
set_option maxRecDepth 100000 in
set_option maxHeartbeats 1000000 in
theorem prec_key (id dg s : ByteArray) (leaf : Int) (n : Nat) (hn : leafE id leaf = n) (h0 : n ≠ 0) (w : World) :
    Calls Tryd.prog 62 #[.string id, .int .i64 leaf, .string dg, .string s] w fun e w' => e = .returned (noneV n) ∧ Below w.heap.size w w' := by
  have HCK : Hid (∀ W : World, Calls Tryd.prog 76 #[.string id, .int .i64 leaf] W fun e w' => e = .returned (.int .i64 (n : Int)) ∧ Below W.heap.size W w') := Lib.hid fun W => by
    have := pchkl_any id leaf W
    rw [hn] at this
    exact this
  have d1 : ((n : Int) == 0) = false := by simp; omega
  clear hn
  go_enter Tryd.func62, Tryd.ntmps62
  go_wp2_with (first | (go_at_call 76; (with_reducible refine (HCK.out _).mono ?_); rintro e w1 ⟨rfl, hb1⟩; have HB1 := Lib.hid ((belowNew w _).next hb1); clear hb1))
  go_ret2
  exact ⟨rfl, HB1.out⟩
set_option maxRecDepth 100000 in
set_option maxHeartbeats 1000000 in
theorem prec_dig (id dg s : ByteArray) (leaf : Int) (hn : leafE id leaf = 0) (h0 : dg.size ≠ 16) (w : World) :
    Calls Tryd.prog 62 #[.string id, .int .i64 leaf, .string dg, .string s] w fun e w' => e = .returned (noneV 7) ∧ Below w.heap.size w w' := by
  have HCK : Hid (∀ W : World, Calls Tryd.prog 76 #[.string id, .int .i64 leaf] W fun e w' => e = .returned (.int .i64 0) ∧ Below W.heap.size W w') := Lib.hid fun W => by
    have := pchkl_any id leaf W
    rw [hn] at this
    exact this
  have HDG : Hid (∀ W : World, Calls Tryd.prog 65 #[.string dg] W fun e w' => e = .returned (.tuple #[.slice none 0 0, .int .i64 7]) ∧ Below W.heap.size W w') := Lib.hid fun W => pdig_bad dg h0 W
  clear hn
  go_enter Tryd.func62, Tryd.ntmps62
  go_wp2_with (first
    | (go_at_call 76; (with_reducible refine (HCK.out _).mono ?_); rintro e w1 ⟨rfl, hb1⟩; have HB1 := Lib.hid ((belowNew w _).next hb1); clear hb1)
    | (go_at_call 65; (with_reducible refine (HDG.out _).mono ?_); rintro e w2 ⟨rfl, hb2⟩; have HB2 := Lib.hid (HB1.out.next hb2); clear hb2))
  go_ret2
  exact ⟨rfl, HB2.out.next (belowNew _ _)⟩
set_option maxRecDepth 100000 in
set_option maxHeartbeats 1000000 in
theorem prec_sig (id dg s : ByteArray) (leaf : Int) (hn : leafE id leaf = 0) (hd16 : dg.size = 16) (h0 : s.size ≠ 560) (w : World) :
    Calls Tryd.prog 62 #[.string id, .int .i64 leaf, .string dg, .string s] w fun e w' => e = .returned (noneV 17) ∧ Below w.heap.size w w' := by
  have HCK : Hid (∀ W : World, Calls Tryd.prog 76 #[.string id, .int .i64 leaf] W fun e w' => e = .returned (.int .i64 0) ∧ Below W.heap.size W w') := Lib.hid fun W => by
    have := pchkl_any id leaf W
    rw [hn] at this
    exact this
  have HDG : Hid (∀ W : World, Calls Tryd.prog 65 #[.string dg] W fun e w' => (∃ v, e = .returned (.tuple #[v, .int .i64 0]) ∧ OwnI w' W.heap.size v (digs dg.data.toList)) ∧ Below W.heap.size W w') := Lib.hid fun W => pdig_ok dg hd16 W
  obtain ⟨b, hb⟩ : ∃ b, b = s.size := ⟨_, rfl⟩
  have hbi : (s.size : Int) = (b : Int) := by rw [hb]
  rw [← hb] at h0
  have d5 : ((b : Int) == 560) = false := by simp; omega
  clear hn hb hd16
  go_enter Tryd.func62, Tryd.ntmps62
  go_wp2_with (first
    | (go_at_call 76; (with_reducible refine (HCK.out _).mono ?_); rintro e w1 ⟨rfl, hb1⟩; have HS1 := Lib.hid ((show StrAt (w.alloc _) w.heap.size s from heap_alloc_new w _).below hb1); have HB1 := Lib.hid ((belowNew w _).next hb1); clear hb1)
    | (go_at_call 65; (with_reducible refine (HDG.out _).mono ?_); rintro e w2 ⟨⟨v, rfl, ho2⟩, hb2⟩; obtain ⟨a, cd, rfl⟩ := ho2.form; have hS2 := HS1.out.below hb2; have s2 := scell hS2; have hlt := (Array.getElem?_eq_some_iff.1 hS2).1; have hne := Nat.ne_of_lt hlt; have hne' := Nat.ne_of_gt hlt; have s3 := fun o => scell (hS2.below (belowNew w2 o)); have HB2 := Lib.hid (HB1.out.next hb2); clear hb2 ho2 hS2))
  go_ret2
  exact ⟨rfl, HB2.out.next (belowNew _ _)⟩
theorem recP : RecP := fun id dg s leaf w hK => by
  unfold recV
  by_cases h : leafE id leaf = 0
  · obtain ⟨h1, n, rfl, h2⟩ : id.size = 16 ∧ ∃ n : Nat, leaf = (n : Int) ∧ n < 256 := by
      unfold leafE at h
      split at h
      · split at h
        · exact ⟨by assumption, leaf.toNat, by omega, by omega⟩
        · cases h
      · cases h
    by_cases h3 : dg.size = 16
    · by_cases h4 : s.size = 560
      · have e : recE id (n : Int) dg s = 0 := by unfold recE; rw [if_pos h1, if_pos (by omega), if_pos h3, if_pos h4]
        rw [if_pos e]
        exact prec_ok id dg s n h1 h2 h3 h4 w hK
      · have e : recE id (n : Int) dg s = 17 := by unfold recE; rw [if_pos h1, if_pos (by omega), if_pos h3, if_neg h4]
        rw [e, if_neg (by decide)]
        exact prec_sig id dg s n h h3 h4 w
    · have e : recE id (n : Int) dg s = 7 := by unfold recE; rw [if_pos h1, if_pos (by omega), if_neg h3]
      rw [e, if_neg (by decide)]
      exact prec_dig id dg s n h h3 w
  · have e : recE id leaf dg s = leafE id leaf := by
      unfold leafE at h ⊢
      unfold recE
      by_cases h1 : id.size = 16
      · rw [if_pos h1] at h
        rw [if_pos h1, if_pos h1]
        by_cases h2 : 0 ≤ leaf ∧ leaf < 256
        · rw [if_pos h2] at h; exact absurd rfl h
        · rw [if_neg h2, if_neg h2]
      · rw [if_neg h1, if_neg h1]
    rw [e, if_neg h]
    exact prec_key id dg s leaf _ rfl h w
end Go.Proofs.YtphgpakfdhdklaaDoor
namespace Go.Proofs.YtphgpakfdhdklaaDoor
open Go.RowKit

theorem sib_shift (s : ByteArray) (l n : Nat) (_ : s.size = n) (hl : 564 + (l + 1) * 16 ≤ n) : sibB (s.extract 564 n) l = sibP s l := by
  unfold sibB sibP
  apply ByteArray.ext
  simp only [ByteArray.data_extract, Array.extract_extract]
  rw [Nat.min_eq_left (by omega)]
theorem climbB_zero (id sb node : ByteArray) (leaf : Nat) : climbB id sb node leaf 0 = node := rfl
theorem climb_up (id root m s : ByteArray) (h : Nat) (hs : s.size = 564 + h * 16) : climbB id (s.extract 564 s.size) (upS id root m s 0) (leafS s) h = upS id root m s h := by
  have e : ∀ n, n ≤ h → climbB id (s.extract 564 s.size) (upS id root m s 0) (leafS s) n = upS id root m s n := by
    intro n
    induction n with
    | zero => intro _; exact climbB_zero _ _ _ _
    | succ n ih =>
      intro hn
      rw [climbB_next, up_next, ih (by omega), sib_shift s n s.size rfl (by rw [hs]; omega)]
  exact e h (Nat.le_refl _)

set_option maxRecDepth 100000 in
set_option maxHeartbeats 1000000 in
theorem mvs_len (h : Nat) (id root m s : ByteArray) (hh : h ≤ 8) (hz : s.size ≠ 564 + h * 16) (_ : s.size ≤ 1000000000) (w : World) :
    Calls Tryd.prog 44 #[keyV (h : Int) id root, .string m, .string s] w fun e w' => e = .returned (.bool false) ∧ Below w.heap.size w w' := by
  obtain ⟨k, hk2⟩ : ∃ k, k = s.size := ⟨_, rfl⟩
  have hki : (s.size : Int) = (k : Int) := by rw [hk2]
  obtain ⟨t, ht⟩ : ∃ t, t = 564 + h * 16 := ⟨_, rfl⟩
  have HSZ : Hid (∀ W : World, Calls Tryd.prog 61 #[.agg #[.int .i64 (h : Int), .string id, .string root]] W fun e w' => e = .returned (.int .i64 (t : Int)) ∧ Below W.heap.size W w') := Lib.hid fun W => by
    rw [ht]
    exact msize_any h hh id root W
  have dkt : ((k : Int) == (t : Int)) = false := by simp; omega
  have dki : ¬ (k : Int) = (t : Int) := by omega
  have dkn : ¬ k = t := by omega
  unfold keyV
  clear hk2 ht hz
  go_enter Tryd.func44, Tryd.ntmps44
  go_wp2_with (go_at_call 61; (with_reducible refine (HSZ.out _).mono ?_); rintro e w1 ⟨rfl, hb1⟩; have HB1 := Lib.hid ((belowNew w _).next hb1); clear hb1)
  go_ret
  exact ⟨rfl, HB1.out⟩

set_option maxRecDepth 100000 in
set_option maxHeartbeats 1000000 in
theorem mvs_leaf (h : Nat) (id root m s : ByteArray) (hh : h ≤ 8) (hz : s.size = 564 + h * 16) (hl : 2 ^ h ≤ leafS s) (w : World) :
    Calls Tryd.prog 44 #[keyV (h : Int) id root, .string m, .string s] w fun e w' => e = .returned (.bool false) ∧ Below w.heap.size w w' := by
  obtain ⟨t, ht⟩ : ∃ t, t = 564 + h * 16 := ⟨_, rfl⟩
  have hki : (s.size : Int) = (t : Int) := by omega
  have HSZ : Hid (∀ W : World, Calls Tryd.prog 61 #[.agg #[.int .i64 (h : Int), .string id, .string root]] W fun e w' => e = .returned (.int .i64 (t : Int)) ∧ Below W.heap.size W w') := Lib.hid fun W => by
    rw [ht]
    exact msize_any h hh id root W
  obtain ⟨lf, hlf⟩ : ∃ lf, lf = leafS s := ⟨_, rfl⟩
  have HL : Hid (∀ W : World, Calls Tryd.prog 29 #[.string s] W fun e w' => e = .returned (.tuple #[.int .i64 (lf : Int), .bool true]) ∧ Below W.heap.size W w') := Lib.hid fun W => by
    have := mleaf_any s W
    rw [leafV_long (by omega), ← hlf] at this
    exact this
  obtain ⟨N, hN⟩ : ∃ N, N = 2 ^ h := ⟨_, rfl⟩
  have HLV : Hid (∀ W : World, Calls Tryd.prog 55 #[.agg #[.int .i64 (h : Int), .string id, .string root]] W fun e w' => e = .returned (.int .i64 (N : Int)) ∧ Below W.heap.size W w') := Lib.hid fun W => by
    rw [hN]
    exact mleaves_any h hh id root W
  rw [← hN, ← hlf] at hl
  have dl : decide ((N : Int) ≤ (lf : Int)) = true := by simp; omega
  have dkt : ((t : Int) == (t : Int)) = true := by simp
  unfold keyV
  clear ht hz hlf hN
  go_enter Tryd.func44, Tryd.ntmps44
  go_wp2_with (first
    | (go_at_call 61; (with_reducible refine (HSZ.out _).mono ?_); rintro e w1 ⟨rfl, hb1⟩; have HB1 := Lib.hid ((belowNew w _).next hb1); have HQ1 := Lib.hid ((hb1.block w.heap.size (by simp)).trans (heap_alloc_new w _)); obtain ⟨k0, k1, k2, hgl⟩ := tcell HQ1.out; have HGL := Lib.hid hgl; clear hb1 hgl)
    | (go_at_call 29; (with_reducible refine (HL.out _).mono ?_); rintro e w2 ⟨rfl, hb2⟩; have HB2 := Lib.hid (HB1.out.next hb2); have j0 := (hb2.cell (p := ⟨w.heap.size, 0, none⟩) HGL.out).trans k0; have j1 := (hb2.cell (p := ⟨w.heap.size, 1, none⟩) HGL.out).trans k1; have j2 := (hb2.cell (p := ⟨w.heap.size, 2, none⟩) HGL.out).trans k2; clear hb2)
    | (go_at_call 55; (with_reducible refine (HLV.out _).mono ?_); rintro e w3 ⟨rfl, hb3⟩; have HB3 := Lib.hid (HB2.out.next hb3); clear hb3))
  go_ret
  exact ⟨rfl, HB3.out⟩

set_option maxRecDepth 100000 in
set_option maxHeartbeats 4000000 in
theorem mvs_main (h : Nat) (id root m s : ByteArray) (hh : h ≤ 8) (hids : id.size = 16) (hroots : root.size = 16) (hz : s.size = 564 + h * 16) (hl : leafS s < 2 ^ h) (hm : m.size ≤ 1000000000) (w : World) (hK : Holds w 0 kWords) :
    Calls Tryd.prog 44 #[keyV (h : Int) id root, .string m, .string s] w fun e w' => e = .returned (.bool (decide (upS id root m s h = root))) ∧ Below w.heap.size w w' := by
  obtain ⟨t, ht⟩ : ∃ t, t = 564 + h * 16 := ⟨_, rfl⟩
  have hki : (s.size : Int) = (t : Int) := by omega
  have HSZ : Hid (∀ W : World, Calls Tryd.prog 61 #[.agg #[.int .i64 (h : Int), .string id, .string root]] W fun e w' => e = .returned (.int .i64 (t : Int)) ∧ Below W.heap.size W w') := Lib.hid fun W => by
    rw [ht]
    exact msize_any h hh id root W
  obtain ⟨lf, hlf⟩ : ∃ lf, lf = leafS s := ⟨_, rfl⟩
  have HL : Hid (∀ W : World, Calls Tryd.prog 29 #[.string s] W fun e w' => e = .returned (.tuple #[.int .i64 (lf : Int), .bool true]) ∧ Below W.heap.size W w') := Lib.hid fun W => by
    have := mleaf_any s W
    rw [leafV_long (by omega), ← hlf] at this
    exact this
  have hp := pow_small hh
  obtain ⟨N, hN⟩ : ∃ N, N = 2 ^ h := ⟨_, rfl⟩
  have HLV : Hid (∀ W : World, Calls Tryd.prog 55 #[.agg #[.int .i64 (h : Int), .string id, .string root]] W fun e w' => e = .returned (.int .i64 (N : Int)) ∧ Below W.heap.size W w') := Lib.hid fun W => by
    rw [hN]
    exact mleaves_any h hh id root W
  rw [← hN] at hp
  rw [← hN, ← hlf] at hl
  have dl : decide ((N : Int) ≤ (lf : Int)) = false := by simp; omega
  have dkt : ((t : Int) == (t : Int)) = true := by simp
  obtain ⟨dg, hdg⟩ : ∃ dg, dg = dgM id root lf m := ⟨_, rfl⟩
  have HDG : Hid (∀ W : World, Holds W 0 kWords → Calls Tryd.prog 48 #[.agg #[.int .i64 (h : Int), .string id, .string root], .int .i64 (lf : Int), .string m] W fun e w' => e = .returned (.string dg) ∧ Below W.heap.size W w') := Lib.hid fun W hk => by
    rw [hdg]
    exact mdig_any (h : Int) id root m lf (by omega) (by omega) (by omega) hm W hk
  obtain ⟨x, hx⟩ : ∃ x, x = s.extract 4 564 := ⟨_, rfl⟩
  have hxs : x.size = 560 := by rw [hx, ByteArray.size_extract]; omega
  obtain ⟨z4, hz4⟩ : ∃ z4, z4 = s.extract 4 s.size := ⟨_, rfl⟩
  obtain ⟨t4, ht4⟩ : ∃ t4, t4 = t - 4 := ⟨_, rfl⟩
  have hz4s : (z4.size : Int) = (t4 : Int) := by rw [hz4, ByteArray.size_extract]; omega
  have hex4 : s.extract 4 s.size = z4 := hz4.symm
  have hzx : z4.extract 0 560 = x := by
    rw [hz4, hx]
    apply ByteArray.ext
    simp only [ByteArray.data_extract, Array.extract_extract, Nat.add_zero]
    rw [Nat.min_eq_left (by omega)]
  obtain ⟨sb, hsb⟩ : ∃ sb, sb = s.extract 564 s.size := ⟨_, rfl⟩
  have hexs : s.extract 564 s.size = sb := hsb.symm
  obtain ⟨v0, hv0⟩ : ∃ v0, v0 = upS id root m s 0 := ⟨_, rfl⟩
  have hv0s : v0.size = 16 := by rw [hv0]; exact up_size _ _ _ _ 0
  have HRC : Hid (∀ W : World, Holds W 0 kWords → Calls Tryd.prog 62 #[.string id, .int .i64 (lf : Int), .string dg, .string x] W fun e w' => e = .returned (.tuple #[.string v0, .int .i64 0]) ∧ Below W.heap.size W w') := Lib.hid fun W hk => by
    have h1 := recP id dg x (lf : Int) W hk
    have h2 : recE id (lf : Int) dg x = 0 := by
      unfold recE
      rw [if_pos hids, if_pos (by omega), if_pos (by rw [hdg]; exact dgM_size _ _ _ _), if_pos hxs]
    unfold recV at h1
    rw [if_pos h2] at h1
    have h3 : recS id (lf : Int).toNat (digs dg.data.toList) x = v0 := by rw [Int.toNat_natCast, hv0, up_zero, hdg, hx, hlf]
    rw [h3] at h1
    exact h1
  obtain ⟨u, hu⟩ : ∃ u, u = upS id root m s h := ⟨_, rfl⟩
  have HCL : Hid (∀ W : World, Holds W 0 kWords → Calls Tryd.prog 63 #[.agg #[.int .i64 (h : Int), .string id, .string root], .int .i64 (lf : Int), .string v0, .string sb] W fun e w' => e = .returned (.string u) ∧ Below W.heap.size W w') := Lib.hid fun W hk => by
    have h1 := mclimb_any h id root v0 sb lf hh (by omega) (by omega) (by rw [hsb, ByteArray.size_extract]; omega) (by omega) W hk
    rw [hv0, hsb, hlf, climb_up id root m s h hz, ← hu, ← hv0, ← hsb, ← hlf] at h1
    exact h1
  obtain ⟨B, hB⟩ : ∃ B : Bool, B = decide (u = root) := ⟨_, rfl⟩
  have hbe : (u.toList == root.toList) = B := by rw [beq_strm, hB]
  have HBL := Lib.hid (show (decide (upS id root m s h = root)) = B by rw [hB, hu])
  rw [HBL.out]
  have ht4i : (560 : Int) ≤ (t4 : Int) := by omega
  have ht5 : (564 : Int) ≤ (t : Int) := by omega
  have ht6 : (4 : Int) ≤ (t : Int) := by omega
  obtain ⟨W1, hW1⟩ : ∃ W1, W1 = w.alloc (.cells #[.int .i64 (h : Int), .string id, .string root] 79) := ⟨_, rfl⟩
  have HQ1 : Hid (W1.heap[w.heap.size]? = some (.cells #[.int .i64 (h : Int), .string id, .string root] 79 (0, 0))) := Lib.hid (by rw [hW1]; exact heap_alloc_new w _)
  have HB1 : Hid (Below w.heap.size w W1) := Lib.hid (by rw [hW1]; exact belowNew w _)
  have HK1 : Hid (Holds W1 0 kWords) := Lib.hid (hK.old HB1.out)
  obtain ⟨c0, c1, c2, hgl⟩ := tcell HQ1.out
  have HGL := Lib.hid hgl
  have HW1 := Lib.hid hW1.symm
  unfold keyV
  clear hz hlf hN hdg hx hxs hz4 ht4 hsb hv0 hv0s hu hB hW1 hgl hK ht hids hroots hm hp hh
  go_enter Tryd.func44, Tryd.ntmps44
  go_wp2_with (first
    | (go_at_call 61; rw [HW1.out]; (with_reducible refine (HSZ.out _).mono ?_); rintro e w1 ⟨rfl, hb1⟩; have HB2 := Lib.hid hb1; have HQ2 := Lib.hid ((hb1.block w.heap.size HGL.out).trans HQ1.out); obtain ⟨k0, k1, k2, hgl⟩ := tcell HQ2.out; have HGL2 := Lib.hid hgl; clear hb1 hgl)
    | (go_at_call 29; (with_reducible refine (HL.out _).mono ?_); rintro e w2 ⟨rfl, hb2⟩; have HB3 := Lib.hid (HB2.out.next hb2); have HQ3 := Lib.hid ((hb2.block w.heap.size HGL2.out).trans HQ2.out); obtain ⟨j0, j1, j2, hgl⟩ := tcell HQ3.out; have HGL3 := Lib.hid hgl; clear hb2 hgl k0 k1 k2)
    | (go_at_call 55; (with_reducible refine (HLV.out _).mono ?_); rintro e w3 ⟨rfl, hb3⟩; have HB4 := Lib.hid (HB3.out.next hb3); have HQ4 := Lib.hid ((hb3.block w.heap.size HGL3.out).trans HQ3.out); obtain ⟨i0, i1, i2, hgl⟩ := tcell HQ4.out; have HGL4 := Lib.hid hgl; clear hb3 hgl j0 j1 j2))
  clear dl dkt c0 c1 c2 HB2 HB3 HQ1 HQ2 HQ3 HGL HGL2 HGL3
  go_region
  go_wp2_with fail
  obtain ⟨W5, hW5⟩ : ∃ W5, W5 = w3.drew := ⟨_, rfl⟩
  have HQ5 : Hid (W5.heap[w.heap.size]? = some (.cells #[.int .i64 (h : Int), .string id, .string root] 79 (0, 0))) := Lib.hid (by rw [hW5]; exact HQ4.out)
  have HB5 : Hid (Below W1.heap.size W1 W5) := Lib.hid (by rw [hW5]; exact HB4.out.drew)
  rw [← hW5]
  obtain ⟨d0, d1, d2, hgl⟩ := tcell HQ5.out
  have HGL5 := Lib.hid hgl
  clear hW5 i0 i1 i2 hgl
  go_region_held3 (fun w' => w'.cell? ⟨w.heap.size, 0, none⟩ = some (.int .i64 (h : Int)) ∧ w'.cell? ⟨w.heap.size, 1, none⟩ = some (.string id) ∧ w'.cell? ⟨w.heap.size, 2, none⟩ = some (.string root)) (first | with_reducible exact ⟨by assumption, by assumption, by assumption⟩ | go_keep)
    (first
      | (go_at_call 48; (with_reducible refine (HDG.out _ (HK1.out.old (by first | exact HB5.out | exact HB5.out.drew))).mono ?_); rintro e w6 ⟨rfl, hb6⟩; have hx : Below W5.heap.size W5 w6 := (by first | exact hb6 | exact (Below.refl _ _).drew.trans hb6); have s0 := (hx.cell (p := ⟨w.heap.size, 0, none⟩) HGL5.out).trans d0; have s1 := (hx.cell (p := ⟨w.heap.size, 1, none⟩) HGL5.out).trans d1; have s2 := (hx.cell (p := ⟨w.heap.size, 2, none⟩) HGL5.out).trans d2; have HB6 := Lib.hid hx; clear hb6 hx)
      | (go_at_call 62; (with_reducible refine (HRC.out _ (HK1.out.old (HB5.out.next HB6.out))).mono ?_); rintro e w7 ⟨rfl, hb7⟩; have hx : Below W5.heap.size W5 w7 := HB6.out.next hb7; have s3 := (hx.cell (p := ⟨w.heap.size, 0, none⟩) HGL5.out).trans d0; have s4 := (hx.cell (p := ⟨w.heap.size, 1, none⟩) HGL5.out).trans d1; have s5 := (hx.cell (p := ⟨w.heap.size, 2, none⟩) HGL5.out).trans d2; have HB7 := Lib.hid hx; clear hb7 hx))
  clear s0 s1 s2 s3 s4 s5
  go_wp2_with fail
  obtain ⟨e0, e1, e2, hgl7⟩ := tcell ((HB7.out.block w.heap.size HGL5.out).trans HQ5.out)
  have HGL7 := Lib.hid hgl7
  have HL5 := Lib.hid (Below.refl w7.heap.size w7)
  clear d0 d1 d2 hgl7
  go_region_held3 (fun w' => w'.cell? ⟨w.heap.size, 0, none⟩ = some (.int .i64 (h : Int)) ∧ w'.cell? ⟨w.heap.size, 1, none⟩ = some (.string id) ∧ w'.cell? ⟨w.heap.size, 2, none⟩ = some (.string root)) (first | with_reducible exact ⟨by assumption, by assumption, by assumption⟩ | go_keep)
    (first
      | (go_at_call 63; (with_reducible refine (HCL.out _ (HK1.out.old (by first | exact HB5.out.next HB7.out | exact (HB5.out.next HB7.out).drew))).mono ?_); rintro e w8 ⟨rfl, hb8⟩; have hx : Below w7.heap.size w7 w8 := (by first | exact hb8 | exact HL5.out.drew.trans hb8); have s0 := (hx.cell (p := ⟨w.heap.size, 0, none⟩) HGL7.out).trans e0; have s1 := (hx.cell (p := ⟨w.heap.size, 1, none⟩) HGL7.out).trans e1; have s2 := (hx.cell (p := ⟨w.heap.size, 2, none⟩) HGL7.out).trans e2; have HB8 := Lib.hid hx; clear hb8 hx))
  go_wp2_with fail
  go_ret
  exact ⟨rfl, HB1.out.next ((HB5.out.next HB7.out).next HB8.out)⟩

theorem mvs_any (h : Nat) (id root m s : ByteArray) (hk : keyE (h : Int) id root = 0) (hm : m.size ≤ 1000000000) (hs : s.size ≤ 1000000000) (w : World) (hK : Holds w 0 kWords) :
    Calls Tryd.prog 44 #[keyV (h : Int) id root, .string m, .string s] w fun e w' => e = .returned (.bool (decide (verE (h : Int) id root m s = 0))) ∧ Below w.heap.size w w' := by
  have hv : verE (h : Int) id root m s = if s.size = 564 + h * 16 ∧ leafS s < 2 ^ h ∧ upS id root m s h = root then 0 else 17 := by
    unfold verE
    rw [if_pos hk, Int.toNat_natCast]
  obtain ⟨n, hn, hn8, hi, hr⟩ := keyE_zero hk
  have hh : h ≤ 8 := by omega
  rw [hv]
  by_cases hz : s.size = 564 + h * 16
  · by_cases hl : leafS s < 2 ^ h
    · refine (mvs_main h id root m s hh hi hr hz hl hm w hK).mono fun e w' ⟨he, hb⟩ => ⟨?_, hb⟩
      rw [he]
      by_cases hu : upS id root m s h = root
      · rw [if_pos ⟨hz, hl, hu⟩, decide_eq_true hu]; rfl
      · rw [if_neg (fun h1 => hu h1.2.2), decide_eq_false hu]; rfl
    · rw [if_neg (fun h1 => hl h1.2.1)]
      exact mvs_leaf h id root m s hh hz (Nat.not_lt.1 hl) w
  · rw [if_neg (fun h1 => hz h1.1)]
    exact mvs_len h id root m s hh hz hs w

set_option maxRecDepth 100000 in
set_option maxHeartbeats 1000000 in
theorem mver_any : VerPm := by
  intro h id root m s w hm hs hK
  by_cases hk : keyE h id root = 0
  · obtain ⟨n, rfl, hn8, hi, hr⟩ := keyE_zero hk
    have HC : Hid (∀ W : World, Calls Tryd.prog 43 #[.agg #[.int .i64 (n : Int), .string id, .string root]] W fun e w' => e = .returned (.int .i64 0) ∧ Below W.heap.size W w') := Lib.hid fun W => by
      have := mcheck_any (n : Int) id root W
      rw [hk] at this
      exact this
    obtain ⟨E, hE⟩ : ∃ E, E = verE (n : Int) id root m s := ⟨_, rfl⟩
    have hE2 : E = 0 ∨ E = 17 := by
      rw [hE]
      unfold verE
      rw [if_pos hk]
      split
      · exact .inl rfl
      · exact .inr rfl
    obtain ⟨B, hB⟩ : ∃ B : Bool, B = decide (E = 0) := ⟨_, rfl⟩
    have HVS : Hid (∀ W : World, Holds W 0 kWords → Calls Tryd.prog 44 #[.agg #[.int .i64 (n : Int), .string id, .string root], .string m, .string s] W fun e w' => e = .returned (.bool B) ∧ Below W.heap.size W w') := Lib.hid fun W hk1 => by
      rw [hB, hE]
      exact mvs_any n id root m s hk hm hs W hk1
    have HK := Lib.hid hK
    rw [← hE]
    unfold keyV
    clear hE hk hi hr hm hs hK
    rcases hE2 with rfl | rfl
    · obtain rfl : B = true := hB
      go_enter Tryd.func30, Tryd.ntmps30
      go_wp2_with (first
        | (go_at_call 43; (with_reducible refine (HC.out _).mono ?_); rintro e w1 ⟨rfl, hb1⟩; have HB1 := Lib.hid ((belowNew w _).next hb1); obtain ⟨k0, k1, k2, hgl⟩ := tcell ((hb1.block w.heap.size (by simp)).trans (heap_alloc_new w _)); clear hb1)
        | (go_at_call 44; (with_reducible refine (HVS.out _ (HK.out.old HB1.out)).mono ?_); rintro e w2 ⟨rfl, hb2⟩; have HB2 := Lib.hid (HB1.out.next hb2); clear hb2))
      go_ret
      exact ⟨rfl, HB2.out⟩
    · obtain rfl : B = false := hB
      go_enter Tryd.func30, Tryd.ntmps30
      go_wp2_with (first
        | (go_at_call 43; (with_reducible refine (HC.out _).mono ?_); rintro e w1 ⟨rfl, hb1⟩; have HB1 := Lib.hid ((belowNew w _).next hb1); obtain ⟨k0, k1, k2, hgl⟩ := tcell ((hb1.block w.heap.size (by simp)).trans (heap_alloc_new w _)); clear hb1)
        | (go_at_call 44; (with_reducible refine (HVS.out _ (HK.out.old HB1.out)).mono ?_); rintro e w2 ⟨rfl, hb2⟩; have HB2 := Lib.hid (HB1.out.next hb2); clear hb2))
      go_ret
      exact ⟨rfl, HB2.out⟩
  · have h18 : keyE h id root = 18 := by
      unfold keyE at hk ⊢
      split at hk
      · exact absurd rfl hk
      · rename_i h1
        rw [if_neg h1]
    have hv : verE h id root m s = 18 := by
      unfold verE
      rw [if_neg hk]
    have HC : Hid (∀ W : World, Calls Tryd.prog 43 #[.agg #[.int .i64 h, .string id, .string root]] W fun e w' => e = .returned (.int .i64 18) ∧ Below W.heap.size W w') := Lib.hid fun W => by
      have := mcheck_any h id root W
      rw [h18] at this
      exact this
    rw [hv]
    unfold keyV
    clear hk h18 hv hm hs hK
    go_enter Tryd.func30, Tryd.ntmps30
    go_wp2_with (go_at_call 43; (with_reducible refine (HC.out _).mono ?_); rintro e w1 ⟨rfl, hb1⟩; have HB1 := Lib.hid ((belowNew w _).next hb1); clear hb1)
    go_ret
    exact ⟨rfl, HB1.out⟩
end Go.Proofs.YtphgpakfdhdklaaDoor
