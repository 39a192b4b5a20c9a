/-
  What is wanted of the program's Digits, Public, Sign and Recover, as propositions; and the contract of the law package's sanity check over them.
  The contract of the reference's Public.
  The walk of the law OtsPublic: it returns true.
-/
import Derived.Test.YtbmphhiafepnoaaDoorAai
namespace Go.Proofs.YtbmphhiafepnoaaDoor
open Go.RowKit

/-- Digits of sixteen bytes. -/
def DigP : Prop := ∀ (s : ByteArray) (w : World), s.size = 16 → Calls Tryd.prog 33 #[.string s] w fun e w' => (∃ v, e = .returned (.tuple #[v, .int .i64 0]) ∧ OwnI w' w.heap.size v (digs s.data.toList)) ∧ Below w.heap.size w w'
def PubP : Prop := ∀ (id seed : ByteArray) (leaf : Int) (w : World), Holds w 0 kWords → Calls Tryd.prog 8 #[.string id, .string seed, .int .i64 leaf] w fun e w' => e = .returned (pubV id seed leaf) ∧ Below w.heap.size w w'
def SigP : Prop := ∀ (id seed dg : ByteArray) (leaf : Int) (w : World), Holds w 0 kWords → Calls Tryd.prog 13 #[.string id, .string seed, .int .i64 leaf, .string dg] w fun e w' => e = .returned (sigV id seed leaf dg) ∧ Below w.heap.size w w'
def RecP : Prop := ∀ (id dg s : ByteArray) (leaf : Int) (w : World), Holds w 0 kWords → Calls Tryd.prog 16 #[.string id, .int .i64 leaf, .string dg, .string s] w fun e w' => e = .returned (recV id leaf dg s) ∧ Below w.heap.size w w'

set_option maxRecDepth 100000 in
set_option maxHeartbeats 1000000 in
theorem awakeq_any (hP : DigP) (w : World) :
    Calls Tryd.prog 12 #[] w fun e w' => e = .returned (.bool true) ∧ Below w.heap.size w w' := by
  obtain ⟨i0, hi, hz0, hz1, hz2⟩ := info_parts (show (Tryd.prog.info? 5).map (fun i => (i.zero, i.size, i.bytes)) = some (some (.int .u8 0), 1, 1) by kernel_rfl)
  obtain ⟨Z, hZ⟩ : ∃ Z, Z = strOf (List.replicate 16 0) := ⟨_, rfl⟩
  obtain ⟨D, hD⟩ : ∃ D, D = digs (List.replicate 16 0) := ⟨_, rfl⟩
  have hDz : D = List.replicate 32 0 ++ [1, 14, 0] := hD.trans digs_zero
  have HDZ := Lib.hid hDz
  have HDP : Hid (∀ W : World, Calls Tryd.prog 33 #[.string Z] W fun e w' => (∃ v, e = .returned (.tuple #[v, .int .i64 0]) ∧ OwnI w' W.heap.size v D) ∧ Below W.heap.size W w') := Lib.hid fun W => by
    rw [hZ, hD]
    exact hP _ W rfl
  have HZ := Lib.hid hZ
  clear hZ hD hDz
  go_enter Tryd.func12, Tryd.ntmps12
  go_wp2_with (first | (at_make; refine wpList_make_full _ rfl _ _ 51 rfl w.heap.size 5 i0 (.int .u8 0) 1 Tryd.underlying51 hi hz0 hz1 .i64 .i64 16 16 16 rfl rfl (by omega) (by omega) (by rw [hz2]; omega) (by unfold maxLen; omega) (by simp) ?_; intro w1 hown1 hgr1; have ho1 : OwnB 5 w1 w.heap.size _ (List.replicate 16 0) := (tail_made 7 hown1); have hcv := own_str ho1; rw [← HZ.out] at hcv; have HB1 := Lib.hid ((Below.refl w.heap.size w).grown hgr1 (Nat.le_refl _) (fun _ e => by cases e)); clear ho1 hown1 hgr1) | (go_at_call 33; (with_reducible refine (HDP.out _).mono ?_); rintro e w2 ⟨⟨v, rfl, ho2⟩, hb2⟩; obtain ⟨gd, cd, rfl, hgB, hIL, hcd⟩ := ho2.open (by rw [HDZ.out]; simp); have hl35 : D.length = 35 := (by rw [HDZ.out]; rfl); rw [hl35]; have hc0 : w2.cell? ⟨gd, 0, none⟩ = some (.int .i64 0) := ((hIL.cell 0 (by omega)).trans (by rw [HDZ.out]; rfl)); have hc32 : w2.cell? ⟨gd, 32, none⟩ = some (.int .i64 1) := ((hIL.cell 32 (by omega)).trans (by rw [HDZ.out]; rfl)); have hc33 : w2.cell? ⟨gd, 33, none⟩ = some (.int .i64 14) := ((hIL.cell 33 (by omega)).trans (by rw [HDZ.out]; rfl)); have hc34 : w2.cell? ⟨gd, 34, none⟩ = some (.int .i64 0) := ((hIL.cell 34 (by omega)).trans (by rw [HDZ.out]; rfl)); have HB2 := Lib.hid (HB1.out.next hb2); clear hb2 ho2 hIL))
  go_ret
  exact ⟨rfl, HB2.out⟩
theorem chk_ok (k leaf : Nat) (hl : leaf < 256) : chkQ (idS k) (seedS k) (leaf : Int) = 0 := by
  unfold chkQ
  rw [if_pos ⟨idS_size k, seedS_size k⟩, if_pos (by omega)]
theorem pub_ok (k leaf : Nat) (hl : leaf < 256) : pubV (idS k) (seedS k) (leaf : Int) = someV (pubS (idS k) (seedS k) leaf) := by
  unfold pubV
  rw [if_pos (chk_ok k leaf hl)]
  rfl
theorem sig_ok (k leaf : Nat) (hl : leaf < 256) (s : ByteArray) : sigV (idS k) (seedS k) (leaf : Int) (dgS s) = someV (sigS (idS k) (seedS k) leaf (digs (dgS s).data.toList)) := by
  have h : sigE (idS k) (seedS k) (leaf : Int) (dgS s) = 0 := by
    unfold sigE
    rw [if_pos (chk_ok k leaf hl), if_pos (dgS_size s)]
  unfold sigV
  rw [if_pos h]
  rfl
theorem rec_ok (k leaf : Nat) (hl : leaf < 256) (t s : ByteArray) (hs : s.size = 560) : recV (idS k) (leaf : Int) (dgS t) s = someV (recS (idS k) leaf (digs (dgS t).data.toList) s) := by
  have h : recE (idS k) (leaf : Int) (dgS t) s = 0 := by
    unfold recE
    rw [if_pos (idS_size k), if_pos (by omega), if_pos (dgS_size t), if_pos hs]
  unfold recV
  rw [if_pos h]
  rfl
/-- What a key's Public returns for a number that may lie out of range. -/
theorem pub_raw (k : Nat) (raw : Int) : ∃ (s : ByteArray) (n : Nat), pubV (idS k) (seedS k) raw = .tuple #[.string s, .int .i64 (n : Int)] ∧ (n = 0 ↔ 0 ≤ raw ∧ raw < 256) := by
  by_cases h : 0 ≤ raw ∧ raw < 256
  · obtain ⟨m, rfl⟩ : ∃ m : Nat, raw = (m : Int) := ⟨raw.toNat, by omega⟩
    exact ⟨_, 0, pub_ok k m (by omega), by simp; omega⟩
  · have h1 : chkQ (idS k) (seedS k) raw = 1 := by
      unfold chkQ
      rw [if_pos ⟨idS_size k, seedS_size k⟩, if_neg h]
    refine ⟨⟨#[]⟩, 1, ?_, by simp; omega⟩
    unfold pubV
    rw [h1, if_neg (by decide)]
    rfl
end Go.Proofs.YtbmphhiafepnoaaDoor
namespace Go.Proofs.YtbmphhiafepnoaaDoor
open Go.RowKit

set_option maxRecDepth 100000 in
set_option maxHeartbeats 2000000 in
theorem rpub_ok (id seed : ByteArray) (leaf : Nat) (h0 : chkQ id seed (leaf : Int) = 0) (w : World) :
    Calls Tryd.prog 11 #[.string id, .string seed, .int .i64 (leaf : Int)] w fun e w' => e = .returned (someV (pubS id seed leaf)) ∧ Below w.heap.size w w' := by
  obtain ⟨hi, hs, n, hn, hlt⟩ := chkQ_zero h0
  have hl : leaf < 256 := by omega
  clear hn hlt n
  have HI := Lib.hid hi
  have HS := Lib.hid hs
  have HL := Lib.hid hl
  have HCK : Hid (∀ W : World, Calls Tryd.prog 30 #[.string id, .string seed, .int .i64 (leaf : Int)] W fun e w' => e = .returned (.int .i64 0) ∧ Below W.heap.size W w') := Lib.hid fun W => by
    have := rchkq_any id seed (leaf : Int) W
    rw [h0] at this
    exact this
  clear hi hs hl h0
  go_enter Tryd.func11, Tryd.ntmps11
  go_wp2_with (first | (go_at_call 30; (with_reducible refine (HCK.out _).mono ?_); rintro e w1 ⟨rfl, hb1⟩; have HB1 := Lib.hid hb1; clear hb1))
  go_loopw [9, 10] (fun t i wr => ∃ k : Nat, k ≤ 35 ∧ i = .int .i64 (k : Int) ∧ t = .string (rowB (fun c => valS id seed leaf c 15) k) ∧ Below w.heap.size w wr) (fun _ i _ => 35 - (intOf i).toNat)
  case atStart => exact ⟨0, by decide, rfl, rfl, HB1.out⟩
  case round =>
    obtain ⟨k, hk, rfl, rfl, hb⟩ := hrel
    have HB := Lib.hid hb
    clear hb
    have hsz : (rowB (fun c => valS id seed leaf c 15) k).size = k * 16 := rowB_size (fun _ => valS_size _ _ _ _ _) k
    by_cases hlt : k < 35
    · have hd : decide ((k : Int) < 35) = true := by simp; omega
      have HR : Hid (rowB (fun c => valS id seed leaf c 15) (k + 1) = rowB (fun c => valS id seed leaf c 15) k ++ valS id seed leaf k 15) := Lib.hid rfl
      obtain ⟨u, hu⟩ : ∃ u, u = valS id seed leaf k 15 := ⟨_, rfl⟩
      have husz : u.size = 16 := by rw [hu]; exact valS_size _ _ _ _ _
      obtain ⟨r, hr⟩ : ∃ r, r = rowB (fun c => valS id seed leaf c 15) k := ⟨_, rfl⟩
      rw [← hu, ← hr] at HR
      rw [← hr] at hsz ⊢
      obtain ⟨sv, hsv⟩ : ∃ sv, sv = secS seed leaf k := ⟨_, rfl⟩
      have HSC : Hid (∀ W : World, Calls Tryd.prog 32 #[.string seed, .int .i64 (leaf : Int), .int .i64 (k : Int)] W fun e w' => e = .returned (.string sv) ∧ Below W.heap.size W w') := Lib.hid fun W => by
        rw [hsv]
        exact rsec_any seed leaf k (by rw [HS.out]; omega) (by have := HL.out; omega) (by omega) W
      have HWK : Hid (∀ W : World, Calls Tryd.prog 31 #[.string id, .int .i64 (leaf : Int), .int .i64 (k : Int), .int .i64 0, .int .i64 15, .string sv] W fun e w' => e = .returned (.string u) ∧ Below W.heap.size W w') := Lib.hid fun W => by
        rw [hu, hsv]
        exact rwalk_any id (secS seed leaf k) leaf k 0 15 (by rw [HI.out]; omega) (by rw [secS_size]; omega) (by have := HL.out; omega) (by omega) (by omega) (by omega) W
      clear hu hr hsv
      have hsum : ((r.size : Nat) : Int) + ((u.size : Nat) : Int) ≤ 9223372036854775807 := by rw [hsz, husz]; omega
      go_wp2_with (first | (go_at_call 32; (with_reducible refine (HSC.out _).mono ?_); rintro e w2 ⟨rfl, hb2⟩; have HB2 := Lib.hid (HB.out.next hb2); clear hb2) | (go_at_call 31; (with_reducible refine (HWK.out _).mono ?_); rintro e w3 ⟨rfl, hb3⟩; have HB3 := Lib.hid (HB2.out.next hb3); clear hb3))
      go_roundw
      case rel => exact ⟨k + 1, by omega, by go_num, by rw [HR.out], HB3.out⟩
      case measure => simp [intOf]; omega
    · have hk35 : k = 35 := by omega
      subst hk35
      have hd : decide ((35 : Int) < 35) = false := by decide
      obtain ⟨r, hr⟩ : ∃ r, r = rowB (fun c => valS id seed leaf c 15) 35 := ⟨_, rfl⟩
      have HP : Hid (keySq id leaf r = pubS id seed leaf) := Lib.hid (by rw [hr]; rfl)
      rw [← hr] at hsz ⊢
      have HSZ := Lib.hid hsz
      clear hr hsz
      have HKY : ∀ (V : Value) (W : World), Reads_z W V [⟨#[76]⟩, id, strOf (b4 leaf), r] → Calls Tryd.prog 27 #[V] W fun e w' => e = .returned (.string (keySq id leaf r)) ∧ Below W.heap.size W w' := fun V W h => by
        rw [← keyS_eq]
        exact refshort_any V _ W h (show (4 : Nat) < 4611686018427387904 by decide) (key_room (by rw [HI.out]; omega) (by rw [HSZ.out]; omega) leaf)
      have HKY := Lib.hid HKY
      go_wp2_with (first | (go_at_call 29; (with_reducible refine (rb4_any leaf (by have := HL.out; omega) _).mono ?_); rintro e w4 ⟨rfl, hb4⟩; have HB4 := Lib.hid (HB.out.next hb4); clear hb4) | (go_at_call 27; refine (HKY.out _ _ (reads_row _ [⟨#[76]⟩, id, strOf (b4 leaf), r] 9)).mono ?_; rintro e w5 ⟨rfl, hb5⟩; have HB5 := Lib.hid ((HB4.out.alloc HB4.out.size _).next hb5); clear hb5))
      go_ret2
      rw [← HP.out]
      exact ⟨rfl, HB5.out⟩
set_option maxRecDepth 100000 in
set_option maxHeartbeats 1000000 in
theorem rpub_bad (id seed : ByteArray) (leaf : Int) (n : Nat) (hn : chkQ id seed leaf = n) (h0 : n ≠ 0) (w : World) :
    Calls Tryd.prog 11 #[.string id, .string seed, .int .i64 leaf] w fun e w' => e = .returned (noneV n) ∧ Below w.heap.size w w' := by
  have HCK : Hid (∀ W : World, Calls Tryd.prog 30 #[.string id, .string seed, .int .i64 leaf] W fun e w' => e = .returned (.int .i64 (n : Int)) ∧ Below W.heap.size W w') := Lib.hid fun W => by
    have := rchkq_any id seed leaf W
    rw [hn] at this
    exact this
  have d1 : ((n : Int) == 0) = false := by simp; omega
  clear hn
  go_enter Tryd.func11, Tryd.ntmps11
  go_wp2_with (first | (go_at_call 30; (with_reducible refine (HCK.out _).mono ?_); rintro e w1 ⟨rfl, hb1⟩; have HB1 := Lib.hid hb1; clear hb1))
  go_ret2
  exact ⟨rfl, HB1.out⟩
theorem rpub_any (id seed : ByteArray) (leaf : Int) (w : World) :
    Calls Tryd.prog 11 #[.string id, .string seed, .int .i64 leaf] w fun e w' => e = .returned (pubV id seed leaf) ∧ Below w.heap.size w w' := by
  unfold pubV
  by_cases h : chkQ id seed leaf = 0
  · rw [if_pos h]
    obtain ⟨_, _, n, rfl, _⟩ := chkQ_zero h
    exact rpub_ok id seed n h w
  · rw [if_neg h]
    exact rpub_bad id seed leaf _ rfl h w
end Go.Proofs.YtbmphhiafepnoaaDoor
namespace Go.Proofs.YtbmphhiafepnoaaDoor
open Go.RowKit

set_option maxRecDepth 100000 in
set_option maxHeartbeats 2000000 in
theorem publaw (hD : DigP) (hP : PubP) (k leaf : Nat) (hk : k < 256) (hl : leaf < 256) (raw : Int) (w : World) (hK : Holds w 0 kWords) :
    Calls Tryd.prog 3 #[.int .u8 (k : Int), .int .u8 (leaf : Int), .int .i64 raw] w fun e w' => e = .returned (.bool true) ∧ Below w.heap.size w w' := by
  have HK := Lib.hid hK
  have HAW := Lib.hid (awakeq_any hD)
  have HZ : Hid (Below w.heap.size w w) := Lib.hid (Below.refl w.heap.size w)
  obtain ⟨T, n, hT, hn⟩ := pub_raw k raw
  obtain ⟨I, hI⟩ : ∃ I, I = idS k := ⟨_, rfl⟩
  obtain ⟨E, hE⟩ : ∃ E, E = seedS k := ⟨_, rfl⟩
  obtain ⟨S, hSg⟩ : ∃ S, S = pubS (idS k) (seedS k) leaf := ⟨_, rfl⟩
  have hV : pubV I E (leaf : Int) = .tuple #[.string S, .int .i64 0] := by rw [hI, hE, hSg]; exact pub_ok k leaf hl
  rw [← hI, ← hE] at hT
  have HI : Hid (∀ W : World, Calls Tryd.prog 9 #[.int .u8 (k : Int)] W fun e w' => e = .returned (.string I) ∧ Below W.heap.size W w') := Lib.hid fun W => by rw [hI]; exact idq_any k hk W
  have HE : Hid (∀ W : World, Calls Tryd.prog 10 #[.int .i64 (k : Int)] W fun e w' => e = .returned (.string E) ∧ Below W.heap.size W w') := Lib.hid fun W => by rw [hE]; exact seedq_any k (by omega) W
  have HP : Hid (∀ W : World, Holds W 0 kWords → Calls Tryd.prog 8 #[.string I, .string E, .int .i64 (leaf : Int)] W fun e w' => e = .returned (.tuple #[.string S, .int .i64 0]) ∧ Below W.heap.size W w') := Lib.hid fun W h => by rw [← hV]; exact hP I E (leaf : Int) W h
  have HR : Hid (∀ W : World, Calls Tryd.prog 11 #[.string I, .string E, .int .i64 (leaf : Int)] W fun e w' => e = .returned (.tuple #[.string S, .int .i64 0]) ∧ Below W.heap.size W w') := Lib.hid fun W => by rw [← hV]; exact rpub_any I E (leaf : Int) W
  have HT : Hid (∀ W : World, Holds W 0 kWords → Calls Tryd.prog 8 #[.string I, .string E, .int .i64 raw] W fun e w' => e = .returned (.tuple #[.string T, .int .i64 (n : Int)]) ∧ Below W.heap.size W w') := Lib.hid fun W h => by rw [← hT]; exact hP I E raw W h
  clear hI hE hSg hV hT
  by_cases hn0 : n = 0
  · have hr := hn.1 hn0
    subst hn0
    have d1 : decide (0 ≤ raw) = true := by simp; omega
    have d2 : decide (raw < 256) = true := by simp; omega
    clear hn
    go_enter Tryd.func3, Tryd.ntmps3
    go_wp2_with (first | (go_at_call 9; (with_reducible refine (HI.out _).mono ?_); rintro e w1 ⟨rfl, hb1⟩; have HZ := Lib.hid (HZ.out.next hb1); clear hb1) | (go_at_call 10; (with_reducible refine (HE.out _).mono ?_); rintro e w2 ⟨rfl, hb2⟩; have HZ := Lib.hid (HZ.out.next hb2); clear hb2) | (go_at_call 8; (with_reducible refine (HP.out _ (HK.out.old HZ.out)).mono ?_); rintro e w3 ⟨rfl, hb3⟩; have HZ := Lib.hid (HZ.out.next hb3); clear hb3) | (go_at_call 8; (with_reducible refine (HT.out _ (HK.out.old HZ.out)).mono ?_); rintro e w4 ⟨rfl, hb4⟩; have HZ := Lib.hid (HZ.out.next hb4); clear hb4) | (go_at_call 11; (with_reducible refine (HR.out _).mono ?_); rintro e w5 ⟨rfl, hb5⟩; have HZ := Lib.hid (HZ.out.next hb5); clear hb5) | (go_at_call 12; (with_reducible refine (HAW.out _).mono ?_); rintro e w6 ⟨rfl, hb6⟩; have HZ := Lib.hid (HZ.out.next hb6); clear hb6))
    go_ret
    exact ⟨rfl, HZ.out⟩
  · have e1 : ((n : Int) == 0) = false := by simp; omega
    by_cases h1 : 0 ≤ raw
    · have d1 : decide (0 ≤ raw) = true := by simp; omega
      have d2 : decide (raw < 256) = false := by simp; have := fun h => hn0 (hn.2 h); omega
      clear hn
      go_enter Tryd.func3, Tryd.ntmps3
      go_wp2_with (first | (go_at_call 9; (with_reducible refine (HI.out _).mono ?_); rintro e w1 ⟨rfl, hb1⟩; have HZ := Lib.hid (HZ.out.next hb1); clear hb1) | (go_at_call 10; (with_reducible refine (HE.out _).mono ?_); rintro e w2 ⟨rfl, hb2⟩; have HZ := Lib.hid (HZ.out.next hb2); clear hb2) | (go_at_call 8; (with_reducible refine (HP.out _ (HK.out.old HZ.out)).mono ?_); rintro e w3 ⟨rfl, hb3⟩; have HZ := Lib.hid (HZ.out.next hb3); clear hb3) | (go_at_call 8; (with_reducible refine (HT.out _ (HK.out.old HZ.out)).mono ?_); rintro e w4 ⟨rfl, hb4⟩; have HZ := Lib.hid (HZ.out.next hb4); clear hb4) | (go_at_call 11; (with_reducible refine (HR.out _).mono ?_); rintro e w5 ⟨rfl, hb5⟩; have HZ := Lib.hid (HZ.out.next hb5); clear hb5) | (go_at_call 12; (with_reducible refine (HAW.out _).mono ?_); rintro e w6 ⟨rfl, hb6⟩; have HZ := Lib.hid (HZ.out.next hb6); clear hb6))
      go_ret
      exact ⟨rfl, HZ.out⟩
    · have d1 : decide (0 ≤ raw) = false := by simp; omega
      clear hn
      go_enter Tryd.func3, Tryd.ntmps3
      go_wp2_with (first | (go_at_call 9; (with_reducible refine (HI.out _).mono ?_); rintro e w1 ⟨rfl, hb1⟩; have HZ := Lib.hid (HZ.out.next hb1); clear hb1) | (go_at_call 10; (with_reducible refine (HE.out _).mono ?_); rintro e w2 ⟨rfl, hb2⟩; have HZ := Lib.hid (HZ.out.next hb2); clear hb2) | (go_at_call 8; (with_reducible refine (HP.out _ (HK.out.old HZ.out)).mono ?_); rintro e w3 ⟨rfl, hb3⟩; have HZ := Lib.hid (HZ.out.next hb3); clear hb3) | (go_at_call 8; (with_reducible refine (HT.out _ (HK.out.old HZ.out)).mono ?_); rintro e w4 ⟨rfl, hb4⟩; have HZ := Lib.hid (HZ.out.next hb4); clear hb4) | (go_at_call 11; (with_reducible refine (HR.out _).mono ?_); rintro e w5 ⟨rfl, hb5⟩; have HZ := Lib.hid (HZ.out.next hb5); clear hb5) | (go_at_call 12; (with_reducible refine (HAW.out _).mono ?_); rintro e w6 ⟨rfl, hb6⟩; have HZ := Lib.hid (HZ.out.next hb6); clear hb6))
      go_ret
      exact ⟨rfl, HZ.out⟩
end Go.Proofs.YtbmphhiafepnoaaDoor
