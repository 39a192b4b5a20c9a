/-
  The walk of the law SignerPlays, over what is wanted of the program's signers.
-/
import Derived.Test.YtphgpakfdhdklaaDoorAaq
import Derived.Test.YtphgpakfdhdklaaDoorAai
import Derived.Test.YtphgpakfdhdklaaDoorAar
import Derived.Deep.RegionLaw
import Derived.Deep.CutBlock
import Derived.Deep.CutRange
namespace Go.Proofs.YtphgpakfdhdklaaDoor
open Go.RowKit

theorem next5v (p : Nat) (a : Option Addr) (cap : Nat) (zs : List Int) (k : Nat) (w : World) (h : DeckAt w p a cap zs k) (hk2 : k < 30000) :
    Calls Tryd.prog 13 #[.pointer (some ⟨p, 0, none⟩), .int .i64 5] w fun e w' => ∃ r k' : Nat, r < 5 ∧ e = .returned (.int .i64 (r : Int)) ∧ DeckAt w' p a cap zs k' ∧ k' ≤ k + 1 ∧ But p w w' :=
  next_any p a cap zs k 5 w h hk2 (by omega) (by omega)
theorem skip_num (r n N : Nat) (hn : n ≤ N) : max (0 : Int) (min ((r : Int) - 1) ((N : Int) - (n : Int))) = ((min ((r : Int) - 1).toNat (N - n) : Nat) : Int) := by omega

set_option maxRecDepth 100000 in
set_option maxHeartbeats 8000000 in
theorem ply_any {SA : SignP} (hS : Signers SA) (k x : Nat) (a : Option Addr) (cap : Nat) (zs : List Int) (hk : k < 256) (w : World) (hK : Holds w 0 kWords) (hli : ILies w a zs) (hz : zs.length ≤ 9223372036854775807) :
    Calls Tryd.prog 3 #[.int .u8 (k : Int), .int .u8 (x : Int), .slice a zs.length cap] w fun e w' => e = .returned (.bool true) ∧ Below w.heap.size w w' := by
  obtain ⟨h, hx⟩ : ∃ h, h = x % 3 := ⟨_, rfl⟩
  have hxi : (x : Int) % 3 = (h : Int) := by omega
  have hh : h ≤ 8 := by omega
  obtain ⟨S, hSS⟩ : ∃ S, S = seedS k := ⟨_, rfl⟩
  have hSs : S.size = 32 := by rw [hSS]; exact seedS_size k
  obtain ⟨N, hN⟩ : ∃ N, N = 2 ^ h := ⟨_, rfl⟩
  have hN1 : 1 ≤ N ∧ N ≤ 256 := by rw [hN]; exact ⟨(pow_small hh).2, (pow_small hh).1⟩
  obtain ⟨ID, hID⟩ : ∃ ID, ID = idT S := ⟨_, rfl⟩
  obtain ⟨R, hR⟩ : ∃ R, R = rootS S h := ⟨_, rfl⟩
  have HSD : Hid (∀ W : World, Calls Tryd.prog 10 #[.int .i64 (k : Int)] W fun e w' => e = .returned (.string S) ∧ Below W.heap.size W w') := Lib.hid fun W => by rw [hSS]; exact seedq_any k (by omega) W
  have HTR : Hid (∀ W : World, Calls Tryd.prog 8 #[.int .i64 (k : Int), .int .i64 (h : Int)] W fun e w' => (∃ v, e = .returned v ∧ TreeV w' v S h) ∧ Below W.heap.size W w') := Lib.hid fun W => by rw [hSS]; exact treeq_any k h (by omega) hh W
  have HNW : Hid (∀ W : World, Holds W 0 kWords → Calls Tryd.prog 9 #[.string S, .int .i64 (h : Int)] W fun e w' => (∃ p, W.heap.size ≤ p ∧ e = .returned (.tuple #[.pointer (some ⟨p, 0, none⟩), .int .i64 0]) ∧ SA w' p S h 0) ∧ Below W.heap.size W w') := Lib.hid fun W hk => hS.new S h W hSs hh hk
  have HAW := Lib.hid (fun W hk => awakev_any hS W hk)
  have HKY : Hid (∀ (p j : Nat) (W : World), SA W p S h j → Calls Tryd.prog 23 #[.pointer (some ⟨p, 0, none⟩)] W fun e w' => e = .returned (.agg #[.int .i64 (h : Int), .string ID, .string R]) ∧ Below W.heap.size W w') := Lib.hid fun p j W ht => by
    have := hS.key p S h j W ht
    unfold keyV at this
    rw [← hID, ← hR] at this
    exact this
  have HKO : Hid (∀ (v : Value) (W : World), TreeV W v S h → Calls Tryd.prog 24 #[v] W fun e w' => e = .returned (.agg #[.int .i64 (h : Int), .string ID, .string R]) ∧ Below W.heap.size W w') := Lib.hid fun v W ht => by
    have := rkeyof_any v S h hh W ht
    unfold keyV at this
    rw [← hID, ← hR] at this
    exact this
  have HST : Hid (∀ (n : Nat) (m : ByteArray) (v : Value) (W : World), n < N → m.size ≤ 1000 → TreeV W v S h → Calls Tryd.prog 15 #[v, .int .i64 (n : Int), .string m] W fun e w' => e = .returned (.tuple #[.string (sigT S h n m), .int .i64 0]) ∧ Below W.heap.size W w') := Lib.hid fun n m v W hn hm ht => rsgnt_ok v S h n m hSs hh (by rw [← hN]; exact hn) (by omega) W ht
  have HRS : Hid (∀ (n : Nat) (W : World), n ≤ N → Calls Tryd.prog 19 #[.string S, .int .i64 (h : Int), .int .i64 (n : Int)] W fun e w' => e = .returned (.string (saveS S h n)) ∧ Below W.heap.size W w') := Lib.hid fun n W hn => rsave_any S h n (by omega) (by omega) (by omega) W
  obtain ⟨z, hzz⟩ : ∃ z, z = zs.length := ⟨_, rfl⟩
  have HND : Hid (∀ W : World, ILies W a zs → Calls Tryd.prog 11 #[.slice a z cap] W fun e w' => e = .returned (.pointer (some ⟨W.heap.size, 0, none⟩)) ∧ DeckAt w' W.heap.size a cap zs 0 ∧ Below W.heap.size W w') := Lib.hid fun W hl => by rw [hzz]; exact new_any a cap zs W hl hz
  have HHS := Lib.hid hS
  have HK := Lib.hid hK
  have HLI := Lib.hid hli
  have HX := Lib.hid (ilies_ltv hli)
  have HSs := Lib.hid hSs
  have HH := Lib.hid hh
  have HN := Lib.hid hN
  have HN1 := Lib.hid hN1
  have hkw : IntKind.i64.wrap (k : Int) = (k : Int) := by rw [wrap_i64]; omega
  have HW1 := Lib.hid (wrap_pow hh hN)
  have HW2 := Lib.hid (wrap_pow2v hh hN)
  rw [← hzz]
  clear hSS hSs hN hx hzz hz hK hli hS hID hR hN1
  go_enter Tryd.func3, Tryd.ntmps3
  go_wp2_with (first
    | (go_at_call 8; (with_reducible refine (HTR.out _).mono ?_); rintro e w1 ⟨⟨v, rfl, hv⟩, hb1⟩; have HV1 := Lib.hid hv; obtain ⟨b, o, c, rfl, _, _, _⟩ := hv.open; have HB1 := Lib.hid hb1; clear hb1 hv)
    | (go_at_call 10
       obtain ⟨nt, hnt⟩ : ∃ nt, nt = h + 1 := ⟨_, rfl⟩
       rw [← hnt] at HV1 ⊢
       clear hnt
       obtain ⟨T, hT⟩ : ∃ T, T = w1.heap.size := ⟨_, rfl⟩
       obtain ⟨W2, hW2⟩ : ∃ W2, W2 = w1.alloc (.cells #[.string S, .string (idT S), .slice (some ⟨b, o, none⟩) nt c] 25) := ⟨_, rfl⟩
       rw [← hW2, ← hT]
       have HQ2 : Hid (W2.heap[T]? = some (.cells #[.string S, .string (idT S), .slice (some ⟨b, o, none⟩) nt c] 25 (0, 0))) := Lib.hid (by rw [hW2, hT]; exact heap_alloc_new w1 _)
       have HB2 : Hid (Below w.heap.size w W2) := Lib.hid (by rw [hW2]; exact HB1.out.next (belowNew w1 _))
       have HV2 : Hid (TreeV W2 (.agg #[.string S, .string (idT S), .slice (some ⟨b, o, none⟩) nt c]) S h) := Lib.hid (by rw [hW2]; exact HV1.out.below (belowNew w1 _))
       have HTL : Hid (T < W2.heap.size) := Lib.hid (Array.getElem?_eq_some_iff.1 HQ2.out).1
       clear hW2 hT
       (with_reducible refine (HSD.out _).mono ?_)
       rintro e w3 ⟨rfl, hb3⟩
       have HB3 := Lib.hid hb3
       clear hb3)
    | (go_at_call 9; (with_reducible refine (HNW.out _ (HK.out.old (HB2.out.next HB3.out))).mono ?_); rintro e w4 ⟨⟨p0, hp0, rfl, ht⟩, hb4⟩; have HB4 := Lib.hid (HB3.out.next hb4); have HT4 := Lib.hid ht; have HP0 := Lib.hid (Nat.le_trans HB3.out.size hp0); clear hb4 ht hp0)
    | (go_at_call 11; (with_reducible refine (HND.out _ (HLI.out.below (HB2.out.next HB4.out) HX.out)).mono ?_); rintro e w5 ⟨rfl, hd5, hb5⟩; have HB5 := Lib.hid (HB4.out.next hb5); have HD5 := Lib.hid hd5; have HT5 := Lib.hid (HHS.out.keep _ _ _ _ _ _ HT4.out hb5); clear hb5 hd5))
  obtain ⟨dp, hdp⟩ : ∃ dp, dp = w4.heap.size := ⟨_, rfl⟩
  rw [← hdp] at HD5 ⊢
  have HR5 : Hid (Run SA W2 w5 dp a cap zs 0 p0 S h 0) := Lib.hid ⟨HB5.out, HT5.out, HD5.out, HP0.out, by rw [hdp]; exact HB4.out.size, fun x e hz => Nat.lt_of_lt_of_le (HX.out x e hz) HB2.out.size⟩
  have HK2 : Hid (Holds W2 0 kWords) := Lib.hid (HK.out.old HB2.out)
  have HHW := HHS
  clear hdp
  go_loopw [9, 12, 13] (fun sv nv i wr => ∃ (j p n k : Nat), j ≤ 8 ∧ i = .int .i64 (j : Int) ∧ sv = .pointer (some ⟨p, 0, none⟩) ∧ nv = .int .i64 (n : Int) ∧ Run SA W2 wr dp a cap zs k p S h n ∧ k ≤ 8 * j) (fun _ _ i _ => 8 - (intOf i).toNat)
  case atStart => exact ⟨0, p0, 0, 0, by omega, rfl, rfl, rfl, HR5.out, by omega⟩
  case round =>
    obtain ⟨j, p, n, kd, hj, rfl, rfl, rfl, hr, hkd⟩ := hrel
    have HR := Lib.hid hr
    have hfit := HHS.out.fit _ _ _ _ _ hr.sa
    have hnN : n ≤ N := by rw [HN.out]; exact hfit.2.2
    have hn256 : n ≤ 256 := by have := HN1.out; omega
    clear hr hfit
    obtain ⟨BL, hBL⟩ : ∃ BL : Bool, BL = decide (kd < zs.length) := ⟨_, rfl⟩
    have HLF : Hid (∀ W : World, DeckAt W dp a cap zs kd → Calls Tryd.prog 12 #[.pointer (some ⟨dp, 0, none⟩)] W fun e w' => e = .returned (.bool BL) ∧ Below W.heap.size W w') := Lib.hid fun W hd => by rw [hBL]; exact left_any dp a cap zs kd W hd
    clear hBL
    have HKD := Lib.hid hkd
    by_cases hlt : j < 8
    · have hd : decide ((j : Int) < 8) = true := by simp; omega
      have HLJ := Lib.hid hlt
      cases BL with
      | false =>
        go_wp2_with (first
          | (go_at_call 12; (with_reducible refine (HLF.out _ HR.out.dk).mono ?_); rintro e w6 ⟨rfl, hb6⟩; have HR6 := Lib.hid (HR.out.read HHS.out hb6); clear hb6)
          | (go_at_call 25; (with_reducible refine (HAW.out _ (HR6.out.holds HK2.out)).mono ?_); rintro e w7 ⟨rfl, hb7⟩; have HB7 := Lib.hid (HB2.out.next (HR6.out.bel.next hb7)); clear hb7))
        go_ret
        exact ⟨rfl, HB7.out⟩
      | true =>
        go_upto_block 2 with (first
          | (go_at_call 12
             (with_reducible refine (HLF.out _ HR.out.dk).mono ?_)
             rintro e w6 ⟨rfl, hb6⟩
             have HR6 := Lib.hid (HR.out.read HHS.out hb6)
             clear hb6)
          | (go_at_call 13
             (with_reducible refine (next5v dp a cap zs _ _ HR6.out.dk (by have := HKD.out; omega)).mono ?_)
             rintro e w7 ⟨r, k7, hr, rfl, hd7, hk7, hb7⟩
             have HR7 := Lib.hid (HR6.out.deck HHS.out hd7 hb7)
             have HK7 := Lib.hid (show k7 ≤ 8 * j + 1 by have := HKD.out; omega)
             clear hd7 hk7 hb7))
        go_cut [9, 12] from 47 to 170 (fun s9 s12 wx => ∃ (p' n' k' : Nat), s9 = .pointer (some ⟨p', 0, none⟩) ∧ s12 = .int .i64 (n' : Int) ∧ Run SA W2 wx dp a cap zs k' p' S h n' ∧ k' ≤ 8 * (j + 1) ∧ n' ≤ N)
        case first =>
          by_cases hnlt : n < N
          · skip
            have hwd : wrap64 ((N : Int) - (n : Int)) = (N : Int) - (n : Int) := by have := HN1.out; unfold wrap64; omega
            obtain ⟨n1, hn1⟩ : ∃ n1, n1 = n + 1 := ⟨_, rfl⟩
            have hn1i : (n : Int) + 1 = (n1 : Int) := by omega
            have hn1N : n1 ≤ N + 1 := by omega
            obtain ⟨Y, hY⟩ : ∃ Y, Y = saveS S h n := ⟨_, rfl⟩
            have HSY : Hid (∀ W : World, SA W p S h n → Calls Tryd.prog 18 #[.pointer (some ⟨p, 0, none⟩)] W fun e w' => e = .returned (.string Y) ∧ Below W.heap.size W w') := Lib.hid fun W ht => by rw [hY]; exact HHS.out.save p S h n W ht
            have HRY : Hid (∀ W : World, Calls Tryd.prog 19 #[.string S, .int .i64 (h : Int), .int .i64 (n : Int)] W fun e w' => e = .returned (.string Y) ∧ Below W.heap.size W w') := Lib.hid fun W => by rw [hY]; exact HRS.out n W hnN
            have HLD : Hid (∀ W : World, Holds W 0 kWords → Calls Tryd.prog 20 #[.string Y] W fun e w' => (∃ p, W.heap.size ≤ p ∧ e = .returned (.tuple #[.pointer (some ⟨p, 0, none⟩), .int .i64 0]) ∧ SA w' p S h n) ∧ Below W.heap.size W w') := Lib.hid fun W hk => by
              have h1 := HHS.out.load Y W (by rw [hY]; exact load_save HSs.out HH.out (by rw [← HN.out]; exact hnN)) hk
              rw [hY, save_seed HSs.out, save_height HSs.out (by have := HH.out; omega), save_next HSs.out h (by omega), ← hY] at h1
              exact h1
            have dne : ((n : Int) == (N : Int)) = false := by simp; omega
            have dne2 : ¬ (n : Int) = (N : Int) := by omega
            have dne3 : ¬ n = N := by omega
            have HSG : Hid (∀ (m : ByteArray) (p : Nat) (W : World), m.size ≤ 1000 → SA W p S h n → Holds W 0 kWords → Calls Tryd.prog 14 #[.pointer (some ⟨p, 0, none⟩), .string m] W fun e w' => e = .returned (.tuple #[.string (sigT S h n m), .int .i64 0]) ∧ SA w' p S h n1 ∧ But p W w') := Lib.hid fun m p W hm ht hk => by
              have h1 := HHS.out.sign p S h n m W ht (by rw [← HN.out]; exact hnlt) (by omega) hk
              rw [← hn1] at h1
              exact h1
            have hn1N' : n1 ≤ N := by omega
            clear hY hn1
            have hw1 := HW1.out
            have hw2 := HW2.out
            go_wp2_with (first
            | (go_at_call 13
               (with_reducible refine (next256 dp a cap zs _ _ HR7.out.dk (by have := HK7.out; (clear hw1 hw2; omega))).mono ?_)
               rintro e w8 ⟨r2, k8, hr2, rfl, hd8, hk8, hb8⟩
               have HR8 := Lib.hid (HR7.out.deck HHS.out hd8 hb8)
               have HK8 := Lib.hid (show k8 ≤ 8 * j + 2 by have := HK7.out; (clear hw1 hw2; omega))
               clear hd8 hk8 hb8
               obtain ⟨y, rfl⟩ : ∃ y : UInt8, r2 = y.toNat := ⟨UInt8.ofNat r2, by simp; (clear hw1 hw2; omega)⟩
               have hymod : ((y.toNat : Nat) : Int) % 256 = ((y.toNat : Nat) : Int) := (by clear hw1 hw2; omega)
               have hcv := row_conv w8 w8.heap.size 1 rfl [y] rfl #[.int .u8 ((y.toNat : Nat) : Int)] rfl
               obtain ⟨C, hC⟩ : ∃ C : ByteArray, C = ⟨[y].toArray⟩ := ⟨_, rfl⟩
               rw [← hC] at hcv
               have hC1 : C.size = 1 := (by rw [hC]; rfl)
               clear hC
               obtain ⟨m, hm⟩ : ∃ m, m = (⟨#[109, 101, 115, 115, 97, 103, 101]⟩ : ByteArray) ++ C := ⟨_, rfl⟩
               have happ := hm.symm
               have HMS := Lib.hid (show m.size ≤ 1000 by rw [hm, ByteArray.size_append, hC1]; decide)
               clear hm)
            | (go_at_call 14
               obtain ⟨X, hX⟩ : ∃ X, X = sigT S h n m := ⟨_, rfl⟩
               have hsg := HSG.out m p
               have hst := HST.out n m
               rw [← hX] at hsg hst
               have HSTX := Lib.hid hst
               clear hX hst
               refine (hsg _ HMS.out (HR8.out.read HHS.out (belowNew _ _)).sa ((HR8.out.read HHS.out (belowNew _ _)).holds HK2.out)).mono ?_
               rintro e w9 ⟨rfl, ht9, hb9⟩
               have HR9 := Lib.hid ((HR8.out.read HHS.out (belowNew _ _)).mut HHS.out ht9 hb9)
               obtain ⟨t0, t1, t2, _⟩ := tcell ((HR9.out.bel.block T HTL.out).trans HQ2.out)
               clear hsg ht9 hb9)
            | (go_at_call 15
               (with_reducible refine (HSTX.out _ _ hnlt HMS.out (HV2.out.below HR9.out.bel)).mono ?_)
               rintro e w10 ⟨rfl, hb10⟩
               have HRZ := Lib.hid (HR9.out.read HHS.out hb10)
               have HKZ := Lib.hid (show k8 ≤ 8 * (j + 1) by have := HK8.out; (clear hw1 hw2; omega))
               clear hb10 t0 t1 t2)
            | (go_at_call 13
               (with_reducible refine (next5v dp a cap zs _ _ HR7.out.dk (by have := HK7.out; (clear hw1 hw2; omega))).mono ?_)
               rintro e w8 ⟨r2, k8, hr2, rfl, hd8, hk8, hb8⟩
               have HR8 := Lib.hid (HR7.out.deck HHS.out hd8 hb8)
               have HKZ := Lib.hid (show k8 ≤ 8 * (j + 1) by have := HK7.out; (clear hw1 hw2; omega))
               clear hd8 hk8 hb8
               obtain ⟨q, hq⟩ : ∃ q, q = min ((r2 : Int) - 1).toNat (N - n) := ⟨_, rfl⟩
               have hsk := skip_num r2 n N hnN
               rw [← hq] at hsk
               obtain ⟨n2, hn2⟩ : ∃ n2, n2 = n + q := ⟨_, rfl⟩
               have hn2i : (n : Int) + (q : Int) = (n2 : Int) := (by clear hw1 hw2; omega)
               have hn2N : n2 ≤ N := (by clear hw1 hw2; omega)
               have hn2b : n2 ≤ 256 := (by have := HN1.out; clear hw1 hw2; omega)
               have HSK : Hid (∀ W : World, SA W p S h n → Calls Tryd.prog 16 #[.pointer (some ⟨p, 0, none⟩), .int .i64 ((r2 : Int) - 1)] W fun e w' => e = .returned (.int .i64 (q : Int)) ∧ SA w' p S h n2 ∧ But p W w') := Lib.hid (fun W ht => (by have h1 := HHS.out.skip p S h n ((r2 : Int) - 1) W ht; rw [← HN.out, ← hq, ← hn2] at h1; exact h1))
               clear hq hn2)
            | (go_at_call 16
               (with_reducible refine (HSK.out _ HR8.out.sa).mono ?_)
               rintro e w9 ⟨rfl, ht9, hb9⟩
               have HRZ := Lib.hid (HR8.out.mut HHS.out ht9 hb9)
               clear ht9 hb9)
            | (go_at_call 17
               (with_reducible refine (HHS.out.fork p S h n _ HR7.out.sa).mono ?_)
               rintro e w8 ⟨⟨p1, hp1, rfl, ht1⟩, hb8⟩
               have HR8 := Lib.hid (HR7.out.read HHS.out hb8)
               have HT8 := Lib.hid ht1
               have HPP : Hid (p ≠ p1) := Lib.hid (by have := HHS.out.lt HR7.out.sa; (clear hw1 hw2; omega))
               have HP1 : Hid (W2.heap.size ≤ p1) := Lib.hid (Nat.le_trans HR7.out.bel.size hp1)
               clear hp1 ht1 hb8)
            | (go_at_call 13
               (with_reducible refine (next3 dp a cap zs _ _ HR8.out.dk (by have := HK7.out; (clear hw1 hw2; omega))).mono ?_)
               rintro e w9 ⟨r3, k9, hr3, rfl, hd9, hk9, hb9⟩
               have HR9 := Lib.hid (HR8.out.deck HHS.out hd9 hb9)
               have HT9 := Lib.hid ((HR8.out.swap (.inr HP1.out) HT8.out).deck HHS.out hd9 hb9).sa
               have HKZ := Lib.hid (show k9 ≤ 8 * (j + 1) by have := HK7.out; (clear hw1 hw2; omega))
               clear hd9 hk9 hb9)
            | (go_at_call 16
               (with_reducible refine (HHS.out.skip p S h n (r3 : Int) _ HR9.out.sa).mono ?_)
               rintro e w10 ⟨rfl, ht10, hb10⟩
               have HRZ := Lib.hid ((HR9.out.mut HHS.out ht10 hb10).swap (.inr HP1.out) (HR9.out.aside HHS.out HT9.out HPP.out hb10))
               clear ht10 hb10)
            | (go_at_call 18
               (with_reducible refine (HSY.out _ HR7.out.sa).mono ?_)
               rintro e w8 ⟨rfl, hb8⟩
               have HR8 := Lib.hid (HR7.out.read HHS.out hb8)
               clear hb8)
            | (go_at_call 10
               (with_reducible refine (HSD.out _).mono ?_)
               rintro e w9 ⟨rfl, hb9⟩
               have HR9 := Lib.hid (HR8.out.read HHS.out hb9)
               clear hb9)
            | (go_at_call 19
               (with_reducible refine (HRY.out _).mono ?_)
               rintro e w10 ⟨rfl, hb10⟩
               have HR10 := Lib.hid (HR9.out.read HHS.out hb10)
               clear hb10)
            | (go_at_call 18
               (with_reducible refine (HSY.out _ HR10.out.sa).mono ?_)
               rintro e w11 ⟨rfl, hb11⟩
               have HR11 := Lib.hid (HR10.out.read HHS.out hb11)
               clear hb11)
            | (go_at_call 20
               (with_reducible refine (HLD.out _ (HR11.out.holds HK2.out)).mono ?_)
               rintro e w12 ⟨⟨p2, hp2, rfl, ht12⟩, hb12⟩
               have HRZ := Lib.hid ((HR11.out.read HHS.out hb12).swap (.inr (Nat.le_trans HR11.out.bel.size hp2)) ht12)
               have HKZ := Lib.hid (show k7 ≤ 8 * (j + 1) by have := HK7.out; (clear hw1 hw2; omega))
               clear hp2 ht12 hb12))
            all_goals go_meet
            all_goals exact ⟨_, _, _, rfl, rfl, HRZ.out, HKZ.out, by clear hw1 hw2; omega⟩
          · skip
            have hwd : wrap64 ((N : Int) - (n : Int)) = (N : Int) - (n : Int) := by have := HN1.out; unfold wrap64; omega
            obtain ⟨n1, hn1⟩ : ∃ n1, n1 = n + 1 := ⟨_, rfl⟩
            have hn1i : (n : Int) + 1 = (n1 : Int) := by omega
            have hn1N : n1 ≤ N + 1 := by omega
            obtain ⟨Y, hY⟩ : ∃ Y, Y = saveS S h n := ⟨_, rfl⟩
            have HSY : Hid (∀ W : World, SA W p S h n → Calls Tryd.prog 18 #[.pointer (some ⟨p, 0, none⟩)] W fun e w' => e = .returned (.string Y) ∧ Below W.heap.size W w') := Lib.hid fun W ht => by rw [hY]; exact HHS.out.save p S h n W ht
            have HRY : Hid (∀ W : World, Calls Tryd.prog 19 #[.string S, .int .i64 (h : Int), .int .i64 (n : Int)] W fun e w' => e = .returned (.string Y) ∧ Below W.heap.size W w') := Lib.hid fun W => by rw [hY]; exact HRS.out n W hnN
            have HLD : Hid (∀ W : World, Holds W 0 kWords → Calls Tryd.prog 20 #[.string Y] W fun e w' => (∃ p, W.heap.size ≤ p ∧ e = .returned (.tuple #[.pointer (some ⟨p, 0, none⟩), .int .i64 0]) ∧ SA w' p S h n) ∧ Below W.heap.size W w') := Lib.hid fun W hk => by
              have h1 := HHS.out.load Y W (by rw [hY]; exact load_save HSs.out HH.out (by rw [← HN.out]; exact hnN)) hk
              rw [hY, save_seed HSs.out, save_height HSs.out (by have := HH.out; omega), save_next HSs.out h (by omega), ← hY] at h1
              exact h1
            obtain rfl : n = N := by omega
            have HSX : Hid (∀ (m : ByteArray) (p : Nat) (W : World), SA W p S h n → Calls Tryd.prog 14 #[.pointer (some ⟨p, 0, none⟩), .string m] W fun e w' => e = .returned (.tuple #[.string ⟨#[]⟩, .int .i64 19]) ∧ Below W.heap.size W w') := Lib.hid fun m p W ht => HHS.out.signx p S h n m W ht HN.out
            clear hY hn1
            have hw1 := HW1.out
            have hw2 := HW2.out
            go_wp2_with (first
            | (go_at_call 13
               (with_reducible refine (next256 dp a cap zs _ _ HR7.out.dk (by have := HK7.out; (clear hw1 hw2; omega))).mono ?_)
               rintro e w8 ⟨r2, k8, hr2, rfl, hd8, hk8, hb8⟩
               have HR8 := Lib.hid (HR7.out.deck HHS.out hd8 hb8)
               have HK8 := Lib.hid (show k8 ≤ 8 * j + 2 by have := HK7.out; (clear hw1 hw2; omega))
               clear hd8 hk8 hb8
               obtain ⟨y, rfl⟩ : ∃ y : UInt8, r2 = y.toNat := ⟨UInt8.ofNat r2, by simp; (clear hw1 hw2; omega)⟩
               have hymod : ((y.toNat : Nat) : Int) % 256 = ((y.toNat : Nat) : Int) := (by clear hw1 hw2; omega)
               have hcv := row_conv w8 w8.heap.size 1 rfl [y] rfl #[.int .u8 ((y.toNat : Nat) : Int)] rfl
               obtain ⟨C, hC⟩ : ∃ C : ByteArray, C = ⟨[y].toArray⟩ := ⟨_, rfl⟩
               rw [← hC] at hcv
               have hC1 : C.size = 1 := (by rw [hC]; rfl)
               clear hC
               obtain ⟨m, hm⟩ : ∃ m, m = (⟨#[109, 101, 115, 115, 97, 103, 101]⟩ : ByteArray) ++ C := ⟨_, rfl⟩
               have happ := hm.symm
               have HMS := Lib.hid (show m.size ≤ 1000 by rw [hm, ByteArray.size_append, hC1]; decide)
               clear hm)
            | (go_at_call 14
               refine (HSX.out m p _ (HR8.out.read HHS.out (belowNew _ _)).sa).mono ?_
               rintro e w9 ⟨rfl, hb9⟩
               have HRZ := Lib.hid ((HR8.out.read HHS.out (belowNew _ _)).read HHS.out hb9)
               have HKZ := Lib.hid (show k8 ≤ 8 * (j + 1) by have := HK8.out; (clear hw1 hw2; omega))
               clear hb9)
            | (go_at_call 13
               (with_reducible refine (next5v dp a cap zs _ _ HR7.out.dk (by have := HK7.out; (clear hw1 hw2; omega))).mono ?_)
               rintro e w8 ⟨r2, k8, hr2, rfl, hd8, hk8, hb8⟩
               have HR8 := Lib.hid (HR7.out.deck HHS.out hd8 hb8)
               have HKZ := Lib.hid (show k8 ≤ 8 * (j + 1) by have := HK7.out; (clear hw1 hw2; omega))
               clear hd8 hk8 hb8
               obtain ⟨q, hq⟩ : ∃ q, q = min ((r2 : Int) - 1).toNat (n - n) := ⟨_, rfl⟩
               have hsk := skip_num r2 n n hnN
               rw [← hq, Int.sub_self] at hsk
               obtain ⟨n2, hn2⟩ : ∃ n2, n2 = n + q := ⟨_, rfl⟩
               have hn2i : (n : Int) + (q : Int) = (n2 : Int) := (by clear hw1 hw2; omega)
               have hn2N : n2 ≤ n := (by clear hw1 hw2; omega)
               have hn2b : n2 ≤ 256 := (by have := HN1.out; clear hw1 hw2; omega)
               have HSK : Hid (∀ W : World, SA W p S h n → Calls Tryd.prog 16 #[.pointer (some ⟨p, 0, none⟩), .int .i64 ((r2 : Int) - 1)] W fun e w' => e = .returned (.int .i64 (q : Int)) ∧ SA w' p S h n2 ∧ But p W w') := Lib.hid (fun W ht => (by have h1 := HHS.out.skip p S h n ((r2 : Int) - 1) W ht; rw [← HN.out, ← hq, ← hn2] at h1; exact h1))
               clear hq hn2)
            | (go_at_call 16
               (with_reducible refine (HSK.out _ HR8.out.sa).mono ?_)
               rintro e w9 ⟨rfl, ht9, hb9⟩
               have HRZ := Lib.hid (HR8.out.mut HHS.out ht9 hb9)
               clear ht9 hb9)
            | (go_at_call 17
               (with_reducible refine (HHS.out.fork p S h n _ HR7.out.sa).mono ?_)
               rintro e w8 ⟨⟨p1, hp1, rfl, ht1⟩, hb8⟩
               have HR8 := Lib.hid (HR7.out.read HHS.out hb8)
               have HT8 := Lib.hid ht1
               have HPP : Hid (p ≠ p1) := Lib.hid (by have := HHS.out.lt HR7.out.sa; (clear hw1 hw2; omega))
               have HP1 : Hid (W2.heap.size ≤ p1) := Lib.hid (Nat.le_trans HR7.out.bel.size hp1)
               clear hp1 ht1 hb8)
            | (go_at_call 13
               (with_reducible refine (next3 dp a cap zs _ _ HR8.out.dk (by have := HK7.out; (clear hw1 hw2; omega))).mono ?_)
               rintro e w9 ⟨r3, k9, hr3, rfl, hd9, hk9, hb9⟩
               have HR9 := Lib.hid (HR8.out.deck HHS.out hd9 hb9)
               have HT9 := Lib.hid ((HR8.out.swap (.inr HP1.out) HT8.out).deck HHS.out hd9 hb9).sa
               have HKZ := Lib.hid (show k9 ≤ 8 * (j + 1) by have := HK7.out; (clear hw1 hw2; omega))
               clear hd9 hk9 hb9)
            | (go_at_call 16
               (with_reducible refine (HHS.out.skip p S h n (r3 : Int) _ HR9.out.sa).mono ?_)
               rintro e w10 ⟨rfl, ht10, hb10⟩
               have HRZ := Lib.hid ((HR9.out.mut HHS.out ht10 hb10).swap (.inr HP1.out) (HR9.out.aside HHS.out HT9.out HPP.out hb10))
               clear ht10 hb10)
            | (go_at_call 18
               (with_reducible refine (HSY.out _ HR7.out.sa).mono ?_)
               rintro e w8 ⟨rfl, hb8⟩
               have HR8 := Lib.hid (HR7.out.read HHS.out hb8)
               clear hb8)
            | (go_at_call 10
               (with_reducible refine (HSD.out _).mono ?_)
               rintro e w9 ⟨rfl, hb9⟩
               have HR9 := Lib.hid (HR8.out.read HHS.out hb9)
               clear hb9)
            | (go_at_call 19
               (with_reducible refine (HRY.out _).mono ?_)
               rintro e w10 ⟨rfl, hb10⟩
               have HR10 := Lib.hid (HR9.out.read HHS.out hb10)
               clear hb10)
            | (go_at_call 18
               (with_reducible refine (HSY.out _ HR10.out.sa).mono ?_)
               rintro e w11 ⟨rfl, hb11⟩
               have HR11 := Lib.hid (HR10.out.read HHS.out hb11)
               clear hb11)
            | (go_at_call 20
               (with_reducible refine (HLD.out _ (HR11.out.holds HK2.out)).mono ?_)
               rintro e w12 ⟨⟨p2, hp2, rfl, ht12⟩, hb12⟩
               have HRZ := Lib.hid ((HR11.out.read HHS.out hb12).swap (.inr (Nat.le_trans HR11.out.bel.size hp2)) ht12)
               have HKZ := Lib.hid (show k7 ≤ 8 * (j + 1) by have := HK7.out; (clear hw1 hw2; omega))
               clear hp2 ht12 hb12))
            · go_roundw
              case rel => exact ⟨j + 1, _, _, _, HLJ.out, by go_num, rfl, rfl, HRZ.out, HKZ.out⟩
              case measure => have := HLJ.out; simp [intOf]; omega
            · go_roundw
              case rel => exact ⟨j + 1, _, _, _, HLJ.out, by go_num, rfl, rfl, HRZ.out, HKZ.out⟩
              case measure => have := HLJ.out; simp [intOf]; omega
            all_goals go_meet
            all_goals exact ⟨_, _, _, rfl, rfl, HRZ.out, HKZ.out, by clear hw1 hw2; omega⟩
        case rest =>
          obtain ⟨p', n', k', rfl, rfl, hr', hk', hn'⟩ := hcut
          have HRZ := Lib.hid hr'
          have HKZ := Lib.hid hk'
          obtain ⟨lf, hlf⟩ : ∃ lf, lf = N - n' := ⟨_, rfl⟩
          have hlfb : lf ≤ 256 := by have := HN1.out; omega
          have hsub : IntKind.i64.wrap ((N : Int) - (n' : Int)) = (lf : Int) := by rw [wrap_i64]; omega
          have hmin : min h 64 = h := by have := HH.out; omega
          have hs1 : ((n' : Int) != (n' : Int)) = false := by simp
          have hs2 : ((lf : Int) != (lf : Int)) = false := by simp
          have HLE : Hid (∀ (p : Nat) (W : World), SA W p S h n' → Calls Tryd.prog 22 #[.pointer (some ⟨p, 0, none⟩)] W fun e w' => e = .returned (.int .i64 (lf : Int)) ∧ Below W.heap.size W w') := Lib.hid (fun p W ht => (by have h1 := HHS.out.left p S h n' W ht; rw [← HN.out, ← hlf] at h1; exact h1))
          have HNE : Hid (∀ (p : Nat) (W : World), SA W p S h n' → Calls Tryd.prog 21 #[.pointer (some ⟨p, 0, none⟩)] W fun e w' => e = .returned (.int .i64 (n' : Int)) ∧ Below W.heap.size W w') := Lib.hid (fun p W ht => HHS.out.next p S h n' W ht)
          clear hlf hlfb hr hr' hk' hn' hkd hj hnN hn256 hkw hxi hh HSD HTR HNW HND HAW HST HRS HLI HX HB1 HB3 HB4 HB5 HD5 HT4 HT5 HP0 HR5 HR HLF HKD HHW
          have hw2 := HW2.out
          go_wp2_with fail
          have HRD := Lib.hid (HRZ.out.read HHS.out (Below.refl _ _).drew)
          go_region_law (first
              | (go_simp; go_at_call 21
                 (with_reducible refine (HNE.out _ _ HRD.out.sa).mono ?_)
                 rintro e w20 ⟨rfl, hb20⟩
                 have HRY := Lib.hid (HRD.out.read HHS.out hb20)
                 clear hb20)
              | (go_simp; go_at_call 22
                 (with_reducible refine (HLE.out _ _ HRY.out.sa).mono ?_)
                 rintro e w21 ⟨rfl, hb21⟩
                 have HRX := Lib.hid (HRY.out.read HHS.out hb21)
                 obtain ⟨s3, s4, s5, _⟩ := tcell ((HRX.out.bel.block T HTL.out).trans HQ2.out)
                 clear hb21)
              | (go_simp; go_at_call 23
                 (with_reducible refine (HKY.out _ _ _ HRX.out.sa).mono ?_)
                 rintro e w22 ⟨rfl, hb22⟩
                 have HRW := Lib.hid (HRX.out.read HHS.out hb22)
                 obtain ⟨s6, s7, s8, _⟩ := tcell ((HRW.out.bel.block T HTL.out).trans HQ2.out)
                 clear hb22)
              | (go_simp; go_at_call 24
                 (with_reducible refine (HKO.out _ _ (HV2.out.below HRW.out.bel)).mono ?_)
                 rintro e w23 ⟨rfl, hb23⟩
                 have HRV := Lib.hid (HRW.out.read HHS.out hb23)
                 clear hb23))
          all_goals
            clear hw2 hsub hs1 hs2 hmin
            have hjb : j < 256 := by omega
            go_wp2_with fail
            go_roundw
            case rel => exact ⟨j + 1, _, _, _, HLJ.out, by go_num, rfl, rfl, HRV.out, HKZ.out⟩
            case measure => have := HLJ.out; simp [intOf]; omega
    · have hj8 : j = 8 := by omega
      subst hj8
      have hd : decide (((8 : Nat) : Int) < 8) = false := by simp
      go_wp2_with (go_at_call 25; (with_reducible refine (HAW.out _ (HR.out.holds HK2.out)).mono ?_); rintro e w7 ⟨rfl, hb7⟩; have HB7 := Lib.hid (HB2.out.next (HR.out.bel.next hb7)); clear hb7)
      go_ret
      exact ⟨rfl, HB7.out⟩
end Go.Proofs.YtphgpakfdhdklaaDoor
