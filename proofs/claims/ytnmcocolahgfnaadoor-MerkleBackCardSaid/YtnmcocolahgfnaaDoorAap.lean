/-
  The walk of the law MerkleSign, over what is wanted of the program.
-/
import Derived.Test.YtnmcocolahgfnaaDoorAah
namespace Go.Proofs.YtnmcocolahgfnaaDoor
open Go.RowKit

theorem leafV_sig (S : ByteArray) (h lf : Nat) (m : ByteArray) (hl : lf < 4294967296) : leafV (sigT S h lf m) = .tuple #[.int .i64 (lf : Int), .bool true] := by
  rw [leafV_long (by rw [sigT_size]; omega), sigT_leaf S h lf m hl]
set_option maxRecDepth 100000 in
set_option maxHeartbeats 2000000 in
theorem sgnlaw {TA : TreeP} (hT : Trees TA) (hV : VerPm) (hL : LeafPm) (k x y : Nat) (m : ByteArray) (hk : k < 256) (hy : y < 256) (w : World) (hK : Holds w 0 kWords) :
    Calls Tryd.prog 5 #[.int .u8 (k : Int), .int .u8 (x : Int), .int .u8 (y : Int), .string m] w fun e w' => e = .returned (.bool true) ∧ Below w.heap.size w w' := by
  by_cases hm : 300 < m.size
  · have dm : decide ((300 : Int) < (m.size : Int)) = true := by simp; omega
    have HAW := Lib.hid (awakem_any hT hV w hK)
    clear hm hT hV hL hK
    go_enter Tryd.func5, Tryd.ntmps5
    go_wp2_with (go_at_call 11; (with_reducible refine HAW.out.mono ?_); rintro e w1 ⟨rfl, hb1⟩; have HB1 := Lib.hid hb1; clear hb1)
    go_ret
    exact ⟨rfl, HB1.out⟩
  have dm : decide ((300 : Int) < (m.size : Int)) = false := by simp; omega
  obtain ⟨h, hx⟩ : ∃ h, h = x % 3 := ⟨_, rfl⟩
  have hxi : (x : Int) % 3 = (h : Int) := by omega
  have hh : h ≤ 8 := by omega
  obtain ⟨S, hS⟩ : ∃ S, S = seedS k := ⟨_, rfl⟩
  have hSs : S.size = 32 := by rw [hS]; exact seedS_size k
  obtain ⟨N, hN⟩ : ∃ N, N = 2 ^ h := ⟨_, rfl⟩
  have hN1 : 1 ≤ N ∧ N ≤ 256 := by rw [hN]; exact ⟨(pow_small hh).2, (pow_small hh).1⟩
  obtain ⟨lf, hlf⟩ : ∃ lf, lf = y % N := ⟨_, rfl⟩
  have hlN : lf < N := by rw [hlf]; exact Nat.mod_lt _ (by omega)
  have hli : (y : Int) % (N : Int) = (lf : Int) := by rw [hlf]; rfl
  have hlt : (y : Int).tmod (N : Int) = (lf : Int) := by rw [Int.tmod_eq_emod_of_nonneg (by omega)]; exact hli
  have hlw : IntKind.i64.wrap (lf : Int) = (lf : Int) := by rw [wrap_i64]; omega
  have hlp : lf < 2 ^ h := by rw [← hN]; exact hlN
  obtain ⟨X, hX⟩ : ∃ X, X = sigT S h lf m := ⟨_, rfl⟩
  have HSD : Hid (∀ W : World, Calls Tryd.prog 10 #[.int .i64 (k : Int)] W fun e w' => e = .returned (.string S) ∧ Below W.heap.size W w') := Lib.hid fun W => by rw [hS]; exact seedq_any k (by omega) W
  have HGN := Lib.hid (fun W hk => hT.gen S h W hSs hh hk)
  have HAW := Lib.hid (fun W hk => awakem_any hT hV W hk)
  have HSG : Hid (∀ (p : Nat) (W : World), TA W p S h → Holds W 0 kWords → Calls Tryd.prog 17 #[.pointer (some ⟨p, 0, none⟩), .int .i64 (lf : Int), .string m] W fun e w' => e = .returned (.tuple #[.string X, .int .i64 0]) ∧ Below W.heap.size W w') := Lib.hid fun p W ht k => by
    have := hT.sign p S h (lf : Int) m W ht hSs hh (by omega) k
    rw [signV_ok S h lf m hlp, ← hX] at this
    exact this
  have HTR : Hid (∀ W : World, Calls Tryd.prog 14 #[.int .i64 (k : Int), .int .i64 (h : Int)] W fun e w' => (∃ v, e = .returned v ∧ TreeV w' v S h) ∧ Below W.heap.size W w') := Lib.hid fun W => by rw [hS]; exact treeq_any k h (by omega) hh W
  have HST : Hid (∀ (v : Value) (W : World), TreeV W v S h → Calls Tryd.prog 20 #[v, .int .i64 (lf : Int), .string m] W fun e w' => e = .returned (.tuple #[.string X, .int .i64 0]) ∧ Below W.heap.size W w') := Lib.hid fun v W ht => by
    have := rsgnt_ok v S h lf m hSs hh hlp (by omega) W ht
    rw [← hX] at this
    exact this
  have HLE : Hid (∀ W : World, Calls Tryd.prog 21 #[.string X] W fun e w' => e = .returned (.tuple #[.int .i64 (lf : Int), .bool true]) ∧ Below W.heap.size W w') := Lib.hid fun W => by
    have := hL X W
    rw [hX, leafV_sig S h lf m (by omega), ← hX] at this
    exact this
  have hkw : IntKind.i64.wrap (k : Int) = (k : Int) := by rw [wrap_i64]; omega
  have hyw : IntKind.i64.wrap (y : Int) = (y : Int) := by rw [wrap_i64]; omega
  have hN0 : ((N : Int) == 0) = false := by simp; omega
  have hNz : ¬ (N : Int) = 0 := by omega
  have hNz2 : ¬ N = 0 := by omega
  have hw1 := wrap_pow hh hN
  have hw2 := wrap_pow2 hh hN
  have HK := Lib.hid hK
  have HTK := Lib.hid hT.keep
  clear hS hSs hN hX hK hT hV hL hx hlf hlp hm hN1
  go_enter Tryd.func5, Tryd.ntmps5
  go_wp2_with (first
    | (go_at_call 10; (with_reducible refine (HSD.out _).mono ?_); rintro e w1 ⟨rfl, hb1⟩; have HB1 := Lib.hid hb1; clear hb1)
    | (go_at_call 9; (with_reducible refine (HGN.out _ (HK.out.old HB1.out)).mono ?_); rintro e w2 ⟨⟨p, rfl, ht⟩, hb2⟩; have HB2 := Lib.hid (HB1.out.next hb2); have HT2 := Lib.hid ht; clear hb2 ht)
    | (go_at_call 17; (with_reducible refine (HSG.out _ _ HT2.out (HK.out.old HB2.out)).mono ?_); rintro e w3 ⟨rfl, hb3⟩; have HB3 := Lib.hid (HB2.out.next hb3); clear hb3))
  have HBD := Lib.hid HB3.out.drew
  go_region_law (first
    | (go_simp; go_at_call 14; (with_reducible refine (HTR.out _).mono ?_); rintro e w5 ⟨⟨v, rfl, hv⟩, hb5⟩; have HB5 := Lib.hid (HBD.out.next hb5); have HV5 := Lib.hid hv; clear hb5 hv)
    | (go_simp; go_at_call 20; (with_reducible refine (HST.out _ _ HV5.out).mono ?_); rintro e w6 ⟨rfl, hb6⟩; have HB6 := Lib.hid (HB5.out.next hb6); clear hb6))
  all_goals
    go_wp2_with (first
      | (go_at_call 21; (with_reducible refine (HLE.out _).mono ?_); rintro e w7 ⟨rfl, hb7⟩; have HB7 := Lib.hid (HB6.out.next hb7); clear hb7)
      | (go_at_call 11; (with_reducible refine (HAW.out _ (HK.out.old HB7.out)).mono ?_); rintro e w8 ⟨rfl, hb8⟩; have HB8 := Lib.hid (HB7.out.next hb8); clear hb8))
    go_ret
    exact ⟨rfl, HB8.out⟩
end Go.Proofs.YtnmcocolahgfnaaDoor
