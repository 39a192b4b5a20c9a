/-
  The walk of the law OtsBack: it returns true.
-/
import Derived.Test.YtbmphhiafepnoaaDoorAaj
namespace Go.Proofs.YtbmphhiafepnoaaDoor
open Go.RowKit

set_option maxRecDepth 100000 in
set_option maxHeartbeats 2000000 in
theorem backlawq (hD : DigP) (hP : PubP) (hS : SigP) (hR : RecP) (k leaf : Nat) (hk : k < 256) (hl : leaf < 256) (s : ByteArray) (w : World) (hK : Holds w 0 kWords) :
    Calls Tryd.prog 7 #[.int .u8 (k : Int), .int .u8 (leaf : Int), .string s] w fun e w' => e = .returned (.bool true) ∧ Below w.heap.size w w' := by
  have HK := Lib.hid hK
  have HAW := Lib.hid (awakeq_any hD)
  have HZ : Hid (Below w.heap.size w w) := Lib.hid (Below.refl w.heap.size w)
  obtain ⟨n, hn⟩ : ∃ n, n = s.size := ⟨_, rfl⟩
  have hni : (s.size : Int) = (n : Int) := by rw [hn]
  by_cases h60 : 60 < n
  · have d1 : decide ((60 : Int) < (n : Int)) = true := by simp; omega
    clear hn
    go_enter Tryd.func7, Tryd.ntmps7
    go_wp2_with (first | (go_at_call 12; (with_reducible refine (HAW.out _).mono ?_); rintro e w1 ⟨rfl, hb1⟩; have HZ := Lib.hid (HZ.out.next hb1); clear hb1))
    go_ret
    exact ⟨rfl, HZ.out⟩
  · have d1 : decide ((60 : Int) < (n : Int)) = false := by simp; omega
    have hs60 : s.size ≤ 1000 := by omega
    clear hn
    obtain ⟨I, hI⟩ : ∃ I, I = idS k := ⟨_, rfl⟩
    obtain ⟨E, hE⟩ : ∃ E, E = seedS k := ⟨_, rfl⟩
    obtain ⟨G, hG⟩ : ∃ G, G = dgS s := ⟨_, rfl⟩
    obtain ⟨S, hSg⟩ : ∃ S, S = sigS (idS k) (seedS k) leaf (digs (dgS s).data.toList) := ⟨_, rfl⟩
    obtain ⟨K, hKy⟩ : ∃ K, K = pubS (idS k) (seedS k) leaf := ⟨_, rfl⟩
    have hV : sigV I E (leaf : Int) G = .tuple #[.string S, .int .i64 0] := by rw [hI, hE, hG, hSg]; exact sig_ok k leaf hl s
    have hU : pubV I E (leaf : Int) = .tuple #[.string K, .int .i64 0] := by rw [hI, hE, hKy]; exact pub_ok k leaf hl
    have hX : recV I (leaf : Int) G S = .tuple #[.string K, .int .i64 0] := by
      rw [hI, hG, rec_ok k leaf hl s S (by rw [hSg]; exact sigS_size _ _ _ _), hSg, hKy, recS_sig (idS k) (seedS k) leaf (digs_le _ (by show (dgS s).size ≤ 16; rw [dgS_size]; omega))]
      rfl
    have hSs : K.size = 16 := by rw [hKy]; exact keyS_size _ _ _
    have HI : Hid (∀ W : World, Calls Tryd.prog 9 #[.int .u8 (k : Int)] W fun e w' => e = .returned (.string I) ∧ Below W.heap.size W w') := Lib.hid fun W => by rw [hI]; exact idq_any k hk W
    have HE : Hid (∀ W : World, Calls Tryd.prog 10 #[.int .i64 (k : Int)] W fun e w' => e = .returned (.string E) ∧ Below W.heap.size W w') := Lib.hid fun W => by rw [hE]; exact seedq_any k (by omega) W
    have HG : Hid (∀ W : World, Calls Tryd.prog 14 #[.string s] W fun e w' => e = .returned (.string G) ∧ Below W.heap.size W w') := Lib.hid fun W => by rw [hG]; exact dgq_any s hs60 W
    have HSG : Hid (∀ W : World, Holds W 0 kWords → Calls Tryd.prog 13 #[.string I, .string E, .int .i64 (leaf : Int), .string G] W fun e w' => e = .returned (.tuple #[.string S, .int .i64 0]) ∧ Below W.heap.size W w') := Lib.hid fun W h => by rw [← hV]; exact hS I E G (leaf : Int) W h
    have HRC : Hid (∀ W : World, Holds W 0 kWords → Calls Tryd.prog 16 #[.string I, .int .i64 (leaf : Int), .string G, .string S] W fun e w' => e = .returned (.tuple #[.string K, .int .i64 0]) ∧ Below W.heap.size W w') := Lib.hid fun W h => by rw [← hX]; exact hR I G S (leaf : Int) W h
    have HPB : Hid (∀ W : World, Holds W 0 kWords → Calls Tryd.prog 8 #[.string I, .string E, .int .i64 (leaf : Int)] W fun e w' => e = .returned (.tuple #[.string K, .int .i64 0]) ∧ Below W.heap.size W w') := Lib.hid fun W h => by rw [← hU]; exact hP I E (leaf : Int) W h
    clear hI hE hG hSg hV hU hX hKy
    have hSi : (K.size : Int) = 16 := by omega
    clear hSs
    go_enter Tryd.func7, Tryd.ntmps7
    go_wp2_with (first | (go_at_call 9; (with_reducible refine (HI.out _).mono ?_); rintro e w1 ⟨rfl, hb1⟩; have HZ := Lib.hid (HZ.out.next hb1); clear hb1) | (go_at_call 10; (with_reducible refine (HE.out _).mono ?_); rintro e w2 ⟨rfl, hb2⟩; have HZ := Lib.hid (HZ.out.next hb2); clear hb2) | (go_at_call 14; (with_reducible refine (HG.out _).mono ?_); rintro e w3 ⟨rfl, hb3⟩; have HZ := Lib.hid (HZ.out.next hb3); clear hb3) | (go_at_call 13; (with_reducible refine (HSG.out _ (HK.out.old HZ.out)).mono ?_); rintro e w4 ⟨rfl, hb4⟩; have HZ := Lib.hid (HZ.out.next hb4); clear hb4) | (go_at_call 16; (with_reducible refine (HRC.out _ (HK.out.old HZ.out)).mono ?_); rintro e w5 ⟨rfl, hb5⟩; have HZ := Lib.hid (HZ.out.next hb5); clear hb5) | (go_at_call 8; (with_reducible refine (HPB.out _ (HK.out.old HZ.out)).mono ?_); rintro e w6 ⟨rfl, hb6⟩; have HZ := Lib.hid (HZ.out.next hb6); clear hb6) | (go_at_call 12; (with_reducible refine (HAW.out _).mono ?_); rintro e w7 ⟨rfl, hb7⟩; have HZ := Lib.hid (HZ.out.next hb7); clear hb7))
    go_ret
    exact ⟨rfl, HZ.out⟩
end Go.Proofs.YtbmphhiafepnoaaDoor
