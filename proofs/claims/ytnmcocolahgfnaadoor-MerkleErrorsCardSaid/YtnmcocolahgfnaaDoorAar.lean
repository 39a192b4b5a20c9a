/-
  The contract of Few of certpathmade: whether a list of strings is small enough for a law.
  The walk of the law MerkleBack, over what is wanted of the program.
  Parameters that are keys, and slices of strings, opened.
-/
import Derived.Test.YtnmcocolahgfnaaDoorAad
import Derived.Deep.RegionLaw
import Derived.Test.YtnmcocolahgfnaaDoorAap
import Derived.Test.YtnmcocolahgfnaaDoorAan
import Derived.ProofKit
import Derived.OpenShut
import Derived.Deep.Strs
namespace Go.Proofs.YtnmcocolahgfnaaDoor
open Go.RowKit

def fewB (ss : List ByteArray) (n m : Nat) : Bool := decide (ss.length ≤ n) && ss.all fun s => decide (s.size ≤ m)

set_option maxHeartbeats 1000000 in
theorem few_core (a0 : Option Addr) (cap : Nat) (ss : List ByteArray) (n m : Nat) (w : World) (hv : ss = [] ∨ ∃ b o, a0 = some ⟨b, o, none⟩ ∧ ∀ i, i < ss.length → w.cell? ⟨b, o + i, none⟩ = some (.string (ss.getD i ByteArray.empty)))
    (hn : n < 4611686018427387904) :
    Calls Tryd.prog 28 #[.slice a0 ss.length cap, .int .i64 n, .int .i64 m] w fun e w' => e = .returned (.bool (fewB ss n m)) ∧ w = w' := by
  obtain ⟨B, hB⟩ : ∃ B, B = fewB ss n m := ⟨_, rfl⟩
  obtain ⟨L, hL⟩ : ∃ L, L = ss.length := ⟨_, rfl⟩
  rw [← hB, ← hL]
  have HB := Lib.hid hB
  have HL := Lib.hid hL
  have HV := Lib.hid hv
  clear hB hL hv
  by_cases hfar : n < L
  · have hd : decide ((n : Int) < (L : Int)) = true := by simp; omega
    have hb : B = false := by rw [HB.out, fewB, ← HL.out]; simp; omega
    subst hb
    go_enter Tryd.func28, Tryd.ntmps28
    go_wp2
    go_ret
    exact ⟨rfl, rfl⟩
  · have hd : decide ((n : Int) < (L : Int)) = false := by simp; omega
    go_enter Tryd.func28, Tryd.ntmps28
    go_wp2
    go_loop [15] (fun i => ∃ k : Nat, k ≤ L ∧ i = .int .i64 k ∧ ∀ j, j < k → (ss.getD j ByteArray.empty).size ≤ m) (fun i => L - (intOf i).toNat)
    case atStart => exact ⟨0, Nat.zero_le _, rfl, fun j hj => by omega⟩
    case round =>
      obtain ⟨k, hk, rfl, hall⟩ := hrel
      have HA := Lib.hid hall
      clear hall
      by_cases hlt : k < L
      · have hd2 : decide ((k : Int) < (L : Int)) = true := by simp; omega
        obtain ⟨b, o, ha, hc⟩ : ∃ b o, a0 = some ⟨b, o, none⟩ ∧ w.cell? ⟨b, o + k, none⟩ = some (.string (ss.getD k ByteArray.empty)) := by
          rcases HV.out with h | ⟨b, o, h1, h2⟩
          · have := HL.out; rw [h] at this; simp at this; omega
          · exact ⟨b, o, h1, h2 k (by rw [← HL.out]; exact hlt)⟩
        obtain ⟨x, hx⟩ : ∃ x, x = ss.getD k ByteArray.empty := ⟨_, rfl⟩
        rw [← hx] at hc
        have HX := Lib.hid hx
        clear hx
        subst ha
        by_cases hs : x.size ≤ m
        · have hd3 : decide ((m : Int) < (x.size : Int)) = false := by simp; omega
          go_wp2
          go_round
          case rel => exact ⟨k + 1, by omega, by go_num, fun j hj => by
            by_cases e : j = k
            · subst e; rw [← HX.out]; exact hs
            · exact HA.out j (by omega)⟩
          case measure => simp [intOf]; omega
        · have hd3 : decide ((m : Int) < (x.size : Int)) = true := by simp; omega
          have hb : B = false := by
            rw [HB.out, fewB]
            simp only [Bool.and_eq_false_iff]
            right
            rw [List.all_eq_false]
            refine ⟨x, ?_, by simpa using hs⟩
            rw [HX.out]
            have : k < ss.length := by rw [← HL.out]; exact hlt
            simp [this]
          subst hb
          go_wp2
          go_ret
          exact ⟨rfl, rfl⟩
      · have ek : k = L := by omega
        subst ek
        have hd2 : decide ((k : Int) < (k : Int)) = false := by simp
        have hb : B = true := by
          rw [HB.out, fewB, ← HL.out]
          simp only [Bool.and_eq_true, decide_eq_true_eq]
          refine ⟨by omega, List.all_eq_true.2 fun x hx => ?_⟩
          obtain ⟨j, hj, rfl⟩ := List.getElem_of_mem hx
          have := HA.out j (by rw [HL.out]; exact hj)
          simpa [hj] using this
        subst hb
        go_wp2
        go_ret
        exact ⟨rfl, rfl⟩
theorem few_any (v : Value) (ss : List ByteArray) (n m : Nat) (w : World) (hv : Reads_z w v ss) (hn : n < 4611686018427387904) :
    Calls Tryd.prog 28 #[v, .int .i64 n, .int .i64 m] w fun e w' => e = .returned (.bool (fewB ss n m)) ∧ w = w' := by
  obtain ⟨a, cap, rfl, h⟩ := hv
  exact few_core a cap ss n m w h hn

theorem few_lawm (v : Value) (ss : List ByteArray) (w : World) (hv : Reads_z w v ss) :
    Calls Tryd.prog 28 #[v, .int .i64 8, .int .i64 100] w fun e w' => e = .returned (.bool (fewB ss 8 100)) ∧ w = w' := few_any v ss 8 100 w hv (by decide)
theorem few_eachm {n m : Nat} {ss : List ByteArray} (h : fewB ss n m = true) : ss.length ≤ n ∧ ∀ s ∈ ss, s.size ≤ m := by
  simp only [fewB, Bool.and_eq_true, decide_eq_true_eq, List.all_eq_true] at h
  exact h
end Go.Proofs.YtnmcocolahgfnaaDoor
namespace Go.Proofs.YtnmcocolahgfnaaDoor
open Go.RowKit

set_option maxRecDepth 100000 in
set_option maxHeartbeats 2000000 in
theorem backlawm {TA : TreeP} (hT : Trees TA) (hV : VerPm) (k x : Nat) (a0 : Option Addr) (cap : Nat) (ss : List ByteArray) (hk : k < 256) (w : World) (hK : Holds w 0 kWords) (hR : Reads_z w (.slice a0 ss.length cap) ss) :
    Calls Tryd.prog 8 #[.int .u8 (k : Int), .int .u8 (x : Int), .slice a0 ss.length cap] w fun e w' => e = .returned (.bool true) ∧ Below w.heap.size w w' := by
  have HFW := Lib.hid (few_lawm (.slice a0 ss.length cap) ss w hR)
  have HAW := Lib.hid (fun W hk => awakem_any hT hV W hk)
  have HK := Lib.hid hK
  obtain ⟨n, hn⟩ : ∃ n, n = ss.length := ⟨_, rfl⟩
  cases hf : fewB ss 8 100 with
  | false =>
    rw [hf] at HFW
    rw [← hn] at HFW ⊢
    clear hT hV hR hf hK hn
    go_enter Tryd.func8, Tryd.ntmps8
    go_wp2_with (first
      | (go_at_call 28; (with_reducible refine HFW.out.mono ?_); rintro e w1 ⟨rfl, rfl⟩)
      | (go_at_call 11; (with_reducible refine (HAW.out _ HK.out).mono ?_); rintro e w2 ⟨rfl, hb2⟩; have HB2 := Lib.hid hb2; clear hb2))
    go_ret
    exact ⟨rfl, HB2.out⟩
  | true =>
    obtain ⟨hn8, hsm⟩ := few_eachm hf
    rw [hf] at HFW
    obtain ⟨a1, c1, e1, hrd⟩ := hR
    simp only [Value.slice.injEq] at e1
    obtain ⟨rfl, _, rfl⟩ := e1
    rw [← hn] at HFW ⊢ hn8
    have HRD := Lib.hid hrd
    have HSM := Lib.hid hsm
    have HN := Lib.hid hn
    obtain ⟨h, hx⟩ : ∃ h, h = x % 3 := ⟨_, rfl⟩
    have hxi : (x : Int) % 3 = (h : Int) := by omega
    have hh : h ≤ 8 := by omega
    obtain ⟨S, hS⟩ : ∃ S, S = seedS k := ⟨_, rfl⟩
    have hSs : S.size = 32 := by rw [hS]; exact seedS_size k
    obtain ⟨N, hNN⟩ : ∃ N, N = 2 ^ h := ⟨_, rfl⟩
    have hN1 : 1 ≤ N ∧ N ≤ 256 := by rw [hNN]; exact ⟨(pow_small hh).2, (pow_small hh).1⟩
    obtain ⟨ID, hID⟩ : ∃ ID, ID = idT S := ⟨_, rfl⟩
    obtain ⟨R, hR⟩ : ∃ R, R = rootS S h := ⟨_, rfl⟩
    have HSD : Hid (∀ W : World, Calls Tryd.prog 10 #[.int .i64 (k : Int)] W fun e w' => e = .returned (.string S) ∧ Below W.heap.size W w') := Lib.hid fun W => by rw [hS]; exact seedq_any k (by omega) W
    have HGN := Lib.hid (fun W hk => hT.gen S h W hSs hh hk)
    have HLV : Hid (∀ (p : Nat) (W : World), TA W p S h → Calls Tryd.prog 15 #[.pointer (some ⟨p, 0, none⟩)] W fun e w' => e = .returned (.int .i64 (N : Int)) ∧ Below W.heap.size W w') := Lib.hid fun p W ht => by rw [hNN]; exact hT.leaves p S h W ht
    have HKY : Hid (∀ (p : Nat) (W : World), TA W p S h → Calls Tryd.prog 12 #[.pointer (some ⟨p, 0, none⟩)] W fun e w' => e = .returned (.agg #[.int .i64 (h : Int), .string ID, .string R]) ∧ Below W.heap.size W w') := Lib.hid fun p W ht => by
      have := hT.key p S h W ht
      unfold keyV at this
      rw [← hID, ← hR] at this
      exact this
    have HSG : Hid (∀ (lf : Nat) (m : ByteArray) (p : Nat) (W : World), lf < N → m.size ≤ 100 → TA W p S h → Holds W 0 kWords → Calls Tryd.prog 17 #[.pointer (some ⟨p, 0, none⟩), .int .i64 (lf : Int), .string m] W fun e w' => e = .returned (.tuple #[.string (sigT S h lf m), .int .i64 0]) ∧ Below W.heap.size W w') := Lib.hid fun lf m p W hl hm ht k => by
      have := hT.sign p S h (lf : Int) m W ht hSs hh (by omega) k
      rw [signV_ok S h lf m (by rw [← hNN]; exact hl)] at this
      exact this
    have HVE : Hid (∀ (lf : Nat) (m : ByteArray) (W : World), lf < N → m.size ≤ 100 → Holds W 0 kWords → Calls Tryd.prog 25 #[.agg #[.int .i64 (h : Int), .string ID, .string R], .string m, .string (sigT S h lf m)] W fun e w' => e = .returned (.int .i64 0) ∧ Below W.heap.size W w') := Lib.hid fun lf m W hl hm k => by
      have h1 := hV (h : Int) ID R m (sigT S h lf m) W (by omega) (by rw [sigT_size]; omega) k
      rw [hID, hR, sigT_ver S h lf m (by rw [← hNN]; exact hl) hh, ← hID, ← hR] at h1
      exact h1
    have HTK := Lib.hid hT.keep
    have hkw : IntKind.i64.wrap (k : Int) = (k : Int) := by rw [wrap_i64]; omega
    clear hS hSs hNN hID hR hT hV hx hrd hsm hn hf hK
    go_enter Tryd.func8, Tryd.ntmps8
    go_wp2_with (first
      | (go_at_call 28; (with_reducible refine HFW.out.mono ?_); rintro e w0 ⟨rfl, rfl⟩)
      | (go_at_call 10; (with_reducible refine (HSD.out _).mono ?_); rintro e w1 ⟨rfl, hb1⟩; have HB1 := Lib.hid hb1; clear hb1)
      | (go_at_call 9; (with_reducible refine (HGN.out _ (HK.out.old HB1.out)).mono ?_); rintro e w2 ⟨⟨p, rfl, ht⟩, hb2⟩; have HB2 := Lib.hid (HB1.out.next hb2); have HT2 := Lib.hid ht; clear hb2 ht))
    go_loopw [38] (fun i wr => ∃ j : Nat, j ≤ n ∧ i = .int .i64 (j : Int) ∧ TA wr p S h ∧ Below w.heap.size w wr) (fun i _ => n - (intOf i).toNat)
    case atStart => exact ⟨0, Nat.zero_le _, rfl, HT2.out, HB2.out⟩
    case round =>
      obtain ⟨j, hj, rfl, ht, hb⟩ := hrel
      have HT := Lib.hid ht
      have HB := Lib.hid hb
      clear ht hb
      by_cases hlt : j < n
      · have hd : decide ((j : Int) < (n : Int)) = true := by simp; omega
        obtain ⟨b, o, rfl, hc⟩ : ∃ b o, a0 = some ⟨b, o, none⟩ ∧ wr.cell? ⟨b, o + j, none⟩ = some (.string (ss.getD j ByteArray.empty)) := by
          rcases HRD.out with h | ⟨b, o, h1, h2⟩
          · have := HN.out; rw [h] at this; simp at this; omega
          · exact ⟨b, o, h1, (HB.out.cell (p := ⟨b, o + j, none⟩) (block_lt_of_cell (h2 j (by rw [← HN.out]; exact hlt)))).trans (h2 j (by rw [← HN.out]; exact hlt))⟩
        obtain ⟨m, hm⟩ : ∃ m, m = ss.getD j ByteArray.empty := ⟨_, rfl⟩
        have hms : m.size ≤ 100 := by
          rw [hm, List.getD_eq_getElem?_getD, List.getElem?_eq_getElem (by rw [← HN.out]; exact hlt)]
          exact HSM.out _ (List.getElem_mem _)
        rw [← hm] at hc
        obtain ⟨lf, hlf⟩ : ∃ lf, lf = j % N := ⟨_, rfl⟩
        have hlN : lf < N := by rw [hlf]; exact Nat.mod_lt _ (by omega)
        have hli : (j : Int) % (N : Int) = (lf : Int) := by rw [hlf]; rfl
        have hlt2 : (j : Int).tmod (N : Int) = (lf : Int) := by rw [Int.tmod_eq_emod_of_nonneg (by omega)]; exact hli
        have hmax : max (N : Int) 1 = (N : Int) := by omega
        have hNz : ¬ (N : Int) = 0 := by omega
        have hNz2 : ¬ N = 0 := by omega
        have hN0 : ((N : Int) == 0) = false := by simp; omega
        have HSGJ := Lib.hid (fun W => HSG.out lf m p W hlN hms)
        have HVEJ := Lib.hid (fun W => HVE.out lf m W hlN hms)
        obtain ⟨X, hX⟩ : ∃ X, X = sigT S h lf m := ⟨_, rfl⟩
        rw [← hX] at HSGJ HVEJ
        have HLT := Lib.hid hlt
        clear hX hlf hm hms hlt
        go_wp2_with (first
          | (go_at_call 15; (with_reducible refine (HLV.out _ _ HT.out).mono ?_); rintro e w3 ⟨rfl, hb3⟩; have HB3 := Lib.hid (HB.out.next hb3); have HT3 := Lib.hid (HTK.out _ _ _ _ _ HT.out hb3); clear hb3)
          | (go_at_call 17; (with_reducible refine (HSGJ.out _ HT3.out (HK.out.old HB3.out)).mono ?_); rintro e w4 ⟨rfl, hb4⟩; have HB4 := Lib.hid (HB3.out.next hb4); have HT4 := Lib.hid (HTK.out _ _ _ _ _ HT3.out hb4); clear hb4)
          | (go_at_call 17; (with_reducible refine (HSGJ.out _ HT4.out (HK.out.old HB4.out)).mono ?_); rintro e w5 ⟨rfl, hb5⟩; have HB5 := Lib.hid (HB4.out.next hb5); have HT5 := Lib.hid (HTK.out _ _ _ _ _ HT4.out hb5); clear hb5)
          | (go_at_call 12; (with_reducible refine (HKY.out _ _ HT5.out).mono ?_); rintro e w6 ⟨rfl, hb6⟩; have HB6 := Lib.hid (HB5.out.next hb6); have HT6 := Lib.hid (HTK.out _ _ _ _ _ HT5.out hb6); clear hb6)
          | (go_at_call 25; (with_reducible refine (HVEJ.out _ (HK.out.old HB6.out)).mono ?_); rintro e w7 ⟨rfl, hb7⟩; have HB7 := Lib.hid (HB6.out.next hb7); have HT7 := Lib.hid (HTK.out _ _ _ _ _ HT6.out hb7); clear hb7))
        go_roundw
        case rel => exact ⟨j + 1, HLT.out, by go_num, HT7.out, HB7.out⟩
        case measure => have := HLT.out; simp [intOf]; omega
      · have hjn : j = n := by omega
        subst hjn
        have hd : decide ((j : Int) < (j : Int)) = false := by simp
        go_wp2_with (go_at_call 11; (with_reducible refine (HAW.out _ (HK.out.old HB.out)).mono ?_); rintro e w2 ⟨rfl, hb2⟩; have HB2 := Lib.hid (HB.out.next hb2); clear hb2)
        go_ret
        exact ⟨rfl, HB2.out⟩
theorem backlaw_any {TA : TreeP} (hT : Trees TA) (hV : VerPm) (k x : Nat) (a : Option Addr) (n c : Nat) (ss : List ByteArray) (hk : k < 256) (w : World) (hK : Holds w 0 kWords) (hR : Reads_z w (.slice a n c) ss) :
    Calls Tryd.prog 8 #[.int .u8 (k : Int), .int .u8 (x : Int), .slice a n c] w fun e w' => e = .returned (.bool true) ∧ Below w.heap.size w w' := by
  obtain ⟨a', c', e, h⟩ := hR
  simp only [Value.slice.injEq] at e
  obtain ⟨rfl, rfl, rfl⟩ := e
  exact backlawm hT hV k x a c ss hk w hK ⟨a, c, rfl, h⟩
end Go.Proofs.YtnmcocolahgfnaaDoor
namespace Go.Proofs.YtnmcocolahgfnaaDoor
open Go.ChangeShapes Go.WideShapes Go.ChangeAt Go.RowKit Go.ChangeMaps

set_option maxRecDepth 10000 in
theorem open_key {H : Type} {enc : TypeId × Value → H} {W : World} {r : Reach} {b0 : Nat} {v : Value} {d : DataW H} {p : List MemPlace}
    (hval : Value.okWide Tryd.prog W r b0 29 v) (h : DataW.Trod enc Tryd.prog W 0 (fun _ => true) true 29 v d p) :
    ∃ x : Int × ByteArray × ByteArray, v = .agg #[.int .i64 x.1, .string x.2.1, .string x.2.2] ∧ p = [] := by
  unfold Value.okWide at hval
  rw [Tryd.underlying29] at hval
  obtain ⟨cs, rfl, _, _⟩ := hval
  obtain ⟨fuel, hf⟩ := h
  obtain ⟨xs, k, _, hx, hl, hlen, hfd⟩ := DataW.trod_struct Tryd.underlying29 hf
  have c1 : Tryd.prog.cellsOf 3 = 1 := by kernel_rfl
  have c2 : Tryd.prog.cellsOf 9 = 1 := by kernel_rfl
  have c3 : Tryd.prog.cellsOf 29 = 3 := by kernel_rfl
  have hlen3 : xs.length = 3 := hlen
  have hs3 : (Value.agg cs).cells.toList.length = 3 := hl.trans c3
  match xs, hlen3 with
  | [y0, y1, y2], _ =>
    match hcs : (Value.agg cs).cells.toList, hs3 with
    | [z0, z1, z2], _ =>
      rw [hcs] at hfd
      have g0 : DataW.trod enc Tryd.prog W 0 (fun _ => true) true k 3 (([z0, z1, z2].drop 0).take (Tryd.prog.cellsOf 3)) = some y0 := hfd 0 _ rfl
      rw [c1] at g0
      obtain ⟨n0, e0, x0, _⟩ := DataW.trod_int Tryd.underlying3 g0
      have g1 : DataW.trod enc Tryd.prog W 0 (fun _ => true) true k 9 (([z0, z1, z2].drop 1).take (Tryd.prog.cellsOf 9)) = some y1 := hfd 1 _ rfl
      rw [c2] at g1
      obtain ⟨s1, e1, x1, _⟩ := DataW.trod_string Tryd.underlying9 g1
      have g2 : DataW.trod enc Tryd.prog W 0 (fun _ => true) true k 9 (([z0, z1, z2].drop 2).take (Tryd.prog.cellsOf 9)) = some y2 := hfd 2 _ rfl
      rw [c2] at g2
      obtain ⟨s2, e2, x2, _⟩ := DataW.trod_string Tryd.underlying9 g2
      have r0 : z0 = .int .i64 n0 := by simpa using e0
      have r1 : z1 = .string s1 := by simpa using e1
      have r2 : z2 = .string s2 := by simpa using e2
      refine ⟨(n0, s1, s2), ?_, ?_⟩
      · have hcl : (Value.agg cs).cells.toList = cs.toList := rfl
        rw [hcl, r0, r1, r2] at hcs
        congr 1
        exact Array.toList_inj.1 hcs
      · have ep := congrArg Prod.snd hx
        rw [x0, x1, x2] at ep
        simpa using ep
theorem strings_atm {w : World} {a : Addr} {ss : List ByteArray} (h : ∀ i, i < ss.length → w.cell? (a.add i) = some (.string (ss.getD i ByteArray.empty))) (hp : 0 < ss.length) :
    ∃ b off, a = ⟨b, off, none⟩ ∧ ∀ j, j < ss.length → w.cell? ⟨b, off + j, none⟩ = some (.string (ss.getD j ByteArray.empty)) := by
  obtain ⟨b, off, spot⟩ := a
  have hspot : spot = none := by simpa [Addr.add] using World.cell?_spot (h 0 hp)
  subst hspot
  exact ⟨b, off, rfl, fun j hj => by rw [← Go.WideShapes.add_plain]; exact h j hj⟩

set_option maxRecDepth 10000 in
theorem open_strsm {H : Type} {enc : TypeId × Value → H} {W : World} {a0 : Option Addr} {len cap : Nat} {d : DataW H} {p : List MemPlace}
    (h : DataW.Trod enc Tryd.prog W 0 (fun _ => true) true 62 (.slice a0 len cap) d p) : ∃ ss : List ByteArray, Reads_z W (.slice a0 len cap) ss := by
  obtain ⟨fuel, hf⟩ := h
  have cb : Tryd.prog.cellsOf 9 = 1 := by kernel_rfl
  rcases open_strings Tryd.underlying62 Tryd.underlying9 cb hf with ⟨hcs, _⟩ | ⟨a, len', cap', ss, hcs, _, hl, _, hz, _, hcell, _⟩
  · simp [Value.cells] at hcs
    obtain ⟨rfl, rfl, rfl⟩ := hcs
    exact ⟨[], _, _, rfl, .inl rfl⟩
  · simp [Value.cells] at hcs
    obtain ⟨rfl, rfl, rfl⟩ := hcs
    by_cases h0 : len = 0
    · subst h0
      exact ⟨[], _, _, rfl, .inl rfl⟩
    · have hzl : len ≤ ss.length := by rw [hz]; simpa using hl
      obtain ⟨b, off, rfl, hc⟩ := strings_atm hcell (by omega)
      refine ⟨ss.take len, _, _, by rw [List.length_take, Nat.min_eq_left hzl], .inr ⟨b, off, rfl, fun i hi => ?_⟩⟩
      rw [List.length_take, Nat.min_eq_left hzl] at hi
      rw [hc i (by omega)]
      congr 2
      simp [List.getD_eq_getElem?_getD, List.getElem?_take_of_lt hi]
end Go.Proofs.YtnmcocolahgfnaaDoor
