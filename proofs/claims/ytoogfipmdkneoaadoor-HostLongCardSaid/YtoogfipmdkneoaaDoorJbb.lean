/-
  The walk of the law HostLong: for every three numbers it returns true, and leaves all that was there as it was.
-/
import Derived.Test.YtoogfipmdkneoaaDoorJaz
namespace Go.Proofs.YtoogfipmdkneoaaDoor
open Go.RowKit

theorem suf_of (P L : List UInt8) (h : P.length + L.length ≤ 100000) (Q : ByteArray) (hQ : Q = strOf L) (w : World) : (Op.stringOp .add (strOf P) Q).run Tryd.prog w = .ok (.string (strOf (P ++ L))) w := by
  subst hQ
  exact pre_of P L h w
theorem dot_y0 (w : World) : (Instr.slice 9 (.string ⟨#[46, 121]⟩) (some (.int .i64 0)) (some (.int .i64 1)) none).run Tryd.prog w = .ok (.string (strOf [46])) w := slice_two ⟨#[46, 121]⟩ 0 1 (by decide) (by decide) 0 1 rfl rfl w
theorem dot_y1 (w : World) : (Instr.slice 9 (.string ⟨#[46, 121]⟩) (some (.int .i64 1)) (some (.int .i64 2)) none).run Tryd.prog w = .ok (.string (strOf [121])) w := slice_two ⟨#[46, 121]⟩ 1 2 (by decide) (by decide) 1 2 rfl rfl w

set_option maxRecDepth 100000 in
set_option maxHeartbeats 4000000 in
theorem lonlaw (n0 n1 n2 : Nat) (h0 : n0 < 256) (h1 : n1 < 256) (h2 : n2 < 256) (w : World) (hmx : Mx w) :
    Calls Tryd.prog 4 #[.int .u8 (n0 : Int), .int .u8 (n1 : Int), .int .u8 (n2 : Int)] w fun e w' => e = .returned (.bool true) ∧ Below w.heap.size w w' := by
  have HMX := Lib.hid hmx
  clear hmx
  obtain ⟨a, ha⟩ : ∃ a, a = n0 % 10 := ⟨_, rfl⟩
  obtain ⟨b, hb⟩ : ∃ b, b = n1 % 130 := ⟨_, rfl⟩
  obtain ⟨c, hc⟩ : ∃ c, c = n2 % 10 := ⟨_, rfl⟩
  have a1 : (n0 : Int) % 10 = (a : Int) := by omega
  have b1 : (n1 : Int) % 130 = (b : Int) := by omega
  have c1 : (n2 : Int) % 10 = (c : Int) := by omega
  have ab : a < 10 := by omega
  have bb : b < 130 := by omega
  have cb : c < 10 := by omega
  obtain ⟨A, hA⟩ : ∃ A, A = 58 + a := ⟨_, rfl⟩
  obtain ⟨C, hC⟩ : ∃ C, C = 58 + c := ⟨_, rfl⟩
  have a2 : (58 : Int) + (a : Int) = (A : Int) := by omega
  have c2 : (58 : Int) + (c : Int) = (C : Int) := by omega
  have hAb : A ≤ 67 := by omega
  have hCb : C ≤ 67 := by omega
  clear ha hb hc hA hC ab cb
  go_enter Tryd.func4, Tryd.ntmps4
  go_wp2_with fail

  go_loopw [7, 8] (fun u i wr => ∃ (k : Nat) (X : List UInt8), k ≤ A ∧ i = .int .i64 (k : Int) ∧ u = .string (strOf X) ∧ X.length ≤ k ∧ wr = w) (fun _ i _ => A - (intOf i).toNat)
  case atStart => exact ⟨0, [], Nat.zero_le _, rfl, rfl, Nat.le_refl _, rfl⟩
  case round =>
    obtain ⟨k, X, hk, rfl, rfl, hX, rfl⟩ := hrel
    by_cases hlt : k < A
    · have hd : decide ((k : Int) < (A : Int)) = true := decide_eq_true (by omega)
      have hcat := fun w => suf_of X [120] (by simp; omega) ⟨#[120]⟩ rfl w
      have HX := Lib.hid (show (X ++ [120]).length ≤ k + 1 by simp; omega)
      generalize X ++ [120] = Y at hcat HX
      go_wp2_with fail
      go_roundw
      case rel => exact ⟨k + 1, Y, by omega, by go_num, rfl, HX.out, by first | exact trivial | rfl⟩
      case measure => simp [intOf]; omega
    · have ek : k = A := by omega
      subst ek
      have hd : decide ((k : Int) < (k : Int)) = false := decide_eq_false (by omega)
      have HX0 := Lib.hid (show X.length ≤ 67 by omega)
      clear hX
      go_wp2_with fail
      obtain ⟨x, hx⟩ : ∃ x, x = X := ⟨_, rfl⟩
      rw [← hx] at HX0 ⊢
      clear hx hd hlt a1 a2
      go_loopw [9, 10] (fun u i wz => ∃ (k : Nat) (X : List UInt8), k ≤ b ∧ i = .int .i64 (k : Int) ∧ u = .string (strOf X) ∧ X.length ≤ 67 + k ∧ wz = wr) (fun _ i _ => b - (intOf i).toNat)
      case atStart => exact ⟨0, x, Nat.zero_le _, rfl, rfl, HX0.out, rfl⟩
      case round =>
        obtain ⟨k, X, hk, rfl, rfl, hX, rfl⟩ := hrel
        by_cases hlt : k < b
        · have hd : decide ((k : Int) < (b : Int)) = true := decide_eq_true (by omega)
          rcases Nat.mod_two_eq_zero_or_one k with hz | hz
          · have q1 : (k : Int) % 2 = 0 := by omega
            have s1 := fun w => dot_y0 w
            have hcat := fun w => suf_of X [46] (by simp; omega) (strOf [46]) rfl w
            have HX := Lib.hid (show (X ++ [46]).length ≤ 67 + (k + 1) by simp; omega)
            generalize X ++ [46] = Y at hcat HX
            clear hz
            go_wp2_with fail
            go_roundw
            case rel => exact ⟨k + 1, Y, by omega, by go_num, rfl, HX.out, by first | exact trivial | rfl⟩
            case measure => simp [intOf]; omega
          · have q1 : (k : Int) % 2 = 1 := by omega
            have s1 := fun w => dot_y1 w
            have hcat := fun w => suf_of X [121] (by simp; omega) (strOf [121]) rfl w
            have HX := Lib.hid (show (X ++ [121]).length ≤ 67 + (k + 1) by simp; omega)
            generalize X ++ [121] = Y at hcat HX
            clear hz
            go_wp2_with fail
            go_roundw
            case rel => exact ⟨k + 1, Y, by omega, by go_num, rfl, HX.out, by first | exact trivial | rfl⟩
            case measure => simp [intOf]; omega
        · have ek : k = b := by omega
          subst ek
          have hd : decide ((k : Int) < (k : Int)) = false := decide_eq_false (by omega)
          have HS0 := Lib.hid (show X.length ≤ 197 by omega)
          clear hX
          go_wp2_with fail
          obtain ⟨s, hs⟩ : ∃ s, s = X := ⟨_, rfl⟩
          rw [← hs] at HS0 ⊢
          clear hs hd hlt b1
          go_loopw [11, 12] (fun u i wq => ∃ (k : Nat) (X : List UInt8), k ≤ C ∧ i = .int .i64 (k : Int) ∧ u = .string (strOf X) ∧ X.length ≤ k ∧ wq = wr) (fun _ i _ => C - (intOf i).toNat)
          case atStart => exact ⟨0, [], Nat.zero_le _, rfl, rfl, Nat.le_refl _, rfl⟩
          case round =>
            obtain ⟨k, X, hk, rfl, rfl, hX, rfl⟩ := hrel
            by_cases hlt : k < C
            · have hd : decide ((k : Int) < (C : Int)) = true := decide_eq_true (by omega)
              have hcat := fun w => suf_of X [109] (by simp; omega) ⟨#[109]⟩ rfl w
              have HX := Lib.hid (show (X ++ [109]).length ≤ k + 1 by simp; omega)
              generalize X ++ [109] = Y at hcat HX
              go_wp2_with fail
              go_roundw
              case rel => exact ⟨k + 1, Y, by omega, by go_num, rfl, HX.out, by first | exact trivial | rfl⟩
              case measure => simp [intOf]; omega
            · have ek : k = C := by omega
              subst ek
              have hd : decide ((k : Int) < (k : Int)) = false := decide_eq_false (by omega)
              have HM0 := Lib.hid (show X.length ≤ 67 by omega)
              clear hX
              obtain ⟨m, hm⟩ : ∃ m, m = X := ⟨_, rfl⟩
              rw [← hm] at HM0 ⊢
              have HXQ := Lib.hid (show x.length ≤ 100000 by have := HX0.out; omega)
              have HSQ := Lib.hid (show s.length ≤ 100000 by have := HS0.out; omega)
              have cat1 := fun w => pre_of [42, 46] s (by have := HS0.out; simp; omega) w
              rw [show strOf [42, 46] = ⟨#[42, 46]⟩ from rfl] at cat1
              have HQ1 := Lib.hid (show ([42, 46] ++ s).length ≤ 100000 by have := HS0.out; simp; omega)
              generalize [42, 46] ++ s = q1 at cat1 HQ1
              have cat2 := fun w => pre_of [46] s (by have := HS0.out; simp; omega) w
              rw [show strOf [46] = ⟨#[46]⟩ from rfl] at cat2
              have HQ2 := Lib.hid (show ([46] ++ s).length ≤ 100000 by have := HS0.out; simp; omega)
              generalize [46] ++ s = q2 at cat2 HQ2
              have cat3 := fun w => pre_of [42, 46, 121, 46] x (by have := HX0.out; simp; omega) w
              rw [show strOf [42, 46, 121, 46] = ⟨#[42, 46, 121, 46]⟩ from rfl] at cat3
              have HQ3 := Lib.hid (show ([42, 46, 121, 46] ++ x).length ≤ 100000 by have := HX0.out; simp; omega)
              generalize [42, 46, 121, 46] ++ x = q3 at cat3 HQ3
              have cat4 := fun w => suf_of m [64] (by have := HM0.out; simp; omega) ⟨#[64]⟩ rfl w
              have HQ4 := Lib.hid (show (m ++ [64]).length ≤ 68 by have := HM0.out; simp; omega)
              generalize m ++ [64] = q4 at cat4 HQ4
              have cat5 := fun w => pre_of q4 x (by have := HX0.out; have := HQ4.out; omega) w
              have HQ5 := Lib.hid (show (q4 ++ x).length ≤ 100000 by have := HX0.out; have := HQ4.out; simp; omega)
              generalize q4 ++ x = q5 at cat5 HQ5
              have cat6 := fun w => pre_of q4 s (by have := HS0.out; have := HQ4.out; omega) w
              have HQ6 := Lib.hid (show (q4 ++ s).length ≤ 100000 by have := HS0.out; have := HQ4.out; simp; omega)
              generalize q4 ++ s = q6 at cat6 HQ6
              have cat7 := fun w => pre_of [109, 64] s (by have := HS0.out; simp; omega) w
              rw [show strOf [109, 64] = ⟨#[109, 64]⟩ from rfl] at cat7
              have HQ7 := Lib.hid (show ([109, 64] ++ s).length ≤ 100000 by have := HS0.out; simp; omega)
              generalize [109, 64] ++ s = q7 at cat7 HQ7
              clear hm hlt
              go_wp2_with fail
              clear cat1 cat2 cat3 cat4 cat5 cat6 cat7 hd c1 c2
              have HW0 := Lib.hid (Below.refl wr.heap.size wr)
              obtain ⟨R, hR⟩ : ∃ R : List (List UInt8), R = [x, s, q1, q2, q3, q5, q6, q7] := ⟨_, rfl⟩
              have hcell : ∀ k, k < 8 → (wr.alloc (.cells #[.string (strOf x), .string (strOf s), .string (strOf q1), .string (strOf q2), .string (strOf q3), .string (strOf q5), .string (strOf q6), .string (strOf q7)] 9)).cell? ⟨wr.heap.size, k, none⟩ = some (.string (strOf (R.getD k []))) := fun k hk => by
                rw [hR]
                exact row_texts wr [x, s, q1, q2, q3, q5, q6, q7] k hk
              have HRL := Lib.hid (show ∀ X ∈ R, X.length ≤ 100000 by
                intro X hX
                rw [hR] at hX
                simp only [List.mem_cons, List.not_mem_nil, or_false] at hX
                rcases hX with rfl | rfl | rfl | rfl | rfl | rfl | rfl | rfl
                · exact HXQ.out
                · exact HSQ.out
                · exact HQ1.out
                · exact HQ2.out
                · exact HQ3.out
                · exact HQ5.out
                · exact HQ6.out
                · exact HQ7.out)
              have HRN := Lib.hid (show R.length = 8 by rw [hR]; rfl)
              have HV := Lib.hid (show Below wr.heap.size wr (wr.alloc (.cells #[.string (strOf x), .string (strOf s), .string (strOf q1), .string (strOf q2), .string (strOf q3), .string (strOf q5), .string (strOf q6), .string (strOf q7)] 9)) from HW0.out.alloc HW0.out.size _)
              have hgV : wr.heap.size < (wr.alloc (.cells #[.string (strOf x), .string (strOf s), .string (strOf q1), .string (strOf q2), .string (strOf q3), .string (strOf q5), .string (strOf q6), .string (strOf q7)] 9)).heap.size := by simp
              clear hR
              generalize wr.alloc (.cells #[.string (strOf x), .string (strOf s), .string (strOf q1), .string (strOf q2), .string (strOf q3), .string (strOf q5), .string (strOf q6), .string (strOf q7)] 9) = V at hcell HV hgV ⊢
              have HMV := Lib.hid (HMX.out.below HV.out)
              obtain ⟨g, hg⟩ : ∃ g, g = wr.heap.size := ⟨_, rfl⟩
              rw [← hg] at hcell hgV ⊢
              have HC := Lib.hid hcell
              have HG := Lib.hid hgV
              clear hcell hgV hg
              go_loopw [71] (fun i wk => ∃ k : Nat, k ≤ 8 ∧ i = .int .i64 (k : Int) ∧ Below V.heap.size V wk) (fun i _ => 8 - (intOf i).toNat)
              case atStart => exact ⟨0, Nat.zero_le _, rfl, Below.refl _ _⟩
              case round =>
                obtain ⟨wz, hwz⟩ : ∃ wz, wz = wr := ⟨_, rfl⟩
                subst hwz
                obtain ⟨k, hk, rfl, hb⟩ := hrel
                have HB := Lib.hid hb
                clear hb
                by_cases hlt : k < 8
                · have hd : decide ((k : Int) < 8) = true := decide_eq_true (by omega)
                  have hc := (HB.out.cell (p := ⟨g, k, none⟩) HG.out).trans (HC.out k hlt)
                  have HXL := Lib.hid (HRL.out _ (mem_getD (l := R) (k := k) (by rw [HRN.out]; exact hlt)))
                  generalize R.getD k [] = X at hc HXL
                  go_wp2_with (first
                    | (go_at_call 13; (with_reducible refine (pdns_any X HXL.out _).mono ?_); rintro e y1 ⟨rfl, hb1⟩; have HC1 := Lib.hid (below_next HB.out hb1); clear hb1)
                    | (go_at_call 14; (with_reducible refine (rdns_any X HXL.out _).mono ?_); rintro e y2 ⟨rfl, hb2⟩; have HC2 := Lib.hid (below_next HC1.out hb2); clear hb2)
                    | (go_at_call 15; (with_reducible refine (ppat_any X HXL.out _).mono ?_); rintro e y3 ⟨rfl, hb3⟩; have HC3 := Lib.hid (below_next HC2.out hb3); clear hb3)
                    | (go_at_call 16; (with_reducible refine (rpat_any X HXL.out _).mono ?_); rintro e y4 ⟨rfl, hb4⟩; have HC4 := Lib.hid (below_next HC3.out hb4); clear hb4)
                    | (go_at_call 19; (with_reducible refine (pmail_any X HXL.out _ (HMV.out.below HC4.out)).mono ?_); rintro e y5 ⟨rfl, hb5⟩; have HC5 := Lib.hid (below_next HC4.out hb5); clear hb5)
                    | (go_at_call 20; (with_reducible refine (rmail_any X HXL.out _).mono ?_); rintro e y6 ⟨rfl, hb6⟩; have HC6 := Lib.hid (below_next HC5.out hb6); clear hb6)
                    | (go_at_call 21; (with_reducible refine (pmb_any X HXL.out _ (HMV.out.below HC6.out)).mono ?_); rintro e y7 ⟨rfl, hb7⟩; have HC7 := Lib.hid (below_next HC6.out hb7); clear hb7)
                    | (go_at_call 22; (with_reducible refine (rmailbase_any X HXL.out _).mono ?_); rintro e y8 ⟨rfl, hb8⟩; have HC8 := Lib.hid (below_next HC7.out hb8); clear hb8))
                  go_roundw
                  case rel => exact ⟨k + 1, by omega, by go_num, HC8.out⟩
                  case measure => simp [intOf]; omega
                · have ek : k = 8 := by omega
                  subst ek
                  have hd : decide (((8 : Nat) : Int) < 8) = false := by decide
                  go_wp2_with (go_at_call 10; (with_reducible refine (hawake_any _ (HMV.out.below HB.out)).mono ?_); rintro e z1 ⟨rfl, hz1⟩; have HZ := Lib.hid (below_next HB.out hz1); clear hz1)
                  go_ret
                  exact ⟨rfl, HV.out.trans (HZ.out.mono HV.out.size)⟩
end Go.Proofs.YtoogfipmdkneoaaDoor
