/-
  The contracts of the program's wrap, Algorithm and join. (Of the landed program.)
  The contracts of the program's Identifier and Encode. (Of the landed program.)
  Nothing is left of this text.
  The contract of the reference's CheckAlgorithm.
-/
import Derived.Test.YtpmlkofceidnjaaDoorAau
import Derived.Test.YtpmlkofceidnjaaDoorAag
import Derived.Test.YtpmlkofceidnjaaDoorAav
import Derived.Test.YtpmlkofceidnjaaDoorAar
import Derived.Test.YtpmlkofceidnjaaDoorAan
namespace Go.Proofs.YtpmlkofceidnjaaDoor
open Go.RowKit

theorem pw1 (T : Int) (g : Nat) (x : ByteArray) (w : World) (h : w.cell? ⟨g, 0, none⟩ = some (.string x)) :
    Calls Tryd.prog 28 #[.int .i64 T, .slice (some ⟨g, 0, none⟩) 1 1] w fun e w' => e = .returned (.tuple #[.string (wr1 T x), .int .i64 ((wrapErr T x.size : Nat) : Int)]) ∧ Below w.heap.size w w' := by
  have h1 := wrap_any T _ _ w (reads_one h) (by simp)
  unfold wrapVal at h1
  rw [cat_one] at h1
  exact h1
theorem pw2 (T : Int) (g : Nat) (x y : ByteArray) (w : World) (h : w.cell? ⟨g, 0, none⟩ = some (.string x)) (k : w.cell? ⟨g, 1, none⟩ = some (.string y)) :
    Calls Tryd.prog 28 #[.int .i64 T, .slice (some ⟨g, 0, none⟩) 2 2] w fun e w' => e = .returned (.tuple #[.string (wr2 T x y), .int .i64 ((wrapErr T (x.size + y.size) : Nat) : Int)]) ∧ Below w.heap.size w w' := by
  have h1 := wrap_any T _ _ w (reads_two h k) (by simp)
  unfold wrapVal at h1
  rw [cat_two] at h1
  rw [List.length_append] at h1
  exact h1
set_option maxRecDepth 100000 in
set_option maxHeartbeats 1000000 in
theorem kw1 (T : Int) (g : Nat) (x : ByteArray) (w : World) (h : w.cell? ⟨g, 0, none⟩ = some (.string x)) :
    Calls Tryd.prog 15 #[.int .i64 T, .slice (some ⟨g, 0, none⟩) 1 1] w fun e w' => e = .returned (.string (wr1 T x)) ∧ Below w.heap.size w w' := by
  have H1 := Lib.hid (pw1 T g x w h)
  obtain ⟨R, hR⟩ : ∃ R, R = wr1 T x := ⟨_, rfl⟩
  obtain ⟨n, hn⟩ : ∃ n, n = wrapErr T x.size := ⟨_, rfl⟩
  rw [← hR, ← hn] at H1
  rw [← hR]
  clear h hR hn
  go_enter Tryd.func15, Tryd.ntmps15
  go_wp2_with (first
    | (go_at_call 28; (with_reducible refine H1.out.mono ?_); rintro e w1 ⟨rfl, hb⟩; have HB := Lib.hid hb; clear hb))
  go_ret
  exact ⟨rfl, HB.out⟩
set_option maxRecDepth 100000 in
set_option maxHeartbeats 1000000 in
theorem kw2 (T : Int) (g : Nat) (x y : ByteArray) (w : World) (h : w.cell? ⟨g, 0, none⟩ = some (.string x)) (k : w.cell? ⟨g, 1, none⟩ = some (.string y)) :
    Calls Tryd.prog 15 #[.int .i64 T, .slice (some ⟨g, 0, none⟩) 2 2] w fun e w' => e = .returned (.string (wr2 T x y)) ∧ Below w.heap.size w w' := by
  have H1 := Lib.hid (pw2 T g x y w h k)
  obtain ⟨R, hR⟩ : ∃ R, R = wr2 T x y := ⟨_, rfl⟩
  obtain ⟨n, hn⟩ : ∃ n, n = wrapErr T (x.size + y.size) := ⟨_, rfl⟩
  rw [← hR, ← hn] at H1
  rw [← hR]
  clear h k hR hn
  go_enter Tryd.func15, Tryd.ntmps15
  go_wp2_with (first
    | (go_at_call 28; (with_reducible refine H1.out.mono ?_); rintro e w1 ⟨rfl, hb⟩; have HB := Lib.hid hb; clear hb))
  go_ret
  exact ⟨rfl, HB.out⟩
set_option maxRecDepth 100000 in
set_option maxHeartbeats 1000000 in
theorem kalg_any : AlgPk := by
  intro w
  obtain ⟨C, hC⟩ : ∃ C, C = oidS oidA := ⟨_, rfl⟩
  obtain ⟨X, hX⟩ : ∃ X, X = wr1 6 C := ⟨_, rfl⟩
  have HO : Hid (∀ W : World, Calls Tryd.prog 29 #[.string ⟨#[49, 46, 51, 46, 54, 46, 49, 46, 52, 46, 49, 46, 53, 56, 56, 56, 56, 46, 49, 46, 49]⟩] W fun e w' => (∃ er : Int, e = .returned (.tuple #[.string C, .int .i64 er])) ∧ Below W.heap.size W w') := Lib.hid fun W => by rw [hC]; exact denc_any oidA W (by decide)
  have HC1 : Hid (∀ (g : Nat) (W : World), W.cell? ⟨g, 0, none⟩ = some (.string C) → Calls Tryd.prog 15 #[.int .i64 6, .slice (some ⟨g, 0, none⟩) 1 1] W fun e w' => e = .returned (.string X) ∧ Below W.heap.size W w') := Lib.hid fun g W h => by rw [hX]; exact kw1 6 g C W h
  have HC2 : Hid (∀ (g : Nat) (W : World), W.cell? ⟨g, 0, none⟩ = some (.string X) → Calls Tryd.prog 15 #[.int .i64 48, .slice (some ⟨g, 0, none⟩) 1 1] W fun e w' => e = .returned (.string algS) ∧ Below W.heap.size W w') := Lib.hid fun g W h => by
    have h1 := kw1 48 g X W h
    rw [show wr1 48 X = algS by rw [hX, hC]; rfl] at h1
    exact h1
  clear hC hX
  go_enter Tryd.func16, Tryd.ntmps16
  go_wp2_with (first
    | (go_at_call 29; (with_reducible refine (HO.out _).mono ?_); rintro e w1 ⟨⟨er, rfl⟩, hb⟩; have HB := Lib.hid hb; clear hb)
    | (go_at_call 15; (with_reducible refine (HC1.out _ _ (bx1 _ _ _)).mono ?_); rintro e w2 ⟨rfl, hb⟩; have HB2 := Lib.hid (below_next HB.out (below_next (belowNew _ _) hb)); clear hb)
    | (go_at_call 15; (with_reducible refine (HC2.out _ _ (bx1 _ _ _)).mono ?_); rintro e w3 ⟨rfl, hb⟩; have HB3 := Lib.hid (below_next HB2.out (below_next (belowNew _ _) hb)); clear hb))
  go_ret
  exact ⟨rfl, HB3.out⟩
set_option maxRecDepth 100000 in
set_option maxHeartbeats 1000000 in
theorem kjoin_any (k : KeyT) (hk : keyEE k = 0) (w : World) :
    Calls Tryd.prog 14 #[.agg #[.int .i64 k.1, .string k.2.1, .string k.2.2]] w fun e w' => e = .returned (.string (rawK k)) ∧ Below w.heap.size w w' := by
  obtain ⟨z0, z8, zi, zr⟩ := keyEE_zero hk
  obtain ⟨h, id, root⟩ := k
  simp only at z0 z8 zi zr ⊢
  obtain ⟨n, rfl⟩ : ∃ n : Nat, h = (n : Int) := ⟨h.toNat, by omega⟩
  have h1 := text_one (UInt8.ofNat (n % 256))
  rw [bcell_of (n % 256) (n : Int) (by omega)] at h1
  obtain ⟨X1, hX1⟩ : ∃ X, X = strOf (b1 n) := ⟨_, rfl⟩
  rw [show strOf [UInt8.ofNat (n % 256)] = X1 by rw [hX1]; rfl] at h1
  have h1s : X1.size = 1 := by rw [hX1]; rfl
  obtain ⟨S1, hS1⟩ : ∃ S, S = X1 ++ id := ⟨_, rfl⟩
  have hS1s : S1.size = 17 := by rw [hS1, ByteArray.size_append, h1s, zi]
  obtain ⟨S2, hS2⟩ : ∃ S, S = S1 ++ root := ⟨_, rfl⟩
  have HR : Hid (rawK ((n : Int), id, root) = S2) := Lib.hid (by rw [hS2, hS1, hX1]; rfl)
  have a1 : X1 ++ id = S1 := hS1.symm
  have a2 : S1 ++ root = S2 := hS2.symm
  have z1 : ((X1.size : Nat) : Int) + ((id.size : Nat) : Int) ≤ 9223372036854775807 := by omega
  have z2 : ((S1.size : Nat) : Int) + ((root.size : Nat) : Int) ≤ 9223372036854775807 := by omega
  have hmod : (n : Int) % 256 = (n : Int) := by omega
  rw [HR.out]
  have h2 : (convert 59 9 (.slice (some ⟨w.heap.size + 1, 0, none⟩) 1 1)).run Tryd.prog ((w.alloc (.cells #[.int .i64 (n : Int), .string id, .string root] 26)).alloc (.cells #[.int .u8 (n : Int)] 5)) = .ok (.string X1) ((w.alloc (.cells #[.int .i64 (n : Int), .string id, .string root] 26)).alloc (.cells #[.int .u8 (n : Int)] 5)) := by
    have h3 := h1 (w.alloc (.cells #[.int .i64 (n : Int), .string id, .string root] 26))
    rw [show (w.alloc (.cells #[.int .i64 (n : Int), .string id, .string root] 26)).heap.size = w.heap.size + 1 by simp] at h3
    exact h3
  clear hX1 h1s hS1 hS1s hS2 hk z0 zi zr h1
  go_enter Tryd.func14, Tryd.ntmps14
  go_wp2_with fail
  go_ret
  exact ⟨rfl, below_next (belowNew _ _) (belowNew _ _)⟩
end Go.Proofs.YtpmlkofceidnjaaDoor
namespace Go.Proofs.YtpmlkofceidnjaaDoor
open Go.RowKit

theorem kck_any (k : KeyT) (w : World) :
    Calls Tryd.prog 12 #[keyVV k] w fun e w' => e = .returned (.int .i64 ((keyEE k : Nat) : Int)) ∧ Below w.heap.size w w' := mcheck_any k.1 k.2.1 k.2.2 w
theorem wrapStr_small (T : Int) (c : List UInt8) (h : c.length ≤ 40) : (wrapStr T c).size ≤ 50 := by
  unfold wrapStr
  split
  · show (wrapL T.toNat c).length ≤ _
    unfold wrapL
    rw [List.length_cons, List.length_append, lenO_length]
    unfold lsz
    split <;> omega
  · show 0 ≤ _; omega
set_option maxRecDepth 100000 in
set_option maxHeartbeats 1000000 in
theorem kenck_any : EncPk := by
  intro k w
  have HRW := Lib.hid (fun (hk : keyEE k = 0) (W : World) => kjoin_any k hk W)
  have HCK := Lib.hid (fun W : World => kck_any k W)
  unfold encKV encK
  obtain ⟨h, id, root⟩ := k
  unfold keyVV keyV at HCK ⊢
  simp only at HRW HCK ⊢
  obtain ⟨g, hg⟩ : ∃ g, g = w.heap.size := ⟨_, rfl⟩
  obtain ⟨W1, hW1⟩ : ∃ W1, W1 = w.alloc (.cells #[.int .i64 h, .string id, .string root] 26) := ⟨_, rfl⟩
  have hq1 : W1.heap[g]? = some (.cells #[.int .i64 h, .string id, .string root] 26 (0, 0)) := by rw [hW1, hg]; exact heap_alloc_new w _
  have HW : Hid (Below w.heap.size w W1) := Lib.hid (by rw [hW1]; exact belowNew w _)
  have HW1 := Lib.hid hW1.symm
  have HG := Lib.hid hg
  have HQ1 := Lib.hid hq1
  clear hg
  rcases keyEE_or (h, id, root) with hz | hz
  · have HRW2 := Lib.hid (HRW.out hz)
    have hsz := rawK_size hz
    rw [if_pos hz]
    rw [hz] at HCK
    obtain ⟨X, hX⟩ : ∃ X, X = rawK (h, id, root) := ⟨_, rfl⟩
    rw [← hX] at HRW2 hsz ⊢
    obtain ⟨C1, hC1⟩ : ∃ C, C = strOf [0] ++ X := ⟨_, rfl⟩
    have hC1s : C1.size = 34 := by rw [hC1, ByteArray.size_append, hsz]; rfl
    rw [← hC1]
    have HPB : Hid (∀ W : World, Calls Tryd.prog 13 #[.string X, .int .i64 0] W fun e w' => e = .returned (.tuple #[.string C1, .int .i64 0]) ∧ Below W.heap.size W w') := Lib.hid fun W => by
      have h1 := pbits_any X ((0 : UInt8).toNat : Int) W (by omega)
      rw [pbits_good (by decide) (unusedOk_zero X), ← hC1] at h1
      exact h1
    obtain ⟨Y, hY⟩ : ∃ Y, Y = wr1 3 C1 := ⟨_, rfl⟩
    obtain ⟨A, hA⟩ : ∃ A, A = algS := ⟨_, rfl⟩
    obtain ⟨Z, hZ⟩ : ∃ Z, Z = wr2 48 A Y := ⟨_, rfl⟩
    have hAs : A.size = 14 := by rw [hA]; exact algS_size
    have hYs : Y.size ≤ 131000 := by
      rw [hY]
      refine Nat.le_trans (wrapStr_small 3 C1.data.toList ?_) (by decide)
      show C1.size ≤ 40
      omega
    have HAL : Hid (∀ W : World, Calls Tryd.prog 16 #[] W fun e w' => e = .returned (.string A) ∧ Below W.heap.size W w') := Lib.hid fun W => by rw [hA]; exact kalg_any W
    have HW3 : Hid (∀ (gg : Nat) (W : World), W.cell? ⟨gg, 0, none⟩ = some (.string C1) → Calls Tryd.prog 15 #[.int .i64 3, .slice (some ⟨gg, 0, none⟩) 1 1] W fun e w' => e = .returned (.string Y) ∧ Below W.heap.size W w') := Lib.hid fun gg W hh => by
      have h1 := kw1 3 gg C1 W hh
      rw [← hY] at h1
      exact h1
    have HW48 : Hid (∀ (gg : Nat) (W : World), W.cell? ⟨gg, 0, none⟩ = some (.string A) → W.cell? ⟨gg, 1, none⟩ = some (.string Y) → Calls Tryd.prog 15 #[.int .i64 48, .slice (some ⟨gg, 0, none⟩) 2 2] W fun e w' => e = .returned (.string Z) ∧ Below W.heap.size W w') := Lib.hid fun gg W hh kk => by
      have h1 := kw2 48 gg A Y W hh kk
      rw [← hZ] at h1
      exact h1
    rw [← hA, ← hY, ← hZ]
    clear hX HRW hz hW1 hq1 hC1 hC1s hsz hY hA hZ hAs hYs
    go_enter Tryd.func6, Tryd.ntmps6
    go_wp2_with fail
    rw [HW1.out]
    refine (HCK.out _).mono ?_
    rintro e w2 ⟨rfl, hb2⟩
    obtain ⟨c0, c1, c2, hgl⟩ := kcell3 ((hb2.block g (Array.getElem?_eq_some_iff.1 HQ1.out).1).trans HQ1.out)
    have HB2 := Lib.hid (below_next HW.out hb2)
    rw [← HG.out]
    clear hb2
    go_wp2_with (first
      | (go_at_call 14; (with_reducible refine (HRW2.out _).mono ?_); rintro e w3 ⟨rfl, hb3⟩; have HB3 := Lib.hid (below_next HB2.out hb3); clear hb3)
      | (go_at_call 13; (with_reducible refine (HPB.out _).mono ?_); rintro e w4 ⟨rfl, hb4⟩; have HB4 := Lib.hid (below_next HB3.out hb4); clear hb4)
      | (go_at_call 16; (with_reducible refine (HAL.out _).mono ?_); rintro e w5 ⟨rfl, hb5⟩; have HB5 := Lib.hid (below_next HB4.out hb5); clear hb5)
      | (go_at_call 15; (with_reducible refine (HW3.out _ _ (bx1 _ _ _)).mono ?_); rintro e w6 ⟨rfl, hb6⟩; have HB6 := Lib.hid (below_next HB5.out (below_next (belowNew _ _) hb6)); clear hb6)
      | (go_at_call 15; (with_reducible refine (HW48.out _ _ (bx2a _ _ _ _) (bx2b _ _ _ _)).mono ?_); rintro e w7 ⟨rfl, hb7⟩; have HB7 := Lib.hid (below_next HB6.out (below_next (belowNew _ _) hb7)); clear hb7))
    go_ret2
    exact ⟨rfl, HB7.out⟩
  · rw [if_neg (by omega)]
    rw [hz] at HCK
    clear HRW hz hW1 hq1
    go_enter Tryd.func6, Tryd.ntmps6
    go_wp2_with fail
    rw [HW1.out]
    refine (HCK.out _).mono ?_
    rintro e w2 ⟨rfl, hb2⟩
    have HB2 := Lib.hid (below_next HW.out hb2)
    clear hb2
    go_wp2_with fail
    go_ret2
    exact ⟨rfl, HB2.out⟩
end Go.Proofs.YtpmlkofceidnjaaDoor

namespace Go.Proofs.YtpmlkofceidnjaaDoor
open Go.RowKit

theorem algL_tag {x : El} {r : List El} (h : x.1 ≠ 6) : algL (x :: r) = 5 := by rw [algL_cons, if_pos h]
theorem algL_oid {x : El} {r : List El} (h : x.1 = 6) (k : oidD x.2.1 = none) : algL (x :: r) = 11 := by rw [algL_cons, if_neg (by omega), k]
theorem algL_end {x : El} {r : List El} {id : ByteArray} (h : x.1 = 6) (k : oidD x.2.1 = some id) : algL (x :: r) = if id ≠ oidA ∨ r ≠ [] then 16 else 0 := by rw [algL_cons, if_neg (by omega), k]
end Go.Proofs.YtpmlkofceidnjaaDoor
