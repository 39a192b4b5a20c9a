/-
  The walk of the law OtsDigits: it returns true.
-/
import Derived.Test.YtbmphhiafepnoaaCai
namespace Go.Proofs.Ytbmphhiafepnoaa
open Go.RowKit

/-- The cells of block g are the bytes l. -/
def CB (w : World) (g : Nat) (l : List UInt8) : Prop := g < w.heap.size ∧ ∀ j (h : j < l.length), w.cell? ⟨g, j, none⟩ = some (bcell l[j])
theorem CB.below {w w' : World} {g : Nat} {l : List UInt8} (h : CB w g l) (hb : Below w.heap.size w w') : CB w' g l :=
  ⟨Nat.lt_of_lt_of_le h.1 hb.size, fun j hj => by rw [← h.2 j hj]; exact hb.cell (p := ⟨g, j, none⟩) h.1⟩
theorem CB.new (w : World) (l : List UInt8) (t : TypeId) : CB (w.alloc (.cells (l.map bcell).toArray t)) w.heap.size l :=
  ⟨by simp, fun j hj => by
    rw [cell_of_row _ _ _ _ _ _ (heap_alloc_new w _)]
    simp [hj]⟩
theorem CB.text {w : World} {g : Nat} {l : List UInt8} (h : CB w g l) {src : TypeId} (hs : Try.prog.underlying src = some (.slice 5)) (n cap : Nat) (hn : n = l.length) : (convert src 9 (.slice (some ⟨g, 0, none⟩) n cap)).run Try.prog w = .ok (.string (strOf l)) w := by
  subst hn
  exact run_convert_bytes_back w _ _ _ ⟨g, 0, none⟩ cap l hs Try.underlying5 Try.underlying9 (fun j hj => by
    have hadd : (⟨g, 0, none⟩ : Addr).add j = ⟨g, j, none⟩ := by unfold Addr.add; split <;> simp_all
    rw [hadd]
    exact h.2 j hj)

/-- What is wanted of the program's Digits, whole. -/
def DigW : Prop := DigP ∧ ∀ (s : ByteArray) (w : World), s.size ≠ 16 → Calls Try.prog 7 #[.string s] w fun e w' => (∃ a c, e = .returned (.tuple #[.slice a 0 c, .int .i64 7])) ∧ Below w.heap.size w w'

set_option maxRecDepth 100000 in
set_option maxHeartbeats 2000000 in
theorem diglaw (s : ByteArray) (L : List UInt8) (hL : L.length = 16) (hD : DigW) (w : World) (h60 : ¬ 60 < s.size) :
    Calls Try.prog 3 #[.string s, .agg (L.map bcell).toArray] w fun e w' => e = .returned (.bool true) ∧ Below w.heap.size w w' := by
  have d1 : decide ((60 : Int) < (s.size : Int)) = false := by simp; omega
  obtain ⟨G, hG⟩ : ∃ G, G = dgS s := ⟨_, rfl⟩
  have HG : Hid (∀ W : World, Calls Try.prog 6 #[.string s] W fun e w' => e = .returned (.string G) ∧ Below W.heap.size W w') := Lib.hid fun W => by rw [hG]; exact dgq_any s (by omega) W
  have HGS := Lib.hid (show G.size = 16 by rw [hG]; exact dgS_size s)
  obtain ⟨M, hM⟩ : ∃ M, M = strOf L := ⟨_, rfl⟩
  have HMS := Lib.hid (show M.size = 16 by rw [hM]; exact hL)
  have HLL := Lib.hid hL
  have HDW := Lib.hid hD
  have HAW := Lib.hid (awakeq_any hD.1)
  have HM := Lib.hid hM
  obtain ⟨B, hB⟩ : ∃ B, B = (L.map bcell).toArray := ⟨_, rfl⟩
  rw [← hB]
  have HCN : Hid (∀ t, CB (w.alloc (.cells B t)) w.heap.size L) := Lib.hid fun t => by rw [hB]; exact CB.new w L t
  clear h60 hG hM hB hL hD
  go_enter Try.func3, Try.ntmps3
  go_wp2_with fail
  obtain ⟨W1, hW1⟩ : ∃ W1, W1 = w.alloc (.cells B 22) := ⟨_, rfl⟩
  rw [← hW1]
  have HC1 : Hid (CB W1 w.heap.size L) := Lib.hid (by rw [hW1]; exact HCN.out _)
  have HB1 : Hid (Below w.heap.size w W1) := Lib.hid (by rw [hW1]; exact belowNew w _)
  have hcv1 := (show CB W1.drew w.heap.size L from HC1.out).text Try.underlying24 16 16 HLL.out.symm
  rw [← HM.out] at hcv1
  clear hW1
  go_region_law (first | (go_simp; go_at_call 6; (with_reducible refine (HG.out _).mono ?_); rintro e w2 ⟨rfl, hb2⟩; have HB2 := Lib.hid (HB1.out.drew.next hb2); have hcv2 := ((show CB W1.drew w.heap.size L from HC1.out).below hb2).text Try.underlying24 16 16 HLL.out.symm; rw [← HM.out] at hcv2; clear hb2))
  all_goals
    simp [Act.put]
    go_wp2_with fail
    obtain ⟨g0, hg0⟩ : ∃ g0, g0 = w2.heap.size := ⟨_, rfl⟩
    obtain ⟨W2, hW2⟩ : ∃ W2, W2 = w2.alloc (.cells #[.string s, .string M, .string G] 9) := ⟨_, rfl⟩
    have HRD : Hid (Reads_z W2 (.slice (some ⟨g0, 0, none⟩) 3 3) [s, M, G]) := Lib.hid (by rw [hW2, hg0]; exact reads_row w2 [s, M, G] 9)
    have HBW : Hid (Below w.heap.size w W2) := Lib.hid (by rw [hW2]; exact HB2.out.alloc HB2.out.size _)
    rw [← hg0, ← hW2]
    clear hg0 hW2
    go_loopw [23] (fun i wr => ∃ k : Nat, k ≤ 3 ∧ i = .int .i64 (k : Int) ∧ Reads_z wr (.slice (some ⟨g0, 0, none⟩) 3 3) [s, M, G] ∧ Below w.heap.size w wr) (fun i _ => 3 - (intOf i).toNat)
    case atStart => exact ⟨0, by decide, rfl, HRD.out, HBW.out⟩
    case round =>
      obtain ⟨k, hk, rfl, hrd, hbr⟩ := hrel
      have HRK := Lib.hid hrd
      have HBR := Lib.hid hbr
      by_cases hlt : k < 3
      · have hd : decide ((k : Int) < 3) = true := by simp; omega
        have hki : (k : Int) < 3 := by omega
        obtain ⟨x, hx⟩ : ∃ x, x = [s, M, G].getD k ByteArray.empty := ⟨_, rfl⟩
        have hcell : wr.cell? ⟨g0, k, none⟩ = some (.string x) := by
          obtain ⟨a, cap, he, h⟩ := hrd
          rcases h with h | ⟨b, o, h1, h2⟩
          · cases h
          · have e1 := h2 k hlt
            simp at he
            obtain ⟨e2, _⟩ := he
            rw [h1] at e2
            simp at e2
            rw [← e2.1, ← e2.2, Nat.zero_add] at e1
            rw [e1, hx]
        clear hrd hbr hx
        by_cases h16 : x.size = 16
        · obtain ⟨D, hDD⟩ : ∃ D, D = digs x.data.toList := ⟨_, rfl⟩
          have HDL := Lib.hid (show D.length = 35 by rw [hDD, digs_len]; show 2 * x.size + 3 = 35; rw [h16])
          have HNE := Lib.hid (show D ≠ [] by intro h; have := HDL.out; rw [h] at this; cases this)
          have HP : Hid (∀ W : World, Calls Try.prog 7 #[.string x] W fun e w' => (∃ v, e = .returned (.tuple #[v, .int .i64 0]) ∧ OwnI w' W.heap.size v D) ∧ Below W.heap.size W w') := Lib.hid fun W => by rw [hDD]; exact HDW.out.1 x W h16
          have HR : Hid (∀ W : World, Calls Try.prog 8 #[.string x] W fun e w' => (∃ v, e = .returned (.tuple #[v, .int .i64 0]) ∧ OwnI w' W.heap.size v D) ∧ Below W.heap.size W w') := Lib.hid fun W => by rw [hDD]; exact rdig_ok x h16 W
          clear hDD
          go_wp2_with (first | (go_at_call 7; (with_reducible refine (HP.out _).mono ?_); rintro e w3 ⟨⟨v, rfl, ho3⟩, hb3⟩; obtain ⟨g3, c3, rfl, _, hI3, _⟩ := ho3.open HNE.out; rw [HDL.out]; have HI3 := Lib.hid hI3; have HB3 := Lib.hid (HBR.out.next hb3); have HR3 := Lib.hid (HRK.out.old hb3); clear hb3 ho3 hI3) | (go_at_call 8; (with_reducible refine (HR.out _).mono ?_); rintro e w4 ⟨⟨v, rfl, ho4⟩, hb4⟩; obtain ⟨g4, c4, rfl, _, hI4, _⟩ := ho4.open HNE.out; rw [HDL.out]; have HI4 := Lib.hid hI4; have HI34 := Lib.hid (HI3.out.below hb4); have HB4 := Lib.hid (HB3.out.next hb4); have HR4 := Lib.hid (HR3.out.old hb4); clear hb4 ho4 hI4))
          go_loopw [49] (fun i wq => ∃ j : Nat, j ≤ 35 ∧ i = .int .i64 (j : Int) ∧ ILie wq g3 D ∧ ILie wq g4 D ∧ Reads_z wq (.slice (some ⟨g0, 0, none⟩) 3 3) [s, M, G] ∧ Below w.heap.size w wq) (fun i _ => 35 - (intOf i).toNat)
          case atStart => exact ⟨0, by decide, rfl, HI34.out, HI4.out, HR4.out, HB4.out⟩
          case round =>
            obtain ⟨j, hj, rfl, hi3, hi4, hr5, hb5⟩ := hrel
            by_cases hjt : j < 35
            · have hdj : decide ((j : Int) < 35) = true := by simp; omega
              have hji : (j : Int) < 35 := by omega
              have hc3 := hi3.cell j (by rw [HDL.out]; exact hjt)
              have hc4 := hi4.cell j (by rw [HDL.out]; exact hjt)
              generalize D.getD j 0 = y at hc3 hc4
              have hc3d : wr.drew.cell? ⟨g3, j, none⟩ = some (.int .i64 ((y : Nat) : Int)) := hc3
              have hc4d : wr.drew.cell? ⟨g4, j, none⟩ = some (.int .i64 ((y : Nat) : Int)) := hc4
              have HI3' := Lib.hid hi3
              have HI4' := Lib.hid hi4
              have HR5 := Lib.hid hr5
              have HB5 := Lib.hid hb5
              clear hi3 hi4 hr5 hb5
              go_wp2_with fail
              go_region
              go_wp2_with fail
              go_roundw
              case rel => exact ⟨j + 1, by omega, by go_num, HI3'.out, HI4'.out, HR5.out, HB5.out.drew⟩
              case measure => simp [intOf]; omega
            · have hj35 : j = 35 := by omega
              subst hj35
              have hdj : decide ((35 : Int) < 35) = false := by decide
              have HR5 := Lib.hid hr5
              have HB5 := Lib.hid hb5
              clear hr5 hb5
              go_wp2_with fail
              go_roundw
              case rel => exact ⟨k + 1, by omega, by go_num, HR5.out, HB5.out⟩
              case measure => simp [intOf]; omega
        · have HP : Hid (∀ W : World, Calls Try.prog 7 #[.string x] W fun e w' => (∃ a c, e = .returned (.tuple #[.slice a 0 c, .int .i64 7])) ∧ Below W.heap.size W w') := Lib.hid fun W => HDW.out.2 x W h16
          have HR : Hid (∀ W : World, Calls Try.prog 8 #[.string x] W fun e w' => e = .returned (.tuple #[.slice none 0 0, .int .i64 7]) ∧ Below W.heap.size W w') := Lib.hid fun W => rdig_bad x h16 W
          go_wp2_with (first | (go_at_call 7; (with_reducible refine (HP.out _).mono ?_); rintro e w3 ⟨⟨a3, c3, rfl⟩, hb3⟩; have HB3 := Lib.hid (HBR.out.next hb3); have HR3 := Lib.hid (HRK.out.old hb3); clear hb3) | (go_at_call 8; (with_reducible refine (HR.out _).mono ?_); rintro e w4 ⟨rfl, hb4⟩; have HB4 := Lib.hid (HB3.out.next hb4); have HR4 := Lib.hid (HR3.out.old hb4); clear hb4))
          go_loopw [49] (fun i wq => i = .int .i64 0 ∧ Reads_z wq (.slice (some ⟨g0, 0, none⟩) 3 3) [s, M, G] ∧ Below w.heap.size w wq) (fun _ _ => 0)
          case atStart => exact ⟨rfl, HR4.out, HB4.out⟩
          case round =>
            obtain ⟨rfl, hr5, hb5⟩ := hrel
            have HR5 := Lib.hid hr5
            have HB5 := Lib.hid hb5
            clear hr5 hb5
            go_wp2_with fail
            go_roundw
            case rel => exact ⟨k + 1, by omega, by go_num, HR5.out, HB5.out⟩
            case measure => simp [intOf]; omega
      · have hk3 : k = 3 := by omega
        subst hk3
        have hd : decide ((3 : Int) < 3) = false := by decide
        go_wp2_with (first | (go_at_call 5; (with_reducible refine (HAW.out _).mono ?_); rintro e w9 ⟨rfl, hb9⟩; have HB9 := Lib.hid (HBR.out.next hb9); clear hb9))
        go_ret
        exact ⟨rfl, HB9.out⟩
set_option maxRecDepth 100000 in
set_option maxHeartbeats 1000000 in
theorem digl_all (s : ByteArray) (L : List UInt8) (hL : L.length = 16) (hD : DigW) (w : World) :
    Calls Try.prog 3 #[.string s, .agg (L.map bcell).toArray] w fun e w' => e = .returned (.bool true) ∧ Below w.heap.size w w' := by
  by_cases h : 60 < s.size
  · have d1 : decide ((60 : Int) < (s.size : Int)) = true := by simp; omega
    have HAW := Lib.hid (awakeq_any hD.1)
    obtain ⟨B, hB⟩ : ∃ B, B = (L.map bcell).toArray := ⟨_, rfl⟩
    rw [← hB]
    have HW := Lib.hid (fun t => belowNew w (.cells B t))
    clear h hB hL
    go_enter Try.func3, Try.ntmps3
    go_wp2_with (first | (go_at_call 5; (with_reducible refine (HAW.out _).mono ?_); rintro e w9 ⟨rfl, hb9⟩; have HB9 := Lib.hid ((HW.out _).next hb9); clear hb9))
    go_ret
    exact ⟨rfl, HB9.out⟩
  · exact diglaw s L hL hD w h
end Go.Proofs.Ytbmphhiafepnoaa
