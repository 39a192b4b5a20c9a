/-
  The contracts of PermitsAll, of package subtree and of the reference.
-/
import Derived.Test.YtjdfgalcnbnobaaGreatDoorPbk
namespace Go.Proofs.YtjdfgalcnbnobaaGreatDoor
open Go.RowKit

theorem allG_false {L : List Sub} {l : List Gn} {g : Gn} (hg : g ∈ l) (h : perG L g = false) : allG L l = false := by
  unfold allG
  rw [List.all_eq_false]
  exact ⟨g, hg, by rw [h]; decide⟩
theorem mem_getD {α : Type} {l : List α} {k : Nat} (h : k < l.length) (d : α) : l.getD k d ∈ l := by
  rw [List.getD_eq_getElem?_getD, List.getElem?_eq_getElem h]; exact List.getElem_mem h
theorem mem_subj {n : Nm} {r : List At} {x : At} (hr : r ∈ n) (hx : x ∈ r) (hm : isMl x = true) : gMl x ∈ subjL n :=
  List.mem_append.2 (.inr (List.mem_flatMap.2 ⟨r, hr, List.mem_map.2 ⟨x, List.mem_filter.2 ⟨hx, hm⟩, rfl⟩⟩))
set_option maxRecDepth 100000 in
set_option maxHeartbeats 4000000 in
theorem refused_any (a0 ag : Option Addr) (c m cg N B : Nat) (L : List Sub) (q : Int) (t : List UInt8) (n : Nm) (W : World) (hc : W.cell? ⟨B, 0, none⟩ = some (.slice a0 m c)) (hB : B < W.heap.size) (h : SLies W a0 L) (hm : m = L.length) (hs : OkS L) (hg : RLies W ag n) (hN : N = n.length) (hNc : N ≤ cg) (hsg : SmG (q, t, n)) (hmk : Mk W) :
    Calls Tryz.prog 36 (#[.agg #[.int .i64 q, .string (strOf t), .slice ag N cg]] ++ #[.pointer (some ⟨B, 0, none⟩)]) W fun e w' => e = .returned (.bool (!perG L (q, t, n))) ∧ Below W.heap.size W w' := by
  obtain ⟨W0, hW0⟩ : ∃ W0, W0 = W.alloc (.cells #[.int .i64 q, .string (strOf t), .slice ag N cg] 32) := ⟨_, rfl⟩
  have hwr := hW0.symm
  have hb0 : Below W.heap.size W W0 := by rw [hW0]; exact belowNew W _
  obtain ⟨b0, b1, b2, lb⟩ := three_facts (w := W0) (g := W.heap.size) (by rw [hW0]; exact heap_alloc_new W _)
  have k0 := (hb0.cell (p := ⟨B, 0, none⟩) hB).trans hc
  have HB0 := Lib.hid hb0
  have HX := Lib.hid (permits_core a0 ag c m cg N L q t n W0 (h.below hb0) hm (by rw [hm]; exact hs.2.1) (hg.below hb0) hN hNc hsg hs.1 hs.2.2 (hmk.below hb0))
  generalize perG L (q, t, n) = E at HX ⊢
  clear h hm hs hg hN hNc hsg hmk hb0 hW0 hc
  go_enter Tryz.func36, Tryz.ntmps36
  go_wp2_with (go_at_call 17; (with_reducible refine HX.out.mono ?_); rintro e w3 ⟨rfl, hb3⟩; have HB3 := Lib.hid (below_next HB0.out hb3); clear hb3)
  go_ret
  exact ⟨rfl, HB3.out⟩
set_option maxRecDepth 100000 in
set_option maxHeartbeats 4000000 in
theorem pall_core (a0 a1 a2 : Option Addr) (c m c1 N c2 m2 : Nat) (L : List Sub) (n : Nm) (l : List Gn) (w : World) (h : SLies w a0 L) (hm : m = L.length) (hs : OkS L) (h1 : RLies w a1 n) (hN : N = n.length) (hc1 : N ≤ c1) (hsb : SbN n) (h2 : GLies w a2 l) (hm2 : m2 = l.length) (hmz : m2 ≤ 1000000) (hl : SmL l) (hmk : Mk w) :
    Calls Tryz.prog 22 #[.agg #[.slice a0 m c], .agg #[.slice a1 N c1], .slice a2 m2 c2] w fun e w' => e = .returned (.bool (allG L (subjL n) && allG L l)) ∧ Below w.heap.size w w' := by
  obtain ⟨W0, hW0⟩ : ∃ W0, W0 = (w.alloc (.cells #[.slice a0 m c] 24)).alloc (.cells #[.slice a1 N c1] 30) := ⟨_, rfl⟩
  have hwr := hW0.symm
  have hb0 : Below w.heap.size w W0 := by rw [hW0]; exact belowTwo w _ _
  obtain ⟨x0, _, lx⟩ := one_facts (w := W0) (g := w.heap.size) (by rw [hW0, heap_first]; exact heap_alloc_new w _)
  obtain ⟨y0, _, ly⟩ := one_facts (w := W0) (g := w.heap.size + 1) (by rw [hW0]; exact heap_second w _ _ _)
  have HB0 := Lib.hid hb0
  have HSB := Lib.hid hsb
  have HSJ := Lib.hid (subject_core a1 c1 N n W0 (h1.below hb0) hN hc1 hsb)
  have HCF := Lib.hid (fun (a : Option Addr) (c' : Nat) (l' : List Gn) (V : World) (hv : GLiesQ (fun a m => RLies W0 a m) V a l') (hbv : Below W0.heap.size W0 V) (hz : l'.length ≤ 9223372036854775807) (hsl : SmL l') =>
    contf_core 36 #[.pointer (some ⟨w.heap.size, 0, none⟩)] (enters_of Tryz.func36 (by kernel_rfl) rfl) (fun g => !perG L g) SmG (fun a m => RLies W0 a m) (fun W => Below W0.heap.size W0 W) (fun W W' h hb => below_next h hb)
    (fun ag cg N' q t n' W hI hr hN' hNc' hsg => refused_any a0 ag c m cg N' w.heap.size L q t n' W ((hI.cell (p := ⟨w.heap.size, 0, none⟩) lx).trans x0) (Nat.lt_of_lt_of_le lx hI.size) ((h.below hb0).below hI) hm hs (hr.below hI) hN' hNc' hsg ((hmk.below hb0).below hI)) a c' l'.length l' V hv rfl hz hbv hsl)
  have HL2 := Lib.hid (fun V (hbv : Below W0.heap.size W0 V) => ((h2.below hb0).toQ).below hbv)
  have HLZ := Lib.hid (show l.length ≤ 9223372036854775807 by omega)
  have HLS := Lib.hid hl
  have HM2 := Lib.hid hm2
  obtain ⟨x, hx⟩ : ∃ x, x = (subjL n).any fun g => !perG L g := ⟨_, rfl⟩
  obtain ⟨y, hy⟩ : ∃ y, y = l.any fun g => !perG L g := ⟨_, rfl⟩
  rw [← any_not, ← any_not, ← hx, ← hy]
  have HXE := Lib.hid hx.symm
  have HYE := Lib.hid hy.symm
  clear h hm hs h1 hN hc1 hsb h2 hm2 hmz hl hmk hb0 hW0 hx hy x0 lx ly
  cases x with
  | true =>
    go_enter Tryz.func22, Tryz.ntmps22
    go_wp2_with (first
      | (go_at_call 38; (with_reducible refine HSJ.out.mono ?_); rintro e w3 ⟨v, rfl, hr3, hl3, hb3⟩; obtain ⟨a3, c3, rfl, _, hq3⟩ := hr3.lies; have HB3 := Lib.hid hb3; have HC1 := Lib.hid (HCF.out a3 c3 (subjL n) w3 hq3 hb3 (Nat.le_trans hl3 (by omega)) (subjL_sm HSB.out)); rw [HXE.out] at HC1; clear hr3 hb3 hl3 hq3)
      | (go_at_call 37; (with_reducible refine HC1.out.mono ?_); rintro e w4 ⟨rfl, hb4⟩; have HB4 := Lib.hid (below_next HB3.out hb4); have HC2 := Lib.hid (HCF.out a2 c2 l w4 (HL2.out w4 (below_next HB3.out hb4)) (below_next HB3.out hb4) HLZ.out HLS.out); rw [HYE.out, ← HM2.out] at HC2; clear hb4)
      | (go_at_call 37; (with_reducible refine HC2.out.mono ?_); rintro e w5 ⟨rfl, hb5⟩; have HB4 := Lib.hid (below_next HB4.out hb5); clear hb5))
    go_ret
    exact ⟨rfl, below_next HB0.out HB4.out⟩
  | false =>
    cases y with
    | true =>
      go_enter Tryz.func22, Tryz.ntmps22
      go_wp2_with (first
        | (go_at_call 38; (with_reducible refine HSJ.out.mono ?_); rintro e w3 ⟨v, rfl, hr3, hl3, hb3⟩; obtain ⟨a3, c3, rfl, _, hq3⟩ := hr3.lies; have HB3 := Lib.hid hb3; have HC1 := Lib.hid (HCF.out a3 c3 (subjL n) w3 hq3 hb3 (Nat.le_trans hl3 (by omega)) (subjL_sm HSB.out)); rw [HXE.out] at HC1; clear hr3 hb3 hl3 hq3)
        | (go_at_call 37; (with_reducible refine HC1.out.mono ?_); rintro e w4 ⟨rfl, hb4⟩; have HB4 := Lib.hid (below_next HB3.out hb4); have HC2 := Lib.hid (HCF.out a2 c2 l w4 (HL2.out w4 (below_next HB3.out hb4)) (below_next HB3.out hb4) HLZ.out HLS.out); rw [HYE.out, ← HM2.out] at HC2; clear hb4)
        | (go_at_call 37; (with_reducible refine HC2.out.mono ?_); rintro e w5 ⟨rfl, hb5⟩; have HB4 := Lib.hid (below_next HB4.out hb5); clear hb5))
      go_ret
      exact ⟨rfl, below_next HB0.out HB4.out⟩
    | false =>
      go_enter Tryz.func22, Tryz.ntmps22
      go_wp2_with (first
        | (go_at_call 38; (with_reducible refine HSJ.out.mono ?_); rintro e w3 ⟨v, rfl, hr3, hl3, hb3⟩; obtain ⟨a3, c3, rfl, _, hq3⟩ := hr3.lies; have HB3 := Lib.hid hb3; have HC1 := Lib.hid (HCF.out a3 c3 (subjL n) w3 hq3 hb3 (Nat.le_trans hl3 (by omega)) (subjL_sm HSB.out)); rw [HXE.out] at HC1; clear hr3 hb3 hl3 hq3)
        | (go_at_call 37; (with_reducible refine HC1.out.mono ?_); rintro e w4 ⟨rfl, hb4⟩; have HB4 := Lib.hid (below_next HB3.out hb4); have HC2 := Lib.hid (HCF.out a2 c2 l w4 (HL2.out w4 (below_next HB3.out hb4)) (below_next HB3.out hb4) HLZ.out HLS.out); rw [HYE.out, ← HM2.out] at HC2; clear hb4)
        | (go_at_call 37; (with_reducible refine HC2.out.mono ?_); rintro e w5 ⟨rfl, hb5⟩; have HB4 := Lib.hid (below_next HB4.out hb5); clear hb5))
      go_ret
      exact ⟨rfl, below_next HB0.out HB4.out⟩
set_option maxRecDepth 100000 in
set_option maxHeartbeats 8000000 in
theorem rpall_core (a0 a1 a2 : Option Addr) (c m c1 N c2 m2 : Nat) (L : List Sub) (n : Nm) (l : List Gn) (w : World) (h : SLies w a0 L) (hm : m = L.length) (hs : OkS L) (h1 : RLies w a1 n) (hN : N = n.length) (hsb : SbN n) (h2 : GLies w a2 l) (hm2 : m2 = l.length) (hmz : m2 ≤ 1000000) (hl : SmL l) :
    Calls Tryz.prog 23 #[.agg #[.slice a0 m c], .agg #[.slice a1 N c1], .slice a2 m2 c2] w fun e w' => e = .returned (.bool (allG L (subjL n) && allG L l)) ∧ Below w.heap.size w w' := by
  obtain ⟨W0, hW0⟩ : ∃ W0, W0 = (w.alloc (.cells #[.slice a0 m c] 24)).alloc (.cells #[.slice a1 N c1] 30) := ⟨_, rfl⟩
  have hwr := hW0.symm
  have hb0 : Below w.heap.size w W0 := by rw [hW0]; exact belowTwo w _ _
  obtain ⟨x0, _, lx⟩ := one_facts (w := W0) (g := w.heap.size) (by rw [hW0, heap_first]; exact heap_alloc_new w _)
  obtain ⟨y0, _, ly⟩ := one_facts (w := W0) (g := w.heap.size + 1) (by rw [hW0]; exact heap_second w _ _ _)
  have hN1 : N ≤ 1000 := by rw [hN]; exact hsb.2.1
  have HB0 := Lib.hid hb0
  have HSB := Lib.hid hsb
  have HPE := Lib.hid (fun (ag : Option Addr) (cg N' : Nat) (q : Int) (t : List UInt8) (n' : Nm) (V : World) (hbv : Below W0.heap.size W0 V) (hg : RLies V ag n') (hN' : N' = n'.length) (hsg : SmG (q, t, n')) => rpermits_core a0 ag c m cg N' L q t n' V ((h.below hb0).below hbv) hm (by rw [hm]; exact hs.2.1) hg hN' hsg hs.1 hs.2.2)
  have H1 := Lib.hid (h1.below hb0)
  have H2 := Lib.hid (h2.below hb0)
  have HNN := Lib.hid hN
  have HM2 := Lib.hid hm2
  have HLS := Lib.hid hl
  have X0 := Lib.hid x0
  have Y0 := Lib.hid y0
  obtain ⟨E, hE⟩ : ∃ E, E = (allG L (subjL n) && allG L l) := ⟨_, rfl⟩
  rw [← hE]
  have HE := Lib.hid hE
  clear h hm hs h1 hN hsb h2 hm2 hl hb0 hW0 hE
  by_cases hbad : N ≠ 0 ∧ perG L (4, [], n) = false
  · have d0 : decide ((0 : Int) < (N : Int)) = true := by simp; omega
    have d00 : decide (0 < N) = true := decide_eq_true (by omega)
    have HV := Lib.hid (show E = false by
      rw [HE.out, allG_false (l := subjL n) (g := (4, [], n)) (List.mem_append.2 (.inl (by unfold headL; rw [if_neg (by rw [← HNN.out]; exact hbad.1)]; simp))) hbad.2]; rfl)
    have HP := Lib.hid (HPE.out a1 c1 N 4 [] n W0 (Below.refl _ _) H1.out HNN.out ⟨by simp, HSB.out.1⟩)
    rw [hbad.2, show strOf [] = ⟨#[]⟩ from rfl] at HP
    clear hbad
    go_enter Tryz.func23, Tryz.ntmps23
    go_wp2_with (go_at_call 18; (with_reducible refine HP.out.mono ?_); rintro e w3 ⟨rfl, hb9⟩; have HB9 := Lib.hid hb9; clear hb9)
    go_ret
    exact ⟨by rw [HV.out]; rfl, below_next HB0.out HB9.out⟩
  have HHD := Lib.hid (show allG L (headL n) = true by
    unfold headL
    split
    · rfl
    · rename_i h0
      have : perG L (4, [], n) = true := by
        cases hp : perG L (4, [], n) with
        | true => rfl
        | false => exact absurd ⟨by rw [HNN.out]; exact h0, hp⟩ hbad
      simp [allG, this])
  have HST := Lib.hid (show N = 0 ∨ (N ≠ 0 ∧ perG L (4, [], n) = true) by
    by_cases h0 : N = 0
    · exact .inl h0
    · cases hp : perG L (4, [], n) with
      | true => exact .inr ⟨h0, rfl⟩
      | false => exact absurd ⟨h0, hp⟩ hbad)
  clear hbad
  rcases HST.out with h0 | ⟨h0, hp⟩
  · have d0 : decide ((0 : Int) < (N : Int)) = false := by simp; omega
    have d00 : decide (0 < N) = false := decide_eq_false (by omega)
    have HB9 := Lib.hid (Below.refl W0.heap.size W0)
    clear h0
    go_enter Tryz.func23, Tryz.ntmps23
    go_wp2_with fail
    clear hwr x0 y0 d0 d00
    go_loopw [27] (fun i wr => ∃ k : Nat, k ≤ N ∧ i = .int .i64 k ∧ allG L ((n.take k).flatMap mailsL) = true ∧ Below W0.heap.size W0 wr) (fun i _ => N - (intOf i).toNat)
    case atStart => exact ⟨0, Nat.zero_le _, rfl, rfl, HB9.out⟩
    case round =>
      obtain ⟨wz, hwz⟩ : ∃ wz, wz = wr := ⟨_, rfl⟩
      subst hwz
      obtain ⟨k, hk, rfl, ha, hb⟩ := hrel
      have HB := Lib.hid hb
      have HA := Lib.hid ha
      clear ha hb HB9
      by_cases hlt : k < N
      · have hd : decide ((k : Int) < (N : Int)) = true := by simp; omega
        obtain ⟨b, o, rfl, hbl, a1', c1', e0, hc1, hL1⟩ := H1.out.at k (by rw [← HNN.out]; exact hlt)
        have f0 := (HB.out.cell (p := ⟨b, o + k, none⟩) hbl).trans e0
        have hsk := HSB.out.at (k := k) (by rw [← HNN.out]; exact hlt)
        have hfs := flat_step n k (by rw [← HNN.out]; exact hlt)
        have HMR := Lib.hid (mem_getD (l := n) (k := k) (by rw [← HNN.out]; exact hlt) [])
        have HLT := Lib.hid hlt
        clear e0 hbl
        generalize n.getD k [] = r at f0 hsk hL1 hc1 hfs HMR
        obtain ⟨Z, hZ⟩ : ∃ Z, Z = r.length := ⟨_, rfl⟩
        have HRL := Lib.hid hL1
        have HZ := Lib.hid hZ
        have HSK := Lib.hid hsk
        have HFS := Lib.hid hfs
        rw [← hZ] at f0
        have hzz : Z ≤ 1000 := by rw [hZ]; exact hsk.1
        clear hL1 hc1 hZ hsk hfs
        go_wp2_with fail
        clear f0
        go_loopw [33] (fun i ws => ∃ j : Nat, j ≤ Z ∧ i = .int .i64 j ∧ allG L (mailsL (r.take j)) = true ∧ Below W0.heap.size W0 ws) (fun i _ => Z - (intOf i).toNat)
        case atStart => exact ⟨0, Nat.zero_le _, rfl, rfl, HB.out⟩
        case round =>
          obtain ⟨wy, hwy⟩ : ∃ wy, wy = wr := ⟨_, rfl⟩
          subst hwy
          obtain ⟨j, hj, rfl, ha, hb⟩ := hrel
          have HBY := Lib.hid hb
          have HAY := Lib.hid ha
          clear hb ha HB
          by_cases hlj : j < Z
          · have hd2 : decide ((j : Int) < (Z : Int)) = true := by simp; omega
            obtain ⟨b', o', rfl, hbl, e0, e1, e2⟩ := HRL.out.at j (by rw [← HZ.out]; exact hlj)
            have f0 := (HBY.out.cell (p := ⟨b', o' + j * 3, none⟩) hbl).trans e0
            have f1 := (HBY.out.cell (p := ⟨b', o' + j * 3 + 1, none⟩) hbl).trans e1
            have f2 := (HBY.out.cell (p := ⟨b', o' + j * 3 + 2, none⟩) hbl).trans e2
            have hst := mails_step r j (by rw [← HZ.out]; exact hlj)
            have hmy := mem_getD (l := r) (k := j) (by rw [← HZ.out]; exact hlj) noAt
            have hvx := HSK.out.2 (r.getD j noAt) hmy
            have HLJ := Lib.hid hlj
            clear e0 e1 e2 hbl
            generalize r.getD j noAt = y at f0 f1 f2 hst hvx hmy
            obtain ⟨ty, ky, vy⟩ := y
            simp only at f0 f1 f2
            obtain ⟨W2, hW2⟩ : ∃ W2, W2 = wy.alloc (.cells #[.string ty, .int .i64 ky, .string vy] 69) := ⟨_, rfl⟩
            have hb2 : Below wy.heap.size wy W2 := by rw [hW2]; exact belowNew wy _
            obtain ⟨g0, g1, g2, lg⟩ := three_facts (w := W2) (g := wy.heap.size) (by rw [hW2]; exact heap_alloc_new wy _)
            have HB2 := Lib.hid (below_next HBY.out hb2)
            have HWE := hW2.symm
            have x2 := ((below_next HBY.out hb2).cell (p := ⟨w.heap.size, 0, none⟩) lx).trans X0.out
            clear hb2 hW2
            by_cases hml : isMl (ty, ky, vy) = true
            · have d3 : (ty.toList == [49, 46, 50, 46, 56, 52, 48, 46, 49, 49, 51, 53, 52, 57, 46, 49, 46, 57, 46, 49]) = true := hml
              have HP := Lib.hid (HPE.out none 0 0 1 vy.data.toList [] W2 HB2.out (.inl rfl) rfl (gMl_sm (x := (ty, ky, vy)) hvx))
              rw [str_back, show ((1 : Int), vy.data.toList, ([] : Nm)) = gMl (ty, ky, vy) from rfl] at HP
              have HBAD := Lib.hid (fun (hp : perG L (gMl (ty, ky, vy)) = false) => show E = false by rw [HE.out, allG_false (mem_subj HMR.out hmy hml) hp]; rfl)
              have HGD := Lib.hid (fun (hp : perG L (gMl (ty, ky, vy)) = true) => show allG L (mailsL (r.take (j + 1))) = true by rw [hst, if_pos hml, allG_append, HAY.out]; simp [allG, hp])
              clear hst hml hvx hmy
              generalize perG L (gMl (ty, ky, vy)) = P at HP HBAD HGD
              cases P with
              | true =>
                go_wp2_with (go_at_call 18; (with_reducible refine HP.out.mono ?_); rintro e w3 ⟨rfl, hb9⟩; have HB8 := Lib.hid hb9; clear hb9)
                go_roundw
                case rel => exact ⟨j + 1, HLJ.out, by go_num, HGD.out (by simp), below_next HB2.out HB8.out⟩
                case measure => simp [intOf]; omega
              | false =>
                go_wp2_with (go_at_call 18; (with_reducible refine HP.out.mono ?_); rintro e w3 ⟨rfl, hb9⟩; have HB8 := Lib.hid hb9; clear hb9)
                go_ret
                exact ⟨by rw [HBAD.out (by simp)]; rfl, below_next HB0.out (below_next HB2.out HB8.out)⟩
            · have d3 : (ty.toList == [49, 46, 50, 46, 56, 52, 48, 46, 49, 49, 51, 53, 52, 57, 46, 49, 46, 57, 46, 49]) = false := by simpa [isMl, mailT] using hml
              have HGD := Lib.hid (show allG L (mailsL (r.take (j + 1))) = true by rw [hst, if_neg hml, List.append_nil]; exact HAY.out)
              clear hst hml hvx hmy
              go_wp2_with fail
              go_roundw
              case rel => exact ⟨j + 1, HLJ.out, by go_num, HGD.out, HB2.out⟩
              case measure => simp [intOf]; omega
          · have hd2 : decide ((j : Int) < (Z : Int)) = false := by simp; omega
            obtain rfl : j = Z := by omega
            have HTJ := Lib.hid (show r.take j = r from List.take_of_length_le (by rw [← HZ.out]; exact Nat.le_refl _))
            go_wp2_with fail
            go_roundw
            case rel => exact ⟨k + 1, HLT.out, by go_num, by rw [HFS.out, allG_append, HA.out, ← HTJ.out, HAY.out]; rfl, HBY.out⟩
            case measure => simp [intOf]; omega
      · have hd : decide ((k : Int) < (N : Int)) = false := by simp; omega
        obtain rfl : k = N := by omega
        have HSJ := Lib.hid (show allG L (subjL n) = true by
          unfold subjL
          rw [allG_append, HHD.out]
          have h := HA.out
          rw [List.take_of_length_le (by rw [← HNN.out]; exact Nat.le_refl _)] at h
          rw [h]; rfl)
        go_wp2_with fail
        go_loopw [52] (fun i ws => ∃ j : Nat, j ≤ m2 ∧ i = .int .i64 j ∧ allG L (l.take j) = true ∧ Below W0.heap.size W0 ws) (fun i _ => m2 - (intOf i).toNat)
        case atStart => exact ⟨0, Nat.zero_le _, rfl, rfl, HB.out⟩
        case round =>
          obtain ⟨wy, hwy⟩ : ∃ wy, wy = wr := ⟨_, rfl⟩
          subst hwy
          obtain ⟨j, hj, rfl, ha, hb⟩ := hrel
          have HBY := Lib.hid hb
          have HAY := Lib.hid ha
          clear hb ha HB
          by_cases hlj : j < m2
          · have hd2 : decide ((j : Int) < (m2 : Int)) = true := by simp; omega
            obtain ⟨b', o', rfl, hbl, e0, e1, a3, c3, e2, hc3, hL3⟩ := H2.out.at j (by rw [← HM2.out]; exact hlj)
            have f0 := (HBY.out.cell (p := ⟨b', o' + j * 3, none⟩) hbl).trans e0
            have f1 := (HBY.out.cell (p := ⟨b', o' + j * 3 + 1, none⟩) hbl).trans e1
            have f2 := (HBY.out.cell (p := ⟨b', o' + j * 3 + 2, none⟩) hbl).trans e2
            have hst := takeN l j (by rw [← HM2.out]; exact hlj) noG
            have hsm := HLS.out.at (i := j) (by rw [← HM2.out]; exact hlj)
            have hmy := mem_getD (l := l) (k := j) (by rw [← HM2.out]; exact hlj) noG
            have HLJ := Lib.hid hlj
            clear e0 e1 e2 hbl
            generalize l.getD j noG = y at f0 f1 f2 hst hsm hmy hc3 hL3
            obtain ⟨q, t, n3⟩ := y
            simp only at f0 f1 f2 hc3 hL3
            obtain ⟨N3, hN3⟩ : ∃ N3, N3 = n3.length := ⟨_, rfl⟩
            rw [← hN3] at f2
            obtain ⟨W2, hW2⟩ : ∃ W2, W2 = wy.alloc (.cells #[.int .i64 q, .string (strOf t), .slice a3 N3 c3] 32) := ⟨_, rfl⟩
            have hb2 : Below wy.heap.size wy W2 := by rw [hW2]; exact belowNew wy _
            obtain ⟨g0, g1, g2, lg⟩ := three_facts (w := W2) (g := wy.heap.size) (by rw [hW2]; exact heap_alloc_new wy _)
            have HB2 := Lib.hid (below_next HBY.out hb2)
            have HWE := hW2.symm
            have x2 := ((below_next HBY.out hb2).cell (p := ⟨w.heap.size, 0, none⟩) lx).trans X0.out
            have HP := Lib.hid (HPE.out a3 c3 N3 q t n3 W2 HB2.out ((hL3.below HBY.out).below hb2) hN3 hsm)
            have HBAD := Lib.hid (fun (hp : perG L (q, t, n3) = false) => show E = false by rw [HE.out, allG_false (l := l) hmy hp]; cases allG L (subjL n) <;> rfl)
            have HGD := Lib.hid (fun (hp : perG L (q, t, n3) = true) => show allG L (l.take (j + 1)) = true by rw [hst, allG_append, HAY.out]; simp [allG, hp])
            clear hst hsm hmy hc3 hL3 hN3 hb2 hW2
            generalize perG L (q, t, n3) = P at HP HBAD HGD
            cases P with
            | true =>
              go_wp2_with (go_at_call 18; (with_reducible refine HP.out.mono ?_); rintro e w3 ⟨rfl, hb9⟩; have HB8 := Lib.hid hb9; clear hb9)
              go_roundw
              case rel => exact ⟨j + 1, HLJ.out, by go_num, HGD.out (by simp), below_next HB2.out HB8.out⟩
              case measure => simp [intOf]; omega
            | false =>
              go_wp2_with (go_at_call 18; (with_reducible refine HP.out.mono ?_); rintro e w3 ⟨rfl, hb9⟩; have HB8 := Lib.hid hb9; clear hb9)
              go_ret
              exact ⟨by rw [HBAD.out (by simp)]; rfl, below_next HB0.out (below_next HB2.out HB8.out)⟩
          · have hd2 : decide ((j : Int) < (m2 : Int)) = false := by simp; omega
            obtain rfl : j = m2 := by omega
            have HEV := Lib.hid (show E = true by
              have h := HAY.out
              rw [List.take_of_length_le (by rw [← HM2.out]; exact Nat.le_refl _)] at h
              rw [HE.out, HSJ.out, h]; rfl)
            go_wp2_with fail
            go_ret
            exact ⟨by rw [HEV.out]; rfl, below_next HB0.out HBY.out⟩
  · have d0 : decide ((0 : Int) < (N : Int)) = true := by simp; omega
    have d00 : decide (0 < N) = true := decide_eq_true (by omega)
    have HP := Lib.hid (HPE.out a1 c1 N 4 [] n W0 (Below.refl _ _) H1.out HNN.out ⟨by simp, HSB.out.1⟩)
    rw [hp, show strOf [] = ⟨#[]⟩ from rfl] at HP
    clear hp h0
    go_enter Tryz.func23, Tryz.ntmps23
    go_wp2_with (go_at_call 18; (with_reducible refine HP.out.mono ?_); rintro e w3 ⟨rfl, hb9⟩; have HB9 := Lib.hid hb9; have y3 := (hb9.cell (p := ⟨w.heap.size + 1, 0, none⟩) ly).trans Y0.out; clear hb9)
    clear hwr x0 y0 d0 d00 y3
    go_loopw [27] (fun i wr => ∃ k : Nat, k ≤ N ∧ i = .int .i64 k ∧ allG L ((n.take k).flatMap mailsL) = true ∧ Below W0.heap.size W0 wr) (fun i _ => N - (intOf i).toNat)
    case atStart => exact ⟨0, Nat.zero_le _, rfl, rfl, HB9.out⟩
    case round =>
      obtain ⟨wz, hwz⟩ : ∃ wz, wz = wr := ⟨_, rfl⟩
      subst hwz
      obtain ⟨k, hk, rfl, ha, hb⟩ := hrel
      have HB := Lib.hid hb
      have HA := Lib.hid ha
      clear ha hb HB9
      by_cases hlt : k < N
      · have hd : decide ((k : Int) < (N : Int)) = true := by simp; omega
        obtain ⟨b, o, rfl, hbl, a1', c1', e0, hc1, hL1⟩ := H1.out.at k (by rw [← HNN.out]; exact hlt)
        have f0 := (HB.out.cell (p := ⟨b, o + k, none⟩) hbl).trans e0
        have hsk := HSB.out.at (k := k) (by rw [← HNN.out]; exact hlt)
        have hfs := flat_step n k (by rw [← HNN.out]; exact hlt)
        have HMR := Lib.hid (mem_getD (l := n) (k := k) (by rw [← HNN.out]; exact hlt) [])
        have HLT := Lib.hid hlt
        clear e0 hbl
        generalize n.getD k [] = r at f0 hsk hL1 hc1 hfs HMR
        obtain ⟨Z, hZ⟩ : ∃ Z, Z = r.length := ⟨_, rfl⟩
        have HRL := Lib.hid hL1
        have HZ := Lib.hid hZ
        have HSK := Lib.hid hsk
        have HFS := Lib.hid hfs
        rw [← hZ] at f0
        have hzz : Z ≤ 1000 := by rw [hZ]; exact hsk.1
        clear hL1 hc1 hZ hsk hfs
        go_wp2_with fail
        clear f0
        go_loopw [33] (fun i ws => ∃ j : Nat, j ≤ Z ∧ i = .int .i64 j ∧ allG L (mailsL (r.take j)) = true ∧ Below W0.heap.size W0 ws) (fun i _ => Z - (intOf i).toNat)
        case atStart => exact ⟨0, Nat.zero_le _, rfl, rfl, HB.out⟩
        case round =>
          obtain ⟨wy, hwy⟩ : ∃ wy, wy = wr := ⟨_, rfl⟩
          subst hwy
          obtain ⟨j, hj, rfl, ha, hb⟩ := hrel
          have HBY := Lib.hid hb
          have HAY := Lib.hid ha
          clear hb ha HB
          by_cases hlj : j < Z
          · have hd2 : decide ((j : Int) < (Z : Int)) = true := by simp; omega
            obtain ⟨b', o', rfl, hbl, e0, e1, e2⟩ := HRL.out.at j (by rw [← HZ.out]; exact hlj)
            have f0 := (HBY.out.cell (p := ⟨b', o' + j * 3, none⟩) hbl).trans e0
            have f1 := (HBY.out.cell (p := ⟨b', o' + j * 3 + 1, none⟩) hbl).trans e1
            have f2 := (HBY.out.cell (p := ⟨b', o' + j * 3 + 2, none⟩) hbl).trans e2
            have hst := mails_step r j (by rw [← HZ.out]; exact hlj)
            have hmy := mem_getD (l := r) (k := j) (by rw [← HZ.out]; exact hlj) noAt
            have hvx := HSK.out.2 (r.getD j noAt) hmy
            have HLJ := Lib.hid hlj
            clear e0 e1 e2 hbl
            generalize r.getD j noAt = y at f0 f1 f2 hst hvx hmy
            obtain ⟨ty, ky, vy⟩ := y
            simp only at f0 f1 f2
            obtain ⟨W2, hW2⟩ : ∃ W2, W2 = wy.alloc (.cells #[.string ty, .int .i64 ky, .string vy] 69) := ⟨_, rfl⟩
            have hb2 : Below wy.heap.size wy W2 := by rw [hW2]; exact belowNew wy _
            obtain ⟨g0, g1, g2, lg⟩ := three_facts (w := W2) (g := wy.heap.size) (by rw [hW2]; exact heap_alloc_new wy _)
            have HB2 := Lib.hid (below_next HBY.out hb2)
            have HWE := hW2.symm
            have x2 := ((below_next HBY.out hb2).cell (p := ⟨w.heap.size, 0, none⟩) lx).trans X0.out
            clear hb2 hW2
            by_cases hml : isMl (ty, ky, vy) = true
            · have d3 : (ty.toList == [49, 46, 50, 46, 56, 52, 48, 46, 49, 49, 51, 53, 52, 57, 46, 49, 46, 57, 46, 49]) = true := hml
              have HP := Lib.hid (HPE.out none 0 0 1 vy.data.toList [] W2 HB2.out (.inl rfl) rfl (gMl_sm (x := (ty, ky, vy)) hvx))
              rw [str_back, show ((1 : Int), vy.data.toList, ([] : Nm)) = gMl (ty, ky, vy) from rfl] at HP
              have HBAD := Lib.hid (fun (hp : perG L (gMl (ty, ky, vy)) = false) => show E = false by rw [HE.out, allG_false (mem_subj HMR.out hmy hml) hp]; rfl)
              have HGD := Lib.hid (fun (hp : perG L (gMl (ty, ky, vy)) = true) => show allG L (mailsL (r.take (j + 1))) = true by rw [hst, if_pos hml, allG_append, HAY.out]; simp [allG, hp])
              clear hst hml hvx hmy
              generalize perG L (gMl (ty, ky, vy)) = P at HP HBAD HGD
              cases P with
              | true =>
                go_wp2_with (go_at_call 18; (with_reducible refine HP.out.mono ?_); rintro e w3 ⟨rfl, hb9⟩; have HB8 := Lib.hid hb9; clear hb9)
                go_roundw
                case rel => exact ⟨j + 1, HLJ.out, by go_num, HGD.out (by simp), below_next HB2.out HB8.out⟩
                case measure => simp [intOf]; omega
              | false =>
                go_wp2_with (go_at_call 18; (with_reducible refine HP.out.mono ?_); rintro e w3 ⟨rfl, hb9⟩; have HB8 := Lib.hid hb9; clear hb9)
                go_ret
                exact ⟨by rw [HBAD.out (by simp)]; rfl, below_next HB0.out (below_next HB2.out HB8.out)⟩
            · have d3 : (ty.toList == [49, 46, 50, 46, 56, 52, 48, 46, 49, 49, 51, 53, 52, 57, 46, 49, 46, 57, 46, 49]) = false := by simpa [isMl, mailT] using hml
              have HGD := Lib.hid (show allG L (mailsL (r.take (j + 1))) = true by rw [hst, if_neg hml, List.append_nil]; exact HAY.out)
              clear hst hml hvx hmy
              go_wp2_with fail
              go_roundw
              case rel => exact ⟨j + 1, HLJ.out, by go_num, HGD.out, HB2.out⟩
              case measure => simp [intOf]; omega
          · have hd2 : decide ((j : Int) < (Z : Int)) = false := by simp; omega
            obtain rfl : j = Z := by omega
            have HTJ := Lib.hid (show r.take j = r from List.take_of_length_le (by rw [← HZ.out]; exact Nat.le_refl _))
            go_wp2_with fail
            go_roundw
            case rel => exact ⟨k + 1, HLT.out, by go_num, by rw [HFS.out, allG_append, HA.out, ← HTJ.out, HAY.out]; rfl, HBY.out⟩
            case measure => simp [intOf]; omega
      · have hd : decide ((k : Int) < (N : Int)) = false := by simp; omega
        obtain rfl : k = N := by omega
        have HSJ := Lib.hid (show allG L (subjL n) = true by
          unfold subjL
          rw [allG_append, HHD.out]
          have h := HA.out
          rw [List.take_of_length_le (by rw [← HNN.out]; exact Nat.le_refl _)] at h
          rw [h]; rfl)
        go_wp2_with fail
        go_loopw [52] (fun i ws => ∃ j : Nat, j ≤ m2 ∧ i = .int .i64 j ∧ allG L (l.take j) = true ∧ Below W0.heap.size W0 ws) (fun i _ => m2 - (intOf i).toNat)
        case atStart => exact ⟨0, Nat.zero_le _, rfl, rfl, HB.out⟩
        case round =>
          obtain ⟨wy, hwy⟩ : ∃ wy, wy = wr := ⟨_, rfl⟩
          subst hwy
          obtain ⟨j, hj, rfl, ha, hb⟩ := hrel
          have HBY := Lib.hid hb
          have HAY := Lib.hid ha
          clear hb ha HB
          by_cases hlj : j < m2
          · have hd2 : decide ((j : Int) < (m2 : Int)) = true := by simp; omega
            obtain ⟨b', o', rfl, hbl, e0, e1, a3, c3, e2, hc3, hL3⟩ := H2.out.at j (by rw [← HM2.out]; exact hlj)
            have f0 := (HBY.out.cell (p := ⟨b', o' + j * 3, none⟩) hbl).trans e0
            have f1 := (HBY.out.cell (p := ⟨b', o' + j * 3 + 1, none⟩) hbl).trans e1
            have f2 := (HBY.out.cell (p := ⟨b', o' + j * 3 + 2, none⟩) hbl).trans e2
            have hst := takeN l j (by rw [← HM2.out]; exact hlj) noG
            have hsm := HLS.out.at (i := j) (by rw [← HM2.out]; exact hlj)
            have hmy := mem_getD (l := l) (k := j) (by rw [← HM2.out]; exact hlj) noG
            have HLJ := Lib.hid hlj
            clear e0 e1 e2 hbl
            generalize l.getD j noG = y at f0 f1 f2 hst hsm hmy hc3 hL3
            obtain ⟨q, t, n3⟩ := y
            simp only at f0 f1 f2 hc3 hL3
            obtain ⟨N3, hN3⟩ : ∃ N3, N3 = n3.length := ⟨_, rfl⟩
            rw [← hN3] at f2
            obtain ⟨W2, hW2⟩ : ∃ W2, W2 = wy.alloc (.cells #[.int .i64 q, .string (strOf t), .slice a3 N3 c3] 32) := ⟨_, rfl⟩
            have hb2 : Below wy.heap.size wy W2 := by rw [hW2]; exact belowNew wy _
            obtain ⟨g0, g1, g2, lg⟩ := three_facts (w := W2) (g := wy.heap.size) (by rw [hW2]; exact heap_alloc_new wy _)
            have HB2 := Lib.hid (below_next HBY.out hb2)
            have HWE := hW2.symm
            have x2 := ((below_next HBY.out hb2).cell (p := ⟨w.heap.size, 0, none⟩) lx).trans X0.out
            have HP := Lib.hid (HPE.out a3 c3 N3 q t n3 W2 HB2.out ((hL3.below HBY.out).below hb2) hN3 hsm)
            have HBAD := Lib.hid (fun (hp : perG L (q, t, n3) = false) => show E = false by rw [HE.out, allG_false (l := l) hmy hp]; cases allG L (subjL n) <;> rfl)
            have HGD := Lib.hid (fun (hp : perG L (q, t, n3) = true) => show allG L (l.take (j + 1)) = true by rw [hst, allG_append, HAY.out]; simp [allG, hp])
            clear hst hsm hmy hc3 hL3 hN3 hb2 hW2
            generalize perG L (q, t, n3) = P at HP HBAD HGD
            cases P with
            | true =>
              go_wp2_with (go_at_call 18; (with_reducible refine HP.out.mono ?_); rintro e w3 ⟨rfl, hb9⟩; have HB8 := Lib.hid hb9; clear hb9)
              go_roundw
              case rel => exact ⟨j + 1, HLJ.out, by go_num, HGD.out (by simp), below_next HB2.out HB8.out⟩
              case measure => simp [intOf]; omega
            | false =>
              go_wp2_with (go_at_call 18; (with_reducible refine HP.out.mono ?_); rintro e w3 ⟨rfl, hb9⟩; have HB8 := Lib.hid hb9; clear hb9)
              go_ret
              exact ⟨by rw [HBAD.out (by simp)]; rfl, below_next HB0.out (below_next HB2.out HB8.out)⟩
          · have hd2 : decide ((j : Int) < (m2 : Int)) = false := by simp; omega
            obtain rfl : j = m2 := by omega
            have HEV := Lib.hid (show E = true by
              have h := HAY.out
              rw [List.take_of_length_le (by rw [← HM2.out]; exact Nat.le_refl _)] at h
              rw [HE.out, HSJ.out, h]; rfl)
            go_wp2_with fail
            go_ret
            exact ⟨by rw [HEV.out]; rfl, below_next HB0.out HBY.out⟩
end Go.Proofs.YtjdfgalcnbnobaaGreatDoor
