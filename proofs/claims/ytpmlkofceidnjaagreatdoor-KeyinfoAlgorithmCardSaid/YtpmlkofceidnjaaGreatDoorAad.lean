/-
  The contract of the reference's arcs: the numbers of the object identifier that the text is, if it is one.
  Plain laws on names as lists: what an attribute is, which error a name has, when two names match. Nothing is claimed of the program here.
  Attributes and relative names in memory: that they can be read at an address, and that a slice of a call's own holds them. Nothing is claimed of the program here.
  The contracts of certpathmade's New and Next, with the one block that a deck writes: a number from 0 to n - 1; all other memory as it was.
-/
import Derived.Test.YtpmlkofceidnjaaGreatDoorAac
import Derived.Deep.DeepCutAuto
import Derived.Test.YtpmlkofceidnjaaGreatDoorAaa
import Derived.Maps.Range
import Derived.Maps.AppendAt
namespace Go.Proofs.YtpmlkofceidnjaaGreatDoor
open Go.RowKit

theorem drop_at {L : List UInt8} {a i : Nat} {c : UInt8} (ha : a ≤ i) (h : L[i]? = some c) : L.drop a = (L.take i).drop a ++ c :: L.drop (i + 1) := by
  have e := at_split L i c h
  have hi : i < L.length := (List.getElem?_eq_some_iff.1 h).1
  conv => lhs; rw [e]
  rw [List.drop_append_of_le_length (by simp; omega)]
theorem part_snoc {L : List UInt8} {a i : Nat} {c : UInt8} (ha : a ≤ i) (h : L[i]? = some c) : (L.take (i + 1)).drop a = (L.take i).drop a ++ [c] := by
  have hi : i < L.length := (List.getElem?_eq_some_iff.1 h).1
  rw [take_snoc h, List.drop_append_of_le_length (by simp; omega)]
theorem dot_last (l : List UInt8) : (l ++ [46])[l.length]? = some 46 := by simp
theorem dot_before {l : List UInt8} {i : Nat} {c : UInt8} (h : l[i]? = some c) : (l ++ [46])[i]? = some c := by
  rw [List.getElem?_append_left (List.getElem?_eq_some_iff.1 h).1]; exact h
theorem no_dot {d : List UInt8} (h : ∀ c ∈ d, isDig c) : (46 : UInt8) ∉ d := fun hm => by have := h _ hm; revert this; unfold isDig; decide
theorem ext_list (s : ByteArray) (a i : Nat) (h : i ≤ s.size) : (s.extract a i).data.toList = ((s.data.toList ++ [46]).take i).drop a := by
  have hl : i ≤ s.data.toList.length := h
  rw [List.take_append_of_le_length hl, ByteArray.data_extract, Array.toList_extract, List.extract_eq_take_drop, ← List.drop_take]

theorem cat_snoc (f : Nat → List UInt8) (A : List Nat) (v : Nat) : cat f (A ++ [v]) = cat f A ++ f v := by rw [cat_append]; simp [cat]
set_option maxRecDepth 100000 in
set_option maxHeartbeats 4000000 in
theorem rarcs_any (s : ByteArray) (w : World) (hs : s.size ≤ 1099511627) :
    Calls Tryz.prog 80 #[.string s] w fun e w' => Arcsd s.data.toList w.heap.size w' e ∧ Below w.heap.size w w' := by
  obtain ⟨i0, hi, hz0, hz1, hz2⟩ := info_parts intInfo
  have HSS := Lib.hid hs
  go_enter Tryz.func80, Tryz.ntmps80
  go_wp2_with fail
  go_loopw [4, 5, 6] (fun v t u wr => ∃ (i a : Nat) (A : List Nat), u = .int .i64 (i : Int) ∧ t = .int .i64 (a : Int) ∧ a ≤ i ∧ i ≤ s.size + 1 ∧ (i = s.size + 1 → a = i) ∧ A.length ≤ 12 ∧ s.data.toList ++ [46] = cat fdot A ++ (s.data.toList ++ [46]).drop a ∧ (∀ c ∈ ((s.data.toList ++ [46]).take i).drop a, isDig c) ∧ (∀ v ∈ A, v ≤ 2147483647) ∧ OwnI wr w.heap.size v A ∧ Below w.heap.size w wr) (fun _ _ u _ => s.size + 1 - (intOf u).toNat)
  case atStart => exact ⟨0, 0, [], rfl, rfl, Nat.le_refl _, by omega, by omega, by simp, by simp [cat], by simp, by simp, World.ownsRow_nil _ _ _ _, Below.refl _ _⟩
  case round =>
    obtain ⟨i, a, A, rfl, rfl, ha, hi1, hend, hA12, hL, hdg, hAm, ho, hb⟩ := hrel
    have HO := Lib.hid ho
    have HB := Lib.hid hb
    have HL := Lib.hid hL
    have HD := Lib.hid hdg
    have HAM := Lib.hid hAm
    clear hL hdg hAm ho hb
    by_cases hin : i = s.size + 1
    · subst hin
      obtain rfl := hend rfl
      have hdrop : (s.data.toList ++ [46]).drop (s.size + 1) = [] := List.drop_eq_nil_of_le (by simp)
      have HA := Lib.hid (show s.data.toList ++ [46] = cat fdot A by have := HL.out; rwa [hdrop, List.append_nil] at this)
      have d1 : decide (((s.size + 1 : Nat) : Int) ≤ (s.size : Int)) = false := by simp; omega
      have d1' : decide ((s.size : Int) + 1 ≤ (s.size : Int)) = false := by simp; omega
      have HE := Lib.hid (show ∀ a, Oid s.data.toList a → a = A from fun a h => code_inj fdot_code fdot_ne (h.2.symm.trans HA.out))
      clear hend hi1 ha hdrop
      by_cases h2 : A.length < 2
      · have d2 : decide ((A.length : Int) < 2) = true := by simp; omega
        have HX := Lib.hid (show ∀ a, ¬ Oid s.data.toList a from fun a h => by
          have e := HE.out a h
          have := h.1.1
          rw [e] at this; omega)
        obtain ⟨p, cap, rfl⟩ := HO.out.form
        clear h2
        go_wp2_with fail
        go_ret2
        exact ⟨.inr ⟨HX.out, rfl⟩, HB.out⟩
      · have d2 : decide ((A.length : Int) < 2) = false := by simp; omega
        have hne : A ≠ [] := fun e => h2 (by rw [e]; decide)
        obtain ⟨g, cap, rfl, hg, hl, hcp⟩ := HO.out.open hne
        have HCP := Lib.hid hcp
        have hc0 := hl.cell 0 (by omega)
        have hc1 := hl.cell 1 (by omega)
        have HLI := Lib.hid hl
        have HGG := Lib.hid hg
        have HG := Lib.hid (fun h0 h1 => good_of (A := A) (by omega) (by omega) HAM.out h0 h1)
        have bad : ¬ (¬ 2 < A.getD 0 0 ∧ ¬ (A.getD 0 0 < 2 ∧ 40 ≤ A.getD 1 0)) → ∀ a, ¬ Oid s.data.toList a := by
          intro hn a h
          obtain rfl := HE.out a h
          obtain ⟨_, _, _, g0, g1⟩ := h.1
          exact hn ⟨by omega, fun ⟨x1, x2⟩ => by have := g1 x1; omega⟩
        have HBAD := Lib.hid bad
        have hm0 : A.getD 0 0 ≤ 2147483647 := by
          rw [List.getD_eq_getElem?_getD, List.getElem?_eq_getElem (by omega)]
          exact HAM.out _ (List.getElem_mem _)
        have hm1 : A.getD 1 0 ≤ 2147483647 := by
          rw [List.getD_eq_getElem?_getD, List.getElem?_eq_getElem (by omega)]
          exact HAM.out _ (List.getElem_mem _)
        have h2n : 2 ≤ A.length := by omega
        clear bad hl hg hne h2 hcp
        obtain ⟨a0, ha0⟩ : ∃ a0, a0 = A.getD 0 0 := ⟨_, rfl⟩
        obtain ⟨a1, ha1⟩ : ∃ a1, a1 = A.getD 1 0 := ⟨_, rfl⟩
        rw [← ha0] at hc0 HG HBAD hm0
        rw [← ha1] at hc1 HG HBAD hm1
        clear ha0 ha1
        by_cases g0 : 2 < a0
        · have e0 : decide ((2 : Int) < (a0 : Int)) = true := by simp; omega
          have HX := Lib.hid (HBAD.out (fun h => h.1 g0))
          clear g0
          go_wp2_with fail
          go_ret2
          exact ⟨.inr ⟨HX.out, rfl⟩, HB.out⟩
        · have e0 : decide ((2 : Int) < (a0 : Int)) = false := by simp; omega
          by_cases g1 : a0 < 2
          · have e1 : decide ((a0 : Int) < 2) = true := by simp; omega
            by_cases g2 : 40 ≤ a1
            · have e2 : decide ((39 : Int) < (a1 : Int)) = true := by simp; omega
              have HX := Lib.hid (HBAD.out (fun h => h.2 ⟨g1, g2⟩))
              clear g0 g1 g2
              go_wp2_with fail
              go_ret2
              exact ⟨.inr ⟨HX.out, rfl⟩, HB.out⟩
            · have e2 : decide ((39 : Int) < (a1 : Int)) = false := by simp; omega
              have HX := Lib.hid (HG.out g0 (fun h => g2 h.2))
              clear g0 g1 g2
              go_wp2_with fail
              go_ret2
              exact ⟨.inl ⟨A, g, cap, ⟨HX.out, HA.out⟩, rfl, HLI.out, HGG.out, HCP.out⟩, HB.out⟩
          · have e1 : decide ((a0 : Int) < 2) = false := by simp; omega
            have HX := Lib.hid (HG.out g0 (fun h => g1 h.1))
            clear g0 g1
            go_wp2_with fail
            go_ret2
            exact ⟨.inl ⟨A, g, cap, ⟨HX.out, HA.out⟩, rfl, HLI.out, HGG.out, HCP.out⟩, HB.out⟩
    · have hle : i ≤ s.size := by omega
      have d1 : decide ((i : Int) ≤ (s.size : Int)) = true := by simp; omega
      have h12 : A.length ≤ 12 := hA12
      clear hend hi1 hin hA12
      -- a byte that is no point
      by_cases hbyte : i < s.size ∧ u8at s i ≠ 46
      · obtain ⟨hlt, h46⟩ := hbyte
        have d2 : decide ((i : Int) < (s.size : Int)) = true := by simp; omega
        have hix := fun w => run_index_u8 (P := Tryz.prog) Tryz.underlying9 s i hlt (i : Int) rfl w
        obtain ⟨c, hc, hcn⟩ := u8at_list s i hlt
        have HC := Lib.hid (dot_before hc)
        obtain ⟨n, hn⟩ : ∃ n, n = u8at s i := ⟨_, rfl⟩
        have hn256 : n < 256 := by rw [hn]; exact u8at_lt s i
        have hnc : n = c.toNat := by rw [hn, hcn]
        have HC46 := Lib.hid (show c ≠ 46 from fun e => h46 (by rw [hcn, e]; rfl))
        rw [← hn] at hix h46
        have d3 : ((n : Int) != 46) = true := by simp; omega
        clear hn hc hcn h46
        by_cases hlo : n < 48
        · have e1 : decide ((n : Int) < 48) = true := by simp; omega
          have HX := Lib.hid (show ¬ isDig c by unfold isDig; omega)
          clear hnc
          go_wp2_with fail
          go_ret2
          exact ⟨.inr ⟨fun a' h => scan_bad (by rw [← drop_at ha HC.out]; exact HL.out) HD.out HX.out HC46.out h, rfl⟩, HB.out⟩
        · by_cases hhi : 57 < n
          · have e1 : decide ((n : Int) < 48) = false := by simp; omega
            have e2 : decide ((57 : Int) < (n : Int)) = true := by simp; omega
            have HX := Lib.hid (show ¬ isDig c by unfold isDig; omega)
            clear hnc
            go_wp2_with fail
            go_ret2
            exact ⟨.inr ⟨fun a' h => scan_bad (by rw [← drop_at ha HC.out]; exact HL.out) HD.out HX.out HC46.out h, rfl⟩, HB.out⟩
          · have e1 : decide ((n : Int) < 48) = false := by simp; omega
            have e2 : decide ((57 : Int) < (n : Int)) = false := by simp; omega
            have HX := Lib.hid (show isDig c by unfold isDig; omega)
            clear hnc
            go_wp2_with fail
            go_roundw
            case rel =>
              refine ⟨i + 1, a, A, by go_num, rfl, by omega, by omega, by omega, h12, HL.out, ?_, HAM.out, HO.out, HB.out⟩
              rw [part_snoc ha HC.out]
              intro x hx
              rcases List.mem_append.1 hx with hx | hx
              · exact HD.out x hx
              · obtain rfl : x = c := by simpa using hx
                exact HX.out
            case measure => simp [intOf]; omega
      · have hor : (i = s.size) ∨ (i < s.size ∧ u8at s i = 46) := by
          rcases Nat.lt_or_ge i s.size with h | h
          · exact .inr ⟨h, Classical.byContradiction fun e => hbyte ⟨h, e⟩⟩
          · left; omega
        have hC : (s.data.toList ++ [46])[i]? = some 46 := by
          rcases hor with rfl | ⟨h, h2⟩
          · exact dot_last s.data.toList
          · obtain ⟨c, hc, hcn⟩ := u8at_list s i h
            have e : c = 46 := UInt8.toNat_inj.1 (by rw [← hcn, h2]; rfl)
            rw [e] at hc
            exact dot_before hc
        have HC := Lib.hid hC
        clear hC
        have HEX := Lib.hid (ext_list s a i hle)
        have HEN := Lib.hid (show ∀ a', Oid s.data.toList a' → ∃ m M, a' = A ++ m :: M ∧ ((s.data.toList ++ [46]).take i).drop a = Lib.decDigits m ∧ m ≤ 2147483647 ∧ A.length < 12 from
          fun a' h => scan_end (r := (s.data.toList ++ [46]).drop (i + 1)) (by rw [← drop_at ha HC.out]; exact HL.out) (no_dot HD.out) h)
        have HSE := Lib.hid (show (s.extract a i).size = i - a by rw [ByteArray.size_extract]; omega)
        obtain ⟨p, cap, hp⟩ := HO.out.form
        have hA0 : A.length ≤ 12 := h12
        clear hbyte
        have key : ∀ d : ByteArray, d.data.toList = ((s.data.toList ++ [46]).take i).drop a → d.size = i - a → True := fun _ _ _ => trivial
        clear key
        rcases hor with hie | ⟨hlt, h46⟩
        all_goals
          first
          | (have d2 : decide ((i : Int) < (s.size : Int)) = true := by (simp; omega)
             have hix : ∀ w, (Instr.index 9 (.string s) (.int .i64 (i : Int))).run Tryz.prog w = .ok (.int .u8 46) w := fun w => by
               have := run_index_u8 (P := Tryz.prog) Tryz.underlying9 s i hlt (i : Int) rfl w
               rw [h46] at this; exact this
             have d3 : ((46 : Int) != 46) = false := rfl
             clear h46)
          | (have d2 : decide ((i : Int) < (s.size : Int)) = false := by (simp; omega)
             have d2n : ¬ i < s.size := by omega
             have d2m : decide (i < s.size) = false := by (simp; omega)
             clear hie)
          subst hp
          have hsl : ∀ w, (Instr.slice 9 (.string s) (some (.int .i64 (a : Int))) (some (.int .i64 (i : Int))) none).run Tryz.prog w = .ok (.string (s.extract a i)) w := fun w => by
            have := run_slice_string (P := Tryz.prog) w 9 s .i64 .i64 (a : Int) (i : Int) Tryz.underlying9 (by omega) (by omega) (by omega)
            simpa using this
          generalize s.extract a i = d at HEX HSE hsl
          obtain ⟨D, hD⟩ : ∃ D, D = ((s.data.toList ++ [46]).take i).drop a := ⟨_, rfl⟩
          have HNX := Lib.hid (show (s.data.toList ++ [46]).drop a = D ++ 46 :: (s.data.toList ++ [46]).drop (i + 1) by rw [hD]; exact drop_at ha HC.out)
          rw [← hD] at HEX HEN HD
          clear hD
          have hds : d.size ≤ 1099511627 := by have := HSE.out; omega
          have HLN := Lib.hid (show D.length = d.size by rw [← HEX.out]; rfl)
          by_cases c1 : d.size = 0
          · have f1 : ((d.size : Int) == 0) = true := by rw [c1]; rfl
            have HX := Lib.hid (show ∀ a', ¬ Oid s.data.toList a' from fun a' h => by
              obtain ⟨m, M, _, e, _⟩ := HEN.out a' h
              exact dec_ne m (by rw [← e]; exact List.eq_nil_of_length_eq_zero (by rw [HLN.out]; exact c1)))
            clear c1
            go_wp2_with fail
            go_ret2
            exact ⟨.inr ⟨HX.out, rfl⟩, HB.out⟩
          · have f1 : ((d.size : Int) == 0) = false := beq_eq_false_iff_ne.2 (by omega)
            by_cases c2 : 10 < d.size
            · have f2 : decide ((10 : Int) < (d.size : Int)) = true := by simp; omega
              have HX := Lib.hid (show ∀ a', ¬ Oid s.data.toList a' from fun a' h => by
                obtain ⟨m, M, _, e, h3, _⟩ := HEN.out a' h
                have := dec_len 10 m (Nat.lt_of_le_of_lt h3 (by decide)) (by omega)
                rw [← e, HLN.out] at this
                exact absurd this (by omega))
              clear c1 c2
              go_wp2_with fail
              go_ret2
              exact ⟨.inr ⟨HX.out, rfl⟩, HB.out⟩
            · have f2 : decide ((10 : Int) < (d.size : Int)) = false := by simp; omega
              have hx0 := fun w => run_index_u8 (P := Tryz.prog) Tryz.underlying9 d 0 (by omega) 0 rfl w
              obtain ⟨c0, hc0, hcn0⟩ := head_u8 c1
              rw [HEX.out] at hc0
              obtain ⟨n0, hn0⟩ : ∃ n0, n0 = u8at d 0 := ⟨_, rfl⟩
              rw [← hn0] at hx0 hcn0
              have HH0 := Lib.hid hc0
              clear hn0 hc0
              by_cases c3 : 1 < d.size ∧ n0 = 48
              · have f3 : decide ((1 : Int) < (d.size : Int)) = true := by (simp; omega)
                have f4 : (((n0 : Nat) : Int) == 48) = true := by rw [c3.2]; rfl
                have HX := Lib.hid (show ∀ a', ¬ Oid s.data.toList a' from fun a' h => by
                  obtain ⟨m, M, _, e, _⟩ := HEN.out a' h
                  have e0 : c0 = 48 := UInt8.toNat_inj.1 (by rw [← hcn0, c3.2]; rfl)
                  have h1 := HH0.out
                  rw [e, e0] at h1
                  have h2 := HLN.out
                  rw [e, dec_head h1, dec_zero] at h2
                  simp at h2; omega)
                clear c1 c2 c3 hcn0
                go_wp2_with fail
                go_ret2
                exact ⟨.inr ⟨HX.out, rfl⟩, HB.out⟩
              · have f3 : decide ((1 : Int) < (d.size : Int)) = false ∨ (decide ((1 : Int) < (d.size : Int)) = true ∧ (((n0 : Nat) : Int) == 48) = false) := by
                  by_cases h : 1 < d.size
                  · right
                    exact ⟨by simp; omega, by simp; omega⟩
                  · left; simp; omega
                have HH1 := Lib.hid (show D.head? = some 48 → D.length = 1 from fun e => by
                  have e2 : c0 = 48 := Option.some.inj (HH0.out.symm.trans e)
                  have e3 : n0 = 48 := by rw [hcn0, e2]; rfl
                  rw [HLN.out]; omega)
                have HNE := Lib.hid (show D ≠ [] from fun e => c1 (by rw [← HLN.out, e]; rfl))
                by_cases c4 : A.length = 12
                · have f4 : ((A.length : Int) == 12) = true := by rw [c4]; rfl
                  have HX := Lib.hid (show ∀ a', ¬ Oid s.data.toList a' from fun a' h => by
                    obtain ⟨m, M, _, _, _, h4⟩ := HEN.out a' h
                    omega)
                  clear c1 c2 c3 c4 hcn0
                  rcases f3 with f3 | ⟨f3, f5⟩
                  all_goals
                    go_wp2_with fail
                    go_ret2
                    exact ⟨.inr ⟨HX.out, rfl⟩, HB.out⟩
                · have f4 : ((A.length : Int) == 12) = false := by simp; omega
                  have hA11 : A.length ≤ 11 := by omega
                  have hds10 : d.size ≤ 10 := by omega
                  clear c1 c2 c3 c4 hcn0
                  rcases f3 with f3 | ⟨f3, f5⟩
                  all_goals
                    go_wp2_with fail
                    clear f1 f2 f3 f4 hx0
                    try clear f5
                    go_loopw [8, 9] (fun u k wx => ∃ j : Nat, j ≤ d.size ∧ k = .int .i64 (j : Int) ∧ u = .int .i64 ((dval (D.take j) : Nat) : Int) ∧ wx = wr) (fun _ k _ => d.size - (intOf k).toNat)
                    case atStart => exact ⟨0, by omega, rfl, rfl, rfl⟩
                    case round =>
                      obtain ⟨j, hj, rfl, rfl, rfl⟩ := hrel
                      obtain ⟨V, hV⟩ : ∃ V, V = dval (D.take j) := ⟨_, rfl⟩
                      have HV := Lib.hid hV
                      have hVb : V < 10000000000 := by
                        rw [hV]
                        have h1 := dval_lt (D.take j) (fun x hx => HD.out x (List.mem_of_mem_take hx))
                        have h2 : (D.take j).length ≤ 10 := by rw [List.length_take, HLN.out]; omega
                        exact Nat.lt_of_lt_of_le h1 (Nat.pow_le_pow_right (by omega) h2)
                      rw [← hV]
                      clear hV
                      by_cases hjd : j < d.size
                      · have g1 : decide ((j : Int) < (d.size : Int)) = true := by simp; omega
                        have hxj := fun w => run_index_u8 (P := Tryz.prog) Tryz.underlying9 d j hjd (j : Int) rfl w
                        obtain ⟨c, hc, hcn⟩ := u8at_list d j hjd
                        rw [HEX.out] at hc
                        obtain ⟨n, hn⟩ : ∃ n, n = u8at d j := ⟨_, rfl⟩
                        rw [← hn] at hxj hcn
                        have hdc : isDig c := HD.out c (List.mem_of_getElem? hc)
                        have hn1 : 48 ≤ n := by rw [hcn]; exact hdc.1
                        have hn2 : n ≤ 57 := by rw [hcn]; exact hdc.2
                        have HNV := Lib.hid (show dval (D.take (j + 1)) = 10 * V + (n - 48) by rw [take_snoc hc, dval_snoc, ← HV.out, hcn])
                        clear hc hcn hn hdc
                        go_wp2_with fail
                        go_roundw
                        case rel => exact ⟨j + 1, by omega, by go_num, by rw [HNV.out]; congr 1; omega, trivial⟩
                        case measure => simp [intOf]; omega
                      · obtain rfl : j = d.size := by omega
                        have g1 : decide ((d.size : Int) < (d.size : Int)) = false := by simp
                        have HVD := Lib.hid (show V = dval D by rw [HV.out, List.take_of_length_le (by rw [HLN.out]; exact Nat.le_refl _)])
                        have HDD := Lib.hid (show D = Lib.decDigits V by rw [HVD.out]; exact dec_of D HNE.out HD.out HH1.out)
                        by_cases hbig : 2147483647 < V
                        · have g2 : decide ((2147483647 : Int) < (V : Int)) = true := by simp; omega
                          have HX := Lib.hid (show ∀ a', ¬ Oid s.data.toList a' from fun a' h => by
                            obtain ⟨m, M, _, e, h3, _⟩ := HEN.out a' h
                            have := HVD.out
                            rw [e, dec_val] at this; omega)
                          clear hbig
                          go_wp2_with fail
                          go_ret2
                          exact ⟨.inr ⟨HX.out, rfl⟩, HB.out⟩
                        · have g2 : decide ((2147483647 : Int) < (V : Int)) = false := by simp; omega
                          have HVM := Lib.hid (show V ≤ 2147483647 by omega)
                          clear hbig
                          go_wp2_with (at_builtin; (refine wpList_append_own _ rfl (.tmp 79) (.tmp 81) 24 rfl w.heap.size 3 i0 (.int .i64 0) 1 8 Tryz.underlying24 hi hz0 hz1 hz2 rfl (by decide) _ _ _ rfl (HO.out.alloc _) ⟨wr.heap.size, 0, none⟩ 1 1 [icell V] rfl rfl (news_row wr #[icell V] 3) (icells_one [V]) (by unfold maxLen; omega) (by omega) (by have := HB.out.size; simp; omega) ?_); intro v' w2 hown2 hgr2 _; obtain ⟨P1, P2⟩ := own_round HO.out HB.out hown2 hgr2; have HP1 := Lib.hid P1; have HP2 := Lib.hid P2; clear hown2 hgr2 P1 P2)
                          go_roundw
                          case rel =>
                            refine ⟨i + 1, i + 1, A ++ [V], by go_num, by go_num, Nat.le_refl _, by omega, fun _ => rfl, by simp; omega, ?_, ?_, ?_, HP1.out, HP2.out⟩
                            · have h1 := HL.out
                              rw [HNX.out, HDD.out] at h1
                              refine h1.trans ?_
                              rw [cat_snoc, fdot]
                              simp only [List.append_assoc, List.singleton_append]
                            · rw [List.drop_eq_nil_of_le (by simp; omega)]; simp
                            · intro x hx
                              rcases List.mem_append.1 hx with hx | hx
                              · exact HAM.out x hx
                              · obtain rfl : x = V := by simpa using hx
                                exact HVM.out
                          case measure => simp [intOf]; omega
end Go.Proofs.YtpmlkofceidnjaaGreatDoor
namespace Go.Proofs.YtpmlkofceidnjaaGreatDoor
open Go.RowKit

/-- An attribute: its type, its kind, its value. A name: its relative names. -/
abbrev At := ByteArray × Int × ByteArray
abbrev Nm := List (List At)
def noAt : At := (⟨#[]⟩, 0, ⟨#[]⟩)

/-! ### The first error of a name -/
noncomputable def oidB (s : ByteArray) : Bool := @decide (∃ a, Oid s.data.toList a) (Classical.propDecidable _)
theorem oidB_yes {s : ByteArray} {a : List Nat} (h : Oid s.data.toList a) : oidB s = true := by unfold oidB; exact @decide_eq_true _ (Classical.propDecidable _) ⟨a, h⟩
theorem oidB_true {s : ByteArray} (h : oidB s = true) : ∃ a, Oid s.data.toList a := by unfold oidB at h; exact @of_decide_eq_true _ (Classical.propDecidable _) h
/-! ### When names match -/
def fa (a : At) : ByteArray × ByteArray := (a.1, foldS a.2.2)
def MatchR (r s : List At) : Prop := r.length = s.length ∧ (∀ x ∈ r, ∃ y ∈ s, fa y = fa x) ∧ (∀ y ∈ s, ∃ x ∈ r, fa x = fa y)
instance (r s : List At) : Decidable (MatchR r s) := by unfold MatchR; infer_instance
theorem MatchR.refl (r : List At) : MatchR r r := ⟨rfl, fun x h => ⟨x, h, rfl⟩, fun x h => ⟨x, h, rfl⟩⟩
theorem MatchR.symm {r s : List At} (h : MatchR r s) : MatchR s r := ⟨h.1.symm, h.2.2, h.2.1⟩
theorem MatchR.trans {r s t : List At} (h : MatchR r s) (k : MatchR s t) : MatchR r t := by
  refine ⟨h.1.trans k.1, fun x hx => ?_, fun x hx => ?_⟩
  · obtain ⟨y, hy, e1⟩ := h.2.1 x hx
    obtain ⟨z, hz, e2⟩ := k.2.1 y hy
    exact ⟨z, hz, e2.trans e1⟩
  · obtain ⟨y, hy, e1⟩ := k.2.2 x hx
    obtain ⟨z, hz, e2⟩ := h.2.2 y hy
    exact ⟨z, hz, e2.trans e1⟩
/-- The relative names of b match the first ones of n. -/
def WithinN (n b : Nm) : Prop := b.length ≤ n.length ∧ ∀ i, i < b.length → MatchR (n.getD i []) (b.getD i [])
def MatchN (n m : Nm) : Prop := n.length = m.length ∧ ∀ i, i < n.length → MatchR (n.getD i []) (m.getD i [])
instance (n b : Nm) : Decidable (WithinN n b) := by unfold WithinN; infer_instance
instance (n b : Nm) : Decidable (MatchN n b) := by unfold MatchN; infer_instance
theorem MatchN.refl (n : Nm) : MatchN n n := ⟨rfl, fun _ _ => MatchR.refl _⟩
theorem MatchN.symm {n m : Nm} (h : MatchN n m) : MatchN m n := ⟨h.1.symm, fun i hi => (h.2 i (by rw [h.1]; exact hi)).symm⟩
theorem MatchN.within {n m : Nm} (h : MatchN n m) : WithinN n m := ⟨Nat.le_of_eq h.1.symm, fun i hi => h.2 i (by rw [h.1]; exact hi)⟩
theorem WithinN.trans {a b c : Nm} (h : WithinN a b) (k : WithinN b c) : WithinN a c := ⟨Nat.le_trans k.1 h.1, fun i hi => (h.2 i (Nat.lt_of_lt_of_le hi k.1)).trans (k.2 i hi)⟩
theorem getD_take {α : Type} (l : List α) (k i : Nat) (h : i < k) (d : α) : (l.take k).getD i d = l.getD i d := by
  rw [List.getD_eq_getElem?_getD, List.getD_eq_getElem?_getD, List.getElem?_take_of_lt h]
end Go.Proofs.YtpmlkofceidnjaaGreatDoor
namespace Go.Proofs.YtpmlkofceidnjaaGreatDoor
open Go.RowKit

theorem block_lt {w : World} {b o : Nat} {v : Value} (h : w.cell? ⟨b, o, none⟩ = some v) : b < w.heap.size := World.block_lt_of_cell? _ _ h
/-- At the address lie the attributes l. -/
def ALies (w : World) (a : Option Addr) (l : List At) : Prop :=
  l = [] ∨ ∃ b o, a = some ⟨b, o, none⟩ ∧ ∀ i, i < l.length → w.cell? ⟨b, o + i * 3, none⟩ = some (.string (l.getD i noAt).1) ∧ w.cell? ⟨b, o + i * 3 + 1, none⟩ = some (.int .i64 (l.getD i noAt).2.1) ∧ w.cell? ⟨b, o + i * 3 + 2, none⟩ = some (.string (l.getD i noAt).2.2)
theorem ALies.nil (w : World) (a : Option Addr) : ALies w a [] := .inl rfl
theorem ALies.below {w w' : World} {a : Option Addr} {l : List At} (h : ALies w a l) (hb : Below w.heap.size w w') : ALies w' a l := by
  rcases h with h | ⟨b, o, h1, h2⟩
  · exact .inl h
  · refine .inr ⟨b, o, h1, fun i hi => ?_⟩
    obtain ⟨c0, c1, c2⟩ := h2 i hi
    exact ⟨(hb.cell (block_lt c0)).trans c0, (hb.cell (block_lt c1)).trans c1, (hb.cell (block_lt c2)).trans c2⟩
theorem ALies.take {w : World} {a : Option Addr} {l : List At} (h : ALies w a l) (k : Nat) : ALies w a (l.take k) := by
  rcases h with h | ⟨b, o, h1, h2⟩
  · exact .inl (by rw [h]; simp)
  · refine .inr ⟨b, o, h1, fun i hi => ?_⟩
    rw [List.length_take] at hi
    rw [getD_take _ _ _ (by omega)]
    exact h2 i (by omega)
theorem ALies.at {w : World} {a : Option Addr} {l : List At} (h : ALies w a l) (k : Nat) (hk : k < l.length) : ∃ b o, a = some ⟨b, o, none⟩ ∧ b < w.heap.size ∧
    w.cell? ⟨b, o + k * 3, none⟩ = some (.string (l.getD k noAt).1) ∧ w.cell? ⟨b, o + k * 3 + 1, none⟩ = some (.int .i64 (l.getD k noAt).2.1) ∧ w.cell? ⟨b, o + k * 3 + 2, none⟩ = some (.string (l.getD k noAt).2.2) := by
  rcases h with h | ⟨b, o, h1, h2⟩
  · rw [h] at hk; exact absurd hk (Nat.not_lt_zero _)
  · obtain ⟨c0, c1, c2⟩ := h2 k hk
    exact ⟨b, o, h1, block_lt c0, c0, c1, c2⟩
/-- At the address lie the relative names n. -/
def RLies (w : World) (a : Option Addr) (n : Nm) : Prop :=
  n = [] ∨ ∃ b o, a = some ⟨b, o, none⟩ ∧ ∀ i, i < n.length → ∃ a' c', w.cell? ⟨b, o + i, none⟩ = some (.slice a' (n.getD i []).length c') ∧ (n.getD i []).length ≤ c' ∧ ALies w a' (n.getD i [])
theorem RLies.nil (w : World) (a : Option Addr) : RLies w a [] := .inl rfl
theorem RLies.below {w w' : World} {a : Option Addr} {n : Nm} (h : RLies w a n) (hb : Below w.heap.size w w') : RLies w' a n := by
  rcases h with h | ⟨b, o, h1, h2⟩
  · exact .inl h
  · refine .inr ⟨b, o, h1, fun i hi => ?_⟩
    obtain ⟨a', c', q1, q3, q2⟩ := h2 i hi
    exact ⟨a', c', (hb.cell (block_lt q1)).trans q1, q3, q2.below hb⟩
theorem RLies.take {w : World} {a : Option Addr} {n : Nm} (h : RLies w a n) (k : Nat) : RLies w a (n.take k) := by
  rcases h with h | ⟨b, o, h1, h2⟩
  · exact .inl (by rw [h]; simp)
  · refine .inr ⟨b, o, h1, fun i hi => ?_⟩
    rw [List.length_take] at hi
    rw [getD_take _ _ _ (by omega)]
    exact h2 i (by omega)
theorem RLies.at {w : World} {a : Option Addr} {n : Nm} (h : RLies w a n) (k : Nat) (hk : k < n.length) : ∃ b o, a = some ⟨b, o, none⟩ ∧ b < w.heap.size ∧
    ∃ a' c', w.cell? ⟨b, o + k, none⟩ = some (.slice a' (n.getD k []).length c') ∧ (n.getD k []).length ≤ c' ∧ ALies w a' (n.getD k []) := by
  rcases h with h | ⟨b, o, h1, h2⟩
  · rw [h] at hk; exact absurd hk (Nat.not_lt_zero _)
  · obtain ⟨a', c', q1, q3, q2⟩ := h2 k hk
    exact ⟨b, o, h1, block_lt q1, a', c', q1, q3, q2⟩
/-- The struct value v is the name n. -/
def NameV (w : World) (v : Value) (n : Nm) : Prop := ∃ a c, v = .agg #[.slice a n.length c] ∧ n.length ≤ c ∧ RLies w a n
theorem NameV.below {w w' : World} {v : Value} {n : Nm} (h : NameV w v n) (hb : Below w.heap.size w w') : NameV w' v n := by
  obtain ⟨a, c, h1, h3, h2⟩ := h
  exact ⟨a, c, h1, h3, h2.below hb⟩

/-! ### Slices of a call's own -/
end Go.Proofs.YtpmlkofceidnjaaGreatDoor
namespace Go.Proofs.YtpmlkofceidnjaaGreatDoor
open Go.RowKit

theorem Below.only {w w' : World} (h : Below w.heap.size w w') : w.grownBy w' none := ⟨h.os, h.tape, h.output, h.size, fun k hk _ => h.block k hk⟩
/-- But for block p, nothing that was there has changed. -/
def But (p : Nat) (w w' : World) : Prop := w.grownBy w' (some p)
theorem But.refl (p : Nat) (w : World) : But p w w := World.grownBy.refl w _
theorem But.of {p : Nat} {w w' : World} (h : Below w.heap.size w w') : But p w w' := ⟨h.os, h.tape, h.output, h.size, fun k hk _ => h.block k hk⟩
theorem But.next {p : Nat} {a b c : World} (h : But p a b) (k : But p b c) : But p a c := World.grownBy.trans h k
theorem But.drew {p : Nat} {a b : World} (h : But p a b) : But p a b.drew := ⟨h.os, h.tape, h.output, h.size, h.block⟩
theorem But.alloc {p : Nat} {a b : World} (h : But p a b) (o : Obj) : But p a (b.alloc o) := h.next (But.of (belowNew b o))
theorem But.below {p : Nat} {w w' : World} (h : But p w w') (hp : p ≤ w.heap.size) : Below p w w' :=
  ⟨h.os, h.tape, h.output, h.size, fun k hk => h.block k (by omega) (by simp; omega)⟩
theorem But.set (p j : Nat) (w : World) (v : Value) : But p w (w.setCell ⟨p, j, none⟩ v) :=
  ⟨rfl, rfl, rfl, by simp [World.setCell], fun k _ hne => Below.heap_setCell _ _ _ _ (by simpa using hne)⟩
/-- What is of memory behind the deck's block is kept. -/
theorem own_but {w w' : World} {p B : Nat} {e : TypeId} {k n : Nat} {v : Value} {xs : List Value} (h : w.ownsRow B e k v n xs) (hb : But p w w') (hB : p < B) : w'.ownsRow B e k v n xs :=
  World.ownsRow.kept h hb (by
    rcases h.2 with ⟨hv, _⟩ | ⟨g, cap, cur, hv, hg, _⟩
    · exact .inl (by rw [hv]; rfl)
    · exact .inr (by rw [hv]; simp [Value.ownBlock]; omega))
/-- At the address lie the numbers zs. -/
def ILies (w : World) (a : Option Addr) (zs : List Int) : Prop := zs = [] ∨ ∃ b o, a = some ⟨b, o, none⟩ ∧ ∀ i, i < zs.length → w.cell? ⟨b, o + i, none⟩ = some (.int .i64 (zs.getD i 0))
theorem ILies.at {w : World} {a : Option Addr} {zs : List Int} (h : ILies w a zs) (k : Nat) (hk : k < zs.length) : ∃ b o, a = some ⟨b, o, none⟩ ∧ w.cell? ⟨b, o + k, none⟩ = some (.int .i64 (zs.getD k 0)) := by
  rcases h with h | ⟨b, o, h1, h2⟩
  · rw [h] at hk; exact absurd hk (Nat.not_lt_zero _)
  · exact ⟨b, o, h1, h2 k hk⟩
theorem ILies.below {w w' : World} {B : Nat} {a : Option Addr} {zs : List Int} (h : ILies w a zs) (hb : Below B w w') (hB : ∀ x, a = some x → zs ≠ [] → x.block < B) : ILies w' a zs := by
  rcases h with h | ⟨b, o, rfl, h⟩
  · exact .inl h
  · exact .inr ⟨b, o, rfl, fun i hi => (hb.cell (p := ⟨b, o + i, none⟩) (hB ⟨b, o, none⟩ rfl (fun e => by rw [e] at hi; exact absurd hi (Nat.not_lt_zero _)))).trans (h i hi)⟩
/-- A deck of the numbers zs in block p, at place k. -/
def DeckAt (w : World) (p : Nat) (a : Option Addr) (cap : Nat) (zs : List Int) (k : Nat) : Prop :=
  w.heap[p]? = some (.cells #[.slice a zs.length cap, .int .i64 (k : Int)] 51 (0, 0)) ∧ ILies w a zs ∧ (∀ x, a = some x → zs ≠ [] → x.block < p) ∧ k ≤ 30000 ∧ zs.length ≤ 9223372036854775807

set_option maxRecDepth 100000 in
set_option maxHeartbeats 1000000 in
theorem next_end (p : Nat) (a : Option Addr) (cap : Nat) (zs : List Int) (k : Nat) (N : Nat) (w : World) (h : DeckAt w p a cap zs k) (hk : zs.length ≤ k) :
    Calls Tryz.prog 9 #[.pointer (some ⟨p, 0, none⟩), .int .i64 (N : Int)] w fun e w' => e = .returned (.int .i64 0) ∧ DeckAt w' p a cap zs k ∧ But p w w' := by
  have HD := Lib.hid h
  obtain ⟨h1, _, _, _, h4⟩ := h
  obtain ⟨n, hn⟩ : ∃ n, n = zs.length := ⟨_, rfl⟩
  rw [← hn] at h1 hk h4
  have c0 : w.cell? ⟨p, 0, none⟩ = some (.slice a n cap) := by rw [Lib.cell_of_heap h1]; rfl
  have c1 : w.cell? ⟨p, 1, none⟩ = some (.int .i64 (k : Int)) := by rw [Lib.cell_of_heap h1]; rfl
  have d0 : decide ((n : Int) ≤ (k : Int)) = true := by simp; omega
  clear h1 hn
  go_enter Tryz.func9, Tryz.ntmps9
  go_wp2_with fail
  go_region
  go_wp2_with fail
  go_ret
  exact ⟨rfl, HD.out, (But.refl _ _).drew⟩
theorem next_num (z : Int) (N : Nat) (hN : 0 < N) (hN2 : N ≤ 1099511627776) : ∃ x y : Int, ∃ r : Nat, z.tmod (N : Int) = x ∧ -1099511627776 ≤ x ∧ x ≤ 1099511627776 ∧ x + (N : Int) = y ∧ 0 ≤ y ∧ y ≤ 2199023255552 ∧ y.tmod (N : Int) = (r : Int) ∧ r < N := by
  have hx1 : -(N : Int) < z.tmod (N : Int) := by
    have := Int.lt_tmod_of_pos z (show (0 : Int) < (N : Int) by omega)
    simpa using this
  have hx2 : z.tmod (N : Int) < (N : Int) := Int.tmod_lt_of_pos z (by omega)
  refine ⟨_, _, (z.tmod (N : Int) + (N : Int)).tmod (N : Int) |>.toNat, rfl, by omega, by omega, rfl, by omega, by omega, ?_, ?_⟩
  · have h1 : 0 ≤ (z.tmod (N : Int) + (N : Int)).tmod (N : Int) := Int.tmod_nonneg _ (by omega)
    omega
  · have h2 : (z.tmod (N : Int) + (N : Int)).tmod (N : Int) < (N : Int) := Int.tmod_lt_of_pos _ (by omega)
    omega

theorem deck_set {w : World} {p : Nat} {a : Option Addr} {cap : Nat} {zs : List Int} {k : Nat} (h : DeckAt w p a cap zs k) (hk : k < 30000) : DeckAt (w.setCell ⟨p, 1, none⟩ (.int .i64 ((k : Int) + 1))) p a cap zs (k + 1) := by
  obtain ⟨h1, h2, h3, _, h4⟩ := h
  refine ⟨?_, h2.below ((Below.refl p w).setCell (p := ⟨p, 1, none⟩) (Nat.le_refl _) _) h3, h3, by omega, h4⟩
  simp [World.setCell, Array.getElem?_modify, h1]
set_option maxRecDepth 100000 in
set_option maxHeartbeats 1000000 in
theorem next_more (p : Nat) (a : Option Addr) (cap : Nat) (zs : List Int) (k : Nat) (N : Nat) (w : World) (h : DeckAt w p a cap zs k) (hk : k < zs.length) (hk2 : k < 30000) (hN : 0 < N) (hN2 : N ≤ 1099511627776) :
    Calls Tryz.prog 9 #[.pointer (some ⟨p, 0, none⟩), .int .i64 (N : Int)] w fun e w' => (∃ r : Nat, r < N ∧ e = .returned (.int .i64 (r : Int))) ∧ DeckAt w' p a cap zs (k + 1) ∧ But p w w' := by
  have HD := Lib.hid h
  obtain ⟨h1, h2, h3, _, h4⟩ := h
  obtain ⟨b, o, ha, hc⟩ := h2.at k hk
  have hbp := h3 _ ha (fun e => by rw [e] at hk; exact absurd hk (Nat.not_lt_zero _))
  subst ha
  generalize zs.getD k 0 = z at hc
  obtain ⟨x, y, r, e1, x1, x2, e2, y1, y2, e3, hr⟩ := next_num z N hN hN2
  obtain ⟨n, hn⟩ : ∃ n, n = zs.length := ⟨_, rfl⟩
  rw [← hn] at h1 hk h4
  have c0 : w.cell? ⟨p, 0, none⟩ = some (.slice (some ⟨b, o, none⟩) n cap) := by rw [Lib.cell_of_heap h1]; rfl
  have c1 : w.cell? ⟨p, 1, none⟩ = some (.int .i64 (k : Int)) := by rw [Lib.cell_of_heap h1]; rfl
  have f1 : w.frozen? ⟨p, 1, none⟩ = false := Lib.frozen_of_heap h1 1
  have hne : b ≠ p := by simp at hbp; omega
  have d0 : decide ((n : Int) ≤ (k : Int)) = false := by simp; omega
  have HR := Lib.hid hr
  clear h1 hn h2 h3 hr hbp
  go_enter Tryz.func9, Tryz.ntmps9
  go_wp2_with fail
  go_region
  go_wp2_with fail
  go_region
  go_wp2_with fail
  go_ret
  exact ⟨⟨r, HR.out, rfl⟩, deck_set HD.out hk2, (But.set p 1 w _).drew.drew⟩

theorem next_any (p : Nat) (a : Option Addr) (cap : Nat) (zs : List Int) (k : Nat) (N : Nat) (w : World) (h : DeckAt w p a cap zs k) (hk2 : k < 30000) (hN : 0 < N) (hN2 : N ≤ 1099511627776) :
    Calls Tryz.prog 9 #[.pointer (some ⟨p, 0, none⟩), .int .i64 (N : Int)] w fun e w' => ∃ r k' : Nat, r < N ∧ e = .returned (.int .i64 (r : Int)) ∧ DeckAt w' p a cap zs k' ∧ k' ≤ k + 1 ∧ But p w w' := by
  by_cases hk : k < zs.length
  · exact (next_more p a cap zs k N w h hk hk2 hN hN2).mono fun e w' hh => by
      obtain ⟨⟨r, hr, he⟩, h1, h2⟩ := hh
      exact ⟨r, k + 1, hr, he, h1, Nat.le_refl _, h2⟩
  · exact (next_end p a cap zs k N w h (by omega)).mono fun e w' hh => ⟨0, k, hN, by rw [hh.1]; rfl, hh.2.1, by omega, hh.2.2⟩

set_option maxRecDepth 100000 in
theorem new_any (a : Option Addr) (cap : Nat) (zs : List Int) (w : World) (hl : ILies w a zs) (hz : zs.length ≤ 9223372036854775807) :
    Calls Tryz.prog 7 #[.slice a zs.length cap] w fun e w' => e = .returned (.pointer (some ⟨w.heap.size, 0, none⟩)) ∧ DeckAt w' w.heap.size a cap zs 0 ∧ Below w.heap.size w w' := by
  have ha : ∀ x, a = some x → zs ≠ [] → x.block < w.heap.size := by
    intro x hx hne
    rcases hl with h | ⟨b, o, h1, h2⟩
    · exact absurd h hne
    · obtain rfl := Option.some.inj (hx.symm.trans h1)
      exact block_lt_of_cell (h2 0 (List.length_pos_iff.2 hne))
  have HL := Lib.hid hl
  obtain ⟨n, hn⟩ : ∃ n, n = zs.length := ⟨_, rfl⟩
  have HN := Lib.hid hn
  rw [← hn]
  clear hl hn
  go_enter Tryz.func7, Tryz.ntmps7
  go_wp2_with fail
  go_ret
  have hb : Below w.heap.size w (w.alloc (.cells #[.slice a n cap, .int .i64 0] 51)) := (Below.refl _ _).alloc (Nat.le_refl _) _
  refine ⟨rfl, ⟨?_, HL.out.below hb ha, ha, by omega, hz⟩, hb⟩
  rw [← HN.out]
  exact heap_alloc_new w _
theorem DeckAt.lt {w : World} {p : Nat} {a : Option Addr} {cap : Nat} {zs : List Int} {k : Nat} (h : DeckAt w p a cap zs k) : p < w.heap.size := (Array.getElem?_eq_some_iff.1 h.1).1
/-- A call that leaves all old memory alone leaves the deck alone. -/
theorem DeckAt.below {w w' : World} {p : Nat} {a : Option Addr} {cap : Nat} {zs : List Int} {k : Nat} (h : DeckAt w p a cap zs k) (hb : Below w.heap.size w w') : DeckAt w' p a cap zs k := by
  have hp := h.lt
  obtain ⟨h1, h2, h3, h5, h4⟩ := h
  exact ⟨(hb.block p hp).trans h1, h2.below (hb.mono (Nat.le_of_lt hp)) h3, h3, h5, h4⟩
/-- Growth of a row of a block behind the deck's leaves the deck alone. -/
theorem DeckAt.grown {w w' : World} {p : Nat} {a : Option Addr} {cap : Nat} {zs : List Int} {k : Nat} {row : Option Nat} (h : DeckAt w p a cap zs k) (hg : w.grownBy w' row) (hr : ∀ j, row = some j → p < j) : DeckAt w' p a cap zs k := by
  have hp := h.lt
  obtain ⟨h1, h2, h3, h5, h4⟩ := h
  have hb : Below p w w' := ⟨hg.os, hg.tape, hg.output, hg.size, fun j hj => hg.block j (by omega) (fun e => by have := hr j e.symm; omega)⟩
  exact ⟨(hg.block p hp (fun e => by have := hr p e.symm; omega)).trans h1, h2.below hb h3, h3, h5, h4⟩
end Go.Proofs.YtpmlkofceidnjaaGreatDoor
