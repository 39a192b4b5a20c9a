/-
  The contract of the reference's ParseName: the same name as Parse returns, or the same error.
-/
import Derived.Test.YtflpajbcomhkpaaGreatDoorSbe
import Derived.Test.YtflpajbcomhkpaaGreatDoorSan
import Derived.Test.YtflpajbcomhkpaaGreatDoorSbg
import Derived.Test.YtflpajbcomhkpaaGreatDoorSaq
import Derived.Test.YtflpajbcomhkpaaGreatDoorSbi
import Derived.Test.YtflpajbcomhkpaaGreatDoorSaw
namespace Go.Proofs.YtflpajbcomhkpaaGreatDoor
open Go.RowKit

theorem runeo_any (s : ByteArray) (w : World) (hn : s.size ≤ 1000000) :
    Calls Tryz.prog 58 #[.string s] w fun e w' => e = .returned (match uneO s.data.toList with | some v => .tuple #[.string v, .bool true] | none => .tuple #[.string ⟨#[]⟩, .bool false]) ∧ Below w.heap.size w w' := by
  refine (rune_any s w (by omega)).mono ?_
  rintro e w' ⟨u, ok, rfl, hu, hb⟩
  refine ⟨?_, hb⟩
  rcases une_of hu with ⟨rfl, h⟩ | ⟨rfl, rfl, h⟩ <;> rw [h]
theorem eq_first {x : ByteArray} {i : Nat} (h : Lib.indexByte x.data.toList 61 = (i : Int)) : i < x.size ∧ u8at x i = 61 ∧ ∀ j, j < i → u8at x j ≠ 61 := by
  obtain ⟨h1, h2⟩ := Lib.indexByte_some h
  have hl : i < x.size := (List.getElem?_eq_some_iff.1 h1).1
  refine ⟨hl, ?_, fun j hj e => ?_⟩
  · obtain ⟨c, hc, e⟩ := u8at_list x i hl
    rw [h1] at hc
    rw [e, ← Option.some.inj hc]; rfl
  · obtain ⟨c, hc, e'⟩ := u8at_list x j (by omega)
    refine h2 j hj ?_
    rw [hc]
    exact congrArg some (UInt8.toNat_inj.1 (by rw [← e', e]; rfl))
theorem eq_none {x : ByteArray} (h : Lib.indexByte x.data.toList 61 = -1) : ∀ j, j < x.size → u8at x j ≠ 61 := by
  intro j hj e
  obtain ⟨c, hc, e'⟩ := u8at_list x j hj
  refine Lib.indexByte_none h j ?_
  rw [hc]
  exact congrArg some (UInt8.toNat_inj.1 (by rw [← e', e]; rfl))
theorem prsA_no {x : ByteArray} (h : Lib.indexByte x.data.toList 61 = -1) : prsA x = none := if_pos h
theorem at_set0 {w : World} {g : Nat} {x y z a : Value} {t : TypeId} (h : w.heap[g]? = some (.cells #[x, y, z] t (0, 0))) : (w.setCell ⟨g, 0, none⟩ a).heap[g]? = some (.cells #[a, y, z] t (0, 0)) := by
  simp [World.setCell, Array.getElem?_modify, h]
theorem at_set2 {w : World} {g : Nat} {x y z a : Value} {t : TypeId} (h : w.heap[g]? = some (.cells #[x, y, z] t (0, 0))) : (w.setCell ⟨g, 2, none⟩ a).heap[g]? = some (.cells #[x, y, a] t (0, 0)) := by
  simp [World.setCell, Array.getElem?_modify, h]
theorem news_set {w : World} {j : Nat} {x : Value} {cs : Array Value} (h : (w.alloc (.cells cs 103)).cell? ((⟨w.heap.size, 0, none⟩ : Addr).add j) = some x) {n : Nat} (hn : n = w.heap.size) : (w.alloc (.cells cs 103)).cell? ((⟨n, 0, none⟩ : Addr).add j) = some x := by
  subst hn; exact h
theorem kind_ways (id v : ByteArray) : (id = idDC ∧ kindV id v = 22) ∨ (id ≠ idDC ∧ id = idE ∧ kindV id v = 22) ∨ (id ≠ idDC ∧ id ≠ idE ∧ validB 19 v.data.toList = true ∧ kindV id v = 19) ∨ (id ≠ idDC ∧ id ≠ idE ∧ validB 19 v.data.toList = false ∧ kindV id v = 12) := by
  by_cases h1 : id = idDC
  · exact .inl ⟨h1, if_pos h1⟩
  by_cases h2 : id = idE
  · exact .inr (.inl ⟨h1, h2, by unfold kindV; rw [if_neg h1, if_pos h2]⟩)
  cases h3 : validB 19 v.data.toList with
  | true => exact .inr (.inr (.inl ⟨h1, h2, rfl, by unfold kindV; rw [if_neg h1, if_neg h2, if_pos h3]⟩))
  | false => exact .inr (.inr (.inr ⟨h1, h2, rfl, by unfold kindV; rw [if_neg h1, if_neg h2, if_neg (by rw [h3]; decide)]⟩))

set_option maxRecDepth 100000 in
set_option maxHeartbeats 8000000 in
theorem rpars_any (x : ByteArray) (w : World) (hx : x.size ≤ 150000) :
    Calls Tryz.prog 60 #[.string x] w fun e w' => ∃ v, e = .returned (.tuple #[v, .int .i64 ((prsErr x : Nat) : Int)]) ∧ OwnV w' w.heap.size v (prsV x) ∧ Below w.heap.size w w' := by
  by_cases h0 : x.size = 0
  · obtain rfl := empty_of_size h0
    have e1 : prsErr ⟨#[]⟩ = 0 := rfl
    have e2 : prsV ⟨#[]⟩ = [] := rfl
    rw [e1, e2]
    clear hx
    go_enter Tryz.func60, Tryz.ntmps60
    go_wp2_with fail
    exact bodyPost_ret (nmRes rfl _ _ w _ rfl (((belowNew _ _).block _ (by simp)).trans (heap_alloc_new w _))) rfl ⟨_, rfl, ⟨_, rfl, OwnN.nil _ _⟩, belowTwo w _ _⟩
  obtain ⟨i0, hi, hz0, hz1, hz2⟩ := info_parts rdInfo
  obtain ⟨i1, hi', hy0, hy1, hy2⟩ := info_parts atInfo
  have he := nonempty_list h0
  obtain ⟨E, hE⟩ : ∃ E, E = prsErr x := ⟨_, rfl⟩
  obtain ⟨V, hV⟩ : ∃ V, V = prsV x := ⟨_, rfl⟩
  rw [← hE, ← hV]
  have hps := pieces_size 44 x
  have hpl := pcsS_len 44 x
  have hcl := count_le x 44
  have hRN : prsN x = allO prsR (pcsS 44 x) := if_neg h0
  have HSP := Lib.hid (fun W => rsplit_any x 44 44 rfl W hx)
  obtain ⟨ps, hps0⟩ : ∃ ps, ps = pcsS 44 x := ⟨_, rfl⟩
  rw [← hps0] at HSP hps hpl hRN
  obtain ⟨R, hR⟩ : ∃ R, R = allO prsR ps := ⟨_, rfl⟩
  rw [← hR] at hRN
  have HE1 := Lib.hid (show R = none → E = 32 ∧ V = [] from fun h => by
    rw [h] at hRN
    have e1 : E = 32 := by rw [hE]; unfold prsErr; rw [hRN]
    exact ⟨e1, by rw [hV]; unfold prsV; rw [← hE, e1]; rfl⟩)
  have HE2 := Lib.hid (show ∀ n, R = some n → E = chkN n ∧ V = (if E = 0 then n else []) ∧ SmallN n from fun n h => by
    rw [h] at hRN
    exact ⟨by rw [hE]; unfold prsErr; rw [hRN], by rw [hV]; unfold prsV; rw [← hE, hRN]; rfl, prsN_small hRN hx⟩)
  obtain ⟨n, hn⟩ : ∃ n, n = ps.length := ⟨_, rfl⟩
  rw [← hn] at hps hpl
  have hnn : n ≤ 150001 := by omega
  have hn1 : 1 ≤ n := by omega
  have HPS := Lib.hid (fun k (hk : k < n) => Nat.le_trans (hps k hk) hx)
  have HN := Lib.hid hn
  have HR := Lib.hid hR
  have HX := Lib.hid hx
  obtain ⟨g, hg⟩ : ∃ g, g = w.heap.size := ⟨_, rfl⟩
  obtain ⟨W0, hW0⟩ : ∃ W0, W0 = (w.alloc (.cells #[.slice none 0 0] 30)).alloc (.cells #[.slice none 0 0] 30) := ⟨_, rfl⟩
  have HB0 := Lib.hid (show Below w.heap.size w W0 by rw [hW0]; exact belowTwo w _ _)
  have HZ0 := Lib.hid (show W0.heap.size = g + 2 by rw [hW0, hg]; simp)
  have HG0 := Lib.hid (show W0.heap[g]? = some (.cells #[.slice none 0 0] 30 (0, 0)) by
    rw [hW0, hg]; exact ((belowNew _ _).block _ (by simp)).trans (heap_alloc_new w _))
  have HG1 := Lib.hid (show W0.heap[g + 1]? = some (.cells #[.slice none 0 0] 30 (0, 0)) by
    have := heap_alloc_new (w.alloc (.cells #[.slice none 0 0] 30)) (.cells #[.slice none 0 0] 30)
    rw [← hW0] at this
    rw [hg]
    simpa using this)
  have HWE := Lib.hid hW0.symm
  have HG := Lib.hid hg
  clear hps hpl hcl hRN hE hV hn hR hx hW0 hg h0 hps0
  go_enter Tryz.func60, Tryz.ntmps60
  go_wp2_with fail
  rw [HWE.out, ← HG.out]
  refine (HSP.out W0).mono ?_
  rintro e W1 ⟨⟨v0, rfl, ho0⟩, hb1⟩
  obtain ⟨gs, cps, rfl, hgs, hBs, hcps, hcs⟩ := OwnT.cells ho0 HN.out (fun e => by rw [HN.out, e] at hn1; simp at hn1)
  rw [HZ0.out] at hBs
  have HCS := Lib.hid hcs
  have HB1 := Lib.hid (below_next HB0.out hb1)
  have hG0 := (hb1.block g (by rw [HZ0.out]; omega)).trans HG0.out
  have hG1 := (hb1.block (g + 1) (by rw [HZ0.out]; omega)).trans HG1.out
  have HH0 := Lib.hid hG0
  have HH1 := Lib.hid hG1
  have HZ1 := Lib.hid (show g + 2 ≤ W1.heap.size by have := hb1.size; have := HZ0.out; omega)
  clear ho0 hb1 hcs hG0 hG1
  go_wp2_with fail
  go_loopw [24] (fun i wr => ∃ (k : Nat) (D : Nm) (v : Value), k ≤ n ∧ D.length = k ∧ i = .int .i64 (k : Int) ∧ R = (allO prsR (ps.drop k)).map (D ++ ·) ∧ wr.heap[g + 1]? = some (.cells #[v] 30 (0, 0)) ∧ OwnN wr W1.heap.size v D ∧ But (g + 1) W1 wr) (fun i _ => n - (intOf i).toNat)
  case atStart => exact ⟨0, [], _, Nat.zero_le _, rfl, rfl, by rw [HR.out]; exact allO_start _ _, HH1.out, OwnN.nil _ _, But.refl _ _⟩
  case round =>
    obtain ⟨wo, hwo⟩ : ∃ wo, wo = wr := ⟨_, rfl⟩
    subst hwo
    obtain ⟨k, D, v, hk, hDk, rfl, hA, hbx, hown, hb⟩ := hrel
    have HB := Lib.hid hb
    have HA := Lib.hid hA
    have HO := Lib.hid hown
    have HDK := Lib.hid hDk
    have HBX := Lib.hid hbx
    have HR0 := Lib.hid (show wo.heap[g]? = some (.cells #[.slice none 0 0] 30 (0, 0)) from (hb.block g (by have := HZ1.out; omega) (by simp)).trans HH0.out)
    have hzr : W1.heap.size ≤ wo.heap.size := hb.size
    have HBL := Lib.hid (show Below w.heap.size w wo from HB1.out.trans ((hb.below (by have := HZ1.out; omega)).mono (by rw [← HG.out]; omega)))
    clear hb hA hown hDk hbx
    by_cases hlt : k < n
    · have hd : decide ((k : Int) < (n : Int)) = true := by simp; omega
      have c0 : wo.cell? ⟨gs, k, none⟩ = some (.string (ps.getD k ⟨#[]⟩)) := HB.out.cell (HCS.out k hlt) (by simp; omega)
      have hsz := HPS.out k hlt
      obtain ⟨s, hs⟩ : ∃ s, s = ps.getD k ⟨#[]⟩ := ⟨_, rfl⟩
      rw [← hs] at c0 hsz
      have hps2 := pieces_size 43 s
      have hpl2 := pcsS_len 43 s
      have hcl2 := count_le s 43
      have HSP2 := Lib.hid (fun W => rsplit_any s 43 43 rfl W hsz)
      obtain ⟨qs, hqs0⟩ : ∃ qs, qs = pcsS 43 s := ⟨_, rfl⟩
      rw [← hqs0] at HSP2 hps2 hpl2
      have HRR := Lib.hid (show prsR s = allO prsA qs by rw [hqs0]; rfl)
      obtain ⟨m, hm⟩ : ∃ m, m = qs.length := ⟨_, rfl⟩
      rw [← hm] at hps2 hpl2
      have hmm : m ≤ 150001 := by omega
      have hm1 : 1 ≤ m := by omega
      have HM := Lib.hid hm
      have HPS2 := Lib.hid (fun k (hk : k < m) => Nat.le_trans (hps2 k hk) hsz)
      have HSN := Lib.hid (show prsR s = none → R = none from fun h => by rw [HA.out, allO_bad (d := ⟨#[]⟩) (by rw [← HN.out]; exact hlt) (by rw [← hs]; exact h)]; rfl)
      have HSY := Lib.hid (show ∀ r, prsR s = some r → R = (allO prsR (ps.drop (k + 1))).map ((D ++ [r]) ++ ·) from fun r h => by rw [HA.out, allO_step (d := ⟨#[]⟩) (by rw [← HN.out]; exact hlt) (by rw [← hs]; exact h)])
      clear hps2 hpl2 hcl2 hqs0 hm hs hsz
      go_wp2_with fail
      refine (HSP2.out wo).mono ?_
      rintro e w2 ⟨⟨v2, rfl, ho2⟩, hb2⟩
      obtain ⟨g2, cp2, rfl, hg2, hB2, hcp2, hcs2⟩ := OwnT.cells ho2 HM.out (fun e => by rw [HM.out, e] at hm1; simp at hm1)
      have HCS2 := Lib.hid hcs2
      have HB2 := Lib.hid hb2
      have hz2r : wo.heap.size ≤ w2.heap.size := hb2.size
      clear ho2 hb2 hcs2
      go_wp2_with fail
      go_loopw [7, 31] (fun r i ws => ∃ (q : Nat) (L : List At) (u : Value), q ≤ m ∧ L.length = q ∧ r = u ∧ i = .int .i64 (q : Int) ∧ prsR s = (allO prsA (qs.drop q)).map (L ++ ·) ∧ OwnA ws w2.heap.size u L ∧ Below w2.heap.size w2 ws) (fun _ i _ => m - (intOf i).toNat)
      case atStart => exact ⟨0, [], _, Nat.zero_le _, rfl, rfl, rfl, by rw [HRR.out]; exact allO_start _ _, OwnA.nil _ _, Below.refl _ _⟩
      case round =>
        obtain ⟨ws, hws⟩ : ∃ ws, ws = wr := ⟨_, rfl⟩
        subst hws
        obtain ⟨q, L, u, hq, hLq, rfl, rfl, hA2, hown2, hb3⟩ := hrel
        have HB3 := Lib.hid hb3
        have HA2 := Lib.hid hA2
        have HO2 := Lib.hid hown2
        have HLQ := Lib.hid hLq
        have hz3 : w2.heap.size ≤ ws.heap.size := hb3.size
        clear hb3 hA2 hown2 hLq
        by_cases hlq : q < m
        · have hd2 : decide ((q : Int) < (m : Int)) = true := by simp; omega
          have c2 : ws.cell? ⟨g2, q, none⟩ = some (.string (qs.getD q ⟨#[]⟩)) := (HB3.out.cell (p := ⟨g2, q, none⟩) hg2).trans (HCS2.out q hlq)
          have htz := HPS2.out q hlq
          have HBAD := Lib.hid (show prsA (qs.getD q ⟨#[]⟩) = none → R = none from fun h => HSN.out (by rw [HA2.out, allO_bad (d := ⟨#[]⟩) (by rw [← HM.out]; exact hlq) h]; rfl))
          have HGOOD := Lib.hid (show ∀ a, prsA (qs.getD q ⟨#[]⟩) = some a → prsR s = (allO prsA (qs.drop (q + 1))).map ((L ++ [a]) ++ ·) from fun a h => by rw [HA2.out, allO_step (d := ⟨#[]⟩) (by rw [← HM.out]; exact hlq) h])
          generalize qs.getD q ⟨#[]⟩ = t at c2 htz HBAD HGOOD
          have HTZ := Lib.hid htz
          have hq0 := (HB3.out.block g (by omega)).trans ((HB2.out.block g (by omega)).trans HR0.out)
          have HQ0 := Lib.hid hq0
          have HBS := Lib.hid (below_next (below_next HBL.out HB2.out) HB3.out)
          clear hq0
          rcases index_cases t.data.toList 61 with ⟨hix, _⟩ | ⟨ix, hix, _⟩
          · have HNO := Lib.hid (eq_none hix)
            have HF := Lib.hid (HE1.out (HBAD.out (prsA_no hix)))
            clear hix
            go_wp2_with fail
            go_loopw [10] (fun i wq => ∃ (j : Nat), j ≤ t.size ∧ i = .int .i64 (j : Int) ∧ wq = ws) (fun i _ => t.size - (intOf i).toNat)
            case atStart => exact ⟨0, Nat.zero_le _, rfl, rfl⟩
            case round =>
              obtain ⟨j, hj, rfl, rfl⟩ := hrel
              by_cases hjl : j < t.size
              · have hdj : decide ((j : Int) < (t.size : Int)) = true := by simp; omega
                have hixx := fun w => run_index_u8 (P := Tryz.prog) Tryz.underlying9 t j hjl (j : Int) rfl w
                have hne := HNO.out j hjl
                generalize u8at t j = cc at hixx hne
                have hcc : ((cc : Int) != 61) = true := by simp; omega
                go_wp2_with fail
                go_roundw
                case rel => exact ⟨j + 1, by omega, by go_num, by first | exact trivial | rfl⟩
                case measure => simp [intOf]; omega
              · obtain rfl : j = t.size := by omega
                have hdj : decide ((t.size : Int) < (t.size : Int)) = false := by simp
                have hee : ((t.size : Int) == (t.size : Int)) = true := by simp
                obtain ⟨r0, f0, hl0⟩ := one_facts HQ0.out
                go_wp2_with fail
                rw [HF.out.1, HF.out.2]
                exact bodyPost_ret (nmRes rfl _ _ w _ (by rw [← HG.out]; rfl) (by rw [← HG.out]; exact one_set HQ0.out)) rfl ⟨_, rfl, ⟨_, rfl, OwnN.nil _ _⟩, HBS.out.setCell (p := ⟨g, 0, none⟩) (by rw [← HG.out]; exact Nat.le_refl _) _⟩
          · obtain ⟨hit, hi61, hbf⟩ := eq_first hix
            have HBF := Lib.hid hbf
            obtain ⟨wd, hwd⟩ : ∃ wd, wd = t.extract 0 ix := ⟨_, rfl⟩
            obtain ⟨rs, hrs⟩ : ∃ rs, rs = t.extract (ix + 1) t.size := ⟨_, rfl⟩
            have HST := Lib.hid (prsA_st hix hwd.symm hrs.symm)
            have HWZ := Lib.hid (show wd.size ≤ 150000 by rw [hwd, ByteArray.size_extract]; omega)
            have HRZ := Lib.hid (show rs.size ≤ 150000 by rw [hrs, ByteArray.size_extract]; omega)
            obtain ⟨ix1, hix1⟩ : ∃ ix1, ix1 = ix + 1 := ⟨_, rfl⟩
            have hs1 : ∀ w, (Instr.slice 9 (.string t) none (some (.int .i64 (ix : Int))) none).run Tryz.prog w = .ok (.string wd) w := fun w => by
              have := run_slice_string_to_if (P := Tryz.prog) w 9 t .i64 (ix : Int) Tryz.underlying9
              rw [this, if_pos ⟨by omega, by omega⟩, hwd]
              congr 3
            have hs2 : ∀ w, (Instr.slice 9 (.string t) (some (.int .i64 (ix1 : Int))) none none).run Tryz.prog w = .ok (.string rs) w := fun w => by
              have := run_slice_string_from_if (P := Tryz.prog) w 9 t .i64 (ix1 : Int) Tryz.underlying9
              rw [this, if_pos ⟨by omega, by omega⟩, hrs, hix1]
              congr 3
            have hadd : (ix : Int) + 1 = (ix1 : Int) := by omega
            have hixx := fun w => run_index_u8 (P := Tryz.prog) Tryz.underlying9 t ix hit (ix : Int) rfl w
            rw [hi61] at hixx
            clear hix hbf hwd hrs hix1
            go_wp2_with fail
            go_loopw [10] (fun i wq => ∃ (j : Nat), j ≤ ix ∧ i = .int .i64 (j : Int) ∧ wq = ws) (fun i _ => t.size - (intOf i).toNat)
            case atStart => exact ⟨0, Nat.zero_le _, rfl, rfl⟩
            case round =>
              obtain ⟨j, hj, rfl, hwq⟩ := hrel
              have hwq' := hwq.symm
              subst hwq'
              have hdj : decide ((j : Int) < (t.size : Int)) = true := by simp; omega
              by_cases hjl : j < ix
              · have hix2 := fun w => run_index_u8 (P := Tryz.prog) Tryz.underlying9 t j (by omega) (j : Int) rfl w
                have hne := HBF.out j hjl
                generalize u8at t j = cc at hix2 hne
                have hcc : ((cc : Int) != 61) = true := by simp; omega
                clear hixx
                go_wp2_with fail
                go_roundw
                case rel => exact ⟨j + 1, by omega, by go_num, by first | exact trivial | rfl⟩
                case measure => simp [intOf]; omega
              · have hji : ix = j := by omega
                subst hji
                have hcc : (((61 : Nat) : Int) != 61) = false := by decide
                have hee : ((ix : Int) == (t.size : Int)) = false := by simp; omega
                go_wp2_with fail
                refine (rshort_any _).mono ?_
                rintro e w3 ⟨rfl, rfl⟩
                go_wp2_with fail
                obtain ⟨qa, hqa⟩ : ∃ qa, qa = ws.heap.size := ⟨_, rfl⟩
                obtain ⟨W4, hW4⟩ : ∃ W4, W4 = (ws.alloc (.cells #[.string wd, .int .i64 12, .string ⟨#[]⟩] 103)).alloc (.cells shArr 9) := ⟨_, rfl⟩
                have HB4 := Lib.hid (show Below ws.heap.size ws W4 by rw [hW4]; exact belowTwo ws _ _)
                have HQA := Lib.hid (show W4.heap[qa]? = some (.cells #[.string wd, .int .i64 12, .string ⟨#[]⟩] 103 (0, 0)) by rw [hW4, hqa]; exact ((belowNew _ _).block _ (by simp)).trans (heap_alloc_new ws _))
                have HQS := Lib.hid (show W4.heap[qa + 1]? = some (.cells shArr 9 (0, 0)) by
                  have h1 := heap_alloc_new (ws.alloc (.cells #[.string wd, .int .i64 12, .string ⟨#[]⟩] 103)) (.cells shArr 9)
                  have h2 : (ws.alloc (.cells #[.string wd, .int .i64 12, .string ⟨#[]⟩] 103)).heap.size = qa + 1 := by rw [hqa]; simp
                  rw [← hW4, h2] at h1
                  exact h1)
                have HZ4 := Lib.hid (show qa + 2 ≤ W4.heap.size by have := (Array.getElem?_eq_some_iff.1 HQS.out).1; omega)
                have HQZ := Lib.hid hqa
                rw [← hW4, ← hqa]
                clear hW4 hqa
                go_loopw [13] (fun jv wl => ∃ (e jj : Nat), e ≤ 7 ∧ jj = e * 2 ∧ jv = .int .i64 (jj : Int) ∧ wl.heap[qa]? = some (.cells #[.string (stT wd e), .int .i64 12, .string ⟨#[]⟩] 103 (0, 0)) ∧ But qa W4 wl) (fun jv _ => 14 - (intOf jv).toNat)
                case atStart => exact ⟨0, 0, by omega, rfl, rfl, HQA.out, But.refl _ _⟩
                case round =>
                  obtain ⟨wl, hwl⟩ : ∃ wl, wl = wr := ⟨_, rfl⟩
                  subst hwl
                  obtain ⟨e, jj, he7, hjj, rfl, hcell, hbl⟩ := hrel
                  have HQL := Lib.hid hcell
                  have HBT := Lib.hid hbl
                  have HJJ := Lib.hid hjj
                  obtain ⟨c0', c1', c2', f0', f1', f2', hlq⟩ := at_facts hcell
                  have HXL := Lib.hid (show Below ws.heap.size ws wl from HB4.out.trans ((hbl.below (by have := HZ4.out; omega)).mono (by rw [HQZ.out]; exact Nat.le_refl _)))
                  clear hcell hbl
                  by_cases he : e < 7
                  · have hdl : decide ((jj : Int) < 14) = true := by simp; omega
                    obtain ⟨ha1, ha2⟩ := sh_arr e he
                    obtain ⟨jj1, hjj1⟩ : ∃ jj1, jj1 = jj + 1 := ⟨_, rfl⟩
                    have m1 : wl.cell? ⟨qa + 1, jj, none⟩ = some (.string (SH.getD e (⟨#[]⟩, ⟨#[]⟩)).1) := HBT.out.cell (by rw [Lib.cell_of_heap HQS.out, hjj]; exact ha1) (by simp)
                    have m2 : wl.cell? ⟨qa + 1, jj1, none⟩ = some (.string (SH.getD e (⟨#[]⟩, ⟨#[]⟩)).2) := HBT.out.cell (by rw [Lib.cell_of_heap HQS.out, hjj1, hjj]; exact ha2) (by simp)
                    have hadj : (jj : Int) + 1 = (jj1 : Int) := by omega
                    have HSTP := Lib.hid (show stT wd (e + 1) = if (SH.getD e (⟨#[]⟩, ⟨#[]⟩)).1 = stT wd e then (SH.getD e (⟨#[]⟩, ⟨#[]⟩)).2 else stT wd e from rfl)
                    generalize SH.getD e (⟨#[]⟩, ⟨#[]⟩) = sp at m1 m2 HSTP
                    obtain ⟨s1, s2⟩ := sp
                    generalize stT wd e = y at c0' HQL HSTP
                    have hjI : (jj : Int) < 14 := by omega
                    have hjJ : (jj1 : Int) < 14 := by omega
                    clear ha1 ha2 hjj hjj1
                    by_cases hyy : s1 = y
                    · have hqq : (s1.toList == y.toList) = true := by rw [beq_str]; simpa using hyy
                      have HY := Lib.hid (show stT wd (e + 1) = s2 by rw [HSTP.out]; exact if_pos hyy)
                      clear hyy
                      go_wp2_with fail
                      go_region
                      go_wp2_with fail
                      go_roundw
                      case rel => exact ⟨e + 1, jj + 2, by omega, by have := HJJ.out; omega, by go_num, by rw [HY.out]; exact at_set0 HQL.out, (HBT.out.drew).next (But.set _ _ _ _)⟩
                      case measure => simp [intOf]; omega
                    · have hqq : (s1.toList == y.toList) = false := by rw [beq_str]; simpa using hyy
                      have HY := Lib.hid (show stT wd (e + 1) = y by rw [HSTP.out]; exact if_neg hyy)
                      clear hyy
                      go_wp2_with fail
                      go_region
                      go_wp2_with fail
                      go_roundw
                      case rel => exact ⟨e + 1, jj + 2, by omega, by have := HJJ.out; omega, by go_num, by rw [HY.out]; exact HQL.out, HBT.out.drew⟩
                      case measure => simp [intOf]; omega
                  · have he' : e = 7 := by omega
                    subst he'
                    have hdl : decide ((jj : Int) < 14) = false := by simp; omega
                    have HIDZ := Lib.hid (st_size wd HWZ.out 7 (Nat.le_refl _))
                    have e0 := HST.out
                    generalize stT wd 7 = id at c0' HQL HIDZ e0
                    have HU := Lib.hid (fun W => runeo_any rs W (by have := HRZ.out; omega))
                    have HVO := Lib.hid (fun W => rvalid_b id W (by have := HIDZ.out; omega))
                    have hqw : ws.heap.size ≤ qa := by rw [HQZ.out]; exact Nat.le_refl _
                    clear hjj HQA HQS HST
                    cases hu : uneO rs.data.toList with
                    | none =>
                      rw [hu] at e0 HU
                      have HF := Lib.hid (HE1.out (HBAD.out e0))
                      clear e0 hu
                      go_wp2_with (go_at_call 58; (with_reducible refine (HU.out _).mono ?_); rintro e w5 ⟨rfl, hb5⟩; have HX5 := Lib.hid (below_next HXL.out hb5); have hq5 := (HX5.out.block g (Array.getElem?_eq_some_iff.1 HQ0.out).1).trans HQ0.out; have HQ5 := Lib.hid hq5; obtain ⟨r0, f0, hl0⟩ := one_facts hq5; clear hb5 hq5)
                      rw [HF.out.1, HF.out.2]
                      exact bodyPost_ret (nmRes rfl _ _ w _ (by rw [← HG.out]; rfl) (by rw [← HG.out]; exact one_set HQ5.out)) rfl ⟨_, rfl, ⟨_, rfl, OwnN.nil _ _⟩, (below_next HBS.out HX5.out).setCell (p := ⟨g, 0, none⟩) (by rw [← HG.out]; exact Nat.le_refl _) _⟩
                    | some v =>
                      have HVS := Lib.hid (uneO_size hu)
                      rw [hu] at e0 HU
                      cases ho : oidB id with
                      | false =>
                        rw [ho] at e0 HVO
                        have HF := Lib.hid (HE1.out (HBAD.out e0))
                        clear e0 hu ho
                        go_wp2_with (first
                          | (go_at_call 58; (with_reducible refine (HU.out _).mono ?_); rintro e w5 ⟨rfl, hb5⟩; have HX5 := Lib.hid (below_next HXL.out hb5); have hq5 := (hb5.block qa hlq).trans HQL.out; obtain ⟨c05, c15, c25, f05, f15, f25, hl5⟩ := at_facts hq5; clear hb5 hq5)
                          | (go_at_call 100; (with_reducible refine (HVO.out _).mono ?_); rintro e w6 ⟨rfl, hb6⟩; have HX6 := Lib.hid (below_next HX5.out hb6); have hq6 := (HX6.out.block g (Array.getElem?_eq_some_iff.1 HQ0.out).1).trans HQ0.out; have HQ6 := Lib.hid hq6; obtain ⟨r0, f0, hl0⟩ := one_facts hq6; clear hb6 hq6))
                        rw [HF.out.1, HF.out.2]
                        exact bodyPost_ret (nmRes rfl _ _ w _ (by rw [← HG.out]; rfl) (by rw [← HG.out]; exact one_set HQ6.out)) rfl ⟨_, rfl, ⟨_, rfl, OwnN.nil _ _⟩, (below_next HBS.out HX6.out).setCell (p := ⟨g, 0, none⟩) (by rw [← HG.out]; exact Nat.le_refl _) _⟩
                      | true =>
                        rw [ho] at e0 HVO
                        have HGA := Lib.hid (HGOOD.out _ e0)
                        have HVT := Lib.hid (fun W => rval_any 19 v W (by have h1 := HVS.out; have h2 := HRZ.out; have h3 : rs.data.toList.length = rs.size := rfl; omega))
                        have HD1 := Lib.hid (beq_lit id [48, 46, 57, 46, 50, 51, 52, 50, 46, 49, 57, 50, 48, 48, 51, 48, 48, 46, 49, 48, 48, 46, 49, 46, 50, 53])
                        have HD2 := Lib.hid (beq_lit id [49, 46, 50, 46, 56, 52, 48, 46, 49, 49, 51, 53, 52, 57, 46, 49, 46, 57, 46, 49])
                        clear e0 hu ho
                        obtain ⟨vt, hvt⟩ : ∃ vt, vt = validB 19 v.data.toList := ⟨_, rfl⟩
                        rw [← hvt] at HVT
                        rcases kind_ways id v with ⟨h1, ek⟩ | ⟨h1, h2, ek⟩ | ⟨h1, h2, h3, ek⟩ | ⟨h1, h2, h3, ek⟩
                        · rw [ek] at HGA
                          have hq1 : (id.toList == ([48, 46, 57, 46, 50, 51, 52, 50, 46, 49, 57, 50, 48, 48, 51, 48, 48, 46, 49, 48, 48, 46, 49, 46, 50, 53] : List UInt8)) = true := by rw [HD1.out]; exact decide_eq_true h1
                          clear h1 ek
                          cases vt with
                          | true =>
                            clear hvt
                            go_wp2_with (first
                              | (go_at_call 58; (with_reducible refine (HU.out _).mono ?_); rintro e w5 ⟨rfl, hb5⟩; have HX5 := Lib.hid (below_next HXL.out hb5); have hq5 := (hb5.block qa hlq).trans HQL.out; have HQ5 := Lib.hid hq5; obtain ⟨c05, c15, c25, f05, f15, f25, hl5⟩ := at_facts hq5; clear hb5 hq5)
                              | (go_at_call 100; (with_reducible refine (HVO.out _).mono ?_); rintro e w6 ⟨rfl, hb6⟩; have HX6 := Lib.hid (below_next HX5.out hb6); have hq6 := (hb6.block qa hl5).trans HQ5.out; have HQ6 := Lib.hid hq6; obtain ⟨c06, c16, c26, f06, f16, f26, hl6⟩ := at_facts hq6; clear hb6 hq6)
                              | (go_at_call 101; (with_reducible refine (HVT.out _).mono ?_); rintro e w7 ⟨rfl, hb7⟩; have HX7 := Lib.hid (below_next (HX6.out.setCell (p := ⟨qa, 2, none⟩) hqw (.string v)) hb7); have hq7 := (hb7.block qa (by simpa [World.setCell] using hl6)).trans (at_set2 HQ6.out); obtain ⟨c07, c17, c27, f07, f17, f27, hl7⟩ := at_facts hq7; clear hb7 hq7)
                              | (at_builtin; (refine wpList_append_own _ rfl (.tmp 107) (.tmp 109) 101 rfl w2.heap.size 103 i1 (.agg #[.string ⟨#[]⟩, .int .i64 0, .string ⟨#[]⟩]) 3 40 Tryz.underlying101 hi' hy0 hy1 hy2 rfl (by decide) _ L.length (atsCells L) rfl ((own_below HO2.out ((HX7.out.setCell (p := ⟨qa, 1, none⟩) hqw _).setCell (p := ⟨qa, 1, none⟩) hqw _)).alloc _) ⟨w7.heap.size, 0, none⟩ 1 1 (atCells (id, 22, v)) rfl rfl (fun j x h => news_set (at_news1 _ (id, 22, v) j x h) (by simp [World.setCell])) (atCells_one _) (by have := HLQ.out; unfold maxLen; omega) (by have := HLQ.out; omega) (by have := HB3.out.size; have := HX7.out.size; simp [World.setCell]; omega) ?_); intro v' w9 hown9 hgr9 _; obtain ⟨P1, P2⟩ := ats_round1 (e := (id, 22, v)) (Nat.le_refl _) HO2.out HB3.out ((HX7.out.setCell (p := ⟨qa, 1, none⟩) hqw _).setCell (p := ⟨qa, 1, none⟩) hqw _) hown9 hgr9; have HP1 := Lib.hid P1; have HP2 := Lib.hid P2; clear hown9 hgr9 P1 P2))
                            go_roundw
                            case rel => exact ⟨q + 1, L ++ [(id, 22, v)], _, by omega, by rw [List.length_append, HLQ.out]; rfl, rfl, by go_num, HGA.out, HP1.out, HP2.out⟩
                            case measure => simp [intOf]; omega
                          | false =>
                            clear hvt
                            go_wp2_with (first
                              | (go_at_call 58; (with_reducible refine (HU.out _).mono ?_); rintro e w5 ⟨rfl, hb5⟩; have HX5 := Lib.hid (below_next HXL.out hb5); have hq5 := (hb5.block qa hlq).trans HQL.out; have HQ5 := Lib.hid hq5; obtain ⟨c05, c15, c25, f05, f15, f25, hl5⟩ := at_facts hq5; clear hb5 hq5)
                              | (go_at_call 100; (with_reducible refine (HVO.out _).mono ?_); rintro e w6 ⟨rfl, hb6⟩; have HX6 := Lib.hid (below_next HX5.out hb6); have hq6 := (hb6.block qa hl5).trans HQ5.out; have HQ6 := Lib.hid hq6; obtain ⟨c06, c16, c26, f06, f16, f26, hl6⟩ := at_facts hq6; clear hb6 hq6)
                              | (go_at_call 101; (with_reducible refine (HVT.out _).mono ?_); rintro e w7 ⟨rfl, hb7⟩; have HX7 := Lib.hid (below_next (HX6.out.setCell (p := ⟨qa, 2, none⟩) hqw (.string v)) hb7); have hq7 := (hb7.block qa (by simpa [World.setCell] using hl6)).trans (at_set2 HQ6.out); obtain ⟨c07, c17, c27, f07, f17, f27, hl7⟩ := at_facts hq7; clear hb7 hq7)
                              | (at_builtin; (refine wpList_append_own _ rfl (.tmp 107) (.tmp 109) 101 rfl w2.heap.size 103 i1 (.agg #[.string ⟨#[]⟩, .int .i64 0, .string ⟨#[]⟩]) 3 40 Tryz.underlying101 hi' hy0 hy1 hy2 rfl (by decide) _ L.length (atsCells L) rfl ((own_below HO2.out (HX7.out.setCell (p := ⟨qa, 1, none⟩) hqw _)).alloc _) ⟨w7.heap.size, 0, none⟩ 1 1 (atCells (id, 22, v)) rfl rfl (fun j x h => news_set (at_news1 _ (id, 22, v) j x h) (by simp [World.setCell])) (atCells_one _) (by have := HLQ.out; unfold maxLen; omega) (by have := HLQ.out; omega) (by have := HB3.out.size; have := HX7.out.size; simp [World.setCell]; omega) ?_); intro v' w9 hown9 hgr9 _; obtain ⟨P1, P2⟩ := ats_round1 (e := (id, 22, v)) (Nat.le_refl _) HO2.out HB3.out (HX7.out.setCell (p := ⟨qa, 1, none⟩) hqw _) hown9 hgr9; have HP1 := Lib.hid P1; have HP2 := Lib.hid P2; clear hown9 hgr9 P1 P2))
                            go_roundw
                            case rel => exact ⟨q + 1, L ++ [(id, 22, v)], _, by omega, by rw [List.length_append, HLQ.out]; rfl, rfl, by go_num, HGA.out, HP1.out, HP2.out⟩
                            case measure => simp [intOf]; omega
                        · rw [ek] at HGA
                          have hq1 : (id.toList == ([48, 46, 57, 46, 50, 51, 52, 50, 46, 49, 57, 50, 48, 48, 51, 48, 48, 46, 49, 48, 48, 46, 49, 46, 50, 53] : List UInt8)) = false := by rw [HD1.out]; exact decide_eq_false h1
                          have hq2 : (id.toList == ([49, 46, 50, 46, 56, 52, 48, 46, 49, 49, 51, 53, 52, 57, 46, 49, 46, 57, 46, 49] : List UInt8)) = true := by rw [HD2.out]; exact decide_eq_true h2
                          clear h1 h2 ek
                          cases vt with
                          | true =>
                            clear hvt
                            go_wp2_with (first
                              | (go_at_call 58; (with_reducible refine (HU.out _).mono ?_); rintro e w5 ⟨rfl, hb5⟩; have HX5 := Lib.hid (below_next HXL.out hb5); have hq5 := (hb5.block qa hlq).trans HQL.out; have HQ5 := Lib.hid hq5; obtain ⟨c05, c15, c25, f05, f15, f25, hl5⟩ := at_facts hq5; clear hb5 hq5)
                              | (go_at_call 100; (with_reducible refine (HVO.out _).mono ?_); rintro e w6 ⟨rfl, hb6⟩; have HX6 := Lib.hid (below_next HX5.out hb6); have hq6 := (hb6.block qa hl5).trans HQ5.out; have HQ6 := Lib.hid hq6; obtain ⟨c06, c16, c26, f06, f16, f26, hl6⟩ := at_facts hq6; clear hb6 hq6)
                              | (go_at_call 101; (with_reducible refine (HVT.out _).mono ?_); rintro e w7 ⟨rfl, hb7⟩; have HX7 := Lib.hid (below_next (HX6.out.setCell (p := ⟨qa, 2, none⟩) hqw (.string v)) hb7); have hq7 := (hb7.block qa (by simpa [World.setCell] using hl6)).trans (at_set2 HQ6.out); obtain ⟨c07, c17, c27, f07, f17, f27, hl7⟩ := at_facts hq7; clear hb7 hq7)
                              | (at_builtin; (refine wpList_append_own _ rfl (.tmp 107) (.tmp 109) 101 rfl w2.heap.size 103 i1 (.agg #[.string ⟨#[]⟩, .int .i64 0, .string ⟨#[]⟩]) 3 40 Tryz.underlying101 hi' hy0 hy1 hy2 rfl (by decide) _ L.length (atsCells L) rfl ((own_below HO2.out ((HX7.out.setCell (p := ⟨qa, 1, none⟩) hqw _).setCell (p := ⟨qa, 1, none⟩) hqw _)).alloc _) ⟨w7.heap.size, 0, none⟩ 1 1 (atCells (id, 22, v)) rfl rfl (fun j x h => news_set (at_news1 _ (id, 22, v) j x h) (by simp [World.setCell])) (atCells_one _) (by have := HLQ.out; unfold maxLen; omega) (by have := HLQ.out; omega) (by have := HB3.out.size; have := HX7.out.size; simp [World.setCell]; omega) ?_); intro v' w9 hown9 hgr9 _; obtain ⟨P1, P2⟩ := ats_round1 (e := (id, 22, v)) (Nat.le_refl _) HO2.out HB3.out ((HX7.out.setCell (p := ⟨qa, 1, none⟩) hqw _).setCell (p := ⟨qa, 1, none⟩) hqw _) hown9 hgr9; have HP1 := Lib.hid P1; have HP2 := Lib.hid P2; clear hown9 hgr9 P1 P2))
                            go_roundw
                            case rel => exact ⟨q + 1, L ++ [(id, 22, v)], _, by omega, by rw [List.length_append, HLQ.out]; rfl, rfl, by go_num, HGA.out, HP1.out, HP2.out⟩
                            case measure => simp [intOf]; omega
                          | false =>
                            clear hvt
                            go_wp2_with (first
                              | (go_at_call 58; (with_reducible refine (HU.out _).mono ?_); rintro e w5 ⟨rfl, hb5⟩; have HX5 := Lib.hid (below_next HXL.out hb5); have hq5 := (hb5.block qa hlq).trans HQL.out; have HQ5 := Lib.hid hq5; obtain ⟨c05, c15, c25, f05, f15, f25, hl5⟩ := at_facts hq5; clear hb5 hq5)
                              | (go_at_call 100; (with_reducible refine (HVO.out _).mono ?_); rintro e w6 ⟨rfl, hb6⟩; have HX6 := Lib.hid (below_next HX5.out hb6); have hq6 := (hb6.block qa hl5).trans HQ5.out; have HQ6 := Lib.hid hq6; obtain ⟨c06, c16, c26, f06, f16, f26, hl6⟩ := at_facts hq6; clear hb6 hq6)
                              | (go_at_call 101; (with_reducible refine (HVT.out _).mono ?_); rintro e w7 ⟨rfl, hb7⟩; have HX7 := Lib.hid (below_next (HX6.out.setCell (p := ⟨qa, 2, none⟩) hqw (.string v)) hb7); have hq7 := (hb7.block qa (by simpa [World.setCell] using hl6)).trans (at_set2 HQ6.out); obtain ⟨c07, c17, c27, f07, f17, f27, hl7⟩ := at_facts hq7; clear hb7 hq7)
                              | (at_builtin; (refine wpList_append_own _ rfl (.tmp 107) (.tmp 109) 101 rfl w2.heap.size 103 i1 (.agg #[.string ⟨#[]⟩, .int .i64 0, .string ⟨#[]⟩]) 3 40 Tryz.underlying101 hi' hy0 hy1 hy2 rfl (by decide) _ L.length (atsCells L) rfl ((own_below HO2.out (HX7.out.setCell (p := ⟨qa, 1, none⟩) hqw _)).alloc _) ⟨w7.heap.size, 0, none⟩ 1 1 (atCells (id, 22, v)) rfl rfl (fun j x h => news_set (at_news1 _ (id, 22, v) j x h) (by simp [World.setCell])) (atCells_one _) (by have := HLQ.out; unfold maxLen; omega) (by have := HLQ.out; omega) (by have := HB3.out.size; have := HX7.out.size; simp [World.setCell]; omega) ?_); intro v' w9 hown9 hgr9 _; obtain ⟨P1, P2⟩ := ats_round1 (e := (id, 22, v)) (Nat.le_refl _) HO2.out HB3.out (HX7.out.setCell (p := ⟨qa, 1, none⟩) hqw _) hown9 hgr9; have HP1 := Lib.hid P1; have HP2 := Lib.hid P2; clear hown9 hgr9 P1 P2))
                            go_roundw
                            case rel => exact ⟨q + 1, L ++ [(id, 22, v)], _, by omega, by rw [List.length_append, HLQ.out]; rfl, rfl, by go_num, HGA.out, HP1.out, HP2.out⟩
                            case measure => simp [intOf]; omega
                        · rw [ek] at HGA
                          have hq1 : (id.toList == ([48, 46, 57, 46, 50, 51, 52, 50, 46, 49, 57, 50, 48, 48, 51, 48, 48, 46, 49, 48, 48, 46, 49, 46, 50, 53] : List UInt8)) = false := by rw [HD1.out]; exact decide_eq_false h1
                          have hq2 : (id.toList == ([49, 46, 50, 46, 56, 52, 48, 46, 49, 49, 51, 53, 52, 57, 46, 49, 46, 57, 46, 49] : List UInt8)) = false := by rw [HD2.out]; exact decide_eq_false h2
                          rw [h3] at hvt
                          subst hvt
                          clear h1 h2 h3 ek
                          · skip
                            go_wp2_with (first
                              | (go_at_call 58; (with_reducible refine (HU.out _).mono ?_); rintro e w5 ⟨rfl, hb5⟩; have HX5 := Lib.hid (below_next HXL.out hb5); have hq5 := (hb5.block qa hlq).trans HQL.out; have HQ5 := Lib.hid hq5; obtain ⟨c05, c15, c25, f05, f15, f25, hl5⟩ := at_facts hq5; clear hb5 hq5)
                              | (go_at_call 100; (with_reducible refine (HVO.out _).mono ?_); rintro e w6 ⟨rfl, hb6⟩; have HX6 := Lib.hid (below_next HX5.out hb6); have hq6 := (hb6.block qa hl5).trans HQ5.out; have HQ6 := Lib.hid hq6; obtain ⟨c06, c16, c26, f06, f16, f26, hl6⟩ := at_facts hq6; clear hb6 hq6)
                              | (go_at_call 101; (with_reducible refine (HVT.out _).mono ?_); rintro e w7 ⟨rfl, hb7⟩; have HX7 := Lib.hid (below_next (HX6.out.setCell (p := ⟨qa, 2, none⟩) hqw (.string v)) hb7); have hq7 := (hb7.block qa (by simpa [World.setCell] using hl6)).trans (at_set2 HQ6.out); obtain ⟨c07, c17, c27, f07, f17, f27, hl7⟩ := at_facts hq7; clear hb7 hq7)
                              | (at_builtin; (refine wpList_append_own _ rfl (.tmp 107) (.tmp 109) 101 rfl w2.heap.size 103 i1 (.agg #[.string ⟨#[]⟩, .int .i64 0, .string ⟨#[]⟩]) 3 40 Tryz.underlying101 hi' hy0 hy1 hy2 rfl (by decide) _ L.length (atsCells L) rfl ((own_below HO2.out (HX7.out.setCell (p := ⟨qa, 1, none⟩) hqw _)).alloc _) ⟨w7.heap.size, 0, none⟩ 1 1 (atCells (id, 19, v)) rfl rfl (fun j x h => news_set (at_news1 _ (id, 19, v) j x h) (by simp [World.setCell])) (atCells_one _) (by have := HLQ.out; unfold maxLen; omega) (by have := HLQ.out; omega) (by have := HB3.out.size; have := HX7.out.size; simp [World.setCell]; omega) ?_); intro v' w9 hown9 hgr9 _; obtain ⟨P1, P2⟩ := ats_round1 (e := (id, 19, v)) (Nat.le_refl _) HO2.out HB3.out (HX7.out.setCell (p := ⟨qa, 1, none⟩) hqw _) hown9 hgr9; have HP1 := Lib.hid P1; have HP2 := Lib.hid P2; clear hown9 hgr9 P1 P2))
                            go_roundw
                            case rel => exact ⟨q + 1, L ++ [(id, 19, v)], _, by omega, by rw [List.length_append, HLQ.out]; rfl, rfl, by go_num, HGA.out, HP1.out, HP2.out⟩
                            case measure => simp [intOf]; omega
                        · rw [ek] at HGA
                          have hq1 : (id.toList == ([48, 46, 57, 46, 50, 51, 52, 50, 46, 49, 57, 50, 48, 48, 51, 48, 48, 46, 49, 48, 48, 46, 49, 46, 50, 53] : List UInt8)) = false := by rw [HD1.out]; exact decide_eq_false h1
                          have hq2 : (id.toList == ([49, 46, 50, 46, 56, 52, 48, 46, 49, 49, 51, 53, 52, 57, 46, 49, 46, 57, 46, 49] : List UInt8)) = false := by rw [HD2.out]; exact decide_eq_false h2
                          rw [h3] at hvt
                          subst hvt
                          clear h1 h2 h3 ek
                          · skip
                            go_wp2_with (first
                              | (go_at_call 58; (with_reducible refine (HU.out _).mono ?_); rintro e w5 ⟨rfl, hb5⟩; have HX5 := Lib.hid (below_next HXL.out hb5); have hq5 := (hb5.block qa hlq).trans HQL.out; have HQ5 := Lib.hid hq5; obtain ⟨c05, c15, c25, f05, f15, f25, hl5⟩ := at_facts hq5; clear hb5 hq5)
                              | (go_at_call 100; (with_reducible refine (HVO.out _).mono ?_); rintro e w6 ⟨rfl, hb6⟩; have HX6 := Lib.hid (below_next HX5.out hb6); have hq6 := (hb6.block qa hl5).trans HQ5.out; have HQ6 := Lib.hid hq6; obtain ⟨c06, c16, c26, f06, f16, f26, hl6⟩ := at_facts hq6; clear hb6 hq6)
                              | (go_at_call 101; (with_reducible refine (HVT.out _).mono ?_); rintro e w7 ⟨rfl, hb7⟩; have HX7 := Lib.hid (below_next (HX6.out.setCell (p := ⟨qa, 2, none⟩) hqw (.string v)) hb7); have hq7 := (hb7.block qa (by simpa [World.setCell] using hl6)).trans (at_set2 HQ6.out); obtain ⟨c07, c17, c27, f07, f17, f27, hl7⟩ := at_facts hq7; clear hb7 hq7)
                              | (at_builtin; (refine wpList_append_own _ rfl (.tmp 107) (.tmp 109) 101 rfl w2.heap.size 103 i1 (.agg #[.string ⟨#[]⟩, .int .i64 0, .string ⟨#[]⟩]) 3 40 Tryz.underlying101 hi' hy0 hy1 hy2 rfl (by decide) _ L.length (atsCells L) rfl ((own_below HO2.out (HX7.out)).alloc _) ⟨w7.heap.size, 0, none⟩ 1 1 (atCells (id, 12, v)) rfl rfl (at_news1 w7 (id, 12, v)) (atCells_one _) (by have := HLQ.out; unfold maxLen; omega) (by have := HLQ.out; omega) (by have := HB3.out.size; have := HX7.out.size; simp; omega) ?_); intro v' w9 hown9 hgr9 _; obtain ⟨P1, P2⟩ := ats_round1 (e := (id, 12, v)) (Nat.le_refl _) HO2.out HB3.out (HX7.out) hown9 hgr9; have HP1 := Lib.hid P1; have HP2 := Lib.hid P2; clear hown9 hgr9 P1 P2))
                            go_roundw
                            case rel => exact ⟨q + 1, L ++ [(id, 12, v)], _, by omega, by rw [List.length_append, HLQ.out]; rfl, rfl, by go_num, HGA.out, HP1.out, HP2.out⟩
                            case measure => simp [intOf]; omega
        · have hd2 : decide ((q : Int) < (m : Int)) = false := by simp; omega
          have HPL := Lib.hid (HSY.out L (by rw [HA2.out]; exact allO_end (by rw [← HM.out]; omega) L))
          obtain ⟨aD, cD, rfl, _, _⟩ := HO2.out.lies
          obtain ⟨aV, cV, rfl, hcV, _⟩ := HO.out.lies
          have h1 := (HB3.out.block (g + 1) (by have := (Array.getElem?_eq_some_iff.1 HBX.out).1; omega)).trans ((HB2.out.block (g + 1) (Array.getElem?_eq_some_iff.1 HBX.out).1).trans HBX.out)
          have HH1 := Lib.hid h1
          obtain ⟨c1, f1, hl1⟩ := one_facts h1
          have HBS := Lib.hid (below_next HB2.out HB3.out)
          obtain ⟨vs, hv1, hv2, hv3⟩ := HO.out
          have HV1 := Lib.hid hv1
          have HV2 := Lib.hid hv2
          have HV3 := Lib.hid hv3
          have hzw : W1.heap.size ≤ w2.heap.size := by omega
          clear h1 hv1 hv2 hv3
          go_wp2_with (at_builtin; (refine wpList_append_own _ rfl (.tmp 113) (.tmp 115) 28 rfl W1.heap.size 101 i0 (.slice none 0 0) 1 24 Tryz.underlying28 hi hz0 hz1 hz2 rfl (by decide) _ D.length vs rfl ((own_below HV2.out HBS.out).alloc _) ⟨ws.heap.size, 0, none⟩ 1 1 [.slice aD L.length cD] rfl rfl (row_news ws _ _) (one_one _ _ _) (by have := HDK.out; unfold maxLen; omega) (by have := HDK.out; omega) (by have := HBS.out.size; simp; omega) ?_); intro v' w6 hown6 hgr6 _; have P1 := more_box HH1.out (show g + 1 < W1.heap.size by have := HZ1.out; omega) HV2.out hgr6; have P2 := but_row HB.out (below_next HBS.out (belowNew ws _)) HV2.out (Nat.le_refl _) hgr6; have P3 := OwnN.snoc HV1.out (own_below (own_below HV2.out HBS.out) (belowNew ws _)) (fun i hi => ((HV3.out i hi).below HBS.out).below (belowNew ws _)) ((HO2.out.base hzw).below (belowNew ws _)) hgr6 hown6; obtain ⟨a6, c6, hv6, _, _⟩ := P3.lies; rw [List.length_append, List.length_singleton] at hv6; subst hv6; obtain ⟨s0, t0, hltq⟩ := one_facts P1; have HP1 := Lib.hid P1; have HP2 := Lib.hid P2; have HP3 := Lib.hid P3; clear P1 P2 P3 hown6 hgr6)
          have hs := But.set (g + 1) 0 w6 (.slice a6 (D.length + 1) c6)
          go_roundw
          case rel => exact ⟨k + 1, D ++ [L], _, by omega, by rw [List.length_append, HDK.out]; rfl, by go_num, HPL.out, one_set HP1.out, HP3.out.but (p := g + 1) hs (by have := HZ1.out; omega), HP2.out.next hs⟩
          case measure => simp [intOf]; omega
    · have hd : decide ((k : Int) < (n : Int)) = false := by simp; omega
      obtain ⟨e1, e2, hsm⟩ := HE2.out D (by rw [HA.out]; exact allO_end (by rw [← HN.out]; omega) D)
      have HSMN := Lib.hid hsm
      obtain ⟨av, cv, rfl, hcv, hrl⟩ := HO.out.lies
      have HRL := Lib.hid hrl
      have HCK := Lib.hid (fun W h => rchk_core av cv D.length D W h rfl HSMN.out)
      rw [← e1] at HCK
      obtain ⟨c1, f1, hl1⟩ := one_facts HBX.out
      obtain ⟨c0, f0, hl0⟩ := one_facts HR0.out
      clear hsm hrl e1
      by_cases hz0' : E = 0
      · rw [if_pos hz0'] at e2
        subst e2
        subst hz0'
        go_wp2_with (go_at_call 76; (with_reducible refine (HCK.out _ HRL.out).mono ?_); rintro e w8 ⟨rfl, hb8⟩; have HB8 := Lib.hid (below_next HBL.out hb8); have h81 := (hb8.block (g + 1) hl1).trans HBX.out; have h80 := (hb8.block g hl0).trans HR0.out; have HQ8 := Lib.hid h80; have HO8 := Lib.hid (HO.out.below hb8); obtain ⟨c81, f81, hl81⟩ := one_facts h81; obtain ⟨c80, f80, hl80⟩ := one_facts h80; clear hb8 h80 h81)
        exact bodyPost_ret (nmRes rfl _ _ w _ (by rw [← HG.out]; rfl) (by rw [← HG.out]; exact one_set HQ8.out)) rfl ⟨_, rfl, ⟨_, rfl, (HO8.out.but (p := g) (But.set _ _ _ _) (by have := HZ1.out; omega)).base (by have := HZ1.out; rw [← HG.out]; omega)⟩, HB8.out.setCell (p := ⟨g, 0, none⟩) (by rw [← HG.out]; exact Nat.le_refl _) _⟩
      · rw [if_neg hz0'] at e2
        subst e2
        have hz1' := errno_ne hz0'
        go_wp2_with (go_at_call 76; (with_reducible refine (HCK.out _ HRL.out).mono ?_); rintro e w8 ⟨rfl, hb8⟩; have HB8 := Lib.hid (below_next HBL.out hb8); have h80 := (hb8.block g hl0).trans HR0.out; have HQ8 := Lib.hid h80; obtain ⟨c80, f80, hl80⟩ := one_facts h80; clear hb8 h80)
        exact bodyPost_ret (nmRes rfl _ _ w _ (by rw [← HG.out]; rfl) (by rw [← HG.out]; exact one_set HQ8.out)) rfl ⟨_, rfl, ⟨_, rfl, OwnN.nil _ _⟩, HB8.out.setCell (p := ⟨g, 0, none⟩) (by rw [← HG.out]; exact Nat.le_refl _) _⟩
end Go.Proofs.YtflpajbcomhkpaaGreatDoor
