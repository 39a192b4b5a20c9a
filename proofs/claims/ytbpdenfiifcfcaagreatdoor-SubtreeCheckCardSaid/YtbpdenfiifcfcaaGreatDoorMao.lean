/-
  The contract of certpathmade's Name: a name of at most three relative names, each of one or two of the twelve attributes, of different types; of the memory that was there only the deck's block has changed.
  What stands at the beginning of a string of elements, as numbers: the error, the length of the header, the length of the contents; and the errors within an element. Nothing is claimed of the program here.
  The contracts of the functions of tlv that read a length: what the octets say, and that nothing has changed.
  The contract of tlv.appendLength: the octets of a length, appended to a slice of bytes that the call's caller has made.
  The contract of tlv.totalLength: how long the strings of a slice are together, if not longer than an element may be.
-/
import Derived.Test.YtbpdenfiifcfcaaGreatDoorMan
import Derived.Test.YtbpdenfiifcfcaaGreatDoorMak
import Derived.Test.YtbpdenfiifcfcaaGreatDoorMaa
namespace Go.Proofs.YtbpdenfiifcfcaaGreatDoor
open Go.RowKit

theorem next4 (p : Nat) (a : Option Addr) (cap : Nat) (zs : List Int) (k : Nat) (w : World) (h : DeckAt w p a cap zs k) (hk2 : k < 30000) :
    Calls Tryz.prog 11 #[.pointer (some ⟨p, 0, none⟩), .int .i64 4] w fun e w' => ∃ r k' : Nat, r < 4 ∧ e = .returned (.int .i64 (r : Int)) ∧ DeckAt w' p a cap zs k' ∧ k' ≤ k + 1 ∧ But p w w' :=
  next_any p a cap zs k 4 w h hk2 (by omega) (by omega)
theorem next5 (p : Nat) (a : Option Addr) (cap : Nat) (zs : List Int) (k : Nat) (w : World) (h : DeckAt w p a cap zs k) (hk2 : k < 30000) :
    Calls Tryz.prog 11 #[.pointer (some ⟨p, 0, none⟩), .int .i64 5] w fun e w' => ∃ r k' : Nat, r < 5 ∧ e = .returned (.int .i64 (r : Int)) ∧ DeckAt w' p a cap zs k' ∧ k' ≤ k + 1 ∧ But p w w' :=
  next_any p a cap zs k 5 w h hk2 (by omega) (by omega)

/-- A relative name of the generator; a name of it. -/
def MadeR (r : List At) : Prop := r.length ≤ 2 ∧ (∀ x ∈ r, x ∈ madeL) ∧ (r.map (·.1)).Nodup
def MadeN (n : Nm) : Prop := n.length ≤ 3 ∧ ∀ r ∈ n, MadeR r ∧ 0 < r.length
theorem made_snoc {n : Nm} (h : MadeN n) (hl : n.length < 3) {r : List At} (hr : MadeR r) (h0 : 0 < r.length) : MadeN (n ++ [r]) := by
  refine ⟨by rw [List.length_append]; simp; omega, fun x hx => ?_⟩
  rcases List.mem_append.1 hx with hx | hx
  · exact h.2 x hx
  · obtain rfl := List.mem_singleton.1 hx
    exact ⟨hr, h0⟩
theorem but_row {w0 wr w1 w2 : World} {p B n k : Nat} {v : Value} {e : TypeId} {xs : List Value} (hb : But p w0 wr) (hb1 : Below wr.heap.size wr w1) (ho : wr.ownsRow B e k v n xs) (hB : w0.heap.size ≤ B) (hg : w1.grownBy w2 v.ownBlock) : But p w0 w2 :=
  World.grownBy.andThen (hb.next (But.of hb1)) hg (fun j e => .inl (Nat.le_trans hB (World.ownsRow.lt ho j e).1))
theorem madeR_snoc {D : List At} {E : At} (h : MadeR D) (hl : D.length ≤ 1) (hE : E ∈ madeL) (hn : ∀ x ∈ D, x.1 ≠ E.1) : MadeR (D ++ [E]) := by
  refine ⟨by rw [List.length_append]; simp; omega, fun x hx => ?_, ?_⟩
  · rcases List.mem_append.1 hx with hx | hx
    · exact h.2.1 x hx
    · obtain rfl := List.mem_singleton.1 hx
      exact hE
  · rw [List.map_append, List.nodup_append]
    refine ⟨h.2.2, by simp, fun a ha b hb => ?_⟩
    obtain ⟨x, hx, rfl⟩ := List.mem_map.1 ha
    obtain ⟨y, hy, rfl⟩ := List.mem_map.1 hb
    obtain rfl := List.mem_singleton.1 hy
    exact hn x hx
theorem at_news2 (w1 : World) (X : Obj) (E : At) : ∀ j u, (atCells E)[j]? = some u → ((w1.alloc X).alloc (.cells #[.string E.1, .int .i64 E.2.1, .string E.2.2] 86)).drew.cell? ((⟨w1.heap.size + 1, 0, none⟩ : Addr).add j) = some u := by
  intro j u h
  have := news_row (w1.alloc X) #[.string E.1, .int .i64 E.2.1, .string E.2.2] 86 j u (by simpa [atCells] using h)
  simpa using this
theorem made_mem (r : Nat) (h : r < 12) : madeL.getD r noAt ∈ madeL := by
  have h' : r < madeL.length := h
  rw [List.getD_eq_getElem?_getD, List.getElem?_eq_getElem h']
  exact List.getElem_mem h'
theorem nmRes1 {fn : Func} {p : Tmp} (h : fn.results = #[.cell p 27]) (tmps : Array Value) (w w0 : World) (x : Value)
    (hp : tmps.getD p undef = .pointer (some ⟨w0.heap.size, 0, none⟩)) (hg : w.heap[w0.heap.size]? = some (.cells #[x] 27 (0, 0))) :
    (results fn tmps).run Tryz.prog w = .ok (.agg #[x]) w :=
  results_cell_row h tmps w w0.heap.size 27 #[x] (0, 0) _ hp hg Tryz.underlying27 rfl nmSize

set_option maxRecDepth 100000 in
set_option maxHeartbeats 4000000 in
theorem name_any (p : Nat) (a : Option Addr) (cap : Nat) (zs : List Int) (k : Nat) (w : World) (h : DeckAt w p a cap zs k) (hk : k ≤ 900) :
    Calls Tryz.prog 27 #[.pointer (some ⟨p, 0, none⟩)] w fun e w' => ∃ (v : Value) (n : Nm) (k' : Nat), MadeN n ∧ e = .returned v ∧ OwnV w' w.heap.size v n ∧ DeckAt w' p a cap zs k' ∧ k' ≤ k + 10 ∧ But p w w' := by
  obtain ⟨i0, hi, hz0, hz1, hz2⟩ := info_parts rdInfo
  obtain ⟨i1, hi', hy0, hy1, hy2⟩ := info_parts atInfo
  have hp := h.lt
  obtain ⟨g, hg⟩ : ∃ g, g = w.heap.size := ⟨_, rfl⟩
  obtain ⟨W0, hW0⟩ : ∃ W0, W0 = (w.alloc (.cells #[.slice none 0 0] 27)).alloc (.cells #[.slice none 0 0] 27) := ⟨_, rfl⟩
  have hb0 : Below w.heap.size w W0 := by rw [hW0]; exact belowTwo w _ _
  have HB0 := Lib.hid (But.of (p := p) hb0)
  have HD0 := Lib.hid (h.below hb0)
  have HZ0 := Lib.hid (show W0.heap.size = g + 2 by rw [hW0, hg]; simp)
  have HG0 := Lib.hid (show W0.heap[g]? = some (.cells #[.slice none 0 0] 27 (0, 0)) by
    rw [hW0, hg]; exact ((belowNew _ _).block _ (by simp)).trans (heap_alloc_new w _))
  have HG1 := Lib.hid (show W0.heap[g + 1]? = some (.cells #[.slice none 0 0] 27 (0, 0)) by
    have := heap_alloc_new (w.alloc (.cells #[.slice none 0 0] 27)) (.cells #[.slice none 0 0] 27)
    rw [← hW0] at this
    rw [hg]
    simpa using this)
  have HWE := Lib.hid hW0.symm
  have HG := Lib.hid hg
  have hpg : p < g := by rw [hg]; exact hp
  clear h hb0 hW0 hp hg
  go_enter Tryz.func27, Tryz.ntmps27
  go_wp2_with fail
  rw [HWE.out, ← HG.out]
  refine (next4 p a cap zs k W0 HD0.out (by omega)).mono ?_
  rintro e w1 ⟨r4, k1, hr4, rfl, hd, hk1, hb1⟩
  have HD1 := Lib.hid hd
  have HB1 := Lib.hid hb1
  clear hd hb1
  go_wp2_with fail
  go_loopw [4] (fun i wr => ∃ (j : Nat) (N : Nm) (V : Value) (k2 : Nat), N.length + j ≤ 3 ∧ MadeN N ∧ i = .int .i64 (j : Int) ∧ wr.heap[g]? = some (.cells #[.slice none 0 0] 27 (0, 0)) ∧ wr.heap[g + 1]? = some (.cells #[V] 27 (0, 0)) ∧ OwnN wr (g + 2) V N ∧ DeckAt wr p a cap zs k2 ∧ k2 + 3 * j ≤ k + 10 ∧ But p w wr) (fun i _ => (intOf i).toNat)
  case atStart =>
    exact ⟨r4, [], _, k1, by simp; omega, ⟨by simp, fun r h => by cases h⟩, rfl, (HB1.out.block g (by rw [HZ0.out]; omega) (by simp; omega)).trans HG0.out, (HB1.out.block (g + 1) (by rw [HZ0.out]; omega) (by simp; omega)).trans HG1.out, OwnN.nil _ _, HD1.out, by omega, HB0.out.next HB1.out⟩
  case round =>
    obtain ⟨j, N, V, k2, hjn, hmn, rfl, hg0, hg1, hown, hd, hkk, hb⟩ := hrel
    have HMN := Lib.hid hmn
    have HG0 := Lib.hid hg0
    have HG1 := Lib.hid hg1
    have HO := Lib.hid hown
    have HD := Lib.hid hd
    have HB := Lib.hid hb
    clear hmn hg0 hg1 hown hd hb HD1 HB1 hr4 hk1
    by_cases hj : 0 < j
    · have hdj : decide ((0 : Int) < (j : Int)) = true := by simp; omega
      go_wp2_with fail
      refine (next5 p a cap zs k2 _ HD.out (by omega)).mono ?_
      rintro e w2 ⟨r5, k3, hr5, rfl, hd3, hk3, hb3⟩
      obtain ⟨q, hq, hq1⟩ : ∃ q : Nat, (r5 : Int).tdiv 4 = (q : Int) ∧ q ≤ 1 := ⟨r5 / 4, by rw [Int.tdiv_eq_ediv_of_nonneg (by omega)]; omega, by omega⟩
      have HD3 := Lib.hid hd3
      have HB3 := Lib.hid hb3
      clear hd3 hb3
      go_wp2_with fail
      have h20 := (HB3.out.block g (Array.getElem?_eq_some_iff.1 HG0.out).1 (by simp; omega)).trans HG0.out
      have h21 := (HB3.out.block (g + 1) (Array.getElem?_eq_some_iff.1 HG1.out).1 (by simp; omega)).trans HG1.out
      have H20 := Lib.hid h20
      have H21 := Lib.hid h21
      have HO2 := Lib.hid (HO.out.but HB3.out (by omega))
      have HBW := Lib.hid (HB.out.next HB3.out)
      have hzz : g + 2 ≤ w2.heap.size := by have := (Array.getElem?_eq_some_iff.1 h21).1; omega
      clear h20 h21 hq
      go_loopw [5, 6] (fun r i ws => ∃ (m : Nat) (D : List At) (v : Value) (k4 : Nat), D.length + m ≤ 2 ∧ (0 < D.length ∨ 0 < m) ∧ MadeR D ∧ r = v ∧ i = .int .i64 (m : Int) ∧ OwnA ws w2.heap.size v D ∧ DeckAt ws p a cap zs k4 ∧ k4 + m ≤ k3 + 2 ∧ But p w2 ws) (fun _ i _ => (intOf i).toNat)
      case atStart => exact ⟨1 + q, [], _, k3, by simp; omega, .inr (by omega), ⟨by simp, (fun x h => by cases h), by simp⟩, rfl, by first | rfl | go_num, OwnA.nil _ _, HD3.out, by omega, But.refl _ _⟩
      case round =>
        obtain ⟨m, D, v, k4, hmD, hor, hmr, rfl, rfl, hown, hd, hk4, hb⟩ := hrel
        have HO4 := Lib.hid hown
        have HD4 := Lib.hid hd
        have HB4 := Lib.hid hb
        have HMR := Lib.hid hmr
        have HOR := Lib.hid hor
        clear hown hd hb hmr hor HD3
        by_cases hm : 0 < m
        · have hdm : decide ((0 : Int) < (m : Int)) = true := by simp; omega
          go_wp2_with fail
          refine (attr_any p a cap zs k4 wr HD4.out (by omega)).mono ?_
          rintro e w5 ⟨r, k5, hr, rfl, hd5, hk5, hb5⟩
          have HM := Lib.hid (made_mem r hr)
          generalize madeL.getD r noAt = E at HM ⊢
          simp only [atV]
          have HO5 := Lib.hid (HO4.out.but hb5 (by omega))
          have HD5 := Lib.hid hd5
          have HB5 := Lib.hid (HB4.out.next hb5)
          obtain ⟨aD, cD, rfl, hcD, hlD⟩ := HO5.out.lies
          have hw5 : w2.heap.size ≤ w5.heap.size := HB5.out.size
          clear hd5 hb5
          by_cases hD0 : D.length = 0
          · obtain rfl : D = [] := List.eq_nil_of_length_eq_zero hD0
            go_wp2_with fail
            go_region
            go_wp2_with (at_builtin; (refine wpList_append_own _ rfl (.tmp 37) (.tmp 39) 84 rfl w2.heap.size 86 i1 (.agg #[.string ⟨#[]⟩, .int .i64 0, .string ⟨#[]⟩]) 3 40 Tryz.underlying84 hi' hy0 hy1 hy2 rfl (by decide) _ 0 (atsCells []) rfl ((HO5.out.alloc _).alloc _).drew ⟨w5.heap.size + 1, 0, none⟩ 1 1 (atCells E) rfl rfl (at_news2 w5 _ E) (atCells_one _) (by unfold maxLen; omega) (by omega) (by simp; omega) ?_); intro v' w6 hown6 hgr6 _; have P1 : OwnA w6 w2.heap.size v' ([] ++ [E]) := (by unfold OwnA; rw [List.length_append, atsCells_snoc]; exact hown6); have P2 := but_row HB5.out (belowTwo w5 _ _).drew HO5.out (Nat.le_refl _) hgr6; have P4 := (HD5.out.below (belowTwo w5 _ _).drew).grown hgr6 (fun j e => Nat.lt_of_lt_of_le (show p < w2.heap.size by omega) (World.ownsRow.lt HO5.out j e).1); obtain ⟨a6, c6, hv6, _, _⟩ := P1.lies; subst hv6; have HP1 := Lib.hid P1; have HP2 := Lib.hid P2; have HP4 := Lib.hid P4; clear P1 P2 P4 hown6 hgr6)
            go_roundw
            case rel => exact ⟨m - 1, [] ++ [E], _, k5, by simp at hmD ⊢; omega, .inl (by simp), madeR_snoc HMR.out (by simp) HM.out (fun x h => by cases h), rfl, by go_num, HP1.out, HP4.out, by omega, HP2.out⟩
            case measure => simp [intOf]; omega
          · obtain ⟨x, rfl⟩ : ∃ x, D = [x] := List.length_eq_one_iff.1 (by omega)
            obtain ⟨b, o, rfl, hbx, cx, _, _⟩ := hlD.at 0 (by simp)
            rw [show ([x] : List At).getD 0 noAt = x from rfl, Nat.zero_mul, Nat.add_zero] at cx
            clear hlD
            by_cases hxe : x.1 = E.1
            · have hq : (x.1.toList == E.1.toList) = true := by rw [beq_str]; simpa using hxe
              go_wp2_with fail
              go_region
              go_wp2_with fail
              go_roundw
              case rel => exact ⟨m - 1, [x], _, k5, by simp at hmD ⊢; omega, .inl (by simp), HMR.out, rfl, by go_num, (HO5.out.alloc _).drew, HD5.out.below (belowNew w5 _).drew, by omega, HB5.out.next (But.of (belowNew w5 _).drew)⟩
              case measure => simp [intOf]; omega
            · have hq : (x.1.toList == E.1.toList) = false := by rw [beq_str]; simpa using hxe
              go_wp2_with fail
              go_region
              go_wp2_with (at_builtin; (refine wpList_append_own _ rfl (.tmp 37) (.tmp 39) 84 rfl w2.heap.size 86 i1 (.agg #[.string ⟨#[]⟩, .int .i64 0, .string ⟨#[]⟩]) 3 40 Tryz.underlying84 hi' hy0 hy1 hy2 rfl (by decide) _ 1 (atsCells [x]) rfl ((HO5.out.alloc _).alloc _).drew ⟨w5.heap.size + 1, 0, none⟩ 1 1 (atCells E) rfl rfl (at_news2 w5 _ E) (atCells_one _) (by unfold maxLen; omega) (by omega) (by simp; omega) ?_); intro v' w6 hown6 hgr6 _; have P1 : OwnA w6 w2.heap.size v' ([x] ++ [E]) := (by unfold OwnA; rw [List.length_append, atsCells_snoc]; exact hown6); have P2 := but_row HB5.out (belowTwo w5 _ _).drew HO5.out (Nat.le_refl _) hgr6; have P4 := (HD5.out.below (belowTwo w5 _ _).drew).grown hgr6 (fun j e => Nat.lt_of_lt_of_le (show p < w2.heap.size by omega) (World.ownsRow.lt HO5.out j e).1); obtain ⟨a6, c6, hv6, _, _⟩ := P1.lies; subst hv6; have HP1 := Lib.hid P1; have HP2 := Lib.hid P2; have HP4 := Lib.hid P4; clear P1 P2 P4 hown6 hgr6)
              go_roundw
              case rel => exact ⟨m - 1, [x] ++ [E], _, k5, by simp at hmD ⊢; omega, .inl (by simp), madeR_snoc HMR.out (by simp) HM.out (fun y h => by obtain rfl := List.mem_singleton.1 h; exact hxe), rfl, by go_num, HP1.out, HP4.out, by omega, HP2.out⟩
              case measure => simp [intOf]; omega
        · have hdm : decide ((0 : Int) < (m : Int)) = false := by simp; omega
          have h0 := (HB4.out.block g (by omega) (by simp; omega)).trans H20.out
          have h1 := (HB4.out.block (g + 1) (by omega) (by simp; omega)).trans H21.out
          have HON := Lib.hid (HO2.out.but HB4.out (by omega))
          obtain ⟨aD, cD, rfl, _, _⟩ := HO4.out.lies
          obtain ⟨aV, cV, rfl, hcV, _⟩ := HON.out.lies
          obtain ⟨c1, f1, hl1⟩ := one_facts h1
          have HH0 := Lib.hid h0
          have HH1 := Lib.hid h1
          have hwr : w2.heap.size ≤ wr.heap.size := HB4.out.size
          obtain ⟨vs, hv1, hv2, hv3⟩ := HON.out
          have HV1 := Lib.hid hv1
          have HV2 := Lib.hid hv2
          have HV3 := Lib.hid hv3
          have HBB := Lib.hid (HBW.out.next HB4.out)
          clear h0 h1 hv1 hv2 hv3
          go_wp2_with (at_builtin; (refine wpList_append_own _ rfl (.tmp 42) (.tmp 44) 25 rfl (g + 2) 84 i0 (.slice none 0 0) 1 24 Tryz.underlying25 hi hz0 hz1 hz2 rfl (by decide) _ N.length vs rfl (HV2.out.alloc _) ⟨wr.heap.size, 0, none⟩ 1 1 [.slice aD D.length cD] rfl rfl (row_news wr _ _) (one_one _ _ _) (by unfold maxLen; omega) (by omega) (by simp; omega) ?_); intro v' w6 hown6 hgr6 _; have P0 := more_box HH0.out (show g < g + 2 by omega) HV2.out hgr6; have P1 := more_box HH1.out (show g + 1 < g + 2 by omega) HV2.out hgr6; have P2 := but_row HBB.out (belowNew wr _) HV2.out (by rw [← HG.out]; omega) hgr6; have P3 := OwnN.snoc HV1.out (own_below HV2.out (belowNew wr _)) (fun i hi => (HV3.out i hi).below (belowNew wr _)) ((HO4.out.base hzz).below (belowNew wr _)) hgr6 hown6; have P4 := (HD4.out.below (belowNew wr _)).grown hgr6 (fun j e => Nat.lt_of_lt_of_le (show p < g + 2 by omega) (World.ownsRow.lt HV2.out j e).1); obtain ⟨a6, c6, hv6, _, _⟩ := P3.lies; rw [List.length_append, List.length_singleton] at hv6; subst hv6; obtain ⟨s0, t0, hltq⟩ := one_facts P1; have HP0 := Lib.hid P0; have HP1 := Lib.hid P1; have HP2 := Lib.hid P2; have HP3 := Lib.hid P3; have HP4 := Lib.hid P4; clear P0 P1 P2 P3 P4 hown6 hgr6)
          have hs := But.set (g + 1) 0 w6 (.slice a6 (N.length + 1) c6)
          go_roundw
          case rel => exact ⟨j - 1, N ++ [D], _, k4, by rw [List.length_append]; simp; omega, made_snoc HMN.out (by omega) HMR.out (by rcases HOR.out with h | h <;> omega), by go_num, (hs.block g (by omega) (by simp)).trans HP0.out, one_set HP1.out, HP3.out.but (p := g + 1) hs (by omega), HP4.out.grown hs (fun j e => by obtain rfl := Option.some.inj e; omega), by omega, HP2.out.fresh hs (by rw [← HG.out]; omega)⟩
          case measure => simp [intOf]; omega
    · have hdj : decide ((0 : Int) < (j : Int)) = false := by simp; omega
      obtain ⟨av, cv, rfl, _, _⟩ := HO.out.lies
      obtain ⟨c0, f0, _⟩ := one_facts HG0.out
      obtain ⟨c1, f1, _⟩ := one_facts HG1.out
      have hs := But.set g 0 wr (.slice av N.length cv)
      go_wp2_with fail
      exact bodyPost_ret (nmRes1 rfl _ _ w _ (by rw [← HG.out]; rfl) (by rw [← HG.out]; exact one_set HG0.out)) rfl ⟨_, N, k2, HMN.out, rfl, ⟨_, rfl, (HO.out.but (p := g) hs (by omega)).base (by rw [← HG.out]; omega)⟩, HD.out.grown hs (fun j e => by obtain rfl := Option.some.inj e; exact hpg), by omega, HB.out.fresh hs (by rw [← HG.out]; exact Nat.le_refl _)⟩
end Go.Proofs.YtbpdenfiifcfcaaGreatDoor
namespace Go.Proofs.YtbpdenfiifcfcaaGreatDoor
open Go.RowKit

/-- The number that k bytes from place o on are, the most significant one first. -/
def be (b : ByteArray) (o : Nat) : Nat → Nat
  | 0 => 0
  | k + 1 => 256 * be b o k + u8at b (o + k)
theorem be_lt (b : ByteArray) (o k : Nat) : be b o k < 256 ^ k := by
  induction k with
  | zero => simp [be]
  | succ k ih => have := u8at_lt b (o + k); simp only [be, Nat.pow_succ]; omega
def least (k : Nat) : Nat := if k = 1 then 128 else if k = 2 then 256 else if k = 3 then 65536 else 0

/-- What readLength answers for the octets from place o on: the length, how many octets it has, the error. -/
def lnAt (b : ByteArray) (o : Nat) : Nat × Nat × Nat :=
  if b.size ≤ o then (0, 0, 3)
  else if u8at b o < 128 then (u8at b o, 1, 0)
  else if u8at b o = 128 ∨ 131 < u8at b o then (0, 0, 6)
  else if b.size < o + 1 + (u8at b o - 128) then (0, 0, 3)
  else if be b (o + 1) (u8at b o - 128) < least (u8at b o - 128) ∨ 131072 < be b (o + 1) (u8at b o - 128) then (0, 0, 6)
  else (be b (o + 1) (u8at b o - 128), 1 + (u8at b o - 128), 0)

/-- The element at the beginning: the error, the place of the contents, their length. -/
def rd (b : ByteArray) : Nat × Nat × Nat :=
  if b.size = 0 then (3, 0, 0)
  else if u8at b 0 % 32 = 31 then (5, 0, 0)
  else if (lnAt b 1).2.2 ≠ 0 then ((lnAt b 1).2.2, 0, 0)
  else if b.size < 1 + (lnAt b 1).2.1 + (lnAt b 1).1 then (3, 0, 0)
  else (0, 1 + (lnAt b 1).2.1, (lnAt b 1).1)

def rdErr (b : ByteArray) : Nat := (rd b).1
def rdTag (b : ByteArray) : Nat := u8at b 0
def rdContent (b : ByteArray) : ByteArray := b.extract (rd b).2.1 ((rd b).2.1 + (rd b).2.2)
def rdRaw (b : ByteArray) : ByteArray := b.extract 0 ((rd b).2.1 + (rd b).2.2)
def rdRest (b : ByteArray) : ByteArray := b.extract ((rd b).2.1 + (rd b).2.2) b.size

/-- An element as a value. -/
def elV (tag : Nat) (c r : ByteArray) : Value := .agg #[.int .i64 (tag : Int), .string c, .string r]
def noEl : Value := .agg #[.int .i64 0, .string ⟨#[]⟩, .string ⟨#[]⟩]
def rdVal (b : ByteArray) : Value :=
  if rdErr b = 0 then .tuple #[elV (rdTag b) (rdContent b) (rdRaw b), .string (rdRest b), .int .i64 0]
  else .tuple #[noEl, .string ⟨#[]⟩, .int .i64 ((rdErr b : Nat) : Int)]

/-- Where an element is read, it is longer than its header and its contents reach no further than the end. -/
theorem rd_ok {b : ByteArray} (h : rdErr b = 0) : 2 ≤ (rd b).2.1 ∧ (rd b).2.1 ≤ 5 ∧ (rd b).2.1 + (rd b).2.2 ≤ b.size ∧ u8at b 0 % 32 ≠ 31 ∧ b.size ≠ 0 := by
  unfold rdErr rd at h
  unfold rd
  by_cases h0 : b.size = 0
  · simp [h0] at h
  · by_cases h1 : u8at b 0 % 32 = 31
    · simp [h0, h1] at h
    · by_cases h2 : (lnAt b 1).2.2 ≠ 0
      · rw [if_neg h0, if_neg h1, if_pos h2] at h
        exact absurd h h2
      · by_cases h3 : b.size < 1 + (lnAt b 1).2.1 + (lnAt b 1).1
        · rw [if_neg h0, if_neg h1, if_neg h2, if_pos h3] at h
          cases h
        · rw [if_neg h0, if_neg h1, if_neg h2, if_neg h3]
          have hs : 1 ≤ (lnAt b 1).2.1 ∧ (lnAt b 1).2.1 ≤ 4 := by
            have h2' : (lnAt b 1).2.2 = 0 := by omega
            revert h2'
            unfold lnAt
            split
            · intro h; cases h
            · split
              · intro _; simp
              · split
                · intro h; cases h
                · split
                  · intro h; cases h
                  · split
                    · intro h; cases h
                    · intro _; simp; omega
          refine ⟨by simp; omega, by simp; omega, by simp; omega, h1, h0⟩
theorem rdRest_size {b : ByteArray} (h : rdErr b = 0) : (rdRest b).size < b.size := by
  obtain ⟨h1, _, h2, _, _⟩ := rd_ok h
  unfold rdRest
  rw [ByteArray.size_extract]
  omega
end Go.Proofs.YtbpdenfiifcfcaaGreatDoor
namespace Go.Proofs.YtbpdenfiifcfcaaGreatDoor
open Go.RowKit

set_option maxRecDepth 100000 in
theorem and31 : ∀ n : Nat, n < 256 → bits BinOp.and .i64 (n : Int) 31 = ((n % 32 : Nat) : Int) := by decide

theorem hasShortTag_any (n : Nat) (hn : n < 256) (w : World) :
    Calls Tryz.prog 76 #[.int .i64 (n : Int)] w fun e w' => e = .returned (.bool (decide (n % 32 ≠ 31))) ∧ w' = w := by
  have h := and31 n hn
  go_enter Tryz.func76, Tryz.ntmps76
  go_wp2_with fail
  go_ret
  refine ⟨?_, rfl⟩
  congr 2
  by_cases h1 : n % 32 = 31
  · simp [h1]; omega
  · have h2 : ¬ (n : Int) % 32 = 31 := by omega
    simp [h1, h2]

/-- How many octets a length takes. -/
def lsz (n : Nat) : Nat := if n < 128 then 1 else if n < 256 then 2 else if n < 65536 then 3 else 4
theorem lsz1 {n : Nat} (h : n < 128) : lsz n = 1 := by simp [lsz, h]
theorem lsz2 {n : Nat} (h : 128 ≤ n) (h' : n < 256) : lsz n = 2 := by simp [lsz, h', show ¬ n < 128 by omega]
theorem lsz3 {n : Nat} (h : 256 ≤ n) (h' : n < 65536) : lsz n = 3 := by simp [lsz, h', show ¬ n < 128 by omega, show ¬ n < 256 by omega]
theorem lsz4 {n : Nat} (h : 65536 ≤ n) : lsz n = 4 := by simp [lsz, show ¬ n < 128 by omega, show ¬ n < 256 by omega, show ¬ n < 65536 by omega]

theorem lengthSize_any (n : Nat) (w : World) :
    Calls Tryz.prog 102 #[.int .i64 (n : Int)] w fun e w' => e = .returned (.int .i64 (lsz n : Nat)) ∧ w' = w := by
  by_cases h1 : n < 128
  · have d1 : decide ((n : Int) < 128) = true := by simp; omega
    rw [lsz1 h1]
    clear h1
    go_enter Tryz.func102, Tryz.ntmps102
    go_wp2_with fail
    go_ret
    exact ⟨rfl, rfl⟩
  · have d1 : decide ((n : Int) < 128) = false := by simp; omega
    by_cases h2 : n < 256
    · have d2 : decide ((n : Int) < 256) = true := by simp; omega
      rw [lsz2 (by omega) h2]
      clear h1 h2
      go_enter Tryz.func102, Tryz.ntmps102
      go_wp2_with fail
      go_ret
      exact ⟨rfl, rfl⟩
    · have d2 : decide ((n : Int) < 256) = false := by simp; omega
      by_cases h3 : n < 65536
      · have d3 : decide ((n : Int) < 65536) = true := by simp; omega
        rw [lsz3 (by omega) h3]
        clear h1 h2 h3
        go_enter Tryz.func102, Tryz.ntmps102
        go_wp2_with fail
        go_ret
        exact ⟨rfl, rfl⟩
      · have d3 : decide ((n : Int) < 65536) = false := by simp; omega
        rw [lsz4 (by omega)]
        clear h1 h2 h3
        go_enter Tryz.func102, Tryz.ntmps102
        go_wp2_with fail
        go_ret
        exact ⟨rfl, rfl⟩
end Go.Proofs.YtbpdenfiifcfcaaGreatDoor
namespace Go.Proofs.YtbpdenfiifcfcaaGreatDoor
open Go.RowKit

/-- The k least significant octets of a number, the most significant one first. -/
def octs (n : Nat) : Nat → List UInt8
  | 0 => []
  | k + 1 => UInt8.ofNat (n / 256 ^ k) :: octs n k
theorem octs_length (n k : Nat) : (octs n k).length = k := by
  induction k with
  | zero => rfl
  | succ k ih => simp [octs, ih]
/-- The octets of a length. -/
def lenO (n : Nat) : List UInt8 := if lsz n = 1 then [UInt8.ofNat n] else UInt8.ofNat (127 + lsz n) :: octs n (lsz n - 1)

theorem app_round_t {B : Nat} {w0 w w2 : World} {v v' : Value} {D : List UInt8} {y : UInt8} {X : Obj} (hown : OwnB 5 w B v D) (hb : Below B w0 w) (hB : B ≤ w.heap.size)
    (hown2 : w2.ownsRow B 5 1 v' (D.length + 1) (D.map bcell ++ [bcell y])) (hgr2 : (w.alloc X).grownBy w2 v.ownBlock) : OwnB 5 w2 B v' (D ++ [y]) ∧ Below B w0 w2 := by
  refine ⟨?_, ?_⟩
  · unfold OwnB
    rw [List.length_append, List.map_append]; exact hown2
  · exact (hb.alloc hB X).grown hgr2 (by simp; omega) (fun k e => (World.ownsRow.lt hown k e).1)

set_option maxRecDepth 100000 in
set_option maxHeartbeats 1000000 in
theorem appendLength_one (B : Nat) (v : Value) (l : List UInt8) (n : Nat) (w : World) (hown : OwnB 5 w B v l) (hB : B ≤ w.heap.size) (hl : l.length ≤ 100) (hn : n < 128) :
    Calls Tryz.prog 78 #[v, .int .i64 (n : Nat)] w fun e w' => ∃ v', e = .returned v' ∧ OwnB 5 w' B v' (l ++ lenO n) ∧ Below B w w' := by
  obtain ⟨i0, hi, hz0, hz1, hz2⟩ := info_parts byteInfo
  have e1 := lsz1 hn
  have HO := Lib.hid hown
  have HL := Lib.hid hl
  have HB := Lib.hid (Below.refl B w)
  have HBB := Lib.hid hB
  have HE := Lib.hid (show lenO n = [UInt8.ofNat n] from if_pos e1)
  obtain ⟨y, rfl⟩ : ∃ y : UInt8, n = y.toNat := ⟨UInt8.ofNat n, by simp; omega⟩
  have HE1 := Lib.hid e1
  clear hown hl e1 hB
  go_enter Tryz.func78, Tryz.ntmps78
  go_wp2_with (first | (go_at_call 102; (with_reducible refine (lengthSize_any y.toNat _).mono ?_); rw [HE1.out]; rintro e w1 ⟨rfl, rfl⟩) | (at_builtin; (refine wpList_append_own _ rfl (.tmp 12) (.tmp 15) 65 rfl B 5 i0 (.int .u8 0) 1 1 Tryz.underlying65 hi hz0 hz1 hz2 rfl (by decide) _ l.length (l.map bcell) rfl (HO.out.alloc _) ⟨_, 0, none⟩ 1 1 [bcell y] rfl rfl (news_row _ #[bcell y] 5) (bcells_one [y]) (by have := HL.out; unfold maxLen; omega) (by have := HL.out; omega) (by have := HBB.out; simp; omega) ?_); intro v' w2 hown2 hgr2 _; obtain ⟨P1, P2⟩ := app_round_t HO.out HB.out HBB.out hown2 hgr2; have HP1 := Lib.hid P1; have HP2 := Lib.hid P2; clear hown2 hgr2 P1 P2))
  go_ret
  refine ⟨_, rfl, ?_, HP2.out⟩
  rw [HE.out, UInt8.ofNat_toNat]
  exact HP1.out

set_option maxRecDepth 100000 in
set_option maxHeartbeats 1000000 in
theorem appendLength_more (B : Nat) (v : Value) (l : List UInt8) (n f : Nat) (w : World) (hown : OwnB 5 w B v l) (hB : B ≤ w.heap.size) (hl : l.length ≤ 90) (hf : lsz n = 1 + f) (h1 : 0 < f) (h3 : f ≤ 3) (hn : n < 256 ^ f) :
    Calls Tryz.prog 78 #[v, .int .i64 (n : Nat)] w fun e w' => ∃ v', e = .returned v' ∧ OwnB 5 w' B v' (l ++ lenO n) ∧ Below B w w' := by
  obtain ⟨i0, hi, hz0, hz1, hz2⟩ := info_parts byteInfo
  have HS1 := Lib.hid hB
  have HO := Lib.hid hown
  have HL := Lib.hid (show l.length ≤ 100 by omega)
  have HL9 := Lib.hid hl
  have HB := Lib.hid (Below.refl B w)
  have HBB := Lib.hid hB
  have HF := Lib.hid hf
  have hE : lenO n = UInt8.ofNat (128 + f) :: octs n f := by unfold lenO; rw [if_neg (by omega), hf]; congr 2 <;> omega
  have HE := Lib.hid hE
  have HN := Lib.hid hn
  have dE : (1 + (f : Int) - 1) = (f : Int) := by omega
  have d0 : ((f : Int) == 0) = false := beq_eq_false_iff_ne.2 (by omega)
  obtain ⟨y, hy⟩ : ∃ y : UInt8, 128 + f = y.toNat := ⟨UInt8.ofNat (128 + f), by simp; omega⟩
  have HY := Lib.hid hy
  have hyI : 128 + (f : Int) = ((y.toNat : Nat) : Int) := by omega
  clear hown hl hB hf hE hn hy
  go_enter Tryz.func78, Tryz.ntmps78
  go_wp2_with (first | (go_at_call 102; (with_reducible refine (lengthSize_any n _).mono ?_); rw [HF.out]; rintro e w1 ⟨rfl, rfl⟩) | (at_builtin; (refine wpList_append_own _ rfl (.tmp 17) (.tmp 21) 65 rfl B 5 i0 (.int .u8 0) 1 1 Tryz.underlying65 hi hz0 hz1 hz2 rfl (by decide) _ l.length (l.map bcell) rfl (HO.out.alloc _) ⟨_, 0, none⟩ 1 1 [bcell y] rfl rfl (news_row _ #[bcell y] 5) (bcells_one [y]) (by have := HL.out; unfold maxLen; omega) (by have := HL.out; omega) (by have := HBB.out; simp; omega) ?_); intro v' w2 hown2 hgr2 _; obtain ⟨P1, P2⟩ := app_round_t HO.out HB.out HBB.out hown2 hgr2; have HP1 := Lib.hid P1; have HP2 := Lib.hid P2; clear hown2 hgr2 P1 P2))
  have HS0 := Lib.hid (Nat.le_trans HBB.out HP2.out.size)
  clear hyI dE d0
  go_loopw [0, 6] (fun u s wr => ∃ (j : Nat) (D : List UInt8), j ≤ f ∧ s = .int .i64 (8 * ((j : Int) - 1)) ∧ D ++ octs n j = l ++ lenO n ∧ D.length + j ≤ 100 ∧ OwnB 5 wr B u D ∧ Below B w1 wr ∧ B ≤ wr.heap.size) (fun _ s _ => (intOf s + 8).toNat)
  case atStart => exact ⟨f, l ++ [y], Nat.le_refl _, rfl, by rw [HE.out, HY.out, UInt8.ofNat_toNat, List.append_assoc]; rfl, by have := HL9.out; simp; omega, HP1.out, HP2.out, HS0.out⟩
  case round =>
    clear HO HB HBB HP1 HP2 HS0
    obtain ⟨j, D, hj, rfl, hD, hDl, hown, hb, hB⟩ := hrel
    have HO := Lib.hid hown
    have HB := Lib.hid hb
    have HBB := Lib.hid hB
    have HD := Lib.hid hD
    have HDL := Lib.hid hDl
    clear hown hb hB hD hDl HL
    have HB0 := Lib.hid HS1.out
    rcases (by omega : j = 0 ∨ j = 1 ∨ j = 2 ∨ j = 3) with rfl | rfl | rfl | rfl
    · go_wp2_with fail
      go_ret
      refine ⟨_, rfl, ?_, HB.out⟩
      rw [← HD.out]
      simpa [octs] using HO.out
    · have HL := Lib.hid (show D.length + 1 ≤ 101 by have := HDL.out; omega)
      obtain ⟨z, hz⟩ : ∃ z : UInt8, z = UInt8.ofNat (n / 256 ^ 0) := ⟨_, rfl⟩
      have hc : (n : Int) % 256 = ((z.toNat : Nat) : Int) := by rw [hz]; simp
      have HZ := Lib.hid hz
      clear hz
      go_wp2_with (at_builtin; (refine wpList_append_own _ rfl (.tmp 30) (.tmp 35) 65 rfl B 5 i0 (.int .u8 0) 1 1 Tryz.underlying65 hi hz0 hz1 hz2 rfl (by decide) _ D.length (D.map bcell) rfl (HO.out.alloc _) ⟨_, 0, none⟩ 1 1 [bcell z] rfl rfl (news_row _ #[bcell z] 5) (bcells_one [z]) (by have := HL.out; unfold maxLen; omega) (by have := HL.out; omega) (by have := HBB.out; simp; omega) ?_); intro v' w2 hown2 hgr2 _; obtain ⟨P1, P2⟩ := app_round_t HO.out HB.out HBB.out hown2 hgr2; have HP1 := Lib.hid P1; have HP2 := Lib.hid P2; have HP3 := Lib.hid (Nat.le_trans HB0.out P2.size); clear hown2 hgr2 P1 P2)
      go_roundw
      case rel =>
        refine ⟨0, D ++ [z], by omega, rfl, ?_, by have := HDL.out; simp; omega, HP1.out, HP2.out, HP3.out⟩
        rw [← HD.out, HZ.out, List.append_assoc]
        rfl
      case measure => simp [intOf]
    · have HL := Lib.hid (show D.length + 1 ≤ 101 by have := HDL.out; omega)
      obtain ⟨z, hz⟩ : ∃ z : UInt8, z = UInt8.ofNat (n / 256 ^ 1) := ⟨_, rfl⟩
      have hc : (n : Int) / 256 % 256 = ((z.toNat : Nat) : Int) := by rw [hz]; simp
      have HZ := Lib.hid hz
      clear hz
      go_wp2_with (at_builtin; (refine wpList_append_own _ rfl (.tmp 30) (.tmp 35) 65 rfl B 5 i0 (.int .u8 0) 1 1 Tryz.underlying65 hi hz0 hz1 hz2 rfl (by decide) _ D.length (D.map bcell) rfl (HO.out.alloc _) ⟨_, 0, none⟩ 1 1 [bcell z] rfl rfl (news_row _ #[bcell z] 5) (bcells_one [z]) (by have := HL.out; unfold maxLen; omega) (by have := HL.out; omega) (by have := HBB.out; simp; omega) ?_); intro v' w2 hown2 hgr2 _; obtain ⟨P1, P2⟩ := app_round_t HO.out HB.out HBB.out hown2 hgr2; have HP1 := Lib.hid P1; have HP2 := Lib.hid P2; have HP3 := Lib.hid (Nat.le_trans HB0.out P2.size); clear hown2 hgr2 P1 P2)
      go_roundw
      case rel =>
        refine ⟨1, D ++ [z], by omega, rfl, ?_, by have := HDL.out; simp; omega, HP1.out, HP2.out, HP3.out⟩
        rw [← HD.out, HZ.out, List.append_assoc]
        rfl
      case measure => simp [intOf]
    · have HL := Lib.hid (show D.length + 1 ≤ 101 by have := HDL.out; omega)
      obtain ⟨z, hz⟩ : ∃ z : UInt8, z = UInt8.ofNat (n / 256 ^ 2) := ⟨_, rfl⟩
      have hc : (n : Int) / 65536 % 256 = ((z.toNat : Nat) : Int) := by rw [hz]; simp
      have HZ := Lib.hid hz
      clear hz
      go_wp2_with (at_builtin; (refine wpList_append_own _ rfl (.tmp 30) (.tmp 35) 65 rfl B 5 i0 (.int .u8 0) 1 1 Tryz.underlying65 hi hz0 hz1 hz2 rfl (by decide) _ D.length (D.map bcell) rfl (HO.out.alloc _) ⟨_, 0, none⟩ 1 1 [bcell z] rfl rfl (news_row _ #[bcell z] 5) (bcells_one [z]) (by have := HL.out; unfold maxLen; omega) (by have := HL.out; omega) (by have := HBB.out; simp; omega) ?_); intro v' w2 hown2 hgr2 _; obtain ⟨P1, P2⟩ := app_round_t HO.out HB.out HBB.out hown2 hgr2; have HP1 := Lib.hid P1; have HP2 := Lib.hid P2; have HP3 := Lib.hid (Nat.le_trans HB0.out P2.size); clear hown2 hgr2 P1 P2)
      go_roundw
      case rel =>
        refine ⟨2, D ++ [z], by omega, rfl, ?_, by have := HDL.out; simp; omega, HP1.out, HP2.out, HP3.out⟩
        rw [← HD.out, HZ.out, List.append_assoc]
        rfl
      case measure => simp [intOf]

theorem appendLength_any (B : Nat) (v : Value) (l : List UInt8) (n : Nat) (w : World) (hown : OwnB 5 w B v l) (hB : B ≤ w.heap.size) (hl : l.length ≤ 90) (hn : n ≤ 131072) :
    Calls Tryz.prog 78 #[v, .int .i64 (n : Nat)] w fun e w' => ∃ v', e = .returned v' ∧ OwnB 5 w' B v' (l ++ lenO n) ∧ Below B w w' := by
  by_cases h1 : n < 128
  · exact appendLength_one B v l n w hown hB (by omega) h1
  · by_cases h2 : n < 256
    · exact appendLength_more B v l n 1 w hown hB hl (lsz2 (by omega) h2) (by decide) (by decide) (by omega)
    · by_cases h3 : n < 65536
      · exact appendLength_more B v l n 2 w hown hB hl (lsz3 (by omega) h3) (by decide) (by decide) (by omega)
      · exact appendLength_more B v l n 3 w hown hB hl (lsz4 (by omega)) (by decide) (by decide) (by omega)
theorem lenO_length (n : Nat) : (lenO n).length = lsz n := by
  unfold lenO
  split
  · rename_i h; rw [h]; rfl
  · rename_i h
    have : 1 ≤ lsz n := by unfold lsz; repeat' split
                           all_goals omega
    rw [List.length_cons, octs_length]; omega
theorem lsz_le (n : Nat) : 1 ≤ lsz n ∧ lsz n ≤ 4 := by
  unfold lsz
  repeat' split
  all_goals omega
end Go.Proofs.YtbpdenfiifcfcaaGreatDoor
namespace Go.Proofs.YtbpdenfiifcfcaaGreatDoor
open Go.RowKit

def cat_t (ss : List ByteArray) : List UInt8 := ss.flatMap fun s => s.data.toList
theorem cat_append_t (a b : List ByteArray) : cat_t (a ++ b) = cat_t a ++ cat_t b := by simp [cat_t]
theorem cat_take_succ (ss : List ByteArray) (k : Nat) (h : k < ss.length) : cat_t (ss.take (k + 1)) = cat_t (ss.take k) ++ (ss.getD k ByteArray.empty).data.toList := by
  rw [List.take_succ_eq_append_getElem h, cat_append_t]
  simp [cat_t, h]
theorem cat_take_le (ss : List ByteArray) (k : Nat) : (cat_t (ss.take k)).length ≤ (cat_t ss).length := by
  have : cat_t ss = cat_t (ss.take k) ++ cat_t (ss.drop k) := by rw [← cat_append_t, List.take_append_drop]
  rw [this, List.length_append]; omega
theorem cat_take_size (ss : List ByteArray) (k : Nat) (h : k < ss.length) : (cat_t (ss.take (k + 1))).length = (cat_t (ss.take k)).length + (ss.getD k ByteArray.empty).size := by
  rw [cat_take_succ ss k h, List.length_append]; rfl

/-- At the address lie the strings ss. -/
def Lies (w : World) (a : Option Addr) (ss : List ByteArray) : Prop := ss = [] ∨ ∃ b o, a = some ⟨b, o, none⟩ ∧ ∀ i, i < ss.length → w.cell? ⟨b, o + i, none⟩ = some (.string (ss.getD i ByteArray.empty))
/-- The slice value v reads as the strings ss. -/
def Reads (w : World) (v : Value) (ss : List ByteArray) : Prop := ∃ a cap, v = .slice a ss.length cap ∧ Lies w a ss
theorem Lies.old {w w' : World} {a : Option Addr} {ss : List ByteArray} (h : Lies w a ss) (hb : Below w.heap.size w w') : Lies w' a ss := by
  rcases h with h | ⟨b, o, rfl, h⟩
  · exact Or.inl h
  · exact Or.inr ⟨b, o, rfl, fun i hi => (hb.cell (p := ⟨b, o + i, none⟩) (block_lt_of_cell (h i hi))).trans (h i hi)⟩
theorem Reads.old {w w' : World} {v : Value} {ss : List ByteArray} (h : Reads w v ss) (hb : Below w.heap.size w w') : Reads w' v ss := by
  obtain ⟨a, cap, rfl, h⟩ := h
  exact ⟨a, cap, rfl, h.old hb⟩
theorem Lies.at {w : World} {a : Option Addr} {ss : List ByteArray} (h : Lies w a ss) (k : Nat) (hk : k < ss.length) : ∃ b o, a = some ⟨b, o, none⟩ ∧ w.cell? ⟨b, o + k, none⟩ = some (.string (ss.getD k ByteArray.empty)) := by
  rcases h with h | ⟨b, o, h1, h2⟩
  · rw [h] at hk; exact absurd hk (Nat.not_lt_zero _)
  · exact ⟨b, o, h1, h2 k hk⟩

set_option maxRecDepth 100000 in
set_option maxHeartbeats 1000000 in
theorem total_core (a0 : Option Addr) (cap : Nat) (ss : List ByteArray) (w : World) (hv : Lies w a0 ss) (hn : ss.length < 4611686018427387904) :
    Calls Tryz.prog 77 #[.slice a0 ss.length cap] w fun e w' => e = .returned (.tuple #[.int .i64 ((if (cat_t ss).length ≤ 131072 then (cat_t ss).length else 0 : Nat) : Int), .bool (decide ((cat_t ss).length ≤ 131072))]) ∧ w' = w := by
  obtain ⟨n, hln⟩ : ∃ n, n = ss.length := ⟨_, rfl⟩
  obtain ⟨R, hR⟩ : ∃ R, R = Value.tuple #[.int .i64 ((if (cat_t ss).length ≤ 131072 then (cat_t ss).length else 0 : Nat) : Int), .bool (decide ((cat_t ss).length ≤ 131072))] := ⟨_, rfl⟩
  rw [← hR]
  rw [← hln] at hn ⊢
  have HLN := Lib.hid hln
  have HV := Lib.hid hv
  have HR := Lib.hid hR
  clear hln hv hR
  go_enter Tryz.func77, Tryz.ntmps77
  go_wp2_with fail
  go_loopw [4, 9] (fun t i wr => ∃ k m : Nat, k ≤ n ∧ i = .int .i64 k ∧ t = .int .i64 m ∧ m = (cat_t (ss.take k)).length ∧ m ≤ 131072 ∧ wr = w) (fun _ i _ => n - (intOf i).toNat)
  case atStart => exact ⟨0, 0, Nat.zero_le _, rfl, rfl, rfl, Nat.zero_le _, rfl⟩
  case round =>
    obtain ⟨k, m, hk, rfl, rfl, hm, hm2, rfl⟩ := hrel
    have HM := Lib.hid hm
    clear hm
    by_cases hlt : k < n
    · have hd : decide ((k : Int) < (n : Int)) = true := by simp; omega
      obtain ⟨b, o, ha, hc⟩ := HV.out.at k (by rw [← HLN.out]; exact hlt)
      have hsz := cat_take_size ss k (by rw [← HLN.out]; exact hlt)
      have hle := cat_take_le ss (k + 1)
      generalize ss.getD k ByteArray.empty = x at hc hsz
      subst ha
      rw [hsz, ← HM.out] at hle
      have HSZ := Lib.hid hsz
      have HLE := Lib.hid hle
      clear hsz hle
      by_cases hbig : 131072 - m < x.size
      · have d1 : decide (131072 - (m : Int) < (x.size : Int)) = true := by simp; omega
        have HF := Lib.hid (show ¬ (cat_t ss).length ≤ 131072 by have := HLE.out; omega)
        clear hbig
        go_wp2_with fail
        go_ret2
        refine ⟨?_, rfl⟩
        rw [HR.out, if_neg HF.out, decide_eq_false HF.out]
        rfl
      · have d1 : decide (131072 - (m : Int) < (x.size : Int)) = false := by simp; omega
        have hxs : x.size ≤ 131072 := by omega
        have HB := Lib.hid hbig
        clear hbig
        go_wp2_with fail
        go_roundw
        case rel => exact ⟨k + 1, m + x.size, by omega, by go_num, by go_num, by rw [HSZ.out, ← HM.out], by have := HB.out; omega, trivial⟩
        case measure => simp [intOf]; omega
    · have ek : k = n := by omega
      subst ek
      have hd : decide ((k : Int) < (k : Int)) = false := by simp
      have et : ss.take k = ss := List.take_of_length_le (by rw [← HLN.out]; exact Nat.le_refl _)
      have HF := Lib.hid (show m = (cat_t ss).length by rw [HM.out, et])
      have HM2 := Lib.hid hm2
      clear et
      go_wp2_with fail
      go_ret2
      refine ⟨?_, rfl⟩
      have hh : (cat_t ss).length ≤ 131072 := by rw [← HF.out]; exact HM2.out
      rw [HR.out, if_pos hh, decide_eq_true hh, ← HF.out]
      rfl
end Go.Proofs.YtbpdenfiifcfcaaGreatDoor
