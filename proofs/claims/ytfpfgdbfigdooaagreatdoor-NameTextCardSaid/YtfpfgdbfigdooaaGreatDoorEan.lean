/-
  The contract of certpathmade's Name: a name of at most three relative names, each of one or two of the twelve attributes, of different types; of the memory that was there only the deck's block has changed.
  Rows of bytes that can be read and written: what a conversion of a string lays, and stores into it. Nothing is claimed of the program here.
  The contracts of the reference's Lower, Fold and MatchText; nothing that was there before the call has changed.
-/
import Derived.Test.YtfpfgdbfigdooaaGreatDoorEak
import Derived.Test.YtfpfgdbfigdooaaGreatDoorEal
import Derived.Test.YtfpfgdbfigdooaaGreatDoorEam
import Derived.Test.YtfpfgdbfigdooaaGreatDoorEac
import Derived.Laws.IdiomStrings
namespace Go.Proofs.YtfpfgdbfigdooaaGreatDoor
open Go.RowKit

theorem next4 (p : Nat) (a : Option Addr) (cap : Nat) (zs : List Int) (k : Nat) (w : World) (h : DeckAt w p a cap zs k) (hk2 : k < 1000) :
    Calls Tryz.prog 12 #[.pointer (some ⟨p, 0, none⟩), .int .i64 4] w fun e w' => ∃ r k' : Nat, r < 4 ∧ e = .returned (.int .i64 (r : Int)) ∧ DeckAt w' p a cap zs k' ∧ k' ≤ k + 1 ∧ But p w w' :=
  next_any p a cap zs k 4 w h hk2 (by omega) (by omega)
theorem next5 (p : Nat) (a : Option Addr) (cap : Nat) (zs : List Int) (k : Nat) (w : World) (h : DeckAt w p a cap zs k) (hk2 : k < 1000) :
    Calls Tryz.prog 12 #[.pointer (some ⟨p, 0, none⟩), .int .i64 5] w fun e w' => ∃ r k' : Nat, r < 5 ∧ e = .returned (.int .i64 (r : Int)) ∧ DeckAt w' p a cap zs k' ∧ k' ≤ k + 1 ∧ But p w w' :=
  next_any p a cap zs k 5 w h hk2 (by omega) (by omega)

/-- A relative name of the generator; a name of it. -/
def MadeR (r : List At) : Prop := r.length ≤ 2 ∧ (∀ x ∈ r, x ∈ madeL) ∧ (r.map (·.1)).Nodup
def MadeN (n : Nm) : Prop := n.length ≤ 3 ∧ ∀ r ∈ n, MadeR r ∧ 0 < r.length
theorem made_snoc {n : Nm} (h : MadeN n) (hl : n.length < 3) {r : List At} (hr : MadeR r) (h0 : 0 < r.length) : MadeN (n ++ [r]) := by
  refine ⟨by rw [List.length_append]; simp; omega, fun x hx => ?_⟩
  rcases List.mem_append.1 hx with hx | hx
  · exact h.2 x hx
  · obtain rfl := List.mem_singleton.1 hx
    exact ⟨hr, h0⟩
theorem but_row {w0 wr w1 w2 : World} {p B n k : Nat} {v : Value} {e : TypeId} {xs : List Value} (hb : But p w0 wr) (hb1 : Below wr.heap.size wr w1) (ho : wr.ownsRow B e k v n xs) (hB : w0.heap.size ≤ B) (hg : w1.grownBy w2 v.ownBlock) : But p w0 w2 :=
  World.grownBy.andThen (hb.next (But.of hb1)) hg (fun j e => .inl (Nat.le_trans hB (World.ownsRow.lt ho j e).1))
theorem madeR_snoc {D : List At} {E : At} (h : MadeR D) (hl : D.length ≤ 1) (hE : E ∈ madeL) (hn : ∀ x ∈ D, x.1 ≠ E.1) : MadeR (D ++ [E]) := by
  refine ⟨by rw [List.length_append]; simp; omega, fun x hx => ?_, ?_⟩
  · rcases List.mem_append.1 hx with hx | hx
    · exact h.2.1 x hx
    · obtain rfl := List.mem_singleton.1 hx
      exact hE
  · rw [List.map_append, List.nodup_append]
    refine ⟨h.2.2, by simp, fun a ha b hb => ?_⟩
    obtain ⟨x, hx, rfl⟩ := List.mem_map.1 ha
    obtain ⟨y, hy, rfl⟩ := List.mem_map.1 hb
    obtain rfl := List.mem_singleton.1 hy
    exact hn x hx
theorem at_news2 (w1 : World) (X : Obj) (E : At) : ∀ j u, (atCells E)[j]? = some u → ((w1.alloc X).alloc (.cells #[.string E.1, .int .i64 E.2.1, .string E.2.2] 27)).drew.cell? ((⟨w1.heap.size + 1, 0, none⟩ : Addr).add j) = some u := by
  intro j u h
  have := news_row (w1.alloc X) #[.string E.1, .int .i64 E.2.1, .string E.2.2] 27 j u (by simpa [atCells] using h)
  simpa using this
theorem made_mem (r : Nat) (h : r < 12) : madeL.getD r noAt ∈ madeL := by
  have h' : r < madeL.length := h
  rw [List.getD_eq_getElem?_getD, List.getElem?_eq_getElem h']
  exact List.getElem_mem h'
theorem nmRes1 {fn : Func} {p : Tmp} (h : fn.results = #[.cell p 24]) (tmps : Array Value) (w w0 : World) (x : Value)
    (hp : tmps.getD p undef = .pointer (some ⟨w0.heap.size, 0, none⟩)) (hg : w.heap[w0.heap.size]? = some (.cells #[x] 24 (0, 0))) :
    (results fn tmps).run Tryz.prog w = .ok (.agg #[x]) w :=
  results_cell_row h tmps w w0.heap.size 24 #[x] (0, 0) _ hp hg Tryz.underlying24 rfl nmSize

set_option maxRecDepth 100000 in
set_option maxHeartbeats 4000000 in
theorem name_any (p : Nat) (a : Option Addr) (cap : Nat) (zs : List Int) (k : Nat) (w : World) (h : DeckAt w p a cap zs k) (hk : k ≤ 900) :
    Calls Tryz.prog 11 #[.pointer (some ⟨p, 0, none⟩)] w fun e w' => ∃ (v : Value) (n : Nm) (k' : Nat), MadeN n ∧ e = .returned v ∧ OwnV w' w.heap.size v n ∧ DeckAt w' p a cap zs k' ∧ k' ≤ k + 10 ∧ But p w w' := by
  obtain ⟨i0, hi, hz0, hz1, hz2⟩ := info_parts rdInfo
  obtain ⟨i1, hi', hy0, hy1, hy2⟩ := info_parts atInfo
  have hp := h.lt
  obtain ⟨g, hg⟩ : ∃ g, g = w.heap.size := ⟨_, rfl⟩
  obtain ⟨W0, hW0⟩ : ∃ W0, W0 = (w.alloc (.cells #[.slice none 0 0] 24)).alloc (.cells #[.slice none 0 0] 24) := ⟨_, rfl⟩
  have hb0 : Below w.heap.size w W0 := by rw [hW0]; exact belowTwo w _ _
  have HB0 := Lib.hid (But.of (p := p) hb0)
  have HD0 := Lib.hid (h.below hb0)
  have HZ0 := Lib.hid (show W0.heap.size = g + 2 by rw [hW0, hg]; simp)
  have HG0 := Lib.hid (show W0.heap[g]? = some (.cells #[.slice none 0 0] 24 (0, 0)) by
    rw [hW0, hg]; exact ((belowNew _ _).block _ (by simp)).trans (heap_alloc_new w _))
  have HG1 := Lib.hid (show W0.heap[g + 1]? = some (.cells #[.slice none 0 0] 24 (0, 0)) by
    have := heap_alloc_new (w.alloc (.cells #[.slice none 0 0] 24)) (.cells #[.slice none 0 0] 24)
    rw [← hW0] at this
    rw [hg]
    simpa using this)
  have HWE := Lib.hid hW0.symm
  have HG := Lib.hid hg
  have hpg : p < g := by rw [hg]; exact hp
  clear h hb0 hW0 hp hg
  go_enter Tryz.func11, Tryz.ntmps11
  go_wp2_with fail
  rw [HWE.out, ← HG.out]
  refine (next4 p a cap zs k W0 HD0.out (by omega)).mono ?_
  rintro e w1 ⟨r4, k1, hr4, rfl, hd, hk1, hb1⟩
  have HD1 := Lib.hid hd
  have HB1 := Lib.hid hb1
  clear hd hb1
  go_wp2_with fail
  go_loopw [4] (fun i wr => ∃ (j : Nat) (N : Nm) (V : Value) (k2 : Nat), N.length + j ≤ 3 ∧ MadeN N ∧ i = .int .i64 (j : Int) ∧ wr.heap[g]? = some (.cells #[.slice none 0 0] 24 (0, 0)) ∧ wr.heap[g + 1]? = some (.cells #[V] 24 (0, 0)) ∧ OwnN wr (g + 2) V N ∧ DeckAt wr p a cap zs k2 ∧ k2 + 3 * j ≤ k + 10 ∧ But p w wr) (fun i _ => (intOf i).toNat)
  case atStart =>
    exact ⟨r4, [], _, k1, by simp; omega, ⟨by simp, fun r h => by cases h⟩, rfl, (HB1.out.block g (by rw [HZ0.out]; omega) (by simp; omega)).trans HG0.out, (HB1.out.block (g + 1) (by rw [HZ0.out]; omega) (by simp; omega)).trans HG1.out, OwnN.nil _ _, HD1.out, by omega, HB0.out.next HB1.out⟩
  case round =>
    obtain ⟨j, N, V, k2, hjn, hmn, rfl, hg0, hg1, hown, hd, hkk, hb⟩ := hrel
    have HMN := Lib.hid hmn
    have HG0 := Lib.hid hg0
    have HG1 := Lib.hid hg1
    have HO := Lib.hid hown
    have HD := Lib.hid hd
    have HB := Lib.hid hb
    clear hmn hg0 hg1 hown hd hb HD1 HB1 hr4 hk1
    by_cases hj : 0 < j
    · have hdj : decide ((0 : Int) < (j : Int)) = true := by simp; omega
      go_wp2_with fail
      refine (next5 p a cap zs k2 _ HD.out (by omega)).mono ?_
      rintro e w2 ⟨r5, k3, hr5, rfl, hd3, hk3, hb3⟩
      obtain ⟨q, hq, hq1⟩ : ∃ q : Nat, (r5 : Int).tdiv 4 = (q : Int) ∧ q ≤ 1 := ⟨r5 / 4, by rw [Int.tdiv_eq_ediv_of_nonneg (by omega)]; omega, by omega⟩
      have HD3 := Lib.hid hd3
      have HB3 := Lib.hid hb3
      clear hd3 hb3
      go_wp2_with fail
      have h20 := (HB3.out.block g (Array.getElem?_eq_some_iff.1 HG0.out).1 (by simp; omega)).trans HG0.out
      have h21 := (HB3.out.block (g + 1) (Array.getElem?_eq_some_iff.1 HG1.out).1 (by simp; omega)).trans HG1.out
      have H20 := Lib.hid h20
      have H21 := Lib.hid h21
      have HO2 := Lib.hid (HO.out.but HB3.out (by omega))
      have HBW := Lib.hid (HB.out.next HB3.out)
      have hzz : g + 2 ≤ w2.heap.size := by have := (Array.getElem?_eq_some_iff.1 h21).1; omega
      clear h20 h21 hq
      go_loopw [5, 6] (fun r i ws => ∃ (m : Nat) (D : List At) (v : Value) (k4 : Nat), D.length + m ≤ 2 ∧ (0 < D.length ∨ 0 < m) ∧ MadeR D ∧ r = v ∧ i = .int .i64 (m : Int) ∧ OwnA ws w2.heap.size v D ∧ DeckAt ws p a cap zs k4 ∧ k4 + m ≤ k3 + 2 ∧ But p w2 ws) (fun _ i _ => (intOf i).toNat)
      case atStart => exact ⟨1 + q, [], _, k3, by simp; omega, .inr (by omega), ⟨by simp, (fun x h => by cases h), by simp⟩, rfl, by first | rfl | go_num, OwnA.nil _ _, HD3.out, by omega, But.refl _ _⟩
      case round =>
        obtain ⟨m, D, v, k4, hmD, hor, hmr, rfl, rfl, hown, hd, hk4, hb⟩ := hrel
        have HO4 := Lib.hid hown
        have HD4 := Lib.hid hd
        have HB4 := Lib.hid hb
        have HMR := Lib.hid hmr
        have HOR := Lib.hid hor
        clear hown hd hb hmr hor HD3
        by_cases hm : 0 < m
        · have hdm : decide ((0 : Int) < (m : Int)) = true := by simp; omega
          go_wp2_with fail
          refine (attr_any p a cap zs k4 wr HD4.out (by omega)).mono ?_
          rintro e w5 ⟨r, k5, hr, rfl, hd5, hk5, hb5⟩
          have HM := Lib.hid (made_mem r hr)
          generalize madeL.getD r noAt = E at HM ⊢
          simp only [atV]
          have HO5 := Lib.hid (HO4.out.but hb5 (by omega))
          have HD5 := Lib.hid hd5
          have HB5 := Lib.hid (HB4.out.next hb5)
          obtain ⟨aD, cD, rfl, hcD, hlD⟩ := HO5.out.lies
          have hw5 : w2.heap.size ≤ w5.heap.size := HB5.out.size
          clear hd5 hb5
          by_cases hD0 : D.length = 0
          · obtain rfl : D = [] := List.eq_nil_of_length_eq_zero hD0
            go_wp2_with fail
            go_region
            go_wp2_with (at_builtin; (refine wpList_append_own _ rfl (.tmp 37) (.tmp 39) 33 rfl w2.heap.size 27 i1 (.agg #[.string ⟨#[]⟩, .int .i64 0, .string ⟨#[]⟩]) 3 40 Tryz.underlying33 hi' hy0 hy1 hy2 rfl (by decide) _ 0 (atsCells []) rfl ((HO5.out.alloc _).alloc _).drew ⟨w5.heap.size + 1, 0, none⟩ 1 1 (atCells E) rfl rfl (at_news2 w5 _ E) (atCells_one _) (by unfold maxLen; omega) (by omega) (by simp; omega) ?_); intro v' w6 hown6 hgr6 _; have P1 : OwnA w6 w2.heap.size v' ([] ++ [E]) := (by unfold OwnA; rw [List.length_append, atsCells_snoc]; exact hown6); have P2 := but_row HB5.out (belowTwo w5 _ _).drew HO5.out (Nat.le_refl _) hgr6; have P4 := (HD5.out.below (belowTwo w5 _ _).drew).grown hgr6 (fun j e => Nat.lt_of_lt_of_le (show p < w2.heap.size by omega) (World.ownsRow.lt HO5.out j e).1); obtain ⟨a6, c6, hv6, _, _⟩ := P1.lies; subst hv6; have HP1 := Lib.hid P1; have HP2 := Lib.hid P2; have HP4 := Lib.hid P4; clear P1 P2 P4 hown6 hgr6)
            go_roundw
            case rel => exact ⟨m - 1, [] ++ [E], _, k5, by simp at hmD ⊢; omega, .inl (by simp), madeR_snoc HMR.out (by simp) HM.out (fun x h => by cases h), rfl, by go_num, HP1.out, HP4.out, by omega, HP2.out⟩
            case measure => simp [intOf]; omega
          · obtain ⟨x, rfl⟩ : ∃ x, D = [x] := List.length_eq_one_iff.1 (by omega)
            obtain ⟨b, o, rfl, hbx, cx, _, _⟩ := hlD.at 0 (by simp)
            rw [show ([x] : List At).getD 0 noAt = x from rfl, Nat.zero_mul, Nat.add_zero] at cx
            clear hlD
            by_cases hxe : x.1 = E.1
            · have hq : (x.1.toList == E.1.toList) = true := by rw [beq_str]; simpa using hxe
              go_wp2_with fail
              go_region
              go_wp2_with fail
              go_roundw
              case rel => exact ⟨m - 1, [x], _, k5, by simp at hmD ⊢; omega, .inl (by simp), HMR.out, rfl, by go_num, (HO5.out.alloc _).drew, HD5.out.below (belowNew w5 _).drew, by omega, HB5.out.next (But.of (belowNew w5 _).drew)⟩
              case measure => simp [intOf]; omega
            · have hq : (x.1.toList == E.1.toList) = false := by rw [beq_str]; simpa using hxe
              go_wp2_with fail
              go_region
              go_wp2_with (at_builtin; (refine wpList_append_own _ rfl (.tmp 37) (.tmp 39) 33 rfl w2.heap.size 27 i1 (.agg #[.string ⟨#[]⟩, .int .i64 0, .string ⟨#[]⟩]) 3 40 Tryz.underlying33 hi' hy0 hy1 hy2 rfl (by decide) _ 1 (atsCells [x]) rfl ((HO5.out.alloc _).alloc _).drew ⟨w5.heap.size + 1, 0, none⟩ 1 1 (atCells E) rfl rfl (at_news2 w5 _ E) (atCells_one _) (by unfold maxLen; omega) (by omega) (by simp; omega) ?_); intro v' w6 hown6 hgr6 _; have P1 : OwnA w6 w2.heap.size v' ([x] ++ [E]) := (by unfold OwnA; rw [List.length_append, atsCells_snoc]; exact hown6); have P2 := but_row HB5.out (belowTwo w5 _ _).drew HO5.out (Nat.le_refl _) hgr6; have P4 := (HD5.out.below (belowTwo w5 _ _).drew).grown hgr6 (fun j e => Nat.lt_of_lt_of_le (show p < w2.heap.size by omega) (World.ownsRow.lt HO5.out j e).1); obtain ⟨a6, c6, hv6, _, _⟩ := P1.lies; subst hv6; have HP1 := Lib.hid P1; have HP2 := Lib.hid P2; have HP4 := Lib.hid P4; clear P1 P2 P4 hown6 hgr6)
              go_roundw
              case rel => exact ⟨m - 1, [x] ++ [E], _, k5, by simp at hmD ⊢; omega, .inl (by simp), madeR_snoc HMR.out (by simp) HM.out (fun y h => by obtain rfl := List.mem_singleton.1 h; exact hxe), rfl, by go_num, HP1.out, HP4.out, by omega, HP2.out⟩
              case measure => simp [intOf]; omega
        · have hdm : decide ((0 : Int) < (m : Int)) = false := by simp; omega
          have h0 := (HB4.out.block g (by omega) (by simp; omega)).trans H20.out
          have h1 := (HB4.out.block (g + 1) (by omega) (by simp; omega)).trans H21.out
          have HON := Lib.hid (HO2.out.but HB4.out (by omega))
          obtain ⟨aD, cD, rfl, _, _⟩ := HO4.out.lies
          obtain ⟨aV, cV, rfl, hcV, _⟩ := HON.out.lies
          obtain ⟨c1, f1, hl1⟩ := one_facts h1
          have HH0 := Lib.hid h0
          have HH1 := Lib.hid h1
          have hwr : w2.heap.size ≤ wr.heap.size := HB4.out.size
          obtain ⟨vs, hv1, hv2, hv3⟩ := HON.out
          have HV1 := Lib.hid hv1
          have HV2 := Lib.hid hv2
          have HV3 := Lib.hid hv3
          have HBB := Lib.hid (HBW.out.next HB4.out)
          clear h0 h1 hv1 hv2 hv3
          go_wp2_with (at_builtin; (refine wpList_append_own _ rfl (.tmp 42) (.tmp 44) 22 rfl (g + 2) 33 i0 (.slice none 0 0) 1 24 Tryz.underlying22 hi hz0 hz1 hz2 rfl (by decide) _ N.length vs rfl (HV2.out.alloc _) ⟨wr.heap.size, 0, none⟩ 1 1 [.slice aD D.length cD] rfl rfl (row_news wr _ _) (one_one _ _ _) (by unfold maxLen; omega) (by omega) (by simp; omega) ?_); intro v' w6 hown6 hgr6 _; have P0 := more_box HH0.out (show g < g + 2 by omega) HV2.out hgr6; have P1 := more_box HH1.out (show g + 1 < g + 2 by omega) HV2.out hgr6; have P2 := but_row HBB.out (belowNew wr _) HV2.out (by rw [← HG.out]; omega) hgr6; have P3 := OwnN.snoc HV1.out (own_below HV2.out (belowNew wr _)) (fun i hi => (HV3.out i hi).below (belowNew wr _)) ((HO4.out.base hzz).below (belowNew wr _)) hgr6 hown6; have P4 := (HD4.out.below (belowNew wr _)).grown hgr6 (fun j e => Nat.lt_of_lt_of_le (show p < g + 2 by omega) (World.ownsRow.lt HV2.out j e).1); obtain ⟨a6, c6, hv6, _, _⟩ := P3.lies; rw [List.length_append, List.length_singleton] at hv6; subst hv6; obtain ⟨s0, t0, hltq⟩ := one_facts P1; have HP0 := Lib.hid P0; have HP1 := Lib.hid P1; have HP2 := Lib.hid P2; have HP3 := Lib.hid P3; have HP4 := Lib.hid P4; clear P0 P1 P2 P3 P4 hown6 hgr6)
          have hs := But.set (g + 1) 0 w6 (.slice a6 (N.length + 1) c6)
          go_roundw
          case rel => exact ⟨j - 1, N ++ [D], _, k4, by rw [List.length_append]; simp; omega, made_snoc HMN.out (by omega) HMR.out (by rcases HOR.out with h | h <;> omega), by go_num, (hs.block g (by omega) (by simp)).trans HP0.out, one_set HP1.out, HP3.out.but (p := g + 1) hs (by omega), HP4.out.grown hs (fun j e => by obtain rfl := Option.some.inj e; omega), by omega, HP2.out.fresh hs (by rw [← HG.out]; omega)⟩
          case measure => simp [intOf]; omega
    · have hdj : decide ((0 : Int) < (j : Int)) = false := by simp; omega
      obtain ⟨av, cv, rfl, _, _⟩ := HO.out.lies
      obtain ⟨c0, f0, _⟩ := one_facts HG0.out
      obtain ⟨c1, f1, _⟩ := one_facts HG1.out
      have hs := But.set g 0 wr (.slice av N.length cv)
      go_wp2_with fail
      exact bodyPost_ret (nmRes1 rfl _ _ w _ (by rw [← HG.out]; rfl) (by rw [← HG.out]; exact one_set HG0.out)) rfl ⟨_, N, k2, HMN.out, rfl, ⟨_, rfl, (HO.out.but (p := g) hs (by omega)).base (by rw [← HG.out]; omega)⟩, HD.out.grown hs (fun j e => by obtain rfl := Option.some.inj e; exact hpg), by omega, HB.out.fresh hs (by rw [← HG.out]; exact Nat.le_refl _)⟩
end Go.Proofs.YtfpfgdbfigdooaaGreatDoor
namespace Go.Proofs.YtfpfgdbfigdooaaGreatDoor
open Go.RowKit

/-- The bytes l lie from the beginning of block g on, and may be written. -/
def BL (w : World) (g : Nat) (l : List UInt8) : Prop := g < w.heap.size ∧ ∀ j, j < l.length → w.cell? ⟨g, j, none⟩ = some (.int .u8 (((l.getD j 0).toNat : Nat) : Int)) ∧ w.frozen? ⟨g, j, none⟩ = false
theorem addr_ne {g h i j : Nat} (e : g ≠ h) : (⟨g, i, none⟩ : Addr) ≠ ⟨h, j, none⟩ := fun k => e (by injection k)
theorem addr_ne2 {g i j : Nat} (e : i ≠ j) : (⟨g, i, none⟩ : Addr) ≠ ⟨g, j, none⟩ := fun k => e (by injection k)
theorem getD_set_same {α : Type} {l : List α} {j : Nat} (h : j < l.length) (v d : α) : (l.set j v).getD j d = v := by
  rw [List.getD_eq_getElem?_getD]; simp [h]
theorem getD_set_other {α : Type} {l : List α} {i j : Nat} (h : i ≠ j) (v d : α) : (l.set i v).getD j d = l.getD j d := by
  rw [List.getD_eq_getElem?_getD, List.getD_eq_getElem?_getD, List.getElem?_set_ne h]
theorem BL.put {w : World} {g : Nat} {l : List UInt8} (h : BL w g l) {j : Nat} (hj : j < l.length) (b : UInt8) : BL (w.setCell ⟨g, j, none⟩ (.int .u8 ((b.toNat : Nat) : Int))) g (l.set j b) := by
  refine ⟨by simpa using h.1, fun i hi => ?_⟩
  rw [List.length_set] at hi
  rw [World.frozen?_setCell]
  refine ⟨?_, (h.2 i hi).2⟩
  by_cases e : j = i
  · subst e
    rw [World.cell?_setCell_same _ _ _ (h.2 j hj).1, getD_set_same hj]
  · rw [World.cell?_setCell_other _ _ _ _ (addr_ne2 e), getD_set_other e]
    exact (h.2 i hi).1
theorem BL.other {w : World} {g : Nat} {l : List UInt8} (h : BL w g l) {k : Nat} (hk : k ≠ g) (j : Nat) (v : Value) : BL (w.setCell ⟨k, j, none⟩ v) g l := by
  refine ⟨by simpa using h.1, fun i hi => ?_⟩
  rw [World.frozen?_setCell, World.cell?_setCell_other _ _ _ _ (addr_ne hk)]
  exact h.2 i hi
theorem BL.drew {w : World} {g : Nat} {l : List UInt8} (h : BL w g l) : BL w.drew g l := h
theorem BL.new (w : World) (s : ByteArray) (cap : Nat) (t : TypeId) : BL (w.alloc (.cells (bytesRow s cap) t ((bytesRow s cap).size, (bytesRow s cap).size + 1))) w.heap.size s.data.toList := by
  refine ⟨by simp, fun j hj => ?_⟩
  have hj2 : j < s.data.size := hj
  refine ⟨?_, ?_⟩
  · rw [cell_of_row _ _ j _ _ _ (heap_alloc_new w _)]
    unfold bytesRow
    rw [Array.getElem?_append_left (by simpa using hj2)]
    rw [List.getD_eq_getElem?_getD]
    simp
    exact ⟨s.data[j], Array.getElem?_eq_getElem hj2, by rw [Array.getElem?_eq_getElem hj2]; rfl⟩
  · rw [World.frozen?_alloc_mark]
    have : (bytesRow s cap).size ≥ s.data.size := by unfold bytesRow; simp
    have h2 : ¬ (bytesRow s cap).size ≤ j := by omega
    rw [decide_eq_false h2]; rfl

theorem BL.text {w : World} {g : Nat} {l : List UInt8} (h : BL w g l) (n cap : Nat) (hn : n = l.length) : (convert 61 9 (.slice (some ⟨g, 0, none⟩) n cap)).run Tryz.prog w = .ok (.string (strOf l)) w := by
  subst hn
  refine run_convert_bytes_back w _ _ _ ⟨g, 0, none⟩ cap l Tryz.underlying61 Tryz.underlying5 Tryz.underlying9 (fun j hj => ?_)
  have hadd : (⟨g, 0, none⟩ : Addr).add j = ⟨g, j, none⟩ := by unfold Addr.add; split <;> simp_all
  rw [hadd, (h.2 j hj).1, List.getD_eq_getElem?_getD, List.getElem?_eq_getElem hj]
  rfl

theorem conv_made (L : List UInt8) (wb : World) : ∃ cap W, (convert 9 61 (.string (strOf L))).run Tryz.prog wb = .ok (.slice (some ⟨wb.heap.size, 0, none⟩) L.length cap) W ∧ BL W wb.heap.size L ∧ Below wb.heap.size wb W := by
  refine ⟨_, _, run_bytes_of_string wb 9 61 5 (strOf L) Tryz.underlying9 Tryz.underlying61 Tryz.underlying5, ?_, ?_⟩
  · exact BL.new wb.drew (strOf L) _ _
  · exact (Below.refl _ wb).drew.alloc (Nat.le_refl _) _
theorem byte_list (l : List UInt8) (k : Nat) (h : k < l.length) : l.drop k = l.getD k 0 :: l.drop (k + 1) := by
  rw [List.drop_eq_getElem_cons h, List.getD_eq_getElem?_getD, List.getElem?_eq_getElem h]
  rfl
theorem byte_at (b : ByteArray) (k : Nat) : u8at b k = (b.data.toList.getD k 0).toNat := rfl
theorem take_next_x (L : List UInt8) (k : Nat) (h : k < L.length) : L.take (k + 1) = L.take k ++ [L.getD k 0] := by
  rw [List.take_add_one, List.getD_eq_getElem?_getD, List.getElem?_eq_getElem h]
  rfl
theorem BL.putv {w : World} {g : Nat} {l : List UInt8} (h : BL w g l) {j : Nat} (hj : j < l.length) (b : UInt8) (z : Int) (hz : z = ((b.toNat : Nat) : Int)) : BL (w.setCell ⟨g, j, none⟩ (.int .u8 z)) g (l.set j b) := by
  subst hz
  exact h.put hj b
theorem BL.below {w w' : World} {g : Nat} {l : List UInt8} (h : BL w g l) (hb : Below w.heap.size w w') : BL w' g l :=
  ⟨Nat.lt_of_lt_of_le h.1 hb.size, fun j hj => ⟨(hb.cell (p := ⟨g, j, none⟩) h.1).trans (h.2 j hj).1, (hb.frozen (p := ⟨g, j, none⟩) h.1).trans (h.2 j hj).2⟩⟩
end Go.Proofs.YtfpfgdbfigdooaaGreatDoor
namespace Go.Proofs.YtfpfgdbfigdooaaGreatDoor
open Go.RowKit

/-- The bytes when the first k have been made small. -/
def lowAt (l : List UInt8) (k : Nat) : List UInt8 := (l.take k).map small ++ l.drop k
theorem lowAt_zero (l : List UInt8) : lowAt l 0 = l := by simp [lowAt]
theorem lowAt_end (l : List UInt8) {k : Nat} (h : l.length ≤ k) : lowAt l k = l.map small := by
  unfold lowAt
  rw [List.take_of_length_le h, List.drop_eq_nil_of_le h, List.append_nil]
theorem lowAt_len (l : List UInt8) (k : Nat) : (lowAt l k).length = l.length := by
  unfold lowAt
  rw [List.length_append, List.length_map, List.length_take, List.length_drop]
  omega
theorem lowAt_get (l : List UInt8) {k : Nat} (h : k < l.length) : (lowAt l k).getD k 0 = l.getD k 0 := by
  unfold lowAt
  rw [List.getD_eq_getElem?_getD, List.getElem?_append_right (by rw [List.length_map, List.length_take]; omega), List.length_map, List.length_take, List.getElem?_drop, show k + (k - min k l.length) = k by omega, ← List.getD_eq_getElem?_getD]
theorem lowAt_step (l : List UInt8) {k : Nat} (h : k < l.length) : lowAt l (k + 1) = (lowAt l k).set k (small (l.getD k 0)) := by
  unfold lowAt
  rw [take_next_x l k h, byte_list l k h, List.map_append, List.set_append_right _ _ (by rw [List.length_map, List.length_take]; omega)]
  have e : k - ((l.take k).map small).length = 0 := by rw [List.length_map, List.length_take]; omega
  rw [e]
  simp
theorem lowAt_same (l : List UInt8) {k : Nat} (h : k < l.length) (hs : small (l.getD k 0) = l.getD k 0) : lowAt l (k + 1) = lowAt l k := by
  unfold lowAt
  rw [take_next_x l k h, byte_list l k h, List.map_append, List.map_cons, hs, List.map_nil, List.append_assoc]
  rfl

set_option maxRecDepth 100000 in
set_option maxHeartbeats 2000000 in
theorem lower_any (s : ByteArray) (w : World) (hn : s.size ≤ 1099511627776) :
    Calls Tryz.prog 46 #[.string s] w fun e w' => e = .returned (.string (strOf (s.data.toList.map small))) ∧ Below w.heap.size w w' := by
  obtain ⟨L, hL⟩ : ∃ L, L = s.data.toList := ⟨_, rfl⟩
  obtain rfl : s = strOf L := by rw [hL]; exact strOf_of rfl
  rw [strOf_list]
  clear hL
  have hz : L.length ≤ 1099511627776 := hn
  obtain ⟨cap, W, hcv, hbl, hbe⟩ := conv_made L w
  have HBL0 := Lib.hid hbl
  have HB0 := Lib.hid hbe
  clear hbl hbe hn
  go_enter Tryz.func46, Tryz.ntmps46
  go_wp2_with fail
  clear hcv
  go_loopw [9] (fun i wr => ∃ k : Nat, k ≤ L.length ∧ i = .int .i64 (k : Int) ∧ BL wr w.heap.size (lowAt L k) ∧ Below w.heap.size w wr) (fun i _ => L.length - (intOf i).toNat)
  case atStart => exact ⟨0, Nat.zero_le _, rfl, by rw [lowAt_zero]; exact HBL0.out, HB0.out⟩
  case round =>
    obtain ⟨k, hk, rfl, hbl, hb⟩ := hrel
    have HBL := Lib.hid hbl
    have HB := Lib.hid hb
    have hcv := hbl.text L.length cap (lowAt_len _ _).symm
    clear hbl hb
    by_cases hlt : k < L.length
    · clear hcv
      have hd : decide ((k : Int) < (L.length : Int)) = true := by simp; omega
      have hlr : k < (lowAt L k).length := by rw [lowAt_len]; exact hlt
      have hcell := (HBL.out.2 k hlr).1
      have hfro := (HBL.out.2 k hlr).2
      have hgl := HBL.out.1
      rw [lowAt_get L hlt] at hcell
      have hst := lowAt_step L hlt
      have hsm := fun h => lowAt_same L hlt h
      obtain ⟨c, hc⟩ : ∃ c, c = L.getD k 0 := ⟨_, rfl⟩
      rw [← hc] at hcell hst hsm
      have HST := Lib.hid hst
      have HSM := Lib.hid hsm
      clear hc hst hsm
      by_cases h : 65 ≤ c.toNat ∧ c.toNat ≤ 90
      · have d1 : decide ((65 : Int) ≤ ((c.toNat : Nat) : Int)) = true := by simp; omega
        have d2 : decide (((c.toNat : Nat) : Int) ≤ 90) = true := by simp; omega
        have HE := Lib.hid (show (((c.toNat : Nat) : Int) + 32) % 256 = (((small c).toNat : Nat) : Int) by rw [small_big h]; omega)
        clear h
        go_wp2_with fail
        go_roundw
        case rel => exact ⟨k + 1, by omega, by go_num, by rw [HST.out]; exact HBL.out.putv hlr _ _ HE.out, HB.out.setCell (by simp) _⟩
        case measure => simp [intOf]; omega
      · have HN := Lib.hid (HSM.out (small_low h))
        by_cases h1 : 65 ≤ c.toNat
        · have d1 : decide ((65 : Int) ≤ ((c.toNat : Nat) : Int)) = true := by simp; omega
          have d2 : decide (((c.toNat : Nat) : Int) ≤ 90) = false := by simp; omega
          clear h
          go_wp2_with fail
          go_roundw
          case rel => exact ⟨k + 1, by omega, by go_num, by rw [HN.out]; exact HBL.out, HB.out⟩
          case measure => simp [intOf]; omega
        · have d1 : decide ((65 : Int) ≤ ((c.toNat : Nat) : Int)) = false := by simp; omega
          clear h
          go_wp2_with fail
          go_roundw
          case rel => exact ⟨k + 1, by omega, by go_num, by rw [HN.out]; exact HBL.out, HB.out⟩
          case measure => simp [intOf]; omega
    · have ek : k = L.length := by omega
      subst ek
      have hd : decide ((L.length : Int) < (L.length : Int)) = false := by simp
      rw [lowAt_end L (Nat.le_refl _)] at hcv
      go_wp2_with fail
      go_ret
      exact ⟨rfl, HB.out⟩
end Go.Proofs.YtfpfgdbfigdooaaGreatDoor
