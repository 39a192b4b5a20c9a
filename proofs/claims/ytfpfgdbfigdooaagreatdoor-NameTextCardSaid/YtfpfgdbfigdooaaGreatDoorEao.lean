/-
  The contract of the laws' spelled: a name in another spelling, which matches the one handed in; of the memory that was there only the deck's block has changed.
-/
import Derived.Test.YtfpfgdbfigdooaaGreatDoorEan
import Derived.Laws.AppendOwnNone
namespace Go.Proofs.YtfpfgdbfigdooaaGreatDoor
open Go.RowKit

theorem foldStep_small (st : List UInt8 × Bool) (c : UInt8) : foldStep st (small c) = foldStep st c := by
  unfold foldStep
  simp only [small_space, small_small]
theorem foldl_small (l : List UInt8) (st : List UInt8 × Bool) : (l.map small).foldl foldStep st = l.foldl foldStep st := by
  induction l generalizing st with
  | nil => rfl
  | cons c r ih => simp only [List.map_cons, List.foldl_cons, foldStep_small, ih]
theorem foldS_low (s : ByteArray) : foldS (strOf (s.data.toList.map small)) = foldS s := by
  unfold foldS foldL foldRun
  rw [show (strOf (s.data.toList.map small)).data.toList = s.data.toList.map small from by simp [strOf], foldl_small]
theorem foldS_sp (s : ByteArray) : foldS ((⟨#[32]⟩ : ByteArray) ++ s) = foldS s := by
  unfold foldS foldL foldRun
  rw [show ((⟨#[32]⟩ : ByteArray) ++ s).data.toList = 32 :: s.data.toList from by simp]
  rfl
theorem matchR_put {l D : List At} {x y : At} (h : MatchR l D) (e : fa y = fa x) : MatchR (l ++ [x]) (y :: D) := by
  refine ⟨by simp [h.1], fun z hz => ?_, fun z hz => ?_⟩
  · rcases List.mem_append.1 hz with hz | hz
    · obtain ⟨u, hu, hh⟩ := h.2.1 z hz
      exact ⟨u, List.mem_cons_of_mem _ hu, hh⟩
    · obtain rfl := List.mem_singleton.1 hz
      exact ⟨y, List.mem_cons_self, e⟩
  · rcases List.mem_cons.1 hz with rfl | hz
    · exact ⟨x, List.mem_append_right _ (List.mem_singleton.2 rfl), e.symm⟩
    · obtain ⟨u, hu, hh⟩ := h.2.2 z hz
      exact ⟨u, List.mem_append_left _ hu, hh⟩
/-- A name of at most three relative names of at most two attributes, each value of at most L bytes. -/
def SpR (L : Nat) (r : List At) : Prop := r.length ≤ 2 ∧ ∀ x ∈ r, x.1.size ≤ 100 ∧ x.2.2.size ≤ L
def SpN (L : Nat) (n : Nm) : Prop := n.length ≤ 3 ∧ ∀ r ∈ n, SpR L r
theorem at_news2' (w1 : World) (X : Obj) (E : At) : ∀ j u, (atCells E)[j]? = some u → ((w1.alloc X).alloc (.cells #[.string E.1, .int .i64 E.2.1, .string E.2.2] 27)).cell? ((⟨w1.heap.size + 1, 0, none⟩ : Addr).add j) = some u := by
  intro j u h
  have := news_row (w1.alloc X) #[.string E.1, .int .i64 E.2.1, .string E.2.2] 27 j u (by simpa [atCells] using h)
  simpa using this
theorem next3 (p : Nat) (a : Option Addr) (cap : Nat) (zs : List Int) (k : Nat) (w : World) (h : DeckAt w p a cap zs k) (hk2 : k < 1000) :
    Calls Tryz.prog 12 #[.pointer (some ⟨p, 0, none⟩), .int .i64 3] w fun e w' => ∃ r k' : Nat, r < 3 ∧ e = .returned (.int .i64 (r : Int)) ∧ DeckAt w' p a cap zs k' ∧ k' ≤ k + 1 ∧ But p w w' :=
  next_any p a cap zs k 3 w h hk2 (by omega) (by omega)

theorem nmRes2 {fn : Func} {p : Tmp} (h : fn.results = #[.cell p 24]) (tmps : Array Value) (w : World) (G : Nat) (x : Value)
    (hp : tmps.getD p undef = .pointer (some ⟨G, 0, none⟩)) (hg : w.heap[G]? = some (.cells #[x] 24 (0, 0))) :
    (results fn tmps).run Tryz.prog w = .ok (.agg #[x]) w :=
  results_cell_row h tmps w G 24 #[x] (0, 0) _ hp hg Tryz.underlying24 rfl nmSize
theorem match_done {n M : Nm} {j : Nat} (hj : j ≤ n.length) (hM : M.length = j) (h : ∀ q, q < j → MatchR (n.getD q []) (M.getD q [])) : MatchN (n.take j) M := by
  have e : (n.take j).length = j := by rw [List.length_take]; omega
  refine ⟨by rw [e, hM], fun i hi => ?_⟩
  rw [e] at hi
  rw [getD_take _ _ _ hi]
  exact h i hi
theorem match_snoc {n M : Nm} {D : List At} {j : Nat} (hM : M.length = j) (h : ∀ q, q < j → MatchR (n.getD q []) (M.getD q [])) (k : MatchR (n.getD j []) D) : ∀ q, q < j + 1 → MatchR (n.getD q []) ((M ++ [D]).getD q []) := by
  intro q hq
  by_cases hlt : q < j
  · rw [getD_snoc_lt _ _ _ _ (by omega)]; exact h q hlt
  · obtain rfl : q = j := by omega
    subst hM
    rw [getD_snoc_eq]; exact k
theorem sp_snoc {L : Nat} {M : Nm} {D : List At} (h : ∀ r ∈ M, SpR L r) (k : SpR L D) : ∀ r ∈ M ++ [D], SpR L r := by
  intro r hr
  rcases List.mem_append.1 hr with hr | hr
  · exact h r hr
  · obtain rfl := List.mem_singleton.1 hr
    exact k
theorem lit_own (w : World) (B G : Nat) (hG : w.heap.size = G) (hB : B ≤ w.heap.size) (E : At) : OwnA (w.alloc (.cells #[.string E.1, .int .i64 E.2.1, .string E.2.2] 27)) B (.slice (some ⟨G, 0, none⟩) 1 1) [E] := by
  subst hG
  exact World.ownsRow_lit w #[.string E.1, .int .i64 E.2.1, .string E.2.2] 1 hB (by unfold maxLen; omega) rfl
theorem own_cons {w : World} {B : Nat} {v : Value} {b : At} {D : List At} (h : w.ownsRow B 27 3 v (1 + D.length) (atCells b ++ atsCells D)) : OwnA w B v (b :: D) := by
  unfold OwnA
  rw [List.length_cons, Nat.add_comm]
  exact h
theorem own_news {w : World} {B cD : Nat} {aD : Option Addr} {D : List At} (h : OwnA w B (.slice aD D.length cD) D) (hD : 0 < D.length) (X : Obj) :
    ∃ q, aD = some ⟨q, 0, none⟩ ∧ Hid (∀ j u, (atsCells D)[j]? = some u → (w.alloc X).cell? ((⟨q, 0, none⟩ : Addr).add j) = some u) := by
  have hh := h.below (belowNew w X)
  rcases h.2 with ⟨_, h0⟩ | ⟨q, cap, cur, hv, _⟩
  · omega
  · obtain ⟨rfl, rfl⟩ : aD = some ⟨q, 0, none⟩ ∧ cD = cap := by simpa using hv
    refine ⟨q, rfl, Lib.hid fun j u hj => ?_⟩
    have hj2 : j < D.length * 3 := by rw [← atsCells_length]; exact (List.getElem?_eq_some_iff.1 hj).1
    have e := World.ownsRow.cellAt hh j hj2
    rw [hj] at e
    have ea : (⟨q, 0, none⟩ : Addr).add j = ⟨q, j, none⟩ := by
      by_cases h0 : j = 0
      · subst h0; simp [Addr.add]
      · simp [Addr.add, h0]
    rw [ea]
    exact e
theorem sp_cons {L : Nat} {D : List At} {E : At} {S : ByteArray} (h : SpR (L + 1) D) (hl : D.length ≤ 1) (h1 : E.1.size ≤ 100) (h2 : S.size ≤ L + 1) : SpR (L + 1) ((E.1, 12, S) :: D) := by
  refine ⟨by simp; omega, fun x hx => ?_⟩
  rcases List.mem_cons.1 hx with rfl | hx
  · exact ⟨h1, h2⟩
  · exact h.2 x hx
theorem row_at {w : World} {B N c0 : Nat} {a0 : Option Addr} {vs : List Value} (h : w.ownsRow B 33 1 (.slice a0 N c0) N vs) (hl : vs.length = N) (j : Nat) (hj : j < N) :
    ∃ q, a0 = some ⟨q, 0, none⟩ ∧ w.cell? ⟨q, j, none⟩ = some (vs.getD j (.slice none 0 0)) ∧ q < w.heap.size := by
  have hh := h
  rcases h.2 with ⟨_, h0⟩ | ⟨q, cap, cur, hv, _⟩
  · omega
  · obtain ⟨rfl, rfl⟩ : a0 = some ⟨q, 0, none⟩ ∧ c0 = cap := by simpa using hv
    have e : w.cell? ⟨q, j, none⟩ = some (vs.getD j (.slice none 0 0)) := by
      rw [World.ownsRow.cellAt hh j (by omega), List.getD_eq_getElem?_getD, List.getElem?_eq_getElem (by omega)]
      rfl
    exact ⟨q, rfl, e, block_lt e⟩
theorem getD_memS {α : Type} (l : List α) (i : Nat) (h : i < l.length) (d : α) : l.getD i d ∈ l := by
  rw [List.getD_eq_getElem?_getD, List.getElem?_eq_getElem h]
  exact List.getElem_mem h

set_option maxRecDepth 100000 in
set_option maxHeartbeats 4000000 in
theorem spel_any (p : Nat) (a : Option Addr) (cap : Nat) (zs : List Int) (k : Nat) (a0 : Option Addr) (nn c c0 B L : Nat) (n : Nm) (vs : List Value) (w : World) (h : DeckAt w p a cap zs k) (hk : k ≤ 900)
    (h1 : vs.length = n.length) (h2 : w.ownsRow B 33 1 (.slice a0 n.length c0) n.length vs) (h3 : ∀ i, i < n.length → OwnA w B (vs.getD i (.slice none 0 0)) (n.getD i []))
    (hB : p < B) (hnn : nn ≤ n.length) (hs : SpN L n) (hL : L ≤ 100) :
    Calls Tryz.prog 24 #[.pointer (some ⟨p, 0, none⟩), .agg #[.slice a0 nn c]] w fun e w' => ∃ (v : Value) (m : Nm) (k' : Nat), MatchN (n.take nn) m ∧ SpN (L + 1) m ∧ e = .returned v ∧ OwnV w' w.heap.size v m ∧ DeckAt w' p a cap zs k' ∧ k' ≤ k + 6 ∧ But p w w' := by
  obtain ⟨i0, hi, hz0, hz1, hz2⟩ := info_parts rdInfo
  obtain ⟨i1, hi', hy0, hy1, hy2⟩ := info_parts atInfo
  have hp := h.lt
  obtain ⟨g, hg⟩ : ∃ g, g = w.heap.size := ⟨_, rfl⟩
  obtain ⟨W1, hW1⟩ : ∃ W1, W1 = w.alloc (.cells #[.slice a0 nn c] 24) := ⟨_, rfl⟩
  obtain ⟨W0, hW0⟩ : ∃ W0, W0 = (W1.alloc (.cells #[.slice none 0 0] 24)).alloc (.cells #[.slice none 0 0] 24) := ⟨_, rfl⟩
  have hz : W1.heap.size = g + 1 := by rw [hW1, hg]; simp
  have hb0 : Below w.heap.size w W0 := by rw [hW0, hW1]; exact below_next (belowNew w _) (belowTwo _ _ _)
  have HB0 := Lib.hid (But.of (p := p) hb0)
  have HD0 := Lib.hid (h.below hb0)
  have HZ0 := Lib.hid (show W0.heap.size = g + 3 by rw [hW0]; simp [hz])
  have HG0 := Lib.hid (show W0.heap[g + 1]? = some (.cells #[.slice none 0 0] 24 (0, 0)) by
    rw [hW0, ← hz]; exact ((belowNew _ _).block _ (by simp)).trans (heap_alloc_new W1 _))
  have HG1 := Lib.hid (show W0.heap[g + 1 + 1]? = some (.cells #[.slice none 0 0] 24 (0, 0)) by
    have := heap_alloc_new (W1.alloc (.cells #[.slice none 0 0] 24)) (.cells #[.slice none 0 0] 24)
    rw [← hW0] at this
    have e : (W1.alloc (.cells #[.slice none 0 0] 24)).heap.size = g + 1 + 1 := by simp [hz]
    rw [e] at this
    exact this)
  rw [hW1] at hW0
  have HWE := Lib.hid hW0.symm
  have HG := Lib.hid hg
  have hpg : p < g := by rw [hg]; exact hp
  have HV1 := Lib.hid h1
  have HV2 := Lib.hid h2
  have HV3 := Lib.hid h3
  have HS := Lib.hid hs
  have HBB := Lib.hid hB
  have hn3 : nn ≤ 3 := Nat.le_trans hnn hs.1
  clear h h1 h2 h3 hs hW0 hW1 hp hg hb0 hz hB
  go_enter Tryz.func24, Tryz.ntmps24
  go_wp2_with fail
  rw [HWE.out, ← HG.out]
  go_loopw [16] (fun i wr => ∃ (j : Nat) (M : Nm) (V : Value) (k2 : Nat), j ≤ nn ∧ M.length = j ∧ (∀ q, q < j → MatchR (n.getD q []) (M.getD q [])) ∧ (∀ r ∈ M, SpR (L + 1) r) ∧ i = .int .i64 (j : Int) ∧ wr.heap[g + 1]? = some (.cells #[.slice none 0 0] 24 (0, 0)) ∧ wr.heap[g + 1 + 1]? = some (.cells #[V] 24 (0, 0)) ∧ OwnN wr (g + 3) V M ∧ DeckAt wr p a cap zs k2 ∧ k2 ≤ k + 2 * j ∧ But p w wr) (fun i _ => nn - (intOf i).toNat)
  case atStart =>
    exact ⟨0, [], _, k, Nat.zero_le _, rfl, (fun q h => absurd h (Nat.not_lt_zero _)), (fun r h => by cases h), rfl, HG0.out, HG1.out, OwnN.nil _ _, HD0.out, by omega, HB0.out⟩
  case round =>
    obtain ⟨j, M, V, k2, hj, hMj, hm, hsp, rfl, hg0, hg1, hown, hd, hkk, hb⟩ := hrel
    have HMJ := Lib.hid hMj
    have HMM := Lib.hid hm
    have HSP := Lib.hid hsp
    have HG0 := Lib.hid hg0
    have HG1 := Lib.hid hg1
    have HO := Lib.hid hown
    have HD := Lib.hid hd
    have HB := Lib.hid hb
    clear hMj hm hsp hg0 hg1 hown hd hb
    by_cases hjn : j < nn
    · have hdj : decide ((j : Int) < (nn : Int)) = true := by simp; omega
      have ho2 := own_but HV2.out HB.out HBB.out
      obtain ⟨q, rfl, cq, hq⟩ := row_at ho2 HV1.out j (by omega)
      have hA := (HV3.out j (by omega)).but HB.out HBB.out
      obtain ⟨aR, cR, hu, hcR, _⟩ := hA.lies
      rw [hu] at cq hA
      have HSR := Lib.hid (HS.out.2 _ (getD_memS n j (by omega) []))
      generalize hR : n.getD j [] = R at cq hA HSR hu hcR
      have HR := Lib.hid hR
      have HA := Lib.hid hA
      have hR2 : R.length ≤ 2 := HSR.out.1
      clear ho2 hA hu hR
      obtain ⟨wr0, hwr0⟩ : ∃ wr0, wr0 = wr := ⟨_, rfl⟩
      rw [← hwr0] at HA HO HD HB HG0 HG1 cq hq ⊢
      clear hwr0
      have hzz : g + 3 ≤ wr0.heap.size := by have := (Array.getElem?_eq_some_iff.1 HG1.out).1; omega
      go_wp2_with fail
      go_loopw [8, 22] (fun v i ws => ∃ (e : Nat) (D : List At) (u : Value) (k4 : Nat), e ≤ R.length ∧ MatchR (R.take e) D ∧ SpR (L + 1) D ∧ v = u ∧ i = .int .i64 (e : Int) ∧ (e = 0 → u = .slice none 0 0) ∧ OwnA ws wr0.heap.size u D ∧ DeckAt ws p a cap zs k4 ∧ k4 ≤ k2 + e ∧ But p wr0 ws) (fun _ i _ => R.length - (intOf i).toNat)
      case atStart => exact ⟨0, [], _, k2, Nat.zero_le _, MatchR.refl _, ⟨by simp, (fun x h => by cases h)⟩, rfl, rfl, (fun _ => rfl), OwnA.nil _ _, HD.out, by omega, But.refl _ _⟩
      case round =>
        obtain ⟨e, D, u, k4, he, hmr, hsp, rfl, rfl, hz, hown, hd, hk4, hb⟩ := hrel
        have HMR := Lib.hid hmr
        have HSD := Lib.hid hsp
        have HZ := Lib.hid hz
        have HO4 := Lib.hid hown
        have HD4 := Lib.hid hd
        have HB4 := Lib.hid hb
        have hDe : D.length = e := by rw [← hmr.1, List.length_take]; omega
        have hwr := hb.size
        clear hmr hsp hz hown hd hb
        by_cases her : e < R.length
        · have hde : decide ((e : Int) < (R.length : Int)) = true := by simp; omega
          obtain ⟨a3, c3, e3, _, hl3⟩ := (HA.out.but HB4.out HBB.out).lies
          obtain ⟨rfl, rfl⟩ : aR = a3 ∧ cR = c3 := by simpa using e3
          obtain ⟨b, o, rfl, hbx, c0, c1, c2⟩ := hl3.at e her
          have HE := Lib.hid (HSR.out.2 _ (getD_memS R e her noAt))
          have HTK := Lib.hid (takeD R e her noAt)
          generalize R.getD e noAt = E at c0 c1 c2 HE HTK
          clear hl3 e3
          have hpw := HD4.out.lt
          have HE1 := Lib.hid HE.out.1
          have hE2 : E.2.2.size ≤ L := HE.out.2
          go_wp2_with fail
          refine (next3 p a cap zs k4 _ (HD4.out.below (belowTwo wr _ _)) (by omega)).mono ?_
          rintro e' w5 ⟨r, k5, hr, rfl, hd5, hk5, hb5⟩
          have hA5 : w5.heap[wr.heap.size]? = some (.cells #[.string E.1, .int .i64 E.2.1, .string E.2.2] 27 (0, 0)) :=
            (hb5.block _ (by simp; omega) (by simp; omega)).trans (((belowNew _ _).block _ (by simp)).trans (heap_alloc_new wr _))
          have hB5 : w5.heap[wr.heap.size + 1]? = some (.cells #[.string E.1, .int .i64 12, .string E.2.2] 27 (0, 0)) := by
            have h9 := heap_alloc_new (wr.alloc (.cells #[.string E.1, .int .i64 E.2.1, .string E.2.2] 27)) (.cells #[.string E.1, .int .i64 12, .string E.2.2] 27)
            rw [show (wr.alloc (.cells #[.string E.1, .int .i64 E.2.1, .string E.2.2] 27)).heap.size = wr.heap.size + 1 by simp] at h9
            exact (hb5.block _ (by simp) (by simp; omega)).trans h9
          have HDX := Lib.hid hd5
          have HBX := Lib.hid ((But.of (belowTwo wr _ _)).next hb5)
          have hw5 : wr.heap.size + 2 ≤ w5.heap.size := by have := hb5.size; simpa using this
          obtain ⟨x0, x1, x2, fx0, fx1, fx2, hltx⟩ := at_facts hA5
          obtain ⟨y0, y1, y2, fy0, fy1, fy2, hlty⟩ := at_facts hB5
          have HB9 := Lib.hid hB5
          have hk5' : k5 ≤ k4 + 1 := hk5
          clear hd5 hk5 hb5 hA5 hB5 c0 c1 c2
          rcases (by omega : r = 0 ∨ r = 1 ∨ r = 2) with rfl | rfl | rfl
          · have hcat := cat_any ⟨#[32]⟩ E.2.2 (by show 1 + E.2.2.size ≤ _; omega)
            obtain ⟨T, hT⟩ : ∃ T, T = (⟨#[32]⟩ : ByteArray) ++ E.2.2 := ⟨_, rfl⟩
            rw [← hT] at hcat
            have HFT := Lib.hid (show foldS T = foldS E.2.2 by rw [hT]; exact foldS_sp _)
            have HTS := Lib.hid (show T.size ≤ L + 1 by rw [hT, ByteArray.size_append]; show 1 + E.2.2.size ≤ L + 1; omega)
            clear hT
            have hs := But.set (wr.heap.size + 1) 2 w5 (.string T)
            have HBV := Lib.hid (HBX.out.fresh hs (Nat.le_succ _))
            have HDV := Lib.hid (HDX.out.grown hs (fun j e => by obtain rfl := Option.some.inj e; omega))
            clear hs
            have HOV := Lib.hid (HO4.out.but HBV.out (by omega))
            have HLT := Lib.hid (lit_own (w5.setCell ⟨wr.heap.size + 1, 2, none⟩ (.string T)) wr0.heap.size w5.heap.size (by simp) (by have := HBV.out.size; omega) (E.1, 12, T))
            by_cases he0 : e = 0
            · obtain rfl := HZ.out he0
              obtain rfl : D = [] := List.eq_nil_of_length_eq_zero (by omega)
              clear he0
              go_wp2_with (at_builtin; ((refine wpList_append_own_none rfl (.tmp 46) (.tmp 47) 33 rfl wr0.heap.size 27 i1 3 Tryz.underlying33 hi' _ 1 (atCells (E.1, 12, T)) rfl HLT.out rfl ?_)))
              go_roundw
              case rel => exact ⟨e + 1, (E.1, 12, T) :: [], _, k5, her, by rw [HTK.out]; exact matchR_put HMR.out (show (E.1, foldS T) = (E.1, foldS E.2.2) by rw [HFT.out]), sp_cons HSD.out (by omega) HE1.out HTS.out, rfl, by go_num, (fun h => absurd h (Nat.succ_ne_zero e)), HLT.out, HDV.out.below (belowNew _ _), by omega, (HB4.out.next HBV.out).alloc _⟩
              case measure => simp [intOf]; omega
            · obtain ⟨aD, cD, rfl, _, _⟩ := HOV.out.lies
              obtain ⟨qD, rfl, HNW⟩ := own_news HOV.out (by omega) (Obj.cells #[.string E.1, .int .i64 12, .string T] 27)
              have hD2 : D.length ≤ 1 := by omega
              have HDE := Lib.hid hDe
              clear hDe
              go_wp2_with (at_builtin; ((refine wpList_append_own _ rfl (.tmp 46) (.tmp 47) 33 rfl wr0.heap.size 27 i1 (.agg #[.string ⟨#[]⟩, .int .i64 0, .string ⟨#[]⟩]) 3 40 Tryz.underlying33 hi' hy0 hy1 hy2 rfl (by decide) _ 1 (atCells (E.1, 12, T)) rfl HLT.out ⟨qD, 0, none⟩ D.length cD (atsCells D) rfl (atsCells_length D) HNW.out (atsCells_one D) (by unfold maxLen; omega) (by omega) (by have := HBV.out.size; simp; omega) ?_); intro v' w6 hown6 hgr6 _; have P1 := own_cons hown6; have P2 : But p wr0 w6 := World.grownBy.andThen ((HB4.out.next HBV.out).alloc _) hgr6 (fun j e => .inl (World.ownsRow.lt HLT.out j e).1); have P4 := (HDV.out.below (belowNew _ _)).grown hgr6 (fun j e => Nat.lt_of_lt_of_le (show p < wr0.heap.size by omega) (World.ownsRow.lt HLT.out j e).1); have HP1 := Lib.hid P1; have HP2 := Lib.hid P2; have HP4 := Lib.hid P4; clear P1 P2 P4 hown6 hgr6))
              have hDe := HDE.out
              go_roundw
              case rel => exact ⟨e + 1, (E.1, 12, T) :: D, _, k5, her, by rw [HTK.out]; exact matchR_put HMR.out (show (E.1, foldS T) = (E.1, foldS E.2.2) by rw [HFT.out]), sp_cons HSD.out (by omega) HE1.out HTS.out, rfl, by go_num, (fun h => absurd h (Nat.succ_ne_zero e)), HP1.out, HP4.out, by omega, HP2.out⟩
              case measure => simp [intOf]; omega
          · have HLW := Lib.hid (fun W => lower_any E.2.2 W (by omega))
            obtain ⟨T, hT⟩ : ∃ T, T = strOf (E.2.2.data.toList.map small) := ⟨_, rfl⟩
            rw [← hT] at HLW
            have HFT := Lib.hid (show foldS T = foldS E.2.2 by rw [hT]; exact foldS_low _)
            have HTS := Lib.hid (show T.size ≤ L + 1 by rw [hT, strOf_size, List.length_map]; exact Nat.le_trans hE2 (by omega))
            clear hT
            go_wp2_with fail
            refine (HLW.out _).mono ?_
            rintro e' w7 ⟨rfl, hb7⟩
            have hB7 := (hb7.block _ hlty).trans HB9.out
            have HBX := Lib.hid (HBX.out.next (But.of hb7))
            have HDX := Lib.hid (HDX.out.below hb7)
            have hw7 : wr.heap.size + 2 ≤ w7.heap.size := Nat.le_trans hw5 hb7.size
            clear y0 y1 y2 fy0 fy1 fy2 hlty x0 x1 x2 fx0 fx1 fx2 hltx
            obtain ⟨y0, y1, y2, fy0, fy1, fy2, hlty⟩ := at_facts hB7
            clear hb7 hB7
            have hs := But.set (wr.heap.size + 1) 2 w7 (.string T)
            have HBV := Lib.hid (HBX.out.fresh hs (Nat.le_succ _))
            have HDV := Lib.hid (HDX.out.grown hs (fun j e => by obtain rfl := Option.some.inj e; omega))
            clear hs
            have HOV := Lib.hid (HO4.out.but HBV.out (by omega))
            have HLT := Lib.hid (lit_own (w7.setCell ⟨wr.heap.size + 1, 2, none⟩ (.string T)) wr0.heap.size w7.heap.size (by simp) (by have := HBV.out.size; omega) (E.1, 12, T))
            by_cases he0 : e = 0
            · obtain rfl := HZ.out he0
              obtain rfl : D = [] := List.eq_nil_of_length_eq_zero (by omega)
              clear he0
              go_wp2_with (at_builtin; ((refine wpList_append_own_none rfl (.tmp 46) (.tmp 47) 33 rfl wr0.heap.size 27 i1 3 Tryz.underlying33 hi' _ 1 (atCells (E.1, 12, T)) rfl HLT.out rfl ?_)))
              go_roundw
              case rel => exact ⟨e + 1, (E.1, 12, T) :: [], _, k5, her, by rw [HTK.out]; exact matchR_put HMR.out (show (E.1, foldS T) = (E.1, foldS E.2.2) by rw [HFT.out]), sp_cons HSD.out (by omega) HE1.out HTS.out, rfl, by go_num, (fun h => absurd h (Nat.succ_ne_zero e)), HLT.out, HDV.out.below (belowNew _ _), by omega, (HB4.out.next HBV.out).alloc _⟩
              case measure => simp [intOf]; omega
            · obtain ⟨aD, cD, rfl, _, _⟩ := HOV.out.lies
              obtain ⟨qD, rfl, HNW⟩ := own_news HOV.out (by omega) (Obj.cells #[.string E.1, .int .i64 12, .string T] 27)
              have hD2 : D.length ≤ 1 := by omega
              have HDE := Lib.hid hDe
              clear hDe
              go_wp2_with (at_builtin; ((refine wpList_append_own _ rfl (.tmp 46) (.tmp 47) 33 rfl wr0.heap.size 27 i1 (.agg #[.string ⟨#[]⟩, .int .i64 0, .string ⟨#[]⟩]) 3 40 Tryz.underlying33 hi' hy0 hy1 hy2 rfl (by decide) _ 1 (atCells (E.1, 12, T)) rfl HLT.out ⟨qD, 0, none⟩ D.length cD (atsCells D) rfl (atsCells_length D) HNW.out (atsCells_one D) (by unfold maxLen; omega) (by omega) (by have := HBV.out.size; simp; omega) ?_); intro v' w6 hown6 hgr6 _; have P1 := own_cons hown6; have P2 : But p wr0 w6 := World.grownBy.andThen ((HB4.out.next HBV.out).alloc _) hgr6 (fun j e => .inl (World.ownsRow.lt HLT.out j e).1); have P4 := (HDV.out.below (belowNew _ _)).grown hgr6 (fun j e => Nat.lt_of_lt_of_le (show p < wr0.heap.size by omega) (World.ownsRow.lt HLT.out j e).1); have HP1 := Lib.hid P1; have HP2 := Lib.hid P2; have HP4 := Lib.hid P4; clear P1 P2 P4 hown6 hgr6))
              have hDe := HDE.out
              go_roundw
              case rel => exact ⟨e + 1, (E.1, 12, T) :: D, _, k5, her, by rw [HTK.out]; exact matchR_put HMR.out (show (E.1, foldS T) = (E.1, foldS E.2.2) by rw [HFT.out]), sp_cons HSD.out (by omega) HE1.out HTS.out, rfl, by go_num, (fun h => absurd h (Nat.succ_ne_zero e)), HP1.out, HP4.out, by omega, HP2.out⟩
              case measure => simp [intOf]; omega
          · have HES := Lib.hid (Nat.le_trans hE2 (Nat.le_succ L))
            have HBV := HBX
            have HDV := HDX
            have HOV := Lib.hid (HO4.out.but HBV.out (by omega))
            have HLT := Lib.hid (lit_own w5 wr0.heap.size w5.heap.size (by simp) (by have := HBV.out.size; omega) (E.1, 12, E.2.2))
            by_cases he0 : e = 0
            · obtain rfl := HZ.out he0
              obtain rfl : D = [] := List.eq_nil_of_length_eq_zero (by omega)
              clear he0
              go_wp2_with (at_builtin; ((refine wpList_append_own_none rfl (.tmp 46) (.tmp 47) 33 rfl wr0.heap.size 27 i1 3 Tryz.underlying33 hi' _ 1 (atCells (E.1, 12, E.2.2)) rfl HLT.out rfl ?_)))
              go_roundw
              case rel => exact ⟨e + 1, (E.1, 12, E.2.2) :: [], _, k5, her, by rw [HTK.out]; exact matchR_put HMR.out (show (E.1, foldS E.2.2) = (E.1, foldS E.2.2) from rfl), sp_cons HSD.out (by omega) HE1.out HES.out, rfl, by go_num, (fun h => absurd h (Nat.succ_ne_zero e)), HLT.out, HDV.out.below (belowNew _ _), by omega, (HB4.out.next HBV.out).alloc _⟩
              case measure => simp [intOf]; omega
            · obtain ⟨aD, cD, rfl, _, _⟩ := HOV.out.lies
              obtain ⟨qD, rfl, HNW⟩ := own_news HOV.out (by omega) (Obj.cells #[.string E.1, .int .i64 12, .string E.2.2] 27)
              have hD2 : D.length ≤ 1 := by omega
              have HDE := Lib.hid hDe
              clear hDe
              go_wp2_with (at_builtin; ((refine wpList_append_own _ rfl (.tmp 46) (.tmp 47) 33 rfl wr0.heap.size 27 i1 (.agg #[.string ⟨#[]⟩, .int .i64 0, .string ⟨#[]⟩]) 3 40 Tryz.underlying33 hi' hy0 hy1 hy2 rfl (by decide) _ 1 (atCells (E.1, 12, E.2.2)) rfl HLT.out ⟨qD, 0, none⟩ D.length cD (atsCells D) rfl (atsCells_length D) HNW.out (atsCells_one D) (by unfold maxLen; omega) (by omega) (by have := HBV.out.size; simp; omega) ?_); intro v' w6 hown6 hgr6 _; have P1 := own_cons hown6; have P2 : But p wr0 w6 := World.grownBy.andThen ((HB4.out.next HBV.out).alloc _) hgr6 (fun j e => .inl (World.ownsRow.lt HLT.out j e).1); have P4 := (HDV.out.below (belowNew _ _)).grown hgr6 (fun j e => Nat.lt_of_lt_of_le (show p < wr0.heap.size by omega) (World.ownsRow.lt HLT.out j e).1); have HP1 := Lib.hid P1; have HP2 := Lib.hid P2; have HP4 := Lib.hid P4; clear P1 P2 P4 hown6 hgr6))
              have hDe := HDE.out
              go_roundw
              case rel => exact ⟨e + 1, (E.1, 12, E.2.2) :: D, _, k5, her, by rw [HTK.out]; exact matchR_put HMR.out (show (E.1, foldS E.2.2) = (E.1, foldS E.2.2) from rfl), sp_cons HSD.out (by omega) HE1.out HES.out, rfl, by go_num, (fun h => absurd h (Nat.succ_ne_zero e)), HP1.out, HP4.out, by omega, HP2.out⟩
              case measure => simp [intOf]; omega
        · have hde : decide ((e : Int) < (R.length : Int)) = false := by simp; omega
          have hee : e = R.length := by omega
          have h0 := (HB4.out.block (g + 1) (Array.getElem?_eq_some_iff.1 HG0.out).1 (by simp; omega)).trans HG0.out
          have h1 := (HB4.out.block (g + 1 + 1) (Array.getElem?_eq_some_iff.1 HG1.out).1 (by simp; omega)).trans HG1.out
          have HON := Lib.hid (HO.out.but HB4.out (by omega))
          obtain ⟨aD, cD, rfl, _, _⟩ := HO4.out.lies
          obtain ⟨aV, cV, rfl, hcV, _⟩ := HON.out.lies
          obtain ⟨d1, f1, hl1⟩ := one_facts h1
          have HH0 := Lib.hid h0
          have HH1 := Lib.hid h1
          obtain ⟨us, hv1, hv2, hv3⟩ := HON.out
          have HU1 := Lib.hid hv1
          have HU2 := Lib.hid hv2
          have HU3 := Lib.hid hv3
          have HBC := Lib.hid (HB.out.next HB4.out)
          have HMR2 := Lib.hid (show MatchR R D by have h := HMR.out; rw [hee, List.take_length] at h; exact h)
          have hMl : M.length ≤ 3 := by rw [HMJ.out]; omega
          clear h0 h1 hv1 hv2 hv3 hee hDe
          go_wp2_with (at_builtin; ((refine wpList_append_own _ rfl (.tmp 51) (.tmp 53) 22 rfl (g + 3) 33 i0 (.slice none 0 0) 1 24 Tryz.underlying22 hi hz0 hz1 hz2 rfl (by decide) _ M.length us rfl (HU2.out.alloc _) ⟨wr.heap.size, 0, none⟩ 1 1 [.slice aD D.length cD] rfl rfl (row_news wr _ _) (one_one _ _ _) (by unfold maxLen; omega) (by omega) (by simp; omega) ?_); intro v' w6 hown6 hgr6 _; have P0 := more_box HH0.out (show g + 1 < g + 3 by omega) HU2.out hgr6; have P1 := more_box HH1.out (show g + 1 + 1 < g + 3 by omega) HU2.out hgr6; have P2 := but_row HBC.out (belowNew wr _) HU2.out (by rw [← HG.out]; omega) hgr6; have P3 := OwnN.snoc HU1.out (own_below HU2.out (belowNew wr _)) (fun i hi => (HU3.out i hi).below (belowNew wr _)) ((HO4.out.base hzz).below (belowNew wr _)) hgr6 hown6; have P4 := (HD4.out.below (belowNew wr _)).grown hgr6 (fun j e => Nat.lt_of_lt_of_le (show p < g + 3 by omega) (World.ownsRow.lt HU2.out j e).1); obtain ⟨a6, c6, hv6, _, _⟩ := P3.lies; rw [List.length_append, List.length_singleton] at hv6; subst hv6; obtain ⟨s0, t0, hltq⟩ := one_facts P1; have HP0 := Lib.hid P0; have HP1 := Lib.hid P1; have HP2 := Lib.hid P2; have HP3 := Lib.hid P3; have HP4 := Lib.hid P4; clear P0 P1 P2 P3 P4 hown6 hgr6))
          have hs := But.set (g + 1 + 1) 0 w6 (.slice a6 (M.length + 1) c6)
          go_roundw
          case rel => exact ⟨j + 1, M ++ [D], _, k4, by omega, by rw [List.length_append, HMJ.out]; rfl, match_snoc HMJ.out HMM.out (HR.out ▸ HMR2.out), sp_snoc HSP.out HSD.out, by go_num, (hs.block (g + 1) (by omega) (by simp)).trans HP0.out, one_set HP1.out, HP3.out.but (p := g + 1 + 1) hs (by omega), HP4.out.grown hs (fun j e => by obtain rfl := Option.some.inj e; omega), by omega, HP2.out.fresh hs (by rw [← HG.out]; omega)⟩
          case measure => simp [intOf]; omega
    · have hdj : decide ((j : Int) < (nn : Int)) = false := by simp; omega
      obtain ⟨av, cv, rfl, _, _⟩ := HO.out.lies
      obtain ⟨c0, f0, _⟩ := one_facts HG0.out
      obtain ⟨c1, f1, _⟩ := one_facts HG1.out
      have hs := But.set (g + 1) 0 wr (.slice av M.length cv)
      have e : j = nn := by omega
      go_wp2_with fail
      exact bodyPost_ret (nmRes2 rfl _ _ (g + 1) _ rfl (one_set HG0.out)) rfl ⟨_, M, k2, e ▸ match_done (by omega) HMJ.out HMM.out, ⟨by rw [HMJ.out]; omega, HSP.out⟩, rfl, ⟨_, rfl, (HO.out.but (p := g + 1) hs (by omega)).base (by rw [← HG.out]; omega)⟩, HD.out.grown hs (fun j e => by obtain rfl := Option.some.inj e; omega), by omega, HB.out.fresh hs (by rw [← HG.out]; omega)⟩
end Go.Proofs.YtfpfgdbfigdooaaGreatDoor
