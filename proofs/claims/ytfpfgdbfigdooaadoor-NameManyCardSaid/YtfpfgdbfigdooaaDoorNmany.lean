/-
  The walk of the law NameMany: for every three bytes it returns true, and leaves all that was there as it was.
-/
import Derived.Test.YtfpfgdbfigdooaaDoorNawake
import Derived.Test.YtfpfgdbfigdooaaDoorNrchk2
import Derived.Test.YtfpfgdbfigdooaaDoorOdecno
import Derived.Lib.QuietBelow
import Derived.BigQuiet
namespace Go.Proofs.YtfpfgdbfigdooaaDoor
open Go.RowKit

theorem row_news2 (w1 : World) (X : Obj) (v : Value) (T : TypeId) : ∀ j u, [v][j]? = some u → ((w1.alloc X).alloc (.cells #[v] T)).cell? ((⟨w1.heap.size + 1, 0, none⟩ : Addr).add j) = some u := by
  intro j u h
  have := news_row (w1.alloc X) #[v] T j u (by simpa using h)
  simpa using this
theorem own_lit1 (w : World) (B : Nat) (hB : B ≤ w.heap.size) (t v : ByteArray) (k : Int) : OwnA (w.alloc (.cells #[.string t, .int .i64 k, .string v] 26)) B (.slice (some ⟨w.heap.size, 0, none⟩) 1 1) [(t, k, v)] :=
  World.ownsRow_lit w #[.string t, .int .i64 k, .string v] 1 hB (by unfold maxLen; omega) rfl
theorem small_snoc {D : Nm} (h : SmallN D) (hl : D.length < 1000000) {r : List At} (hr : SmallR r) : SmallN (D ++ [r]) := by
  refine ⟨by rw [List.length_append]; simp; omega, fun i hi => ?_⟩
  rw [List.length_append, List.length_singleton] at hi
  by_cases hlt : i < D.length
  · rw [getD_snoc_lt _ _ _ _ hlt]; exact h.2 i hlt
  · obtain rfl : i = D.length := by omega
    rw [getD_snoc_eq]; exact hr
theorem small_one {t v : ByteArray} {k : Int} (h1 : t.size ≤ 1000000) (h2 : v.size ≤ 1000000) : SmallR [(t, k, v)] :=
  ⟨by simp, fun i hi => by
    obtain rfl : i = 0 := by simpa using hi
    exact ⟨h1, h2⟩⟩

theorem more_box2 {wr w1 w2 : World} {p B n k : Nat} {x v : Value} {T e : TypeId} {xs : List Value} (h : wr.heap[p]? = some (.cells #[x] T (0, 0))) (hp : p < B) (ho : wr.ownsRow B e k v n xs) (hb1 : Below wr.heap.size wr w1) (hg : w1.grownBy w2 v.ownBlock) : w2.heap[p]? = some (.cells #[x] T (0, 0)) := by
  have hl : p < wr.heap.size := (Array.getElem?_eq_some_iff.1 h).1
  refine (hg.block p (Nat.lt_of_lt_of_le hl hb1.size) (fun e => ?_)).trans ((hb1.block p hl).trans h)
  have := (World.ownsRow.lt ho p e.symm).1
  omega
theorem more_but2 {W0 wr w1 w2 : World} {p B n k : Nat} {v : Value} {e : TypeId} {xs : List Value} (hb : But p W0 wr) (hb1 : Below wr.heap.size wr w1) (ho : wr.ownsRow B e k v n xs) (hB : W0.heap.size ≤ B) (hg : w1.grownBy w2 v.ownBlock) : But p W0 w2 :=
  World.grownBy.andThen (hb.next (But.of hb1)) hg (fun j e => .inl (Nat.le_trans hB (World.ownsRow.lt ho j e).1))
theorem ats_news1 (w1 : World) (t v : ByteArray) (k : Int) : ∀ j u, (atCells (t, k, v))[j]? = some u → (w1.alloc (.cells #[.string t, .int .i64 k, .string v] 26)).cell? ((⟨w1.heap.size, 0, none⟩ : Addr).add j) = some u := by
  intro j u h
  exact news_row w1 #[.string t, .int .i64 k, .string v] 26 j u (by simpa [atCells] using h)
theorem small_snocR {D : List At} (h : SmallR D) (hl : D.length < 1000000) {a : At} (ha : SmallA a) : SmallR (D ++ [a]) := by
  refine ⟨by rw [List.length_append]; simp; omega, fun i hi => ?_⟩
  rw [List.length_append, List.length_singleton] at hi
  by_cases hlt : i < D.length
  · rw [getD_snoc_lt _ _ _ _ hlt]; exact h.2 i hlt
  · obtain rfl : i = D.length := by omega
    rw [getD_snoc_eq]; exact ha
theorem step_append_at {P : Program} {ops : Array Oper} {o : Oper} {a : Act} {w : World} {K : Act → World → Prop} {Q : Exit → Act → World → Prop} {E : Prop} (hgd : o.guard = none) (s x : Operand) (t : TypeId)
    (ho : o.op = .call { callee := .builtin .append, args := #[s, x], argTypes := #[t, t] })
    (base : Nat) (e : TypeId) (i : TypeInfo) (z : Value) (k bytes : Nat) (ht : P.underlying t = some (.slice e)) (hi : P.info? e = some i) (hz : i.zero = some z)
    (hsize : i.size = k) (hby : i.bytes = bytes) (hzs : z.cells.size = k) (hk : 0 < k)
    (v : Value) (n : Nat) (xs : List Value) (hs : a.eval s = v) (hown : w.ownsRow base e k v n xs)
    (ad : Addr) (m c : Nat) (news : List Value) (hx : a.eval x = .slice (some ad) m c) (hl : news.length = m * k) (hnews : ∀ j u, news[j]? = some u → w.cell? (ad.add j) = some u) (h1 : ∀ u ∈ news, u.oneCell' = true)
    (h63 : n + m ≤ maxLen) (hbytes : (n + m) * bytes ≤ 140737488355328) (hbase : base ≤ w.heap.size)
    (h : ∀ v' w', w'.ownsRow base e k v' (n + m) (xs ++ news) → w.grownBy w' v.ownBlock → (v' = .slice none 0 0 ↔ v = .slice none 0 0 ∧ m = 0) → K (a.put o.dst v') w') :
    if Region.wanted o (yielded ops a.tmps) = true then Oper.wp P o a w K Q else E := by
  have hw : Region.wanted o (yielded ops a.tmps) = true := by simp [Region.wanted, hgd]
  rw [if_pos hw]
  exact wp_append_own w s x t ho base e i z k bytes ht hi hz hsize hby hzs hk v n xs hs hown ad m c news hx hl hnews h1 h63 hbytes hbase h

set_option maxRecDepth 100000 in
set_option maxHeartbeats 8000000 in
theorem manylaw (a b c : Nat) (w : World) (hT : Tab w) (hS : ShT w) :
    Calls Tryd.prog 3 #[.int .u8 (a : Int), .int .u8 (b : Int), .int .u8 (c : Int)] w fun e w' => e = .returned (.bool true) ∧ Below w.heap.size w w' := by
  obtain ⟨i0, hi, hz0, hz1, hz2⟩ := info_parts rdInfo
  obtain ⟨x, hx, hx6⟩ : ∃ x : Nat, (a : Int) % 6 = (x : Int) ∧ x < 6 := ⟨a % 6, by omega, by omega⟩
  obtain ⟨y, hy, hy7⟩ : ∃ y : Nat, (b : Int) % 7 = (y : Int) ∧ y < 7 := ⟨b % 7, by omega, by omega⟩
  obtain ⟨z, hz, hz8⟩ : ∃ z : Nat, (c : Int) % 8 = (z : Int) ∧ z < 8 := ⟨c % 8, by omega, by omega⟩
  obtain ⟨p, hp⟩ : ∃ p, p = w.heap.size := ⟨_, rfl⟩
  have hp3 : w.heap.size = p := hp.symm
  have HT := Lib.hid hT
  have HS := Lib.hid hS
  have HP := Lib.hid hp
  obtain ⟨W0, hW0⟩ : ∃ W0, W0 = w.alloc (.cells #[.slice none 0 0] 24) := ⟨_, rfl⟩
  have HWE := Lib.hid (show w.alloc (.cells #[.slice none 0 0] 24) = W0 from hW0.symm)
  have HZ0 := Lib.hid (show W0.heap.size = p + 1 by rw [hW0]; simp [hp3])
  have HQ0 := Lib.hid (show W0.heap[p]? = some (.cells #[.slice none 0 0] 24 (0, 0)) by rw [hW0, ← hp3]; exact heap_alloc_new w _)
  have HB0 := Lib.hid (show Below w.heap.size w W0 by rw [hW0]; exact belowNew w _)
  clear hT hS hp hW0
  go_enter Tryd.func3, Tryd.ntmps3
  go_wp2_with fail
  go_loopw [8] (fun i wr => ∃ (k : Nat) (D : Nm) (v : Value), k ≤ 5 + x ∧ D.length = k ∧ SmallN D ∧ i = .int .i64 k ∧ wr.heap[p]? = some (.cells #[v] 24 (0, 0)) ∧ OwnN wr W0.heap.size v D ∧ But p W0 wr) (fun i _ => 5 + x - (intOf i).toNat)
  case atStart => rw [HWE.out]; exact ⟨0, [], _, Nat.zero_le _, rfl, small_nil, rfl, HQ0.out, OwnN.nil _ _, But.refl _ _⟩
  case round =>
    obtain ⟨k, D, v, hk, hDk, hsm, rfl, hbx, hown, hb⟩ := hrel
    have HB := Lib.hid hb
    have HO := Lib.hid hown
    have HDK := Lib.hid hDk
    have HBX := Lib.hid hbx
    have HSM := Lib.hid hsm
    clear hb hown hDk hbx hsm
    obtain ⟨av, cv, rfl, hcv, _⟩ := HO.out.lies
    obtain ⟨c0, f0, hltp⟩ := one_facts HBX.out
    by_cases hlt : k < 5 + x
    · have hd : decide ((k : Int) < 5 + (x : Int)) = true := by simp; omega
      obtain ⟨vs, hv1, hv2, hv3⟩ := HO.out
      have HV1 := Lib.hid hv1
      have HV2 := Lib.hid hv2
      have HV3 := Lib.hid hv3
      clear hv1 hv2 hv3
      go_wp2_with (at_builtin; (refine wpList_append_own _ rfl (.tmp 26) (.tmp 29) 22 rfl W0.heap.size 27 i0 (.slice none 0 0) 1 24 Tryd.underlying22 hi hz0 hz1 hz2 rfl (by decide) _ D.length vs rfl ((HV2.out.alloc _).alloc _) ⟨wr.heap.size + 1, 0, none⟩ 1 1 [.slice (some ⟨wr.heap.size, 0, none⟩) 1 1] rfl rfl (row_news2 wr _ _ _) (one_one _ _ _) (by have := HDK.out; unfold maxLen; omega) (by have := HDK.out; omega) (by have := HB.out.size; simp; omega) ?_); intro v' w2 hown2 hgr2 _; have hb2 := belowTwo wr (.cells #[.string ⟨#[50, 46, 53, 46, 52, 46, 51]⟩, .int .i64 19, .string ⟨#[120]⟩] 26) (.cells #[.slice (some ⟨wr.heap.size, 0, none⟩) 1 1] 27); have hq2 := more_box2 HBX.out (show p < W0.heap.size by rw [HZ0.out]; omega) HV2.out hb2 hgr2; have P1 := OwnN.snoc HV1.out (own_below HV2.out hb2) (fun i hi => (HV3.out i hi).below hb2) ((own_lit1 wr W0.heap.size HB.out.size ⟨#[50, 46, 53, 46, 52, 46, 51]⟩ ⟨#[120]⟩ 19).below (belowNew _ _)) hgr2 hown2; have P2 := more_but2 HB.out hb2 HV2.out (Nat.le_refl _) hgr2; obtain ⟨s0, t0, hltq⟩ := one_facts hq2; obtain ⟨av2, cv2, hv2', _, _⟩ := P1.lies; rw [List.length_append, List.length_singleton] at hv2'; rw [hv2'] at P1 ⊢; have HP1 := Lib.hid P1; have HP2 := Lib.hid P2; have HQ2 := Lib.hid hq2; clear hq2 P1 P2 hown2 hgr2 hv2' hb2)
      go_roundw
      case rel => exact ⟨k + 1, D ++ [[(⟨#[50, 46, 53, 46, 52, 46, 51]⟩, 19, ⟨#[120]⟩)]], _, by omega, by rw [List.length_append, HDK.out]; rfl, small_snoc HSM.out (by have := HDK.out; omega) (small_one (by decide) (by decide)), by go_num, one_set HQ2.out, HP1.out.but (p := p) (But.set p 0 _ _) (show p < W0.heap.size by rw [HZ0.out]; omega), HP2.out.next (But.set _ _ _ _)⟩
      case measure => simp [intOf]; omega
    · have hd : decide ((k : Int) < 5 + (x : Int)) = false := by simp; omega
      go_wp2_with fail
      clear hx
      have HBwr := Lib.hid (show Below w.heap.size w wr from HB0.out.trans ((HB.out.below (by rw [HZ0.out]; omega)).mono (by omega)))
      obtain ⟨W1, hW1⟩ : ∃ W1, W1 = (wr.alloc (.cells #[.slice none 0 0] 27)).alloc (.cells #[.slice (some ⟨wr.heap.size, 0, none⟩) 1 1] 24) := ⟨_, rfl⟩
      rw [← hW1]
      have hb1 := belowTwo wr (.cells #[.slice none 0 0] 27) (.cells #[.slice (some ⟨wr.heap.size, 0, none⟩) 1 1] 24)
      rw [← hW1] at hb1
      have hq0 : W1.heap[wr.heap.size]? = some (.cells #[.slice none 0 0] 27 (0, 0)) := by
        rw [hW1]; exact ((belowNew _ _).block _ (by simp)).trans (heap_alloc_new wr _)
      have hq1 : W1.heap[wr.heap.size + 1]? = some (.cells #[.slice (some ⟨wr.heap.size, 0, none⟩) 1 1] 24 (0, 0)) := by
        have := heap_alloc_new (wr.alloc (.cells #[.slice none 0 0] 27)) (.cells #[.slice (some ⟨wr.heap.size, 0, none⟩) 1 1] 24)
        rw [← hW1] at this
        simpa using this
      have hz1' : W1.heap.size = wr.heap.size + 2 := by rw [hW1]; simp
      obtain ⟨V0, hV0⟩ : ∃ V0, V0 = wr := ⟨_, rfl⟩
      have HV0 := Lib.hid (show V0.heap.size = wr.heap.size by rw [hV0])
      have HV1 := Lib.hid (show Below wr.heap.size V0 W1 by rw [hV0]; exact hb1)
      have HNB := Lib.hid ((hb1.block p hltp).trans HBX.out)
      have HNL := Lib.hid (show RLies V0 av D from by
        rw [hV0]
        have e := HO.out.lies
        obtain ⟨a3, c3, e1, _, e2⟩ := e
        obtain ⟨rfl, rfl⟩ : av = a3 ∧ cv = c3 := by simpa using e1
        exact e2)
      have HBw1 := Lib.hid (below_next HBwr.out hb1)
      have hpq : p < wr.heap.size := hltp
      have hpw : w.heap.size ≤ wr.heap.size := by omega
      have hv0 := HV0.out
      have hv1 := HV1.out
      clear hb1 hW1 HBX HO c0 f0 hltp HV0 HV1 hV0
      generalize wr.heap.size = q at hq0 hq1 hz1' hpq hpw hv0 hv1 ⊢
      have HV0 := Lib.hid hv0
      have HV1 := Lib.hid hv1
      clear hv0 hv1
      obtain ⟨N, hN⟩ : ∃ N, N = D.length := ⟨_, rfl⟩
      rw [← hN] at HNB hcv
      have HNN := Lib.hid hN
      have HQ0' := Lib.hid hq0
      have HQ1' := Lib.hid hq1
      have HZ1 := Lib.hid hz1'
      clear hq0 hq1 hz1' HDK HB HBwr hN
      go_loopw [10] (fun i ws => ∃ (k : Nat) (D2 : List At) (v : Value), k ≤ y ∧ D2.length = k ∧ SmallR D2 ∧ i = .int .i64 k ∧ ws.heap[q]? = some (.cells #[v] 27 (0, 0)) ∧ OwnA ws W1.heap.size v D2 ∧ But q W1 ws) (fun i _ => y - (intOf i).toNat)
      case atStart => exact ⟨0, [], _, Nat.zero_le _, rfl, ⟨by decide, fun i hi => absurd hi (Nat.not_lt_zero _)⟩, rfl, HQ0'.out, OwnA.nil _ _, But.refl _ _⟩
      case round =>
        obtain ⟨k2, D2, v, hk2, hDk, hsm, rfl, hbx, hown, hb⟩ := hrel
        have HB := Lib.hid hb
        have HO := Lib.hid hown
        have HDK := Lib.hid hDk
        have HBX := Lib.hid hbx
        have HSM2 := Lib.hid hsm
        have h9 := (hb.block (q + 1) (by rw [HZ1.out]; omega) (by simp)).trans HQ1'.out
        have H9 := Lib.hid h9
        clear hb hown hDk hbx hsm
        obtain ⟨av2, cv2, rfl, hcv2, _⟩ := HO.out.lies
        obtain ⟨c0, f0, hltp⟩ := one_facts HBX.out
        obtain ⟨c9, f9, hlt9⟩ := one_facts h9
        clear h9
        obtain ⟨i1, hi', hy0, hy1, hy2⟩ := info_parts atInfo
        by_cases hlt2 : k2 < y
        · have hd2 : decide ((k2 : Int) < (y : Int)) = true := by simp; omega
          have HDEC := Lib.hid (fun W => decno_any k2 W (by omega))
          obtain ⟨s, hs⟩ : ∃ s, s = strOf (Lib.decDigits k2) := ⟨_, rfl⟩
          rw [← hs] at HDEC
          have hsz : s.size = 1 := by rw [hs, strOf_size, dd1 (by omega)]; rfl
          have hcat := cat_any ⟨#[50, 46, 53, 46, 52, 46]⟩ s (by show 6 + s.size ≤ _; omega)
          obtain ⟨T, hT⟩ : ∃ T, T = (⟨#[50, 46, 53, 46, 52, 46]⟩ : ByteArray) ++ s := ⟨_, rfl⟩
          rw [← hT] at hcat
          have HTZ := Lib.hid (show T.size ≤ 1000000 by rw [hT, ByteArray.size_append, hsz]; decide)
          clear hs hT hsz
          go_wp2_with fail
          go_region_law (first
            | (go_simp; go_at_call 7; (with_reducible refine (HDEC.out _).mono ?_); rintro e w1 ⟨rfl, hb1⟩; have c0' := (hb1.cell (p := ⟨q, 0, none⟩) hltp).trans c0; have c9' := (hb1.cell (p := ⟨q + 1, 0, none⟩) hlt9).trans c9; have HB1 := Lib.hid ((Below.refl wr.heap.size wr).drew.trans hb1); have hltA : q < w1.heap.size := block_lt c0'; have hltB : q + 1 < w1.heap.size := block_lt c9'; clear hb1)
            | (refine step_append_at rfl (.tmp 46) (.tmp 51) 27 rfl W1.heap.size 26 i1 (.agg #[.string ⟨#[]⟩, .int .i64 0, .string ⟨#[]⟩]) 3 40 Tryd.underlying27 hi' hy0 hy1 hy2 rfl (by decide) (.slice av2 D2.length cv2) D2.length (atsCells D2) (by simp [Act.eval]) ((own_below HO.out HB1.out).alloc _) ⟨w1.heap.size, 0, none⟩ 1 1 (atCells (T, 12, ⟨#[121]⟩)) (by simp [Act.eval]) rfl (ats_news1 w1 T ⟨#[121]⟩ 12) (atCells_one _) (by have := HDK.out; unfold maxLen; omega) (by have := HDK.out; omega) (by have := HB.out.size; have := HB1.out.size; simp; omega) ?_; intro v' w2 hown2 hgr2 _; have hb2 := below_next HB1.out (belowNew w1 (.cells #[.string T, .int .i64 12, .string ⟨#[121]⟩] 26)); have hq2 := more_box2 HBX.out (show q < W1.heap.size by rw [HZ1.out]; omega) HO.out hb2 hgr2; have hq9 := more_box2 H9.out (show q + 1 < W1.heap.size by rw [HZ1.out]; omega) HO.out hb2 hgr2; have P2 := more_but2 HB.out hb2 HO.out (Nat.le_refl _) hgr2; have P1 : OwnA w2 W1.heap.size v' (D2 ++ [(T, 12, ⟨#[121]⟩)]) := (by unfold OwnA; rw [List.length_append, atsCells_snoc]; exact hown2); obtain ⟨s0, t0, hltq⟩ := one_facts hq2; obtain ⟨s9, t9, hltq9⟩ := one_facts hq9; obtain ⟨av3, cv3, hv3, _, _⟩ := P1.lies; rw [List.length_append, List.length_singleton] at hv3; rw [hv3] at P1 ⊢; have HP1 := Lib.hid P1; have HP2 := Lib.hid P2; have HQ2 := Lib.hid hq2; clear hq2 hq9 P1 P2 hown2 hgr2 hv3 hb2))
          all_goals
            go_wp2_with fail
            go_roundw
            case rel => exact ⟨k2 + 1, D2 ++ [(T, 12, ⟨#[121]⟩)], _, by omega, by rw [List.length_append, HDK.out]; rfl, small_snocR HSM2.out (by have := HDK.out; omega) ⟨HTZ.out, show (⟨#[121]⟩ : ByteArray).size ≤ 1000000 by decide⟩, by go_num, one_set HQ2.out, HP1.out.but (p := q) (But.set q 0 _ _) (show q < W1.heap.size by rw [HZ1.out]; omega), HP2.out.next (But.set _ _ _ _)⟩
            case measure => simp [intOf]; omega
        · have hd2 : decide ((k2 : Int) < (y : Int)) = false := by simp; omega
          have HBQ := Lib.hid (show Below V0.heap.size V0 wr by rw [HV0.out]; exact HV1.out.trans (HB.out.below (by rw [HZ1.out]; omega)))
          have HN2 := Lib.hid (HNL.out.below HBQ.out)
          have HM2 := Lib.hid (show RLies wr (some ⟨q, 0, none⟩) [D2] from .inr ⟨q, 0, rfl, fun i hi => by
            obtain rfl : i = 0 := by simpa using hi
            obtain ⟨a3, c3, e1, e3, e2⟩ := HO.out.lies
            obtain ⟨rfl, rfl⟩ : av2 = a3 ∧ cv2 = c3 := by simpa using e1
            exact ⟨av2, cv2, c0, e3, e2⟩⟩)
          have HBW := Lib.hid (show Below w.heap.size w wr from HBw1.out.trans ((HB.out.below (by rw [HZ1.out]; omega)).mono hpw))
          have hnb := (HB.out.block p (by rw [HZ1.out]; omega) (by simp; omega)).trans HNB.out
          obtain ⟨cn, fn, hltn⟩ := one_facts hnb
          have HSM1 := Lib.hid HSM.out
          go_wp2_with fail
          obtain ⟨W2, hW2⟩ : ∃ W2, W2 = wr := ⟨_, rfl⟩
          rw [← hW2] at HN2 HM2 HBW c9 cn hlt9 hltn ⊢
          clear hnb c0 f0 hltp fn f9 HBX H9 HO HB hW2 HBQ
          go_loopw [11, 12] (fun v i ws => ∃ (k : Nat) (s : ByteArray), k ≤ 60 + z ∧ s.size = k ∧ v = .string s ∧ i = .int .i64 k ∧ ws = W2) (fun _ i _ => 60 + z - (intOf i).toNat)
          case atStart => exact ⟨0, ⟨#[]⟩, Nat.zero_le _, rfl, rfl, rfl, by first | trivial | rfl⟩
          case round =>
            obtain ⟨k3, s, hk3, hsk, rfl, rfl, rfl⟩ := hrel
            by_cases hlt3 : k3 < 60 + z
            · have hd3 : decide ((k3 : Int) < 60 + (z : Int)) = true := by simp; omega
              have hcat := cat_any s ⟨#[122]⟩ (by show s.size + 1 ≤ _; omega)
              obtain ⟨T, hT⟩ : ∃ T, T = s ++ (⟨#[122]⟩ : ByteArray) := ⟨_, rfl⟩
              rw [← hT] at hcat
              have HTK := Lib.hid (show T.size = k3 + 1 by rw [hT, ByteArray.size_append, hsk]; rfl)
              clear hT
              go_wp2_with fail
              go_roundw
              case rel => exact ⟨k3 + 1, T, by omega, HTK.out, rfl, by go_num, by first | trivial | rfl⟩
              case measure => simp [intOf]; omega
            · have hd3 : decide ((k3 : Int) < 60 + (z : Int)) = false := by simp; omega
              have HSK := Lib.hid (show s.size ≤ 1000000 by omega)
              clear hsk
              obtain ⟨W3, hW3⟩ : ∃ W3, W3 = ((wr.alloc (.cells #[.string ⟨#[50, 46, 53, 46, 52, 46, 49, 49]⟩, .int .i64 22, .string s] 26)).alloc (.cells #[.slice (some ⟨wr.heap.size, 0, none⟩) 1 1] 27)).alloc (.cells #[.slice (some ⟨wr.heap.size + 1, 0, none⟩) 1 1] 24) := ⟨_, rfl⟩
              have hw3 : ((wr.alloc (.cells #[.string ⟨#[50, 46, 53, 46, 52, 46, 49, 49]⟩, .int .i64 22, .string s] 26)).alloc (.cells #[.slice (some ⟨wr.heap.size, 0, none⟩) 1 1] 27)).alloc (.cells #[.slice (some ⟨wr.heap.size + 1, 0, none⟩) 1 1] 24) = W3 := hW3.symm
              have hb3 : Below wr.heap.size wr W3 := by rw [hW3]; exact below_next (belowTwo wr _ _) (belowNew _ _)
              have dn := (hb3.cell (p := ⟨p, 0, none⟩) hltn).trans cn
              have d9 := (hb3.cell (p := ⟨q + 1, 0, none⟩) hlt9).trans c9
              have dz : W3.heap.size = wr.heap.size + 3 := by rw [hW3]; simp
              have do3 : W3.cell? ⟨wr.heap.size + 2, 0, none⟩ = some (.slice (some ⟨wr.heap.size + 1, 0, none⟩) 1 1) := by
                rw [hW3]
                have := cell_of_row _ _ 0 _ _ _ (heap_alloc_new ((wr.alloc (.cells #[.string ⟨#[50, 46, 53, 46, 52, 46, 49, 49]⟩, .int .i64 22, .string s] 26)).alloc (.cells #[.slice (some ⟨wr.heap.size, 0, none⟩) 1 1] 27)) (.cells #[.slice (some ⟨wr.heap.size + 1, 0, none⟩) 1 1] 24))
                simpa using this
              have HO3 := Lib.hid (show RLies W3 (some ⟨wr.heap.size + 1, 0, none⟩) [[(⟨#[50, 46, 53, 46, 52, 46, 49, 49]⟩, 22, s)]] from by
                have h1 := own_lit1 wr 0 (Nat.zero_le _) ⟨#[50, 46, 53, 46, 52, 46, 49, 49]⟩ s 22
                have h2 := (h1.below (belowNew _ (.cells #[.slice (some ⟨wr.heap.size, 0, none⟩) 1 1] 27))).below (belowNew _ (.cells #[.slice (some ⟨wr.heap.size + 1, 0, none⟩) 1 1] 24))
                rw [← hW3] at h2
                obtain ⟨a3, c3, e1, _, e2⟩ := h2.lies
                obtain ⟨rfl, _⟩ : some ⟨wr.heap.size, 0, none⟩ = a3 ∧ 1 = c3 := by simpa using e1
                refine .inr ⟨wr.heap.size + 1, 0, rfl, fun i hi => ?_⟩
                obtain rfl : i = 0 := by simpa using hi
                refine ⟨_, 1, ?_, Nat.le_refl _, e2⟩
                rw [hW3]
                have h5 := (belowNew ((wr.alloc (.cells #[.string ⟨#[50, 46, 53, 46, 52, 46, 49, 49]⟩, .int .i64 22, .string s] 26)).alloc (.cells #[.slice (some ⟨wr.heap.size, 0, none⟩) 1 1] 27)) (.cells #[.slice (some ⟨wr.heap.size + 1, 0, none⟩) 1 1] 24)).cell (p := ⟨wr.heap.size + 1, 0, none⟩) (by simp)
                rw [h5]
                simp)
              have HN3 := Lib.hid (HN2.out.below hb3)
              have HM3 := Lib.hid (HM2.out.below hb3)
              have HBW3 := Lib.hid (below_next HBW.out hb3)
              have HSO := Lib.hid (show SmallN [[((⟨#[50, 46, 53, 46, 52, 46, 49, 49]⟩ : ByteArray), (22 : Int), s)]] from small_snoc (D := []) small_nil (by decide) (small_one (by decide) HSK.out))
              have HSM3 := Lib.hid (show SmallN [D2] from small_snoc (D := []) small_nil (by decide) HSM2.out)
              have dz1 : wr.heap.size + 1 + 1 = wr.heap.size + 2 := rfl
              clear hW3 hb3 cn c9
              go_wp2_with fail
              obtain ⟨W4, hW4⟩ : ∃ W4, W4 = W3.alloc (.cells #[.slice av N cv, .slice (some ⟨q, 0, none⟩) 1 1, .slice (some ⟨wr.heap.size + 1, 0, none⟩) 1 1] 24) := ⟨_, rfl⟩
              rw [← hW4]
              have hb4 : Below W3.heap.size W3 W4 := by rw [hW4]; exact belowNew W3 _
              have hrow : ∀ k, k < 3 → ∃ (a' : Option Addr) (c' len : Nat) (nn : Nm), W4.cell? ⟨wr.heap.size + 3, k, none⟩ = some (.slice a' len c') ∧ RLies W4 a' nn ∧ len = nn.length ∧ SmallN nn := by
                intro k hk
                have hc : ∀ j, W4.cell? ⟨wr.heap.size + 3, j, none⟩ = (#[Value.slice av N cv, .slice (some ⟨q, 0, none⟩) 1 1, .slice (some ⟨wr.heap.size + 1, 0, none⟩) 1 1] : Array Value)[j]? := fun j => by
                  rw [← dz, hW4]
                  exact cell_of_row _ _ j _ _ _ (heap_alloc_new W3 _)
                rcases (by omega : k = 0 ∨ k = 1 ∨ k = 2) with rfl | rfl | rfl
                · exact ⟨av, cv, N, D, hc 0, HN3.out.below hb4, HNN.out, HSM1.out⟩
                · exact ⟨_, 1, 1, [D2], hc 1, HM3.out.below hb4, rfl, HSM3.out⟩
                · exact ⟨_, 1, 1, _, hc 2, HO3.out.below hb4, rfl, HSO.out⟩
              have HROW := Lib.hid hrow
              have HBW4 := Lib.hid (below_next HBW3.out hb4)
              clear hrow hb4 hW4 dn d9 dz do3
              generalize wr.heap.size + 3 = G at HROW ⊢
              go_loopw [74] (fun i ws => ∃ k : Nat, k ≤ 3 ∧ i = .int .i64 k ∧ Below W4.heap.size W4 ws) (fun i _ => 3 - (intOf i).toNat)
              case atStart => exact ⟨0, Nat.zero_le _, rfl, Below.refl _ _⟩
              case round =>
                obtain ⟨k4, hk4, rfl, hb⟩ := hrel
                have HB := Lib.hid hb
                by_cases hlt4 : k4 < 3
                · have hd4 : decide ((k4 : Int) < 3) = true := by simp; omega
                  obtain ⟨a', c', len, nn, hcl, hrl, hlen, hsmn⟩ := HROW.out k4 hlt4
                  have c0 := (hb.cell (p := ⟨G, k4, none⟩) (block_lt hcl)).trans hcl
                  have HRL := Lib.hid (hrl.below hb)
                  have HLE := Lib.hid hlen
                  have HSN := Lib.hid hsmn
                  clear hcl hrl hlen hsmn hb
                  go_wp2_with fail
                  have hbx := cell_of_row _ _ 0 _ _ _ (heap_alloc_new wr (.cells #[.slice a' len c'] 24))
                  have k0 : (wr.alloc (.cells #[.slice a' len c'] 24)).cell? ⟨wr.heap.size, 0, none⟩ = some (.slice a' len c') := hbx
                  have HBA := Lib.hid (belowNew wr (.cells #[.slice a' len c'] 24))
                  have HBT := Lib.hid (below_next HBW4.out (below_next HB.out HBA.out))
                  have HBU := Lib.hid (below_next HB.out HBA.out)
                  clear hbx c0
                  generalize wr.alloc (.cells #[.slice a' len c'] 24) = V at k0 HBA HBT HBU ⊢
                  obtain ⟨E, hE⟩ : ∃ E, E = chkN nn := ⟨_, rfl⟩
                  have cE : ∀ d' os, Calls Tryd.prog 8 #[.agg #[.slice a' len c']] (Sort.grow (redrawn V d') os) fun e w'' => e = .returned (.int .i64 (E : Int)) ∧ ∃ p : Regrown, w'' = Sort.grow (redrawn V p.d) p.os := fun d' os => Calls.regrown_of (by
                    rw [hE]
                    exact chk_core a' c' len nn _ ((HRL.out.below HBA.out).below (below_regrown V d' os)) HLE.out HSN.out ((HT.out.below HBT.out).below (below_regrown V d' os)))
                  have cR : ∀ d' os, Calls Tryd.prog 9 #[.agg #[.slice a' len c']] (Sort.grow (redrawn V d') os) fun e w'' => e = .returned (.int .i64 (E : Int)) ∧ ∃ p : Regrown, w'' = Sort.grow (redrawn V p.d) p.os := fun d' os => Calls.regrown_of (by
                    rw [hE]
                    exact rchk_core a' c' len nn _ ((HRL.out.below HBA.out).below (below_regrown V d' os)) HLE.out HSN.out)
                  have c0 := cell_regrown k0
                  clear k0 hE
                  refine wp_region_quiet_below (by kernel_rfl) (by kernel_rfl) ?_
                  repeat (go_big_quiet_step (with_reducible first | exact cE _ _ | exact cR _ _))
                  refine wpQuiet_nil ?_
                  intro _ hw'
                  obtain ⟨⟨dq, osq⟩, hw''⟩ := hw'
                  subst hw''
                  clear c0 cE cR
                  have HBZ := Lib.hid (HBU.out.trans ((below_regrown V dq osq).mono HBU.out.size))
                  go_wp2_with fail
                  go_roundw
                  case rel => exact ⟨k4 + 1, by omega, by go_num, HBZ.out⟩
                  case measure => simp [intOf]; omega
                · have hd4 : decide ((k4 : Int) < 3) = false := by simp; omega
                  have HAW := Lib.hid (awake_any wr (HT.out.below (below_next HBW4.out HB.out)) (HS.out.below (below_next HBW4.out HB.out)))
                  clear hb
                  go_wp2_with (go_at_call 10; (with_reducible refine HAW.out.mono ?_); rintro e w9 ⟨rfl, hb9⟩; have HB9 := Lib.hid (below_next (below_next HBW4.out HB.out) hb9); clear hb9)
                  go_ret
                  exact ⟨rfl, HB9.out⟩
end Go.Proofs.YtfpfgdbfigdooaaDoor
