/-
  The contract of parseName: the name that a text denotes, if it denotes one.
  The contracts of the reference's Split and short: the pieces of a text; the short types and their object identifiers.
  The contract of the reference's Split: the pieces of a text.
  The contracts of the reference's alike and ends: two texts that differ in case only; a text that ends with another one.
-/
import Derived.Test.YtflpajbcomhkpaaGreatDoorSam
import Derived.Test.YtflpajbcomhkpaaGreatDoorSai
import Derived.Test.YtflpajbcomhkpaaGreatDoorSae
import Derived.Test.YtflpajbcomhkpaaGreatDoorSaf
import Derived.Test.YtflpajbcomhkpaaGreatDoorSaj
namespace Go.Proofs.YtflpajbcomhkpaaGreatDoor
open Go.RowKit

theorem prsR_none {x : ByteArray} (h : prsR x = none) (w : World) (hx : x.size ≤ 150000) (hT : Tab w) (hS : ShT w) :
    Calls Tryz.prog 177 #[.string x] w fun e w' => e = .returned (.tuple #[.slice none 0 0, .bool false]) ∧ Below w.heap.size w w' := by
  refine (prsR_any x w hx hT hS).mono ?_
  rintro e w' ⟨v, ok, rfl, (⟨rfl, rfl, _⟩ | ⟨_, r, hr, _⟩), hb⟩
  · exact ⟨rfl, hb⟩
  · rw [h] at hr; cases hr
theorem prsR_some {x : ByteArray} {r : List At} (h : prsR x = some r) (w : World) (hx : x.size ≤ 150000) (hT : Tab w) (hS : ShT w) :
    Calls Tryz.prog 177 #[.string x] w fun e w' => ∃ a c, e = .returned (.tuple #[.slice a r.length c, .bool true]) ∧ OwnA w' w.heap.size (.slice a r.length c) r ∧ Below w.heap.size w w' := by
  refine (prsR_any x w hx hT hS).mono ?_
  rintro e w' ⟨v, ok, rfl, (⟨_, _, hr⟩ | ⟨rfl, r', hr, ho⟩), hb⟩
  · rw [h] at hr; cases hr
  · rw [h] at hr
    obtain rfl := Option.some.inj hr
    obtain ⟨a, c, rfl, _⟩ := ho.lies
    exact ⟨a, c, rfl, ho, hb⟩
theorem one_facts {w : World} {g : Nat} {x : Value} {t : TypeId} (h : w.heap[g]? = some (.cells #[x] t (0, 0))) : w.cell? ⟨g, 0, none⟩ = some x ∧ w.frozen? ⟨g, 0, none⟩ = false ∧ g < w.heap.size := by
  refine ⟨?_, Lib.frozen_of_heap h 0, (Array.getElem?_eq_some_iff.1 h).1⟩
  rw [Lib.cell_of_heap h]; rfl
theorem one_set {w : World} {g : Nat} {x a : Value} {t : TypeId} (h : w.heap[g]? = some (.cells #[x] t (0, 0))) : (w.setCell ⟨g, 0, none⟩ a).heap[g]? = some (.cells #[a] t (0, 0)) := by
  simp [World.setCell, Array.getElem?_modify, h]
theorem nmSize : (Tryz.prog.info? 30).map (·.size) = some 1 := by kernel_rfl
theorem nmRes {fn : Func} {p u : Tmp} (h : fn.results = #[.cell p 30, .tmp u]) (tmps : Array Value) (w w0 : World) (x : Value)
    (hp : tmps.getD p undef = .pointer (some ⟨w0.heap.size, 0, none⟩)) (hg : w.heap[w0.heap.size]? = some (.cells #[x] 30 (0, 0))) :
    (results fn tmps).run Tryz.prog w = .ok (.tuple #[.agg #[x], tmps.getD u undef]) w :=
  results_cell_row2 h tmps w w0.heap.size 30 #[x] (0, 0) _ hp hg Tryz.underlying30 rfl nmSize
theorem rdInfo : (Tryz.prog.info? 101).map (fun i => (i.zero, i.size, i.bytes)) = some (some (.slice none 0 0), 1, 24) := by kernel_rfl
/-- The name that a text denotes. -/
noncomputable def prsN (x : ByteArray) : Option Nm := if x.size = 0 then some [] else allO prsR (pcsS 44 x)
theorem row_news (w1 : World) (v : Value) (T : TypeId) : ∀ j u, [v][j]? = some u → (w1.alloc (.cells #[v] T)).cell? ((⟨w1.heap.size, 0, none⟩ : Addr).add j) = some u := by
  intro j u h
  exact news_row w1 #[v] T j u (by simpa using h)

theorem one_one (a : Option Addr) (n c : Nat) : ∀ u ∈ [Value.slice a n c], u.oneCell' = true := by
  intro u hu
  obtain rfl : u = _ := by simpa using hu
  rfl
/-- The box of a name stays while its row grows. -/
theorem more_box {wr w1 w2 : World} {p B n k : Nat} {x v : Value} {T e : TypeId} {xs : List Value} {Y : Obj} (h : w1.heap[p]? = some (.cells #[x] T (0, 0))) (hp : p < B) (ho : wr.ownsRow B e k v n xs) (hg : (w1.alloc Y).grownBy w2 v.ownBlock) : w2.heap[p]? = some (.cells #[x] T (0, 0)) := by
  have hl : p < w1.heap.size := (Array.getElem?_eq_some_iff.1 h).1
  refine (hg.block p (by simp; omega) (fun e => ?_)).trans (((belowNew w1 Y).block p hl).trans h)
  have := (World.ownsRow.lt ho p e.symm).1
  omega
theorem more_but {W0 wr w1 w2 : World} {p n k : Nat} {v : Value} {e : TypeId} {xs : List Value} {Y : Obj} (hb : But p W0 wr) (hb1 : Below wr.heap.size wr w1) (ho : wr.ownsRow W0.heap.size e k v n xs) (hg : (w1.alloc Y).grownBy w2 v.ownBlock) : But p W0 w2 :=
  World.grownBy.andThen ((hb.next (But.of hb1)).alloc Y) hg (fun j e => .inl (World.ownsRow.lt ho j e).1)
/-- The world with two blocks of a name and one of pieces. -/
theorem three_blocks {w Wb W0 : World} {v u : Value} {T : TypeId} {o : Obj} (hWb : Wb = (w.alloc (.cells #[v] T)).alloc (.cells #[u] T)) (hW0 : W0 = Wb.alloc o) :
    W0.heap.size = w.heap.size + 3 ∧ W0.heap[w.heap.size]? = some (.cells #[v] T (0, 0)) ∧ W0.heap[w.heap.size + 1]? = some (.cells #[u] T (0, 0)) ∧ Below w.heap.size w W0 ∧ Wb.heap.size = w.heap.size + 2 := by
  have h1 := heap_alloc_new w (.cells #[v] T)
  have h2 := heap_alloc_new (w.alloc (.cells #[v] T)) (.cells #[u] T)
  have z1 : (w.alloc (.cells #[v] T)).heap.size = w.heap.size + 1 := by simp
  have z2 : Wb.heap.size = w.heap.size + 2 := by rw [hWb]; simp
  rw [z1] at h2
  have b1 := belowNew (w.alloc (.cells #[v] T)) (.cells #[u] T)
  have b2 := belowNew Wb o
  rw [← hWb] at b1 h2
  rw [← hW0] at b2
  refine ⟨by rw [hW0]; simp [z2], (b2.block _ (by omega)).trans ((b1.block _ (by omega)).trans h1), (b2.block _ (by omega)).trans h2, below_next (belowNew w _) (below_next b1 b2), z2⟩

set_option maxRecDepth 100000 in
set_option maxHeartbeats 4000000 in
theorem prsN_any (x : ByteArray) (w : World) (hx : x.size ≤ 150000) (hT : Tab w) (hS : ShT w) :
    Calls Tryz.prog 137 #[.string x] w fun e w' => ∃ v, e = .returned (.tuple #[v, .bool (prsN x).isSome]) ∧ OwnV w' w.heap.size v ((prsN x).getD []) ∧ Below w.heap.size w w' := by
  by_cases h0 : x.size = 0
  · obtain rfl := empty_of_size h0
    have e : prsN ⟨#[]⟩ = some [] := if_pos rfl
    rw [e]
    clear hT hS hx
    go_enter Tryz.func137, Tryz.ntmps137
    go_wp2_with fail
    exact bodyPost_ret (nmRes rfl _ _ w _ rfl (heap_alloc_new w _)) rfl ⟨_, rfl, ⟨_, rfl, OwnN.nil _ _⟩, belowNew w _⟩
  obtain ⟨i0, hi, hz0, hz1, hz2⟩ := info_parts rdInfo
  have he := nonempty_list h0
  obtain ⟨R, hR⟩ : ∃ R, R = prsN x := ⟨_, rfl⟩
  rw [← hR]
  have hR2 : R = allO prsR (pcsS 44 x) := by rw [hR]; exact if_neg h0
  obtain ⟨Wb, hWb⟩ : ∃ Wb, Wb = (w.alloc (.cells #[.slice none 0 0] 30)).alloc (.cells #[.slice none 0 0] 30) := ⟨_, rfl⟩
  have hwr : (w.alloc (.cells #[.slice none 0 0] 30)).alloc (.cells #[.slice none 0 0] 30) = Wb := hWb.symm
  have HSP := split_c x 44 Wb (by omega)
  have hcell := pcs_cell 44 x Wb
  have hpl := pcsS_len 44 x
  have hcl := count_le x 44
  have hps := pieces_size 44 x
  obtain ⟨W0, hW0⟩ : ∃ W0, W0 = Wb.alloc (.cells ((pcsS 44 x).map Value.string).toArray 9) := ⟨_, rfl⟩
  rw [← hW0] at HSP hcell
  obtain ⟨hz, hq0, hq1, hb0, hzb⟩ := three_blocks hWb hW0
  rw [hzb] at HSP hcell
  obtain ⟨ps, hps0⟩ : ∃ ps, ps = pcsS 44 x := ⟨_, rfl⟩
  rw [← hps0] at HSP hcell hpl hps hR2
  obtain ⟨n, hn⟩ : ∃ n, n = ps.length := ⟨_, rfl⟩
  rw [← hn] at HSP hcell hps hpl
  have hnn : n ≤ 150001 := by omega
  obtain ⟨p, hp⟩ : ∃ p, p = w.heap.size + 1 := ⟨_, rfl⟩
  have hp2 : w.heap.size + 2 = p + 1 := by omega
  rw [← hp] at hq1
  rw [hp2] at HSP hcell
  have HSPL := Lib.hid HSP
  have HCELL := Lib.hid hcell
  have HPS := Lib.hid hps
  have HN := Lib.hid hn
  have HR := Lib.hid hR2
  have HX := Lib.hid hx
  have HZ := Lib.hid (show W0.heap.size = p + 2 by omega)
  have HP := Lib.hid hp
  have HB0 := Lib.hid hb0
  have HQ0 := Lib.hid hq0
  have HQ1 := Lib.hid hq1
  have HT := Lib.hid hT
  have HTG := Lib.hid hT.lt
  have HSG := Lib.hid hS.lt
  have HSW := Lib.hid hS
  clear HSP hcell hps hpl hn hR hR2 hx hz hb0 hT hS hcl hW0 hps0 hq0 hq1 h0 hWb
  have hp3 : w.heap.size + 1 = p := hp.symm
  clear hp
  go_enter Tryz.func137, Tryz.ntmps137
  go_wp2_with (go_at_call 176; (with_reducible refine HSPL.out.mono ?_); rintro e w1 ⟨rfl, hw⟩; rw [hw]; clear hw w1)
  go_loopw [15] (fun i wr => ∃ (k : Nat) (D : Nm) (v : Value), k ≤ n ∧ D.length = k ∧ i = .int .i64 k ∧ R = (allO prsR (ps.drop k)).map (D ++ ·) ∧ wr.heap[p]? = some (.cells #[v] 30 (0, 0)) ∧ OwnN wr W0.heap.size v D ∧ But p W0 wr) (fun i _ => n - (intOf i).toNat)
  case atStart => exact ⟨0, [], _, Nat.zero_le _, rfl, rfl, by rw [HR.out]; exact allO_start _ _, HQ1.out, OwnN.nil _ _, But.refl _ _⟩
  case round =>
    obtain ⟨k, D, v, hk, hDk, rfl, hA, hbx, hown, hb⟩ := hrel
    have HB := Lib.hid hb
    have HA := Lib.hid hA
    have HO := Lib.hid hown
    have HDK := Lib.hid hDk
    have HBX := Lib.hid hbx
    have HBL := Lib.hid (show Below w.heap.size w wr from HB0.out.trans ((hb.below (by have := HZ.out; omega)).mono (by have := HP.out; omega)))
    have HR0 := Lib.hid (show wr.heap[w.heap.size]? = some (.cells #[.slice none 0 0] 30 (0, 0)) from (hb.block _ (by have := HZ.out; have := HP.out; omega) (by have := HP.out; simp; omega)).trans HQ0.out)
    clear hb hA hown hDk hbx
    by_cases hlt : k < n
    · have hd : decide ((k : Int) < (n : Int)) = true := by simp; omega
      have c0 : wr.cell? ⟨p + 1, k, none⟩ = some (.string (ps.getD k ⟨#[]⟩)) := by
        have h1 := HCELL.out k hlt
        exact HB.out.cell h1 (by simp)
      have hsz := HPS.out k hlt
      obtain ⟨s, hs⟩ : ∃ s, s = ps.getD k ⟨#[]⟩ := ⟨_, rfl⟩
      rw [← hs] at c0 hsz
      have HTR := Lib.hid (HT.out.below HBL.out)
      have HSR := Lib.hid (HSW.out.below HBL.out)
      have HSZ := Lib.hid (show s.size ≤ 150000 by have := HX.out; omega)
      obtain ⟨av, cv, rfl, hcv, _⟩ := HO.out.lies
      cases hp : prsR s with
      | none =>
        have HPR := Lib.hid (prsR_none hp wr HSZ.out HTR.out HSR.out)
        have HF := Lib.hid (show R = none by rw [HA.out, allO_bad (d := ⟨#[]⟩) (by rw [← HN.out]; exact hlt) (by rw [← hs]; exact hp)]; rfl)
        clear hs hsz hp
        go_wp2_with (go_at_call 177; (with_reducible refine HPR.out.mono ?_); rintro e w1 ⟨rfl, hb1⟩; have HB1 := Lib.hid (below_next HBL.out hb1); have hq := (hb1.block _ (one_facts HR0.out).2.2).trans HR0.out; have HQ := Lib.hid hq; obtain ⟨r0, g0, hlt0⟩ := one_facts hq; clear hb1 hq)
        rw [HF.out]
        exact bodyPost_ret (nmRes rfl _ _ w _ rfl (one_set HQ.out)) rfl ⟨_, rfl, ⟨_, rfl, OwnN.nil _ _⟩, HB1.out.setCell (p := ⟨w.heap.size, 0, none⟩) (Nat.le_refl _) _⟩
      | some r =>
        have HPR := Lib.hid (prsR_some hp wr HSZ.out HTR.out HSR.out)
        have HST := Lib.hid (show R = (allO prsR (ps.drop (k + 1))).map ((D ++ [r]) ++ ·) by rw [HA.out, allO_step (d := ⟨#[]⟩) (by rw [← HN.out]; exact hlt) (by rw [← hs]; exact hp)])
        clear hs hsz hp
        obtain ⟨vs, hv1, hv2, hv3⟩ := HO.out
        have HV1 := Lib.hid hv1
        have HV2 := Lib.hid hv2
        have HV3 := Lib.hid hv3
        clear hv1 hv2 hv3
        go_wp2_with (first
          | (go_at_call 177; (with_reducible refine HPR.out.mono ?_); rintro e w1 ⟨a1, c1, rfl, ho1, hb1⟩; have HB1 := Lib.hid hb1; have HO1 := Lib.hid ho1; have hq := (hb1.block _ (one_facts HBX.out).2.2).trans HBX.out; have HQ := Lib.hid hq; obtain ⟨r0, g0, hlt0⟩ := one_facts hq; clear hb1 hq ho1)
          | (at_builtin; (refine wpList_append_own _ rfl (.tmp 28) (.tmp 30) 28 rfl W0.heap.size 101 i0 (.slice none 0 0) 1 24 Tryz.underlying28 hi hz0 hz1 hz2 rfl (by decide) _ D.length vs rfl ((own_below HV2.out HB1.out).alloc _) ⟨w1.heap.size, 0, none⟩ 1 1 [.slice a1 r.length c1] rfl rfl (row_news w1 _ _) (one_one _ _ _) (by have := HDK.out; unfold maxLen; omega) (by have := HDK.out; omega) (by have := HB.out.size; have := HB1.out.size; simp; omega) ?_); intro v' w2 hown2 hgr2 _; have hq2 := more_box HQ.out (by have := HZ.out; omega) HV2.out hgr2; have P1 := OwnN.snoc HV1.out ((own_below HV2.out HB1.out).alloc _) (fun i hi => ((HV3.out i hi).below HB1.out).below (belowNew w1 _)) ((HO1.out.base (Nat.le_trans (show W0.heap.size ≤ wr.heap.size from HB.out.size) (Nat.le_refl _))).below (belowNew w1 _)) hgr2 hown2; have P2 := more_but HB.out HB1.out HV2.out hgr2; obtain ⟨s0, t0, hltq⟩ := one_facts hq2; obtain ⟨av2, cv2, hv2', _, _⟩ := P1.lies; rw [List.length_append, List.length_singleton] at hv2'; rw [hv2'] at P1 ⊢; have HP1 := Lib.hid P1; have HP2 := Lib.hid P2; have HQ2 := Lib.hid hq2; clear hq2 P1 P2 hown2 hgr2 hv2'))
        go_roundw
        case rel => exact ⟨k + 1, D ++ [r], _, by omega, by rw [List.length_append, HDK.out]; rfl, by go_num, HST.out, one_set HQ2.out, HP1.out.but (p := p) (But.set p 0 _ _) (show p < W0.heap.size by rw [HZ.out]; omega), HP2.out.next (But.set _ _ _ _)⟩
        case measure => simp [intOf]; omega
    · have hd : decide ((k : Int) < (n : Int)) = false := by simp; omega
      have HF := Lib.hid (show R = some D by rw [HA.out]; exact allO_end (by rw [← HN.out]; omega) D)
      obtain ⟨av, cv, rfl, hcv, _⟩ := HO.out.lies
      obtain ⟨c0, f0, hltp⟩ := one_facts HBX.out
      obtain ⟨r0, g0, hlt0⟩ := one_facts HR0.out
      go_wp2_with fail
      rw [HF.out]
      exact bodyPost_ret (nmRes rfl _ _ w _ rfl (one_set HR0.out)) rfl ⟨_, rfl, ⟨_, rfl, (HO.out.but (p := w.heap.size) (But.set _ _ _ _) (by have := HZ.out; have := HP.out; omega)).base (by have := HZ.out; have := HP.out; omega)⟩, HBL.out.setCell (p := ⟨w.heap.size, 0, none⟩) (Nat.le_refl _) _⟩
end Go.Proofs.YtflpajbcomhkpaaGreatDoor
namespace Go.Proofs.YtflpajbcomhkpaaGreatDoor
open Go.RowKit

/-- The slice value v, of memory from block B on, holds the texts ss. -/
def OwnT (w : World) (B : Nat) (v : Value) (ss : List ByteArray) : Prop := w.ownsRow B 9 1 v ss.length (ss.map Value.string)
theorem OwnT.cells {w : World} {B N : Nat} {v : Value} {ss : List ByteArray} (h : OwnT w B v ss) (hN : N = ss.length) (h0 : ss ≠ []) :
    ∃ g cp, v = .slice (some ⟨g, 0, none⟩) N cp ∧ g < w.heap.size ∧ B ≤ g ∧ N ≤ cp ∧ ∀ j, j < N → w.cell? ⟨g, j, none⟩ = some (.string (ss.getD j ⟨#[]⟩)) := by
  subst hN
  rcases h.2 with ⟨_, h1⟩ | ⟨g, cap, cur, rfl, hB, hg, hn, _, hcs, htk⟩
  · exact absurd (List.eq_nil_of_length_eq_zero h1) h0
  · refine ⟨g, cap, rfl, (Array.getElem?_eq_some_iff.1 hg).1, hB, hn, fun j hj => ?_⟩
    rw [cell_of_row w g j _ _ _ hg]
    have : (cur.toList.take (ss.length * 1))[j]? = some (.string ss[j]) := by rw [htk]; simp [hj]
    rw [List.getElem?_take_of_lt (by omega)] at this
    rw [List.getD_eq_getElem?_getD, List.getElem?_eq_getElem hj]
    simpa using this
theorem strT_round {w wr w2 : World} {B : Nat} {v v' : Value} {D : List ByteArray} {y : ByteArray} {X : Obj} (hB : w.heap.size ≤ B) (hown : OwnT wr B v D) (hb : Below w.heap.size w wr)
    (hown2 : w2.ownsRow B 9 1 v' (D.length + 1) (D.map Value.string ++ [.string y])) (hgr2 : (wr.alloc X).grownBy w2 v.ownBlock) : OwnT w2 B v' (D ++ [y]) ∧ Below w.heap.size w w2 := by
  refine ⟨?_, ?_⟩
  · unfold OwnT
    rw [List.length_append, List.map_append]; exact hown2
  · exact (Below.alloc hb hb.size X).grown hgr2 (by simp; have := hb.size; omega) (fun k e => Nat.le_trans hB (World.ownsRow.lt hown k e).1)
theorem str_one (d : ByteArray) : ∀ u ∈ [Value.string d], u.oneCell' = true := by
  intro u hu
  obtain rfl : u = _ := by simpa using hu
  rfl
abbrev dl (s : ByteArray) : List UInt8 := s.data.toList
theorem map_dl_inj {a b : List ByteArray} (h : a.map dl = b.map dl) : a = b := by
  induction a generalizing b with
  | nil => cases b with
    | nil => rfl
    | cons y t => simp at h
  | cons x r ih => cases b with
    | nil => simp at h
    | cons y t =>
      rw [List.map_cons, List.map_cons] at h
      injection h with h1 h2
      rw [list_inj h1, ih h2]
theorem take_all_drop {L : List UInt8} {a i : Nat} (h : i = L.length) : (L.take i).drop a = L.drop a := by rw [h, List.take_length]

set_option maxRecDepth 100000 in
set_option maxHeartbeats 4000000 in
theorem rsplit_any (s : ByteArray) (cc : UInt8) (n : Nat) (hcn : n = cc.toNat) (w : World) (hs : s.size ≤ 150000) :
    Calls Tryz.prog 99 #[.string s, .int .u8 (n : Int)] w fun e w' => (∃ v, e = .returned v ∧ OwnT w' w.heap.size v (pcsS cc s)) ∧ Below w.heap.size w w' := by
  obtain ⟨i0, hi, hz0, hz1, hz2⟩ := info_parts strInfo
  have HCN := Lib.hid hcn
  obtain ⟨L, hL⟩ : ∃ L, L = s.data.toList := ⟨_, rfl⟩
  have HL := Lib.hid hL
  have HSP := Lib.hid (pcsS_spl cc s)
  rw [← hL] at HSP
  have HLL := Lib.hid (show L.length = s.size by rw [hL]; rfl)
  clear hcn hL
  go_enter Tryz.func99, Tryz.ntmps99
  go_wp2_with fail
  go_loopw [5, 6, 7] (fun v t u wr => ∃ (i a : Nat) (P : List ByteArray), u = .int .i64 (i : Int) ∧ t = .int .i64 (a : Int) ∧ i ≤ s.size + 1 ∧ P.length ≤ i ∧ OwnT wr w.heap.size v P ∧ Below w.heap.size w wr ∧
      ((a ≤ i ∧ i ≤ s.size ∧ cc ∉ (L.take i).drop a ∧ ∀ qs, Spl cc (L.drop a) qs → Spl cc L (P.map dl ++ qs)) ∨ (i = s.size + 1 ∧ Spl cc L (P.map dl)))) (fun _ _ u _ => s.size + 1 - (intOf u).toNat)
  case atStart => exact ⟨0, 0, [], rfl, rfl, Nat.zero_le _, Nat.zero_le _, World.ownsRow_nil _ _ _ _, Below.refl _ _, .inl ⟨Nat.le_refl _, Nat.zero_le _, by simp, fun qs h => by simpa using h⟩⟩
  case round =>
    obtain ⟨i, a, P, rfl, rfl, hi1, hPl, ho, hb, hcase⟩ := hrel
    have HO := Lib.hid ho
    have HB := Lib.hid hb
    clear ho hb
    rcases hcase with ⟨ha, his, hno, hq⟩ | ⟨hie, hq⟩
    · have d1 : decide ((i : Int) ≤ (s.size : Int)) = true := by simp; omega
      have HNO := Lib.hid hno
      have HQ := Lib.hid hq
      clear hno hq
      by_cases hbyte : i < s.size ∧ u8at s i ≠ n
      · obtain ⟨hlt, hne⟩ := hbyte
        have d2 : ((i : Int) == (s.size : Int)) = false := by simp; omega
        have hix := fun w => run_index_u8 (P := Tryz.prog) Tryz.underlying9 s i hlt (i : Int) rfl w
        obtain ⟨c, hc, hcn⟩ := u8at_list s i hlt
        rw [← HL.out] at hc
        have HNX := Lib.hid (show cc ∉ (L.take (i + 1)).drop a by
          rw [part_snoc ha hc]
          intro hm
          rcases List.mem_append.1 hm with hm | hm
          · exact HNO.out hm
          · exact hne (by rw [hcn, HCN.out, List.mem_singleton.1 hm]))
        generalize u8at s i = m at hix hne
        have d3 : ((m : Int) == (n : Int)) = false := by simp; omega
        clear hc hcn
        go_wp2_with fail
        go_roundw
        case rel => exact ⟨i + 1, a, P, by go_num, rfl, by omega, by omega, HO.out, HB.out, .inl ⟨by omega, by omega, HNX.out, HQ.out⟩⟩
        case measure => first | (simp [intOf]; done) | (simp [intOf]; omega)
      · have hor : (i = s.size) ∨ (i < s.size ∧ u8at s i = n) := by
          rcases Nat.lt_or_ge i s.size with h | h
          · exact .inr ⟨h, Classical.byContradiction fun e => hbyte ⟨h, e⟩⟩
          · left; omega
        clear hbyte
        rcases hor with hie | ⟨hlt, hbn⟩
        · subst hie
          have hsl : ∀ w, (Instr.slice 9 (.string s) (some (.int .i64 (a : Int))) (some (.int .i64 (s.size : Int))) none).run Tryz.prog w = .ok (.string (s.extract a s.size)) w := fun w => by
            have := run_slice_string (P := Tryz.prog) w 9 s .i64 .i64 (a : Int) (s.size : Int) Tryz.underlying9 (by omega) (by omega) (by omega)
            simpa using this
          have HEX := Lib.hid (show dl (s.extract a s.size) = (L.take s.size).drop a by
            show (s.extract a s.size).data.toList = _
            rw [HL.out, ByteArray.data_extract, Array.toList_extract, List.extract_eq_take_drop, ← List.drop_take])
          generalize s.extract a s.size = d at hsl HEX
          have d2 : ((s.size : Int) == (s.size : Int)) = true := by simp
          have HFIN := Lib.hid (show Spl cc L ((P ++ [d]).map dl) by
            rw [List.map_append, List.map_singleton, HEX.out, take_all_drop HLL.out.symm]
            exact HQ.out _ (spl_one (by have := HNO.out; rwa [take_all_drop HLL.out.symm] at this)))
          go_wp2_with (at_builtin; (refine wpList_append_own _ rfl (.tmp 25) (.tmp 30) 51 rfl w.heap.size 9 i0 (.string ByteArray.empty) 1 16 Tryz.underlying51 hi hz0 hz1 hz2 rfl (by decide) _ P.length (P.map Value.string) rfl (World.ownsRow.alloc HO.out _) ⟨wr.heap.size, 0, none⟩ 1 1 [.string d] rfl rfl (row_news wr _ _) (str_one _) (by unfold maxLen; omega) (by omega) (by have := HB.out.size; simp; omega) ?_); intro v' w2 hown2 hgr2 _; obtain ⟨P1, P2⟩ := strT_round (Nat.le_refl _) HO.out HB.out hown2 hgr2; have HP1 := Lib.hid P1; have HP2 := Lib.hid P2; clear hown2 hgr2 P1 P2)
          go_roundw
          case rel => exact ⟨s.size + 1, s.size + 1, P ++ [d], by go_num, by go_num, Nat.le_refl _, by simp; omega, HP1.out, HP2.out, .inr ⟨rfl, HFIN.out⟩⟩
          case measure => first | (simp [intOf]; done) | (simp [intOf]; omega)
        · have d2 : ((i : Int) == (s.size : Int)) = false := by simp; omega
          have hsl : ∀ w, (Instr.slice 9 (.string s) (some (.int .i64 (a : Int))) (some (.int .i64 (i : Int))) none).run Tryz.prog w = .ok (.string (s.extract a i)) w := fun w => by
            have := run_slice_string (P := Tryz.prog) w 9 s .i64 .i64 (a : Int) (i : Int) Tryz.underlying9 (by omega) (by omega) (by omega)
            simpa using this
          have HEX := Lib.hid (show dl (s.extract a i) = (L.take i).drop a by
            show (s.extract a i).data.toList = _
            rw [HL.out, ByteArray.data_extract, Array.toList_extract, List.extract_eq_take_drop, ← List.drop_take])
          generalize s.extract a i = d at hsl HEX
          have hix : ∀ w, (Instr.index 9 (.string s) (.int .i64 (i : Int))).run Tryz.prog w = .ok (.int .u8 (n : Int)) w := fun w => by
            have := run_index_u8 (P := Tryz.prog) Tryz.underlying9 s i hlt (i : Int) rfl w
            rw [hbn] at this; exact this
          obtain ⟨c, hc, hcn⟩ := u8at_list s i hlt
          rw [← HL.out] at hc
          have hcc : c = cc := UInt8.toNat_inj.1 (by rw [← hcn, hbn, HCN.out])
          rw [hcc] at hc
          have d3 : ((n : Int) == (n : Int)) = true := by simp
          have HFIN := Lib.hid (show ∀ qs, Spl cc (L.drop (i + 1)) qs → Spl cc L ((P ++ [d]).map dl ++ qs) from fun qs h => by
            have h2 := spl_cons HNO.out h
            have e : L.drop a = (L.take i).drop a ++ cc :: L.drop (i + 1) := by
              have hi' : i < L.length := (List.getElem?_eq_some_iff.1 hc).1
              conv => lhs; rw [at_split L i cc hc]
              rw [List.drop_append_of_le_length (by simp; omega)]
            rw [← e] at h2
            have h3 := HQ.out _ h2
            rw [List.map_append, List.map_singleton, HEX.out, List.append_assoc]
            exact h3)
          clear hc hcn hcc hbn
          go_wp2_with (at_builtin; (refine wpList_append_own _ rfl (.tmp 25) (.tmp 30) 51 rfl w.heap.size 9 i0 (.string ByteArray.empty) 1 16 Tryz.underlying51 hi hz0 hz1 hz2 rfl (by decide) _ P.length (P.map Value.string) rfl (World.ownsRow.alloc HO.out _) ⟨wr.heap.size, 0, none⟩ 1 1 [.string d] rfl rfl (row_news wr _ _) (str_one _) (by unfold maxLen; omega) (by omega) (by have := HB.out.size; simp; omega) ?_); intro v' w2 hown2 hgr2 _; obtain ⟨P1, P2⟩ := strT_round (Nat.le_refl _) HO.out HB.out hown2 hgr2; have HP1 := Lib.hid P1; have HP2 := Lib.hid P2; clear hown2 hgr2 P1 P2)
          go_roundw
          case rel => exact ⟨i + 1, i + 1, P ++ [d], by go_num, by go_num, by omega, by simp; omega, HP1.out, HP2.out, .inl ⟨by omega, by omega, by rw [List.drop_eq_nil_of_le (by simp; omega)]; simp, HFIN.out⟩⟩
          case measure => first | (simp [intOf]; done) | (simp [intOf]; omega)
    · have d1 : decide ((i : Int) ≤ (s.size : Int)) = false := by simp; omega
      have HF := Lib.hid (show P = pcsS cc s from map_dl_inj (spl_inj hq HSP.out))
      clear hq
      go_wp2_with fail
      go_ret
      exact ⟨⟨_, rfl, by rw [← HF.out]; exact HO.out⟩, HB.out⟩
set_option maxRecDepth 100000 in
set_option maxHeartbeats 1000000 in
theorem rshort_any (w : World) :
    Calls Tryz.prog 93 #[] w fun e w' => e = .returned (.slice (some ⟨w.heap.size, 0, none⟩) 14 14) ∧ w' = w.alloc (.cells shArr 9) := by
  go_enter Tryz.func93, Tryz.ntmps93
  go_wp2_with fail
  go_ret
  exact ⟨rfl, rfl⟩
end Go.Proofs.YtflpajbcomhkpaaGreatDoor
namespace Go.Proofs.YtflpajbcomhkpaaGreatDoor
open Go.RowKit

end Go.Proofs.YtflpajbcomhkpaaGreatDoor
namespace Go.Proofs.YtflpajbcomhkpaaGreatDoor
open Go.RowKit

theorem ext_list_h (r : ByteArray) (i j : Nat) : (r.extract i j).data.toList = (r.data.toList.drop i).take (j - i) := by
  rw [ByteArray.data_extract, Array.toList_extract, List.extract_eq_take_drop]
theorem slice_tail_h (s : ByteArray) (i : Nat) (hi : i ≤ s.size) (a : Int) (ha : a = (i : Int)) (w : World) :
    (Instr.slice 9 (.string s) (some (.int .i64 a)) none none).run Tryz.prog w = .ok (.string (strOf (s.data.toList.drop i))) w := by
  subst ha
  have := run_slice_string_from_if (P := Tryz.prog) w 9 s .i64 (i : Int) Tryz.underlying9
  rw [this, if_pos ⟨by omega, by omega⟩]
  have e : (s.extract i s.size).data.toList = s.data.toList.drop i := by
    rw [ext_list_h]
    exact List.take_of_length_le (by rw [List.length_drop]; exact Nat.le_refl _)
  rw [← strOf_of e]
  congr 3
theorem tail_of (L : List UInt8) (i : Nat) (hi : i ≤ L.length) (a : Int) (ha : a = (i : Int)) (w : World) :
    (Instr.slice 9 (.string (strOf L)) (some (.int .i64 a)) none none).run Tryz.prog w = .ok (.string (strOf (L.drop i))) w := slice_tail_h (strOf L) i hi a ha w
theorem head_of (L : List UInt8) (i : Nat) (hi : i ≤ L.length) (a : Int) (ha : a = (i : Int)) (w : World) :
    (Instr.slice 9 (.string (strOf L)) none (some (.int .i64 a)) none).run Tryz.prog w = .ok (.string (strOf (L.take i))) w := by
  subst ha
  have := run_slice_string_to_if (P := Tryz.prog) w 9 (strOf L) .i64 (i : Int) Tryz.underlying9
  rw [this, if_pos ⟨by omega, by rw [strOf_size]; omega⟩]
  have e : ((strOf L).extract 0 i).data.toList = L.take i := by
    rw [ext_list_h, strOf_list, List.drop_zero, Nat.sub_zero]
  rw [← strOf_of e]
  congr 3
theorem beq_of (a b : List UInt8) : ((strOf a).toList == (strOf b).toList) = decide (a = b) := by
  rw [beq_str, decide_eq_decide]
  exact ⟨strOf_inj, fun h => by rw [h]⟩
end Go.Proofs.YtflpajbcomhkpaaGreatDoor
