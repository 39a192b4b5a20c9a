/-
  The contracts of copies, copyName, copySubtrees and Add of package subtree, and of slices.Clone over attributes.
-/
import Derived.Test.YtofadgmnjckpcaaGreatDoorVbb
import Derived.Test.YtofadgmnjckpcaaGreatDoorVar
import Derived.Test.YtofadgmnjckpcaaGreatDoorVag
import Derived.Deep.RegionWith
import Derived.Lib.LazyBuf
namespace Go.Proofs.YtofadgmnjckpcaaGreatDoor
open Go.RowKit

theorem lies_news_s {w : World} {b o : Nat} {l : List At} (h : ALies w (some ⟨b, o, none⟩) l) : ∀ j u, (atsCells l)[j]? = some u → w.cell? ((⟨b, o, none⟩ : Addr).add j) = some u := by
  intro j u hj
  have hj2 : j < l.length * 3 := by rw [← atsCells_length]; exact (List.getElem?_eq_some_iff.1 hj).1
  have e : j = j / 3 * 3 + j % 3 := by omega
  rcases h with h | ⟨b', o', hb, hc⟩
  · rw [h] at hj2; simp at hj2
  · obtain ⟨rfl, rfl⟩ : b = b' ∧ o = o' := by simpa using hb
    obtain ⟨c0, c1, c2⟩ := hc (j / 3) (by omega)
    have ha := ats_at l (j / 3) (by omega) (j % 3) (by omega)
    rw [← e, hj] at ha
    have ea : (⟨b, o, none⟩ : Addr).add j = ⟨b, o + j, none⟩ := by
      by_cases h0 : j = 0
      · subst h0; simp [Addr.add]
      · simp [Addr.add, h0]
    rw [ea]
    rcases (by omega : j % 3 = 0 ∨ j % 3 = 1 ∨ j % 3 = 2) with m | m | m
    · rw [m] at ha
      rw [show o + j = o + j / 3 * 3 by omega, c0]; exact ha.symm
    · rw [m] at ha
      rw [show o + j = o + j / 3 * 3 + 1 by omega, c1]; exact ha.symm
    · rw [m] at ha
      rw [show o + j = o + j / 3 * 3 + 2 by omega, c2]; exact ha.symm
theorem lit_none_s (w : World) (B G : Nat) (hG : w.heap.size = G) (hB : B ≤ w.heap.size) : OwnA (w.alloc (.cells #[] 69)) B (.slice (some ⟨G, 0, none⟩) 0 0) [] := by
  subst hG
  exact World.ownsRow_lit w #[] 0 hB (by unfold maxLen; omega) rfl

theorem alies_some {w : World} {a0 : Option Addr} {l : List At} (h : ALies w a0 l) : (a0 = none ∧ l = []) ∨ ∃ ad, a0 = some ad ∧ ∀ j u, (atsCells l)[j]? = some u → w.cell? (ad.add j) = some u := by
  cases a0 with
  | none =>
    rcases h with h | ⟨b, o, h, _⟩
    · exact .inl ⟨rfl, h⟩
    · cases h
  | some ad =>
    refine .inr ⟨ad, rfl, ?_⟩
    rcases h with h | ⟨b, o, h, h2⟩
    · intro j u hj; rw [h] at hj; simp [atsCells] at hj
    · obtain rfl := Option.some.inj h
      exact lies_news_s (.inr ⟨b, o, rfl, h2⟩)
set_option maxRecDepth 100000 in
set_option maxHeartbeats 4000000 in
theorem clonea_core (a0 : Option Addr) (c n : Nat) (l : List At) (w : World) (h : ALies w a0 l) (hn : n = l.length) (hz : n ≤ 1000000) :
    Calls Tryz.prog 61 #[.slice a0 n c] w fun e w' => ∃ v, e = .returned v ∧ OwnA w' w.heap.size v l ∧ Below w.heap.size w w' := by
  obtain ⟨i1, hi', hy0, hy1, hy2⟩ := info_parts atInfo
  rcases alies_some (h.below (belowNew w (.cells #[] 69))) with ⟨rfl, rfl⟩ | ⟨ad, rfl, hnw⟩
  · obtain rfl : n = 0 := hn
    have hnil : ∀ w, (binOp .eql 67 (.slice none 0 c) (.slice none 0 0)).run Tryz.prog w = .ok (.bool true) w := fun w => run_eql_slice_nil w _ _ _ _ _ Tryz.underlying67
    clear h
    go_enter Tryz.func61, Tryz.ntmps61
    go_wp2_with fail
    go_ret
    exact ⟨_, rfl, OwnA.nil _ _, Below.refl _ _⟩
  · have HO := Lib.hid (lit_none_s w w.heap.size w.heap.size rfl (Nat.le_refl _))
    have HNW := Lib.hid hnw
    have HN := Lib.hid hn
    have hnil : ∀ w, (binOp .eql 67 (.slice (some ad) n c) (.slice none 0 0)).run Tryz.prog w = .ok (.bool false) w := fun w => run_eql_slice_nil w _ _ _ _ _ Tryz.underlying67
    clear h hn hnw
    go_enter Tryz.func61, Tryz.ntmps61
    go_wp2_with (at_builtin; ((refine wpList_append_own _ rfl (.tmp 5) (.tmp 6) 67 rfl w.heap.size 69 i1 (.agg #[.string ⟨#[]⟩, .int .i64 0, .string ⟨#[]⟩]) 3 40 Tryz.underlying67 hi' hy0 hy1 hy2 rfl (by decide) _ 0 [] rfl HO.out ad n c (atsCells l) rfl (by rw [atsCells_length, HN.out]) HNW.out (atsCells_one l) (by unfold maxLen; omega) (by omega) (by simp) ?_); intro v' w6 hown6 hgr6 _; have HP1 := Lib.hid hown6; have HP2 := Lib.hid hgr6; clear hown6 hgr6))
    go_ret
    refine ⟨_, rfl, ?_, (belowNew w _).grown HP2.out (by simp) (fun j e => (World.ownsRow.lt HO.out j e).1)⟩
    have := HP1.out
    rw [Nat.zero_add, List.nil_append, HN.out] at this
    exact this
theorem takeN {α : Type} (n : List α) (k : Nat) (h : k < n.length) (d : α) : n.take (k + 1) = n.take k ++ [n.getD k d] := by
  rw [List.take_add_one, List.getD_eq_getElem?_getD, List.getElem?_eq_getElem h]; rfl
def CopiesA (f : Nat) : Prop := ∀ (a : Option Addr) (c n : Nat) (l : List At) (W : World), ALies W a l → n = l.length → n ≤ 1000000 → Calls Tryz.prog f #[.slice a n c] W fun e w' => ∃ v, e = .returned v ∧ OwnA w' W.heap.size v l ∧ Below W.heap.size W w'
set_option maxRecDepth 100000 in
set_option maxHeartbeats 4000000 in
theorem copiesa_core (f : Nat) (eg : ∀ args w, (callFunc f args).run Tryz.prog w = .ok (.enter f args) w) (hf : CopiesA f) (a0 : Option Addr) (c m : Nat) (n : Nm) (w : World) (h : RLies w a0 n) (hm : m = n.length) (hmm : m ≤ 1000000) (hs : ∀ i, i < n.length → (n.getD i []).length ≤ 1000000) :
    Calls Tryz.prog 60 #[.slice a0 m c, .func (.func f) #[] #[]] w fun e w' => ∃ v, e = .returned v ∧ OwnN w' w.heap.size v n ∧ Below w.heap.size w w' := by
  obtain ⟨i0, hi, hz0, hz1, hz2⟩ := info_parts rdInfo
  have H1 := Lib.hid h
  have HN := Lib.hid hm
  have HF := Lib.hid hf
  have HS := Lib.hid hs
  clear h hm hf hs
  go_enter Tryz.func60, Tryz.ntmps60
  go_wp2_with fail
  go_loopw [5, 10] (fun v i wr => ∃ k : Nat, k ≤ m ∧ i = .int .i64 k ∧ OwnN wr w.heap.size v (n.take k) ∧ Below w.heap.size w wr) (fun _ i _ => m - (intOf i).toNat)
  case atStart => exact ⟨0, Nat.zero_le _, rfl, OwnN.nil _ _, Below.refl _ _⟩
  case round =>
    obtain ⟨wz, hwz⟩ : ∃ wz, wz = wr := ⟨_, rfl⟩
    subst hwz
    obtain ⟨k, hk, rfl, ho, hb⟩ := hrel
    obtain ⟨av, cv, hv5, _, _⟩ := ho.lies
    have HB := Lib.hid hb
    have HO := Lib.hid ho
    have HNX : (n.take k).length = k := by rw [List.length_take]; exact Nat.min_eq_left (by rw [← HN.out]; exact hk)
    rw [HNX] at hv5
    have HTK := Lib.hid HNX
    clear hb ho HNX
    subst hv5
    by_cases hlt : k < m
    · have hd : decide ((k : Int) < (m : Int)) = true := by simp; omega
      have hki : (k : Int) < (m : Int) := by omega
      obtain ⟨b, o, rfl, hbl, a1, c1, e0, hc1, hL1⟩ := H1.out.at k (by rw [← HN.out]; exact hlt)
      have f0 := (HB.out.cell (p := ⟨b, o + k, none⟩) hbl).trans e0
      have hsk := HS.out k (by rw [← HN.out]; exact hlt)
      have HST := Lib.hid (takeN n k (by rw [← HN.out]; exact hlt) [])
      have HLT := Lib.hid hlt
      clear e0 hbl
      generalize n.getD k [] = r at f0 hsk hL1 hc1 HST
      obtain ⟨Z, hZ⟩ : ∃ Z, Z = r.length := ⟨_, rfl⟩
      rw [← hZ] at f0 hsk
      have HC := Lib.hid (HF.out a1 c1 Z r wz (hL1.below HB.out) hZ hsk)
      clear hL1 hc1 hZ hsk
      obtain ⟨X, hX⟩ : ∃ X, X = n.take k := ⟨_, rfl⟩
      rw [← hX] at HO HST HTK
      clear hX
      go_upto_region 5 with (fail)
      go_wp2_with (first
        | (go_at_fn f; refine HC.out.mono ?_; rintro e w3 ⟨u, rfl, ho3, hb3⟩; obtain ⟨a3, c3, rfl, _, _⟩ := ho3.lies; have HB3 := Lib.hid (below_next HB.out hb3); obtain ⟨vs, hv1, hv2, hv3⟩ := HO.out.below hb3; have HV1 := Lib.hid hv1; have HV2 := Lib.hid hv2; have HV3 := Lib.hid hv3; have HO3 := Lib.hid (ho3.base HB.out.size); clear hb3 ho3 hv1 hv2 hv3)
        | (at_builtin; (refine wpList_append_own _ rfl (.tmp 14) (.tmp 18) 28 rfl w.heap.size 67 i0 (.slice none 0 0) 1 24 Tryz.underlying28 hi hz0 hz1 hz2 rfl (by decide) _ X.length vs rfl (HV2.out.alloc _) ⟨w3.heap.size, 0, none⟩ 1 1 [.slice a3 r.length c3] rfl rfl (row_news w3 _ _) (one_one _ _ _) (by have := HTK.out; unfold maxLen; omega) (by have := HTK.out; omega) (by have := HB3.out.size; simp; omega) ?_); intro v' w6 hown6 hgr6 _; have P3 := OwnN.snoc HV1.out (own_below HV2.out (belowNew w3 _)) (fun i hi => (HV3.out i hi).below (belowNew w3 _)) (HO3.out.below (belowNew w3 _)) hgr6 hown6; have P2 := (HB3.out.trans ((belowNew w3 _).mono HB3.out.size)).grown hgr6 (by have := HB3.out.size; simp; omega) (fun j e => (World.ownsRow.lt HV2.out j e).1); obtain ⟨a6, c6, hv6, _, _⟩ := P3.lies; rw [List.length_append, List.length_singleton, HTK.out] at hv6; subst hv6; have HP3 := Lib.hid P3; have HP2 := Lib.hid P2; clear P2 P3 hown6 hgr6))
      go_roundw
      case rel => exact ⟨k + 1, HLT.out, by go_num, by rw [HST.out]; exact HP3.out, HP2.out⟩
      case measure => simp [intOf]; omega
    · have hd : decide ((k : Int) < (m : Int)) = false := by simp; omega
      obtain rfl : k = m := by omega
      go_wp2_with fail
      go_ret
      refine ⟨_, rfl, ?_, HB.out⟩
      have := HO.out
      rw [List.take_of_length_le (by rw [← HN.out]; exact Nat.le_refl _)] at this
      exact this
theorem gnResG {fn : Func} {p : Tmp} (h : fn.results = #[.cell p 32]) (tmps : Array Value) (w : World) (g : Nat) (x y z : Value)
    (hp : tmps.getD p undef = .pointer (some ⟨g, 0, none⟩)) (hg : w.heap[g]? = some (.cells #[x, y, z] 32 (0, 0))) :
    (results fn tmps).run Tryz.prog w = .ok (.agg #[x, y, z]) w :=
  results_cell_row h tmps w g 32 #[x, y, z] (0, 0) _ hp hg Tryz.underlying32 rfl gnSize
theorem sbSize : (Tryz.prog.info? 27).map (·.size) = some 2 := by kernel_rfl
theorem sbRes {fn : Func} {p : Tmp} (h : fn.results = #[.cell p 27]) (tmps : Array Value) (w : World) (g : Nat) (x y : Value)
    (hp : tmps.getD p undef = .pointer (some ⟨g, 0, none⟩)) (hg : w.heap[g]? = some (.cells #[x, y] 27 (0, 0))) :
    (results fn tmps).run Tryz.prog w = .ok (.agg #[x, y]) w :=
  results_cell_row h tmps w g 27 #[x, y] (0, 0) _ hp hg Tryz.underlying27 rfl sbSize
theorem stSize : (Tryz.prog.info? 24).map (·.size) = some 1 := by kernel_rfl
theorem stRes {fn : Func} {p : Tmp} (h : fn.results = #[.cell p 24]) (tmps : Array Value) (w : World) (g : Nat) (x : Value)
    (hp : tmps.getD p undef = .pointer (some ⟨g, 0, none⟩)) (hg : w.heap[g]? = some (.cells #[x] 24 (0, 0))) :
    (results fn tmps).run Tryz.prog w = .ok (.agg #[x]) w :=
  results_cell_row h tmps w g 24 #[x] (0, 0) _ hp hg Tryz.underlying24 rfl stSize
theorem two_at {w : World} {g : Nat} {x y : Value} {t : TypeId} (h : w.heap[g]? = some (.cells #[x, y] t (0, 0))) :
    w.cell? ⟨g, 0, none⟩ = some x ∧ w.cell? ⟨g, 1, none⟩ = some y ∧ w.frozen? ⟨g, 0, none⟩ = false ∧ w.frozen? ⟨g, 1, none⟩ = false ∧ g < w.heap.size := by
  refine ⟨?_, ?_, Lib.frozen_of_heap h 0, Lib.frozen_of_heap h 1, (Array.getElem?_eq_some_iff.1 h).1⟩ <;> (rw [Lib.cell_of_heap h]; rfl)
theorem set2_0 {w : World} {g : Nat} {x y a : Value} {t : TypeId} (h : w.heap[g]? = some (.cells #[x, y] t (0, 0))) : (w.setCell ⟨g, 0, none⟩ a).heap[g]? = some (.cells #[a, y] t (0, 0)) := by
  simp [World.setCell, Array.getElem?_modify, h]
theorem set2_1 {w : World} {g : Nat} {x y a : Value} {t : TypeId} (h : w.heap[g]? = some (.cells #[x, y] t (0, 0))) : (w.setCell ⟨g, 1, none⟩ a).heap[g]? = some (.cells #[x, a] t (0, 0)) := by
  simp [World.setCell, Array.getElem?_modify, h]
theorem set_other_s {w : World} {g k : Nat} {j : Nat} {a : Value} {o : Option Obj} (h : w.heap[k]? = o) (hne : g ≠ k) : (w.setCell ⟨g, j, none⟩ a).heap[k]? = o := by
  simp [World.setCell, Array.getElem?_modify, h, hne]
theorem below_set {B g j : Nat} {a w : World} {v : Value} (h : Below B a w) (hg : B ≤ g) : Below B a (w.setCell ⟨g, j, none⟩ v) := h.setCell (p := ⟨g, j, none⟩) hg _
def CopiesG (f : Nat) : Prop := ∀ (a : Option Addr) (c N : Nat) (q : Int) (t : List UInt8) (n : Nm) (W : World), RLies W a n → N = n.length → SmallN n → Calls Tryz.prog f #[.agg #[.int .i64 q, .string (strOf t), .slice a N c]] W fun e w' => ∃ v, e = .returned (.agg #[.int .i64 q, .string (strOf t), v]) ∧ OwnN w' W.heap.size v n ∧ Below W.heap.size W w'
set_option maxRecDepth 100000 in
set_option maxHeartbeats 4000000 in
theorem copyname_core : CopiesG 43 := by
  intro a c N q t n w h hN hs
  obtain ⟨W0, hW0⟩ : ∃ W0, W0 = (w.alloc (.cells #[.int .i64 q, .string (strOf t), .slice a N c] 32)).alloc (.cells #[.int .i64 0, .string ⟨#[]⟩, .slice none 0 0] 32) := ⟨_, rfl⟩
  have hwr := hW0.symm
  have hb0 : Below w.heap.size w W0 := by rw [hW0]; exact belowTwo w _ _
  have hq0 : W0.heap[w.heap.size]? = some (.cells #[.int .i64 q, .string (strOf t), .slice a N c] 32 (0, 0)) := by rw [hW0, heap_first]; exact heap_alloc_new w _
  have hq1 : W0.heap[w.heap.size + 1]? = some (.cells #[.int .i64 0, .string ⟨#[]⟩, .slice none 0 0] 32 (0, 0)) := by rw [hW0]; exact heap_second w _ _ _
  obtain ⟨b0, b1, b2, lb⟩ := three_facts hq0
  have HB0 := Lib.hid hb0
  have HC := Lib.hid (copiesa_core 61 (enters_of Tryz.func61 (by kernel_rfl) rfl) (fun a c n l W h hn hz => clonea_core a c n l W h hn hz) a c N n W0 (h.below hb0) hN (by rw [hN]; exact hs.1) (fun i hi => (hs.2 i hi).1))
  have HQ0 := Lib.hid hq0
  have HQ1 := Lib.hid hq1
  clear h hN hs hb0 hW0 hq0 hq1
  go_enter Tryz.func43, Tryz.ntmps43
  go_upto_region 2 with (go_at_call 60; (with_reducible refine HC.out.mono ?_); rintro e w3 ⟨vv, rfl, ho3, hb3⟩; obtain ⟨a3, c3, rfl, _, _⟩ := ho3.lies; have hc3 := (hb3.block w.heap.size lb).trans HQ0.out; have hd3 := (hb3.block (w.heap.size + 1) (Array.getElem?_eq_some_iff.1 HQ1.out).1).trans HQ1.out; obtain ⟨c0, c1, c2, f0, f1, f2, l3⟩ := at_facts hc3; have HC3 := Lib.hid hc3; have HD3 := Lib.hid hd3; have HB3 := Lib.hid (below_next HB0.out hb3); have HO3 := Lib.hid (ho3.base HB0.out.size); clear hb3 ho3 hc3 hd3)
  obtain ⟨W4, hW4⟩ : ∃ W4, W4 = w3.setCell ⟨w.heap.size, 2, none⟩ (.slice a3 n.length c3) := ⟨_, rfl⟩
  rw [← hW4]
  have hc4 := gset2 (a := .slice a3 n.length c3) HC3.out
  have hd4 := set_other_s (g := w.heap.size) (j := 2) (a := .slice a3 n.length c3) HD3.out (by omega)
  have hg4 := But.set w.heap.size 2 w3 (.slice a3 n.length c3)
  rw [← hW4] at hc4 hd4 hg4
  have HO4 := Lib.hid (HO3.out.apart HC3.out (by decide) (by decide) hg4)
  have HB4 := Lib.hid (show Below w.heap.size w W4 by rw [hW4]; exact below_set HB3.out (Nat.le_refl _))
  clear hW4 hg4 c0 c1 c2 f0 f1 f2 l3 hwr
  obtain ⟨c0, c1, c2, f0, f1, f2, l3⟩ := at_facts hc4
  obtain ⟨d0, d1, d2, g0, g1, g2, l4⟩ := at_facts hd4
  have HD4 := Lib.hid hd4
  clear hc4 hd4 b0 b1 b2
  go_wp2_with fail
  have hs := ((But.set (w.heap.size + 1) 0 W4 (.int .i64 q)).next (But.set (w.heap.size + 1) 1 _ (.string (strOf t)))).next (But.set (w.heap.size + 1) 2 _ (.slice a3 n.length c3))
  exact bodyPost_ret (gnResG rfl _ _ _ _ _ _ rfl (at_set HD4.out)) rfl ⟨_, rfl, HO4.out.apart HD4.out (by decide) (by decide) hs, below_set (below_set (below_set HB4.out (by omega)) (by omega)) (by omega)⟩
set_option maxRecDepth 100000 in
set_option maxHeartbeats 4000000 in
theorem copiesg_core (f : Nat) (eg : ∀ args w, (callFunc f args).run Tryz.prog w = .ok (.enter f args) w) (hf : CopiesG f) (a0 : Option Addr) (c m : Nat) (l : List Gn) (w : World) (h : GLies w a0 l) (hm : m = l.length) (hmm : m ≤ 1000000) (hs : SmL l) :
    Calls Tryz.prog 41 #[.slice a0 m c, .func (.func f) #[] #[]] w fun e w' => ∃ v, e = .returned v ∧ OwnG w' w.heap.size v l ∧ Below w.heap.size w w' := by
  obtain ⟨i0, hi, hz0, hz1, hz2⟩ := info_parts gInfo
  have H1 := Lib.hid h
  have HN := Lib.hid hm
  have HF := Lib.hid hf
  have HS := Lib.hid hs
  clear h hm hf hs
  go_enter Tryz.func41, Tryz.ntmps41
  go_wp2_with fail
  go_loopw [5, 10] (fun v i wr => ∃ k : Nat, k ≤ m ∧ i = .int .i64 k ∧ OwnG wr w.heap.size v (l.take k) ∧ Below w.heap.size w wr) (fun _ i _ => m - (intOf i).toNat)
  case atStart => exact ⟨0, Nat.zero_le _, rfl, OwnG.nil _ _, Below.refl _ _⟩
  case round =>
    obtain ⟨wz, hwz⟩ : ∃ wz, wz = wr := ⟨_, rfl⟩
    subst hwz
    obtain ⟨k, hk, rfl, ho, hb⟩ := hrel
    obtain ⟨av, cv, hv5, _, _⟩ := ho.lies
    have HB := Lib.hid hb
    have HO := Lib.hid ho
    have HNX : (l.take k).length = k := by rw [List.length_take]; exact Nat.min_eq_left (by rw [← HN.out]; exact hk)
    rw [HNX] at hv5
    have HTK := Lib.hid HNX
    clear hb ho HNX
    subst hv5
    by_cases hlt : k < m
    · have hd : decide ((k : Int) < (m : Int)) = true := by simp; omega
      have hki : (k : Int) < (m : Int) := by omega
      obtain ⟨b, o, rfl, hbl, e0, e1, a1, c1, e2, hc1, hL1⟩ := H1.out.at k (by rw [← HN.out]; exact hlt)
      have f0 := (HB.out.cell (p := ⟨b, o + k * 3, none⟩) hbl).trans e0
      have f1 := (HB.out.cell (p := ⟨b, o + k * 3 + 1, none⟩) hbl).trans e1
      have f2 := (HB.out.cell (p := ⟨b, o + k * 3 + 2, none⟩) hbl).trans e2
      have hsk := HS.out.at (i := k) (by rw [← HN.out]; exact hlt)
      have HST := Lib.hid (takeN l k (by rw [← HN.out]; exact hlt) noG)
      have HLT := Lib.hid hlt
      clear e0 e1 e2 hbl
      generalize l.getD k noG = G at f0 f1 f2 hsk hL1 hc1 HST
      obtain ⟨q, t, r⟩ := G
      simp only at f0 f1 f2 hL1 hc1
      obtain ⟨Z, hZ⟩ : ∃ Z, Z = r.length := ⟨_, rfl⟩
      rw [← hZ] at f2
      obtain ⟨W2, hW2⟩ : ∃ W2, W2 = wz.alloc (.cells #[.int .i64 q, .string (strOf t), .slice a1 Z c1] 32) := ⟨_, rfl⟩
      have hb2 : Below wz.heap.size wz W2 := by rw [hW2]; exact belowNew wz _
      obtain ⟨g0, g1, g2, lg⟩ := three_facts (w := W2) (g := wz.heap.size) (by rw [hW2]; exact heap_alloc_new wz _)
      have HB2 := Lib.hid (below_next HB.out hb2)
      have HO2 := Lib.hid (HO.out.below hb2)
      have HC := Lib.hid (HF.out a1 c1 Z q t r W2 ((hL1.below HB.out).below hb2) hZ hsk.2)
      have HWE := hW2.symm
      clear hL1 hc1 hZ hsk hW2 hb2
      obtain ⟨X, hX⟩ : ∃ X, X = l.take k := ⟨_, rfl⟩
      rw [← hX] at HO2 HST HTK
      clear hX HO
      go_wp2_with (first
        | (go_at_fn f; refine HC.out.mono ?_; rintro e w3 ⟨u, rfl, ho3, hb3⟩; obtain ⟨a3, c3, rfl, _, _⟩ := ho3.lies; have HB3 := Lib.hid (below_next HB2.out hb3); obtain ⟨vs, hv1, hv2, hv3⟩ := HO2.out.below hb3; have HV1 := Lib.hid hv1; have HV2 := Lib.hid hv2; have HV3 := Lib.hid hv3; have HO3 := Lib.hid (ho3.base HB2.out.size); clear hb3 ho3 hv1 hv2 hv3)
        | (at_builtin; (refine wpList_append_own _ rfl (.tmp 14) (.tmp 18) 25 rfl w.heap.size 32 i0 (.agg #[.int .i64 0, .string ⟨#[]⟩, .slice none 0 0]) 3 48 Tryz.underlying25 hi hz0 hz1 hz2 rfl (by decide) _ X.length (gsCells X vs) rfl (own_below HV2.out (belowNew _ _)) ⟨w3.heap.size, 0, none⟩ 1 1 (gCells (q, t, r) (.slice a3 r.length c3)) rfl rfl (fun j u h => news_row w3 #[.int .i64 q, .string (strOf t), .slice a3 r.length c3] 32 j u (by simpa [gCells] using h)) (gCells_one _ _ _ _) (by have := HTK.out; unfold maxLen; omega) (by have := HTK.out; omega) (by have := HB3.out.size; simp; omega) ?_); intro v' w6 hown6 hgr6 _; have P3 := OwnG.snoc HV1.out (own_below HV2.out (belowNew w3 _)) (fun i hi => (HV3.out i hi).below (belowNew w3 _)) (HO3.out.below (belowNew w3 _)) hgr6 hown6; have P2 := (HB3.out.trans ((belowNew w3 _).mono HB3.out.size)).grown hgr6 (by have := HB3.out.size; simp; omega) (fun j e => (World.ownsRow.lt HV2.out j e).1); obtain ⟨a6, c6, hv6, _, _⟩ := P3.lies; rw [List.length_append, List.length_singleton, HTK.out] at hv6; subst hv6; have HP3 := Lib.hid P3; have HP2 := Lib.hid P2; clear P2 P3 hown6 hgr6))
      go_roundw
      case rel => exact ⟨k + 1, HLT.out, by go_num, by rw [HST.out]; exact HP3.out, HP2.out⟩
      case measure => simp [intOf]; omega
    · have hd : decide ((k : Int) < (m : Int)) = false := by simp; omega
      obtain rfl : k = m := by omega
      go_wp2_with fail
      go_ret
      refine ⟨_, rfl, ?_, HB.out⟩
      have := HO.out
      rw [List.take_of_length_le (by rw [← HN.out]; exact Nat.le_refl _)] at this
      exact this
theorem copiesg_any (a0 : Option Addr) (c m : Nat) (l : List Gn) (w : World) (h : GLies w a0 l) (hm : m = l.length) (hmm : m ≤ 1000000) (hs : SmL l) :
    Calls Tryz.prog 41 #[.slice a0 m c, .func (.func 43) #[] #[]] w fun e w' => ∃ v, e = .returned v ∧ OwnG w' w.heap.size v l ∧ Below w.heap.size w w' :=
  copiesg_core 43 (enters_of Tryz.func43 (by kernel_rfl) rfl) copyname_core a0 c m l w h hm hmm hs
def CopiesS (f : Nat) : Prop := ∀ (a1 a2 : Option Addr) (c1 c2 NA NB : Nat) (A B : List Gn) (W : World), GLies W a1 A → GLies W a2 B → NA = A.length → NB = B.length → NA ≤ 1000000 → NB ≤ 1000000 → SmL A → SmL B → Calls Tryz.prog f #[.agg #[.slice a1 NA c1, .slice a2 NB c2]] W fun e w' => ∃ u v, e = .returned (.agg #[u, v]) ∧ OwnG w' W.heap.size u A ∧ OwnG w' W.heap.size v B ∧ Below W.heap.size W w'
set_option maxRecDepth 100000 in
set_option maxHeartbeats 4000000 in
theorem copysub_core : CopiesS 30 := by
  intro a1 a2 c1 c2 NA NB A B w h1 h2 hA hB hNA hNB hsA hsB
  obtain ⟨W0, hW0⟩ : ∃ W0, W0 = (w.alloc (.cells #[.slice a1 NA c1, .slice a2 NB c2] 27)).alloc (.cells #[.slice none 0 0, .slice none 0 0] 27) := ⟨_, rfl⟩
  have hwr := hW0.symm
  have hb0 : Below w.heap.size w W0 := by rw [hW0]; exact belowTwo w _ _
  have hq1 : W0.heap[w.heap.size + 1]? = some (.cells #[.slice none 0 0, .slice none 0 0] 27 (0, 0)) := by rw [hW0]; exact heap_second w _ _ _
  obtain ⟨s0, s1, ls⟩ := two_facts (w := W0) (g := w.heap.size) (by rw [hW0, heap_first]; exact heap_alloc_new w _)
  obtain ⟨r0, r1, q0, q1, lr⟩ := two_at hq1
  have HB0 := Lib.hid hb0
  have HA := Lib.hid (fun W (hb : Below W0.heap.size W0 W) => copiesg_any a1 c1 NA A W ((h1.below hb0).below hb) hA hNA hsA)
  have HC := Lib.hid (fun W (hb : Below W0.heap.size W0 W) => copiesg_any a2 c2 NB B W ((h2.below hb0).below hb) hB hNB hsB)
  have HX := Lib.hid (Below.refl W0.heap.size W0).drew
  have HR := Lib.hid hq1
  have SS0 := Lib.hid s0
  have SS1 := Lib.hid s1
  clear h1 h2 hA hB hsA hsB hb0 hW0 hq1
  go_enter Tryz.func30, Tryz.ntmps30
  go_wp2_with fail
  go_region_with (first
    | (go_at_call 41; (with_reducible refine (HA.out _ HX.out).mono ?_); rintro e w3 ⟨u, rfl, ho9, hb9⟩; obtain ⟨x1, cx1, rfl, _, _⟩ := ho9.lies; have HO1 := Lib.hid (ho9.base (Nat.le_trans HB0.out.size HX.out.size)); have HBA := Lib.hid hb9; have HX := Lib.hid (below_next HX.out hb9); have s0 := (HX.out.cell (p := ⟨w.heap.size, 0, none⟩) ls).trans SS0.out; have s1 := (HX.out.cell (p := ⟨w.heap.size, 1, none⟩) ls).trans SS1.out; have hr9 := (HX.out.block (w.heap.size + 1) lr).trans HR.out; have HR9 := Lib.hid hr9; obtain ⟨r0, r1, q0, q1, l9⟩ := two_at hr9; clear hb9 ho9 hr9)
    | (go_at_call 41; (with_reducible refine (HC.out _ HX.out).mono ?_); rintro e w4 ⟨v, rfl, ho9, hb9⟩; obtain ⟨x2, cx2, rfl, _, _⟩ := ho9.lies; have HO2 := Lib.hid (ho9.base (Nat.le_trans HB0.out.size HX.out.size)); have HBB := Lib.hid hb9; have HX := Lib.hid (below_next HX.out hb9); have s0 := (HX.out.cell (p := ⟨w.heap.size, 0, none⟩) ls).trans SS0.out; have s1 := (HX.out.cell (p := ⟨w.heap.size, 1, none⟩) ls).trans SS1.out; have hr9 := (HX.out.block (w.heap.size + 1) lr).trans HR.out; have HR9 := Lib.hid hr9; obtain ⟨r0, r1, q0, q1, l9⟩ := two_at hr9; clear hb9 ho9 hr9))
  all_goals (try go_wp2_with fail)
  all_goals first
    | exact bodyPost_ret (sbRes rfl _ _ _ _ _ rfl (set2_1 (set2_0 HR9.out))) rfl ⟨_, _, rfl, ((HO1.out.below HBB.out).apart HR9.out (by decide) (by decide) (by decide) ((But.set (w.heap.size + 1) 0 _ _).next (But.set (w.heap.size + 1) 1 _ _))), (HO2.out.apart HR9.out (by decide) (by decide) (by decide) ((But.set (w.heap.size + 1) 0 _ _).next (But.set (w.heap.size + 1) 1 _ _))), below_set (below_set (below_next HB0.out HX.out) (by omega)) (by omega)⟩
    | exact bodyPost_ret (sbRes rfl _ _ _ _ _ rfl (set2_1 (set2_0 HR9.out))) rfl ⟨_, _, rfl, (HO1.out.apart HR9.out (by decide) (by decide) (by decide) ((But.set (w.heap.size + 1) 0 _ _).next (But.set (w.heap.size + 1) 1 _ _))), ((HO2.out.below HBA.out).apart HR9.out (by decide) (by decide) (by decide) ((But.set (w.heap.size + 1) 0 _ _).next (But.set (w.heap.size + 1) 1 _ _))), below_set (below_set (below_next HB0.out HX.out) (by omega)) (by omega)⟩
end Go.Proofs.YtofadgmnjckpcaaGreatDoor
