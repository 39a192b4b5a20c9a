/-
  The contracts of slices.EqualFunc at relative names, of Match and of Within.
  The contracts of the reference's has and matchRDN: whether a relative name has an attribute that matches; whether two relative names match.
  The contracts of the reference's WithinName and MatchName.
  The contract of the reference's ExactName at equal names.
  The table of short types and the contracts of typeOf and kindOf.
  The contract of text.Unescape: the string whose escaped form is the given one, if there is one; nothing that was there before the call has changed.
  What a text denotes as a name, as a function of the text; the contracts of kindOf and parseAttribute.
  The contract of parseAttribute: the attribute that a text denotes, if it denotes one.
  The contract of parseRelative: the relative name that a text denotes, if it denotes one.
  The contract of parseName: the name that a text denotes, if it denotes one.
  The contracts of the reference's Split and short: the pieces of a text; the short types and their object identifiers.
  The contract of the reference's Split: the pieces of a text.
  The contracts of the reference's alike and ends: two texts that differ in case only; a text that ends with another one.
-/
import Derived.Test.YtbpdenfiifcfcaaGreatDoorMaj
import Derived.Lib.QuietBelow
import Derived.BigQuiet
import Derived.Test.YtbpdenfiifcfcaaGreatDoorMai
import Derived.Test.YtbpdenfiifcfcaaGreatDoorMad
import Derived.Test.YtbpdenfiifcfcaaGreatDoorMab
import Derived.Test.YtbpdenfiifcfcaaGreatDoorMag
import Derived.Test.YtbpdenfiifcfcaaGreatDoorMac
import Derived.Test.YtbpdenfiifcfcaaGreatDoorMah
namespace Go.Proofs.YtbpdenfiifcfcaaGreatDoor
open Go.RowKit

set_option maxRecDepth 100000 in
set_option maxHeartbeats 4000000 in
theorem eqf_any (a0 b0 : Option Addr) (c d n m : Nat) (r s : Nm) (w : World) (h1 : RLies w a0 r) (h2 : RLies w b0 s) (hn : n = r.length) (hm : m = s.length) (hr : SmallN r) (hs : SmallN s) :
    Calls Tryz.prog 143 #[.slice a0 n c, .slice b0 m d, .func (.func 144) #[] #[]] w
      fun e w' => e = .returned (.bool (decide (MatchN r s))) ∧ Below w.heap.size w w' := by
  by_cases hl : n = m
  · subst hl
    have hL : n ≤ 1000000 := by rw [hn]; exact hr.1
    have H1 := Lib.hid h1
    have H2 := Lib.hid h2
    have HN := Lib.hid hn
    have HM := Lib.hid hm
    have HR := Lib.hid hr
    have HS := Lib.hid hs
    obtain ⟨v, hv⟩ : ∃ v, v = decide (MatchN r s) := ⟨_, rfl⟩
    have HV := Lib.hid hv
    rw [← hv]
    clear h1 h2 hn hm hr hs hv
    go_enter Tryz.func143, Tryz.ntmps143
    go_wp2_with fail
    go_loopw [17] (fun i wr => ∃ k : Nat, k ≤ n ∧ i = .int .i64 k ∧ (∀ j, j < k → MatchR (r.getD j []) (s.getD j [])) ∧ Below w.heap.size w wr) (fun i _ => n - (intOf i).toNat)
    case atStart => exact ⟨0, Nat.zero_le _, rfl, fun j hj => absurd hj (Nat.not_lt_zero _), Below.refl _ _⟩
    case round =>
      obtain ⟨k, hk, rfl, hA, hb⟩ := hrel
      have HB := Lib.hid hb
      have HA := Lib.hid hA
      clear hb hA
      by_cases hlt : k < n
      · have hd : decide ((k : Int) < (n : Int)) = true := by simp; omega
        obtain ⟨b, o, rfl, hb, a1, c1, e1, _, hL1⟩ := H1.out.at k (by rw [← HN.out]; exact hlt)
        have f1 : wr.cell? ⟨b, o + k, none⟩ = _ := (HB.out.cell (p := ⟨b, o + k, none⟩) hb).trans e1
        obtain ⟨b', o', rfl, hb', a2, c2, e2, _, hL2⟩ := H2.out.at k (by rw [← HM.out]; exact hlt)
        have f2 : wr.cell? ⟨b', o' + k, none⟩ = _ := (HB.out.cell (p := ⟨b', o' + k, none⟩) hb').trans e2
        have hs1 := HR.out.2 k (by rw [← HN.out]; exact hlt)
        have hs2 := HS.out.2 k (by rw [← HM.out]; exact hlt)
        obtain ⟨x, hx⟩ : ∃ x, x = r.getD k [] := ⟨_, rfl⟩
        obtain ⟨y, hy⟩ : ∃ y, y = s.getD k [] := ⟨_, rfl⟩
        rw [← hx] at f1 hs1 hL1
        rw [← hy] at f2 hs2 hL2
        obtain ⟨p, hp⟩ : ∃ p, p = x.length := ⟨_, rfl⟩
        obtain ⟨q, hq⟩ : ∃ q, q = y.length := ⟨_, rfl⟩
        rw [← hp] at f1
        rw [← hq] at f2
        have HMR := Lib.hid (mrel_any a1 a2 c1 c2 p q x y wr (hL1.below HB.out) (hL2.below HB.out) hp hq hs1 hs2)
        have HX := Lib.hid hx
        have HY := Lib.hid hy
        clear e1 e2 hb hb' hs1 hs2 hL1 hL2 hx hy hp hq
        by_cases hmm : MatchR x y
        · rw [decide_eq_true hmm] at HMR
          have HF := Lib.hid (show ∀ j, j < k + 1 → MatchR (r.getD j []) (s.getD j []) from fun j hj => by
            by_cases e : j = k
            · rw [e, ← HX.out, ← HY.out]; exact hmm
            · exact HA.out j (by omega))
          clear hmm
          go_wp2_with (go_at_call 144; (with_reducible refine HMR.out.mono ?_); rintro e w1 ⟨rfl, hb1⟩; have HB1 := Lib.hid (below_next HB.out hb1); clear hb1)
          go_roundw
          case rel => exact ⟨k + 1, by omega, by go_num, HF.out, HB1.out⟩
          case measure => simp [intOf]; omega
        · rw [decide_eq_false hmm] at HMR
          have HF := Lib.hid (show v = false by rw [HV.out]; exact decide_eq_false (fun h => hmm (by rw [HX.out, HY.out]; exact h.2 k (by rw [← HN.out]; exact hlt))))
          clear hmm
          go_wp2_with (go_at_call 144; (with_reducible refine HMR.out.mono ?_); rintro e w1 ⟨rfl, hb1⟩; have HB1 := Lib.hid (below_next HB.out hb1); clear hb1)
          go_ret
          exact ⟨by rw [HF.out]; rfl, HB1.out⟩
      · have hd : decide ((k : Int) < (n : Int)) = false := by simp; omega
        have HF := Lib.hid (show v = true by rw [HV.out]; exact decide_eq_true ⟨by rw [← HN.out, ← HM.out], fun j hj => HA.out j (by rw [← HN.out] at hj; omega)⟩)
        go_wp2_with fail
        go_ret
        exact ⟨by rw [HF.out]; rfl, HB.out⟩
  · have e : decide (MatchN r s) = false := decide_eq_false (fun h => hl (by rw [hn, hm]; exact h.1))
    have hd : ((n : Int) != (m : Int)) = true := by simp; omega
    rw [e]
    clear h1 h2 hn hm hr hs hl e
    go_enter Tryz.func143, Tryz.ntmps143
    go_wp2_with fail
    go_ret
    exact ⟨rfl, Below.refl _ _⟩

theorem belowTwo (w : World) (o p : Obj) : Below w.heap.size w ((w.alloc o).alloc p) := below_next (belowNew w o) (belowNew _ p)
theorem slice_head (a0 : Option Addr) (n c m : Nat) (hm : m ≤ c) (W : World) : (Instr.slice 25 (.slice a0 n c) none (some (.int .i64 (m : Int))) none).run Tryz.prog W = .ok (.slice a0 m c) W := by
  have ha : ∀ a : Addr, a.add 0 = a := fun a => by obtain ⟨b, o, s⟩ := a; cases s <;> simp [Addr.add]
  have hc : (0 : Int) ≤ (m : Int) ∧ (m : Int) ≤ (c : Int) := by omega
  simp [Instr.slice, run_underlying Tryz.underlying25, Instr.sliceBounds, Instr.sliceBound, asIntOf, Result.andThen, hc]
  rw [if_pos hm]
  show Result.ok (Value.slice (if c = 0 then a0 else Option.map (fun x => x.add 0) a0) m c) W = _
  have he : Option.map (fun x : Addr => x.add 0) a0 = a0 := by cases a0 <;> simp [ha]
  rw [he, ite_self]

set_option maxRecDepth 100000 in
set_option maxHeartbeats 8000000 in
theorem within_core (a0 b0 : Option Addr) (c d n m : Nat) (r s : Nm) (w : World) (h1 : RLies w a0 r) (h2 : RLies w b0 s) (hn : n = r.length) (hm : m = s.length) (hc : n ≤ c) (hr : SmallN r) (hs : SmallN s) :
    Calls Tryz.prog 120 #[.agg #[.slice a0 n c], .agg #[.slice b0 m d]] w fun e w' => e = .returned (.bool (decide (WithinN r s))) ∧ Below w.heap.size w w' := by
  obtain ⟨W, hW⟩ : ∃ W, W = (w.alloc (.cells #[.slice a0 n c] 27)).alloc (.cells #[.slice b0 m d] 27) := ⟨_, rfl⟩
  have hwr : (w.alloc (.cells #[.slice a0 n c] 27)).alloc (.cells #[.slice b0 m d] 27) = W := hW.symm
  have hb : Below w.heap.size w W := by rw [hW]; exact belowTwo w _ _
  have k0 : W.cell? ⟨w.heap.size, 0, none⟩ = some (.slice a0 n c) := by
    rw [hW, World.cell?_alloc_old _ _ _ (by simp), cell_of_row _ _ 0 _ _ _ (heap_alloc_new w _)]; rfl
  have k1 : W.cell? ⟨w.heap.size + 1, 0, none⟩ = some (.slice b0 m d) := by
    rw [hW]
    have := cell_of_row (w := (w.alloc (.cells #[.slice a0 n c] 27)).alloc (.cells #[.slice b0 m d] 27)) (w.heap.size + 1) 0 #[.slice b0 m d] 27 (0, 0) (by have := heap_alloc_new (w.alloc (.cells #[.slice a0 n c] 27)) (.cells #[.slice b0 m d] 27); simpa using this)
    rw [this]; rfl
  have HB := Lib.hid hb
  by_cases hl : m ≤ n
  · have HE := Lib.hid (fun V (hb : Below w.heap.size w V) => eqf_any a0 b0 c d m m (r.take m) s V ((h1.below hb).take m) (h2.below hb) (by rw [List.length_take]; omega) hm (by
      refine ⟨by rw [List.length_take]; have := hr.1; omega, fun i hi => ?_⟩
      rw [List.length_take] at hi
      rw [getD_take _ _ _ (by omega)]
      exact hr.2 i (by omega)) hs)
    obtain ⟨v, hv⟩ : ∃ v, v = decide (WithinN r s) := ⟨_, rfl⟩
    have hv2 : decide (MatchN (r.take m) s) = v := by rw [hv, decide_eq_decide, within_take r s (by omega), hm]
    rw [← hv]
    rw [hv2] at HE
    have hd : decide ((m : Int) ≤ (n : Int)) = true := by simp; omega
    have hsl := slice_head a0 n c m (by omega)
    have hms : m ≤ 1000000 := by rw [hm]; exact hs.1
    clear h1 h2 hn hm hr hs hv hv2 hc hW hb
    go_enter Tryz.func120, Tryz.ntmps120
    go_wp2_with fail
    have c0 := cell_regrown k0
    have c1 := cell_regrown k1
    have cE : ∀ d' os, Calls Tryz.prog 143 #[.slice a0 m c, .slice b0 m d, .func (.func 144) #[] #[]] (Sort.grow (redrawn W d') os)
        fun e w'' => e = .returned (.bool v) ∧ ∃ p : Regrown, w'' = Sort.grow (redrawn W p.d) p.os := fun d' os => Calls.regrown_of (HE.out _ (HB.out.trans ((below_regrown W d' os).mono HB.out.size)))
    refine wp_region_quiet_below (by kernel_rfl) (by kernel_rfl) ?_
    repeat (go_big_quiet_step (with_reducible exact cE _ _))
    refine wpQuiet_nil ?_
    intro _ hw'
    obtain ⟨⟨dq, osq⟩, hw''⟩ := hw'
    subst hw''
    clear k0 k1 c0 c1 cE
    have HBZ := Lib.hid (HB.out.trans ((below_regrown W dq osq).mono HB.out.size))
    go_wp2_with fail
    go_ret
    exact ⟨rfl, HBZ.out⟩
  · have e : decide (WithinN r s) = false := decide_eq_false (fun h => hl (by rw [hn, hm]; exact h.1))
    have hd : decide ((m : Int) ≤ (n : Int)) = false := by simp; omega
    rw [e]
    clear h1 h2 hn hm hr hs hc hW hb e
    go_enter Tryz.func120, Tryz.ntmps120
    go_wp2_with fail
    have c0 := cell_regrown k0
    have c1 := cell_regrown k1
    refine wp_region_quiet_below (by kernel_rfl) (by kernel_rfl) ?_
    repeat (go_big_quiet_step (fail))
    refine wpQuiet_nil ?_
    intro _ hw'
    obtain ⟨⟨dq, osq⟩, hw''⟩ := hw'
    subst hw''
    clear k0 k1 c0 c1
    have HBZ := Lib.hid (HB.out.trans ((below_regrown W dq osq).mono HB.out.size))
    go_wp2_with fail
    go_ret
    exact ⟨rfl, HBZ.out⟩
end Go.Proofs.YtbpdenfiifcfcaaGreatDoor
namespace Go.Proofs.YtbpdenfiifcfcaaGreatDoor
open Go.RowKit

/-! ### matchRDN -/
end Go.Proofs.YtbpdenfiifcfcaaGreatDoor
namespace Go.Proofs.YtbpdenfiifcfcaaGreatDoor
open Go.RowKit

end Go.Proofs.YtbpdenfiifcfcaaGreatDoor
namespace Go.Proofs.YtbpdenfiifcfcaaGreatDoor
open Go.RowKit

end Go.Proofs.YtbpdenfiifcfcaaGreatDoor
namespace Go.Proofs.YtbpdenfiifcfcaaGreatDoor
open Go.RowKit

end Go.Proofs.YtbpdenfiifcfcaaGreatDoor
namespace Go.Proofs.YtbpdenfiifcfcaaGreatDoor
open Go.RowKit

end Go.Proofs.YtbpdenfiifcfcaaGreatDoor
namespace Go.Proofs.YtbpdenfiifcfcaaGreatDoor
open Go.RowKit

end Go.Proofs.YtbpdenfiifcfcaaGreatDoor
namespace Go.Proofs.YtbpdenfiifcfcaaGreatDoor
open Go.RowKit

theorem at_facts {w : World} {g : Nat} {x y z : Value} {t : TypeId} (h : w.heap[g]? = some (.cells #[x, y, z] t (0, 0))) :
    w.cell? ⟨g, 0, none⟩ = some x ∧ w.cell? ⟨g, 1, none⟩ = some y ∧ w.cell? ⟨g, 2, none⟩ = some z ∧ w.frozen? ⟨g, 0, none⟩ = false ∧ w.frozen? ⟨g, 1, none⟩ = false ∧ w.frozen? ⟨g, 2, none⟩ = false ∧ g < w.heap.size := by
  refine ⟨?_, ?_, ?_, Lib.frozen_of_heap h 0, Lib.frozen_of_heap h 1, Lib.frozen_of_heap h 2, (Array.getElem?_eq_some_iff.1 h).1⟩
  · rw [Lib.cell_of_heap h]; rfl
  · rw [Lib.cell_of_heap h]; rfl
  · rw [Lib.cell_of_heap h]; rfl
theorem at_set {w : World} {g : Nat} {x y z a b c : Value} {t : TypeId} (h : w.heap[g]? = some (.cells #[x, y, z] t (0, 0))) :
    (((w.setCell ⟨g, 0, none⟩ a).setCell ⟨g, 1, none⟩ b).setCell ⟨g, 2, none⟩ c).heap[g]? = some (.cells #[a, b, c] t (0, 0)) := by
  simp [World.setCell, Array.getElem?_modify, h]
theorem atSize : (Tryz.prog.info? 86).map (·.size) = some 3 := by kernel_rfl
end Go.Proofs.YtbpdenfiifcfcaaGreatDoor
namespace Go.Proofs.YtbpdenfiifcfcaaGreatDoor
open Go.RowKit

end Go.Proofs.YtbpdenfiifcfcaaGreatDoor
namespace Go.Proofs.YtbpdenfiifcfcaaGreatDoor
open Go.RowKit

theorem one_facts {w : World} {g : Nat} {x : Value} {t : TypeId} (h : w.heap[g]? = some (.cells #[x] t (0, 0))) : w.cell? ⟨g, 0, none⟩ = some x ∧ w.frozen? ⟨g, 0, none⟩ = false ∧ g < w.heap.size := by
  refine ⟨?_, Lib.frozen_of_heap h 0, (Array.getElem?_eq_some_iff.1 h).1⟩
  rw [Lib.cell_of_heap h]; rfl
theorem one_set {w : World} {g : Nat} {x a : Value} {t : TypeId} (h : w.heap[g]? = some (.cells #[x] t (0, 0))) : (w.setCell ⟨g, 0, none⟩ a).heap[g]? = some (.cells #[a] t (0, 0)) := by
  simp [World.setCell, Array.getElem?_modify, h]
theorem nmSize : (Tryz.prog.info? 27).map (·.size) = some 1 := by kernel_rfl
theorem rdInfo : (Tryz.prog.info? 84).map (fun i => (i.zero, i.size, i.bytes)) = some (some (.slice none 0 0), 1, 24) := by kernel_rfl
theorem row_news (w1 : World) (v : Value) (T : TypeId) : ∀ j u, [v][j]? = some u → (w1.alloc (.cells #[v] T)).cell? ((⟨w1.heap.size, 0, none⟩ : Addr).add j) = some u := by
  intro j u h
  exact news_row w1 #[v] T j u (by simpa using h)

theorem one_one (a : Option Addr) (n c : Nat) : ∀ u ∈ [Value.slice a n c], u.oneCell' = true := by
  intro u hu
  obtain rfl : u = _ := by simpa using hu
  rfl
/-- The box of a name stays while its row grows. -/
theorem more_box {wr w1 w2 : World} {p B n k : Nat} {x v : Value} {T e : TypeId} {xs : List Value} {Y : Obj} (h : w1.heap[p]? = some (.cells #[x] T (0, 0))) (hp : p < B) (ho : wr.ownsRow B e k v n xs) (hg : (w1.alloc Y).grownBy w2 v.ownBlock) : w2.heap[p]? = some (.cells #[x] T (0, 0)) := by
  have hl : p < w1.heap.size := (Array.getElem?_eq_some_iff.1 h).1
  refine (hg.block p (by simp; omega) (fun e => ?_)).trans (((belowNew w1 Y).block p hl).trans h)
  have := (World.ownsRow.lt ho p e.symm).1
  omega
end Go.Proofs.YtbpdenfiifcfcaaGreatDoor
namespace Go.Proofs.YtbpdenfiifcfcaaGreatDoor
open Go.RowKit

/-- The slice value v, of memory from block B on, holds the texts ss. -/
def OwnT (w : World) (B : Nat) (v : Value) (ss : List ByteArray) : Prop := w.ownsRow B 9 1 v ss.length (ss.map Value.string)
theorem OwnT.cells {w : World} {B N : Nat} {v : Value} {ss : List ByteArray} (h : OwnT w B v ss) (hN : N = ss.length) (h0 : ss ≠ []) :
    ∃ g cp, v = .slice (some ⟨g, 0, none⟩) N cp ∧ g < w.heap.size ∧ B ≤ g ∧ N ≤ cp ∧ ∀ j, j < N → w.cell? ⟨g, j, none⟩ = some (.string (ss.getD j ⟨#[]⟩)) := by
  subst hN
  rcases h.2 with ⟨_, h1⟩ | ⟨g, cap, cur, rfl, hB, hg, hn, _, hcs, htk⟩
  · exact absurd (List.eq_nil_of_length_eq_zero h1) h0
  · refine ⟨g, cap, rfl, (Array.getElem?_eq_some_iff.1 hg).1, hB, hn, fun j hj => ?_⟩
    rw [cell_of_row w g j _ _ _ hg]
    have : (cur.toList.take (ss.length * 1))[j]? = some (.string ss[j]) := by rw [htk]; simp [hj]
    rw [List.getElem?_take_of_lt (by omega)] at this
    rw [List.getD_eq_getElem?_getD, List.getElem?_eq_getElem hj]
    simpa using this
theorem strT_round {w wr w2 : World} {B : Nat} {v v' : Value} {D : List ByteArray} {y : ByteArray} {X : Obj} (hB : w.heap.size ≤ B) (hown : OwnT wr B v D) (hb : Below w.heap.size w wr)
    (hown2 : w2.ownsRow B 9 1 v' (D.length + 1) (D.map Value.string ++ [.string y])) (hgr2 : (wr.alloc X).grownBy w2 v.ownBlock) : OwnT w2 B v' (D ++ [y]) ∧ Below w.heap.size w w2 := by
  refine ⟨?_, ?_⟩
  · unfold OwnT
    rw [List.length_append, List.map_append]; exact hown2
  · exact (Below.alloc hb hb.size X).grown hgr2 (by simp; have := hb.size; omega) (fun k e => Nat.le_trans hB (World.ownsRow.lt hown k e).1)
theorem str_one (d : ByteArray) : ∀ u ∈ [Value.string d], u.oneCell' = true := by
  intro u hu
  obtain rfl : u = _ := by simpa using hu
  rfl
abbrev dl (s : ByteArray) : List UInt8 := s.data.toList
theorem map_dl_inj {a b : List ByteArray} (h : a.map dl = b.map dl) : a = b := by
  induction a generalizing b with
  | nil => cases b with
    | nil => rfl
    | cons y t => simp at h
  | cons x r ih => cases b with
    | nil => simp at h
    | cons y t =>
      rw [List.map_cons, List.map_cons] at h
      injection h with h1 h2
      rw [list_inj h1, ih h2]
theorem take_all_drop {L : List UInt8} {a i : Nat} (h : i = L.length) : (L.take i).drop a = L.drop a := by rw [h, List.take_length]

set_option maxRecDepth 100000 in
set_option maxHeartbeats 4000000 in
theorem rsplit_any (s : ByteArray) (cc : UInt8) (n : Nat) (hcn : n = cc.toNat) (w : World) (hs : s.size ≤ 150000) :
    Calls Tryz.prog 88 #[.string s, .int .u8 (n : Int)] w fun e w' => (∃ v, e = .returned v ∧ OwnT w' w.heap.size v (pcsS cc s)) ∧ Below w.heap.size w w' := by
  obtain ⟨i0, hi, hz0, hz1, hz2⟩ := info_parts strInfo
  have HCN := Lib.hid hcn
  obtain ⟨L, hL⟩ : ∃ L, L = s.data.toList := ⟨_, rfl⟩
  have HL := Lib.hid hL
  have HSP := Lib.hid (pcsS_spl cc s)
  rw [← hL] at HSP
  have HLL := Lib.hid (show L.length = s.size by rw [hL]; rfl)
  clear hcn hL
  go_enter Tryz.func88, Tryz.ntmps88
  go_wp2_with fail
  go_loopw [5, 6, 7] (fun v t u wr => ∃ (i a : Nat) (P : List ByteArray), u = .int .i64 (i : Int) ∧ t = .int .i64 (a : Int) ∧ i ≤ s.size + 1 ∧ P.length ≤ i ∧ OwnT wr w.heap.size v P ∧ Below w.heap.size w wr ∧
      ((a ≤ i ∧ i ≤ s.size ∧ cc ∉ (L.take i).drop a ∧ ∀ qs, Spl cc (L.drop a) qs → Spl cc L (P.map dl ++ qs)) ∨ (i = s.size + 1 ∧ Spl cc L (P.map dl)))) (fun _ _ u _ => s.size + 1 - (intOf u).toNat)
  case atStart => exact ⟨0, 0, [], rfl, rfl, Nat.zero_le _, Nat.zero_le _, World.ownsRow_nil _ _ _ _, Below.refl _ _, .inl ⟨Nat.le_refl _, Nat.zero_le _, by simp, fun qs h => by simpa using h⟩⟩
  case round =>
    obtain ⟨i, a, P, rfl, rfl, hi1, hPl, ho, hb, hcase⟩ := hrel
    have HO := Lib.hid ho
    have HB := Lib.hid hb
    clear ho hb
    rcases hcase with ⟨ha, his, hno, hq⟩ | ⟨hie, hq⟩
    · have d1 : decide ((i : Int) ≤ (s.size : Int)) = true := by simp; omega
      have HNO := Lib.hid hno
      have HQ := Lib.hid hq
      clear hno hq
      by_cases hbyte : i < s.size ∧ u8at s i ≠ n
      · obtain ⟨hlt, hne⟩ := hbyte
        have d2 : ((i : Int) == (s.size : Int)) = false := by simp; omega
        have hix := fun w => run_index_u8 (P := Tryz.prog) Tryz.underlying9 s i hlt (i : Int) rfl w
        obtain ⟨c, hc, hcn⟩ := u8at_list s i hlt
        rw [← HL.out] at hc
        have HNX := Lib.hid (show cc ∉ (L.take (i + 1)).drop a by
          rw [part_snoc ha hc]
          intro hm
          rcases List.mem_append.1 hm with hm | hm
          · exact HNO.out hm
          · exact hne (by rw [hcn, HCN.out, List.mem_singleton.1 hm]))
        generalize u8at s i = m at hix hne
        have d3 : ((m : Int) == (n : Int)) = false := by simp; omega
        clear hc hcn
        go_wp2_with fail
        go_roundw
        case rel => exact ⟨i + 1, a, P, by go_num, rfl, by omega, by omega, HO.out, HB.out, .inl ⟨by omega, by omega, HNX.out, HQ.out⟩⟩
        case measure => first | (simp [intOf]; done) | (simp [intOf]; omega)
      · have hor : (i = s.size) ∨ (i < s.size ∧ u8at s i = n) := by
          rcases Nat.lt_or_ge i s.size with h | h
          · exact .inr ⟨h, Classical.byContradiction fun e => hbyte ⟨h, e⟩⟩
          · left; omega
        clear hbyte
        rcases hor with hie | ⟨hlt, hbn⟩
        · subst hie
          have hsl : ∀ w, (Instr.slice 9 (.string s) (some (.int .i64 (a : Int))) (some (.int .i64 (s.size : Int))) none).run Tryz.prog w = .ok (.string (s.extract a s.size)) w := fun w => by
            have := run_slice_string (P := Tryz.prog) w 9 s .i64 .i64 (a : Int) (s.size : Int) Tryz.underlying9 (by omega) (by omega) (by omega)
            simpa using this
          have HEX := Lib.hid (show dl (s.extract a s.size) = (L.take s.size).drop a by
            show (s.extract a s.size).data.toList = _
            rw [HL.out, ByteArray.data_extract, Array.toList_extract, List.extract_eq_take_drop, ← List.drop_take])
          generalize s.extract a s.size = d at hsl HEX
          have d2 : ((s.size : Int) == (s.size : Int)) = true := by simp
          have HFIN := Lib.hid (show Spl cc L ((P ++ [d]).map dl) by
            rw [List.map_append, List.map_singleton, HEX.out, take_all_drop HLL.out.symm]
            exact HQ.out _ (spl_one (by have := HNO.out; rwa [take_all_drop HLL.out.symm] at this)))
          go_wp2_with (at_builtin; (refine wpList_append_own _ rfl (.tmp 25) (.tmp 30) 46 rfl w.heap.size 9 i0 (.string ByteArray.empty) 1 16 Tryz.underlying46 hi hz0 hz1 hz2 rfl (by decide) _ P.length (P.map Value.string) rfl (World.ownsRow.alloc HO.out _) ⟨wr.heap.size, 0, none⟩ 1 1 [.string d] rfl rfl (row_news wr _ _) (str_one _) (by unfold maxLen; omega) (by omega) (by have := HB.out.size; simp; omega) ?_); intro v' w2 hown2 hgr2 _; obtain ⟨P1, P2⟩ := strT_round (Nat.le_refl _) HO.out HB.out hown2 hgr2; have HP1 := Lib.hid P1; have HP2 := Lib.hid P2; clear hown2 hgr2 P1 P2)
          go_roundw
          case rel => exact ⟨s.size + 1, s.size + 1, P ++ [d], by go_num, by go_num, Nat.le_refl _, by simp; omega, HP1.out, HP2.out, .inr ⟨rfl, HFIN.out⟩⟩
          case measure => first | (simp [intOf]; done) | (simp [intOf]; omega)
        · have d2 : ((i : Int) == (s.size : Int)) = false := by simp; omega
          have hsl : ∀ w, (Instr.slice 9 (.string s) (some (.int .i64 (a : Int))) (some (.int .i64 (i : Int))) none).run Tryz.prog w = .ok (.string (s.extract a i)) w := fun w => by
            have := run_slice_string (P := Tryz.prog) w 9 s .i64 .i64 (a : Int) (i : Int) Tryz.underlying9 (by omega) (by omega) (by omega)
            simpa using this
          have HEX := Lib.hid (show dl (s.extract a i) = (L.take i).drop a by
            show (s.extract a i).data.toList = _
            rw [HL.out, ByteArray.data_extract, Array.toList_extract, List.extract_eq_take_drop, ← List.drop_take])
          generalize s.extract a i = d at hsl HEX
          have hix : ∀ w, (Instr.index 9 (.string s) (.int .i64 (i : Int))).run Tryz.prog w = .ok (.int .u8 (n : Int)) w := fun w => by
            have := run_index_u8 (P := Tryz.prog) Tryz.underlying9 s i hlt (i : Int) rfl w
            rw [hbn] at this; exact this
          obtain ⟨c, hc, hcn⟩ := u8at_list s i hlt
          rw [← HL.out] at hc
          have hcc : c = cc := UInt8.toNat_inj.1 (by rw [← hcn, hbn, HCN.out])
          rw [hcc] at hc
          have d3 : ((n : Int) == (n : Int)) = true := by simp
          have HFIN := Lib.hid (show ∀ qs, Spl cc (L.drop (i + 1)) qs → Spl cc L ((P ++ [d]).map dl ++ qs) from fun qs h => by
            have h2 := spl_cons HNO.out h
            have e : L.drop a = (L.take i).drop a ++ cc :: L.drop (i + 1) := by
              have hi' : i < L.length := (List.getElem?_eq_some_iff.1 hc).1
              conv => lhs; rw [at_split L i cc hc]
              rw [List.drop_append_of_le_length (by simp; omega)]
            rw [← e] at h2
            have h3 := HQ.out _ h2
            rw [List.map_append, List.map_singleton, HEX.out, List.append_assoc]
            exact h3)
          clear hc hcn hcc hbn
          go_wp2_with (at_builtin; (refine wpList_append_own _ rfl (.tmp 25) (.tmp 30) 46 rfl w.heap.size 9 i0 (.string ByteArray.empty) 1 16 Tryz.underlying46 hi hz0 hz1 hz2 rfl (by decide) _ P.length (P.map Value.string) rfl (World.ownsRow.alloc HO.out _) ⟨wr.heap.size, 0, none⟩ 1 1 [.string d] rfl rfl (row_news wr _ _) (str_one _) (by unfold maxLen; omega) (by omega) (by have := HB.out.size; simp; omega) ?_); intro v' w2 hown2 hgr2 _; obtain ⟨P1, P2⟩ := strT_round (Nat.le_refl _) HO.out HB.out hown2 hgr2; have HP1 := Lib.hid P1; have HP2 := Lib.hid P2; clear hown2 hgr2 P1 P2)
          go_roundw
          case rel => exact ⟨i + 1, i + 1, P ++ [d], by go_num, by go_num, by omega, by simp; omega, HP1.out, HP2.out, .inl ⟨by omega, by omega, by rw [List.drop_eq_nil_of_le (by simp; omega)]; simp, HFIN.out⟩⟩
          case measure => first | (simp [intOf]; done) | (simp [intOf]; omega)
    · have d1 : decide ((i : Int) ≤ (s.size : Int)) = false := by simp; omega
      have HF := Lib.hid (show P = pcsS cc s from map_dl_inj (spl_inj hq HSP.out))
      clear hq
      go_wp2_with fail
      go_ret
      exact ⟨⟨_, rfl, by rw [← HF.out]; exact HO.out⟩, HB.out⟩
end Go.Proofs.YtbpdenfiifcfcaaGreatDoor
namespace Go.Proofs.YtbpdenfiifcfcaaGreatDoor
open Go.RowKit

end Go.Proofs.YtbpdenfiifcfcaaGreatDoor
namespace Go.Proofs.YtbpdenfiifcfcaaGreatDoor
open Go.RowKit

theorem ext_list_h (r : ByteArray) (i j : Nat) : (r.extract i j).data.toList = (r.data.toList.drop i).take (j - i) := by
  rw [ByteArray.data_extract, Array.toList_extract, List.extract_eq_take_drop]
theorem slice_tail_h (s : ByteArray) (i : Nat) (hi : i ≤ s.size) (a : Int) (ha : a = (i : Int)) (w : World) :
    (Instr.slice 9 (.string s) (some (.int .i64 a)) none none).run Tryz.prog w = .ok (.string (strOf (s.data.toList.drop i))) w := by
  subst ha
  have := run_slice_string_from_if (P := Tryz.prog) w 9 s .i64 (i : Int) Tryz.underlying9
  rw [this, if_pos ⟨by omega, by omega⟩]
  have e : (s.extract i s.size).data.toList = s.data.toList.drop i := by
    rw [ext_list_h]
    exact List.take_of_length_le (by rw [List.length_drop]; exact Nat.le_refl _)
  rw [← strOf_of e]
  congr 3
theorem tail_of (L : List UInt8) (i : Nat) (hi : i ≤ L.length) (a : Int) (ha : a = (i : Int)) (w : World) :
    (Instr.slice 9 (.string (strOf L)) (some (.int .i64 a)) none none).run Tryz.prog w = .ok (.string (strOf (L.drop i))) w := slice_tail_h (strOf L) i hi a ha w
theorem head_of (L : List UInt8) (i : Nat) (hi : i ≤ L.length) (a : Int) (ha : a = (i : Int)) (w : World) :
    (Instr.slice 9 (.string (strOf L)) none (some (.int .i64 a)) none).run Tryz.prog w = .ok (.string (strOf (L.take i))) w := by
  subst ha
  have := run_slice_string_to_if (P := Tryz.prog) w 9 (strOf L) .i64 (i : Int) Tryz.underlying9
  rw [this, if_pos ⟨by omega, by rw [strOf_size]; omega⟩]
  have e : ((strOf L).extract 0 i).data.toList = L.take i := by
    rw [ext_list_h, strOf_list, List.drop_zero, Nat.sub_zero]
  rw [← strOf_of e]
  congr 3
end Go.Proofs.YtbpdenfiifcfcaaGreatDoor
