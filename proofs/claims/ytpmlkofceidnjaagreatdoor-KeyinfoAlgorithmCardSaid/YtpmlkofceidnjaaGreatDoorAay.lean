/-
  The walk of the law KeyinfoBack, over what is wanted of the program.
  The walk of the law KeyinfoAlgorithm, over what is wanted of the program.
-/
import Derived.Test.YtpmlkofceidnjaaGreatDoorAap
import Derived.Test.YtpmlkofceidnjaaGreatDoorAak
import Derived.Test.YtpmlkofceidnjaaGreatDoorAaq
import Derived.Test.YtpmlkofceidnjaaGreatDoorAah
import Derived.Deep.RegionLaw
namespace Go.Proofs.YtpmlkofceidnjaaGreatDoor
open Go.RowKit

theorem but_baseb {w w' : World} {q B : Nat} (hb : But q w w') (hB : B ≤ q) (hBw : B ≤ w.heap.size) : Below B w w' :=
  ⟨hb.os, hb.tape, hb.output, hb.size, fun k hk => hb.block k (Nat.lt_of_lt_of_le hk hBw) (by simp; omega)⟩
end Go.Proofs.YtpmlkofceidnjaaGreatDoor
namespace Go.Proofs.YtpmlkofceidnjaaGreatDoor
open Go.RowKit

/-! ### A row of elements whose tags are any numbers -/
def zCells (e : KeyT) : List Value := [.int .i64 e.1, .string e.2.1, .string e.2.2]
def zsCells (l : List KeyT) : List Value := l.flatMap zCells
theorem zsCells_snoc (l : List KeyT) (e : KeyT) : zsCells (l ++ [e]) = zsCells l ++ zCells e := by simp [zsCells]
theorem zCells_one (e : KeyT) : ∀ u ∈ zCells e, u.oneCell' = true := by
  intro u hu
  simp only [zCells, List.mem_cons, List.not_mem_nil, or_false] at hu
  rcases hu with rfl | rfl | rfl <;> rfl
def OwnZ (w : World) (B : Nat) (v : Value) (l : List KeyT) : Prop := w.ownsRow B 42 3 v l.length (zsCells l)
theorem OwnZ.below {w w' : World} {B : Nat} {v : Value} {l : List KeyT} (h : OwnZ w B v l) (hb : Below w.heap.size w w') : OwnZ w' B v l := own_below h hb
theorem ownz_one (w : World) (e : KeyT) (cs : Array Value) (hcs : cs = (zCells e).toArray) (B : Nat) (hB : B ≤ w.heap.size) : OwnZ (w.alloc (.cells cs 42)) B (.slice (some ⟨w.heap.size, 0, none⟩) 1 1) [e] := by
  subst hcs
  exact ⟨rfl, .inr ⟨w.heap.size, 1, _, rfl, hB, heap_alloc_new w _, Nat.le_refl _, by decide, rfl, rfl⟩⟩
theorem zs_round {w wr w1 w2 : World} {B B0 : Nat} {v v' : Value} {D : List KeyT} {e : KeyT} {X Y : Obj} (hown : OwnZ wr B v D) (hb : Below B0 w wr) (hB : B0 ≤ B) (hB0 : B0 ≤ w.heap.size) (hb1 : Below wr.heap.size wr w1)
    (hown2 : w2.ownsRow B 42 3 v' (D.length + 1) (zsCells D ++ zCells e)) (hgr2 : ((w1.alloc X).alloc Y).grownBy w2 v.ownBlock) : OwnZ w2 B v' (D ++ [e]) ∧ Below B0 w w2 := by
  have h1 := hb.size
  have h2 := hb1.size
  refine ⟨?_, ?_⟩
  · unfold OwnZ
    rw [List.length_append, zsCells_snoc]; exact hown2
  · exact (((hb.trans (hb1.mono (by omega))).alloc (by omega) X).alloc (by simp; omega) Y).grown hgr2 (by simp; omega) (fun k e => Nat.le_trans hB (World.ownsRow.lt hown k e).1)
theorem zs_news (w1 : World) (X : Obj) (e : KeyT) (cs : Array Value) (hcs : cs = (zCells e).toArray) :
    ∀ j u, (zCells e)[j]? = some u → ((w1.alloc X).alloc (.cells cs 42)).cell? ((⟨w1.heap.size + 1, 0, none⟩ : Addr).add j) = some u := by
  intro j u h
  have := news_row (w1.alloc X) cs 42 j u (by rw [hcs]; simpa using h)
  simpa using this
theorem zs_cell {w : World} {g : Nat} {B cap : Nat} {l : List KeyT} (h : OwnZ w B (.slice (some ⟨g, 0, none⟩) l.length cap) l) (i : Nat) (hi : i < l.length) (j : Nat) (hj : j < 3) :
    w.cell? ⟨g, i * 3 + j, none⟩ = (zCells l[i])[j]? := by
  rw [World.ownsRow.cellAt h (i * 3 + j) (by omega)]
  clear h
  induction l generalizing i with
  | nil => exact absurd hi (Nat.not_lt_zero _)
  | cons e r ih =>
    have e0 : zsCells (e :: r) = zCells e ++ zsCells r := rfl
    have el : (zCells e).length = 3 := rfl
    rw [e0]
    cases i with
    | zero => rw [List.getElem?_append_left (by omega)]; simp
    | succ i =>
      rw [List.getElem?_append_right (by omega), el, show (i + 1) * 3 + j - 3 = i * 3 + j by omega, ih i (by simpa using hi)]
      rfl
/-- Where the row lies. -/
theorem OwnZ.form {w : World} {B : Nat} {v : Value} {l : List KeyT} (h : OwnZ w B v l) (h0 : l ≠ []) : ∃ g c, v = .slice (some ⟨g, 0, none⟩) l.length c ∧ g < w.heap.size ∧
    ∀ k, k < l.length → ∃ e ∈ l, w.cell? ⟨g, k * 3, none⟩ = some (.int .i64 e.1) ∧ w.cell? ⟨g, k * 3 + 1, none⟩ = some (.string e.2.1) ∧ w.cell? ⟨g, k * 3 + 2, none⟩ = some (.string e.2.2) := by
  have h' := h
  rcases h.2 with ⟨hv, h1⟩ | ⟨g, cap, cur, hv, _, hg, _⟩
  · exact absurd (List.eq_nil_of_length_eq_zero h1) h0
  · rw [hv] at h'
    exact ⟨g, cap, hv, (Array.getElem?_eq_some_iff.1 hg).1, fun k hk => ⟨l[k], List.getElem_mem hk, zs_cell h' k hk 0 (by omega), zs_cell h' k hk 1 (by omega), zs_cell h' k hk 2 (by omega)⟩⟩
theorem row_apart {w : World} {q B : Nat} {e t : TypeId} {k n : Nat} {v : Value} {xs : List Value} {cs : Array Value} {fr : Nat × Nat} (h : w.ownsRow B e k v n xs) (hq : w.heap[q]? = some (.cells cs t fr)) (hne : e ≠ t) : some q ≠ v.ownBlock := by
  rcases h.2 with ⟨hv, _⟩ | ⟨g, cap, cur, hv, _, hg, _⟩
  · rw [hv]; simp [Value.ownBlock]
  · rw [hv]
    intro e1
    simp [Value.ownBlock] at e1
    subst e1
    rw [hg] at hq
    simp at hq
    exact hne hq.2.1
theorem oneVal_formz (x : ByteArray) : ∃ (k : KeyT) (E : Nat), oneVal x = .tuple #[.agg #[.int .i64 k.1, .string k.2.1, .string k.2.2], .int .i64 (E : Int)] ∧ k.2.1.size ≤ x.size := by
  unfold oneVal
  by_cases h : oneErr x = 0
  · rw [if_pos h]
    exact ⟨((rdTag x : Int), rdContent x, rdRaw x), 0, rfl, Nat.le_of_lt (rdContent_size (oneErr_rd h))⟩
  · rw [if_neg h]
    exact ⟨(0, ⟨#[]⟩, ⟨#[]⟩), oneErr x, rfl, Nat.zero_le _⟩
theorem five_rowb {W : World} {g : Nat} {a b c d e : Value} {t : TypeId} (h : W.heap[g]? = some (.cells #[a, b, c, d, e] t (0, 0))) (j : Nat) (hj : j < 5) : W.cell? ⟨g, j, none⟩ = some ([a, b, c, d, e].getD j undef) := by
  rw [Lib.cell_of_heap h]
  obtain rfl | rfl | rfl | rfl | rfl : j = 0 ∨ j = 1 ∨ j = 2 ∨ j = 3 ∨ j = 4 := by omega
  all_goals rfl
theorem elz_new (w : World) (x y z : Value) : (w.alloc (.cells #[x, y, z] 42)).heap[w.heap.size]? = some (.cells #[x, y, z] 42 (0, 0)) := heap_alloc_new w _
/-- The reference's Wrap of two strings. -/
theorem rwrap_two (x y : ByteArray) (hx : x.size + y.size ≤ 1099511627776) : ∃ (S : ByteArray) (E : Nat), S.size ≤ 131080 ∧ ∀ W : World,
    Calls Tryz.prog 19 #[.int .i64 48, .slice (some ⟨W.heap.size, 0, none⟩) 2 2] (W.alloc (.cells #[.string x, .string y] 9)) fun e w' => e = .returned (.tuple #[.string S, .int .i64 (E : Int)]) ∧ Below (W.alloc (.cells #[.string x, .string y] 9)).heap.size (W.alloc (.cells #[.string x, .string y] 9)) w' := by
  refine ⟨wrapStr 48 (cat_t [x, y]), wrapErr 48 (cat_t [x, y]).length, wrapStr_size _ _, fun W => ?_⟩
  exact rwrap_any 48 _ _ _ (reads_two (bx2a W x y _) (bx2b W x y _)) (by simp) (by rw [cat_two, List.length_append]; exact hx)
set_option maxRecDepth 100000 in
set_option maxHeartbeats 1000000 in
theorem kall_out (hA : AlgPk) (hE : EncPk) (hD : DecPk) (t0 : Int) (c0 r0 more : ByteArray) (a : Option Addr) (cap n : Nat) (hbig : 200 < c0.size ∨ 200 < r0.size ∨ 100 < more.size) (w : World) (hP : Pow10 w) :
    Calls Tryz.prog 5 #[.agg #[.int .i64 t0, .string c0, .string r0], .slice a n cap, .string more] w fun e w' => e = .returned (.bool true) ∧ Below w.heap.size w w' := by
  have hq := elz_new w (.int .i64 t0) (.string c0) (.string r0)
  obtain ⟨q0, q1, q2, hlt⟩ := kcell3 hq
  have HAW := Lib.hid (awakek_any hA hE hD (w.alloc (.cells #[.int .i64 t0, .string c0, .string r0] 42)) (hP.below (belowNew w _)))
  clear hA hE hD hP hq
  by_cases h1 : 200 < c0.size
  · have d1 : decide ((200 : Int) < (c0.size : Int)) = true := by simp; omega
    clear hbig h1
    go_enter Tryz.func5, Tryz.ntmps5
    go_wp2_with (go_at_call 6; (with_reducible refine HAW.out.mono ?_); rintro e w1 ⟨rfl, hb1⟩; have HB1 := Lib.hid (below_next (belowNew w _) hb1); clear hb1)
    go_ret
    exact ⟨rfl, HB1.out⟩
  · have d1 : decide ((200 : Int) < (c0.size : Int)) = false := by simp; omega
    by_cases h2 : 200 < r0.size
    · have d2 : decide ((200 : Int) < (r0.size : Int)) = true := by simp; omega
      clear hbig h1 h2
      go_enter Tryz.func5, Tryz.ntmps5
      go_wp2_with (go_at_call 6; (with_reducible refine HAW.out.mono ?_); rintro e w1 ⟨rfl, hb1⟩; have HB1 := Lib.hid (below_next (belowNew w _) hb1); clear hb1)
      go_ret
      exact ⟨rfl, HB1.out⟩
    · have d2 : decide ((200 : Int) < (r0.size : Int)) = false := by simp; omega
      have d3 : decide ((100 : Int) < (more.size : Int)) = true := by simp; omega
      clear hbig h1 h2
      go_enter Tryz.func5, Tryz.ntmps5
      go_wp2_with (go_at_call 6; (with_reducible refine HAW.out.mono ?_); rintro e w1 ⟨rfl, hb1⟩; have HB1 := Lib.hid (below_next (belowNew w _) hb1); clear hb1)
      go_ret
      exact ⟨rfl, HB1.out⟩
set_option maxRecDepth 100000 in
set_option maxHeartbeats 4000000 in
theorem kall_in (hA : AlgPk) (hC : ChkPk) (hE : EncPk) (hD : DecPk) (t0 : Int) (c0 r0 more : ByteArray) (a : Option Addr) (cap : Nat) (zs : List Int) (hc0 : c0.size ≤ 200) (hr0 : r0.size ≤ 200) (hm0 : more.size ≤ 100) (w : World) (hP : Pow10 w) (hli : ILies w a zs) (hz : zs.length ≤ 9223372036854775807) :
    Calls Tryz.prog 5 #[.agg #[.int .i64 t0, .string c0, .string r0], .slice a zs.length cap, .string more] w fun e w' => e = .returned (.bool true) ∧ Below w.heap.size w w' := by
  have d1 : decide ((200 : Int) < (c0.size : Int)) = false := by simp; omega
  have d2 : decide ((200 : Int) < (r0.size : Int)) = false := by simp; omega
  have d3 : decide ((100 : Int) < (more.size : Int)) = false := by simp; omega
  obtain ⟨i0, hi, hz0, hz1, hz2⟩ := info_parts elInfo
  have HAW := Lib.hid (fun W hp => awakek_any hA hE hD W hp)
  obtain ⟨z, hzz⟩ : ∃ z, z = zs.length := ⟨_, rfl⟩
  have HND : Hid (∀ W : World, ILies W a zs → Calls Tryz.prog 7 #[.slice a z cap] W fun e w' => e = .returned (.pointer (some ⟨W.heap.size, 0, none⟩)) ∧ DeckAt w' W.heap.size a cap zs 0 ∧ Below W.heap.size W w') := Lib.hid fun W hl => by rw [hzz]; exact new_any a cap zs W hl hz
  have HCH := Lib.hid hC
  obtain ⟨A, hAA⟩ : ∃ A, A = algS := ⟨_, rfl⟩
  have hAs : A.size = 14 := by rw [hAA]; exact algS_size
  have HAL : Hid (∀ W : World, Calls Tryz.prog 23 #[] W fun e w' => e = .returned (.string A) ∧ Below W.heap.size W w') := Lib.hid fun W => by rw [hAA]; exact hA W
  have HRA : Hid (∀ W : World, Calls Tryz.prog 18 #[] W fun e w' => e = .returned (.string A) ∧ Below W.heap.size W w') := Lib.hid fun W => by rw [hAA]; exact ralg_any W
  have hAi : (A.size : Int) = 14 := by omega
  obtain ⟨Y, hY⟩ : ∃ Y, Y = A.extract 2 A.size := ⟨_, rfl⟩
  have hYs : Y.size ≤ 14 := by rw [hY, ByteArray.size_extract]; omega
  have hx2 : A.extract 2 A.size = Y := hY.symm
  obtain ⟨S1, E1, hS1, hW1⟩ := rwrap_two Y more (by omega)
  obtain ⟨S2, E2, hS2, hW2⟩ := rwrap_two Y ⟨#[5, 0]⟩ (by show Y.size + 2 ≤ _; omega)
  have HWR1 := Lib.hid hW1
  have HWR2 := Lib.hid hW2
  have HS1 := Lib.hid hS1
  have HS2 := Lib.hid hS2
  have HAS := Lib.hid hAs
  have hlt : ∀ x, a = some x → zs ≠ [] → x.block < w.heap.size := by
    intro x hx hne
    rcases hli with h | ⟨b, o, hb, hc⟩
    · exact absurd h hne
    · rw [hb] at hx
      obtain rfl := Option.some.inj hx
      exact block_lt_of_cell (hc 0 (List.length_pos_iff.2 hne))
  obtain ⟨W0, hW0⟩ : ∃ W0, W0 = w.alloc (.cells #[.int .i64 t0, .string c0, .string r0] 42) := ⟨_, rfl⟩
  have hb0 : Below w.heap.size w W0 := by rw [hW0]; exact belowNew w _
  have HQ0 : Hid (W0.heap[w.heap.size]? = some (.cells #[.int .i64 t0, .string c0, .string r0] 42 (0, 0))) := Lib.hid (by rw [hW0]; exact elz_new w _ _ _)
  have HL0 := Lib.hid (hli.below hb0 hlt)
  have HP := Lib.hid hP
  have HB0 := Lib.hid hb0
  have HW0 := Lib.hid hW0.symm
  have HS0 : Hid (W0.heap.size = w.heap.size + 1) := Lib.hid (by rw [hW0]; simp)
  have HC0 := Lib.hid hc0
  obtain ⟨q0, q1, q2, _⟩ := kcell3 HQ0.out
  rw [← hzz]
  obtain ⟨dp, hdp⟩ : ∃ dp, dp = W0.heap.size := ⟨_, rfl⟩
  have HDP := Lib.hid hdp
  clear hzz hz hP hli hA hC hE hD hb0 hW0 hlt hdp hc0 hr0 hm0 hAA hY hYs hS1 hS2 hW1 hW2 hAs
  go_enter Tryz.func5, Tryz.ntmps5
  go_upto_region 1 with fail
  rw [HW0.out]
  go_upto_region 7 with (first
    | (go_at_call 7
       (with_reducible refine (HND.out _ HL0.out).mono ?_)
       rintro e w1 ⟨rfl, hd1, hb1⟩
       rw [← HDP.out] at hd1 ⊢
       have HD1 := Lib.hid hd1
       have HU1 := Lib.hid (show But dp W0 w1 from But.of hb1)
       clear hb1 hd1 q0 q1 q2)
    | (go_at_call 18
       (with_reducible refine (HRA.out _).mono ?_)
       rintro e w2 ⟨rfl, hb2⟩
       have HD2 := Lib.hid (HD1.out.below hb2)
       have HU2 := Lib.hid (HU1.out.next (But.of hb2))
       clear hb2)
    | (go_at_call 19
       (with_reducible refine (HWR1.out _).mono ?_)
       rintro e w3 ⟨rfl, hb3⟩
       have HD3 := Lib.hid ((HD2.out.below (belowNew _ _)).below hb3)
       have HU3 := Lib.hid (HU2.out.next (But.of (below_next (belowNew _ _) hb3)))
       clear hb3)
    | (go_at_call 19
       (with_reducible refine (HWR2.out _).mono ?_)
       rintro e w4 ⟨rfl, hb4⟩
       have HD4 := Lib.hid ((HD3.out.below (belowNew _ _)).below hb4)
       have HU4 := Lib.hid (HU3.out.next (But.of (below_next (belowNew _ _) hb4)))
       clear hb4))
  have hq4 := (HU4.out.block w.heap.size (Array.getElem?_eq_some_iff.1 HQ0.out).1 (by have := HDP.out; have := HS0.out; simp; omega)).trans HQ0.out
  obtain ⟨q0, q1, q2, ql⟩ := kcell3 hq4
  clear hq4
  go_upto_region 8 with fail
  obtain ⟨lb, hlb⟩ : ∃ lb, lb = w4.heap.size := ⟨_, rfl⟩
  obtain ⟨V5, hV5⟩ : ∃ V5, V5 = w4.alloc (.cells #[.int .i64 t0, .string c0, .string r0] 42) := ⟨_, rfl⟩
  rw [← hV5, ← hlb]
  have hdl : dp + 1 ≤ w4.heap.size := (Array.getElem?_eq_some_iff.1 HD4.out.1).1
  have hb5 : Below w4.heap.size w4 V5 := by rw [hV5]; exact belowNew w4 _
  have HO5 : Hid (OwnZ V5 (dp + 1) (.slice (some ⟨lb, 0, none⟩) 1 1) [(t0, c0, r0)]) := Lib.hid (by rw [hV5, hlb]; exact ownz_one w4 (t0, c0, r0) _ rfl (dp + 1) hdl)
  have HD5 := Lib.hid (HD4.out.below hb5)
  have HU5 := Lib.hid (HU4.out.next (But.of hb5))
  clear hlb hV5 hdl hb5 q0 q1 q2 ql d1 d2 d3
  go_wp2_with (first
    | (go_at_call 10
       (with_reducible refine (damage_but dp a cap zs 0 A _ HD5.out (by omega) (by rw [HAS.out]; decide) (by rw [HAS.out]; decide)).mono ?_)
       rintro e w6 ⟨X3, k6, rfl, hs6, hd6, hk6, hb6⟩
       have HD6 := Lib.hid hd6
       have HK6 := Lib.hid hk6
       have HS6 := Lib.hid hs6
       have HU6 := Lib.hid (HU5.out.next hb6)
       have HO6 := Lib.hid (show OwnZ w6 (dp + 1) (.slice (some ⟨lb, 0, none⟩) 1 1) [(t0, c0, r0)] from own_but HO5.out hb6 (by omega))
       clear hd6 hk6 hs6 hb6)
    | (go_at_call 15
       (with_reducible refine (rewrap_any dp a cap zs k6 A w6 HD6.out (by have := HK6.out; have := HAS.out; omega)).mono ?_)
       rintro e w7 ⟨X4, k7, rfl, hs7, hd7, _, hb7⟩
       have HS7 := Lib.hid hs7
       have HU7 := Lib.hid (HU6.out.next hb7)
       have HDL := Lib.hid (show dp + 1 ≤ w7.heap.size from (Array.getElem?_eq_some_iff.1 hd7.1).1)
       have HO7 := Lib.hid (show OwnZ w7 (dp + 1) (.slice (some ⟨lb, 0, none⟩) 1 1) [(t0, c0, r0)] from own_but HO6.out hb7 (by omega))
       clear hs7 hd7 hb7))
  obtain ⟨sb, hsb⟩ : ∃ sb, sb = w7.heap.size := ⟨_, rfl⟩
  obtain ⟨V8, hV8⟩ : ∃ V8, V8 = w7.alloc (.cells #[.string A, .string S1, .string S2, .string X3, .string X4] 9) := ⟨_, rfl⟩
  rw [← hV8, ← hsb]
  have hb8 : Below w7.heap.size w7 V8 := by rw [hV8]; exact belowNew w7 _
  have HR8 : Hid (V8.heap[sb]? = some (.cells #[.string A, .string S1, .string S2, .string X3, .string X4] 9 (0, 0))) := Lib.hid (by rw [hV8, hsb]; exact heap_alloc_new w7 _)
  have HO8 := Lib.hid (HO7.out.below hb8)
  have HB8 : Hid (Below w.heap.size w V8) := Lib.hid (below_next (below_next HB0.out (but_baseb HU7.out (by rw [HDP.out]; exact Nat.le_refl _) (Nat.le_refl _))) hb8)
  have HDL8 : Hid (dp + 1 ≤ V8.heap.size ∧ w.heap.size ≤ dp) := Lib.hid ⟨by have := HDL.out; have := hb8.size; omega, by rw [HDP.out, HS0.out]; omega⟩
  clear hsb hV8 hb8
  go_loopw [13, 67] (fun lv i wr => ∃ (j : Nat) (D : List KeyT), j ≤ 5 ∧ i = .int .i64 (j : Int) ∧ D.length = j + 1 ∧ (∀ x ∈ D, x.2.1.size ≤ 1000000) ∧ OwnZ wr (dp + 1) lv D ∧ Below (dp + 1) V8 wr ∧ wr.heap[sb]? = some (.cells #[.string A, .string S1, .string S2, .string X3, .string X4] 9 (0, 0))) (fun _ i _ => 5 - (intOf i).toNat)
  case atStart => exact ⟨0, [(t0, c0, r0)], by omega, rfl, rfl, fun x hx => by rw [List.mem_singleton.1 hx]; have := HC0.out; show c0.size ≤ _; omega, HO8.out, Below.refl _ _, HR8.out⟩
  case round =>
    obtain ⟨j, D, hj, rfl, hDl, hDs, hO, hb, hR⟩ := hrel
    have HO := Lib.hid hO
    have HB := Lib.hid hb
    have HR := Lib.hid hR
    have HDN := Lib.hid hDl
    have HDS := Lib.hid hDs
    clear hO hb hDl hDs
    by_cases hlt : j < 5
    · have hd : decide ((j : Int) < 5) = true := by simp; omega
      have hji : (j : Int) < 5 := by omega
      have hcx : ∃ x : ByteArray, x.size ≤ 1000000 ∧ wr.cell? ⟨sb, j, none⟩ = some (.string x) := by
        have hc := five_rowb hR j hlt
        have h0 := HAS.out
        have h1 := HS1.out
        have h2 := HS2.out
        have h3 := HS6.out
        have h4 := HS7.out
        obtain rfl | rfl | rfl | rfl | rfl : j = 0 ∨ j = 1 ∨ j = 2 ∨ j = 3 ∨ j = 4 := by omega
        · exact ⟨A, by omega, hc⟩
        · exact ⟨S1, by omega, hc⟩
        · exact ⟨S2, by omega, hc⟩
        · exact ⟨X3, by omega, hc⟩
        · exact ⟨X4, by omega, hc⟩
      obtain ⟨x, hx, hc⟩ := hcx
      have HLJ := Lib.hid hlt
      have HON := Lib.hid (fun W => rone_any x W (by omega))
      obtain ⟨k, E, hv, hks⟩ := oneVal_formz x
      rw [hv] at HON
      have HKS := Lib.hid (show k.2.1.size ≤ 1000000 by omega)
      clear hv hks hx hlt hR
      go_wp2_with (first
        | (go_at_call 20
           (with_reducible refine (HON.out _).mono ?_)
           rintro e w1 ⟨rfl, hb1⟩
           have HB1 := Lib.hid hb1
           obtain ⟨e0, e1, e2, _⟩ := kcell3 (elz_new w1 (.int .i64 k.1) (.string k.2.1) (.string k.2.2))
           clear hb1)
        | (at_builtin; (refine wpList_append_own _ rfl (.tmp 76) (.tmp 78) 45 rfl (dp + 1) 42 i0 (.agg #[.int .i64 0, .string ⟨#[]⟩, .string ⟨#[]⟩]) 3 40 Tryz.underlying45 hi hz0 hz1 hz2 rfl (by decide) _ D.length (zsCells D) rfl (((own_below HO.out HB1.out).alloc _).alloc _) ⟨w1.heap.size + 1, 0, none⟩ 1 1 (zCells k) rfl rfl (zs_news w1 _ k _ rfl) (zCells_one _) (by have := HDN.out; have := HLJ.out; unfold maxLen; omega) (by have := HDN.out; have := HLJ.out; omega) (by have := HDL8.out.1; have := HB.out.size; have := HB1.out.size; simp; omega) ?_)
           intro v' w2 hown2 hgr2 _
           obtain ⟨P1, P2⟩ := zs_round HO.out HB.out (Nat.le_refl _) HDL8.out.1 HB1.out hown2 hgr2
           have hRx := ((belowNew (w1.alloc (.cells #[.int .i64 k.1, .string k.2.1, .string k.2.2] 42)) (.cells #[.int .i64 k.1, .string k.2.1, .string k.2.2] 42)).block sb (Nat.lt_of_lt_of_le (Array.getElem?_eq_some_iff.1 HR.out).1 (by have := HB1.out.size; simp; omega))).trans (((belowNew w1 (.cells #[.int .i64 k.1, .string k.2.1, .string k.2.2] 42)).block sb (Nat.lt_of_lt_of_le (Array.getElem?_eq_some_iff.1 HR.out).1 HB1.out.size)).trans ((HB1.out.block sb (Array.getElem?_eq_some_iff.1 HR.out).1).trans HR.out))
           have hR2 := (hgr2.block sb (Array.getElem?_eq_some_iff.1 hRx).1 (row_apart (((own_below HO.out HB1.out).alloc _).alloc _) hRx (by decide))).trans hRx
           have HP1 := Lib.hid P1
           have HP2 := Lib.hid P2
           have HR2 := Lib.hid hR2
           clear hown2 hgr2 P1 P2 hRx hR2))
      go_roundw
      case rel => exact ⟨j + 1, D ++ [k], HLJ.out, by go_num, by rw [List.length_append, HDN.out]; rfl, fun y hy => by
        rcases List.mem_append.1 hy with hy | hy
        · exact HDS.out y hy
        · rw [List.mem_singleton.1 hy]; exact HKS.out, HP1.out, HP2.out, HR2.out⟩
      case measure => have := HLJ.out; simp [intOf]; omega
    · have hj5 : j = 5 := by omega
      subst hj5
      have hd : decide (((5 : Nat) : Int) < 5) = false := by simp
      obtain ⟨g, c, rfl, hg, hcl⟩ := HO.out.form (by intro e; have := HDN.out; rw [e] at this; cases this)
      rw [HDN.out, show 5 + 1 = 6 from rfl] at hcl ⊢
      have HCL := Lib.hid hcl
      have HG := Lib.hid hg
      have HBW : Hid (Below w.heap.size w wr) := Lib.hid (HB8.out.trans (HB.out.mono (by have := HDL8.out.2; omega)))
      clear hcl hg hR
      go_wp2_with fail
      rename World => Wa
      rw [show ((5 : Nat) : Int) = 5 from rfl]
      go_loopw [83] (fun i wr => ∃ j : Nat, j ≤ 6 ∧ i = .int .i64 (j : Int) ∧ Below Wa.heap.size Wa wr) (fun i _ => 6 - (intOf i).toNat)
      case atStart => exact ⟨0, by omega, rfl, Below.refl _ _⟩
      case round =>
        obtain ⟨j, hj, rfl, hb⟩ := hrel
        have HBR := Lib.hid hb
        clear hb
        by_cases hlt : j < 6
        · have hd6 : decide ((j : Int) < 6) = true := by simp; omega
          have hji : (j : Int) < 6 := by omega
          obtain ⟨e, he, x0, x1, x2⟩ := HCL.out j hlt
          have y0 := (HBR.out.cell (p := ⟨g, j * 3, none⟩) HG.out).trans x0
          have y1 := (HBR.out.cell (p := ⟨g, j * 3 + 1, none⟩) HG.out).trans x1
          have y2 := (HBR.out.cell (p := ⟨g, j * 3 + 2, none⟩) HG.out).trans x2
          have HLJ := Lib.hid hlt
          have hes := HDS.out e he
          have HC1 := Lib.hid (fun W hp => HCH.out e.1 e.2.1 e.2.2 W hes hp)
          have HC2 := Lib.hid (fun W => rchka_any e.1 e.2.1 e.2.2 W (by omega))
          obtain ⟨N, hN⟩ : ∃ N, N = chkAlg e.1 e.2.1 := ⟨_, rfl⟩
          rw [← hN] at HC1 HC2
          obtain ⟨et, ec, er⟩ := e
          simp only at y0 y1 y2 HC1 HC2
          clear x0 x1 x2 he hlt hes hN
          have hs1 : ((N : Int) != (N : Int)) = false := by simp
          go_upto_region 17 with fail
          obtain ⟨gx, hgx⟩ : ∃ gx, gx = wr.heap.size := ⟨_, rfl⟩
          obtain ⟨V2, hV2⟩ : ∃ V2, V2 = wr.alloc (.cells #[.int .i64 et, .string ec, .string er] 42) := ⟨_, rfl⟩
          rw [← hV2, ← hgx]
          have HN2 : Hid (V2.heap[gx]? = some (.cells #[.int .i64 et, .string ec, .string er] 42 (0, 0))) := Lib.hid (by rw [hV2, hgx]; exact elz_new wr _ _ _)
          have HB2 : Hid (Below Wa.heap.size Wa V2) := Lib.hid (by rw [hV2]; exact HBR.out.next (belowNew wr _))
          clear y0 y1 y2 hgx hV2
          obtain ⟨c0', c1', c2', cl⟩ := kcell3 HN2.out
          go_region_law (first
            | (go_simp; go_at_call 21
               (with_reducible refine (HC1.out _ (HP.out.below (below_next HBW.out (by first | exact HB2.out | exact HB2.out.drew)))).mono ?_)
               rintro e' v5 ⟨rfl, hb⟩
               have hb : Below V2.heap.size V2 v5 := (Below.refl _ V2).drew.trans hb
               have HB5 := Lib.hid (HB2.out.next hb)
               obtain ⟨k0, k1, k2, kl⟩ := kcell3 ((hb.block gx (Array.getElem?_eq_some_iff.1 HN2.out).1).trans HN2.out)
               clear hb)
            | (go_simp; go_at_call 22
               (with_reducible refine (HC2.out _).mono ?_)
               rintro e' v6 ⟨rfl, hb⟩
               have HB6 := Lib.hid (HB5.out.next hb)
               clear hb))
          all_goals
            go_wp2_with fail
            go_roundw
            case rel => exact ⟨j + 1, HLJ.out, by go_num, HB6.out⟩
            case measure => have := HLJ.out; simp [intOf]; omega
        · have hj6 : j = 6 := by omega
          subst hj6
          have hd6 : decide (((6 : Nat) : Int) < 6) = false := by simp
          go_wp2_with (first
            | (go_at_call 6; (with_reducible refine (HAW.out _ (HP.out.below (below_next HBW.out HBR.out))).mono ?_); rintro e v3 ⟨rfl, hb⟩; have HB3 := Lib.hid (below_next (below_next HBW.out HBR.out) hb); clear hb)
            | (go_at_call 23; (with_reducible refine (HAL.out _).mono ?_); rintro e v4 ⟨rfl, hb⟩; have HB4 := Lib.hid (below_next HB3.out hb); clear hb))
          go_ret
          exact ⟨rfl, HB4.out⟩
theorem kalllaw (hA : AlgPk) (hC : ChkPk) (hE : EncPk) (hD : DecPk) (e : KeyT) (a : Option Addr) (cap : Nat) (zs : List Int) (more : ByteArray) (w : World) (hP : Pow10 w) (hli : ILies w a zs) (hz : zs.length ≤ 9223372036854775807) :
    Calls Tryz.prog 5 #[.agg #[.int .i64 e.1, .string e.2.1, .string e.2.2], .slice a zs.length cap, .string more] w fun e w' => e = .returned (.bool true) ∧ Below w.heap.size w w' := by
  obtain ⟨t0, c0, r0⟩ := e
  by_cases hb : 200 < c0.size ∨ 200 < r0.size ∨ 100 < more.size
  · exact kall_out hA hE hD t0 c0 r0 more a cap zs.length hb w hP
  · exact kall_in hA hC hE hD t0 c0 r0 more a cap zs (by omega) (by omega) (by omega) w hP hli hz
end Go.Proofs.YtpmlkofceidnjaaGreatDoor
