/-
  The contract of gname's Encode: the whole element of a general name, or the error of Check.
  The contract of the reference's EncodeList: the encodings of general names one after the other, or the first error.
  Slices of general names of a call's own: one that grows, and one that is made and filled.
-/
import Derived.Test.YtbpdenfiifcfcaaGreatDoorMbc
import Derived.Test.YtbpdenfiifcfcaaGreatDoorMau
import Derived.Test.YtbpdenfiifcfcaaGreatDoorMbf
import Derived.Test.YtbpdenfiifcfcaaGreatDoorMap
import Derived.Test.YtbpdenfiifcfcaaGreatDoorMbe
namespace Go.Proofs.YtbpdenfiifcfcaaGreatDoor
open Go.RowKit

theorem pw1 (T : Int) (g : Nat) (x : ByteArray) (w : World) (h : w.cell? ⟨g, 0, none⟩ = some (.string x)) :
    Calls Tryz.prog 52 #[.int .i64 T, .slice (some ⟨g, 0, none⟩) 1 1] w fun e w' => e = .returned (wrapVal T x.data.toList) ∧ Below w.heap.size w w' := by
  have := wrap_any T _ _ w (reads_one h) (by simp)
  rwa [cat_one] at this
theorem wrapVal_ok {T : Int} {x : ByteArray} (h : wrapErr T x.data.toList.length = 0) : wrapVal T x.data.toList = .tuple #[.string (wr1 T x), .int .i64 0] := by
  unfold wrapVal
  rw [h]
  rfl
theorem encN_fit {n : Nm} (h : chkN n = 0) : wrapErr 164 (encN n).data.toList.length = 0 := by
  have h2 := encN_le64 h
  have e : (encN n).data.toList.length = (encN n).size := rfl
  unfold wrapErr
  rw [if_neg (by decide), e, if_neg (by omega)]
set_option maxRecDepth 100000 in
set_option maxHeartbeats 4000000 in
theorem genc_core (a0 : Option Addr) (c m : Nat) (k : Int) (t : List UInt8) (n : Nm) (con : Bool) (w : World) (h : RLies w a0 n) (hn : m = n.length) (ht : t.length ≤ 150000) (hs : SmallN n) (hT : Tab w) (hmk : Mk w) :
    Calls Tryz.prog 75 #[.agg #[.int .i64 k, .string (strOf t), .slice a0 m c], .bool con] w fun e w' => e = .returned (.tuple #[.string (encG con k t n), .int .i64 ((chkG con k t n : Nat) : Int)]) ∧ Below w.heap.size w w' := by
  obtain ⟨W0, hW0⟩ : ∃ W0, W0 = w.alloc (.cells #[.int .i64 k, .string (strOf t), .slice a0 m c] 29) := ⟨_, rfl⟩
  have hwr : w.alloc (.cells #[.int .i64 k, .string (strOf t), .slice a0 m c] 29) = W0 := hW0.symm
  have hb0 : Below w.heap.size w W0 := by rw [hW0]; exact belowNew w _
  have hq0 : W0.heap[w.heap.size]? = some (.cells #[.int .i64 k, .string (strOf t), .slice a0 m c] 29 (0, 0)) := by rw [hW0]; exact heap_alloc_new w _
  obtain ⟨c0, c1, c2, l0⟩ := three_facts hq0
  have HB0 := Lib.hid hb0
  have HC := Lib.hid (gchk_core a0 c m k t n con W0 (h.below hb0) hn ht hs (hT.below hb0) (hmk.below hb0))
  have HK := Lib.hid (fun W (hb : Below w.heap.size w W) => gkind_any k (strOf t) a0 m c W (hmk.below hb).2)
  have HN := Lib.hid (fun W (hb : Below w.heap.size w W) => encode_core a0 c m n W (h.below hb) hn hs (hT.below hb))
  have HKC := Lib.hid (fun W (hb : Below w.heap.size w W) => (hmk.below hb).2.cells)
  obtain ⟨E, hE⟩ : ∃ E, E = chkG con k t n := ⟨_, rfl⟩
  obtain ⟨V, hV⟩ : ∃ V, V = encG con k t n := ⟨_, rfl⟩
  rw [← hE] at HC ⊢
  rw [← hV]
  have HTL := Lib.hid ht
  clear h hn ht hs hT hmk hW0 hb0 hq0
  by_cases hz : E = 0
  · subst hz
    rcases encG_zero hE.symm with ⟨rfl, rfl, hk⟩ | ⟨h4, hok, _, hk⟩
    · have HV := Lib.hid (show V = wr1 164 (encN n) by rw [hV]; unfold encG; rw [← hE, if_pos rfl, if_pos rfl])
      have he : encV n = encN n := by unfold encV; rw [if_pos hk]
      have HW1 := Lib.hid (fun g W h => pw1 164 g (encN n) W h)
      rw [wrapVal_ok (encN_fit hk), ← HV.out] at HW1
      rw [he, hk] at HN
      rw [show ((kdOf 4 : Nat) : Int) = 2 from rfl] at HK
      have hix := fun W => index_kd 2 (by decide) W
      clear he hk hE hV HV
      go_enter Tryz.func75, Tryz.ntmps75
      go_wp2_with (first
        | (go_at_call 55; (with_reducible refine HC.out.mono ?_); rintro e w1 ⟨rfl, hb1⟩; have HB1 := Lib.hid (below_next HB0.out hb1); have d0 := (hb1.cell (p := ⟨w.heap.size, 0, none⟩) l0).trans c0; have d1 := (hb1.cell (p := ⟨w.heap.size, 1, none⟩) l0).trans c1; have d2 := (hb1.cell (p := ⟨w.heap.size, 2, none⟩) l0).trans c2; have l1 := Nat.lt_of_lt_of_le l0 hb1.size; clear hb1)
        | (go_at_call 100; (with_reducible refine (HK.out _ HB1.out).mono ?_); rintro e w2 ⟨rfl, hb2⟩; have HB2 := Lib.hid (below_next HB1.out hb2); have e1 := (hb2.cell (p := ⟨w.heap.size, 1, none⟩) l1).trans d1; have e2 := (hb2.cell (p := ⟨w.heap.size, 2, none⟩) l1).trans d2; obtain ⟨k0, k1, k2, k3, k4, k5, k6, k7, k8, k9, k10, k11⟩ := HKC.out _ HB2.out; clear hb2)
        | (go_at_call 101; (with_reducible refine (HN.out _ HB2.out).mono ?_); rintro e w3 ⟨rfl, hb3⟩; have HB3 := Lib.hid (below_next HB2.out hb3); clear k0 k1 k2 k3 k4 k5 k6 k7 k8 k9 k10 k11; obtain ⟨k0, k1, k2, k3, k4, k5, k6, k7, k8, k9, k10, k11⟩ := HKC.out _ HB3.out; clear hb3)
        | (go_at_call 52; (with_reducible refine (HW1.out _ _ (bx1 _ _ _)).mono ?_); rintro e w5 ⟨rfl, hb5⟩; have HB5 := Lib.hid (below_next HB3.out (below_next (belowNew _ _) hb5)); clear hb5))
      go_ret2
      exact ⟨rfl, HB5.out⟩
    · have HV := Lib.hid (show V = wr1 (128 + k) (strOf t) by rw [hV]; unfold encG; rw [← hE, if_pos rfl, if_neg h4])
      have htl : t.length ≤ 128 := okT_len hok
      clear hE hV h4 HN hok
      rcases hk with rfl | rfl | rfl
      · have HW1 := Lib.hid (fun g W h => pw1 129 g (strOf t) W h)
        rw [wrapVal_ok (x := strOf t) (by rw [strOf_list]; unfold wrapErr; rw [if_neg (by decide), if_neg (by omega)]), ← show V = wr1 129 (strOf t) from HV.out] at HW1
        rw [show ((kdOf 1 : Nat) : Int) = 0 from rfl] at HK
        have hix := fun W => index_kd 0 (by decide) W
        clear HV htl
        go_enter Tryz.func75, Tryz.ntmps75
        go_wp2_with (first
          | (go_at_call 55; (with_reducible refine HC.out.mono ?_); rintro e w1 ⟨rfl, hb1⟩; have HB1 := Lib.hid (below_next HB0.out hb1); have d0 := (hb1.cell (p := ⟨w.heap.size, 0, none⟩) l0).trans c0; have d1 := (hb1.cell (p := ⟨w.heap.size, 1, none⟩) l0).trans c1; have d2 := (hb1.cell (p := ⟨w.heap.size, 2, none⟩) l0).trans c2; have l1 := Nat.lt_of_lt_of_le l0 hb1.size; clear hb1)
          | (go_at_call 100; (with_reducible refine (HK.out _ HB1.out).mono ?_); rintro e w2 ⟨rfl, hb2⟩; have HB2 := Lib.hid (below_next HB1.out hb2); have e1 := (hb2.cell (p := ⟨w.heap.size, 1, none⟩) l1).trans d1; have e2 := (hb2.cell (p := ⟨w.heap.size, 2, none⟩) l1).trans d2; obtain ⟨k0, k1, k2, k3, k4, k5, k6, k7, k8, k9, k10, k11⟩ := HKC.out _ HB2.out; clear hb2)
          | (go_at_call 52; (with_reducible refine (HW1.out _ _ (bx1 _ _ _)).mono ?_); rintro e w5 ⟨rfl, hb5⟩; have HB5 := Lib.hid (below_next HB2.out (below_next (belowNew _ _) hb5)); clear hb5))
        go_ret2
        exact ⟨rfl, HB5.out⟩
      · have HW1 := Lib.hid (fun g W h => pw1 130 g (strOf t) W h)
        rw [wrapVal_ok (x := strOf t) (by rw [strOf_list]; unfold wrapErr; rw [if_neg (by decide), if_neg (by omega)]), ← show V = wr1 130 (strOf t) from HV.out] at HW1
        rw [show ((kdOf 2 : Nat) : Int) = 1 from rfl] at HK
        have hix := fun W => index_kd 1 (by decide) W
        clear HV htl
        go_enter Tryz.func75, Tryz.ntmps75
        go_wp2_with (first
          | (go_at_call 55; (with_reducible refine HC.out.mono ?_); rintro e w1 ⟨rfl, hb1⟩; have HB1 := Lib.hid (below_next HB0.out hb1); have d0 := (hb1.cell (p := ⟨w.heap.size, 0, none⟩) l0).trans c0; have d1 := (hb1.cell (p := ⟨w.heap.size, 1, none⟩) l0).trans c1; have d2 := (hb1.cell (p := ⟨w.heap.size, 2, none⟩) l0).trans c2; have l1 := Nat.lt_of_lt_of_le l0 hb1.size; clear hb1)
          | (go_at_call 100; (with_reducible refine (HK.out _ HB1.out).mono ?_); rintro e w2 ⟨rfl, hb2⟩; have HB2 := Lib.hid (below_next HB1.out hb2); have e1 := (hb2.cell (p := ⟨w.heap.size, 1, none⟩) l1).trans d1; have e2 := (hb2.cell (p := ⟨w.heap.size, 2, none⟩) l1).trans d2; obtain ⟨k0, k1, k2, k3, k4, k5, k6, k7, k8, k9, k10, k11⟩ := HKC.out _ HB2.out; clear hb2)
          | (go_at_call 52; (with_reducible refine (HW1.out _ _ (bx1 _ _ _)).mono ?_); rintro e w5 ⟨rfl, hb5⟩; have HB5 := Lib.hid (below_next HB2.out (below_next (belowNew _ _) hb5)); clear hb5))
        go_ret2
        exact ⟨rfl, HB5.out⟩
      · have HW1 := Lib.hid (fun g W h => pw1 135 g (strOf t) W h)
        rw [wrapVal_ok (x := strOf t) (by rw [strOf_list]; unfold wrapErr; rw [if_neg (by decide), if_neg (by omega)]), ← show V = wr1 135 (strOf t) from HV.out] at HW1
        rw [show ((kdOf 7 : Nat) : Int) = 3 from rfl] at HK
        have hix := fun W => index_kd 3 (by decide) W
        clear HV htl
        go_enter Tryz.func75, Tryz.ntmps75
        go_wp2_with (first
          | (go_at_call 55; (with_reducible refine HC.out.mono ?_); rintro e w1 ⟨rfl, hb1⟩; have HB1 := Lib.hid (below_next HB0.out hb1); have d0 := (hb1.cell (p := ⟨w.heap.size, 0, none⟩) l0).trans c0; have d1 := (hb1.cell (p := ⟨w.heap.size, 1, none⟩) l0).trans c1; have d2 := (hb1.cell (p := ⟨w.heap.size, 2, none⟩) l0).trans c2; have l1 := Nat.lt_of_lt_of_le l0 hb1.size; clear hb1)
          | (go_at_call 100; (with_reducible refine (HK.out _ HB1.out).mono ?_); rintro e w2 ⟨rfl, hb2⟩; have HB2 := Lib.hid (below_next HB1.out hb2); have e1 := (hb2.cell (p := ⟨w.heap.size, 1, none⟩) l1).trans d1; have e2 := (hb2.cell (p := ⟨w.heap.size, 2, none⟩) l1).trans d2; obtain ⟨k0, k1, k2, k3, k4, k5, k6, k7, k8, k9, k10, k11⟩ := HKC.out _ HB2.out; clear hb2)
          | (go_at_call 52; (with_reducible refine (HW1.out _ _ (bx1 _ _ _)).mono ?_); rintro e w5 ⟨rfl, hb5⟩; have HB5 := Lib.hid (below_next HB2.out (below_next (belowNew _ _) hb5)); clear hb5))
        go_ret2
        exact ⟨rfl, HB5.out⟩
  · have hz1 := errno_ne hz
    have HV := Lib.hid (show V = ⟨#[]⟩ by rw [hV]; unfold encG; rw [← hE, if_neg hz])
    clear hE hV HN HK HKC
    rw [HV.out]
    go_enter Tryz.func75, Tryz.ntmps75
    go_wp2_with (go_at_call 55; (with_reducible refine HC.out.mono ?_); rintro e w1 ⟨rfl, hb1⟩; have HB1 := Lib.hid (below_next HB0.out hb1); clear hb1)
    go_ret2
    exact ⟨rfl, HB1.out⟩
end Go.Proofs.YtbpdenfiifcfcaaGreatDoor
namespace Go.Proofs.YtbpdenfiifcfcaaGreatDoor
open Go.RowKit

end Go.Proofs.YtbpdenfiifcfcaaGreatDoor
namespace Go.Proofs.YtbpdenfiifcfcaaGreatDoor
open Go.RowKit

def noS : Value := .slice none 0 0
def gCells (g : Gn) (s : Value) : List Value := [.int .i64 g.1, .string (strOf g.2.1), s]
def gsCells : List Gn → List Value → List Value
  | g :: l, s :: ss => gCells g s ++ gsCells l ss
  | _, _ => []
theorem gsCells_length : ∀ (l : List Gn) (ss : List Value), ss.length = l.length → (gsCells l ss).length = l.length * 3
  | [], [], _ => rfl
  | g :: l, s :: ss, h => by
    have := gsCells_length l ss (by simpa using h)
    simp only [gsCells, gCells, List.length_append, List.length_cons, List.length_nil, this]
    omega
theorem gsCells_snoc : ∀ (l : List Gn) (ss : List Value) (g : Gn) (s : Value), ss.length = l.length → gsCells (l ++ [g]) (ss ++ [s]) = gsCells l ss ++ gCells g s
  | [], [], g, s, _ => by simp [gsCells, gCells]
  | x :: l, y :: ss, g, s, h => by
    have := gsCells_snoc l ss g s (by simpa using h)
    simp only [List.cons_append, gsCells, this, List.append_assoc]
theorem gs_at : ∀ (l : List Gn) (ss : List Value) (i j : Nat), ss.length = l.length → i < l.length → j < 3 → (gsCells l ss)[i * 3 + j]? = (gCells (l.getD i noG) (ss.getD i noS))[j]?
  | [], _, i, _, _, h, _ => absurd h (Nat.not_lt_zero _)
  | g :: l, s :: ss, 0, j, _, _, hj => by
    show (gCells g s ++ gsCells l ss)[0 * 3 + j]? = (gCells g s)[j]?
    rw [List.getElem?_append_left (by simp [gCells]; omega)]
    simp
  | g :: l, s :: ss, i + 1, j, h, hi, hj => by
    have := gs_at l ss i j (by simpa using h) (by simpa using hi) hj
    show (gCells g s ++ gsCells l ss)[(i + 1) * 3 + j]? = _
    rw [List.getElem?_append_right (by simp [gCells]; omega), show (i + 1) * 3 + j - (gCells g s).length = i * 3 + j by simp [gCells]; omega, this]
    rfl
theorem gCells_one (g : Gn) (a : Option Addr) (n c : Nat) : ∀ u ∈ gCells g (.slice a n c), u.oneCell' = true := by
  intro u hu
  simp only [gCells, List.mem_cons, List.not_mem_nil, or_false] at hu
  rcases hu with rfl | rfl | rfl <;> rfl
theorem gInfo : (Tryz.prog.info? 29).map (fun i => (i.zero, i.size, i.bytes)) = some (some (.agg #[.int .i64 0, .string ⟨#[]⟩, .slice none 0 0]), 3, 48) := by kernel_rfl
/-- The slice value v, of memory from block B on, holds the general names l, each name in memory of its own. -/
def OwnG (w : World) (B : Nat) (v : Value) (l : List Gn) : Prop := ∃ ss : List Value, ss.length = l.length ∧ w.ownsRow B 29 3 v l.length (gsCells l ss) ∧ ∀ i, i < l.length → OwnN w B (ss.getD i noS) (l.getD i noG).2.2
theorem OwnG.nil (w : World) (B : Nat) : OwnG w B (.slice none 0 0) [] := ⟨[], rfl, World.ownsRow_nil _ _ _ _, fun _ hi => absurd hi (Nat.not_lt_zero _)⟩
theorem OwnG.below {w w' : World} {B : Nat} {v : Value} {l : List Gn} (h : OwnG w B v l) (hb : Below w.heap.size w w') : OwnG w' B v l := by
  obtain ⟨ss, h1, h2, h3⟩ := h
  exact ⟨ss, h1, own_below h2 hb, fun i hi => (h3 i hi).below hb⟩
theorem OwnG.lies {w : World} {B : Nat} {v : Value} {l : List Gn} (h : OwnG w B v l) : ∃ a c, v = .slice a l.length c ∧ l.length ≤ c ∧ GLies w a l := by
  obtain ⟨ss, h1, h2, h3⟩ := h
  have hh := h2
  rcases h2.2 with ⟨hv, h0⟩ | ⟨g, cap, cur, hv, _, _, hcap, _⟩
  · exact ⟨none, 0, by rw [hv, h0], by omega, .inl (List.eq_nil_of_length_eq_zero h0)⟩
  · refine ⟨_, cap, hv, hcap, .inr ⟨g, 0, rfl, fun i hi => ?_⟩⟩
    rw [hv] at hh
    obtain ⟨a', c', e, q3, q⟩ := (h3 i hi).lies
    have hc : ∀ j, j < 3 → w.cell? ⟨g, i * 3 + j, none⟩ = (gCells (l.getD i noG) (ss.getD i noS))[j]? := fun j hj => by
      rw [World.ownsRow.cellAt hh (i * 3 + j) (by omega)]
      exact gs_at l ss i j h1 hi hj
    rw [Nat.zero_add]
    refine ⟨hc 0 (by omega), hc 1 (by omega), a', c', ?_, q3, q⟩
    rw [hc 2 (by omega), ← e]
    rfl
theorem OwnN.keptG {w w' : World} {B B' k m : Nat} {v u : Value} {n : Nm} {xs : List Value} (h : OwnN w B u n) (ho : w.ownsRow B' 29 k v m xs) (hg : w.grownBy w' v.ownBlock) : OwnN w' B u n := by
  obtain ⟨vs, h1, h2, h3⟩ := h
  exact ⟨vs, h1, World.ownsRow.kept h2 hg (rows_apart h2 ho (by decide)), fun i hi => World.ownsRow.kept (h3 i hi) hg (rows_apart (h3 i hi) ho (by decide))⟩
/-- One general name more. -/
theorem OwnG.snoc {w w' : World} {B : Nat} {v v' s : Value} {l : List Gn} {g : Gn} {ss : List Value} (h1 : ss.length = l.length) (h2 : w.ownsRow B 29 3 v l.length (gsCells l ss)) (h3 : ∀ i, i < l.length → OwnN w B (ss.getD i noS) (l.getD i noG).2.2)
    (hr : OwnN w B s g.2.2) (hg : w.grownBy w' v.ownBlock) (h4 : w'.ownsRow B 29 3 v' (l.length + 1) (gsCells l ss ++ gCells g s)) : OwnG w' B v' (l ++ [g]) := by
  refine ⟨ss ++ [s], by simp [h1], by rw [List.length_append, gsCells_snoc l ss g s h1]; exact h4, fun i hi => ?_⟩
  by_cases hlt : i < l.length
  · rw [getD_snoc_lt _ _ _ _ (by omega), getD_snoc_lt _ _ _ _ hlt]
    exact (h3 i hlt).keptG h2 hg
  · rw [List.length_append, List.length_singleton] at hi
    obtain rfl : i = l.length := by omega
    rw [getD_snoc_eq, ← h1, getD_snoc_eq]
    exact hr.keptG h2 hg
theorem OwnG.base {w : World} {B B' : Nat} {v : Value} {l : List Gn} (h : OwnG w B v l) (hB : B' ≤ B) : OwnG w B' v l := by
  obtain ⟨ss, h1, h2, h3⟩ := h
  exact ⟨ss, h1, own_base h2 hB, fun i hi => (h3 i hi).base hB⟩
theorem OwnG.apart {w w' : World} {B g : Nat} {T : TypeId} {v : Value} {l : List Gn} {cs : Array Value} {f : Nat × Nat} (h : OwnG w B v l) (hc : w.heap[g]? = some (.cells cs T f)) (h0 : T ≠ 29) (h1 : T ≠ 86) (h2 : T ≠ 84) (hg : But g w w') : OwnG w' B v l := by
  obtain ⟨ss, q1, q2, q3⟩ := h
  exact ⟨ss, q1, own_apart q2 hc h0 hg, fun i hi => (q3 i hi).apart hc h1 h2 hg⟩
/-! ### A row that is made and filled -/
def GRow (w : World) (B G n : Nat) (l : List Gn) : Prop := ∃ cs : Array Value, w.heap[G]? = some (.cells cs 29 (0, 0)) ∧ cs.size = n * 3 ∧ ∃ ss : List Value, ss.length = l.length ∧
  (∀ i j, i < l.length → j < 3 → cs[i * 3 + j]? = (gCells (l.getD i noG) (ss.getD i noS))[j]?) ∧ ∀ i, i < l.length → OwnN w B (ss.getD i noS) (l.getD i noG).2.2
theorem GRow.below {w w' : World} {B G n : Nat} {l : List Gn} (h : GRow w B G n l) (hb : Below w.heap.size w w') : GRow w' B G n l := by
  obtain ⟨cs, h1, h2, ss, h3, h4, h5⟩ := h
  exact ⟨cs, (hb.block G (Array.getElem?_eq_some_iff.1 h1).1).trans h1, h2, ss, h3, h4, fun i hi => (h5 i hi).below hb⟩
theorem GRow.lies {w : World} {B G n : Nat} {l : List Gn} (h : GRow w B G n l) : GLies w (some ⟨G, 0, none⟩) l := by
  obtain ⟨cs, h1, h2, ss, h3, h4, h5⟩ := h
  refine .inr ⟨G, 0, rfl, fun i hi => ?_⟩
  obtain ⟨a', c', e, q3, q⟩ := (h5 i hi).lies
  have hc : ∀ j, j < 3 → w.cell? ⟨G, i * 3 + j, none⟩ = (gCells (l.getD i noG) (ss.getD i noS))[j]? := fun j hj => by
    rw [Lib.cell_of_heap h1]; exact h4 i j hi hj
  rw [Nat.zero_add]
  refine ⟨hc 0 (by omega), hc 1 (by omega), a', c', ?_, q3, q⟩
  rw [hc 2 (by omega), ← e]
  rfl
theorem gset_three {w : World} {G k : Nat} {cs : Array Value} {T : TypeId} {x y z : Value} (h : w.heap[G]? = some (.cells cs T (0, 0))) :
    (((w.setCell ⟨G, k, none⟩ x).setCell ⟨G, k + 1, none⟩ y).setCell ⟨G, k + 2, none⟩ z).heap[G]? = some (.cells (((cs.setIfInBounds k x).setIfInBounds (k + 1) y).setIfInBounds (k + 2) z) T (0, 0)) := by
  simp [World.setCell, Array.getElem?_modify, h]
theorem GRow.put {w : World} {B G n k : Nat} {l : List Gn} {g : Gn} {s : Value} (h : GRow w B G n l) (hk : k = l.length) (hn : k < n) (ho : OwnN w B s g.2.2) :
    GRow (((w.setCell ⟨G, k * 3, none⟩ (.int .i64 g.1)).setCell ⟨G, k * 3 + 1, none⟩ (.string (strOf g.2.1))).setCell ⟨G, k * 3 + 2, none⟩ s) B G n (l ++ [g]) := by
  obtain ⟨cs, h1, h2, ss, h3, h4, h5⟩ := h
  have hs := ((But.set G (k * 3) w (.int .i64 g.1)).next (But.set G (k * 3 + 1) _ (.string (strOf g.2.1)))).next (But.set G (k * 3 + 2) _ s)
  refine ⟨_, gset_three h1, by simp [h2], ss ++ [s], by simp [h3], fun i j hi hj => ?_, fun i hi => ?_⟩
  · by_cases hlt : i < l.length
    · rw [getD_snoc_lt _ _ _ _ hlt, getD_snoc_lt _ _ _ _ (by omega), ← h4 i j hlt hj]
      rw [Array.getElem?_setIfInBounds_ne (by omega), Array.getElem?_setIfInBounds_ne (by omega), Array.getElem?_setIfInBounds_ne (by omega)]
    · rw [List.length_append, List.length_singleton] at hi
      obtain rfl : i = l.length := by omega
      rw [getD_snoc_eq, ← h3, getD_snoc_eq, h3, ← hk]
      have hsz : k * 3 + 2 < cs.size := by omega
      rcases (by omega : j = 0 ∨ j = 1 ∨ j = 2) with rfl | rfl | rfl
      · rw [Array.getElem?_setIfInBounds_ne (by omega), Array.getElem?_setIfInBounds_ne (by omega), Nat.add_zero, Array.getElem?_setIfInBounds_self_of_lt (by omega)]; rfl
      · rw [Array.getElem?_setIfInBounds_ne (by omega), Array.getElem?_setIfInBounds_self_of_lt (by simp; omega)]; rfl
      · rw [Array.getElem?_setIfInBounds_self_of_lt (by simp; omega)]; rfl
  · by_cases hlt : i < l.length
    · rw [getD_snoc_lt _ _ _ _ hlt, getD_snoc_lt _ _ _ _ (by omega)]
      obtain ⟨vs, q1, q2, q3⟩ := h5 i hlt
      exact ⟨vs, q1, own_apart q2 h1 (by decide) hs, fun i hi => own_apart (q3 i hi) h1 (by decide) hs⟩
    · rw [List.length_append, List.length_singleton] at hi
      obtain rfl : i = l.length := by omega
      rw [getD_snoc_eq, ← h3, getD_snoc_eq]
      exact ho.apart h1 (by decide) (by decide) hs
theorem GRow.cell {w : World} {B G n : Nat} {l : List Gn} (h : GRow w B G n l) (j : Nat) (hj : j < n * 3) : (∃ x, w.cell? ⟨G, j, none⟩ = some x) ∧ w.frozen? ⟨G, j, none⟩ = false := by
  obtain ⟨cs, h1, h2, _⟩ := h
  exact ⟨⟨cs[j], by rw [Lib.cell_of_heap h1]; exact Array.getElem?_eq_getElem (by omega)⟩, Lib.frozen_of_heap h1 j⟩
end Go.Proofs.YtbpdenfiifcfcaaGreatDoor
