/-
  Rows of general names of which the names lie somewhere; the contracts of subjectNames and PermitsAll, of package subtree and of the reference.
-/
import Derived.Test.YtjdfgalcnbnobaaGreatDoorPbi
import Derived.Test.YtjdfgalcnbnobaaGreatDoorPai
namespace Go.Proofs.YtjdfgalcnbnobaaGreatDoor
open Go.RowKit

/-- The slice value v, of memory from block B on, holds the general names l, the names of which are as Q says. -/
def RowQ (Q : Option Addr → Nm → Prop) (w : World) (B : Nat) (v : Value) (l : List Gn) : Prop := ∃ ss : List Value, ss.length = l.length ∧ w.ownsRow B 32 3 v l.length (gsCells l ss) ∧ ∀ i, i < l.length → ∃ a c, ss.getD i noS = .slice a (l.getD i noG).2.2.length c ∧ (l.getD i noG).2.2.length ≤ c ∧ Q a (l.getD i noG).2.2
theorem RowQ.nil (Q : Option Addr → Nm → Prop) (w : World) (B : Nat) : RowQ Q w B (.slice none 0 0) [] := ⟨[], rfl, World.ownsRow_nil _ _ _ _, fun _ hi => absurd hi (Nat.not_lt_zero _)⟩
theorem RowQ.below {Q : Option Addr → Nm → Prop} {w w' : World} {B : Nat} {v : Value} {l : List Gn} (h : RowQ Q w B v l) (hb : Below w.heap.size w w') : RowQ Q w' B v l := by
  obtain ⟨ss, h1, h2, h3⟩ := h
  exact ⟨ss, h1, own_below h2 hb, h3⟩
theorem RowQ.base {Q : Option Addr → Nm → Prop} {w : World} {B B' : Nat} {v : Value} {l : List Gn} (h : RowQ Q w B v l) (hB : B' ≤ B) : RowQ Q w B' v l := by
  obtain ⟨ss, h1, h2, h3⟩ := h
  exact ⟨ss, h1, own_base h2 hB, h3⟩
theorem RowQ.snoc {Q : Option Addr → Nm → Prop} {w' : World} {B : Nat} {v' : Value} {l : List Gn} {g : Gn} {ss : List Value} {a : Option Addr} {c : Nat} (h1 : ss.length = l.length) (h3 : ∀ i, i < l.length → ∃ a c, ss.getD i noS = .slice a (l.getD i noG).2.2.length c ∧ (l.getD i noG).2.2.length ≤ c ∧ Q a (l.getD i noG).2.2)
    (hr : Q a g.2.2) (hc : g.2.2.length ≤ c) (h4 : w'.ownsRow B 32 3 v' (l.length + 1) (gsCells l ss ++ gCells g (.slice a g.2.2.length c))) : RowQ Q w' B v' (l ++ [g]) := by
  refine ⟨ss ++ [.slice a g.2.2.length c], by simp [h1], by rw [List.length_append, gsCells_snoc l ss g _ h1]; exact h4, fun i hi => ?_⟩
  by_cases hlt : i < l.length
  · rw [getD_snoc_lt _ _ _ _ (by omega), getD_snoc_lt _ _ _ _ hlt]
    exact h3 i hlt
  · rw [List.length_append, List.length_singleton] at hi
    obtain rfl : i = l.length := by omega
    rw [getD_snoc_eq, ← h1, getD_snoc_eq]
    exact ⟨a, c, rfl, hc, hr⟩
theorem RowQ.lies {Q : Option Addr → Nm → Prop} {w : World} {B : Nat} {v : Value} {l : List Gn} (h : RowQ Q w B v l) : ∃ a c, v = .slice a l.length c ∧ l.length ≤ c ∧ GLiesQ Q w a l := by
  obtain ⟨ss, h1, h2, h3⟩ := h
  have hh := h2
  rcases h2.2 with ⟨hv, h0⟩ | ⟨g, cap, cur, hv, _, _, hcap, _⟩
  · exact ⟨none, 0, by rw [hv, h0], by omega, .inl (List.eq_nil_of_length_eq_zero h0)⟩
  · refine ⟨_, cap, hv, hcap, .inr ⟨g, 0, rfl, fun i hi => ?_⟩⟩
    rw [hv] at hh
    obtain ⟨a', c', e, q3, q⟩ := h3 i hi
    have hc : ∀ j, j < 3 → w.cell? ⟨g, i * 3 + j, none⟩ = (gCells (l.getD i noG) (ss.getD i noS))[j]? := fun j hj => by
      rw [World.ownsRow.cellAt hh (i * 3 + j) (by omega)]
      exact gs_at l ss i j h1 hi hj
    rw [Nat.zero_add]
    refine ⟨hc 0 (by omega), hc 1 (by omega), a', c', ?_, q3, q⟩
    rw [hc 2 (by omega), ← e]
    rfl
/-! ### The names of a subject -/
def mailT : List UInt8 := [49, 46, 50, 46, 56, 52, 48, 46, 49, 49, 51, 53, 52, 57, 46, 49, 46, 57, 46, 49]
def isMl (x : At) : Bool := x.1.toList == mailT
def gMl (x : At) : Gn := (1, x.2.2.data.toList, [])
def mailsL (r : List At) : List Gn := (r.filter isMl).map gMl
def headL (n : Nm) : List Gn := if n.length = 0 then [] else [(4, [], n)]
def subjL (n : Nm) : List Gn := headL n ++ n.flatMap mailsL
theorem mails_step (r : List At) (j : Nat) (h : j < r.length) : mailsL (r.take (j + 1)) = mailsL (r.take j) ++ (if isMl (r.getD j noAt) = true then [gMl (r.getD j noAt)] else []) := by
  unfold mailsL
  rw [takeN r j h noAt, List.filter_append, List.map_append]
  congr 1
  rw [List.filter_cons, List.filter_nil]
  split <;> rfl
theorem flat_step (n : Nm) (k : Nat) (h : k < n.length) : (n.take (k + 1)).flatMap mailsL = (n.take k).flatMap mailsL ++ mailsL (n.getD k []) := by
  rw [takeN n k h [], List.flatMap_append]; simp
theorem str_back (v : ByteArray) : strOf v.data.toList = v := by unfold strOf; rw [Array.toArray_toList]
/-- Bounds under which the functions on subjects are known. -/
def SbN (n : Nm) : Prop := SmallN n ∧ n.length ≤ 1000 ∧ ∀ r ∈ n, r.length ≤ 1000 ∧ ∀ x ∈ r, x.2.2.size ≤ 100000
theorem SbN.at {n : Nm} (h : SbN n) {k : Nat} (hk : k < n.length) : (n.getD k []).length ≤ 1000 ∧ ∀ x ∈ n.getD k [], x.2.2.size ≤ 100000 := by
  rw [List.getD_eq_getElem?_getD, List.getElem?_eq_getElem hk]; exact h.2.2 _ (List.getElem_mem hk)
theorem gMl_sm {x : At} (h : x.2.2.size ≤ 100000) : SmG (gMl x) := ⟨h, Nat.zero_le _, fun _ hi => absurd hi (Nat.not_lt_zero _)⟩
theorem subjL_sm {n : Nm} (h : SbN n) : SmL (subjL n) := by
  intro g hg
  rcases List.mem_append.1 hg with hg | hg
  · unfold headL at hg
    split at hg
    · cases hg
    · rw [List.mem_singleton.1 hg]; exact ⟨by simp, h.1⟩
  · obtain ⟨r, hr, hg⟩ := List.mem_flatMap.1 hg
    unfold mailsL at hg
    obtain ⟨x, hx, rfl⟩ := List.mem_map.1 hg
    exact gMl_sm ((h.2.2 r hr).2 x (List.mem_filter.1 hx).1)
noncomputable def allG (L : List Sub) (l : List Gn) : Bool := l.all (perG L)
theorem allG_append (L : List Sub) (l m : List Gn) : allG L (l ++ m) = (allG L l && allG L m) := List.all_append
theorem any_not (L : List Sub) (l : List Gn) : (!l.any fun g => !perG L g) = allG L l := by
  unfold allG
  induction l with
  | nil => rfl
  | cons g r ih => rw [List.any_cons, List.all_cons, ← ih]; cases perG L g <;> simp
set_option maxRecDepth 100000 in
set_option maxHeartbeats 4000000 in
theorem subject_core (a0 : Option Addr) (c N : Nat) (n : Nm) (w : World) (h : RLies w a0 n) (hN : N = n.length) (hc : N ≤ c) (hs : SbN n) :
    Calls Tryz.prog 38 #[.agg #[.slice a0 N c]] w fun e w' => ∃ v, e = .returned v ∧ RowQ (fun a m => RLies w a m) w' w.heap.size v (subjL n) ∧ (subjL n).length ≤ 2000000 ∧ Below w.heap.size w w' := by
  obtain ⟨i0, hi, hz0, hz1, hz2⟩ := info_parts gInfo
  obtain ⟨W0, hW0⟩ : ∃ W0, W0 = w.alloc (.cells #[.slice a0 N c] 30) := ⟨_, rfl⟩
  have hwr := hW0.symm
  have hb0 : Below w.heap.size w W0 := by rw [hW0]; exact belowNew w _
  obtain ⟨x0, _, lx⟩ := one_facts (w := W0) (g := w.heap.size) (by rw [hW0]; exact heap_alloc_new w _)
  have hb00 := hb0
  have HB0 := Lib.hid hb0
  have H1 := Lib.hid (h.below hb0)
  have HNN := Lib.hid hN
  have HQ := Lib.hid h
  have HS := Lib.hid hs
  have X0 := Lib.hid x0
  have hN1 : N ≤ 1000 := by rw [hN]; exact hs.2.1
  have hml : ∀ (A B : ByteArray), A.size ≤ 100000 → True := fun _ _ _ => trivial
  clear h hN hs hb0 hb00 hW0 hml
  go_enter Tryz.func38, Tryz.ntmps38
  go_upto_if 11 with (fail)
  clear hwr
  go_cut [3] (fun v wx => RowQ (fun a m => RLies w a m) wx W0.heap.size v (headL n) ∧ Below W0.heap.size W0 wx)
  case first =>
    by_cases h0 : N = 0
    · have d0 : decide ((0 : Int) < (N : Int)) = false := by simp; omega
      have HH := Lib.hid (show headL n = [] by unfold headL; rw [if_pos (by rw [← HNN.out]; exact h0)])
      go_wp2_with fail
      go_meet
      exact ⟨by rw [HH.out]; exact RowQ.nil _ _ _, Below.refl _ _⟩
    · have d0 : decide ((0 : Int) < (N : Int)) = true := by simp; omega
      have HH := Lib.hid (show headL n = [(4, [], n)] by unfold headL; rw [if_neg (by rw [← HNN.out]; exact h0)])
      obtain rfl : N = n.length := HNN.out
      go_wp2_with (at_builtin; (refine wpList_append_own _ rfl (.tmp 12) (.tmp 15) 25 rfl W0.heap.size 32 i0 (.agg #[.int .i64 0, .string ⟨#[]⟩, .slice none 0 0]) 3 48 Tryz.underlying25 hi hz0 hz1 hz2 rfl (by decide) _ 0 [] rfl (World.ownsRow_nil _ _ _ _) ⟨W0.heap.size, 0, none⟩ 1 1 (gCells ((4 : Int), ([] : List UInt8), n) (.slice a0 n.length c)) rfl rfl (fun j u h => news_row W0 #[.int .i64 4, .string ⟨#[]⟩, .slice a0 n.length c] 32 j u (by simpa [gCells, strOf] using h)) (gCells_one _ _ _ _) (by unfold maxLen; omega) (by omega) (by simp) ?_); intro v' w6 hown6 hgr6 _; have P3 : RowQ (fun a m => RLies w a m) w6 W0.heap.size v' ([] ++ [((4 : Int), ([] : List UInt8), n)]) := RowQ.snoc (ss := []) rfl (fun i hi => absurd hi (Nat.not_lt_zero _)) HQ.out hc hown6; have P2 := (belowNew W0 _).grown hgr6 (by simp) (fun j e => (World.ownsRow.lt (World.ownsRow_nil W0 W0.heap.size 32 3) j e).1); have HP3 := Lib.hid P3; have HP2 := Lib.hid P2; clear P2 P3 hown6 hgr6)
      go_meet
      exact ⟨by rw [HH.out]; exact HP3.out, HP2.out⟩
  case rest =>
    obtain ⟨hr, hbc⟩ := hcut
    obtain ⟨V3, hV3⟩ : ∃ V3, V3 = wc := ⟨_, rfl⟩
    subst hV3
    have HR := Lib.hid hr
    have HBC := Lib.hid hbc
    have x3 := (hbc.cell (p := ⟨w.heap.size, 0, none⟩) lx).trans X0.out
    have HHL := Lib.hid (show (headL n).length ≤ 1 by unfold headL; split <;> simp)
    clear hr hbc x0
    go_wp2_with fail
    clear x3
    go_loopw [3, 20] (fun v i wr => ∃ k : Nat, k ≤ N ∧ i = .int .i64 k ∧ RowQ (fun a m => RLies w a m) wr W0.heap.size v (headL n ++ (n.take k).flatMap mailsL) ∧ (headL n ++ (n.take k).flatMap mailsL).length ≤ 1 + 1000 * k ∧ Below W0.heap.size W0 wr) (fun _ i _ => N - (intOf i).toNat)
    case atStart => exact ⟨0, Nat.zero_le _, rfl, by simpa using HR.out, by simpa using HHL.out, HBC.out⟩
    case round =>
      obtain ⟨wz, hwz⟩ : ∃ wz, wz = wr := ⟨_, rfl⟩
      subst hwz
      obtain ⟨k, hk, rfl, ho, hln, hb⟩ := hrel
      have HB := Lib.hid hb
      have HO := Lib.hid ho
      have HLN := Lib.hid hln
      clear hb ho hln HR HBC
      by_cases hlt : k < N
      · have hd : decide ((k : Int) < (N : Int)) = true := by simp; omega
        obtain ⟨b, o, rfl, hbl, a1, c1, e0, hc1, hL1⟩ := H1.out.at k (by rw [← HNN.out]; exact hlt)
        have f0 := (HB.out.cell (p := ⟨b, o + k, none⟩) hbl).trans e0
        have hsk := HS.out.at (k := k) (by rw [← HNN.out]; exact hlt)
        have HST := Lib.hid (flat_step n k (by rw [← HNN.out]; exact hlt))
        have HLT := Lib.hid hlt
        clear e0 hbl
        generalize n.getD k [] = r at f0 hsk hL1 hc1 HST
        obtain ⟨Z, hZ⟩ : ∃ Z, Z = r.length := ⟨_, rfl⟩
        have HRL := Lib.hid hL1
        have HZ := Lib.hid hZ
        have HSK := Lib.hid hsk
        obtain ⟨X, hX⟩ : ∃ X, X = headL n ++ (n.take k).flatMap mailsL := ⟨_, rfl⟩
        have HST2 := Lib.hid (show headL n ++ (n.take (k + 1)).flatMap mailsL = X ++ mailsL r by rw [HST.out, hX, List.append_assoc])
        rw [← hX] at HO HLN
        rw [← hZ] at f0
        have hzz : Z ≤ 1000 := by rw [hZ]; exact hsk.1
        clear hL1 hc1 hX hZ hsk HST
        go_wp2_with fail
        clear f0
        go_loopw [3, 26] (fun v i ws => ∃ j : Nat, j ≤ Z ∧ i = .int .i64 j ∧ RowQ (fun a m => RLies w a m) ws W0.heap.size v (X ++ mailsL (r.take j)) ∧ (X ++ mailsL (r.take j)).length ≤ 1 + 1000 * k + j ∧ Below W0.heap.size W0 ws) (fun _ i _ => Z - (intOf i).toNat)
        case atStart => exact ⟨0, Nat.zero_le _, rfl, by simpa [mailsL] using HO.out, by simpa [mailsL] using HLN.out, HB.out⟩
        case round =>
          obtain ⟨wy, hwy⟩ : ∃ wy, wy = wr := ⟨_, rfl⟩
          subst hwy
          obtain ⟨j, hj, rfl, ho, hln, hb⟩ := hrel
          obtain ⟨av, cv, rfl, _, _⟩ := ho.lies
          have HBY := Lib.hid hb
          have HOY := Lib.hid ho
          have HLY := Lib.hid hln
          clear hb ho hln HO HB
          by_cases hlj : j < Z
          · have hd2 : decide ((j : Int) < (Z : Int)) = true := by simp; omega
            obtain ⟨b', o', rfl, hbl, e0, e1, e2⟩ := HRL.out.at j (by rw [← HZ.out]; exact hlj)
            have f0 := (HBY.out.cell (p := ⟨b', o' + j * 3, none⟩) hbl).trans e0
            have f1 := (HBY.out.cell (p := ⟨b', o' + j * 3 + 1, none⟩) hbl).trans e1
            have f2 := (HBY.out.cell (p := ⟨b', o' + j * 3 + 2, none⟩) hbl).trans e2
            have hst := mails_step r j (by rw [← HZ.out]; exact hlj)
            have hvx := HSK.out.2 (r.getD j noAt) (by rw [List.getD_eq_getElem?_getD, List.getElem?_eq_getElem (by rw [← HZ.out]; exact hlj)]; exact List.getElem_mem _)
            have HLJ := Lib.hid hlj
            clear e0 e1 e2 hbl
            generalize r.getD j noAt = y at f0 f1 f2 hst hvx
            obtain ⟨ty, ky, vy⟩ := y
            simp only at f0 f1 f2
            obtain ⟨W2, hW2⟩ : ∃ W2, W2 = wy.alloc (.cells #[.string ty, .int .i64 ky, .string vy] 69) := ⟨_, rfl⟩
            have hb2 : Below wy.heap.size wy W2 := by rw [hW2]; exact belowNew wy _
            obtain ⟨g0, g1, g2, lg⟩ := three_facts (w := W2) (g := wy.heap.size) (by rw [hW2]; exact heap_alloc_new wy _)
            have HB2 := Lib.hid (below_next HBY.out hb2)
            obtain ⟨ss, hv1, hv2, hv3⟩ := HOY.out.below hb2
            have HV1 := Lib.hid hv1
            have HV2 := Lib.hid hv2
            have HV3 := Lib.hid hv3
            have HWE := hW2.symm
            have hlw : w.heap.size ≤ W2.heap.size := Nat.le_trans HB0.out.size HB2.out.size
            clear hb2 hv1 hv2 hv3 hW2
            by_cases hml : isMl (ty, ky, vy) = true
            · have d3 : (ty.toList == [49, 46, 50, 46, 56, 52, 48, 46, 49, 49, 51, 53, 52, 57, 46, 49, 46, 57, 46, 49]) = true := hml
              have HST3 := Lib.hid (show X ++ mailsL (r.take (j + 1)) = (X ++ mailsL (r.take j)) ++ [((1 : Int), vy.data.toList, ([] : Nm))] by rw [hst, if_pos hml, List.append_assoc]; rfl)
              obtain ⟨Y, hY⟩ : ∃ Y, Y = X ++ mailsL (r.take j) := ⟨_, rfl⟩
              rw [← hY] at HLY HST3 HV1 HV2 HV3 ⊢
              have HSB := Lib.hid (str_back vy)
              clear hst hml hvx hY HOY
              go_wp2_with (at_builtin; (refine wpList_append_own _ rfl (.tmp 33) (.tmp 37) 25 rfl W0.heap.size 32 i0 (.agg #[.int .i64 0, .string ⟨#[]⟩, .slice none 0 0]) 3 48 Tryz.underlying25 hi hz0 hz1 hz2 rfl (by decide) _ Y.length (gsCells Y ss) rfl (own_below HV2.out (belowNew _ _)) ⟨W2.heap.size, 0, none⟩ 1 1 (gCells ((1 : Int), vy.data.toList, ([] : Nm)) (.slice none 0 0)) rfl rfl (fun j u h => news_row W2 #[.int .i64 1, .string vy, .slice none 0 0] 32 j u (by simpa [gCells, HSB.out] using h)) (gCells_one _ _ _ _) (by have := HLY.out; unfold maxLen; omega) (by have := HLY.out; omega) (by have := HB2.out.size; simp; omega) ?_); intro v' w6 hown6 hgr6 _; have P3 := RowQ.snoc (Q := fun a m => RLies w a m) (a := none) (c := 0) (g := ((1 : Int), vy.data.toList, ([] : Nm))) HV1.out HV3.out (.inl rfl) (Nat.le_refl _) hown6; have P2 := (HB2.out.trans ((belowNew W2 _).mono HB2.out.size)).grown hgr6 (by have := HB2.out.size; simp; omega) (fun j e => (World.ownsRow.lt HV2.out j e).1); have HP3 := Lib.hid P3; have HP2 := Lib.hid P2; clear P2 P3 hown6 hgr6)
              go_roundw
              case rel => exact ⟨j + 1, HLJ.out, by go_num, by rw [HST3.out]; exact HP3.out, by rw [HST3.out, List.length_append, List.length_singleton]; have := HLY.out; omega, HP2.out⟩
              case measure => simp [intOf]; omega
            · have d3 : (ty.toList == [49, 46, 50, 46, 56, 52, 48, 46, 49, 49, 51, 53, 52, 57, 46, 49, 46, 57, 46, 49]) = false := by simpa [isMl, mailT] using hml
              have HST3 := Lib.hid (show X ++ mailsL (r.take (j + 1)) = X ++ mailsL (r.take j) by rw [hst, if_neg hml, List.append_nil])
              have HOZ := Lib.hid (show RowQ (fun a m => RLies w a m) W2 W0.heap.size (.slice av (X ++ mailsL (r.take j)).length cv) (X ++ mailsL (r.take j)) from ⟨ss, HV1.out, HV2.out, HV3.out⟩)
              clear hst hml hvx
              go_wp2_with fail
              go_roundw
              case rel => exact ⟨j + 1, HLJ.out, by go_num, by rw [HST3.out]; exact HOZ.out, by rw [HST3.out]; have := HLY.out; omega, HB2.out⟩
              case measure => simp [intOf]; omega
          · have hd2 : decide ((j : Int) < (Z : Int)) = false := by simp; omega
            obtain rfl : j = Z := by omega
            have HTJ := Lib.hid (show r.take j = r from List.take_of_length_le (by rw [← HZ.out]; exact Nat.le_refl _))
            go_wp2_with fail
            go_roundw
            case rel => exact ⟨k + 1, HLT.out, by go_num, by rw [HST2.out]; have h := HOY.out; rw [HTJ.out] at h ⊢; exact h, by rw [HST2.out]; have := HLY.out; rw [HTJ.out] at this; omega, HBY.out⟩
            case measure => simp [intOf]; omega
      · have hd : decide ((k : Int) < (N : Int)) = false := by simp; omega
        obtain rfl : k = N := by omega
        have HTN := Lib.hid (show n.take k = n from List.take_of_length_le (by rw [← HNN.out]; exact Nat.le_refl _))
        go_wp2_with fail
        go_ret
        exact ⟨_, rfl, by have h := HO.out.base HB0.out.size; rw [HTN.out] at h; exact h, by have := HLN.out; rw [HTN.out] at this; show (headL n ++ n.flatMap mailsL).length ≤ _; omega, below_next HB0.out HB.out⟩
end Go.Proofs.YtjdfgalcnbnobaaGreatDoor
