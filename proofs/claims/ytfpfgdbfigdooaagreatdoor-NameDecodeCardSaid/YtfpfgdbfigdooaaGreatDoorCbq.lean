/-
  The contracts of encodeRelative and Encode.
  The contract of Encode: the element of a name, or the error of Check.
-/
import Derived.Test.YtfpfgdbfigdooaaGreatDoorCbp
import Derived.Test.YtfpfgdbfigdooaaGreatDoorCaq
namespace Go.Proofs.YtfpfgdbfigdooaaGreatDoor
open Go.RowKit

/-- A row of n strings, the first of which are those of L. -/
def rowT (n : Nat) (L : List ByteArray) : Array Value := (L.map Value.string ++ List.replicate (n - L.length) (Value.string ⟨#[]⟩)).toArray
theorem rowT_size (n : Nat) (L : List ByteArray) (h : L.length ≤ n) : (rowT n L).size = n := by
  simp [rowT]; omega
theorem rowT_snoc (n : Nat) (L : List ByteArray) (s : ByteArray) (k : Nat) (hk : k = L.length) (h : k < n) : (rowT n L).setIfInBounds k (.string s) = rowT n (L ++ [s]) := by
  subst hk
  apply Array.ext
  · rw [Array.size_setIfInBounds, rowT_size n L (by omega), rowT_size n _ (by simp; omega)]
  · intro i h1 h2
    rw [Array.size_setIfInBounds, rowT_size n L (by omega)] at h1
    by_cases hi : L.length = i
    · subst hi
      rw [Array.getElem_setIfInBounds_self]
      simp [rowT]
    · rw [Array.getElem_setIfInBounds_ne (by rw [rowT_size n L (by omega)]; exact h1) hi]
      simp only [rowT, List.getElem_toArray]
      rcases Nat.lt_or_ge i L.length with hl | hl
      · rw [List.getElem_append_left (by simpa using hl), List.getElem_append_left (by simp; omega)]
        simp [hl]
      · rw [List.getElem_append_right (by simpa using hl), List.getElem_append_right (by simp; omega)]
        simp
theorem rowT_nil (n : Nat) : rowT n [] = (List.replicate n (Value.string ⟨#[]⟩)).toArray := by simp [rowT]
theorem rowT_all (n : Nat) (L : List ByteArray) (h : L.length = n) : rowT n L = (L.map Value.string).toArray := by simp [rowT, h]
theorem rowT_at (n : Nat) (L : List ByteArray) (h : L.length ≤ n) (i : Nat) (hi : i < n) : ∃ v, (rowT n L)[i]? = some v :=
  ⟨_, Array.getElem?_eq_getElem (by rw [rowT_size n L h]; exact hi)⟩
theorem strInfo2 : (Tryz.prog.info? 9).map (fun i => (i.zero, i.size, i.bytes)) = some (some (.string ⟨#[]⟩), 1, 16) := by kernel_rfl
theorem strs_make (n : Nat) (hn : n ≤ 1000000) (W : World) : (Instr.makeSlice 43 (.int .i64 (n : Int)) (.int .i64 (n : Int))).run Tryz.prog W = .ok (.slice (some ⟨W.heap.size, 0, none⟩) n n) (W.alloc (.cells (rowT n []) 9)) := by
  obtain ⟨i0, hi, hz0, hz1, hz2⟩ := info_parts strInfo2
  have hr := run_makeSlice (P := Tryz.prog) W 43 9 i0 (.string ⟨#[]⟩) Tryz.underlying43 hi hz0 .i64 .i64 (n : Int) (n : Int) (by omega) (Int.le_refl _) (by rw [hz1]; simp; omega) (by rw [hz2]; omega) (by omega)
  rw [hr]
  have e2 : madeCells (Value.string ⟨#[]⟩).cells ((n : Int).toNat * i0.size) = rowT n [] := by
    rw [hz1, rowT_nil]
    apply Array.ext
    · simp [madeCells, Value.cells]
    · intro i h1 h2
      simp [madeCells, Value.cells, Nat.mod_one]
  rw [e2]
  simp
theorem row_put {w : World} {g n k : Nat} {L : List ByteArray} {s : ByteArray} {T : TypeId} (h : w.heap[g]? = some (.cells (rowT n L) T (0, 0))) (hk : k = L.length) (hn : k < n) :
    (w.setCell ⟨g, k, none⟩ (.string s)).heap[g]? = some (.cells (rowT n (L ++ [s])) T (0, 0)) := by
  rw [← rowT_snoc n L s k hk hn]
  simp [World.setCell, Array.getElem?_modify, h]
theorem row_reads {w : World} {g n : Nat} {L : List ByteArray} {T : TypeId} (h : w.heap[g]? = some (.cells (rowT n L) T (0, 0))) (hl : L.length = n) : Reads w (.slice (some ⟨g, 0, none⟩) n n) L := by
  refine ⟨_, n, by rw [hl], .inr ⟨g, 0, rfl, fun i hi => ?_⟩⟩
  rw [Lib.cell_of_heap h, rowT_all n L hl]
  simp only [Nat.zero_add, List.getElem?_toArray, List.getElem?_map]
  rw [List.getElem?_eq_getElem hi, List.getD_eq_getElem?_getD, List.getElem?_eq_getElem hi]
  rfl
theorem cat_len : ∀ (ss : List ByteArray), (∀ s ∈ ss, s.size ≤ 131080) → (cat_t ss).length ≤ 131080 * ss.length
  | [], _ => by simp [cat_t]
  | s :: r, h => by
    have h1 : s.data.toList.length ≤ 131080 := h s List.mem_cons_self
    have h2 := cat_len r (fun x hx => h x (List.mem_cons_of_mem _ hx))
    have e : cat_t (s :: r) = s.data.toList ++ cat_t r := by simp [cat_t]
    rw [e, List.length_append, List.length_cons]
    omega
theorem encA_size (a : At) : (encA a).size ≤ 131080 := wrapStr_size _ _
theorem encR_size (r : List At) : (encR r).size ≤ 131080 := wrapStr_size _ _
theorem encs_cat (r : List At) (n : Nat) (h : r.length = n) (hn : n ≤ 1000) : (cat_t (r.map encA)).length ≤ 1099511627776 := by
  have := cat_len (r.map encA) (fun s hs => by obtain ⟨a, _, rfl⟩ := List.mem_map.1 hs; exact encA_size a)
  rw [List.length_map] at this
  omega

set_option maxRecDepth 100000 in
set_option maxHeartbeats 4000000 in
theorem encrel_any (a0 : Option Addr) (c n : Nat) (l : List At) (w : World) (h : ALies w a0 l) (hn : n = l.length) (hs : SmallR l) (hl : n ≤ 1000) :
    Calls Tryz.prog 32 #[.slice a0 n c] w fun e w' => e = .returned (.string (encR l)) ∧ Below w.heap.size w w' := by
  have hmk := strs_make n (by omega)
  obtain ⟨W0, hW0⟩ : ∃ W0, W0 = w.alloc (.cells (rowT n []) 9) := ⟨_, rfl⟩
  have hb0 : Below w.heap.size w W0 := by rw [hW0]; exact belowNew w _
  have hq0 : W0.heap[w.heap.size]? = some (.cells (rowT n []) 9 (0, 0)) := by rw [hW0]; exact heap_alloc_new w _
  obtain ⟨g, hg⟩ : ∃ g, g = w.heap.size := ⟨_, rfl⟩
  have HWE := Lib.hid hW0.symm
  have HB0 := Lib.hid hb0
  rw [← hg] at hq0
  have HQ0 := Lib.hid hq0
  have HG := Lib.hid hg
  have H1 := Lib.hid h
  have HN := Lib.hid hn
  have HS := Lib.hid hs
  obtain ⟨oo, hoo⟩ : ∃ oo, oo = (⟨(ordL (lists (l.map encA))).flatten.toArray⟩ : ByteArray) := ⟨_, rfl⟩
  have HOR := Lib.hid (fun v W (hv : Reads W v (l.map encA)) => order_any v (l.map encA) W hv (by rw [List.length_map]; omega) (encs_cat l n hn.symm hl))
  unfold encR
  rw [← hoo] at HOR ⊢
  clear h hn hs hW0 hb0 hq0 hg hoo
  go_enter Tryz.func32, Tryz.ntmps32
  go_wp2_with fail
  rw [HWE.out, ← HG.out]
  clear hmk
  go_loopw [11] (fun i wr => ∃ k : Nat, k ≤ n ∧ i = .int .i64 (k : Int) ∧ wr.heap[g]? = some (.cells (rowT n ((l.take k).map encA)) 9 (0, 0)) ∧ Below w.heap.size w wr) (fun i _ => n - (intOf i).toNat)
  case atStart => exact ⟨0, Nat.zero_le _, rfl, HQ0.out, HB0.out⟩
  case round =>
    obtain ⟨k, hk, rfl, hq, hb⟩ := hrel
    have HB := Lib.hid hb
    have HQ := Lib.hid hq
    clear hb hq
    by_cases hlt : k < n
    · have hd : decide ((k : Int) < (n : Int)) = true := by simp; omega
      obtain ⟨b, o, rfl, hb, c0, c1, c2⟩ := H1.out.at k (by rw [← HN.out]; exact hlt)
      have a0 : wr.cell? ⟨b, o + k * 3, none⟩ = _ := (HB.out.cell (p := ⟨b, o + k * 3, none⟩) hb).trans c0
      have a1 : wr.cell? ⟨b, o + k * 3 + 1, none⟩ = _ := (HB.out.cell (p := ⟨b, o + k * 3 + 1, none⟩) hb).trans c1
      have a2 : wr.cell? ⟨b, o + k * 3 + 2, none⟩ = _ := (HB.out.cell (p := ⟨b, o + k * 3 + 2, none⟩) hb).trans c2
      have hst : (l.take (k + 1)).map encA = (l.take k).map encA ++ [encA (l.getD k noAt)] := by rw [takeD l k (by rw [← HN.out]; exact hlt) noAt]; simp
      have hsm := HS.out.2 k (by rw [← HN.out]; exact hlt)
      generalize l.getD k noAt = y at a0 a1 a2 hst hsm
      obtain ⟨t, kd, v⟩ := y
      have HEN := Lib.hid (fun W => enca_any (t, kd, v) W (Nat.le_trans hsm.1 (by omega)))
      unfold atV at HEN
      simp only at HEN
      obtain ⟨s, hs⟩ : ∃ s, s = encA (t, kd, v) := ⟨_, rfl⟩
      rw [← hs] at HEN hst
      have HST := Lib.hid hst
      have hll : k = ((l.take k).map encA).length := by rw [List.length_map, List.length_take, ← HN.out]; omega
      have HLL := Lib.hid hll
      have hgl : g < wr.heap.size := (Array.getElem?_eq_some_iff.1 HQ.out).1
      clear c0 c1 c2 hb hsm hs hst hll
      go_wp2_with (go_at_call 59; (with_reducible refine (HEN.out _).mono ?_); rintro e w1 ⟨rfl, hb1⟩; have hq1 := (hb1.block g (by simp; omega)).trans (((belowNew wr _).block g hgl).trans HQ.out); have HQ1 := Lib.hid hq1; have HB1 := Lib.hid (below_next HB.out (below_next (belowNew wr _) hb1)); obtain ⟨cv, hcv⟩ := rowT_at n ((l.take k).map encA) (by have := HLL.out; omega) k hlt; have hcell : w1.cell? ⟨g, k, none⟩ = some cv := (by rw [Lib.cell_of_heap hq1]; exact hcv); have hfz : w1.frozen? ⟨g, k, none⟩ = false := Lib.frozen_of_heap hq1 k; clear hb1 hq1 hcv)
      go_roundw
      case rel => exact ⟨k + 1, by omega, by go_num, by rw [HST.out]; exact row_put HQ1.out HLL.out hlt, HB1.out.setCell (p := ⟨g, k, none⟩) (by rw [HG.out]; exact Nat.le_refl _) _⟩
      case measure => simp [intOf]; omega
    · have hd : decide ((k : Int) < (n : Int)) = false := by simp; omega
      have hR := row_reads HQ.out (by rw [List.length_map, List.length_take, ← HN.out]; omega)
      rw [List.take_of_length_le (by rw [← HN.out]; omega)] at hR
      have HR := Lib.hid hR
      have H1w := Lib.hid (fun g x W h => dw1 49 g x W h)
      clear hR
      go_wp2_with (first
        | (go_at_call 60; (with_reducible refine (HOR.out _ _ HR.out).mono ?_); rintro e w1 ⟨rfl, hb1⟩; have HB1 := Lib.hid (below_next HB.out hb1); clear hb1)
        | (go_at_call 33; (with_reducible refine (H1w.out _ _ _ (bx1 _ _ _)).mono ?_); rintro e w2 ⟨rfl, hb2⟩; have HB2 := Lib.hid (below_next HB1.out (below_next (belowNew _ _) hb2)); clear hb2))
      go_ret
      exact ⟨rfl, HB2.out⟩
end Go.Proofs.YtfpfgdbfigdooaaGreatDoor
namespace Go.Proofs.YtfpfgdbfigdooaaGreatDoor
open Go.RowKit

theorem chkRs_zero : ∀ {n : Nm}, chkRs n = 0 → ∀ i, i < n.length → chkR (n.getD i []) = 0
  | [], _, i, hi => absurd hi (Nat.not_lt_zero _)
  | r :: n, h, i, hi => by
    unfold chkRs at h
    by_cases hr : chkR r = 0
    · rw [if_pos hr] at h
      cases i with
      | zero => exact hr
      | succ i => exact chkRs_zero h i (by simpa using hi)
    · rw [if_neg hr] at h
      exact absurd h hr
theorem chkN_zero {n : Nm} (h : chkN n = 0) : n.length ≤ 8 ∧ ∀ i, i < n.length → chkR (n.getD i []) = 0 := by
  unfold chkN at h
  split at h
  · cases h
  · exact ⟨by omega, chkRs_zero h⟩
theorem chkR_zero {r : List At} (h : chkR r = 0) : 1 ≤ r.length ∧ r.length ≤ 4 ∧ chkL [] r = 0 := by
  unfold chkR at h
  split at h
  · cases h
  · split at h
    · cases h
    · exact ⟨by omega, by omega, h⟩
/-- What Encode answers. -/
noncomputable def encV (n : Nm) : ByteArray := if chkN n = 0 then encN n else ⟨#[]⟩
theorem encn_cat (n : Nm) (m : Nat) (h : n.length = m) (hm : m ≤ 1000) : (cat_t (n.map encR)).length ≤ 1099511627776 := by
  have := cat_len (n.map encR) (fun s hs => by obtain ⟨a, _, rfl⟩ := List.mem_map.1 hs; exact encR_size a)
  rw [List.length_map] at this
  omega

set_option maxRecDepth 100000 in
set_option maxHeartbeats 4000000 in
theorem encode_core (a0 : Option Addr) (c m : Nat) (n : Nm) (w : World) (h : RLies w a0 n) (hn : m = n.length) (hs : SmallN n) (hT : Tab w) :
    Calls Tryz.prog 14 #[.agg #[.slice a0 m c]] w fun e w' => e = .returned (.tuple #[.string (encV n), .int .i64 ((chkN n : Nat) : Int)]) ∧ Below w.heap.size w w' := by
  obtain ⟨W0, hW0⟩ : ∃ W0, W0 = w.alloc (.cells #[.slice a0 m c] 24) := ⟨_, rfl⟩
  have hwr : w.alloc (.cells #[.slice a0 m c] 24) = W0 := hW0.symm
  have hb0 : Below w.heap.size w W0 := by rw [hW0]; exact belowNew w _
  have hq0 : W0.heap[w.heap.size]? = some (.cells #[.slice a0 m c] 24 (0, 0)) := by rw [hW0]; exact heap_alloc_new w _
  have hz0 : W0.heap.size = w.heap.size + 1 := by rw [hW0]; simp
  have HC := Lib.hid (chk_core a0 c m n W0 (h.below hb0) hn hs (hT.below hb0))
  obtain ⟨E, hE⟩ : ∃ E, E = chkN n := ⟨_, rfl⟩
  obtain ⟨V, hV⟩ : ∃ V, V = encV n := ⟨_, rfl⟩
  rw [← hE] at HC ⊢
  rw [← hV]
  have HB0 := Lib.hid hb0
  have HQ0 := Lib.hid hq0
  obtain ⟨c0, f0, l0⟩ := one_facts hq0
  by_cases hz : E = 0
  · have hch := chkN_zero (hE.symm.trans hz)
    have HV := Lib.hid (show V = wrapStr 48 (cat_t (n.map encR)) by rw [hV]; unfold encV; rw [← hE, if_pos hz]; rfl)
    have H1 := Lib.hid h
    have HN := Lib.hid hn
    have HS := Lib.hid hs
    have HCH := Lib.hid hch.2
    have hm8 : m ≤ 8 := by rw [hn]; exact hch.1
    have hmk := strs_make m (by omega)
    have HDW := Lib.hid (fun g W (hv : Reads W (.slice (some ⟨g, 0, none⟩) m m) (n.map encR)) => dwrap_any 48 _ m m (n.map encR) W hv (by rw [List.length_map, ← hn]; omega))
    subst hz
    clear hE hV hn hs hch h hT hW0 hb0 hq0
    go_enter Tryz.func14, Tryz.ntmps14
    go_wp2_with (go_at_call 16; (with_reducible refine HC.out.mono ?_); rintro e w1 ⟨rfl, hb1⟩; have HB1 := Lib.hid (below_next HB0.out hb1); have hq1 := (hb1.block w.heap.size l0).trans HQ0.out; have HQ1 := Lib.hid hq1; obtain ⟨c1, f1, l1⟩ := one_facts hq1; clear hb1 hq1)
    obtain ⟨W2, hW2⟩ : ∃ W2, W2 = w1.alloc (.cells (rowT m []) 9) := ⟨_, rfl⟩
    have hb2 : Below w1.heap.size w1 W2 := by rw [hW2]; exact belowNew w1 _
    have hq2 : W2.heap[w1.heap.size]? = some (.cells (rowT m []) 9 (0, 0)) := by rw [hW2]; exact heap_alloc_new w1 _
    rw [← hW2]
    obtain ⟨g, hg⟩ : ∃ g, g = w1.heap.size := ⟨_, rfl⟩
    rw [← hg] at hq2 ⊢
    have HB2 := Lib.hid (below_next HB1.out hb2)
    have HQ2 := Lib.hid hq2
    have hwg : w.heap.size ≤ g := by rw [hg]; exact HB1.out.size
    clear hmk hb2 hq2 hW2 hg c0 f0 l0 c1 f1 l1 hwr
    go_loopw [20] (fun i wr => ∃ k : Nat, k ≤ m ∧ i = .int .i64 (k : Int) ∧ wr.heap[g]? = some (.cells (rowT m ((n.take k).map encR)) 9 (0, 0)) ∧ Below w.heap.size w wr) (fun i _ => m - (intOf i).toNat)
    case atStart => exact ⟨0, Nat.zero_le _, rfl, HQ2.out, HB2.out⟩
    case round =>
      obtain ⟨k, hk, rfl, hq, hb⟩ := hrel
      have HB := Lib.hid hb
      have HQ := Lib.hid hq
      clear hb hq
      by_cases hlt : k < m
      · have hd : decide ((k : Int) < (m : Int)) = true := by simp; omega
        obtain ⟨b, o, rfl, hb, a', c', e0, hc', hL⟩ := H1.out.at k (by rw [← HN.out]; exact hlt)
        have a0 : wr.cell? ⟨b, o + k, none⟩ = _ := (HB.out.cell (p := ⟨b, o + k, none⟩) hb).trans e0
        have hst : (n.take (k + 1)).map encR = (n.take k).map encR ++ [encR (n.getD k [])] := by rw [takeD n k (by rw [← HN.out]; exact hlt) []]; simp
        have hsm := HS.out.2 k (by rw [← HN.out]; exact hlt)
        have hrz := (chkR_zero (HCH.out k (by rw [← HN.out]; exact hlt))).2.1
        generalize n.getD k [] = r at a0 hst hsm hc' hL hrz
        obtain ⟨q, hqq⟩ : ∃ q, q = r.length := ⟨_, rfl⟩
        rw [← hqq] at a0 hc'
        have HEN := Lib.hid (encrel_any a' c' q r wr (hL.below HB.out) hqq hsm (by omega))
        obtain ⟨s, hs⟩ : ∃ s, s = encR r := ⟨_, rfl⟩
        rw [← hs] at HEN hst
        have HST := Lib.hid hst
        have HLL := Lib.hid (show k = ((n.take k).map encR).length by rw [List.length_map, List.length_take, ← HN.out]; omega)
        have hgl : g < wr.heap.size := (Array.getElem?_eq_some_iff.1 HQ.out).1
        clear e0 hb hsm hs hst hrz hqq hL hc'
        go_wp2_with (go_at_call 32; (with_reducible refine HEN.out.mono ?_); rintro e w3 ⟨rfl, hb3⟩; have hq3 := (hb3.block g hgl).trans HQ.out; have HQ3 := Lib.hid hq3; have HB3 := Lib.hid (below_next HB.out hb3); obtain ⟨cv, hcv⟩ := rowT_at m ((n.take k).map encR) (by have := HLL.out; omega) k hlt; have hcell : w3.cell? ⟨g, k, none⟩ = some cv := (by rw [Lib.cell_of_heap hq3]; exact hcv); have hfz : w3.frozen? ⟨g, k, none⟩ = false := Lib.frozen_of_heap hq3 k; clear hb3 hq3 hcv)
        go_roundw
        case rel => exact ⟨k + 1, by omega, by go_num, by rw [HST.out]; exact row_put HQ3.out HLL.out hlt, HB3.out.setCell (p := ⟨g, k, none⟩) hwg _⟩
        case measure => simp [intOf]; omega
      · have hd : decide ((k : Int) < (m : Int)) = false := by simp; omega
        have hR := row_reads HQ.out (by rw [List.length_map, List.length_take, ← HN.out]; omega)
        rw [List.take_of_length_le (by rw [← HN.out]; omega)] at hR
        have HR := Lib.hid (HDW.out _ _ hR)
        rw [← HV.out] at HR
        clear hR
        go_wp2_with (go_at_call 33; (with_reducible refine HR.out.mono ?_); rintro e w1 ⟨rfl, hb1⟩; have HB1 := Lib.hid (below_next HB.out hb1); clear hb1)
        go_ret2
        exact ⟨rfl, HB1.out⟩
  · have hz1 := errno_ne hz
    have HV := Lib.hid (show V = ⟨#[]⟩ by rw [hV]; unfold encV; rw [← hE, if_neg hz])
    clear hE hV hn hs h hT hW0 hb0 hq0
    rw [HV.out]
    go_enter Tryz.func14, Tryz.ntmps14
    go_wp2_with (go_at_call 16; (with_reducible refine HC.out.mono ?_); rintro e w1 ⟨rfl, hb1⟩; have HB1 := Lib.hid (below_next HB0.out hb1); clear hb1)
    go_ret2
    exact ⟨rfl, HB1.out⟩
end Go.Proofs.YtfpfgdbfigdooaaGreatDoor
