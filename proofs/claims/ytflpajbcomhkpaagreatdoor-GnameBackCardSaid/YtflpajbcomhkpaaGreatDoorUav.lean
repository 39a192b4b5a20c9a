/-
  The contracts of encodeRelative and Encode.
  The contract of Encode: the element of a name, or the error of Check.
  The contract of the reference's CheckName: the same first error.
  The contracts of the reference's attributes and EncodeName: the same element.
  The contract of the reference's EncodeName: the same element as Encode returns, or the same error.
  General names: what Check, Encode, Same, Match and Within answer, said over a kind, a text and a name. Nothing is claimed of the program here.
  The contract of the reference's CheckGeneral: the first error of a general name.
  The contracts of strings.HasPrefix, HasSuffix, TrimPrefix, CutPrefix, IndexByte, Contains and EqualFold and of internal/stringslite.Index: the library's theorems, laid at the program's own numbers. Nothing is claimed of the program beyond its bodies.
  The table of the kinds of general names, and the contracts of kindOf and taggedKind.
-/
import Derived.Test.YtflpajbcomhkpaaGreatDoorUau
import Derived.Test.YtflpajbcomhkpaaGreatDoorUai
import Derived.Test.YtflpajbcomhkpaaGreatDoorUal
import Derived.Test.YtflpajbcomhkpaaGreatDoorUae
import Derived.Test.YtflpajbcomhkpaaGreatDoorUak
import Derived.Test.YtflpajbcomhkpaaGreatDoorUam
import Derived.Test.YtflpajbcomhkpaaGreatDoorUan
import Derived.Test.YtflpajbcomhkpaaGreatDoorUaa
import Derived.Shelf.Strings.Prefix
import Derived.Shelf.Strings.Fold
import Derived.Shelf.Strings.Search3
import Derived.Shelf.Small.Strs
import Derived.Shelf.Small.Wraps
import Derived.Shelf.Vars
import Derived.Test.YtflpajbcomhkpaaGreatDoorUac
namespace Go.Proofs.YtflpajbcomhkpaaGreatDoor
open Go.RowKit

/-- A row of n strings, the first of which are those of L. -/
def rowT (n : Nat) (L : List ByteArray) : Array Value := (L.map Value.string ++ List.replicate (n - L.length) (Value.string ⟨#[]⟩)).toArray
theorem rowT_size (n : Nat) (L : List ByteArray) (h : L.length ≤ n) : (rowT n L).size = n := by
  simp [rowT]; omega
theorem rowT_snoc (n : Nat) (L : List ByteArray) (s : ByteArray) (k : Nat) (hk : k = L.length) (h : k < n) : (rowT n L).setIfInBounds k (.string s) = rowT n (L ++ [s]) := by
  subst hk
  apply Array.ext
  · rw [Array.size_setIfInBounds, rowT_size n L (by omega), rowT_size n _ (by simp; omega)]
  · intro i h1 h2
    rw [Array.size_setIfInBounds, rowT_size n L (by omega)] at h1
    by_cases hi : L.length = i
    · subst hi
      rw [Array.getElem_setIfInBounds_self]
      simp [rowT]
    · rw [Array.getElem_setIfInBounds_ne (by rw [rowT_size n L (by omega)]; exact h1) hi]
      simp only [rowT, List.getElem_toArray]
      rcases Nat.lt_or_ge i L.length with hl | hl
      · rw [List.getElem_append_left (by simpa using hl), List.getElem_append_left (by simp; omega)]
        simp [hl]
      · rw [List.getElem_append_right (by simpa using hl), List.getElem_append_right (by simp; omega)]
        simp
theorem rowT_nil (n : Nat) : rowT n [] = (List.replicate n (Value.string ⟨#[]⟩)).toArray := by simp [rowT]
theorem rowT_all (n : Nat) (L : List ByteArray) (h : L.length = n) : rowT n L = (L.map Value.string).toArray := by simp [rowT, h]
theorem rowT_at (n : Nat) (L : List ByteArray) (h : L.length ≤ n) (i : Nat) (hi : i < n) : ∃ v, (rowT n L)[i]? = some v :=
  ⟨_, Array.getElem?_eq_getElem (by rw [rowT_size n L h]; exact hi)⟩
theorem strInfo2 : (Tryz.prog.info? 9).map (fun i => (i.zero, i.size, i.bytes)) = some (some (.string ⟨#[]⟩), 1, 16) := by kernel_rfl
theorem strs_make (n : Nat) (hn : n ≤ 1000000) (W : World) : (Instr.makeSlice 51 (.int .i64 (n : Int)) (.int .i64 (n : Int))).run Tryz.prog W = .ok (.slice (some ⟨W.heap.size, 0, none⟩) n n) (W.alloc (.cells (rowT n []) 9)) := by
  obtain ⟨i0, hi, hz0, hz1, hz2⟩ := info_parts strInfo2
  have hr := run_makeSlice (P := Tryz.prog) W 51 9 i0 (.string ⟨#[]⟩) Tryz.underlying51 hi hz0 .i64 .i64 (n : Int) (n : Int) (by omega) (Int.le_refl _) (by rw [hz1]; simp; omega) (by rw [hz2]; omega) (by omega)
  rw [hr]
  have e2 : madeCells (Value.string ⟨#[]⟩).cells ((n : Int).toNat * i0.size) = rowT n [] := by
    rw [hz1, rowT_nil]
    apply Array.ext
    · simp [madeCells, Value.cells]
    · intro i h1 h2
      simp [madeCells, Value.cells, Nat.mod_one]
  rw [e2]
  simp
theorem row_put {w : World} {g n k : Nat} {L : List ByteArray} {s : ByteArray} {T : TypeId} (h : w.heap[g]? = some (.cells (rowT n L) T (0, 0))) (hk : k = L.length) (hn : k < n) :
    (w.setCell ⟨g, k, none⟩ (.string s)).heap[g]? = some (.cells (rowT n (L ++ [s])) T (0, 0)) := by
  rw [← rowT_snoc n L s k hk hn]
  simp [World.setCell, Array.getElem?_modify, h]
theorem row_reads {w : World} {g n : Nat} {L : List ByteArray} {T : TypeId} (h : w.heap[g]? = some (.cells (rowT n L) T (0, 0))) (hl : L.length = n) : Reads w (.slice (some ⟨g, 0, none⟩) n n) L := by
  refine ⟨_, n, by rw [hl], .inr ⟨g, 0, rfl, fun i hi => ?_⟩⟩
  rw [Lib.cell_of_heap h, rowT_all n L hl]
  simp only [Nat.zero_add, List.getElem?_toArray, List.getElem?_map]
  rw [List.getElem?_eq_getElem hi, List.getD_eq_getElem?_getD, List.getElem?_eq_getElem hi]
  rfl
theorem cat_len : ∀ (ss : List ByteArray), (∀ s ∈ ss, s.size ≤ 131080) → (cat_t ss).length ≤ 131080 * ss.length
  | [], _ => by simp [cat_t]
  | s :: r, h => by
    have h1 : s.data.toList.length ≤ 131080 := h s List.mem_cons_self
    have h2 := cat_len r (fun x hx => h x (List.mem_cons_of_mem _ hx))
    have e : cat_t (s :: r) = s.data.toList ++ cat_t r := by simp [cat_t]
    rw [e, List.length_append, List.length_cons]
    omega
theorem encA_size (a : At) : (encA a).size ≤ 131080 := wrapStr_size _ _
theorem encs_cat (r : List At) (n : Nat) (h : r.length = n) (hn : n ≤ 1000) : (cat_t (r.map encA)).length ≤ 1099511627776 := by
  have := cat_len (r.map encA) (fun s hs => by obtain ⟨a, _, rfl⟩ := List.mem_map.1 hs; exact encA_size a)
  rw [List.length_map] at this
  omega

set_option maxRecDepth 100000 in
set_option maxHeartbeats 4000000 in
theorem encrel_any (a0 : Option Addr) (c n : Nat) (l : List At) (w : World) (h : ALies w a0 l) (hn : n = l.length) (hs : SmallR l) (hl : n ≤ 1000) :
    Calls Tryz.prog 102 #[.slice a0 n c] w fun e w' => e = .returned (.string (encR l)) ∧ Below w.heap.size w w' := by
  have hmk := strs_make n (by omega)
  obtain ⟨W0, hW0⟩ : ∃ W0, W0 = w.alloc (.cells (rowT n []) 9) := ⟨_, rfl⟩
  have hb0 : Below w.heap.size w W0 := by rw [hW0]; exact belowNew w _
  have hq0 : W0.heap[w.heap.size]? = some (.cells (rowT n []) 9 (0, 0)) := by rw [hW0]; exact heap_alloc_new w _
  obtain ⟨g, hg⟩ : ∃ g, g = w.heap.size := ⟨_, rfl⟩
  have HWE := Lib.hid hW0.symm
  have HB0 := Lib.hid hb0
  rw [← hg] at hq0
  have HQ0 := Lib.hid hq0
  have HG := Lib.hid hg
  have H1 := Lib.hid h
  have HN := Lib.hid hn
  have HS := Lib.hid hs
  obtain ⟨oo, hoo⟩ : ∃ oo, oo = (⟨(ordL (lists (l.map encA))).flatten.toArray⟩ : ByteArray) := ⟨_, rfl⟩
  have HOR := Lib.hid (fun v W (hv : Reads W v (l.map encA)) => order_any v (l.map encA) W hv (by rw [List.length_map]; omega) (encs_cat l n hn.symm hl))
  unfold encR
  rw [← hoo] at HOR ⊢
  clear h hn hs hW0 hb0 hq0 hg hoo
  go_enter Tryz.func102, Tryz.ntmps102
  go_wp2_with fail
  rw [HWE.out, ← HG.out]
  clear hmk
  go_loopw [11] (fun i wr => ∃ k : Nat, k ≤ n ∧ i = .int .i64 (k : Int) ∧ wr.heap[g]? = some (.cells (rowT n ((l.take k).map encA)) 9 (0, 0)) ∧ Below w.heap.size w wr) (fun i _ => n - (intOf i).toNat)
  case atStart => exact ⟨0, Nat.zero_le _, rfl, HQ0.out, HB0.out⟩
  case round =>
    obtain ⟨k, hk, rfl, hq, hb⟩ := hrel
    have HB := Lib.hid hb
    have HQ := Lib.hid hq
    clear hb hq
    by_cases hlt : k < n
    · have hd : decide ((k : Int) < (n : Int)) = true := by simp; omega
      obtain ⟨b, o, rfl, hb, c0, c1, c2⟩ := H1.out.at k (by rw [← HN.out]; exact hlt)
      have a0 : wr.cell? ⟨b, o + k * 3, none⟩ = _ := (HB.out.cell (p := ⟨b, o + k * 3, none⟩) hb).trans c0
      have a1 : wr.cell? ⟨b, o + k * 3 + 1, none⟩ = _ := (HB.out.cell (p := ⟨b, o + k * 3 + 1, none⟩) hb).trans c1
      have a2 : wr.cell? ⟨b, o + k * 3 + 2, none⟩ = _ := (HB.out.cell (p := ⟨b, o + k * 3 + 2, none⟩) hb).trans c2
      have hst : (l.take (k + 1)).map encA = (l.take k).map encA ++ [encA (l.getD k noAt)] := by rw [takeD l k (by rw [← HN.out]; exact hlt) noAt]; simp
      have hsm := HS.out.2 k (by rw [← HN.out]; exact hlt)
      generalize l.getD k noAt = y at a0 a1 a2 hst hsm
      obtain ⟨t, kd, v⟩ := y
      have HEN := Lib.hid (fun W => enca_any (t, kd, v) W (Nat.le_trans hsm.1 (by omega)))
      unfold atV at HEN
      simp only at HEN
      obtain ⟨s, hs⟩ : ∃ s, s = encA (t, kd, v) := ⟨_, rfl⟩
      rw [← hs] at HEN hst
      have HST := Lib.hid hst
      have hll : k = ((l.take k).map encA).length := by rw [List.length_map, List.length_take, ← HN.out]; omega
      have HLL := Lib.hid hll
      have hgl : g < wr.heap.size := (Array.getElem?_eq_some_iff.1 HQ.out).1
      clear c0 c1 c2 hb hsm hs hst hll
      go_wp2_with (go_at_call 142; (with_reducible refine (HEN.out _).mono ?_); rintro e w1 ⟨rfl, hb1⟩; have hq1 := (hb1.block g (by simp; omega)).trans (((belowNew wr _).block g hgl).trans HQ.out); have HQ1 := Lib.hid hq1; have HB1 := Lib.hid (below_next HB.out (below_next (belowNew wr _) hb1)); obtain ⟨cv, hcv⟩ := rowT_at n ((l.take k).map encA) (by have := HLL.out; omega) k hlt; have hcell : w1.cell? ⟨g, k, none⟩ = some cv := (by rw [Lib.cell_of_heap hq1]; exact hcv); have hfz : w1.frozen? ⟨g, k, none⟩ = false := Lib.frozen_of_heap hq1 k; clear hb1 hq1 hcv)
      go_roundw
      case rel => exact ⟨k + 1, by omega, by go_num, by rw [HST.out]; exact row_put HQ1.out HLL.out hlt, HB1.out.setCell (p := ⟨g, k, none⟩) (by rw [HG.out]; exact Nat.le_refl _) _⟩
      case measure => simp [intOf]; omega
    · have hd : decide ((k : Int) < (n : Int)) = false := by simp; omega
      have hR := row_reads HQ.out (by rw [List.length_map, List.length_take, ← HN.out]; omega)
      rw [List.take_of_length_le (by rw [← HN.out]; omega)] at hR
      have HR := Lib.hid hR
      have H1w := Lib.hid (fun g x W h => dw1 49 g x W h)
      clear hR
      go_wp2_with (first
        | (go_at_call 143; (with_reducible refine (HOR.out _ _ HR.out).mono ?_); rintro e w1 ⟨rfl, hb1⟩; have HB1 := Lib.hid (below_next HB.out hb1); clear hb1)
        | (go_at_call 103; (with_reducible refine (H1w.out _ _ _ (bx1 _ _ _)).mono ?_); rintro e w2 ⟨rfl, hb2⟩; have HB2 := Lib.hid (below_next HB1.out (below_next (belowNew _ _) hb2)); clear hb2))
      go_ret
      exact ⟨rfl, HB2.out⟩
end Go.Proofs.YtflpajbcomhkpaaGreatDoor
namespace Go.Proofs.YtflpajbcomhkpaaGreatDoor
open Go.RowKit

theorem chkRs_zero : ∀ {n : Nm}, chkRs n = 0 → ∀ i, i < n.length → chkR (n.getD i []) = 0
  | [], _, i, hi => absurd hi (Nat.not_lt_zero _)
  | r :: n, h, i, hi => by
    unfold chkRs at h
    by_cases hr : chkR r = 0
    · rw [if_pos hr] at h
      cases i with
      | zero => exact hr
      | succ i => exact chkRs_zero h i (by simpa using hi)
    · rw [if_neg hr] at h
      exact absurd h hr
theorem chkN_zero {n : Nm} (h : chkN n = 0) : n.length ≤ 8 ∧ ∀ i, i < n.length → chkR (n.getD i []) = 0 := by
  unfold chkN at h
  split at h
  · cases h
  · exact ⟨by omega, chkRs_zero h⟩
theorem chkR_zero {r : List At} (h : chkR r = 0) : 1 ≤ r.length ∧ r.length ≤ 4 ∧ chkL [] r = 0 := by
  unfold chkR at h
  split at h
  · cases h
  · split at h
    · cases h
    · exact ⟨by omega, by omega, h⟩
/-- What Encode answers. -/
noncomputable def encV (n : Nm) : ByteArray := if chkN n = 0 then encN n else ⟨#[]⟩
set_option maxRecDepth 100000 in
set_option maxHeartbeats 4000000 in
theorem encode_core (a0 : Option Addr) (c m : Nat) (n : Nm) (w : World) (h : RLies w a0 n) (hn : m = n.length) (hs : SmallN n) (hT : Tab w) :
    Calls Tryz.prog 61 #[.agg #[.slice a0 m c]] w fun e w' => e = .returned (.tuple #[.string (encV n), .int .i64 ((chkN n : Nat) : Int)]) ∧ Below w.heap.size w w' := by
  obtain ⟨W0, hW0⟩ : ∃ W0, W0 = w.alloc (.cells #[.slice a0 m c] 30) := ⟨_, rfl⟩
  have hwr : w.alloc (.cells #[.slice a0 m c] 30) = W0 := hW0.symm
  have hb0 : Below w.heap.size w W0 := by rw [hW0]; exact belowNew w _
  have hq0 : W0.heap[w.heap.size]? = some (.cells #[.slice a0 m c] 30 (0, 0)) := by rw [hW0]; exact heap_alloc_new w _
  have hz0 : W0.heap.size = w.heap.size + 1 := by rw [hW0]; simp
  have HC := Lib.hid (chk_core a0 c m n W0 (h.below hb0) hn hs (hT.below hb0))
  obtain ⟨E, hE⟩ : ∃ E, E = chkN n := ⟨_, rfl⟩
  obtain ⟨V, hV⟩ : ∃ V, V = encV n := ⟨_, rfl⟩
  rw [← hE] at HC ⊢
  rw [← hV]
  have HB0 := Lib.hid hb0
  have HQ0 := Lib.hid hq0
  obtain ⟨c0, f0, l0⟩ := one_facts hq0
  by_cases hz : E = 0
  · have hch := chkN_zero (hE.symm.trans hz)
    have HV := Lib.hid (show V = wrapStr 48 (cat_t (n.map encR)) by rw [hV]; unfold encV; rw [← hE, if_pos hz]; rfl)
    have H1 := Lib.hid h
    have HN := Lib.hid hn
    have HS := Lib.hid hs
    have HCH := Lib.hid hch.2
    have hm8 : m ≤ 8 := by rw [hn]; exact hch.1
    have hmk := strs_make m (by omega)
    have HDW := Lib.hid (fun g W (hv : Reads W (.slice (some ⟨g, 0, none⟩) m m) (n.map encR)) => dwrap_any 48 _ m m (n.map encR) W hv (by rw [List.length_map, ← hn]; omega))
    subst hz
    clear hE hV hn hs hch h hT hW0 hb0 hq0
    go_enter Tryz.func61, Tryz.ntmps61
    go_wp2_with (go_at_call 83; (with_reducible refine HC.out.mono ?_); rintro e w1 ⟨rfl, hb1⟩; have HB1 := Lib.hid (below_next HB0.out hb1); have hq1 := (hb1.block w.heap.size l0).trans HQ0.out; have HQ1 := Lib.hid hq1; obtain ⟨c1, f1, l1⟩ := one_facts hq1; clear hb1 hq1)
    obtain ⟨W2, hW2⟩ : ∃ W2, W2 = w1.alloc (.cells (rowT m []) 9) := ⟨_, rfl⟩
    have hb2 : Below w1.heap.size w1 W2 := by rw [hW2]; exact belowNew w1 _
    have hq2 : W2.heap[w1.heap.size]? = some (.cells (rowT m []) 9 (0, 0)) := by rw [hW2]; exact heap_alloc_new w1 _
    rw [← hW2]
    obtain ⟨g, hg⟩ : ∃ g, g = w1.heap.size := ⟨_, rfl⟩
    rw [← hg] at hq2 ⊢
    have HB2 := Lib.hid (below_next HB1.out hb2)
    have HQ2 := Lib.hid hq2
    have hwg : w.heap.size ≤ g := by rw [hg]; exact HB1.out.size
    clear hmk hb2 hq2 hW2 hg c0 f0 l0 c1 f1 l1 hwr
    go_loopw [20] (fun i wr => ∃ k : Nat, k ≤ m ∧ i = .int .i64 (k : Int) ∧ wr.heap[g]? = some (.cells (rowT m ((n.take k).map encR)) 9 (0, 0)) ∧ Below w.heap.size w wr) (fun i _ => m - (intOf i).toNat)
    case atStart => exact ⟨0, Nat.zero_le _, rfl, HQ2.out, HB2.out⟩
    case round =>
      obtain ⟨k, hk, rfl, hq, hb⟩ := hrel
      have HB := Lib.hid hb
      have HQ := Lib.hid hq
      clear hb hq
      by_cases hlt : k < m
      · have hd : decide ((k : Int) < (m : Int)) = true := by simp; omega
        obtain ⟨b, o, rfl, hb, a', c', e0, hc', hL⟩ := H1.out.at k (by rw [← HN.out]; exact hlt)
        have a0 : wr.cell? ⟨b, o + k, none⟩ = _ := (HB.out.cell (p := ⟨b, o + k, none⟩) hb).trans e0
        have hst : (n.take (k + 1)).map encR = (n.take k).map encR ++ [encR (n.getD k [])] := by rw [takeD n k (by rw [← HN.out]; exact hlt) []]; simp
        have hsm := HS.out.2 k (by rw [← HN.out]; exact hlt)
        have hrz := (chkR_zero (HCH.out k (by rw [← HN.out]; exact hlt))).2.1
        generalize n.getD k [] = r at a0 hst hsm hc' hL hrz
        obtain ⟨q, hqq⟩ : ∃ q, q = r.length := ⟨_, rfl⟩
        rw [← hqq] at a0 hc'
        have HEN := Lib.hid (encrel_any a' c' q r wr (hL.below HB.out) hqq hsm (by omega))
        obtain ⟨s, hs⟩ : ∃ s, s = encR r := ⟨_, rfl⟩
        rw [← hs] at HEN hst
        have HST := Lib.hid hst
        have HLL := Lib.hid (show k = ((n.take k).map encR).length by rw [List.length_map, List.length_take, ← HN.out]; omega)
        have hgl : g < wr.heap.size := (Array.getElem?_eq_some_iff.1 HQ.out).1
        clear e0 hb hsm hs hst hrz hqq hL hc'
        go_wp2_with (go_at_call 102; (with_reducible refine HEN.out.mono ?_); rintro e w3 ⟨rfl, hb3⟩; have hq3 := (hb3.block g hgl).trans HQ.out; have HQ3 := Lib.hid hq3; have HB3 := Lib.hid (below_next HB.out hb3); obtain ⟨cv, hcv⟩ := rowT_at m ((n.take k).map encR) (by have := HLL.out; omega) k hlt; have hcell : w3.cell? ⟨g, k, none⟩ = some cv := (by rw [Lib.cell_of_heap hq3]; exact hcv); have hfz : w3.frozen? ⟨g, k, none⟩ = false := Lib.frozen_of_heap hq3 k; clear hb3 hq3 hcv)
        go_roundw
        case rel => exact ⟨k + 1, by omega, by go_num, by rw [HST.out]; exact row_put HQ3.out HLL.out hlt, HB3.out.setCell (p := ⟨g, k, none⟩) hwg _⟩
        case measure => simp [intOf]; omega
      · have hd : decide ((k : Int) < (m : Int)) = false := by simp; omega
        have hR := row_reads HQ.out (by rw [List.length_map, List.length_take, ← HN.out]; omega)
        rw [List.take_of_length_le (by rw [← HN.out]; omega)] at hR
        have HR := Lib.hid (HDW.out _ _ hR)
        rw [← HV.out] at HR
        clear hR
        go_wp2_with (go_at_call 103; (with_reducible refine HR.out.mono ?_); rintro e w1 ⟨rfl, hb1⟩; have HB1 := Lib.hid (below_next HB.out hb1); clear hb1)
        go_ret2
        exact ⟨rfl, HB1.out⟩
  · have hz1 := errno_ne hz
    have HV := Lib.hid (show V = ⟨#[]⟩ by rw [hV]; unfold encV; rw [← hE, if_neg hz])
    clear hE hV hn hs h hT hW0 hb0 hq0
    rw [HV.out]
    go_enter Tryz.func61, Tryz.ntmps61
    go_wp2_with (go_at_call 83; (with_reducible refine HC.out.mono ?_); rintro e w1 ⟨rfl, hb1⟩; have HB1 := Lib.hid (below_next HB0.out hb1); clear hb1)
    go_ret2
    exact ⟨rfl, HB1.out⟩
end Go.Proofs.YtflpajbcomhkpaaGreatDoor
namespace Go.Proofs.YtflpajbcomhkpaaGreatDoor
open Go.RowKit

end Go.Proofs.YtflpajbcomhkpaaGreatDoor
namespace Go.Proofs.YtflpajbcomhkpaaGreatDoor
open Go.RowKit

theorem OwnT.reads {w : World} {B : Nat} {v : Value} {ss : List ByteArray} (h : OwnT w B v ss) : Reads w v ss := by
  rcases h.2 with ⟨hv, h0⟩ | ⟨g, cap, cur, hv, hB, hg, hn, _, hcs, htk⟩
  · exact ⟨none, 0, by rw [hv, h0], .inl (List.eq_nil_of_length_eq_zero h0)⟩
  · refine ⟨_, cap, hv, .inr ⟨g, 0, rfl, fun j hj => ?_⟩⟩
    rw [cell_of_row w g _ _ _ _ hg]
    have : (cur.toList.take (ss.length * 1))[j]? = some (.string ss[j]) := by rw [htk]; simp [hj]
    rw [List.getElem?_take_of_lt (by omega)] at this
    rw [List.getD_eq_getElem?_getD, List.getElem?_eq_getElem hj, Nat.zero_add]
    simpa using this
end Go.Proofs.YtflpajbcomhkpaaGreatDoor
namespace Go.Proofs.YtflpajbcomhkpaaGreatDoor
open Go.RowKit

end Go.Proofs.YtflpajbcomhkpaaGreatDoor
namespace Go.Proofs.YtflpajbcomhkpaaGreatDoor
open Go.RowKit

/-- Is the text one of its kind? -/
def okT (k : Int) (c : Bool) (t : List UInt8) : Bool :=
  if k = 1 then (if c then mailBaseB t else mailB t) else if k = 2 then (if c then baseB t else patB t) else if k = 7 then (if c then rangeB t else addrB t) else false
/-- The first error of a general name. -/
noncomputable def chkG (c : Bool) (k : Int) (t : List UInt8) (n : Nm) : Nat :=
  if k = 4 then (if t = [] then chkN n else 14) else if okT k c t = true ∧ n = [] then 0 else 14
/-- The five cases of a kind. -/
theorem kind_or (k : Int) : k = 1 ∨ k = 2 ∨ k = 4 ∨ k = 7 ∨ (k ≠ 1 ∧ k ≠ 2 ∧ k ≠ 4 ∧ k ≠ 7) := by omega
theorem chkG_dir (c : Bool) (t : List UInt8) (n : Nm) : chkG c 4 t n = if t = [] then chkN n else 14 := by unfold chkG; rw [if_pos rfl]
theorem chkG_not {k : Int} (h : k ≠ 4) (c : Bool) (t : List UInt8) (n : Nm) : chkG c k t n = if okT k c t = true ∧ n = [] then 0 else 14 := by unfold chkG; rw [if_neg h]
theorem okT_2 (c : Bool) (t : List UInt8) : okT 2 c t = if c then baseB t else patB t := rfl
theorem okT_no {k : Int} (h : k ≠ 1 ∧ k ≠ 2 ∧ k ≠ 4 ∧ k ≠ 7) (c : Bool) (t : List UInt8) : okT k c t = false := by
  unfold okT; rw [if_neg h.1, if_neg h.2.1, if_neg h.2.2.2]
theorem okT_len {k : Int} {c : Bool} {t : List UInt8} (h : okT k c t = true) : t.length ≤ 128 := by
  unfold okT at h
  split at h
  · cases c
    · exact mail_len (by simpa using h)
    · exact mailBase_len (by simpa using h)
  · split at h
    · cases c
      · exact pat_len (by simpa using h)
      · exact base_len (by simpa using h)
    · split at h
      · cases c
        · exact addr_le (by simpa using h)
        · exact range_le (by simpa using h)
      · cases h
/-- The encoding of a general name. -/
noncomputable def encG (c : Bool) (k : Int) (t : List UInt8) (n : Nm) : ByteArray :=
  if chkG c k t n = 0 then (if k = 4 then wr1 164 (encN n) else wr1 (128 + k) (strOf t)) else ⟨#[]⟩
/-- Are two general names the same? -/
noncomputable def sameG (k : Int) (t : List UInt8) (n : Nm) (l : Int) (u : List UInt8) (m : Nm) : Bool :=
  if k ≠ l then false else if k = 1 then (if mailB t = true ∧ mailB u = true then mailMatchB t u else alikeB t u) else if k = 2 then alikeB t u else if k = 4 then decide (MatchN n m) else if k = 7 then decide (t = u) else false
noncomputable def matchG (k : Int) (t : List UInt8) (n : Nm) (l : Int) (u : List UInt8) (m : Nm) : Bool :=
  if k = 2 ∧ l = 2 then dnsMatchB t u else sameG k t n l u m
end Go.Proofs.YtflpajbcomhkpaaGreatDoor
namespace Go.Proofs.YtflpajbcomhkpaaGreatDoor
open Go.RowKit

theorem three_facts {w : World} {g : Nat} {x y z : Value} {t : TypeId} (h : w.heap[g]? = some (.cells #[x, y, z] t (0, 0))) :
    w.cell? ⟨g, 0, none⟩ = some x ∧ w.cell? ⟨g, 1, none⟩ = some y ∧ w.cell? ⟨g, 2, none⟩ = some z ∧ g < w.heap.size := by
  refine ⟨?_, ?_, ?_, (Array.getElem?_eq_some_iff.1 h).1⟩ <;> (rw [Lib.cell_of_heap h]; rfl)
theorem nil_iff {n : Nm} {m : Nat} (hn : m = n.length) : (n = []) ↔ m = 0 := by rw [hn]; exact List.length_eq_zero_iff.symm

end Go.Proofs.YtflpajbcomhkpaaGreatDoor
namespace Go.Proofs.YtflpajbcomhkpaaGreatDoor
open Go.Shelf Go.RowKit

def lays99_ren : Go.Shelf.Ren := ⟨fun | 99 => 221 | 206 => 175 | n => n, fun | 3 => 3 | 4 => 4 | 9 => 9 | n => n, fun | n => n⟩
theorem lays99 : Go.Proofs.Lays.n99 Tryz.prog lays99_ren := {
  mixed := by kernel_rfl
  f99 := Tryz.func221.trans (congrArg some (by kernel_rfl))
  f206 := Tryz.func175.trans (congrArg some (by kernel_rfl))
  t3 := Tryz.underlying3
  a3 := Tryz.isAgg3
  z3 := Tryz.sizeOf3
  v3 := Tryz.zeroValue3
  t4 := Tryz.underlying4
  a4 := Tryz.isAgg4
  z4 := Tryz.sizeOf4
  v4 := Tryz.zeroValue4
  t9 := Tryz.underlying9
  a9 := Tryz.isAgg9
  z9 := Tryz.sizeOf9
  v9 := Tryz.zeroValue9 }
def lays100_ren : Go.Shelf.Ren := ⟨fun | 100 => 222 | 207 => 266 | n => n, fun | 3 => 3 | 4 => 4 | 9 => 9 | n => n, fun | n => n⟩
theorem lays100 : Go.Proofs.Lays.n100 Tryz.prog lays100_ren := {
  mixed := by kernel_rfl
  f100 := Tryz.func222.trans (congrArg some (by kernel_rfl))
  f207 := Tryz.func266.trans (congrArg some (by kernel_rfl))
  t3 := Tryz.underlying3
  a3 := Tryz.isAgg3
  z3 := Tryz.sizeOf3
  v3 := Tryz.zeroValue3
  t4 := Tryz.underlying4
  a4 := Tryz.isAgg4
  z4 := Tryz.sizeOf4
  v4 := Tryz.zeroValue4
  t9 := Tryz.underlying9
  a9 := Tryz.isAgg9
  z9 := Tryz.sizeOf9
  v9 := Tryz.zeroValue9 }
def lays101_ren : Go.Shelf.Ren := ⟨fun | 101 => 195 | 206 => 175 | 208 => 230 | n => n, fun | 3 => 3 | 4 => 4 | 9 => 9 | n => n, fun | n => n⟩
theorem lays101 : Go.Proofs.Lays.n101 Tryz.prog lays101_ren := {
  mixed := by kernel_rfl
  f101 := Tryz.func195.trans (congrArg some (by kernel_rfl))
  f206 := Tryz.func175.trans (congrArg some (by kernel_rfl))
  f208 := Tryz.func230.trans (congrArg some (by kernel_rfl))
  t3 := Tryz.underlying3
  a3 := Tryz.isAgg3
  z3 := Tryz.sizeOf3
  v3 := Tryz.zeroValue3
  t4 := Tryz.underlying4
  a4 := Tryz.isAgg4
  z4 := Tryz.sizeOf4
  v4 := Tryz.zeroValue4
  t9 := Tryz.underlying9
  a9 := Tryz.isAgg9
  z9 := Tryz.sizeOf9
  v9 := Tryz.zeroValue9 }
def lays103_ren : Go.Shelf.Ren := ⟨fun | 103 => 94 | 206 => 175 | 210 => 136 | n => n, fun | 3 => 3 | 4 => 4 | 9 => 9 | 24 => 96 | n => n, fun | n => n⟩
theorem lays103 : Go.Proofs.Lays.n103 Tryz.prog lays103_ren := {
  mixed := by kernel_rfl
  f103 := Tryz.func94.trans (congrArg some (by kernel_rfl))
  f206 := Tryz.func175.trans (congrArg some (by kernel_rfl))
  f210 := Tryz.func136.trans (congrArg some (by kernel_rfl))
  t3 := Tryz.underlying3
  a3 := Tryz.isAgg3
  z3 := Tryz.sizeOf3
  v3 := Tryz.zeroValue3
  t4 := Tryz.underlying4
  a4 := Tryz.isAgg4
  z4 := Tryz.sizeOf4
  v4 := Tryz.zeroValue4
  t9 := Tryz.underlying9
  a9 := Tryz.isAgg9
  z9 := Tryz.sizeOf9
  v9 := Tryz.zeroValue9
  t24 := Tryz.underlying96
  a24 := Tryz.isAgg96
  z24 := Tryz.sizeOf96
  v24 := Tryz.zeroValue96 }
def lays144_ren : Go.Shelf.Ren := ⟨fun | 143 => 183 | 144 => 147 | 217 => 206 | 219 => 187 | 224 => 216 | 225 => 215 | 266 => 248 | 267 => 217 | 314 => 265 | n => n, fun | 3 => 3 | 4 => 4 | 5 => 5 | 9 => 9 | 46 => 135 | 51 => 226 | 146 => 237 | n => n, fun | 1 => 2 | n => n⟩
theorem lays144 : Go.Proofs.Lays.n144 Tryz.prog lays144_ren := {
  mixed := by kernel_rfl
  f143 := Tryz.func183.trans (congrArg some (by kernel_rfl))
  f144 := Tryz.func147.trans (congrArg some (by kernel_rfl))
  f217 := Tryz.func206.trans (congrArg some (by kernel_rfl))
  f219 := Tryz.func187.trans (congrArg some (by kernel_rfl))
  f224 := Tryz.func216.trans (congrArg some (by kernel_rfl))
  f225 := Tryz.func215.trans (congrArg some (by kernel_rfl))
  f266 := Tryz.func248.trans (congrArg some (by kernel_rfl))
  f267 := Tryz.func217.trans (congrArg some (by kernel_rfl))
  f314 := Tryz.func265.trans (congrArg some (by kernel_rfl))
  t3 := Tryz.underlying3
  a3 := Tryz.isAgg3
  z3 := Tryz.sizeOf3
  v3 := Tryz.zeroValue3
  t4 := Tryz.underlying4
  a4 := Tryz.isAgg4
  z4 := Tryz.sizeOf4
  v4 := Tryz.zeroValue4
  t5 := Tryz.underlying5
  a5 := Tryz.isAgg5
  z5 := Tryz.sizeOf5
  v5 := Tryz.zeroValue5
  t9 := Tryz.underlying9
  a9 := Tryz.isAgg9
  z9 := Tryz.sizeOf9
  v9 := Tryz.zeroValue9
  t46 := Tryz.underlying135
  a46 := Tryz.isAgg135
  z46 := Tryz.sizeOf135
  v46 := Tryz.zeroValue135
  t51 := Tryz.underlying226
  a51 := Tryz.isAgg226
  z51 := Tryz.sizeOf226
  v51 := Tryz.zeroValue226
  t146 := Tryz.underlying237
  a146 := Tryz.isAgg237
  z146 := Tryz.sizeOf237
  v146 := Tryz.zeroValue237
  g1 := by kernel_rfl }
def lays164_ren : Go.Shelf.Ren := ⟨fun | 164 => 151 | 197 => 188 | 239 => 189 | 260 => 218 | 274 => 219 | 275 => 220 | n => n, fun | 0 => 0 | 3 => 3 | 4 => 4 | 5 => 5 | 9 => 9 | 21 => 21 | 46 => 135 | 49 => 202 | 51 => 226 | 105 => 182 | 119 => 239 | 138 => 241 | 139 => 242 | 156 => 203 | 157 => 204 | 159 => 206 | 160 => 207 | 162 => 209 | 206 => 244 | 208 => 246 | n => n, fun | 3 => 6 | 4 => 7 | 11 => 3 | 12 => 4 | 13 => 5 | n => n⟩
theorem lays164 : Go.Proofs.Lays.n164 Tryz.prog lays164_ren := {
  mixed := by kernel_rfl
  f164 := Tryz.func151.trans (congrArg some (by kernel_rfl))
  f197 := Tryz.func188.trans (congrArg some (by kernel_rfl))
  f239 := Tryz.func189.trans (congrArg some (by kernel_rfl))
  f260 := Tryz.func218.trans (congrArg some (by kernel_rfl))
  f274 := Tryz.func219.trans (congrArg some (by kernel_rfl))
  f275 := Tryz.func220.trans (congrArg some (by kernel_rfl))
  t0 := Tryz.underlying0
  a0 := Tryz.isAgg0
  z0 := Tryz.sizeOf0
  v0 := Tryz.zeroValue0
  t3 := Tryz.underlying3
  a3 := Tryz.isAgg3
  z3 := Tryz.sizeOf3
  v3 := Tryz.zeroValue3
  t4 := Tryz.underlying4
  a4 := Tryz.isAgg4
  z4 := Tryz.sizeOf4
  v4 := Tryz.zeroValue4
  t5 := Tryz.underlying5
  a5 := Tryz.isAgg5
  z5 := Tryz.sizeOf5
  v5 := Tryz.zeroValue5
  t9 := Tryz.underlying9
  a9 := Tryz.isAgg9
  z9 := Tryz.sizeOf9
  v9 := Tryz.zeroValue9
  t21 := Tryz.underlying21
  a21 := Tryz.isAgg21
  z21 := Tryz.sizeOf21
  v21 := Tryz.zeroValue21
  t46 := Tryz.underlying135
  a46 := Tryz.isAgg135
  z46 := Tryz.sizeOf135
  v46 := Tryz.zeroValue135
  t49 := Tryz.underlying202
  a49 := Tryz.isAgg202
  z49 := Tryz.sizeOf202
  v49 := Tryz.zeroValue202
  t51 := Tryz.underlying226
  a51 := Tryz.isAgg226
  z51 := Tryz.sizeOf226
  v51 := Tryz.zeroValue226
  t105 := Tryz.underlying182
  a105 := Tryz.isAgg182
  z105 := Tryz.sizeOf182
  v105 := Tryz.zeroValue182
  t119 := Tryz.underlying239
  a119 := Tryz.isAgg239
  z119 := Tryz.sizeOf239
  t138 := Tryz.underlying241
  a138 := Tryz.isAgg241
  z138 := Tryz.sizeOf241
  v138 := Tryz.zeroValue241
  t139 := Tryz.underlying242
  a139 := Tryz.isAgg242
  z139 := Tryz.sizeOf242
  v139 := Tryz.zeroValue242
  t156 := Tryz.underlying203
  a156 := Tryz.isAgg203
  z156 := Tryz.sizeOf203
  t157 := Tryz.underlying204
  a157 := Tryz.isAgg204
  z157 := Tryz.sizeOf204
  v157 := Tryz.zeroValue204
  t159 := Tryz.underlying206
  a159 := Tryz.isAgg206
  z159 := Tryz.sizeOf206
  v159 := Tryz.zeroValue206
  t160 := Tryz.underlying207
  a160 := Tryz.isAgg207
  z160 := Tryz.sizeOf207
  v160 := Tryz.zeroValue207
  t162 := Tryz.underlying209
  a162 := Tryz.isAgg209
  z162 := Tryz.sizeOf209
  v162 := Tryz.zeroValue209
  t206 := Tryz.underlying244
  a206 := Tryz.isAgg244
  z206 := Tryz.sizeOf244
  v206 := Tryz.zeroValue244
  t208 := Tryz.underlying246
  a208 := Tryz.isAgg246
  z208 := Tryz.sizeOf246
  v208 := Tryz.zeroValue246
  g3 := by kernel_rfl
  g4 := by kernel_rfl
  g11 := by kernel_rfl
  g12 := by kernel_rfl
  g13 := by kernel_rfl }

/-- The library's variable MaxLen holds some number. -/
def Mx (w : World) : Prop := ∃ m, w.cell? ⟨2, 0, none⟩ = some (.int .i64 m)
theorem Mx.below {w w' : World} (h : Mx w) (hb : Below w.heap.size w w') : Mx w' := by
  obtain ⟨m, hm⟩ := h
  exact ⟨m, (hb.cell (p := ⟨_, 0, none⟩) (World.block_lt_of_cell? _ _ hm)).trans hm⟩
theorem mx_shaped {w : World} (h : w.ShapedOpen Tryz.prog) : Mx w :=
  cell_of_shapedOpen_int (zero := #[.int .i64 0]) (t := 3) h (of_decide_eq_true (by kernel_rfl)) (by kernel_rfl) rfl (by kernel_rfl) (by kernel_rfl) Tryz.underlying3
end Go.Proofs.YtflpajbcomhkpaaGreatDoor
namespace Go.Proofs.YtflpajbcomhkpaaGreatDoor
open Go.RowKit

def kdN (k : Nat) : Int := [1, 2, 4, 7].getD k 0
def kdG (k : Nat) : Int := [129, 130, 164, 135].getD k 0
def kdW (k : Nat) : ByteArray := [⟨#[109, 97, 105, 108, 58]⟩, ⟨#[100, 110, 115, 58]⟩, ⟨#[100, 105, 114, 58]⟩, ⟨#[105, 112, 58]⟩].getD k ⟨#[]⟩
def kdArr : Array Value := #[.int .i64 1, .int .i64 129, .string ⟨#[109, 97, 105, 108, 58]⟩, .int .i64 2, .int .i64 130, .string ⟨#[100, 110, 115, 58]⟩, .int .i64 4, .int .i64 164, .string ⟨#[100, 105, 114, 58]⟩, .int .i64 7, .int .i64 135, .string ⟨#[105, 112, 58]⟩]
/-- The place of a kind in the table; 4 for none. -/
def kdOf (K : Int) : Nat := if K = 1 then 0 else if K = 2 then 1 else if K = 4 then 2 else if K = 7 then 3 else 4
def tgOf (T : Int) : Nat := if T = 129 then 0 else if T = 130 then 1 else if T = 164 then 2 else if T = 135 then 3 else 4
/-- The table lies as the program's text lays it. -/
def KdT (w : World) : Prop := ∀ j, j < 12 → w.cell? ⟨0, j, none⟩ = kdArr[j]?
theorem KdT.lt {w : World} (h : KdT w) : 0 < w.heap.size := block_lt ((h 0 (by omega)).trans rfl)
theorem KdT.below {w w' : World} (h : KdT w) (hb : Below w.heap.size w w') : KdT w' := fun j hj => (hb.cell (p := ⟨0, j, none⟩) h.lt).trans (h j hj)
/-- What the functions of package gname read besides what they are handed. -/
def Mk (w : World) : Prop := Mx w ∧ KdT w
theorem Mk.below {w w' : World} (h : Mk w) (hb : Below w.heap.size w w') : Mk w' := ⟨h.1.below hb, h.2.below hb⟩
theorem KdT.cells {w : World} (h : KdT w) :
    w.cell? ⟨0, 0, none⟩ = some (.int .i64 1) ∧ w.cell? ⟨0, 1, none⟩ = some (.int .i64 129) ∧ w.cell? ⟨0, 2, none⟩ = some (.string ⟨#[109, 97, 105, 108, 58]⟩) ∧
    w.cell? ⟨0, 3, none⟩ = some (.int .i64 2) ∧ w.cell? ⟨0, 4, none⟩ = some (.int .i64 130) ∧ w.cell? ⟨0, 5, none⟩ = some (.string ⟨#[100, 110, 115, 58]⟩) ∧
    w.cell? ⟨0, 6, none⟩ = some (.int .i64 4) ∧ w.cell? ⟨0, 7, none⟩ = some (.int .i64 164) ∧ w.cell? ⟨0, 8, none⟩ = some (.string ⟨#[100, 105, 114, 58]⟩) ∧
    w.cell? ⟨0, 9, none⟩ = some (.int .i64 7) ∧ w.cell? ⟨0, 10, none⟩ = some (.int .i64 135) ∧ w.cell? ⟨0, 11, none⟩ = some (.string ⟨#[105, 112, 58]⟩) :=
  ⟨h 0 (by omega), h 1 (by omega), h 2 (by omega), h 3 (by omega), h 4 (by omega), h 5 (by omega), h 6 (by omega), h 7 (by omega), h 8 (by omega), h 9 (by omega), h 10 (by omega), h 11 (by omega)⟩
theorem index_kd (k : Nat) (hk : k < 4) (w : World) : (Instr.index 90 (.agg #[.int .i64 1, .int .i64 129, .string ⟨#[109, 97, 105, 108, 58]⟩, .int .i64 2, .int .i64 130, .string ⟨#[100, 110, 115, 58]⟩, .int .i64 4, .int .i64 164, .string ⟨#[100, 105, 114, 58]⟩, .int .i64 7, .int .i64 135, .string ⟨#[105, 112, 58]⟩]) (.int .i64 (k : Int))).run Tryz.prog w = .ok (.agg #[.int .i64 (kdN k), .int .i64 (kdG k), .string (kdW k)]) w := by
  rcases (by omega : k = 0 ∨ k = 1 ∨ k = 2 ∨ k = 3) with rfl | rfl | rfl | rfl <;> kernel_rfl
theorem kd_hit {K : Int} (k : Nat) (hk : k < 4) (h2 : kdN k = K) : kdOf K = k := by
  subst h2
  rcases (by omega : k = 0 ∨ k = 1 ∨ k = 2 ∨ k = 3) with rfl | rfl | rfl | rfl <;> decide
theorem kd_miss {K : Int} (h : ∀ j, j < 4 → kdN j ≠ K) : kdOf K = 4 := by
  unfold kdOf
  rw [if_neg (fun e => h 0 (by omega) e.symm), if_neg (fun e => h 1 (by omega) e.symm), if_neg (fun e => h 2 (by omega) e.symm), if_neg (fun e => h 3 (by omega) e.symm)]
theorem tg_hit {T : Int} (k : Nat) (hk : k < 4) (h2 : kdG k = T) : tgOf T = k := by
  subst h2
  rcases (by omega : k = 0 ∨ k = 1 ∨ k = 2 ∨ k = 3) with rfl | rfl | rfl | rfl <;> decide
theorem tg_miss {T : Int} (h : ∀ j, j < 4 → kdG j ≠ T) : tgOf T = 4 := by
  unfold tgOf
  rw [if_neg (fun e => h 0 (by omega) e.symm), if_neg (fun e => h 1 (by omega) e.symm), if_neg (fun e => h 2 (by omega) e.symm), if_neg (fun e => h 3 (by omega) e.symm)]
theorem kdOf_no {K : Int} (h : K ≠ 1 ∧ K ≠ 2 ∧ K ≠ 4 ∧ K ≠ 7) : kdOf K = 4 := by
  unfold kdOf
  rw [if_neg h.1, if_neg h.2.1, if_neg h.2.2.1, if_neg h.2.2.2]

set_option maxRecDepth 100000 in
set_option maxHeartbeats 4000000 in
theorem gkind_any (K : Int) (s : ByteArray) (a : Option Addr) (m c : Nat) (w : World) (h : KdT w) :
    Calls Tryz.prog 50 #[.agg #[.int .i64 K, .string s, .slice a m c]] w fun e w' => e = .returned (.int .i64 ((kdOf K : Nat) : Int)) ∧ Below w.heap.size w w' := by
  obtain ⟨W0, hW0⟩ : ∃ W0, W0 = w.alloc (.cells #[.int .i64 K, .string s, .slice a m c] 32) := ⟨_, rfl⟩
  have hwr : w.alloc (.cells #[.int .i64 K, .string s, .slice a m c] 32) = W0 := hW0.symm
  have hb0 : Below w.heap.size w W0 := by rw [hW0]; exact belowNew w _
  have hq0 : W0.heap[w.heap.size]? = some (.cells #[.int .i64 K, .string s, .slice a m c] 32 (0, 0)) := by rw [hW0]; exact heap_alloc_new w _
  obtain ⟨c0, c1, c2, c3, c4, c5, c6, c7, c8, c9, c10, c11⟩ := (h.below hb0).cells
  have HB0 := Lib.hid hb0
  have HQ0 := Lib.hid hq0
  obtain ⟨Z, hZ⟩ : ∃ Z, Z = kdOf K := ⟨_, rfl⟩
  have HZ := Lib.hid hZ
  rw [← hZ]
  clear h hZ hW0 hb0 hq0
  go_enter Tryz.func50, Tryz.ntmps50
  go_wp2_with fail
  clear c0 c1 c2 c3 c4 c5 c6 c7 c8 c9 c10 c11
  go_loopw [6] (fun i wr => ∃ k : Nat, k ≤ 4 ∧ i = .int .i64 k ∧ (∀ j, j < k → kdN j ≠ K) ∧ wr.heap[w.heap.size]? = some (.cells #[.int .i64 K, .string s, .slice a m c] 32 (0, 0)) ∧ Below w.heap.size w wr) (fun i _ => 4 - (intOf i).toNat)
  case atStart => exact ⟨0, by omega, rfl, fun j hj => absurd hj (Nat.not_lt_zero _), HQ0.out, HB0.out⟩
  case round =>
    obtain ⟨k, hk, rfl, hA, hq, hb⟩ := hrel
    have HB := Lib.hid hb
    have HA := Lib.hid hA
    by_cases hlt : k < 4
    · have hd : decide ((k : Int) < 4) = true := by simp; omega
      have hix := index_kd k hlt
      obtain ⟨n, hn⟩ : ∃ n, n = kdN k := ⟨_, rfl⟩
      rw [← hn] at hix
      generalize kdG k = g at hix
      generalize kdW k = x at hix
      obtain ⟨q0, q1, q2, l0⟩ := three_facts hq
      obtain ⟨W1, hW1⟩ : ∃ W1, W1 = wr.alloc (.cells #[.int .i64 n, .int .i64 g, .string x] 89) := ⟨_, rfl⟩
      have hwr1 : wr.alloc (.cells #[.int .i64 n, .int .i64 g, .string x] 89) = W1 := hW1.symm
      have hb1 : Below wr.heap.size wr W1 := by rw [hW1]; exact belowNew wr _
      have hq1 : W1.heap[wr.heap.size]? = some (.cells #[.int .i64 n, .int .i64 g, .string x] 89 (0, 0)) := by rw [hW1]; exact heap_alloc_new wr _
      obtain ⟨r0, r1, r2, l1⟩ := three_facts hq1
      have p0 := (hb1.cell (p := ⟨w.heap.size, 0, none⟩) l0).trans q0
      have HQ := Lib.hid ((hb1.block w.heap.size l0).trans hq)
      have HB1 := Lib.hid (below_next hb hb1)
      clear q0 q1 q2 hq hb hA hW1 hb1 hq1
      by_cases hx : n = K
      · have hbq : (n == K) = true := beq_iff_eq.2 hx
        have HF := Lib.hid (show Z = k by rw [HZ.out]; exact kd_hit k hlt (by rw [← hn]; exact hx))
        clear hn hx
        go_wp2_with fail
        go_ret
        exact ⟨by rw [HF.out]; rfl, HB1.out⟩
      · have hbq : (n == K) = false := beq_eq_false_iff_ne.2 hx
        have HF := Lib.hid (show ∀ j, j < k + 1 → kdN j ≠ K from fun j hj => by
          by_cases e : j = k
          · rw [e, ← hn]; exact hx
          · exact HA.out j (by omega))
        clear hn hx
        go_wp2_with fail
        go_roundw
        case rel => exact ⟨k + 1, by omega, by go_num, HF.out, HQ.out, HB1.out⟩
        case measure => simp [intOf]; omega
    · obtain rfl : k = 4 := by omega
      have hd : decide (((4 : Nat) : Int) < 4) = false := rfl
      have HF := Lib.hid (show Z = 4 by rw [HZ.out]; exact kd_miss HA.out)
      clear hq hb hA
      go_wp2_with fail
      go_ret
      exact ⟨by rw [HF.out]; rfl, HB.out⟩
end Go.Proofs.YtflpajbcomhkpaaGreatDoor
