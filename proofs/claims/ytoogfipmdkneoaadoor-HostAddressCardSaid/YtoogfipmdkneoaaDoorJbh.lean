/-
  The contract of the law's function network: a range with a mask of some bits.
-/
import Derived.Test.YtoogfipmdkneoaaDoorJav
import Derived.Lib.Builder
namespace Go.Proofs.YtoogfipmdkneoaaDoor
open Go.RowKit

theorem net_make (m : Nat) (hm : m ≤ 1000) (z : Int) (hz : z = (m : Int)) : ∃ Z : Array Value, Z = ((List.replicate m (0 : UInt8)).map bcell).toArray ∧ ∀ W : World, (Instr.makeSlice 22 (.int .i64 z) (.int .i64 z)).run Tryd.prog W = .ok (.slice (some ⟨W.heap.size, 0, none⟩) m m) (W.alloc (.cells Z 5)) := by
  subst hz
  obtain ⟨i0, hi, hz0, hz1, hz2⟩ := info_parts byteInfo
  refine ⟨_, rfl, fun W => ?_⟩
  have hr := run_makeSlice (P := Tryd.prog) W 22 5 i0 (.int .u8 0) Tryd.underlying22 hi hz0 .i64 .i64 (m : Int) (m : Int) (by omega) (Int.le_refl _) (by rw [hz1]; simp; omega) (by rw [hz2]; omega) (by omega)
  rw [hr]
  have e2 : madeCells (Value.int .u8 0).cells ((m : Int).toNat * i0.size) = ((List.replicate m (0 : UInt8)).map bcell).toArray := by
    rw [hz1]
    apply Array.ext
    · simp [madeCells, Value.cells]
    · intro i h1 h2
      simp [madeCells, Value.cells, bcell, Nat.mod_one]
  rw [e2]
  simp









/-! ### The rows while they are written -/
def msB (K N i t : Nat) : List UInt8 := (List.range N).map fun j => if j < i then maskB K j else if j = i then maskT (min t (K - 8 * i)) else 0
def xsB (A : List UInt8) (K N i : Nat) : List UInt8 := (List.range N).map fun j => if j < i then A.getD j 0 &&& maskB K j else 0
theorem msB_len (K N i t : Nat) : (msB K N i t).length = N := by unfold msB; rw [List.length_map, List.length_range]
theorem xsB_len (A : List UInt8) (K N i : Nat) : (xsB A K N i).length = N := by unfold xsB; rw [List.length_map, List.length_range]
theorem msB_get {K N i t j : Nat} (h : j < (msB K N i t).length) : (msB K N i t)[j] = if j < i then maskB K j else if j = i then maskT (min t (K - 8 * i)) else 0 := by
  simp [msB]
theorem xsB_get {A : List UInt8} {K N i j : Nat} (h : j < (xsB A K N i).length) : (xsB A K N i)[j] = if j < i then A.getD j 0 &&& maskB K j else 0 := by
  simp [xsB]
theorem msB_zero (K N : Nat) : msB K N 0 0 = List.replicate N 0 := by
  apply List.ext_getElem
  · rw [msB_len, List.length_replicate]
  · intro j h1 h2
    rw [msB_get, List.getElem_replicate, if_neg (Nat.not_lt_zero _)]
    split
    · rw [Nat.zero_min]; rfl
    · rfl
theorem xsB_zero (A : List UInt8) (K N : Nat) : xsB A K N 0 = List.replicate N 0 := by
  apply List.ext_getElem
  · rw [xsB_len, List.length_replicate]
  · intro j h1 h2
    rw [xsB_get, List.getElem_replicate, if_neg (Nat.not_lt_zero _)]
theorem msB_at {K N i t : Nat} (hi : i < N) : (msB K N i t).getD i 0 = maskT (min t (K - 8 * i)) := by
  unfold msB
  rw [List.getD_eq_getElem?_getD, List.getElem?_map, List.getElem?_range hi]
  show (if i < i then _ else _) = _
  rw [if_neg (Nat.lt_irrefl _), if_pos rfl]
theorem msB_step {K N i t : Nat} (_ : i < N) (h : 8 * i + t < K) : (msB K N i t).set i (maskT (t + 1)) = msB K N i (t + 1) := by
  apply List.ext_getElem
  · rw [List.length_set, msB_len, msB_len]
  · intro j h1 h2
    rw [List.getElem_set, msB_get, msB_get]
    by_cases e : i = j
    · subst e
      rw [if_pos rfl, if_neg (Nat.lt_irrefl _), if_pos rfl, Nat.min_eq_left (by omega)]
    · rw [if_neg e, if_neg (show ¬ j = i from fun h => e h.symm), if_neg (show ¬ j = i from fun h => e h.symm)]
theorem msB_stay {K N i t : Nat} (h : ¬ 8 * i + t < K) : msB K N i (t + 1) = msB K N i t := by
  unfold msB
  apply List.map_congr_left
  intro j _
  by_cases e : j = i
  · rw [if_pos e, if_pos e, Nat.min_eq_right (show K - 8 * i ≤ t + 1 by omega), Nat.min_eq_right (show K - 8 * i ≤ t by omega)]
  · rw [if_neg e, if_neg e]
theorem msB_end (K N i : Nat) : msB K N i 8 = msB K N (i + 1) 0 := by
  unfold msB
  apply List.map_congr_left
  intro j _
  by_cases h1 : j < i
  · rw [if_pos h1, if_pos (by omega)]
  · by_cases h2 : j = i
    · rw [if_neg h1, if_pos h2, if_pos (by omega), h2]; rfl
    · rw [if_neg h1, if_neg h2, if_neg (by omega)]
      split
      · rw [Nat.zero_min]; rfl
      · rfl
theorem xsB_step {A : List UInt8} {K N i : Nat} : (xsB A K N i).set i (A.getD i 0 &&& maskB K i) = xsB A K N (i + 1) := by
  apply List.ext_getElem
  · rw [List.length_set, xsB_len, xsB_len]
  · intro j h1 h2
    rw [List.getElem_set, xsB_get, xsB_get]
    by_cases e : i = j
    · subst e
      rw [if_pos rfl, if_pos (by omega)]
    · rw [if_neg e]
      by_cases h : j < i
      · rw [if_pos h, if_pos (by omega)]
      · rw [if_neg h, if_neg (by omega)]
theorem xsB_stay {A : List UInt8} {K N i : Nat} (h : A.length ≤ i) : xsB A K N (i + 1) = xsB A K N i := by
  unfold xsB
  apply List.map_congr_left
  intro j _
  by_cases h1 : j < i
  · rw [if_pos h1, if_pos (by omega)]
  · rw [if_neg h1]
    split
    · rw [List.getD_eq_getElem?_getD, List.getElem?_eq_none (by omega)]
      show (0 : UInt8) &&& _ = 0
      simp
    · rfl
theorem net_done (A : List UInt8) (K N : Nat) : xsB A K N N ++ msB K N N 0 = netB A K N := by
  unfold netB xsB msB
  congr 1
  · exact List.map_congr_left fun j hj => if_pos (List.mem_range.1 hj)
  · exact List.map_congr_left fun j hj => if_pos (List.mem_range.1 hj)
theorem or_mask : ∀ t, t < 8 → bits BinOp.or .u8 (((maskT t).toNat : Nat) : Int) ((128 / 2 ^ t : Nat) : Int) = (((maskT (t + 1)).toNat : Nat) : Int) := by decide +kernel
theorem net_rows (w : World) (n : Nat) (Z : Array Value) (hZ : Z = ((List.replicate n (0 : UInt8)).map bcell).toArray) (W : World) (hW : W = ((w.alloc (.cells Z 5)).alloc (.cells Z 5)).drew) :
    BL W w.heap.size (List.replicate n 0) ∧ BL W (w.heap.size + 1) (List.replicate n 0) ∧ Below w.heap.size w W := by
  have h1 : W.heap[w.heap.size]? = some (.cells Z 5 (0, 0)) := by
    rw [hW]
    show ((w.alloc _).alloc _).heap[w.heap.size]? = _
    rw [(belowNew (w.alloc (.cells Z 5)) (.cells Z 5)).block w.heap.size (by simp)]
    exact heap_alloc_new w _
  have h2 : W.heap[w.heap.size + 1]? = some (.cells Z 5 (0, 0)) := by
    rw [hW]
    show ((w.alloc _).alloc _).heap[w.heap.size + 1]? = _
    have := heap_alloc_new (w.alloc (.cells Z 5)) (.cells Z 5)
    simpa using this
  have key : ∀ g, W.heap[g]? = some (.cells Z 5 (0, 0)) → BL W g (List.replicate n 0) := fun g h =>
    ⟨(Array.getElem?_eq_some_iff.1 h).1, fun j hj => ⟨by
      rw [cell_of_row _ _ j _ _ _ h, hZ]
      rw [List.length_replicate] at hj
      simp [hj, bcell], Lib.frozen_of_heap h j⟩⟩
  refine ⟨key _ h1, key _ h2, ?_⟩
  rw [hW]
  exact (below_next (belowNew w _) (belowNew _ _)).drew
theorem blies_at {w : World} {a : Option Addr} {l : List UInt8} (h : BLies w a l) {i : Nat} (hi : i < l.length) : ∃ b o, a = some ⟨b, o, none⟩ ∧ w.cell? ⟨b, o + i, none⟩ = some (.int .u8 (((l.getD i 0).toNat : Nat) : Int)) ∧ b < w.heap.size := by
  rcases h with h | ⟨b, o, e, hc⟩
  · rw [h] at hi; simp at hi
  · refine ⟨b, o, e, ?_, World.block_lt_of_cell? _ _ (hc i hi)⟩
    rw [hc i hi, List.getD_eq_getElem?_getD, List.getElem?_eq_getElem hi]
    rfl


set_option maxRecDepth 100000 in
set_option maxHeartbeats 8000000 in
theorem net4_any (a0 : Option Addr) (A : List UInt8) (cap bt : Nat) (w : World) (hA : BLies w a0 A) (hl : A.length ≤ 16) (hbt : bt < 256) :
    Calls Tryd.prog 32 #[.slice a0 A.length cap, .int .u8 (bt : Int), .bool false] w fun e w' => e = .returned (.string (strOf (netB A (bt % 33) 4))) ∧ Below w.heap.size w w' := by
  obtain ⟨Z, hZ, hmk⟩ := net_make 4 (by omega) 4 rfl
  obtain ⟨K, hK⟩ : ∃ K, K = bt % 33 := ⟨_, rfl⟩
  have q1 : (bt : Int) % 33 = (K : Int) := by omega
  have q2 : (bt : Int).tmod 33 = (K : Int) := by rw [Int.tmod_eq_emod_of_nonneg (by omega)]; exact q1
  have hKb : K ≤ 8 * 4 := by omega
  obtain ⟨len, hlen⟩ : ∃ n, n = A.length := ⟨_, rfl⟩
  have HZ := Lib.hid hZ
  have HAL := Lib.hid hA
  have HLN := Lib.hid hlen
  have hlb : len ≤ 16 := by omega
  rw [← hK, ← hlen]
  clear hZ hA hK hlen hl
  go_enter Tryd.func32, Tryd.ntmps32
  go_wp2_with fail
  go_region
  · have hfin := net_rows w 4 Z HZ.out _ rfl
    obtain ⟨hx, hm, hb⟩ := hfin
    have HX := Lib.hid hx
    have HM := Lib.hid hm
    have HB := Lib.hid hb
    have hne : w.heap.size ≠ w.heap.size + 1 := by omega
    have hne' : w.heap.size + 1 ≠ w.heap.size := by omega
    clear hx hm hb
    generalize ((w.alloc (.cells Z 5)).alloc (.cells Z 5)).drew = W at HX HM HB ⊢
    obtain ⟨gm, hg1⟩ : ∃ g, g = w.heap.size + 1 := ⟨_, rfl⟩
    obtain ⟨gx, hg0⟩ : ∃ g, g = w.heap.size := ⟨_, rfl⟩
    rw [← hg1] at HM hne hne' ⊢
    rw [← hg0] at HX hne hne' ⊢
    have hgx : w.heap.size ≤ gx := by omega
    have hgm : w.heap.size ≤ gm := by omega
    clear hg0 hg1
    go_wp2_with fail
    clear hmk
    go_loopw [10] (fun i wr => ∃ k : Nat, k ≤ 4 ∧ i = .int .i64 (k : Int) ∧ BL wr gx (xsB A K 4 k) ∧ BL wr gm (msB K 4 k 0) ∧ Below w.heap.size w wr) (fun i _ => 4 - (intOf i).toNat)
    case atStart => exact ⟨0, Nat.zero_le _, rfl, by rw [xsB_zero]; exact HX.out, by rw [msB_zero]; exact HM.out, HB.out⟩
    case round =>
      obtain ⟨wo, hwo⟩ : ∃ wo, wo = wr := ⟨_, rfl⟩
      subst hwo
      obtain ⟨k, hk, rfl, hx, hm, hb⟩ := hrel
      by_cases hlt : k < 4
      · have hd : decide ((k : Int) < 4) = true := decide_eq_true (by omega)
        have HXK := Lib.hid hx
        have HMK := Lib.hid hm
        have HBK := Lib.hid hb
        clear hx hm hb
        go_wp2_with fail
        go_loopw [11] (fun i ws => ∃ t : Nat, t ≤ 8 ∧ i = .int .i64 (t : Int) ∧ BL ws gx (xsB A K 4 k) ∧ BL ws gm (msB K 4 k t) ∧ Below w.heap.size w ws) (fun i _ => 8 - (intOf i).toNat)
        case atStart => exact ⟨0, Nat.zero_le _, rfl, HXK.out, HMK.out, HBK.out⟩
        case round =>
          obtain ⟨wz, hwz⟩ : ∃ wz, wz = wr := ⟨_, rfl⟩
          subst hwz
          obtain ⟨t, ht, rfl, hx, hm, hb⟩ := hrel
          have HXT := Lib.hid hx
          have HMT := Lib.hid hm
          have HBT := Lib.hid hb
          clear hx hm hb
          by_cases ht8 : t < 8
          · have hd8 : decide ((t : Int) < 8) = true := decide_eq_true (by omega)
            by_cases hin : 8 * k + t < K
            · have hdi : decide (8 * (k : Int) + (t : Int) < (K : Int)) = true := decide_eq_true (by omega)
              have c0 := (HMT.out.2 k (by rw [msB_len]; exact hlt)).1
              have f0 := (HMT.out.2 k (by rw [msB_len]; exact hlt)).2
              rw [msB_at hlt, Nat.min_eq_left (by omega)] at c0
              have o0 := or_mask t ht8
              have HST := Lib.hid (msB_step hlt hin)
              go_wp2_with fail
              go_region
              go_wp2_with fail
              go_roundw
              case rel => exact ⟨t + 1, by omega, by go_num, HXT.out.other (by omega) k _, by rw [← HST.out]; exact HMT.out.putv (by rw [msB_len]; exact hlt) _ _ o0, (HBT.out.setCell hgm _).drew⟩
              case measure => simp [intOf]; omega
            · have hdi : decide (8 * (k : Int) + (t : Int) < (K : Int)) = false := decide_eq_false (by omega)
              have HST := Lib.hid (msB_stay (N := 4) hin)
              go_wp2_with fail
              go_roundw
              case rel => exact ⟨t + 1, by omega, by go_num, HXT.out, by rw [HST.out]; exact HMT.out, HBT.out⟩
              case measure => simp [intOf]; omega
          · have e8 : t = 8 := by omega
            subst e8
            have hd8 : decide (((8 : Nat) : Int) < 8) = false := by decide
            have hm8 := HMT.out
            rw [msB_end] at hm8
            have HM8 := Lib.hid hm8
            clear hm8
            by_cases hkl : k < len
            · have hdk : decide ((k : Int) < (len : Int)) = true := decide_eq_true (by omega)
              obtain ⟨p, o, rfl, ca, hpb⟩ := blies_at HAL.out (i := k) (by rw [← HLN.out]; exact hkl)
              have ca' := (HBT.out.cell (p := ⟨p, o + k, none⟩) hpb).trans ca
              have cm := (HM8.out.2 k (by rw [msB_len]; exact hlt)).1
              have cx := (HXT.out.2 k (by rw [xsB_len]; exact hlt)).1
              have fx := (HXT.out.2 k (by rw [xsB_len]; exact hlt)).2
              rw [show (msB K 4 (k + 1) 0).getD k 0 = maskB K k by rw [← msB_end, msB_at hlt]; rfl] at cm
              obtain ⟨y, hy⟩ : ∃ y, y = A.getD k 0 := ⟨_, rfl⟩
              rw [← hy] at ca'
              have a1 := and_u8 y (maskB K k)
              have HYE := Lib.hid hy
              clear hy ca
              have HSX := Lib.hid (xsB_step (A := A) (K := K) (N := 4) (i := k))
              go_wp2_with fail
              go_region
              go_wp2_with fail
              go_roundw
              case rel => exact ⟨k + 1, by omega, by go_num, by rw [← HSX.out, ← HYE.out]; exact HXT.out.putv (by rw [xsB_len]; exact hlt) (y &&& maskB K k) _ (by first | exact a1 | rw [UInt8.toNat_and]), HM8.out.other (by omega) k _, (HBT.out.setCell hgx _).drew⟩
              case measure => simp [intOf]; omega
            · have hdk : decide ((k : Int) < (len : Int)) = false := decide_eq_false (by omega)
              have HSX := Lib.hid (xsB_stay (K := K) (N := 4) (show A.length ≤ k by have := HLN.out; omega))
              go_wp2_with fail
              go_roundw
              case rel => exact ⟨k + 1, by omega, by go_num, by rw [HSX.out]; exact HXT.out, HM8.out, HBT.out⟩
              case measure => simp [intOf]; omega
      · have ek : k = 4 := by omega
        subst ek
        have hd : decide (((4 : Nat) : Int) < 4) = false := by decide
        have s1 := fun n cap hn => hx.text n cap hn
        have t1 := s1 4 4 (by rw [xsB_len])
        have t2 := hm.text 4 4 (by rw [msB_len])
        have t3 := cat_any (strOf (xsB A K 4 4)) (strOf (msB K 4 4 0)) (by rw [strOf_size, strOf_size, xsB_len, msB_len]; omega)
        rw [str_cat, net_done] at t3
        have HBE := Lib.hid hb
        clear hx hm hb s1
        go_wp2_with fail
        go_ret
        exact ⟨rfl, HBE.out⟩
  · have hfin := net_rows w 4 Z HZ.out _ rfl
    obtain ⟨hm, hx, hb⟩ := hfin
    have HX := Lib.hid hx
    have HM := Lib.hid hm
    have HB := Lib.hid hb
    have hne : w.heap.size ≠ w.heap.size + 1 := by omega
    have hne' : w.heap.size + 1 ≠ w.heap.size := by omega
    clear hx hm hb
    generalize ((w.alloc (.cells Z 5)).alloc (.cells Z 5)).drew = W at HX HM HB ⊢
    obtain ⟨gx, hg1⟩ : ∃ g, g = w.heap.size + 1 := ⟨_, rfl⟩
    obtain ⟨gm, hg0⟩ : ∃ g, g = w.heap.size := ⟨_, rfl⟩
    rw [← hg1] at HX hne hne' ⊢
    rw [← hg0] at HM hne hne' ⊢
    have hgx : w.heap.size ≤ gx := by omega
    have hgm : w.heap.size ≤ gm := by omega
    clear hg0 hg1
    go_wp2_with fail
    clear hmk
    go_loopw [10] (fun i wr => ∃ k : Nat, k ≤ 4 ∧ i = .int .i64 (k : Int) ∧ BL wr gx (xsB A K 4 k) ∧ BL wr gm (msB K 4 k 0) ∧ Below w.heap.size w wr) (fun i _ => 4 - (intOf i).toNat)
    case atStart => exact ⟨0, Nat.zero_le _, rfl, by rw [xsB_zero]; exact HX.out, by rw [msB_zero]; exact HM.out, HB.out⟩
    case round =>
      obtain ⟨wo, hwo⟩ : ∃ wo, wo = wr := ⟨_, rfl⟩
      subst hwo
      obtain ⟨k, hk, rfl, hx, hm, hb⟩ := hrel
      by_cases hlt : k < 4
      · have hd : decide ((k : Int) < 4) = true := decide_eq_true (by omega)
        have HXK := Lib.hid hx
        have HMK := Lib.hid hm
        have HBK := Lib.hid hb
        clear hx hm hb
        go_wp2_with fail
        go_loopw [11] (fun i ws => ∃ t : Nat, t ≤ 8 ∧ i = .int .i64 (t : Int) ∧ BL ws gx (xsB A K 4 k) ∧ BL ws gm (msB K 4 k t) ∧ Below w.heap.size w ws) (fun i _ => 8 - (intOf i).toNat)
        case atStart => exact ⟨0, Nat.zero_le _, rfl, HXK.out, HMK.out, HBK.out⟩
        case round =>
          obtain ⟨wz, hwz⟩ : ∃ wz, wz = wr := ⟨_, rfl⟩
          subst hwz
          obtain ⟨t, ht, rfl, hx, hm, hb⟩ := hrel
          have HXT := Lib.hid hx
          have HMT := Lib.hid hm
          have HBT := Lib.hid hb
          clear hx hm hb
          by_cases ht8 : t < 8
          · have hd8 : decide ((t : Int) < 8) = true := decide_eq_true (by omega)
            by_cases hin : 8 * k + t < K
            · have hdi : decide (8 * (k : Int) + (t : Int) < (K : Int)) = true := decide_eq_true (by omega)
              have c0 := (HMT.out.2 k (by rw [msB_len]; exact hlt)).1
              have f0 := (HMT.out.2 k (by rw [msB_len]; exact hlt)).2
              rw [msB_at hlt, Nat.min_eq_left (by omega)] at c0
              have o0 := or_mask t ht8
              have HST := Lib.hid (msB_step hlt hin)
              go_wp2_with fail
              go_region
              go_wp2_with fail
              go_roundw
              case rel => exact ⟨t + 1, by omega, by go_num, HXT.out.other (by omega) k _, by rw [← HST.out]; exact HMT.out.putv (by rw [msB_len]; exact hlt) _ _ o0, (HBT.out.setCell hgm _).drew⟩
              case measure => simp [intOf]; omega
            · have hdi : decide (8 * (k : Int) + (t : Int) < (K : Int)) = false := decide_eq_false (by omega)
              have HST := Lib.hid (msB_stay (N := 4) hin)
              go_wp2_with fail
              go_roundw
              case rel => exact ⟨t + 1, by omega, by go_num, HXT.out, by rw [HST.out]; exact HMT.out, HBT.out⟩
              case measure => simp [intOf]; omega
          · have e8 : t = 8 := by omega
            subst e8
            have hd8 : decide (((8 : Nat) : Int) < 8) = false := by decide
            have hm8 := HMT.out
            rw [msB_end] at hm8
            have HM8 := Lib.hid hm8
            clear hm8
            by_cases hkl : k < len
            · have hdk : decide ((k : Int) < (len : Int)) = true := decide_eq_true (by omega)
              obtain ⟨p, o, rfl, ca, hpb⟩ := blies_at HAL.out (i := k) (by rw [← HLN.out]; exact hkl)
              have ca' := (HBT.out.cell (p := ⟨p, o + k, none⟩) hpb).trans ca
              have cm := (HM8.out.2 k (by rw [msB_len]; exact hlt)).1
              have cx := (HXT.out.2 k (by rw [xsB_len]; exact hlt)).1
              have fx := (HXT.out.2 k (by rw [xsB_len]; exact hlt)).2
              rw [show (msB K 4 (k + 1) 0).getD k 0 = maskB K k by rw [← msB_end, msB_at hlt]; rfl] at cm
              obtain ⟨y, hy⟩ : ∃ y, y = A.getD k 0 := ⟨_, rfl⟩
              rw [← hy] at ca'
              have a1 := and_u8 y (maskB K k)
              have HYE := Lib.hid hy
              clear hy ca
              have HSX := Lib.hid (xsB_step (A := A) (K := K) (N := 4) (i := k))
              go_wp2_with fail
              go_region
              go_wp2_with fail
              go_roundw
              case rel => exact ⟨k + 1, by omega, by go_num, by rw [← HSX.out, ← HYE.out]; exact HXT.out.putv (by rw [xsB_len]; exact hlt) (y &&& maskB K k) _ (by first | exact a1 | rw [UInt8.toNat_and]), HM8.out.other (by omega) k _, (HBT.out.setCell hgx _).drew⟩
              case measure => simp [intOf]; omega
            · have hdk : decide ((k : Int) < (len : Int)) = false := decide_eq_false (by omega)
              have HSX := Lib.hid (xsB_stay (K := K) (N := 4) (show A.length ≤ k by have := HLN.out; omega))
              go_wp2_with fail
              go_roundw
              case rel => exact ⟨k + 1, by omega, by go_num, by rw [HSX.out]; exact HXT.out, HM8.out, HBT.out⟩
              case measure => simp [intOf]; omega
      · have ek : k = 4 := by omega
        subst ek
        have hd : decide (((4 : Nat) : Int) < 4) = false := by decide
        have s1 := fun n cap hn => hx.text n cap hn
        have t1 := s1 4 4 (by rw [xsB_len])
        have t2 := hm.text 4 4 (by rw [msB_len])
        have t3 := cat_any (strOf (xsB A K 4 4)) (strOf (msB K 4 4 0)) (by rw [strOf_size, strOf_size, xsB_len, msB_len]; omega)
        rw [str_cat, net_done] at t3
        have HBE := Lib.hid hb
        clear hx hm hb s1
        go_wp2_with fail
        go_ret
        exact ⟨rfl, HBE.out⟩


set_option maxRecDepth 100000 in
set_option maxHeartbeats 8000000 in
theorem net16_any (a0 : Option Addr) (A : List UInt8) (cap bt : Nat) (w : World) (hA : BLies w a0 A) (hl : A.length ≤ 16) (hbt : bt < 256) :
    Calls Tryd.prog 32 #[.slice a0 A.length cap, .int .u8 (bt : Int), .bool true] w fun e w' => e = .returned (.string (strOf (netB A (bt % 129) 16))) ∧ Below w.heap.size w w' := by
  obtain ⟨Z, hZ, hmk⟩ := net_make 16 (by omega) 16 rfl
  obtain ⟨K, hK⟩ : ∃ K, K = bt % 129 := ⟨_, rfl⟩
  have q1 : (bt : Int) % 129 = (K : Int) := by omega
  have q2 : (bt : Int).tmod 129 = (K : Int) := by rw [Int.tmod_eq_emod_of_nonneg (by omega)]; exact q1
  have hKb : K ≤ 8 * 16 := by omega
  obtain ⟨len, hlen⟩ : ∃ n, n = A.length := ⟨_, rfl⟩
  have HZ := Lib.hid hZ
  have HAL := Lib.hid hA
  have HLN := Lib.hid hlen
  have hlb : len ≤ 16 := by omega
  rw [← hK, ← hlen]
  clear hZ hA hK hlen hl
  go_enter Tryd.func32, Tryd.ntmps32
  go_wp2_with fail
  go_region
  · have hfin := net_rows w 16 Z HZ.out _ rfl
    obtain ⟨hx, hm, hb⟩ := hfin
    have HX := Lib.hid hx
    have HM := Lib.hid hm
    have HB := Lib.hid hb
    have hne : w.heap.size ≠ w.heap.size + 1 := by omega
    have hne' : w.heap.size + 1 ≠ w.heap.size := by omega
    clear hx hm hb
    generalize ((w.alloc (.cells Z 5)).alloc (.cells Z 5)).drew = W at HX HM HB ⊢
    obtain ⟨gm, hg1⟩ : ∃ g, g = w.heap.size + 1 := ⟨_, rfl⟩
    obtain ⟨gx, hg0⟩ : ∃ g, g = w.heap.size := ⟨_, rfl⟩
    rw [← hg1] at HM hne hne' ⊢
    rw [← hg0] at HX hne hne' ⊢
    have hgx : w.heap.size ≤ gx := by omega
    have hgm : w.heap.size ≤ gm := by omega
    clear hg0 hg1
    go_wp2_with fail
    clear hmk
    go_loopw [10] (fun i wr => ∃ k : Nat, k ≤ 16 ∧ i = .int .i64 (k : Int) ∧ BL wr gx (xsB A K 16 k) ∧ BL wr gm (msB K 16 k 0) ∧ Below w.heap.size w wr) (fun i _ => 16 - (intOf i).toNat)
    case atStart => exact ⟨0, Nat.zero_le _, rfl, by rw [xsB_zero]; exact HX.out, by rw [msB_zero]; exact HM.out, HB.out⟩
    case round =>
      obtain ⟨wo, hwo⟩ : ∃ wo, wo = wr := ⟨_, rfl⟩
      subst hwo
      obtain ⟨k, hk, rfl, hx, hm, hb⟩ := hrel
      by_cases hlt : k < 16
      · have hd : decide ((k : Int) < 16) = true := decide_eq_true (by omega)
        have HXK := Lib.hid hx
        have HMK := Lib.hid hm
        have HBK := Lib.hid hb
        clear hx hm hb
        go_wp2_with fail
        go_loopw [11] (fun i ws => ∃ t : Nat, t ≤ 8 ∧ i = .int .i64 (t : Int) ∧ BL ws gx (xsB A K 16 k) ∧ BL ws gm (msB K 16 k t) ∧ Below w.heap.size w ws) (fun i _ => 8 - (intOf i).toNat)
        case atStart => exact ⟨0, Nat.zero_le _, rfl, HXK.out, HMK.out, HBK.out⟩
        case round =>
          obtain ⟨wz, hwz⟩ : ∃ wz, wz = wr := ⟨_, rfl⟩
          subst hwz
          obtain ⟨t, ht, rfl, hx, hm, hb⟩ := hrel
          have HXT := Lib.hid hx
          have HMT := Lib.hid hm
          have HBT := Lib.hid hb
          clear hx hm hb
          by_cases ht8 : t < 8
          · have hd8 : decide ((t : Int) < 8) = true := decide_eq_true (by omega)
            by_cases hin : 8 * k + t < K
            · have hdi : decide (8 * (k : Int) + (t : Int) < (K : Int)) = true := decide_eq_true (by omega)
              have c0 := (HMT.out.2 k (by rw [msB_len]; exact hlt)).1
              have f0 := (HMT.out.2 k (by rw [msB_len]; exact hlt)).2
              rw [msB_at hlt, Nat.min_eq_left (by omega)] at c0
              have o0 := or_mask t ht8
              have HST := Lib.hid (msB_step hlt hin)
              go_wp2_with fail
              go_region
              go_wp2_with fail
              go_roundw
              case rel => exact ⟨t + 1, by omega, by go_num, HXT.out.other (by omega) k _, by rw [← HST.out]; exact HMT.out.putv (by rw [msB_len]; exact hlt) _ _ o0, (HBT.out.setCell hgm _).drew⟩
              case measure => simp [intOf]; omega
            · have hdi : decide (8 * (k : Int) + (t : Int) < (K : Int)) = false := decide_eq_false (by omega)
              have HST := Lib.hid (msB_stay (N := 16) hin)
              go_wp2_with fail
              go_roundw
              case rel => exact ⟨t + 1, by omega, by go_num, HXT.out, by rw [HST.out]; exact HMT.out, HBT.out⟩
              case measure => simp [intOf]; omega
          · have e8 : t = 8 := by omega
            subst e8
            have hd8 : decide (((8 : Nat) : Int) < 8) = false := by decide
            have hm8 := HMT.out
            rw [msB_end] at hm8
            have HM8 := Lib.hid hm8
            clear hm8
            by_cases hkl : k < len
            · have hdk : decide ((k : Int) < (len : Int)) = true := decide_eq_true (by omega)
              obtain ⟨p, o, rfl, ca, hpb⟩ := blies_at HAL.out (i := k) (by rw [← HLN.out]; exact hkl)
              have ca' := (HBT.out.cell (p := ⟨p, o + k, none⟩) hpb).trans ca
              have cm := (HM8.out.2 k (by rw [msB_len]; exact hlt)).1
              have cx := (HXT.out.2 k (by rw [xsB_len]; exact hlt)).1
              have fx := (HXT.out.2 k (by rw [xsB_len]; exact hlt)).2
              rw [show (msB K 16 (k + 1) 0).getD k 0 = maskB K k by rw [← msB_end, msB_at hlt]; rfl] at cm
              obtain ⟨y, hy⟩ : ∃ y, y = A.getD k 0 := ⟨_, rfl⟩
              rw [← hy] at ca'
              have a1 := and_u8 y (maskB K k)
              have HYE := Lib.hid hy
              clear hy ca
              have HSX := Lib.hid (xsB_step (A := A) (K := K) (N := 16) (i := k))
              go_wp2_with fail
              go_region
              go_wp2_with fail
              go_roundw
              case rel => exact ⟨k + 1, by omega, by go_num, by rw [← HSX.out, ← HYE.out]; exact HXT.out.putv (by rw [xsB_len]; exact hlt) (y &&& maskB K k) _ (by first | exact a1 | rw [UInt8.toNat_and]), HM8.out.other (by omega) k _, (HBT.out.setCell hgx _).drew⟩
              case measure => simp [intOf]; omega
            · have hdk : decide ((k : Int) < (len : Int)) = false := decide_eq_false (by omega)
              have HSX := Lib.hid (xsB_stay (K := K) (N := 16) (show A.length ≤ k by have := HLN.out; omega))
              go_wp2_with fail
              go_roundw
              case rel => exact ⟨k + 1, by omega, by go_num, by rw [HSX.out]; exact HXT.out, HM8.out, HBT.out⟩
              case measure => simp [intOf]; omega
      · have ek : k = 16 := by omega
        subst ek
        have hd : decide (((16 : Nat) : Int) < 16) = false := by decide
        have s1 := fun n cap hn => hx.text n cap hn
        have t1 := s1 16 16 (by rw [xsB_len])
        have t2 := hm.text 16 16 (by rw [msB_len])
        have t3 := cat_any (strOf (xsB A K 16 16)) (strOf (msB K 16 16 0)) (by rw [strOf_size, strOf_size, xsB_len, msB_len]; omega)
        rw [str_cat, net_done] at t3
        have HBE := Lib.hid hb
        clear hx hm hb s1
        go_wp2_with fail
        go_ret
        exact ⟨rfl, HBE.out⟩
  · have hfin := net_rows w 16 Z HZ.out _ rfl
    obtain ⟨hm, hx, hb⟩ := hfin
    have HX := Lib.hid hx
    have HM := Lib.hid hm
    have HB := Lib.hid hb
    have hne : w.heap.size ≠ w.heap.size + 1 := by omega
    have hne' : w.heap.size + 1 ≠ w.heap.size := by omega
    clear hx hm hb
    generalize ((w.alloc (.cells Z 5)).alloc (.cells Z 5)).drew = W at HX HM HB ⊢
    obtain ⟨gx, hg1⟩ : ∃ g, g = w.heap.size + 1 := ⟨_, rfl⟩
    obtain ⟨gm, hg0⟩ : ∃ g, g = w.heap.size := ⟨_, rfl⟩
    rw [← hg1] at HX hne hne' ⊢
    rw [← hg0] at HM hne hne' ⊢
    have hgx : w.heap.size ≤ gx := by omega
    have hgm : w.heap.size ≤ gm := by omega
    clear hg0 hg1
    go_wp2_with fail
    clear hmk
    go_loopw [10] (fun i wr => ∃ k : Nat, k ≤ 16 ∧ i = .int .i64 (k : Int) ∧ BL wr gx (xsB A K 16 k) ∧ BL wr gm (msB K 16 k 0) ∧ Below w.heap.size w wr) (fun i _ => 16 - (intOf i).toNat)
    case atStart => exact ⟨0, Nat.zero_le _, rfl, by rw [xsB_zero]; exact HX.out, by rw [msB_zero]; exact HM.out, HB.out⟩
    case round =>
      obtain ⟨wo, hwo⟩ : ∃ wo, wo = wr := ⟨_, rfl⟩
      subst hwo
      obtain ⟨k, hk, rfl, hx, hm, hb⟩ := hrel
      by_cases hlt : k < 16
      · have hd : decide ((k : Int) < 16) = true := decide_eq_true (by omega)
        have HXK := Lib.hid hx
        have HMK := Lib.hid hm
        have HBK := Lib.hid hb
        clear hx hm hb
        go_wp2_with fail
        go_loopw [11] (fun i ws => ∃ t : Nat, t ≤ 8 ∧ i = .int .i64 (t : Int) ∧ BL ws gx (xsB A K 16 k) ∧ BL ws gm (msB K 16 k t) ∧ Below w.heap.size w ws) (fun i _ => 8 - (intOf i).toNat)
        case atStart => exact ⟨0, Nat.zero_le _, rfl, HXK.out, HMK.out, HBK.out⟩
        case round =>
          obtain ⟨wz, hwz⟩ : ∃ wz, wz = wr := ⟨_, rfl⟩
          subst hwz
          obtain ⟨t, ht, rfl, hx, hm, hb⟩ := hrel
          have HXT := Lib.hid hx
          have HMT := Lib.hid hm
          have HBT := Lib.hid hb
          clear hx hm hb
          by_cases ht8 : t < 8
          · have hd8 : decide ((t : Int) < 8) = true := decide_eq_true (by omega)
            by_cases hin : 8 * k + t < K
            · have hdi : decide (8 * (k : Int) + (t : Int) < (K : Int)) = true := decide_eq_true (by omega)
              have c0 := (HMT.out.2 k (by rw [msB_len]; exact hlt)).1
              have f0 := (HMT.out.2 k (by rw [msB_len]; exact hlt)).2
              rw [msB_at hlt, Nat.min_eq_left (by omega)] at c0
              have o0 := or_mask t ht8
              have HST := Lib.hid (msB_step hlt hin)
              go_wp2_with fail
              go_region
              go_wp2_with fail
              go_roundw
              case rel => exact ⟨t + 1, by omega, by go_num, HXT.out.other (by omega) k _, by rw [← HST.out]; exact HMT.out.putv (by rw [msB_len]; exact hlt) _ _ o0, (HBT.out.setCell hgm _).drew⟩
              case measure => simp [intOf]; omega
            · have hdi : decide (8 * (k : Int) + (t : Int) < (K : Int)) = false := decide_eq_false (by omega)
              have HST := Lib.hid (msB_stay (N := 16) hin)
              go_wp2_with fail
              go_roundw
              case rel => exact ⟨t + 1, by omega, by go_num, HXT.out, by rw [HST.out]; exact HMT.out, HBT.out⟩
              case measure => simp [intOf]; omega
          · have e8 : t = 8 := by omega
            subst e8
            have hd8 : decide (((8 : Nat) : Int) < 8) = false := by decide
            have hm8 := HMT.out
            rw [msB_end] at hm8
            have HM8 := Lib.hid hm8
            clear hm8
            by_cases hkl : k < len
            · have hdk : decide ((k : Int) < (len : Int)) = true := decide_eq_true (by omega)
              obtain ⟨p, o, rfl, ca, hpb⟩ := blies_at HAL.out (i := k) (by rw [← HLN.out]; exact hkl)
              have ca' := (HBT.out.cell (p := ⟨p, o + k, none⟩) hpb).trans ca
              have cm := (HM8.out.2 k (by rw [msB_len]; exact hlt)).1
              have cx := (HXT.out.2 k (by rw [xsB_len]; exact hlt)).1
              have fx := (HXT.out.2 k (by rw [xsB_len]; exact hlt)).2
              rw [show (msB K 16 (k + 1) 0).getD k 0 = maskB K k by rw [← msB_end, msB_at hlt]; rfl] at cm
              obtain ⟨y, hy⟩ : ∃ y, y = A.getD k 0 := ⟨_, rfl⟩
              rw [← hy] at ca'
              have a1 := and_u8 y (maskB K k)
              have HYE := Lib.hid hy
              clear hy ca
              have HSX := Lib.hid (xsB_step (A := A) (K := K) (N := 16) (i := k))
              go_wp2_with fail
              go_region
              go_wp2_with fail
              go_roundw
              case rel => exact ⟨k + 1, by omega, by go_num, by rw [← HSX.out, ← HYE.out]; exact HXT.out.putv (by rw [xsB_len]; exact hlt) (y &&& maskB K k) _ (by first | exact a1 | rw [UInt8.toNat_and]), HM8.out.other (by omega) k _, (HBT.out.setCell hgx _).drew⟩
              case measure => simp [intOf]; omega
            · have hdk : decide ((k : Int) < (len : Int)) = false := decide_eq_false (by omega)
              have HSX := Lib.hid (xsB_stay (K := K) (N := 16) (show A.length ≤ k by have := HLN.out; omega))
              go_wp2_with fail
              go_roundw
              case rel => exact ⟨k + 1, by omega, by go_num, by rw [HSX.out]; exact HXT.out, HM8.out, HBT.out⟩
              case measure => simp [intOf]; omega
      · have ek : k = 16 := by omega
        subst ek
        have hd : decide (((16 : Nat) : Int) < 16) = false := by decide
        have s1 := fun n cap hn => hx.text n cap hn
        have t1 := s1 16 16 (by rw [xsB_len])
        have t2 := hm.text 16 16 (by rw [msB_len])
        have t3 := cat_any (strOf (xsB A K 16 16)) (strOf (msB K 16 16 0)) (by rw [strOf_size, strOf_size, xsB_len, msB_len]; omega)
        rw [str_cat, net_done] at t3
        have HBE := Lib.hid hb
        clear hx hm hb s1
        go_wp2_with fail
        go_ret
        exact ⟨rfl, HBE.out⟩

end Go.Proofs.YtoogfipmdkneoaaDoor
