/-
  The contract of the reference's FormatGeneral: the text of a general name.
  The contracts of gname's formatRest and Format: the text of a general name, or the error.
  The contract of the reference's EncodeGeneral: the element of a general name.
  The contracts of the reference's ExactGenerals, for two rows of the same general names, and of the law's short.
  The contracts of the reference's SameGeneral, MatchGeneral and WithinGeneral.
  What the laws over gname want of the program's functions, each said as a proposition; and that the law's awake then returns true.
  The walk of the law GnameCheck: for every general name and every slice of ints it returns true, and leaves all that was there as it was.
  How long encodings of made general names are, and the reference's One. Nothing is claimed of the program here but what One returns.
-/
import Derived.Test.YtflpajbcomhkpaaGreatDoorSax
import Derived.Test.YtflpajbcomhkpaaGreatDoorSbn
import Derived.Test.YtflpajbcomhkpaaGreatDoorSbi
import Derived.Test.YtflpajbcomhkpaaGreatDoorSbm
import Derived.Test.YtflpajbcomhkpaaGreatDoorSbh
import Derived.Test.YtflpajbcomhkpaaGreatDoorSaf
import Derived.Test.YtflpajbcomhkpaaGreatDoorSaw
import Derived.Test.YtflpajbcomhkpaaGreatDoorSbc
import Derived.Test.YtflpajbcomhkpaaGreatDoorSal
import Derived.Lib.QuietBelow
import Derived.BigQuiet
import Derived.Test.YtflpajbcomhkpaaGreatDoorSap
import Derived.Test.YtflpajbcomhkpaaGreatDoorSao
import Derived.Test.YtflpajbcomhkpaaGreatDoorSae
import Derived.Test.YtflpajbcomhkpaaGreatDoorSbe
import Derived.Test.YtflpajbcomhkpaaGreatDoorSbf
import Derived.Deep.CutRange
import Derived.Deep.DeepCutAuto
import Derived.Deep.RegionWith
import Derived.Test.YtflpajbcomhkpaaGreatDoorSbg
namespace Go.Proofs.YtflpajbcomhkpaaGreatDoor
open Go.RowKit

noncomputable def fmtG (k : Int) (t : List UInt8) (n : Nm) : ByteArray × Nat :=
  if k = 1 then (strOf [109, 97, 105, 108, 58] ++ escS (strOf t), 0) else if k = 2 then (strOf [100, 110, 115, 58] ++ escS (strOf t), 0) else if k = 7 then (strOf [105, 112, 58] ++ ⟨(hexL t).toArray⟩, 0)
  else if k = 4 then (if chkN n = 0 then (strOf [100, 105, 114, 58] ++ fmtN n, 0) else (⟨#[]⟩, chkN n)) else (⟨#[]⟩, 14)

theorem fmtN_bound {n : Nm} (hz : chkN n = 0) (ht : ∀ r ∈ n, ∀ x ∈ r, x.1.size ≤ 200000) : (fmtN n).size ≤ 8000008 := by
  have hch := (chkN_iff n).1 hz
  have hp : ∀ r ∈ n, PreF r := fun r hm => by
    have hr := hch.2 _ hm
    exact ⟨okR_of hr, ((chkR_iff _).1 hr).2.1, ht _ hm⟩
  have hl := join_len 44 1000000 ((n.map fmtR).map (·.data.toList)) (fun p hp' => by
    obtain ⟨s, hs', rfl⟩ := List.mem_map.1 hp'
    obtain ⟨r, hr, rfl⟩ := List.mem_map.1 hs'
    exact joinF_small (hp r hr))
  rw [List.length_map, List.length_map] at hl
  have h8 := hch.1
  have he : (fmtN n).size = (Lib.join ((n.map fmtR).map (·.data.toList)) [44]).length := strOf_size _
  rw [he]
  exact Nat.le_trans hl (by omega)

set_option maxRecDepth 100000 in
set_option maxHeartbeats 4000000 in
theorem rfmtG_core (a0 : Option Addr) (c m : Nat) (k : Int) (t : List UInt8) (n : Nm) (w : World) (h : RLies w a0 n) (hn : m = n.length) (ht : t.length ≤ 150000) (hs : SmallN n) (h2 : ∀ r ∈ n, ∀ x ∈ r, x.1.size ≤ 200000) :
    Calls Tryz.prog 26 #[.agg #[.int .i64 k, .string (strOf t), .slice a0 m c]] w fun e w' => e = .returned (.tuple #[.string (fmtG k t n).1, .int .i64 (((fmtG k t n).2 : Nat) : Int)]) ∧ Below w.heap.size w w' := by
  obtain ⟨W0, hW0⟩ : ∃ W0, W0 = w.alloc (.cells #[.int .i64 k, .string (strOf t), .slice a0 m c] 32) := ⟨_, rfl⟩
  have hwr : w.alloc (.cells #[.int .i64 k, .string (strOf t), .slice a0 m c] 32) = W0 := hW0.symm
  have hb0 : Below w.heap.size w W0 := by rw [hW0]; exact belowNew w _
  have hq0 : W0.heap[w.heap.size]? = some (.cells #[.int .i64 k, .string (strOf t), .slice a0 m c] 32 (0, 0)) := by rw [hW0]; exact heap_alloc_new w _
  obtain ⟨c0, c1, c2, l0⟩ := three_facts hq0
  have HB0 := Lib.hid hb0
  have H2 := Lib.hid h2
  have HX := Lib.hid (resc_any (strOf t) W0 (by rw [strOf_size]; omega))
  have HH := Lib.hid (refhex_any (strOf t) W0 (by rw [strOf_size]; omega))
  have HF := Lib.hid (rformat_core a0 c m n W0 (h.below hb0) hn hs h2)
  have hez := escS_size (strOf t)
  rw [strOf_size] at hez
  have hhz : (⟨(hexL (strOf t).data.toList).toArray⟩ : ByteArray).size ≤ 900000 := by
    show (hexL (strOf t).data.toList).toArray.size ≤ 900000
    rw [List.size_toArray, hexL_length, strOf_list]; omega
  have HEZ := Lib.hid (show (escS (strOf t)).size ≤ 900000 by omega)
  have HHZ := Lib.hid hhz
  clear h hn ht hs h2 hW0 hb0 hq0 hez hhz
  obtain ⟨R, hR⟩ : ∃ R, R = fmtG k t n := ⟨_, rfl⟩
  rw [← hR]
  have HR := Lib.hid hR
  clear hR
  rcases kind_or k with rfl | rfl | rfl | rfl | hk
  · have HV := Lib.hid (show R = (strOf [109, 97, 105, 108, 58] ++ escS (strOf t), 0) by rw [HR.out]; unfold fmtG; rw [if_pos rfl])
    have hcat : ∀ w, (Op.stringOp .add ⟨#[109, 97, 105, 108, 58]⟩ (escS (strOf t))).run Tryz.prog w = .ok (.string (strOf [109, 97, 105, 108, 58] ++ escS (strOf t))) w := fun w => cat_any (strOf [109, 97, 105, 108, 58]) _ (by have := HEZ.out; rw [strOf_size]; simp only [List.length_cons, List.length_nil]; omega) w
    generalize escS (strOf t) = S at hcat HV HX
    go_enter Tryz.func26, Tryz.ntmps26
    go_wp2_with (go_at_call 52; (with_reducible refine HX.out.mono ?_); rintro e w1 ⟨rfl, hb1⟩; have HB1 := Lib.hid (below_next HB0.out hb1); clear hb1)
    go_ret2
    exact ⟨by rw [HV.out]; rfl, HB1.out⟩
  · have HV := Lib.hid (show R = (strOf [100, 110, 115, 58] ++ escS (strOf t), 0) by rw [HR.out]; unfold fmtG; rw [if_neg (by decide), if_pos rfl])
    have hcat : ∀ w, (Op.stringOp .add ⟨#[100, 110, 115, 58]⟩ (escS (strOf t))).run Tryz.prog w = .ok (.string (strOf [100, 110, 115, 58] ++ escS (strOf t))) w := fun w => cat_any (strOf [100, 110, 115, 58]) _ (by have := HEZ.out; rw [strOf_size]; simp only [List.length_cons, List.length_nil]; omega) w
    generalize escS (strOf t) = S at hcat HV HX
    go_enter Tryz.func26, Tryz.ntmps26
    go_wp2_with (go_at_call 52; (with_reducible refine HX.out.mono ?_); rintro e w1 ⟨rfl, hb1⟩; have HB1 := Lib.hid (below_next HB0.out hb1); clear hb1)
    go_ret2
    exact ⟨by rw [HV.out]; rfl, HB1.out⟩
  · by_cases hz : chkN n = 0
    · have HV := Lib.hid (show R = (strOf [100, 105, 114, 58] ++ fmtN n, 0) by rw [HR.out]; unfold fmtG; rw [if_neg (by decide), if_neg (by decide), if_neg (by decide), if_pos rfl, if_pos hz])
      have hfv : fmtV n = fmtN n := by unfold fmtV; rw [if_pos hz]
      have hfz := fmtN_bound hz H2.out
      have hcat : ∀ w, (Op.stringOp .add ⟨#[100, 105, 114, 58]⟩ (fmtN n)).run Tryz.prog w = .ok (.string (strOf [100, 105, 114, 58] ++ fmtN n)) w := fun w => cat_any (strOf [100, 105, 114, 58]) _ (by rw [strOf_size]; simp only [List.length_cons, List.length_nil]; omega) w
      rw [hfv, hz] at HF
      clear hfv hz hfz
      go_enter Tryz.func26, Tryz.ntmps26
      go_wp2_with (go_at_call 54; (with_reducible refine HF.out.mono ?_); rintro e w1 ⟨rfl, hb1⟩; have HB1 := Lib.hid (below_next HB0.out hb1); clear hb1)
      go_ret2
      exact ⟨by rw [HV.out]; rfl, HB1.out⟩
    · have HV := Lib.hid (show R = (⟨#[]⟩, chkN n) by rw [HR.out]; unfold fmtG; rw [if_neg (by decide), if_neg (by decide), if_neg (by decide), if_pos rfl, if_neg hz])
      have hz1 := errno_ne hz
      generalize chkN n = E at HF HV hz1 hz
      clear hz
      go_enter Tryz.func26, Tryz.ntmps26
      go_wp2_with (go_at_call 54; (with_reducible refine HF.out.mono ?_); rintro e w1 ⟨rfl, hb1⟩; have HB1 := Lib.hid (below_next HB0.out hb1); clear hb1)
      go_ret2
      exact ⟨by rw [HV.out]; rfl, HB1.out⟩
  · have HV := Lib.hid (show R = (strOf [105, 112, 58] ++ (⟨(hexL (strOf t).data.toList).toArray⟩ : ByteArray), 0) by rw [HR.out]; unfold fmtG; rw [if_neg (by decide), if_neg (by decide), if_pos rfl]; rw [strOf_list])
    have hcat : ∀ w, (Op.stringOp .add ⟨#[105, 112, 58]⟩ ((⟨(hexL (strOf t).data.toList).toArray⟩ : ByteArray))).run Tryz.prog w = .ok (.string (strOf [105, 112, 58] ++ (⟨(hexL (strOf t).data.toList).toArray⟩ : ByteArray))) w := fun w => cat_any (strOf [105, 112, 58]) _ (by have := HHZ.out; rw [strOf_size]; simp only [List.length_cons, List.length_nil]; omega) w
    generalize (⟨(hexL (strOf t).data.toList).toArray⟩ : ByteArray) = S at hcat HV HH
    go_enter Tryz.func26, Tryz.ntmps26
    go_wp2_with (go_at_call 53; (with_reducible refine HH.out.mono ?_); rintro e w1 ⟨rfl, hb1⟩; have HB1 := Lib.hid (below_next HB0.out hb1); clear hb1)
    go_ret2
    exact ⟨by rw [HV.out]; rfl, HB1.out⟩
  · have HV := Lib.hid (show R = (⟨#[]⟩, 14) by rw [HR.out]; unfold fmtG; rw [if_neg hk.1, if_neg hk.2.1, if_neg hk.2.2.2, if_neg hk.2.2.1])
    obtain ⟨k1, k2, k4, k7⟩ := hk
    have e1 : (k == 1) = false := beq_eq_false_iff_ne.2 k1
    have e2 : (k == 2) = false := beq_eq_false_iff_ne.2 k2
    have e4 : (k == 4) = false := beq_eq_false_iff_ne.2 k4
    have e7 : (k == 7) = false := beq_eq_false_iff_ne.2 k7
    clear k1 k2 k4 k7
    go_enter Tryz.func26, Tryz.ntmps26
    go_wp2_with fail
    go_ret2
    exact ⟨by rw [HV.out]; rfl, HB0.out⟩
end Go.Proofs.YtflpajbcomhkpaaGreatDoor
namespace Go.Proofs.YtflpajbcomhkpaaGreatDoor
open Go.RowKit

/-- What is written behind the word of a kind. -/
noncomputable def rstG (k : Int) (t : List UInt8) (n : Nm) : ByteArray × Nat :=
  if k = 4 then (fmtV n, chkN n) else if k = 7 then (⟨(hexL t).toArray⟩, 0) else (escS (strOf t), 0)
set_option maxRecDepth 100000 in
set_option maxHeartbeats 4000000 in
theorem frest_core (a0 : Option Addr) (c m : Nat) (k : Int) (t : List UInt8) (n : Nm) (w : World) (hk : k = 1 ∨ k = 2 ∨ k = 4 ∨ k = 7) (h : RLies w a0 n) (hn : m = n.length) (ht : t.length ≤ 150000) (hs : SmallN n) (h2 : ∀ r ∈ n, ∀ x ∈ r, x.1.size ≤ 200000) (hT : Tab w) (hS : ShT w) :
    Calls Tryz.prog 51 #[.int .i64 ((kdOf k : Nat) : Int), .agg #[.int .i64 k, .string (strOf t), .slice a0 m c]] w fun e w' => e = .returned (.tuple #[.string (rstG k t n).1, .int .i64 (((rstG k t n).2 : Nat) : Int)]) ∧ Below w.heap.size w w' := by
  obtain ⟨W0, hW0⟩ : ∃ W0, W0 = w.alloc (.cells #[.int .i64 k, .string (strOf t), .slice a0 m c] 32) := ⟨_, rfl⟩
  have hwr : w.alloc (.cells #[.int .i64 k, .string (strOf t), .slice a0 m c] 32) = W0 := hW0.symm
  have hb0 : Below w.heap.size w W0 := by rw [hW0]; exact belowNew w _
  have hq0 : W0.heap[w.heap.size]? = some (.cells #[.int .i64 k, .string (strOf t), .slice a0 m c] 32 (0, 0)) := by rw [hW0]; exact heap_alloc_new w _
  obtain ⟨c0, c1, c2, l0⟩ := three_facts hq0
  have HB0 := Lib.hid hb0
  have HX := Lib.hid (esc_any (strOf t) W0 (by rw [strOf_size]; omega))
  have HH := Lib.hid (hex_any (strOf t) W0 (by rw [strOf_size]; omega))
  have HF := Lib.hid (format_core a0 c m n W0 (h.below hb0) hn hs h2 (hT.below hb0) (hS.below hb0))
  rw [strOf_list] at HH
  obtain ⟨R, hR⟩ : ∃ R, R = rstG k t n := ⟨_, rfl⟩
  rw [← hR]
  have HR := Lib.hid hR
  clear h hn ht hs h2 hT hS hW0 hb0 hq0 hR
  rcases hk with rfl | rfl | rfl | rfl
  · have HV := Lib.hid (show R = (escS (strOf t), 0) by rw [HR.out]; unfold rstG; rw [if_neg (by decide), if_neg (by decide)])
    rw [show ((kdOf 1 : Nat) : Int) = 0 from rfl]
    generalize escS (strOf t) = S at HV HX
    go_enter Tryz.func51, Tryz.ntmps51
    go_wp2_with (go_at_call 91; (with_reducible refine HX.out.mono ?_); rintro e w1 ⟨rfl, hb1⟩; have HB1 := Lib.hid (below_next HB0.out hb1); clear hb1)
    go_ret2
    exact ⟨by rw [HV.out]; rfl, HB1.out⟩
  · have HV := Lib.hid (show R = (escS (strOf t), 0) by rw [HR.out]; unfold rstG; rw [if_neg (by decide), if_neg (by decide)])
    rw [show ((kdOf 2 : Nat) : Int) = 1 from rfl]
    generalize escS (strOf t) = S at HV HX
    go_enter Tryz.func51, Tryz.ntmps51
    go_wp2_with (go_at_call 91; (with_reducible refine HX.out.mono ?_); rintro e w1 ⟨rfl, hb1⟩; have HB1 := Lib.hid (below_next HB0.out hb1); clear hb1)
    go_ret2
    exact ⟨by rw [HV.out]; rfl, HB1.out⟩
  · have HV := Lib.hid (show R = (fmtV n, chkN n) by rw [HR.out]; unfold rstG; rw [if_pos rfl])
    rw [show ((kdOf 4 : Nat) : Int) = 2 from rfl]
    generalize fmtV n = S at HV HF
    generalize chkN n = E at HV HF
    go_enter Tryz.func51, Tryz.ntmps51
    go_wp2_with (go_at_call 89; (with_reducible refine HF.out.mono ?_); rintro e w1 ⟨rfl, hb1⟩; have HB1 := Lib.hid (below_next HB0.out hb1); clear hb1)
    go_ret2
    exact ⟨by rw [HV.out]; rfl, HB1.out⟩
  · have HV := Lib.hid (show R = ((⟨(hexL t).toArray⟩ : ByteArray), 0) by rw [HR.out]; unfold rstG; rw [if_neg (by decide), if_pos rfl])
    rw [show ((kdOf 7 : Nat) : Int) = 3 from rfl]
    generalize (⟨(hexL t).toArray⟩ : ByteArray) = S at HV HH
    go_enter Tryz.func51, Tryz.ntmps51
    go_wp2_with (go_at_call 90; (with_reducible refine HH.out.mono ?_); rintro e w1 ⟨rfl, hb1⟩; have HB1 := Lib.hid (below_next HB0.out hb1); clear hb1)
    go_ret2
    exact ⟨by rw [HV.out]; rfl, HB1.out⟩
theorem fmtG_rst {k : Int} (hk : k = 1 ∨ k = 2 ∨ k = 4 ∨ k = 7) (t : List UInt8) (n : Nm) : fmtG k t n = if (rstG k t n).2 = 0 then (kdW (kdOf k) ++ (rstG k t n).1, 0) else (⟨#[]⟩, (rstG k t n).2) := by
  rcases hk with rfl | rfl | rfl | rfl
  · have e : rstG 1 t n = (escS (strOf t), 0) := by unfold rstG; rw [if_neg (by decide), if_neg (by decide)]
    rw [e, if_pos rfl]; unfold fmtG; rw [if_pos rfl]; rfl
  · have e : rstG 2 t n = (escS (strOf t), 0) := by unfold rstG; rw [if_neg (by decide), if_neg (by decide)]
    rw [e, if_pos rfl]; unfold fmtG; rw [if_neg (by decide), if_pos rfl]; rfl
  · have e : rstG 4 t n = (fmtV n, chkN n) := by unfold rstG; rw [if_pos rfl]
    rw [e]; unfold fmtG; rw [if_neg (by decide), if_neg (by decide), if_neg (by decide), if_pos rfl]
    by_cases hz : chkN n = 0
    · have hfv : fmtV n = fmtN n := by unfold fmtV; rw [if_pos hz]
      rw [if_pos hz, if_pos hz, hfv]; rfl
    · rw [if_neg hz, if_neg hz]
  · have e : rstG 7 t n = (⟨(hexL t).toArray⟩, 0) := by unfold rstG; rw [if_neg (by decide), if_pos rfl]
    rw [e, if_pos rfl]; unfold fmtG; rw [if_neg (by decide), if_neg (by decide), if_pos rfl]; rfl
theorem rstG_len {k : Int} (hk : k = 1 ∨ k = 2 ∨ k = 4 ∨ k = 7) {t : List UInt8} {n : Nm} (ht : t.length ≤ 150000) (h2 : ∀ r ∈ n, ∀ x ∈ r, x.1.size ≤ 200000) (h0 : (rstG k t n).2 = 0) : (rstG k t n).1.size ≤ 9000000 := by
  have hez := escS_size (strOf t)
  rw [strOf_size] at hez
  rcases hk with rfl | rfl | rfl | rfl
  · rw [show rstG 1 t n = (escS (strOf t), 0) by unfold rstG; rw [if_neg (by decide), if_neg (by decide)]]
    show (escS (strOf t)).size ≤ _; omega
  · rw [show rstG 2 t n = (escS (strOf t), 0) by unfold rstG; rw [if_neg (by decide), if_neg (by decide)]]
    show (escS (strOf t)).size ≤ _; omega
  · have e : rstG 4 t n = (fmtV n, chkN n) := by unfold rstG; rw [if_pos rfl]
    rw [e] at h0 ⊢
    have hz : chkN n = 0 := h0
    have hfv : fmtV n = fmtN n := by unfold fmtV; rw [if_pos hz]
    show (fmtV n).size ≤ _
    rw [hfv]
    exact Nat.le_trans (fmtN_bound hz h2) (by omega)
  · rw [show rstG 7 t n = (⟨(hexL t).toArray⟩, 0) by unfold rstG; rw [if_neg (by decide), if_pos rfl]]
    show (hexL t).toArray.size ≤ _
    rw [List.size_toArray, hexL_length]; omega
set_option maxRecDepth 100000 in
set_option maxHeartbeats 4000000 in
theorem gfmt_core (a0 : Option Addr) (c m : Nat) (k : Int) (t : List UInt8) (n : Nm) (w : World) (h : RLies w a0 n) (hn : m = n.length) (ht : t.length ≤ 150000) (hs : SmallN n) (h2 : ∀ r ∈ n, ∀ x ∈ r, x.1.size ≤ 200000) (hT : Tab w) (hS : ShT w) (hK : KdT w) :
    Calls Tryz.prog 25 #[.agg #[.int .i64 k, .string (strOf t), .slice a0 m c]] w fun e w' => e = .returned (.tuple #[.string (fmtG k t n).1, .int .i64 (((fmtG k t n).2 : Nat) : Int)]) ∧ Below w.heap.size w w' := by
  obtain ⟨W0, hW0⟩ : ∃ W0, W0 = w.alloc (.cells #[.int .i64 k, .string (strOf t), .slice a0 m c] 32) := ⟨_, rfl⟩
  have hwr : w.alloc (.cells #[.int .i64 k, .string (strOf t), .slice a0 m c] 32) = W0 := hW0.symm
  have hb0 : Below w.heap.size w W0 := by rw [hW0]; exact belowNew w _
  have hq0 : W0.heap[w.heap.size]? = some (.cells #[.int .i64 k, .string (strOf t), .slice a0 m c] 32 (0, 0)) := by rw [hW0]; exact heap_alloc_new w _
  obtain ⟨c0, c1, c2, l0⟩ := three_facts hq0
  have HB0 := Lib.hid hb0
  have HK := Lib.hid (gkind_any k (strOf t) a0 m c W0 (hK.below hb0))
  have HKC := Lib.hid (fun W (hb : Below w.heap.size w W) => (hK.below hb).cells)
  obtain ⟨R, hR⟩ : ∃ R, R = fmtG k t n := ⟨_, rfl⟩
  rw [← hR]
  have HR := Lib.hid hR
  by_cases hk : k = 1 ∨ k = 2 ∨ k = 4 ∨ k = 7
  · have HFR := Lib.hid (fun W (hb : Below w.heap.size w W) => frest_core a0 c m k t n W hk (h.below hb) hn ht hs h2 (hT.below hb) (hS.below hb))
    have hrs := hR.trans (fmtG_rst hk t n)
    have hrl := fun h0 => rstG_len hk (t := t) (n := n) ht h2 h0
    generalize rstG k t n = G at HFR hrs hrl
    obtain ⟨S, E⟩ := G
    simp only at HFR hrs hrl
    clear h hn ht hs h2 hT hS hK hW0 hb0 hq0 hR
    by_cases hz : E = 0
    · subst hz
      have HV := Lib.hid (hrs.trans (if_pos rfl))
      have hsz := hrl rfl
      clear hrs hrl
      rcases hk with rfl | rfl | rfl | rfl
      · rw [show kdW (kdOf 1) = strOf [109, 97, 105, 108, 58] from rfl] at HV
        have hcat : ∀ w, (Op.stringOp .add ⟨#[109, 97, 105, 108, 58]⟩ S).run Tryz.prog w = .ok (.string (strOf [109, 97, 105, 108, 58] ++ S)) w := fun w => cat_any (strOf [109, 97, 105, 108, 58]) _ (by rw [strOf_size]; simp only [List.length_cons, List.length_nil]; omega) w
        rw [show ((kdOf 1 : Nat) : Int) = 0 from rfl] at HK HFR
        clear hsz
        go_enter Tryz.func25, Tryz.ntmps25
        go_wp2_with (first
          | (go_at_call 50; (with_reducible refine HK.out.mono ?_); rintro e w1 ⟨rfl, hb1⟩; have HB1 := Lib.hid (below_next HB0.out hb1); have d0 := (hb1.cell (p := ⟨w.heap.size, 0, none⟩) l0).trans c0; have d1 := (hb1.cell (p := ⟨w.heap.size, 1, none⟩) l0).trans c1; have d2 := (hb1.cell (p := ⟨w.heap.size, 2, none⟩) l0).trans c2; clear hb1)
          | (go_at_call 51; (with_reducible refine (HFR.out _ HB1.out).mono ?_); rintro e w2 ⟨rfl, hb2⟩; have HB2 := Lib.hid (below_next HB1.out hb2); obtain ⟨k0, k1, k2, k3, k4, k5, k6, k7, k8, k9, k10, k11⟩ := HKC.out _ HB2.out; clear hb2))
        go_ret2
        exact ⟨by rw [HV.out]; rfl, HB2.out⟩
      · rw [show kdW (kdOf 2) = strOf [100, 110, 115, 58] from rfl] at HV
        have hcat : ∀ w, (Op.stringOp .add ⟨#[100, 110, 115, 58]⟩ S).run Tryz.prog w = .ok (.string (strOf [100, 110, 115, 58] ++ S)) w := fun w => cat_any (strOf [100, 110, 115, 58]) _ (by rw [strOf_size]; simp only [List.length_cons, List.length_nil]; omega) w
        rw [show ((kdOf 2 : Nat) : Int) = 1 from rfl] at HK HFR
        clear hsz
        go_enter Tryz.func25, Tryz.ntmps25
        go_wp2_with (first
          | (go_at_call 50; (with_reducible refine HK.out.mono ?_); rintro e w1 ⟨rfl, hb1⟩; have HB1 := Lib.hid (below_next HB0.out hb1); have d0 := (hb1.cell (p := ⟨w.heap.size, 0, none⟩) l0).trans c0; have d1 := (hb1.cell (p := ⟨w.heap.size, 1, none⟩) l0).trans c1; have d2 := (hb1.cell (p := ⟨w.heap.size, 2, none⟩) l0).trans c2; clear hb1)
          | (go_at_call 51; (with_reducible refine (HFR.out _ HB1.out).mono ?_); rintro e w2 ⟨rfl, hb2⟩; have HB2 := Lib.hid (below_next HB1.out hb2); obtain ⟨k0, k1, k2, k3, k4, k5, k6, k7, k8, k9, k10, k11⟩ := HKC.out _ HB2.out; clear hb2))
        go_ret2
        exact ⟨by rw [HV.out]; rfl, HB2.out⟩
      · rw [show kdW (kdOf 4) = strOf [100, 105, 114, 58] from rfl] at HV
        have hcat : ∀ w, (Op.stringOp .add ⟨#[100, 105, 114, 58]⟩ S).run Tryz.prog w = .ok (.string (strOf [100, 105, 114, 58] ++ S)) w := fun w => cat_any (strOf [100, 105, 114, 58]) _ (by rw [strOf_size]; simp only [List.length_cons, List.length_nil]; omega) w
        rw [show ((kdOf 4 : Nat) : Int) = 2 from rfl] at HK HFR
        clear hsz
        go_enter Tryz.func25, Tryz.ntmps25
        go_wp2_with (first
          | (go_at_call 50; (with_reducible refine HK.out.mono ?_); rintro e w1 ⟨rfl, hb1⟩; have HB1 := Lib.hid (below_next HB0.out hb1); have d0 := (hb1.cell (p := ⟨w.heap.size, 0, none⟩) l0).trans c0; have d1 := (hb1.cell (p := ⟨w.heap.size, 1, none⟩) l0).trans c1; have d2 := (hb1.cell (p := ⟨w.heap.size, 2, none⟩) l0).trans c2; clear hb1)
          | (go_at_call 51; (with_reducible refine (HFR.out _ HB1.out).mono ?_); rintro e w2 ⟨rfl, hb2⟩; have HB2 := Lib.hid (below_next HB1.out hb2); obtain ⟨k0, k1, k2, k3, k4, k5, k6, k7, k8, k9, k10, k11⟩ := HKC.out _ HB2.out; clear hb2))
        go_ret2
        exact ⟨by rw [HV.out]; rfl, HB2.out⟩
      · rw [show kdW (kdOf 7) = strOf [105, 112, 58] from rfl] at HV
        have hcat : ∀ w, (Op.stringOp .add ⟨#[105, 112, 58]⟩ S).run Tryz.prog w = .ok (.string (strOf [105, 112, 58] ++ S)) w := fun w => cat_any (strOf [105, 112, 58]) _ (by rw [strOf_size]; simp only [List.length_cons, List.length_nil]; omega) w
        rw [show ((kdOf 7 : Nat) : Int) = 3 from rfl] at HK HFR
        clear hsz
        go_enter Tryz.func25, Tryz.ntmps25
        go_wp2_with (first
          | (go_at_call 50; (with_reducible refine HK.out.mono ?_); rintro e w1 ⟨rfl, hb1⟩; have HB1 := Lib.hid (below_next HB0.out hb1); have d0 := (hb1.cell (p := ⟨w.heap.size, 0, none⟩) l0).trans c0; have d1 := (hb1.cell (p := ⟨w.heap.size, 1, none⟩) l0).trans c1; have d2 := (hb1.cell (p := ⟨w.heap.size, 2, none⟩) l0).trans c2; clear hb1)
          | (go_at_call 51; (with_reducible refine (HFR.out _ HB1.out).mono ?_); rintro e w2 ⟨rfl, hb2⟩; have HB2 := Lib.hid (below_next HB1.out hb2); obtain ⟨k0, k1, k2, k3, k4, k5, k6, k7, k8, k9, k10, k11⟩ := HKC.out _ HB2.out; clear hb2))
        go_ret2
        exact ⟨by rw [HV.out]; rfl, HB2.out⟩
    · have hz1 := errno_ne hz
      have HV := Lib.hid (hrs.trans (if_neg hz))
      have hz4 : (((kdOf k : Nat) : Int) == 4) = false := by rcases hk with rfl | rfl | rfl | rfl <;> rfl
      generalize ((kdOf k : Nat) : Int) = z at HK HFR hz4
      clear hrs hrl hz hk
      go_enter Tryz.func25, Tryz.ntmps25
      go_wp2_with (first
        | (go_at_call 50; (with_reducible refine HK.out.mono ?_); rintro e w1 ⟨rfl, hb1⟩; have HB1 := Lib.hid (below_next HB0.out hb1); have d0 := (hb1.cell (p := ⟨w.heap.size, 0, none⟩) l0).trans c0; have d1 := (hb1.cell (p := ⟨w.heap.size, 1, none⟩) l0).trans c1; have d2 := (hb1.cell (p := ⟨w.heap.size, 2, none⟩) l0).trans c2; clear hb1)
        | (go_at_call 51; (with_reducible refine (HFR.out _ HB1.out).mono ?_); rintro e w2 ⟨rfl, hb2⟩; have HB2 := Lib.hid (below_next HB1.out hb2); obtain ⟨k0, k1, k2, k3, k4, k5, k6, k7, k8, k9, k10, k11⟩ := HKC.out _ HB2.out; clear hb2))
      go_ret2
      exact ⟨by rw [HV.out]; rfl, HB2.out⟩
  · have hk' : k ≠ 1 ∧ k ≠ 2 ∧ k ≠ 4 ∧ k ≠ 7 := by omega
    have HV := Lib.hid (show R = (⟨#[]⟩, 14) by rw [HR.out]; unfold fmtG; rw [if_neg hk'.1, if_neg hk'.2.1, if_neg hk'.2.2.2, if_neg hk'.2.2.1])
    rw [kdOf_no hk', show (((4 : Nat)) : Int) = 4 from rfl] at HK
    clear h hn ht hs h2 hT hS hK hW0 hb0 hq0 hR hk hk' 
    go_enter Tryz.func25, Tryz.ntmps25
    go_wp2_with (go_at_call 50; (with_reducible refine HK.out.mono ?_); rintro e w1 ⟨rfl, hb1⟩; have HB1 := Lib.hid (below_next HB0.out hb1); have d0 := (hb1.cell (p := ⟨w.heap.size, 0, none⟩) l0).trans c0; have d1 := (hb1.cell (p := ⟨w.heap.size, 1, none⟩) l0).trans c1; have d2 := (hb1.cell (p := ⟨w.heap.size, 2, none⟩) l0).trans c2; clear hb1)
    go_ret2
    exact ⟨by rw [HV.out]; rfl, HB1.out⟩
end Go.Proofs.YtflpajbcomhkpaaGreatDoor
namespace Go.Proofs.YtflpajbcomhkpaaGreatDoor
open Go.RowKit

theorem encG_zero {con : Bool} {k : Int} {t : List UInt8} {n : Nm} (h : chkG con k t n = 0) : (k = 4 ∧ t = [] ∧ chkN n = 0) ∨ (k ≠ 4 ∧ okT k con t = true ∧ n = [] ∧ (k = 1 ∨ k = 2 ∨ k = 7)) := by
  unfold chkG at h
  split at h
  · rename_i h4
    split at h
    · rename_i h0; exact .inl ⟨h4, h0, h⟩
    · cases h
  · rename_i h4
    split at h
    · rename_i h0
      refine .inr ⟨h4, h0.1, h0.2, ?_⟩
      rcases kind_or k with rfl | rfl | rfl | rfl | hk
      · exact .inl rfl
      · exact .inr (.inl rfl)
      · exact absurd rfl h4
      · exact .inr (.inr rfl)
      · have := okT_no hk con t; rw [this] at h0; cases h0.1
    · cases h

end Go.Proofs.YtflpajbcomhkpaaGreatDoor
namespace Go.Proofs.YtflpajbcomhkpaaGreatDoor
open Go.RowKit

set_option maxRecDepth 100000 in
set_option maxHeartbeats 4000000 in
theorem exactG_core (a0 b0 : Option Addr) (c d m : Nat) (l : List Gn) (w : World) (h1 : GLies w a0 l) (h2 : GLies w b0 l) (hn : m = l.length) (hm : m ≤ 1000000) (hq : ∀ i, i < l.length → SmallN (l.getD i noG).2.2) :
    Calls Tryz.prog 17 #[.slice a0 m c, .slice b0 m d] w fun e w' => e = .returned (.bool true) ∧ Below w.heap.size w w' := by
  have H1 := Lib.hid h1
  have H2 := Lib.hid h2
  have HN := Lib.hid hn
  have HQ := Lib.hid hq
  clear h1 h2 hn hq
  go_enter Tryz.func17, Tryz.ntmps17
  go_wp2_with fail
  go_loopw [13] (fun i wr => ∃ k : Nat, k ≤ m ∧ i = .int .i64 k ∧ Below w.heap.size w wr) (fun i _ => m - (intOf i).toNat)
  case atStart => exact ⟨0, Nat.zero_le _, rfl, Below.refl _ _⟩
  case round =>
    obtain ⟨wz, hwz⟩ : ∃ wz, wz = wr := ⟨_, rfl⟩
    subst hwz
    obtain ⟨k, hk, rfl, hb⟩ := hrel
    have HB := Lib.hid hb
    clear hb
    by_cases hlt : k < m
    · have hd : decide ((k : Int) < (m : Int)) = true := by simp; omega
      obtain ⟨b, o, rfl, hb, e0, e1, a1, c1, e2, hc1, hL1⟩ := (H1.out.below HB.out).at k (by rw [← HN.out]; exact hlt)
      obtain ⟨b', o', rfl, hb', e0', e1', a1', c1', e2', hc1', hL1'⟩ := (H2.out.below HB.out).at k (by rw [← HN.out]; exact hlt)
      have hs := HQ.out k (by rw [← HN.out]; exact hlt)
      generalize l.getD k noG = G at e0 e1 e2 hL1 hc1 e0' e1' e2' hL1' hc1' hs
      obtain ⟨q, t, n⟩ := G
      simp only at e0 e1 e2 hL1 hc1 e0' e1' e2' hL1' hc1' hs
      obtain ⟨N, hNn⟩ : ∃ N, N = n.length := ⟨_, rfl⟩
      rw [← hNn] at e2 e2'
      have HX := Lib.hid (fun W (hb : Below wz.heap.size wz W) => exact_core a1 a1' c1 c1' N n W (hL1.below hb) (hL1'.below hb) hNn hs)
      clear hb hb' hL1 hL1' hc1 hc1' hs hNn
      have f1 : ∀ d os, _ := fun d os => Calls.regrown_of (HX.out (Sort.grow (redrawn wz d) os) (below_regrown wz d os))
      have g0 := cell_regrown e0
      have g1 := cell_regrown e1
      have g2 := cell_regrown e2
      have g0' := cell_regrown e0'
      have g1' := cell_regrown e1'
      have g2' := cell_regrown e2'
      clear e0 e1 e2 e0' e1' e2'
      go_wp2_with fail
      refine wp_region_quiet_below (by kernel_rfl) (by kernel_rfl) ?_
      repeat (go_big_quiet_step (with_reducible first | exact f1 _ _))
      refine wpQuiet_nil ?_
      intro _ hw'
      obtain ⟨⟨dq, osq⟩, hw''⟩ := hw'
      subst hw''
      have HBR := Lib.hid (HB.out.trans ((below_regrown wz dq osq).mono HB.out.size))
      clear f1 g0 g1 g2 g0' g1' g2'
      go_wp2_with fail
      go_roundw
      case rel => exact ⟨k + 1, by omega, by go_num, HBR.out⟩
      case measure => simp [intOf]; omega
    · have hd : decide ((k : Int) < (m : Int)) = false := by simp; omega
      obtain rfl : k = m := by omega
      go_wp2_with fail
      go_ret
      exact ⟨rfl, HB.out⟩
/-- What short answers. -/
def ShortedG (g : Gn) (e : Ending) : Prop := (e = .returned (.bool true) ∧ ShG g) ∨ e = .returned (.bool false)
set_option maxRecDepth 100000 in
set_option maxHeartbeats 4000000 in
theorem shortG_core (a0 : Option Addr) (c m : Nat) (k : Int) (t : List UInt8) (n : Nm) (w : World) (h : RLies w a0 n) (hn : m = n.length) (hc : m ≤ c) (hq : BigG (k, t, n)) :
    Calls Tryz.prog 24 #[.agg #[.int .i64 k, .string (strOf t), .slice a0 m c]] w fun e w' => ShortedG (k, t, n) e ∧ Below w.heap.size w w' := by
  obtain ⟨W, hW⟩ : ∃ W, W = (w.alloc (.cells #[.int .i64 k, .string (strOf t), .slice a0 m c] 32)).alloc (.cells #[.int .i64 k, .string (strOf t), .slice a0 m c] 32) := ⟨_, rfl⟩
  have hb : Below w.heap.size w W := by rw [hW]; exact belowTwo w _ _
  have hg : GLies W (some ⟨w.heap.size + 1, 0, none⟩) [(k, t, n)] := by
    subst hn
    refine glies_one (T := 32) ?_ hc (h.below hb)
    have h1 := heap_alloc_new (w.alloc (.cells #[.int .i64 k, .string (strOf t), .slice a0 n.length c] 32)) (.cells #[.int .i64 k, .string (strOf t), .slice a0 n.length c] 32)
    rw [show (w.alloc (.cells #[.int .i64 k, .string (strOf t), .slice a0 n.length c] 32)).heap.size = w.heap.size + 1 by simp, ← hW] at h1
    exact h1
  have HS := Lib.hid (shorts_any (some ⟨w.heap.size + 1, 0, none⟩) 1 1 [(k, t, n)] W hg rfl (by decide) (fun i hi => by
    obtain rfl : i = 0 := by simp at hi; omega
    exact hq))
  have HB := Lib.hid hb
  have HWE := hW.symm
  clear h hn hc hq hW hb hg
  go_enter Tryz.func24, Tryz.ntmps24
  go_wp2_with (go_at_call 18; (with_reducible refine HS.out.mono ?_); rintro e w1 ⟨hS, hb1⟩; have HB1 := Lib.hid (below_next HB.out hb1); clear hb1; rcases hS with ⟨rfl, _, hS⟩ | rfl)
  · go_ret
    exact ⟨.inl ⟨rfl, hS 0 Nat.one_pos⟩, HB1.out⟩
  · go_ret
    exact ⟨.inr rfl, HB1.out⟩
end Go.Proofs.YtflpajbcomhkpaaGreatDoor
namespace Go.Proofs.YtflpajbcomhkpaaGreatDoor
open Go.RowKit


theorem box_two (w : World) (x0 x1 x2 y0 y1 y2 : Value) (T : TypeId) :
    ((w.alloc (.cells #[x0, x1, x2] T)).alloc (.cells #[y0, y1, y2] T)).cell? ⟨w.heap.size, 0, none⟩ = some x0 ∧ ((w.alloc (.cells #[x0, x1, x2] T)).alloc (.cells #[y0, y1, y2] T)).cell? ⟨w.heap.size, 1, none⟩ = some x1 ∧ ((w.alloc (.cells #[x0, x1, x2] T)).alloc (.cells #[y0, y1, y2] T)).cell? ⟨w.heap.size, 2, none⟩ = some x2 ∧
    ((w.alloc (.cells #[x0, x1, x2] T)).alloc (.cells #[y0, y1, y2] T)).cell? ⟨w.heap.size + 1, 0, none⟩ = some y0 ∧ ((w.alloc (.cells #[x0, x1, x2] T)).alloc (.cells #[y0, y1, y2] T)).cell? ⟨w.heap.size + 1, 1, none⟩ = some y1 ∧ ((w.alloc (.cells #[x0, x1, x2] T)).alloc (.cells #[y0, y1, y2] T)).cell? ⟨w.heap.size + 1, 2, none⟩ = some y2 ∧
    w.heap.size + 1 < ((w.alloc (.cells #[x0, x1, x2] T)).alloc (.cells #[y0, y1, y2] T)).heap.size := by
  have h1 := heap_alloc_new (w.alloc (.cells #[x0, x1, x2] T)) (.cells #[y0, y1, y2] T)
  rw [show (w.alloc (.cells #[x0, x1, x2] T)).heap.size = w.heap.size + 1 by simp] at h1
  obtain ⟨f0, f1, f2, f3⟩ := three_facts h1
  obtain ⟨g0, g1, g2, g3⟩ := three_facts (heap_alloc_new w (.cells #[x0, x1, x2] T))
  exact ⟨(World.cell?_alloc_old _ _ _ (Nat.ne_of_lt g3)).trans g0, (World.cell?_alloc_old _ _ _ (Nat.ne_of_lt g3)).trans g1, (World.cell?_alloc_old _ _ _ (Nat.ne_of_lt g3)).trans g2, f0, f1, f2, f3⟩

end Go.Proofs.YtflpajbcomhkpaaGreatDoor
namespace Go.Proofs.YtflpajbcomhkpaaGreatDoor
open Go.RowKit

def PEnc : Prop := ∀ (a0 : Option Addr) (c m : Nat) (k : Int) (t : List UInt8) (n : Nm) (con : Bool) (w : World), RLies w a0 n → m = n.length → t.length ≤ 150000 → SmallN n → Tab w → Mk w →
  Calls Tryz.prog 30 #[.agg #[.int .i64 k, .string (strOf t), .slice a0 m c], .bool con] w fun e w' => e = .returned (.tuple #[.string (encG con k t n), .int .i64 ((chkG con k t n : Nat) : Int)]) ∧ Below w.heap.size w w'
def PMatch : Prop := ∀ (a0 b0 : Option Addr) (c d n m : Nat) (k l : Int) (t u : List UInt8) (r s : Nm) (w : World), RLies w a0 r → RLies w b0 s → n = r.length → m = s.length → n ≤ c → t.length ≤ 150000 → u.length ≤ 150000 → SmallN r → SmallN s → Mk w →
  Calls Tryz.prog 33 #[.agg #[.int .i64 k, .string (strOf t), .slice a0 n c], .agg #[.int .i64 l, .string (strOf u), .slice b0 m d]] w fun e w' => e = .returned (.bool (matchG k t r l u s)) ∧ Below w.heap.size w w'
theorem smallN_nil : SmallN [] := ⟨by decide, fun i hi => absurd hi (Nat.not_lt_zero _)⟩
set_option maxRecDepth 100000 in
theorem enc_ex : chkG false 2 [97, 46, 98] [] = 0 ∧ encG false 2 [97, 46, 98] [] = ⟨#[130, 3, 97, 46, 98]⟩ := by
  have h : chkG false 2 [97, 46, 98] [] = 0 := by
    rw [chkG_not (by decide), if_pos ⟨by rw [okT_2]; decide +kernel, rfl⟩]
  refine ⟨h, ?_⟩
  unfold encG
  rw [if_pos h, if_neg (by decide)]
  decide +kernel
set_option maxRecDepth 100000 in
theorem match_ex : matchG 2 [42, 46, 101, 120, 97, 109, 112, 108, 101, 46, 111, 114, 103] [] 2 [119, 119, 119, 46, 101, 120, 97, 109, 112, 108, 101, 46, 111, 114, 103] [] = true := by
  unfold matchG
  rw [if_pos ⟨rfl, rfl⟩]
  decide +kernel
set_option maxRecDepth 100000 in
set_option maxHeartbeats 1000000 in
theorem gawake_any (hE : PEnc) (hM : PMatch) (w : World) (hT : Tab w) (hm : Mk w) :
    Calls Tryz.prog 7 #[] w fun e w' => e = .returned (.bool true) ∧ Below w.heap.size w w' := by
  have H1 := Lib.hid (show Calls Tryz.prog 30 #[.agg #[.int .i64 2, .string ⟨#[97, 46, 98]⟩, .slice none 0 0], .bool false] w fun e w' => e = .returned (.tuple #[.string ⟨#[130, 3, 97, 46, 98]⟩, .int .i64 0]) ∧ Below w.heap.size w w' by
    have := hE none 0 0 2 [97, 46, 98] [] false w (RLies.nil _ _) rfl (by decide) smallN_nil hT hm
    rw [enc_ex.1, enc_ex.2] at this
    exact this)
  have H2 := Lib.hid (fun W (hb : Below w.heap.size w W) => show Calls Tryz.prog 33 #[.agg #[.int .i64 2, .string ⟨#[42, 46, 101, 120, 97, 109, 112, 108, 101, 46, 111, 114, 103]⟩, .slice none 0 0], .agg #[.int .i64 2, .string ⟨#[119, 119, 119, 46, 101, 120, 97, 109, 112, 108, 101, 46, 111, 114, 103]⟩, .slice none 0 0]] W fun e w' => e = .returned (.bool true) ∧ Below W.heap.size W w' by
    have := hM none none 0 0 0 0 2 2 [42, 46, 101, 120, 97, 109, 112, 108, 101, 46, 111, 114, 103] [119, 119, 119, 46, 101, 120, 97, 109, 112, 108, 101, 46, 111, 114, 103] [] [] W (RLies.nil _ _) (RLies.nil _ _) rfl rfl (Nat.le_refl _) (by decide) (by decide) smallN_nil smallN_nil (hm.below hb)
    rw [match_ex] at this
    exact this)
  have heq : ((⟨#[130, 3, 97, 46, 98]⟩ : ByteArray).toList == [130, 3, 97, 46, 98]) = true := beq_iff_eq.2 (toList_of [130, 3, 97, 46, 98])
  clear hE hM hT hm
  go_enter Tryz.func7, Tryz.ntmps7
  go_wp2_with (first
    | (go_at_call 30; (with_reducible refine H1.out.mono ?_); rintro e w1 ⟨rfl, hb1⟩; have HB1 := Lib.hid hb1; clear hb1)
    | (go_at_call 33; (with_reducible refine (H2.out _ HB1.out).mono ?_); rintro e w2 ⟨rfl, hb2⟩; have HB2 := Lib.hid (below_next HB1.out hb2); clear hb2))
  go_ret
  exact ⟨rfl, HB2.out⟩
end Go.Proofs.YtflpajbcomhkpaaGreatDoor
namespace Go.Proofs.YtflpajbcomhkpaaGreatDoor
open Go.RowKit

theorem ShG.small {g : Gn} (h : ShG g) : SmallN g.2.2 := ShN.small h.2
theorem madeN_small {n : Nm} (h : MadeN n) : SmallN n := small_of_sp (spN_of_made h) (by omega)
/-- A row of two general names. -/
theorem glies_two {w : World} {g : Nat} {k q : Int} {t u : List UInt8} {n m : Nm} {a b : Option Addr} {c d : Nat} {T : TypeId} (h : w.heap[g]? = some (.cells #[.int .i64 k, .string (strOf t), .slice a n.length c, .int .i64 q, .string (strOf u), .slice b m.length d] T (0, 0)))
    (hc : n.length ≤ c) (hr : RLies w a n) (hd : m.length ≤ d) (hs : RLies w b m) : GLies w (some ⟨g, 0, none⟩) [(k, t, n), (q, u, m)] := by
  have cell : ∀ j v, #[Value.int .i64 k, .string (strOf t), .slice a n.length c, .int .i64 q, .string (strOf u), .slice b m.length d][j]? = some v → w.cell? ⟨g, j, none⟩ = some v := fun j v hv => by
    rw [Lib.cell_of_heap h]; exact hv
  refine .inr ⟨g, 0, rfl, fun i hi => ?_⟩
  have hi2 : i < 2 := hi
  obtain rfl | rfl : i = 0 ∨ i = 1 := by omega
  · exact ⟨cell 0 _ rfl, cell 1 _ rfl, a, c, cell 2 _ rfl, hc, hr⟩
  · exact ⟨cell 3 _ rfl, cell 4 _ rfl, b, d, cell 5 _ rfl, hd, hs⟩
end Go.Proofs.YtflpajbcomhkpaaGreatDoor
namespace Go.Proofs.YtflpajbcomhkpaaGreatDoor
open Go.RowKit

end Go.Proofs.YtflpajbcomhkpaaGreatDoor
