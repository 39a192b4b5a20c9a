/-
  The contract of decodeAttribute: what an element says of an attribute, or the error.
  The contract of decodeRelative: the attributes of an element, or the first error.
  The contract of decodeRelative: the attributes of an element, or the first error.
  The contract of Parse: the name that a text denotes, or the error.
-/
import Derived.Test.YtflpajbcomhkpaaGreatDoorUbb
import Derived.Test.YtflpajbcomhkpaaGreatDoorUal
namespace Go.Proofs.YtflpajbcomhkpaaGreatDoor
open Go.RowKit

theorem lst_mem : ∀ (n : Nat) (b : ByteArray), b.size ≤ n → ∀ e ∈ (lst b).1, e.2.1.size ≤ b.size
  | 0, b, h, e, he => by rw [lst_nil (by omega)] at he; cases he
  | n + 1, b, h, e, he => by
    by_cases h0 : b.size = 0
    · rw [lst_nil h0] at he; cases he
    · by_cases hr : rdErr b = 0
      · rw [lst_step h0 hr] at he
        have h1 := rdRest_size hr
        have h2 := rdContent_size hr
        split at he
        · rcases List.mem_cons.1 he with rfl | he
          · exact Nat.le_of_lt h2
          · have := lst_mem n (rdRest b) (by omega) e he
            omega
        · cases he
      · rw [lst_bad h0 hr] at he; cases he
theorem atRes0 {fn : Func} {p u : Tmp} (h : fn.results = #[.cell p 103, .tmp u]) (tmps : Array Value) (w : World) (g : Nat) (x y z : Value)
    (hp : tmps.getD p undef = .pointer (some ⟨g, 0, none⟩)) (hg : w.heap[g]? = some (.cells #[x, y, z] 103 (0, 0))) :
    (results fn tmps).run Tryz.prog w = .ok (.tuple #[.agg #[x, y, z], tmps.getD u undef]) w :=
  results_cell_row2 h tmps w g 103 #[x, y, z] (0, 0) _ hp hg Tryz.underlying103 rfl atSize
theorem ElAt.but {w w' : World} {p : Nat} {a : Option Addr} {l : List El} (h : ElAt w a l) (hb : But p w w') (hne : ∀ x, a = some x → l ≠ [] → x.block ≠ p) : ElAt w' a l := by
  rcases h with h | ⟨b, o, rfl, h2⟩
  · exact .inl h
  · refine .inr ⟨b, o, rfl, fun i hi => ?_⟩
    have hn := hne _ rfl (fun e => by rw [e] at hi; exact absurd hi (Nat.not_lt_zero _))
    obtain ⟨c0, c1, c2⟩ := h2 i hi
    have hbk := hb.block b (block_lt c0) (by simpa using hn)
    exact ⟨(cell_same hbk _).trans c0, (cell_same hbk _).trans c1, (cell_same hbk _).trans c2⟩
theorem decL_tag {x : El} {r : List El} (h : x.1 ≠ 6) : decL (x :: r) = (5, noAt) := by unfold decL; simp [h]
theorem decL_oid {x : El} {r : List El} (h : x.1 = 6) (k : oidD x.2.1 = none) : decL (x :: r) = (11, noAt) := by unfold decL; simp [h, k]
theorem decL_one {x : El} {id : ByteArray} (h : x.1 = 6) (k : oidD x.2.1 = some id) : decL [x] = (3, noAt) := by unfold decL; simp [h, k]
theorem decL_kind {x y : El} {q : List El} {id : ByteArray} (h : x.1 = 6) (k : oidD x.2.1 = some id) (hy : strTag y.1 = false) : decL (x :: y :: q) = (5, noAt) := by unfold decL; simp [h, k, hy]
theorem decL_more {x y z : El} {q : List El} {id : ByteArray} (h : x.1 = 6) (k : oidD x.2.1 = some id) (hy : strTag y.1 = true) : decL (x :: y :: z :: q) = (4, noAt) := by unfold decL; simp [h, k, hy]
theorem decL_ok {x y : El} {id : ByteArray} (h : x.1 = 6) (k : oidD x.2.1 = some id) (hy : strTag y.1 = true) : decL [x, y] = (0, (id, (y.1 : Int), y.2.1)) := by unfold decL; simp [h, k, hy]
theorem strTag_iff (t : Nat) : strTag t = true ↔ t ∈ [12, 19, 22] := by simp [strTag, or_assoc]
/-- A world with a box and a row behind it. -/
theorem two_new (w : World) (v : Value) (T : TypeId) (cs : Array Value) (U : TypeId) : ∃ V, V = (w.alloc (.cells #[v] T)).alloc (.cells cs U) ∧ Below w.heap.size w V ∧ V.heap[w.heap.size]? = some (.cells #[v] T (0, 0)) ∧ V.heap[w.heap.size + 1]? = some (.cells cs U (0, 0)) ∧ V.heap.size = w.heap.size + 2 := by
  refine ⟨_, rfl, belowTwo w _ _, ((belowNew _ _).block _ (by simp)).trans (heap_alloc_new w _), ?_, by simp⟩
  have := heap_alloc_new (w.alloc (.cells #[v] T)) (.cells cs U)
  simpa using this

set_option maxRecDepth 100000 in
set_option maxHeartbeats 8000000 in
theorem deca_any (x : El) (w : World) (hx : x.2.1.size ≤ 1099511627) (hP : Pow10 w) :
    Calls Tryz.prog 194 #[elV x.1 x.2.1 x.2.2] w fun e w' => e = .returned (.tuple #[atV (decA x).2, .int .i64 (((decA x).1 : Nat) : Int)]) ∧ Below w.heap.size w w' := by
  obtain ⟨t, ct, rw0⟩ := x
  unfold elV
  simp only at hx ⊢
  obtain ⟨W0, hW0⟩ : ∃ W0, W0 = (w.alloc (.cells #[.int .i64 ((t : Nat) : Int), .string ct, .string rw0] 23)).alloc (.cells #[.string ⟨#[]⟩, .int .i64 0, .string ⟨#[]⟩] 103) := ⟨_, rfl⟩
  have hwe := hW0.symm
  have hb0 : Below w.heap.size w W0 := by rw [hW0]; exact belowTwo w _ _
  have q0 : W0.heap[w.heap.size]? = some (.cells #[.int .i64 ((t : Nat) : Int), .string ct, .string rw0] 23 (0, 0)) := by
    rw [hW0]; exact ((belowNew _ _).block _ (by simp)).trans (heap_alloc_new w _)
  have q1 : W0.heap[w.heap.size + 1]? = some (.cells #[.string ⟨#[]⟩, .int .i64 0, .string ⟨#[]⟩] 103 (0, 0)) := by
    have := heap_alloc_new (w.alloc (.cells #[.int .i64 ((t : Nat) : Int), .string ct, .string rw0] 23)) (.cells #[.string ⟨#[]⟩, .int .i64 0, .string ⟨#[]⟩] 103)
    rw [← hW0] at this
    simpa using this
  obtain ⟨e0, e1, e2, _, _, _, el⟩ := at_facts q0
  obtain ⟨r0, r1, r2, g0, g1, g2, rl⟩ := at_facts q1
  have HB0 := Lib.hid hb0
  have HQ1 := Lib.hid q1
  have HP := Lib.hid (hP.below hb0)
  clear hW0 hb0 q0 q1 hP
  by_cases ht : t = 48
  case neg =>
    have hd : ((t : Int) != 48) = true := by simp; omega
    have e : decA (t, ct, rw0) = (5, noAt) := if_pos ht
    rw [e]
    clear e ht
    go_enter Tryz.func194, Tryz.ntmps194
    go_wp2_with fail
    exact bodyPost_ret (atRes0 rfl _ _ _ _ _ _ rfl (at_set HQ1.out)) rfl ⟨rfl, at_below HB0.out (Nat.le_succ _)⟩
  have hd : ((t : Int) != 48) = false := by rw [ht]; rfl
  have e : decA (t, ct, rw0) = if (lst ct).2 ≠ 0 then ((lst ct).2, noAt) else decL (lst ct).1 := if_neg (by simpa using ht)
  obtain ⟨E, A, hEA⟩ : ∃ E A, decA (t, ct, rw0) = (E, A) := ⟨_, _, rfl⟩
  rw [hEA] at e ⊢
  have HRES := Lib.hid e
  have HLS := Lib.hid (list_any ct W0 (Nat.le_trans hx (by omega)))
  have HMEM := Lib.hid (fun z (hz : z ∈ (lst ct).1) => Nat.le_trans (lst_mem _ ct (Nat.le_refl _) z hz) hx)
  have hlen := lst_length ct _ (Nat.le_refl _)
  generalize lst ct = LE at HLS HMEM hlen HRES
  obtain ⟨l, er⟩ := LE
  simp only at HLS HMEM hlen HRES ⊢
  clear e ht hEA
  go_enter Tryz.func194, Tryz.ntmps194
  go_wp2_with fail
  refine HLS.out.mono ?_
  rintro e w1 ⟨v1, rfl, ho1, hb1⟩
  obtain ⟨a, c, rfl, hlc, hel, hbk⟩ := ElAt.of ho1
  have hqr := (hb1.block (w.heap.size + 1) rl).trans HQ1.out
  have HQR := Lib.hid hqr
  have HB1 := Lib.hid (below_next HB0.out hb1)
  have HP1 := Lib.hid (HP.out.below hb1)
  obtain ⟨s0, s1, s2, f0, f1, f2, sl⟩ := at_facts hqr
  have HEL := Lib.hid hel
  have HBK := Lib.hid hbk
  obtain ⟨n, hn⟩ : ∃ n, n = l.length := ⟨_, rfl⟩
  rw [← hn] at hlc hlen ⊢
  have HN := Lib.hid hn
  have hnz : n ≤ 1099511627 := by omega
  clear e0 e1 e2 el r0 r1 r2 g0 g1 g2 rl hwe ho1 hb1 hqr hel hbk hn hd
  obtain ⟨V1, hV1, hbV, qg, qt, hzV⟩ := two_new w1 (.slice a n c) 41 #[.int .i64 6] 3
  have hwg : w.heap.size + 1 < w1.heap.size := sl
  have HV1 := Lib.hid hV1
  clear hV1
  by_cases hz : er = 0
  case neg =>
    obtain ⟨rfl, rfl⟩ : E = er ∧ A = noAt := by have := HRES.out; rw [if_pos hz] at this; simpa using this
    have hz1 := errno_ne hz
    clear hz hbV qg qt hzV
    go_wp2_with fail
    exact bodyPost_ret (atRes0 rfl _ _ _ _ _ _ rfl (((belowNew _ _).block _ (Array.getElem?_eq_some_iff.1 (at_set HQR.out)).1).trans (at_set HQR.out))) rfl ⟨rfl, below_next (at_below HB1.out (Nat.le_succ _)) (belowNew _ _)⟩
  subst hz
  have HRE := Lib.hid (show (E, A) = decL l by have := HRES.out; rwa [if_neg (by simp)] at this)
  clear HRES
  go_wp2_with fail
  rw [← HV1.out]
  obtain ⟨gl, hgl⟩ : ∃ gl, gl = w1.heap.size := ⟨_, rfl⟩
  rw [← hgl] at qg qt hzV hwg hbV ⊢
  have HGL := Lib.hid hgl
  have HRV := Lib.hid (show V1.heap[w.heap.size + 1]? = _ from (hbV.block (w.heap.size + 1) hwg).trans HQR.out)
  have HBV1 := Lib.hid (show Below w.heap.size w V1 from HB1.out.trans (hbV.mono (Nat.le_of_lt (by omega))))
  have HELV := Lib.hid (HEL.out.below (by rw [← hgl]; exact hbV))
  have HPV := Lib.hid (HP1.out.below (by rw [← hgl]; exact hbV))
  have hqt0 := (one_facts qt).1
  have HQG := Lib.hid qg
  have HBVV := Lib.hid hbV
  have HQT := Lib.hid qt
  clear qg qt hbV s0 s1 s2 f0 f1 f2 sl hgl
  cases l with
  | nil =>
    obtain ⟨rfl, rfl⟩ : E = 3 ∧ A = noAt := by have := HRE.out; simpa [decL] using this
    obtain rfl : n = 0 := HN.out
    refine (nxt_empty gl a (some ⟨gl + 1, 0, none⟩) c 1 1 V1 HQG.out).mono ?_
    rintro e w2 ⟨rfl, hb2⟩
    have hrg := (hb2.block (w.heap.size + 1) (Array.getElem?_eq_some_iff.1 HRV.out).1).trans HRV.out
    obtain ⟨s0, s1, s2, f0, f1, f2, sl⟩ := at_facts ((belowNew w2 (.cells #[.int .i64 0, .string ⟨#[]⟩, .string ⟨#[]⟩] 23)).block (w.heap.size + 1) (Array.getElem?_eq_some_iff.1 hrg).1 |>.trans hrg)
    have HRF := Lib.hid ((belowNew w2 (.cells #[.int .i64 0, .string ⟨#[]⟩, .string ⟨#[]⟩] 23)).block (w.heap.size + 1) (Array.getElem?_eq_some_iff.1 hrg).1 |>.trans hrg)
    have HBF := Lib.hid (below_next (below_next HBV1.out hb2) (belowNew w2 (.cells #[.int .i64 0, .string ⟨#[]⟩, .string ⟨#[]⟩] 23)))
    clear hb2 hrg
    unfold noEl
    go_wp2_with fail
    exact bodyPost_ret (atRes0 rfl _ _ _ _ _ _ rfl (at_set HRF.out)) rfl ⟨rfl, at_below HBF.out (Nat.le_succ _)⟩
  | cons x r =>
    obtain ⟨b, o, rfl, hcl⟩ := HELV.out.resolve_left (by simp)
    have hb2 := HBK.out _ rfl (by simp)
    rw [← HGL.out] at hb2
    have hbg : b ≠ gl := by have := hb2.2; simp at this; omega
    have hn1 : 1 ≤ n := by have := HN.out; simp at this; omega
    obtain ⟨x0, x1, x2⟩ := hcl 0 (by simp)
    rw [Nat.zero_mul, Nat.add_zero] at x0 x1 x2
    rw [show (x :: r).getD 0 ((0 : Nat), (⟨#[]⟩ : ByteArray), (⟨#[]⟩ : ByteArray)) = x from rfl] at x0 x1 x2
    have htq : ∀ i, i < [6].length → V1.cell? ⟨gl + 1, 0 + i, none⟩ = some (.int .i64 (([6].getD i 0 : Nat) : Int)) := fun i hi => by
      obtain rfl : i = 0 := by simpa using hi
      exact hqt0
    have HXM := Lib.hid (HMEM.out x (by simp))
    have HCL := Lib.hid hcl
    clear hcl hb2
    by_cases hx6 : x.1 = 6
    case neg =>
      obtain ⟨rfl, rfl⟩ : E = 5 ∧ A = noAt := by have := HRE.out; rw [decL_tag hx6] at this; simpa using this
      refine (nxt_bad gl b o c n (gl + 1) 0 1 1 x [6] V1 HQG.out hn1 (by omega) x0 x1 x2 rfl (by omega) htq (by simpa using hx6)).mono ?_
      rintro e w2 ⟨rfl, hb2⟩
      have hrg := (hb2.block (w.heap.size + 1) (Array.getElem?_eq_some_iff.1 HRV.out).1).trans HRV.out
      obtain ⟨s0, s1, s2, f0, f1, f2, sl⟩ := at_facts ((belowNew w2 (.cells #[.int .i64 0, .string ⟨#[]⟩, .string ⟨#[]⟩] 23)).block (w.heap.size + 1) (Array.getElem?_eq_some_iff.1 hrg).1 |>.trans hrg)
      have HRF := Lib.hid ((belowNew w2 (.cells #[.int .i64 0, .string ⟨#[]⟩, .string ⟨#[]⟩] 23)).block (w.heap.size + 1) (Array.getElem?_eq_some_iff.1 hrg).1 |>.trans hrg)
      have HBF := Lib.hid (below_next (below_next HBV1.out hb2) (belowNew w2 (.cells #[.int .i64 0, .string ⟨#[]⟩, .string ⟨#[]⟩] 23)))
      clear hb2 hrg x0 x1 x2 htq hqt0 hx6
      unfold noEl
      go_wp2_with fail
      exact bodyPost_ret (atRes0 rfl _ _ _ _ _ _ rfl (at_set HRF.out)) rfl ⟨rfl, at_below HBF.out (Nat.le_succ _)⟩
    have hx6' : x.1 = 6 := by simpa using hx6
    refine (nxt_ok gl b o c n (gl + 1) 0 1 1 x [6] V1 HQG.out hn1 hlc (by omega) x0 x1 x2 rfl (by omega) htq (by simpa using hx6)).mono ?_
    rintro e w2 ⟨rfl, ⟨a1, hg2, ha1⟩, hb2⟩
    obtain ⟨n1, hn1'⟩ : ∃ n1, n1 = n - 1 := ⟨_, rfl⟩
    obtain ⟨c1, hc1'⟩ : ∃ c1, c1 = c - 1 := ⟨_, rfl⟩
    rw [← hn1', ← hc1'] at hg2
    have HN1 := Lib.hid (show n1 = r.length by rw [hn1', HN.out]; simp)
    have hc1 : n1 ≤ c1 := by omega
    have hn1n : n1 ≤ n := by omega
    have HA1 := Lib.hid (show 1 ≤ n1 → a1 = some ⟨b, o + 3, none⟩ from fun h => ha1 (by omega))
    obtain ⟨xt, xc, xr⟩ := x
    unfold elV
    simp only at HXM hx6' ⊢
    have HX6 := Lib.hid hx6'
    obtain ⟨W3, hW3⟩ : ∃ W3, W3 = w2.alloc (.cells #[.int .i64 ((xt : Nat) : Int), .string xc, .string xr] 23) := ⟨_, rfl⟩
    have hb3 : Below w2.heap.size w2 W3 := by rw [hW3]; exact belowNew w2 _
    have hq3 : W3.heap[w2.heap.size]? = some (.cells #[.int .i64 ((xt : Nat) : Int), .string xc, .string xr] 23 (0, 0)) := by rw [hW3]; exact heap_alloc_new w2 _
    obtain ⟨y0, y1, y2, _, _, _, yl⟩ := at_facts hq3
    have hW3' := hW3.symm
    have HB3 := Lib.hid (show But gl V1 W3 from hb2.next (But.of hb3))
    have HG3 := Lib.hid ((hb3.block gl (Array.getElem?_eq_some_iff.1 hg2).1).trans hg2)
    have HR3 := Lib.hid ((HB3.out.block (w.heap.size + 1) (Array.getElem?_eq_some_iff.1 HRV.out).1 (by simp; omega)).trans HRV.out)
    have HBW3 := Lib.hid (show Below w.heap.size w W3 from HBV1.out.trans ((HB3.out.below (by omega)).mono (by omega)))
    have HP3 := Lib.hid (show Pow10 W3 from HP1.out.below (by rw [← HGL.out]; exact HBVV.out.trans (HB3.out.below (by omega))))
    clear hW3 hb3 hq3 hb2 hg2 ha1 x0 x1 x2 htq hqt0 hn1' hc1' hx6 hx6'
    go_wp2_with fail
    refine (decode_any xc W3 HXM.out HP3.out).mono ?_
    rintro e w4 ⟨hdc, hb4⟩
    have HB4 := Lib.hid (show But gl V1 w4 from HB3.out.next (But.of hb4))
    have HG4 := Lib.hid ((hb4.block gl (Array.getElem?_eq_some_iff.1 HG3.out).1).trans HG3.out)
    have HR4 := Lib.hid ((hb4.block (w.heap.size + 1) (Array.getElem?_eq_some_iff.1 HR3.out).1).trans HR3.out)
    have HBW4 := Lib.hid (below_next HBW3.out hb4)
    clear hb4 y0 y1 y2 yl hW3'
    rcases oidD_decd hdc with ⟨id, hid, rfl⟩ | ⟨hid, rfl⟩
    case inr =>
      obtain ⟨rfl, rfl⟩ : E = 11 ∧ A = noAt := by have := HRE.out; rw [decL_oid HX6.out hid] at this; simpa using this
      obtain ⟨s0, s1, s2, f0, f1, f2, sl⟩ := at_facts HR4.out
      clear hdc hid
      go_wp2_with fail
      exact bodyPost_ret (atRes0 rfl _ _ _ _ _ _ rfl (at_set HR4.out)) rfl ⟨rfl, at_below HBW4.out (Nat.le_succ _)⟩
    have HID := Lib.hid hid
    clear hdc hid
    go_wp2_with fail
    obtain ⟨V4, hV4⟩ : ∃ V4, V4 = w4.alloc (.cells #[.int .i64 12, .int .i64 19, .int .i64 22] 3) := ⟨_, rfl⟩
    have hbv4 : Below w4.heap.size w4 V4 := by rw [hV4]; exact belowNew w4 _
    have htv4 : ∀ i, i < [12, 19, 22].length → V4.cell? ⟨w4.heap.size, 0 + i, none⟩ = some (.int .i64 (([12, 19, 22].getD i 0 : Nat) : Int)) := fun i hi => by
      rw [hV4, Nat.zero_add, cell_of_row _ _ i _ _ _ (heap_alloc_new w4 _)]
      rcases (by simp at hi; omega : i = 0 ∨ i = 1 ∨ i = 2) with rfl | rfl | rfl <;> rfl
    rw [← hV4]
    have HB5 := Lib.hid (show But gl V1 V4 from HB4.out.next (But.of hbv4))
    have HG5 := Lib.hid ((hbv4.block gl (Array.getElem?_eq_some_iff.1 HG4.out).1).trans HG4.out)
    have HR5 := Lib.hid ((hbv4.block (w.heap.size + 1) (Array.getElem?_eq_some_iff.1 HR4.out).1).trans HR4.out)
    have HBW5 := Lib.hid (below_next HBW4.out hbv4)
    have HV4 := Lib.hid hV4
    clear hbv4 hV4
    cases r with
    | nil =>
      obtain ⟨rfl, rfl⟩ : E = 3 ∧ A = noAt := by have := HRE.out; rw [decL_one HX6.out HID.out] at this; simpa using this
      obtain rfl : n1 = 0 := HN1.out
      refine (nxt_empty gl a1 (some ⟨w4.heap.size, 0, none⟩) c1 3 3 V4 HG5.out).mono ?_
      rintro e w5 ⟨rfl, hb5⟩
      have hrg := (hb5.block (w.heap.size + 1) (Array.getElem?_eq_some_iff.1 HR5.out).1).trans HR5.out
      obtain ⟨s0, s1, s2, f0, f1, f2, sl⟩ := at_facts ((belowNew w5 (.cells #[.int .i64 0, .string ⟨#[]⟩, .string ⟨#[]⟩] 23)).block (w.heap.size + 1) (Array.getElem?_eq_some_iff.1 hrg).1 |>.trans hrg)
      have HRF := Lib.hid ((belowNew w5 (.cells #[.int .i64 0, .string ⟨#[]⟩, .string ⟨#[]⟩] 23)).block (w.heap.size + 1) (Array.getElem?_eq_some_iff.1 hrg).1 |>.trans hrg)
      have HBF := Lib.hid (below_next (below_next HBW5.out hb5) (belowNew w5 (.cells #[.int .i64 0, .string ⟨#[]⟩, .string ⟨#[]⟩] 23)))
      clear hb5 hrg htv4
      unfold noEl
      go_wp2_with fail
      exact bodyPost_ret (atRes0 rfl _ _ _ _ _ _ rfl (at_set HRF.out)) rfl ⟨rfl, at_below HBF.out (Nat.le_succ _)⟩
    | cons y q =>
      have hn11 : 1 ≤ n1 := by have := HN1.out; simp at this; omega
      obtain rfl := HA1.out hn11
      obtain ⟨z0, z1, z2⟩ := HCL.out 1 (by simp)
      rw [Nat.one_mul] at z0 z1 z2
      rw [show ((xt, xc, xr) :: y :: q).getD 1 ((0 : Nat), (⟨#[]⟩ : ByteArray), (⟨#[]⟩ : ByteArray)) = y from rfl] at z0 z1 z2
      have hbk := HB5.out.block b (block_lt z0) (by simpa using hbg)
      have z0 := (cell_same hbk _).trans z0
      have z1 := (cell_same hbk _).trans z1
      have z2 := (cell_same hbk _).trans z2
      clear hbk
      cases hsy : strTag y.1 with
      | false =>
        obtain ⟨rfl, rfl⟩ : E = 5 ∧ A = noAt := by have := HRE.out; rw [decL_kind HX6.out HID.out hsy] at this; simpa using this
        refine (nxt_bad gl b (o + 3) c1 n1 w4.heap.size 0 3 3 y [12, 19, 22] V4 HG5.out hn11 (by omega) z0 z1 z2 rfl (by omega) htv4 (fun h => by rw [(strTag_iff _).2 h] at hsy; cases hsy)).mono ?_
        rintro e w5 ⟨rfl, hb5⟩
        have hrg := (hb5.block (w.heap.size + 1) (Array.getElem?_eq_some_iff.1 HR5.out).1).trans HR5.out
        obtain ⟨s0, s1, s2, f0, f1, f2, sl⟩ := at_facts ((belowNew w5 (.cells #[.int .i64 0, .string ⟨#[]⟩, .string ⟨#[]⟩] 23)).block (w.heap.size + 1) (Array.getElem?_eq_some_iff.1 hrg).1 |>.trans hrg)
        have HRF := Lib.hid ((belowNew w5 (.cells #[.int .i64 0, .string ⟨#[]⟩, .string ⟨#[]⟩] 23)).block (w.heap.size + 1) (Array.getElem?_eq_some_iff.1 hrg).1 |>.trans hrg)
        have HBF := Lib.hid (below_next (below_next HBW5.out hb5) (belowNew w5 (.cells #[.int .i64 0, .string ⟨#[]⟩, .string ⟨#[]⟩] 23)))
        clear hb5 hrg htv4 z0 z1 z2 hsy
        unfold noEl
        go_wp2_with fail
        exact bodyPost_ret (atRes0 rfl _ _ _ _ _ _ rfl (at_set HRF.out)) rfl ⟨rfl, at_below HBF.out (Nat.le_succ _)⟩
      | true =>
        refine (nxt_ok gl b (o + 3) c1 n1 w4.heap.size 0 3 3 y [12, 19, 22] V4 HG5.out hn11 hc1 (by omega) z0 z1 z2 rfl (by omega) htv4 ((strTag_iff _).1 hsy)).mono ?_
        rintro e w5 ⟨rfl, ⟨a2, hg5, _⟩, hb5⟩
        obtain ⟨n2, hn2'⟩ : ∃ n2, n2 = n1 - 1 := ⟨_, rfl⟩
        rw [← hn2'] at hg5
        have HN2 := Lib.hid (show n2 = q.length by rw [hn2', HN1.out]; simp)
        obtain ⟨yt, yc, yr⟩ := y
        unfold elV
        simp only at hsy ⊢
        obtain ⟨W6, hW6⟩ : ∃ W6, W6 = w5.alloc (.cells #[.int .i64 ((yt : Nat) : Int), .string yc, .string yr] 23) := ⟨_, rfl⟩
        have hb6 : Below w5.heap.size w5 W6 := by rw [hW6]; exact belowNew w5 _
        have hq6 : W6.heap[w5.heap.size]? = some (.cells #[.int .i64 ((yt : Nat) : Int), .string yc, .string yr] 23 (0, 0)) := by rw [hW6]; exact heap_alloc_new w5 _
        obtain ⟨y0, y1, y2, _, _, _, yl⟩ := at_facts hq6
        have hW6' := hW6.symm
        have hB6 : But gl V4 W6 := hb5.next (But.of hb6)
        have hg6 := (hb6.block gl (Array.getElem?_eq_some_iff.1 hg5).1).trans hg5
        obtain ⟨k0, _, _⟩ := one_facts hg6
        have HR6 := Lib.hid ((hB6.block (w.heap.size + 1) (Array.getElem?_eq_some_iff.1 HR5.out).1 (by simp; omega)).trans HR5.out)
        have HBW6 := Lib.hid (show Below w.heap.size w W6 from HBW5.out.trans ((hB6.below (Nat.le_of_lt (Array.getElem?_eq_some_iff.1 HG5.out).1)).mono (by omega)))
        obtain ⟨s0, s1, s2, f0, f1, f2, sl⟩ := at_facts HR6.out
        have hgn : ¬ gl = w.heap.size + 1 := by omega
        have hgn' : ¬ w.heap.size + 1 = gl := by omega
        have HSY := Lib.hid hsy
        clear hW6 hb6 hq6 hb5 hg5 hB6 hg6 z0 z1 z2 htv4 hn2' hsy
        cases q with
        | nil =>
          obtain ⟨rfl, rfl⟩ : E = 0 ∧ A = (id, (yt : Int), yc) := by have := HRE.out; rw [decL_ok HX6.out HID.out HSY.out] at this; simpa using this
          obtain rfl : n2 = 0 := HN2.out
          go_wp2_with fail
          exact bodyPost_ret (atRes0 rfl _ _ _ _ _ _ rfl (at_set HR6.out)) rfl ⟨rfl, at_below HBW6.out (Nat.le_succ _)⟩
        | cons z q =>
          obtain ⟨rfl, rfl⟩ : E = 4 ∧ A = noAt := by have := HRE.out; rw [decL_more HX6.out HID.out HSY.out] at this; simpa using this
          have h20 : 0 < n2 := by have := HN2.out; simp at this; omega
          have h2d : decide ((0 : Int) < (n2 : Int)) = true := by simp; omega
          go_wp2_with fail
          exact bodyPost_ret (atRes0 rfl _ _ _ _ _ _ rfl (at_set HR6.out)) rfl ⟨rfl, at_below HBW6.out (Nat.le_succ _)⟩
end Go.Proofs.YtflpajbcomhkpaaGreatDoor
namespace Go.Proofs.YtflpajbcomhkpaaGreatDoor
open Go.RowKit

/-- What was read so far, ahead of what is left. -/
def aheadA {β : Type} (D : List β) (p : Nat × List β) : Nat × List β := if p.1 ≠ 0 then (p.1, []) else (0, D ++ p.2)
theorem aheadA_nil {β : Type} {p : Nat × List β} (h : p.1 ≠ 0 → p.2 = []) : aheadA [] p = p := by
  obtain ⟨e, r⟩ := p
  unfold aheadA
  by_cases he : e = 0
  · subst he; simp
  · have h2 := h he
    simp only at h2
    subst h2
    simp [he]
theorem decAs_err : ∀ {l : List El}, (decAs l).1 ≠ 0 → (decAs l).2 = []
  | [], h => absurd rfl h
  | e :: r, h => by
    unfold decAs at h ⊢
    by_cases h1 : (decA e).1 ≠ 0
    · rw [if_pos h1]
    · rw [if_neg h1] at h ⊢
      by_cases h2 : (decAs r).1 ≠ 0
      · rw [if_pos h2]
      · rw [if_neg h2] at h; exact absurd rfl h
abbrev noEle : El := (0, ⟨#[]⟩, ⟨#[]⟩)
theorem decAs_step {l : List El} {k : Nat} (h : k < l.length) (h0 : (decA (l.getD k noEle)).1 = 0) (D : List At) : aheadA D (decAs (l.drop k)) = aheadA (D ++ [(decA (l.getD k noEle)).2]) (decAs (l.drop (k + 1))) := by
  rw [dropD l k h noEle]
  show aheadA D (if (decA (l.getD k noEle)).1 ≠ 0 then _ else _) = _
  rw [if_neg (by simpa using h0)]
  by_cases h2 : (decAs (l.drop (k + 1))).1 ≠ 0
  · rw [if_pos h2]; unfold aheadA; rw [if_pos h2, if_pos h2]
  · rw [if_neg h2]; unfold aheadA; rw [if_neg (by simp), if_neg h2]; simp
theorem decAs_bad {l : List El} {k : Nat} (h : k < l.length) (h0 : (decA (l.getD k noEle)).1 ≠ 0) (D : List At) : aheadA D (decAs (l.drop k)) = ((decA (l.getD k noEle)).1, []) := by
  rw [dropD l k h noEle]
  show aheadA D (if (decA (l.getD k noEle)).1 ≠ 0 then _ else _) = _
  rw [if_pos h0]; unfold aheadA; rw [if_pos h0]
theorem decAs_end {l : List El} {k : Nat} (h : l.length ≤ k) (D : List At) : aheadA D (decAs (l.drop k)) = (0, D) := by
  rw [List.drop_eq_nil_of_le h]; simp [aheadA, decAs]

/-! ### A row of attributes that is filled one by one -/
def rowA (n : Nat) (L : List At) : Array Value := (atsCells (L ++ List.replicate (n - L.length) noAt)).toArray
theorem set_mid {α : Type} (A B : List α) (x y : α) (k : Nat) (h : k = A.length) : (A ++ x :: B).set k y = A ++ y :: B := by subst h; simp
theorem rowA_snoc (n : Nat) (L : List At) (a : At) (k : Nat) (hk : k = L.length) (h : k < n) :
    (((rowA n L).setIfInBounds (k * 3) (.string a.1)).setIfInBounds (k * 3 + 1) (.int .i64 a.2.1)).setIfInBounds (k * 3 + 2) (.string a.2.2) = rowA n (L ++ [a]) := by
  obtain ⟨m, hm⟩ : ∃ m, n - L.length = m + 1 := ⟨n - L.length - 1, by omega⟩
  have hm2 : n - (L ++ [a]).length = m := by simp; omega
  have e1 : atsCells (L ++ List.replicate (n - L.length) noAt) = atsCells L ++ (.string ⟨#[]⟩ :: .int .i64 0 :: .string ⟨#[]⟩ :: atsCells (List.replicate m noAt)) := by
    rw [hm, List.replicate_succ, atsCells_append]; rfl
  have e2 : atsCells ((L ++ [a]) ++ List.replicate (n - (L ++ [a]).length) noAt) = atsCells L ++ (.string a.1 :: .int .i64 a.2.1 :: .string a.2.2 :: atsCells (List.replicate m noAt)) := by
    rw [hm2, atsCells_append, atsCells_append, List.append_assoc]; rfl
  have hl : k * 3 = (atsCells L).length := by rw [atsCells_length, hk]
  unfold rowA
  rw [e1, e2]
  simp only [List.setIfInBounds_toArray]
  congr 1
  rw [set_mid _ _ _ _ _ hl]
  have h2 := set_mid (atsCells L ++ [.string a.1]) (.string ⟨#[]⟩ :: atsCells (List.replicate m noAt)) (Value.int .i64 0) (.int .i64 a.2.1) (k * 3 + 1) (by simp [hl])
  simp only [List.append_assoc, List.singleton_append] at h2
  rw [h2]
  have h3 := set_mid (atsCells L ++ [.string a.1, .int .i64 a.2.1]) (atsCells (List.replicate m noAt)) (Value.string ⟨#[]⟩) (.string a.2.2) (k * 3 + 2) (by simp [hl])
  simpa using h3
theorem rowA_size (n : Nat) (L : List At) (h : L.length ≤ n) : (rowA n L).size = n * 3 := by
  unfold rowA
  rw [List.size_toArray, atsCells_length]
  simp; omega
theorem rowA_put {w : World} {g n k : Nat} {L : List At} {a : At} {T : TypeId} (h : w.heap[g]? = some (.cells (rowA n L) T (0, 0))) (hk : k = L.length) (hn : k < n) :
    (((w.setCell ⟨g, k * 3, none⟩ (.string a.1)).setCell ⟨g, k * 3 + 1, none⟩ (.int .i64 a.2.1)).setCell ⟨g, k * 3 + 2, none⟩ (.string a.2.2)).heap[g]? = some (.cells (rowA n (L ++ [a])) T (0, 0)) := by
  rw [← rowA_snoc n L a k hk hn]
  simp [World.setCell, Array.getElem?_modify, h]
theorem rowA_cells {w : World} {g n k : Nat} {L : List At} {T : TypeId} (h : w.heap[g]? = some (.cells (rowA n L) T (0, 0))) (hl : L.length ≤ n) (hn : k < n) (j : Nat) (hj : j < 3) : (∃ v, w.cell? ⟨g, k * 3 + j, none⟩ = some v) ∧ w.frozen? ⟨g, k * 3 + j, none⟩ = false := by
  refine ⟨⟨(rowA n L)[k * 3 + j]'(by rw [rowA_size n L hl]; omega), ?_⟩, Lib.frozen_of_heap h _⟩
  rw [Lib.cell_of_heap h, Array.getElem?_eq_getElem]
theorem ats_make (n : Nat) (hn : n ≤ 1099511627) (W : World) : (Instr.makeSlice 101 (.int .i64 (n : Int)) (.int .i64 (n : Int))).run Tryz.prog W = .ok (.slice (some ⟨W.heap.size, 0, none⟩) n n) (W.alloc (.cells (rowA n []) 103)) := by
  obtain ⟨i0, hi, hz0, hz1, hz2⟩ := info_parts atInfo
  have hr := run_make (P := Tryz.prog) W 101 103 i0 (.agg #[.string ⟨#[]⟩, .int .i64 0, .string ⟨#[]⟩]) Tryz.underlying101 hi hz0 .i64 .i64 (n : Int) (n : Int) (by omega) (Int.le_refl _) (by rw [hz2]; omega) (by omega)
  rw [hr]
  have e2 : madeCells (Value.agg #[.string ⟨#[]⟩, .int .i64 0, .string ⟨#[]⟩]).cells ((n : Int).toNat * i0.size) = rowA n [] := by
    rw [hz1]
    apply Array.ext
    · rw [rowA_size n [] (by simp)]; simp [madeCells]
    · intro i h1 h2
      rw [rowA_size n [] (by simp)] at h2
      have e : i = i / 3 * 3 + i % 3 := by omega
      have hc := ats_at (List.replicate n noAt) (i / 3) (by simp; omega) (i % 3) (by omega)
      have hc2 : (rowA n [])[i]? = (atCells noAt)[i % 3]? := by
        unfold rowA
        rw [List.getElem?_toArray]
        have : ([] : List At) ++ List.replicate (n - ([] : List At).length) noAt = List.replicate n noAt := by simp
        rw [this]
        conv => lhs; rw [e]
        rw [hc, List.getD_eq_getElem?_getD, List.getElem?_replicate]
        split <;> rfl
      have h3 : i % 3 < 3 := by omega
      rw [Array.getElem?_eq_getElem (by rw [rowA_size n [] (by simp)]; exact h2)] at hc2
      simp only [madeCells, Value.cells]
      rcases (by omega : i % 3 = 0 ∨ i % 3 = 1 ∨ i % 3 = 2) with h | h | h <;> rw [h] at hc2 <;> simp [h] <;> exact (Option.some.inj hc2).symm
  rw [e2]
  simp
theorem rowA_own {w : World} {B g n : Nat} {L : List At} (h : w.heap[g]? = some (.cells (rowA n L) 103 (0, 0))) (hB : B ≤ g) (hl : L.length = n) (hn : n ≤ 1099511627) : OwnA w B (.slice (some ⟨g, 0, none⟩) n n) L := by
  subst hl
  have e : rowA L.length L = (atsCells L).toArray := by unfold rowA; simp
  rw [e] at h
  refine ⟨atsCells_length L, .inr ⟨g, L.length, _, rfl, hB, h, Nat.le_refl _, ?_, ?_, ?_⟩⟩
  · unfold maxLen; omega
  · rw [List.size_toArray, atsCells_length]
  · exact List.take_of_length_le (by simp [atsCells_length])
end Go.Proofs.YtflpajbcomhkpaaGreatDoor
namespace Go.Proofs.YtflpajbcomhkpaaGreatDoor
open Go.RowKit

theorem ascB_iff {l : List El} {b : Bool} (h : b = true ↔ ascP l l.length) : b = ascB l := by
  unfold ascB
  cases b with
  | true => exact (@decide_eq_true _ (Classical.propDecidable _) (h.1 rfl)).symm
  | false => exact (@decide_eq_false _ (Classical.propDecidable _) (fun k => by cases h.2 k)).symm

set_option maxRecDepth 100000 in
set_option maxHeartbeats 8000000 in
theorem decrel_any (x : El) (w : World) (hx : x.2.1.size ≤ 1099511627) (hP : Pow10 w) :
    Calls Tryz.prog 159 #[elV x.1 x.2.1 x.2.2] w fun e w' => ∃ v, e = .returned (.tuple #[v, .int .i64 (((decR x).1 : Nat) : Int)]) ∧ OwnA w' w.heap.size v (decR x).2 ∧ Below w.heap.size w w' := by
  obtain ⟨E, A, hEA⟩ : ∃ E A, decR x = (E, A) := ⟨_, _, rfl⟩
  have HRES := Lib.hid (show (E, A) = decR x from hEA.symm)
  rw [hEA]
  clear hEA
  obtain ⟨t, ct, rw0⟩ := x
  unfold decR at HRES
  unfold elV
  simp only at hx HRES ⊢
  have q0 := heap_alloc_new w (.cells #[.int .i64 ((t : Nat) : Int), .string ct, .string rw0] 23)
  obtain ⟨e0, e1, e2, _, _, _, el⟩ := at_facts q0
  by_cases ht : t = 49
  case neg =>
    obtain ⟨rfl, rfl⟩ : E = 5 ∧ A = [] := by have := HRES.out; rw [if_pos ht] at this; simpa using this
    have hd : ((t : Int) != 49) = true := by simp; omega
    clear ht q0
    go_enter Tryz.func159, Tryz.ntmps159
    go_wp2_with fail
    go_ret2
    exact ⟨_, rfl, OwnA.nil _ _, belowNew w _⟩
  have hd : ((t : Int) != 49) = false := by rw [ht]; rfl
  obtain ⟨W0, hW0⟩ : ∃ W0, W0 = w.alloc (.cells #[.int .i64 ((t : Nat) : Int), .string ct, .string rw0] 23) := ⟨_, rfl⟩
  have HRE := Lib.hid (show (E, A) = if (lst ct).2 ≠ 0 then ((lst ct).2, []) else if ascB (lst ct).1 = false then (9, []) else decAs (lst ct).1 by have := HRES.out; rwa [if_neg (by simpa using ht)] at this)
  have hb0 : Below w.heap.size w W0 := by rw [hW0]; exact belowNew w _
  rw [← hW0] at e0 e1 e2 el
  have HLS := Lib.hid (list_any ct W0 (Nat.le_trans hx (by omega)))
  have HMEM := Lib.hid (fun z (hz : z ∈ (lst ct).1) => Nat.le_trans (lst_mem _ ct (Nat.le_refl _) z hz) hx)
  have hlen := lst_length ct _ (Nat.le_refl _)
  have HWE := Lib.hid hW0.symm
  have HB0 := Lib.hid hb0
  have HP0 := Lib.hid (hP.below hb0)
  generalize lst ct = LE at HLS HMEM hlen HRE
  obtain ⟨l, er⟩ := LE
  simp only at HLS HMEM hlen HRE
  have hwe := hW0.symm
  clear HRES ht q0 hW0 hb0 hP
  go_enter Tryz.func159, Tryz.ntmps159
  go_wp2_with fail
  clear hwe
  refine HLS.out.mono ?_
  rintro e w1 ⟨v1, rfl, ho1, hb1⟩
  have HOE := Lib.hid ho1
  obtain ⟨a, c, rfl, hlc, hel, hbk⟩ := ElAt.of ho1
  obtain ⟨n, hn⟩ : ∃ n, n = l.length := ⟨_, rfl⟩
  rw [← hn] at hlc hlen HOE ⊢
  have HN := Lib.hid hn
  have hnz : n ≤ 1099511627 := by omega
  have HEL := Lib.hid hel
  have HB1 := Lib.hid (below_next HB0.out hb1)
  have HP1 := Lib.hid (HP0.out.below hb1)
  clear ho1 hel hbk hb1 hn e0 e1 e2 el
  by_cases hz : er = 0
  case neg =>
    obtain ⟨rfl, rfl⟩ : E = er ∧ A = [] := by have := HRE.out; rw [if_pos hz] at this; simpa using this
    have hz1 := errno_ne hz
    clear hz
    go_wp2_with fail
    go_ret2
    exact ⟨_, rfl, OwnA.nil _ _, HB1.out⟩
  subst hz
  have HR2 := Lib.hid (show (E, A) = if ascB l = false then (9, []) else decAs l by have := HRE.out; rwa [if_neg (by simp)] at this)
  clear HRE
  have HAS := Lib.hid (asc_any _ _ l w1 HOE.out (by have := HN.out; omega))
  go_wp2_with fail
  refine HAS.out.mono ?_
  rintro e w2 ⟨⟨bb, rfl, hbb⟩, hb2⟩
  have hab := ascB_iff hbb
  have HAB := Lib.hid hab
  have HB2 := Lib.hid (below_next HB1.out hb2)
  have HEL2 := Lib.hid (HEL.out.below hb2)
  have HP2 := Lib.hid (HP1.out.below hb2)
  clear hbb hb2 hab
  cases bb with
  | false =>
    obtain ⟨rfl, rfl⟩ : E = 9 ∧ A = [] := by have := HR2.out; rw [if_pos HAB.out.symm] at this; simpa using this
    go_wp2_with fail
    go_ret2
    exact ⟨_, rfl, OwnA.nil _ _, HB2.out⟩
  | true =>
    have HRA := Lib.hid (show (E, A) = aheadA [] (decAs (l.drop 0)) by
      have := HR2.out
      rw [if_neg (by rw [← HAB.out]; decide)] at this
      rw [this, List.drop_zero, aheadA_nil decAs_err])
    clear HR2
    have hmk := ats_make n (by omega)
    obtain ⟨g, hg⟩ : ∃ g, g = w2.heap.size := ⟨_, rfl⟩
    obtain ⟨W3, hW3⟩ : ∃ W3, W3 = w2.alloc (.cells (rowA n []) 103) := ⟨_, rfl⟩
    have hq3 : W3.heap[g]? = some (.cells (rowA n []) 103 (0, 0)) := by rw [hW3, hg]; exact heap_alloc_new w2 _
    have hb3 : Below w2.heap.size w2 W3 := by rw [hW3]; exact belowNew w2 _
    have HQ3 := Lib.hid hq3
    have HB3 := Lib.hid (below_next HB2.out hb3)
    have HEL3 := Lib.hid (HEL2.out.below hb3)
    have HP3 := Lib.hid (HP2.out.below hb3)
    have HW3 := Lib.hid hW3.symm
    have HG := Lib.hid hg
    have hwg : w.heap.size ≤ g := by rw [hg]; exact HB2.out.size
    have hgW : g < W3.heap.size := (Array.getElem?_eq_some_iff.1 hq3).1
    clear hq3 hb3 hW3 hg
    go_wp2_with fail
    rw [HW3.out, ← HG.out]
    clear hmk
    go_loopw [29] (fun i wr => ∃ (k : Nat) (D : List At), k ≤ n ∧ i = .int .i64 (k : Int) ∧ D.length = k ∧ (E, A) = aheadA D (decAs (l.drop k)) ∧ wr.heap[g]? = some (.cells (rowA n D) 103 (0, 0)) ∧ But g W3 wr) (fun i _ => n - (intOf i).toNat)
    case atStart => exact ⟨0, [], Nat.zero_le _, rfl, rfl, HRA.out, HQ3.out, But.refl _ _⟩
    case round =>
      obtain ⟨k, D, hk, rfl, hDk, hA, hq, hb⟩ := hrel
      have HQ := Lib.hid hq
      have HB := Lib.hid hb
      have HA := Lib.hid hA
      have HDK := Lib.hid hDk
      have HBW := Lib.hid (show Below w.heap.size w wr from HB3.out.trans ((hb.below (Nat.le_of_lt hgW)).mono hwg))
      clear hq hb hA hDk
      by_cases hlt : k < n
      · have hd' : decide ((k : Int) < (n : Int)) = true := by simp; omega
        obtain ⟨b, o, rfl, hcl⟩ := HEL2.out.resolve_left (fun e => by have := HN.out; rw [e] at this; simp at this; omega)
        obtain ⟨x0, x1, x2⟩ := hcl k (by rw [← HN.out]; exact hlt)
        have hbe := (HB.out.below (Nat.le_of_lt hgW))
        have HB23 : Below g W3 wr := hbe
        have hw23 : Below g w2 W3 := by rw [← HW3.out, HG.out]; exact belowNew w2 _
        have hbg : b < g := by rw [HG.out]; exact block_lt x0
        have c0 := ((hw23.trans HB23).cell (p := ⟨b, o + k * 3, none⟩) hbg).trans x0
        have c1 := ((hw23.trans HB23).cell (p := ⟨b, o + k * 3 + 1, none⟩) hbg).trans x1
        have c2 := ((hw23.trans HB23).cell (p := ⟨b, o + k * 3 + 2, none⟩) hbg).trans x2
        have hki : (k : Int) < (n : Int) := by omega
        have hmz := HMEM.out (l.getD k noEle) (by rw [List.getD_eq_getElem?_getD, List.getElem?_eq_getElem (by rw [← HN.out]; exact hlt)]; exact List.getElem_mem _)
        have HST := Lib.hid (fun h0 => decAs_step (l := l) (k := k) (by rw [← HN.out]; exact hlt) h0 D)
        have HBD := Lib.hid (fun h0 => decAs_bad (l := l) (k := k) (by rw [← HN.out]; exact hlt) h0 D)
        generalize l.getD k noEle = y at c0 c1 c2 hmz HST HBD
        have HPW := Lib.hid (show Pow10 wr from HP2.out.below (by rw [← HG.out]; exact hw23.trans HB23))
        obtain ⟨yt, yc, yr⟩ := y
        have HDA := Lib.hid (fun W h => deca_any (yt, yc, yr) W hmz h)
        unfold elV at HDA
        obtain ⟨eA, aA, hda⟩ : ∃ eA aA, decA (yt, yc, yr) = (eA, aA) := ⟨_, _, rfl⟩
        rw [hda] at HST HBD HDA
        obtain ⟨at1, at2, at3⟩ := aA
        unfold atV at HDA
        simp only at c0 c1 c2 HDA HST HBD
        have hgl : g < wr.heap.size := (Array.getElem?_eq_some_iff.1 HQ.out).1
        clear x0 x1 x2 hcl hmz hda hbe HB23 hw23
        go_wp2_with fail
        refine (HDA.out _ (HPW.out.below (belowNew wr _))).mono ?_
        rintro e w5 ⟨rfl, hb5⟩
        have hbn : Below wr.heap.size wr w5 := below_next (belowNew wr _) hb5
        have hq5 := (hbn.block g hgl).trans HQ.out
        obtain ⟨⟨u0, m0⟩, z0⟩ := rowA_cells hq5 (by have := HDK.out; omega) hlt 0 (by omega)
        obtain ⟨⟨u1, m1⟩, z1⟩ := rowA_cells hq5 (by have := HDK.out; omega) hlt 1 (by omega)
        obtain ⟨⟨u2, m2⟩, z2⟩ := rowA_cells hq5 (by have := HDK.out; omega) hlt 2 (by omega)
        rw [Nat.add_zero] at m0 z0
        have HQ5 := Lib.hid hq5
        have HB5 := Lib.hid (HB.out.next (But.of hbn))
        have HBW5 := Lib.hid (below_next HBW.out hbn)
        have hs := (((HB5.out.next (But.set g (k * 3) w5 (.string at1))).next (But.set g (k * 3 + 1) _ (.int .i64 at2))).next (But.set g (k * 3 + 2) _ (.string at3)))
        have HS := Lib.hid hs
        clear hb5 hbn hq5 hs c0 c1 c2
        by_cases hz : eA = 0
        · subst hz
          have HF := Lib.hid (show (E, A) = aheadA (D ++ [(at1, at2, at3)]) (decAs (l.drop (k + 1))) from HA.out.trans (HST.out rfl))
          go_wp2_with fail
          go_roundw
          case rel => exact ⟨k + 1, D ++ [(at1, at2, at3)], by omega, by go_num, by rw [List.length_append, HDK.out]; rfl, HF.out, rowA_put (L := D) (a := (at1, at2, at3)) HQ5.out HDK.out.symm hlt, HS.out⟩
          case measure => simp [intOf]; omega
        · obtain ⟨rfl, rfl⟩ : E = eA ∧ A = [] := by have := HA.out.trans (HBD.out hz); simpa using this
          have hz1 := errno_ne hz
          clear hz
          go_wp2_with fail
          go_ret2
          exact ⟨_, rfl, OwnA.nil _ _, (((HBW5.out.setCell (p := ⟨g, k * 3, none⟩) hwg _).setCell (p := ⟨g, k * 3 + 1, none⟩) hwg _).setCell (p := ⟨g, k * 3 + 2, none⟩) hwg _)⟩
      · have hd' : decide ((k : Int) < (n : Int)) = false := by simp; omega
        obtain ⟨rfl, rfl⟩ : E = 0 ∧ A = D := by have := HA.out; rw [decAs_end (by rw [← HN.out]; omega)] at this; simpa using this
        go_wp2_with fail
        go_ret2
        exact ⟨_, rfl, rowA_own HQ.out hwg (by have := HDK.out; omega) hnz, HBW.out⟩
end Go.Proofs.YtflpajbcomhkpaaGreatDoor
namespace Go.Proofs.YtflpajbcomhkpaaGreatDoor
open Go.RowKit

/-- What Parse answers. -/
noncomputable def prsErr (x : ByteArray) : Nat := match prsN x with | none => 32 | some n => chkN n
noncomputable def prsV (x : ByteArray) : Nm := if prsErr x = 0 then (prsN x).getD [] else []
theorem allO_mem {β γ : Type} {f : β → Option γ} : ∀ {l : List β} {m : List γ}, allO f l = some m → m.length = l.length ∧ ∀ i (h : i < m.length), ∃ x ∈ l, f x = some m[i]
  | [], m, h => by
    obtain rfl : [] = m := by simpa [allO] using h
    exact ⟨rfl, fun i hi => absurd hi (Nat.not_lt_zero _)⟩
  | x :: r, m, h => by
    unfold allO at h
    cases hx : f x with
    | none => rw [hx] at h; cases h
    | some y =>
      rw [hx] at h
      cases hr : allO f r with
      | none => rw [hr] at h; cases h
      | some l =>
        rw [hr] at h
        obtain rfl : y :: l = m := by simpa using h
        obtain ⟨h1, h2⟩ := allO_mem hr
        refine ⟨by simp [h1], fun i hi => ?_⟩
        cases i with
        | zero => exact ⟨x, by simp, hx⟩
        | succ i =>
          obtain ⟨z, hz, e⟩ := h2 i (by simpa using hi)
          exact ⟨z, by simp [hz], by simpa using e⟩
theorem prsA_small {x : ByteArray} {a : At} (h : prsA x = some a) (hx : x.size ≤ 150000) : SmallA a := by
  unfold prsA at h
  rcases index_cases x.data.toList 61 with ⟨hi, _⟩ | ⟨i, hi, hl⟩
  · rw [if_pos hi] at h; cases h
  · rw [hi, if_neg (by omega)] at h
    obtain ⟨wd, hwd⟩ : ∃ wd, wd = x.extract 0 (i : Int).toNat := ⟨_, rfl⟩
    obtain ⟨rs, hrs⟩ : ∃ rs, rs = x.extract ((i : Int).toNat + 1) x.size := ⟨_, rfl⟩
    have hw2 : wd.size ≤ 150000 := by rw [hwd, ByteArray.size_extract]; omega
    have hr2 : rs.size ≤ 150000 := by rw [hrs, ByteArray.size_extract]; omega
    rw [← hwd, ← hrs] at h
    obtain ⟨⟨id, kn⟩, hty⟩ : ∃ p, typ wd = p := ⟨_, rfl⟩
    have hts := typ_size wd
    rw [hty] at h hts
    cases hu : uneO rs.data.toList with
    | none => rw [hu] at h; cases kn <;> cases h
    | some v =>
      have hvs : v.size ≤ rs.size := uneO_size hu
      rw [hu] at h
      cases kn with
      | false => cases h
      | true =>
        obtain rfl : (id, kindV id v, v) = a := by simpa using h
        exact ⟨by show id.size ≤ _; have : id.size ≤ wd.size + 40 := hts; omega, by show v.size ≤ _; omega⟩
theorem pieces_mem {c : UInt8} {x s : ByteArray} (h : s ∈ pcsS c x) : s.size ≤ x.size := by
  obtain ⟨k, hk, rfl⟩ := List.mem_iff_getElem.1 h
  have := pieces_size c x k hk
  rwa [List.getD_eq_getElem?_getD, List.getElem?_eq_getElem hk] at this
theorem getD_mem {α : Type} {l : List α} {i : Nat} (h : i < l.length) (d : α) : l.getD i d = l[i] := by rw [List.getD_eq_getElem?_getD, List.getElem?_eq_getElem h]; rfl
theorem prsR_small {x : ByteArray} {r : List At} (h : prsR x = some r) (hx : x.size ≤ 150000) : SmallR r := by
  obtain ⟨h1, h2⟩ := allO_mem h
  have hcl := count_le x 43
  refine ⟨by rw [h1, pcsS_len]; omega, fun i hi => ?_⟩
  obtain ⟨s, hs, e⟩ := h2 i hi
  rw [getD_mem hi]
  exact prsA_small e (Nat.le_trans (pieces_mem hs) hx)
theorem prsN_small {x : ByteArray} {n : Nm} (h : prsN x = some n) (hx : x.size ≤ 150000) : SmallN n := by
  unfold prsN at h
  by_cases h0 : x.size = 0
  · rw [if_pos h0] at h
    obtain rfl := Option.some.inj h
    exact ⟨by simp, fun i hi => absurd hi (Nat.not_lt_zero _)⟩
  · rw [if_neg h0] at h
    obtain ⟨h1, h2⟩ := allO_mem h
    have hcl := count_le x 44
    refine ⟨by rw [h1, pcsS_len]; omega, fun i hi => ?_⟩
    obtain ⟨s, hs, e⟩ := h2 i hi
    rw [getD_mem hi]
    exact prsR_small e (Nat.le_trans (pieces_mem hs) hx)

set_option maxRecDepth 100000 in
set_option maxHeartbeats 4000000 in
theorem parse_any (x : ByteArray) (w : World) (hx : x.size ≤ 150000) (hT : Tab w) (hS : ShT w) :
    Calls Tryz.prog 95 #[.string x] w fun e w' => ∃ v, e = .returned (.tuple #[v, .int .i64 ((prsErr x : Nat) : Int)]) ∧ OwnV w' w.heap.size v (prsV x) ∧ Below w.heap.size w w' := by
  obtain ⟨W0, hW0⟩ : ∃ W0, W0 = w.alloc (.cells #[.slice none 0 0] 30) := ⟨_, rfl⟩
  have hwr : w.alloc (.cells #[.slice none 0 0] 30) = W0 := hW0.symm
  have hb0 : Below w.heap.size w W0 := by rw [hW0]; exact belowNew w _
  have hq0 : W0.heap[w.heap.size]? = some (.cells #[.slice none 0 0] 30 (0, 0)) := by rw [hW0]; exact heap_alloc_new w _
  have hz : W0.heap.size = w.heap.size + 1 := by rw [hW0]; simp
  have HB0 := Lib.hid hb0
  have HQ0 := Lib.hid hq0
  have HZ := Lib.hid hz
  have HT := Lib.hid (hT.below hb0)
  have HP := prsN_any x W0 hx (hT.below hb0) (hS.below hb0)
  obtain ⟨E, hE⟩ : ∃ E, E = prsErr x := ⟨_, rfl⟩
  obtain ⟨V, hV⟩ : ∃ V, V = prsV x := ⟨_, rfl⟩
  rw [← hE, ← hV]
  cases hp : prsN x with
  | none =>
    have e1 : E = 32 := by rw [hE]; unfold prsErr; rw [hp]
    have e2 : V = [] := by rw [hV]; unfold prsV; rw [← hE, e1]; rfl
    rw [hp] at HP
    have HPP := Lib.hid HP
    subst e1 e2
    clear hE hV hp HP hb0 hq0 hz hT hS hW0
    go_enter Tryz.func95, Tryz.ntmps95
    go_wp2_with (go_at_call 137; (with_reducible refine HPP.out.mono ?_); rintro e w1 ⟨v, rfl, ho, hb1⟩; obtain ⟨s, rfl, hs⟩ := ho; obtain ⟨av, cv, rfl, _, _⟩ := hs.lies; have hq := (hb1.block _ (one_facts HQ0.out).2.2).trans HQ0.out; have HQ := Lib.hid hq; obtain ⟨r0, g0, hlt0⟩ := one_facts hq; have HB1 := Lib.hid (below_next HB0.out hb1); clear hb1 hq hs)
    have hlt2 : w.heap.size < (w1.setCell ⟨w.heap.size, 0, none⟩ (.slice none 0 0)).heap.size := by simpa [World.setCell] using hlt0
    exact bodyPost_ret (nmRes rfl _ _ w _ rfl (((belowNew _ _).block _ hlt2).trans (one_set HQ.out))) rfl ⟨_, rfl, ⟨_, rfl, OwnN.nil _ _⟩, (HB1.out.setCell (p := ⟨w.heap.size, 0, none⟩) (Nat.le_refl _) _).alloc (Nat.le_of_lt hlt2) _⟩
  | some n =>
    have e1 : E = chkN n := by rw [hE]; unfold prsErr; rw [hp]
    have e2 : V = if E = 0 then n else [] := by rw [hV]; unfold prsV; rw [← hE, hp]; rfl
    have HSM := Lib.hid (prsN_small hp hx)
    rw [hp] at HP
    have HPP := Lib.hid HP
    have HCK := Lib.hid (fun (av : Option Addr) (cv : Nat) W (h : RLies W av n) (hT : Tab W) => chk_core av cv n.length n W h rfl HSM.out hT)
    rw [← e1] at HCK
    by_cases hz0 : E = 0
    · rw [if_pos hz0] at e2
      subst e2
      subst hz0
      clear hE hV hp HP hb0 hq0 hz hT hS hW0 e1
      go_enter Tryz.func95, Tryz.ntmps95
      go_wp2_with (first
        | (go_at_call 137; (with_reducible refine HPP.out.mono ?_); rintro e w1 ⟨v, rfl, ho, hb1⟩; obtain ⟨s, rfl, hs⟩ := ho; obtain ⟨av, cv, rfl, _, hrl⟩ := hs.lies; have HRL := Lib.hid hrl; have HOW := Lib.hid hs; have hq := (hb1.block _ (one_facts HQ0.out).2.2).trans HQ0.out; have HQ := Lib.hid hq; have HB1 := Lib.hid (below_next HB0.out hb1); have HTB := Lib.hid (HT.out.below hb1); clear hb1 hq hs hrl)
        | (go_at_call 83; (with_reducible refine (HCK.out _ _ _ (HRL.out.below (belowNew w1 _)) (HTB.out.below (belowNew w1 _))).mono ?_); rintro e w2 ⟨rfl, hb2⟩; have hq := ((below_next (belowNew w1 _) hb2).block _ (one_facts HQ.out).2.2).trans HQ.out; have HQ2 := Lib.hid hq; obtain ⟨r0, g0, hlt0⟩ := one_facts hq; have hq1 := (hb2.block _ (by simp)).trans (heap_alloc_new w1 _); obtain ⟨m0, n0, hlt1⟩ := one_facts hq1; have HB2 := Lib.hid (below_next (belowNew w1 _) hb2); clear hb2 hq hq1))
      exact bodyPost_ret (nmRes rfl _ _ w _ rfl (one_set HQ2.out)) rfl ⟨_, rfl, ⟨_, rfl, ((HOW.out.below HB2.out).but (p := w.heap.size) (But.set _ _ _ _) (by have := HZ.out; omega)).base (by have := HZ.out; omega)⟩, (below_next HB1.out HB2.out).setCell (p := ⟨w.heap.size, 0, none⟩) (Nat.le_refl _) _⟩
    · rw [if_neg hz0] at e2
      subst e2
      have hz1 := errno_ne hz0
      clear hE hV hp HP hb0 hq0 hz hT hS hW0 e1
      go_enter Tryz.func95, Tryz.ntmps95
      go_wp2_with (first
        | (go_at_call 137; (with_reducible refine HPP.out.mono ?_); rintro e w1 ⟨v, rfl, ho, hb1⟩; obtain ⟨s, rfl, hs⟩ := ho; obtain ⟨av, cv, rfl, _, hrl⟩ := hs.lies; have HRL := Lib.hid hrl; have hq := (hb1.block _ (one_facts HQ0.out).2.2).trans HQ0.out; have HQ := Lib.hid hq; have HB1 := Lib.hid (below_next HB0.out hb1); have HTB := Lib.hid (HT.out.below hb1); clear hb1 hq hs hrl)
        | (go_at_call 83; (with_reducible refine (HCK.out _ _ _ (HRL.out.below (belowNew w1 _)) (HTB.out.below (belowNew w1 _))).mono ?_); rintro e w2 ⟨rfl, hb2⟩; have hq := ((below_next (belowNew w1 _) hb2).block _ (one_facts HQ.out).2.2).trans HQ.out; have HQ2 := Lib.hid hq; obtain ⟨r0, g0, hlt0⟩ := one_facts hq; have HB2 := Lib.hid (below_next (belowNew w1 _) hb2); clear hb2 hq))
      exact bodyPost_ret (nmRes rfl _ _ w _ rfl (one_set HQ2.out)) rfl ⟨_, rfl, ⟨_, rfl, OwnN.nil _ _⟩, (below_next HB1.out HB2.out).setCell (p := ⟨w.heap.size, 0, none⟩) (Nat.le_refl _) _⟩
end Go.Proofs.YtflpajbcomhkpaaGreatDoor
