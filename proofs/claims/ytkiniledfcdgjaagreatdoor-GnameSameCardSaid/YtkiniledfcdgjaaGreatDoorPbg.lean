/-
  The walk of the law GnameCheck: for every general name and every slice of ints it returns true, and leaves all that was there as it was.
  A name that can be read: its relative names lie at its address, and their attributes at theirs.
-/
import Derived.Test.YtkiniledfcdgjaaGreatDoorPbd
import Derived.Test.YtkiniledfcdgjaaGreatDoorPbf
import Derived.Deep.CutRange
import Derived.Deep.DeepCutAuto
import Derived.Deep.RegionWith
import Derived.Lib.QuietBelow
import Derived.BigQuiet
import Derived.Test.YtkiniledfcdgjaaGreatDoorPaj
import Derived.ProofKit
import Derived.OpenShut
import Derived.Deep.Slices
import Derived.Deep.Strs
import Derived.Deep.DeepHandedRow
namespace Go.Proofs.YtkiniledfcdgjaaGreatDoor
open Go.RowKit

theorem ShG.small {g : Gn} (h : ShG g) : SmallN g.2.2 := ShN.small h.2
theorem madeN_small {n : Nm} (h : MadeN n) : SmallN n := small_of_sp (spN_of_made h) (by omega)
/-- A row of two general names. -/
theorem glies_two {w : World} {g : Nat} {k q : Int} {t u : List UInt8} {n m : Nm} {a b : Option Addr} {c d : Nat} {T : TypeId} (h : w.heap[g]? = some (.cells #[.int .i64 k, .string (strOf t), .slice a n.length c, .int .i64 q, .string (strOf u), .slice b m.length d] T (0, 0)))
    (hc : n.length ≤ c) (hr : RLies w a n) (hd : m.length ≤ d) (hs : RLies w b m) : GLies w (some ⟨g, 0, none⟩) [(k, t, n), (q, u, m)] := by
  have cell : ∀ j v, #[Value.int .i64 k, .string (strOf t), .slice a n.length c, .int .i64 q, .string (strOf u), .slice b m.length d][j]? = some v → w.cell? ⟨g, j, none⟩ = some v := fun j v hv => by
    rw [Lib.cell_of_heap h]; exact hv
  refine .inr ⟨g, 0, rfl, fun i hi => ?_⟩
  have hi2 : i < 2 := hi
  obtain rfl | rfl : i = 0 ∨ i = 1 := by omega
  · exact ⟨cell 0 _ rfl, cell 1 _ rfl, a, c, cell 2 _ rfl, hc, hr⟩
  · exact ⟨cell 3 _ rfl, cell 4 _ rfl, b, d, cell 5 _ rfl, hd, hs⟩
theorem bools_at (W : World) (T : TypeId) (j : Nat) (hj : j < 2) : (W.alloc (.cells #[.bool false, .bool true] T)).cell? ⟨W.heap.size, j, none⟩ = some (.bool (decide (j = 1))) := by
  rw [cell_of_row _ _ j _ _ _ (heap_alloc_new W _)]
  obtain rfl | rfl : j = 0 ∨ j = 1 := by omega <;> rfl
  · rfl
  · rfl

set_option maxRecDepth 100000 in
set_option maxHeartbeats 8000000 in
theorem gchklaw (hPC : PChk) (hPE : PEnc) (hPM : PMatch) (a0 : Option Addr) (c m : Nat) (k : Int) (t : List UInt8) (n : Nm) (a : Option Addr) (cap : Nat) (zs : List Int) (w : World) (h : RLies w a0 n) (hn : m = n.length) (hc : m ≤ c) (hq : BigG (k, t, n)) (hl : ILies w a zs) (hz : zs.length ≤ 9223372036854775807) (hT : Tab w) (hm : Mk w) :
    Calls Tryz.prog 3 #[.agg #[.int .i64 k, .string (strOf t), .slice a0 m c], .slice a zs.length cap] w fun e w' => e = .returned (.bool true) ∧ Below w.heap.size w w' := by
  obtain ⟨W0, hW0⟩ : ∃ W0, W0 = w.alloc (.cells #[.int .i64 k, .string (strOf t), .slice a0 m c] 26) := ⟨_, rfl⟩
  have hwr : w.alloc (.cells #[.int .i64 k, .string (strOf t), .slice a0 m c] 26) = W0 := hW0.symm
  have hb0 : Below w.heap.size w W0 := by rw [hW0]; exact belowNew w _
  have hq0 : W0.heap[w.heap.size]? = some (.cells #[.int .i64 k, .string (strOf t), .slice a0 m c] 26 (0, 0)) := by rw [hW0]; exact heap_alloc_new w _
  obtain ⟨c0, c1, c2, l0⟩ := three_facts hq0
  have HB0 := Lib.hid hb0
  have HS := Lib.hid (shortG_core a0 c m k t n W0 (h.below hb0) hn hc hq)
  have HR := Lib.hid (fun V (hb : Below w.heap.size w V) => h.below hb)
  have HAW := Lib.hid (fun V (hb : Below w.heap.size w V) => gawake_any hPE hPM V (hT.below hb) (hm.below hb))
  have HTA := Lib.hid (fun V (hb : Below w.heap.size w V) => hT.below hb)
  have HMX := Lib.hid (fun V (hb : Below w.heap.size w V) => hm.below hb)
  have HIL := Lib.hid (fun V (hb : Below w.heap.size w V) => hl.below hb (fun x hx hne => by
    rcases hl with h | ⟨b, o, rfl, h⟩
    · exact absurd h hne
    · obtain rfl := Option.some.inj hx
      cases zs with
      | nil => exact absurd rfl hne
      | cons z t => exact block_lt (h 0 (by simp))))
  have HZ := Lib.hid hz
  have HN := Lib.hid hn
  have HC := Lib.hid hc
  have HPC := Lib.hid hPC
  have HPE := Lib.hid hPE
  clear h hn hc hq hl hz hT hm hW0 hb0 hPC hPE hPM
  have HQ0 := Lib.hid hq0
  clear hq0
  go_enter Tryz.func3, Tryz.ntmps3
  go_wp2_with fail
  refine HS.out.mono ?_
  rintro e w1 ⟨hS, hb1⟩
  have HB1 := Lib.hid (below_next HB0.out hb1)
  have d0 := (hb1.cell (p := ⟨w.heap.size, 0, none⟩) l0).trans c0
  have d1 := (hb1.cell (p := ⟨w.heap.size, 1, none⟩) l0).trans c1
  have d2 := (hb1.cell (p := ⟨w.heap.size, 2, none⟩) l0).trans c2
  have l1 := Nat.lt_of_lt_of_le l0 hb1.size
  clear hb1 c0 c1 c2 l0 hwr HS HQ0
  rcases hS with ⟨rfl, hS⟩ | rfl
  case inr =>
    go_wp2_with (go_at_call 7; (with_reducible refine (HAW.out _ HB1.out).mono ?_); rintro e w2 ⟨rfl, hb2⟩; have HB2 := Lib.hid (below_next HB1.out hb2); clear hb2)
    go_ret
    exact ⟨rfl, HB2.out⟩
  have HSH := Lib.hid hS
  clear hS
  go_wp2_with fail
  go_cut [21, 22, 23] (fun s21 s22 s23 wx => ∃ (g : Nat) (q : Int) (u : List UInt8) (s : Nm), s21 = .slice (some ⟨g, 0, none⟩) 2 2 ∧ s22 = .int .i64 2 ∧ s23 = .int .i64 0 ∧ GLies wx (some ⟨g, 0, none⟩) [(k, t, n), (q, u, s)] ∧ u.length ≤ 64 ∧ SmallN s ∧ Below w.heap.size w wx)
  case first =>
    have HNW := Lib.hid (fun V (hb : Below w.heap.size w V) => new_any a cap zs V (HIL.out V hb) HZ.out)
    go_region_with (first
      | (go_at_call 9; (with_reducible refine (HNW.out _ (by first | exact HB1.out | exact HB1.out.drew)).mono ?_); rintro e w2 ⟨rfl, hd2, hb2⟩; have HD2 := Lib.hid (show DeckAt w2 w1.heap.size a cap zs 0 from hd2); have HB2 := Lib.hid (show Below w.heap.size w w2 by first | exact below_next HB1.out hb2 | exact below_next HB1.out.drew hb2); have e0 := (show w2.cell? ⟨w.heap.size, 0, none⟩ = _ from (hb2.cell (p := ⟨w.heap.size, 0, none⟩) l1).trans d0); have e1 := (show w2.cell? ⟨w.heap.size, 1, none⟩ = _ from (hb2.cell (p := ⟨w.heap.size, 1, none⟩) l1).trans d1); have e2 := (show w2.cell? ⟨w.heap.size, 2, none⟩ = _ from (hb2.cell (p := ⟨w.heap.size, 2, none⟩) l1).trans d2); have l2 := Nat.lt_of_lt_of_le l1 hb2.size; clear hb2 hd2)
      | (go_at_call 8; (with_reducible refine (some_any w1.heap.size a cap zs 0 w2 HD2.out (by omega)).mono ?_); rintro e w3 ⟨q, u, sv, s, k3, hu, hms, rfl, hso, hd3, hk3, hb3⟩; obtain ⟨a3, c3, rfl, hc3, hl3⟩ := hso.lies; have HL3 := Lib.hid hl3; have HC3 := Lib.hid hc3; have HU := Lib.hid hu; have hk9 := hb3.block w.heap.size l2 (by simp; omega); have g0 := (cell_same hk9 0).trans e0; have g1 := (cell_same hk9 1).trans e1; have g2 := (cell_same hk9 2).trans e2; have HMS := Lib.hid (madeN_small hms); have HB3 := Lib.hid (HB2.out.trans ((hb3.below (Nat.le_of_lt HD2.out.lt)).mono (Nat.le_of_lt l1))); clear hso hl3 hc3 hd3 hk3 hu hms hb3 hk9))
    all_goals go_wp2_with fail
    all_goals go_meet
    all_goals
      obtain rfl := HN.out
      exact ⟨w3.heap.size, q, u, s, rfl, rfl, rfl, glies_two (T := 26) (heap_alloc_new w3 _) HC.out (HR.out _ (HB3.out.alloc HB3.out.size _)) HC3.out (HL3.out.below (belowNew w3 _)), HU.out, HMS.out, HB3.out.alloc HB3.out.size _⟩
  case rest =>
    obtain ⟨g, q, u, s, rfl, rfl, rfl, hG, hu, hs, hb⟩ := hcut
    have HG := Lib.hid hG
    have HU := Lib.hid hu
    have HS := Lib.hid hs
    have HB4 := Lib.hid hb
    clear hG hu hs hb d0 d1 d2 l1 HIL HZ
    obtain ⟨L, hL⟩ : ∃ L : List Gn, L = [(k, t, n), (q, u, s)] := ⟨_, rfl⟩
    have HLL := Lib.hid (show L.length = 2 by rw [hL]; rfl)
    have HLS := Lib.hid (show ∀ i, i < 2 → (L.getD i noG).2.1.length ≤ 100000 ∧ SmallN (L.getD i noG).2.2 by
      intro i hi
      rw [hL]
      obtain rfl | rfl : i = 0 ∨ i = 1 := by omega
      · exact ⟨Nat.le_trans HSH.out.1 (by omega), HSH.out.small⟩
      · exact ⟨Nat.le_trans HU.out (by omega), HS.out⟩)
    rw [← hL] at HG
    obtain ⟨V, hV⟩ : ∃ V, V = wc := ⟨_, rfl⟩
    subst hV
    clear hL HSH HU HS HR HN HC
    go_wp2_with fail
    go_loopw [23] (fun i wr => ∃ j : Nat, j ≤ 2 ∧ i = .int .i64 (j : Int) ∧ Below V.heap.size V wr) (fun i _ => 2 - (intOf i).toNat)
    case atStart => exact ⟨0, Nat.zero_le _, rfl, Below.refl _ _⟩
    case round =>
      obtain ⟨wz, hwz⟩ : ∃ wz, wz = wr := ⟨_, rfl⟩
      subst hwz
      obtain ⟨j, hj, rfl, hb⟩ := hrel
      have HBJ := Lib.hid hb
      clear hb
      by_cases hlt : j < 2
      · have hd : decide ((j : Int) < 2) = true := decide_eq_true (by omega)
        obtain ⟨b, o, hbo, _, e0, e1, a1, x1, e2, hx1, hR1⟩ := (HG.out.below HBJ.out).at j (by rw [HLL.out]; exact hlt)
        obtain ⟨rfl, rfl⟩ : g = b ∧ 0 = o := by simpa using hbo
        rw [Nat.zero_add] at e0 e1 e2
        have hls := HLS.out j hlt
        generalize L.getD j noG = G at e0 e1 e2 hx1 hR1 hls
        obtain ⟨k1, t1, n1⟩ := G
        simp only at e0 e1 e2 hx1 hR1 hls
        obtain ⟨m1, hm1⟩ : ∃ m1, m1 = n1.length := ⟨_, rfl⟩
        rw [← hm1] at e2
        obtain ⟨W2, hW2⟩ : ∃ W2, W2 = wz.alloc (.cells #[.int .i64 k1, .string (strOf t1), .slice a1 m1 x1] 26) := ⟨_, rfl⟩
        obtain ⟨W3, hW3⟩ : ∃ W3, W3 = W2.alloc (.cells #[.bool false, .bool true] 4) := ⟨_, rfl⟩
        have hb2 : Below wz.heap.size wz W2 := by rw [hW2]; exact belowNew wz _
        have hb3 : Below W2.heap.size W2 W3 := by rw [hW3]; exact belowNew W2 _
        have hz2 : W2.heap.size = wz.heap.size + 1 := by rw [hW2]; simp
        have hq3 : W3.heap[wz.heap.size]? = some (.cells #[.int .i64 k1, .string (strOf t1), .slice a1 m1 x1] 26 (0, 0)) := (hb3.block _ (by omega)).trans (by rw [hW2]; exact heap_alloc_new wz _)
        have hbl : ∀ i, i < 2 → W3.cell? ⟨wz.heap.size + 1, i, none⟩ = some (.bool (decide (i = 1))) := fun i hi => by
          have := bools_at W2 4 i hi
          rw [← hW3, hz2] at this
          exact this
        have HB3 := Lib.hid (below_next hb2 hb3)
        have HQ3 := Lib.hid hq3
        have HBL := Lib.hid hbl
        have HR3 := Lib.hid (fun W (hb : Below wz.heap.size wz W) => hR1.below hb)
        have HM1 := Lib.hid hm1
        have HT1 := Lib.hid hls.1
        have HS1 := Lib.hid hls.2
        have lz3 : wz.heap.size + 1 < W3.heap.size := by rw [hW3]; simp; omega
        have HWE := hW2.symm
        have HWE3 := hW3.symm
        have HLT := Lib.hid hlt
        clear hbo hx1 hR1 hls hm1 hb2 hb3 hq3 hbl hW2 hW3
        go_wp2_with fail
        clear e0 e1 e2 hd HWE HWE3 hz2 hlt
        go_loopw [29] (fun i wr => ∃ i1 : Nat, i1 ≤ 2 ∧ i = .int .i64 (i1 : Int) ∧ Below W3.heap.size W3 wr) (fun i _ => 2 - (intOf i).toNat)
        case atStart => exact ⟨0, Nat.zero_le _, rfl, Below.refl _ _⟩
        case round =>
          obtain ⟨wy, hwy⟩ : ∃ wy, wy = wr := ⟨_, rfl⟩
          subst hwy
          obtain ⟨i1, hi1, rfl, hb⟩ := hrel
          have HBI := Lib.hid hb
          clear hb
          by_cases hlt : i1 < 2
          · have hd : decide ((i1 : Int) < 2) = true := decide_eq_true (by omega)
            have hcb := (HBI.out.cell (p := ⟨wz.heap.size + 1, i1, none⟩) lz3).trans (HBL.out i1 hlt)
            generalize decide (i1 = 1) = con at hcb
            obtain ⟨f0, f1, f2, lq⟩ := three_facts ((HBI.out.block wz.heap.size (by omega)).trans HQ3.out)
            have HBW := Lib.hid (HB3.out.trans (HBI.out.mono HB3.out.size))
            have HB5 := Lib.hid (HB4.out.trans ((HBJ.out.trans (HBW.out.mono HBJ.out.size)).mono HB4.out.size))
            have P1 := Lib.hid (HPE.out a1 x1 m1 k1 t1 n1 con wy (HR3.out _ HBW.out) HM1.out HT1.out HS1.out (HTA.out _ HB5.out) (HMX.out _ HB5.out))
            have P2 := Lib.hid (fun W (hb : Below wy.heap.size wy W) => rencG_core a1 x1 m1 k1 t1 n1 con W ((HR3.out _ HBW.out).below hb) HM1.out HT1.out HS1.out)
            have P3 := Lib.hid (fun W (hb : Below wy.heap.size wy W) => HPC.out a1 x1 m1 k1 t1 n1 con W ((HR3.out _ HBW.out).below hb) HM1.out HT1.out HS1.out (HTA.out _ (below_next HB5.out hb)) (HMX.out _ (below_next HB5.out hb)))
            have P4 := Lib.hid (fun W (hb : Below wy.heap.size wy W) => rchkG_core a1 x1 m1 k1 t1 n1 con W ((HR3.out _ HBW.out).below hb) HM1.out HT1.out HS1.out)
            generalize encG con k1 t1 n1 = S at P1 P2
            generalize chkG con k1 t1 n1 = E at P1 P2 P3 P4
            have HBI2 := Lib.hid hi1
            clear hi1
            go_upto_region 11 with (first
              | (go_at_call 10; (with_reducible refine P1.out.mono ?_); rintro e y1 ⟨rfl, hb1⟩; have HY1 := Lib.hid hb1; have g0 := (hb1.cell (p := ⟨wz.heap.size, 0, none⟩) lq).trans f0; have g1 := (hb1.cell (p := ⟨wz.heap.size, 1, none⟩) lq).trans f1; have g2 := (hb1.cell (p := ⟨wz.heap.size, 2, none⟩) lq).trans f2; have ly := Nat.lt_of_lt_of_le lq hb1.size; clear hb1)
              | (go_at_call 11; (with_reducible refine (P2.out _ HY1.out).mono ?_); rintro e y2 ⟨rfl, hb2⟩; have HY2 := Lib.hid (below_next HY1.out hb2); have h0 := (hb2.cell (p := ⟨wz.heap.size, 0, none⟩) ly).trans g0; have h1 := (hb2.cell (p := ⟨wz.heap.size, 1, none⟩) ly).trans g1; have h2 := (hb2.cell (p := ⟨wz.heap.size, 2, none⟩) ly).trans g2; clear hb2))
            have q0 := cell_regrown h0
            have q1 := cell_regrown h1
            have q2 := cell_regrown h2
            have z1 : ∀ d os, _ := fun d os => Calls.regrown_of (P3.out (Sort.grow (redrawn y2 d) os) (below_next HY2.out (below_regrown y2 d os)))
            have z2 : ∀ d os, _ := fun d os => Calls.regrown_of (P4.out (Sort.grow (redrawn y2 d) os) (below_next HY2.out (below_regrown y2 d os)))
            clear f0 f1 f2 g0 g1 g2 h0 h1 h2 hcb lq ly
            refine wp_region_quiet_below (by kernel_rfl) (by kernel_rfl) ?_
            repeat (go_big_quiet_step (with_reducible first | exact z1 _ _ | exact z2 _ _))
            refine wpQuiet_nil ?_
            intro _ hw'
            obtain ⟨⟨dq, osq⟩, hw''⟩ := hw'
            subst hw''
            have HBR := Lib.hid (HBI.out.trans ((below_next HY2.out (below_regrown y2 dq osq)).mono HBI.out.size))
            clear q0 q1 q2 z1 z2
            go_wp2_with fail
            go_roundw
            case rel => exact ⟨i1 + 1, by omega, by go_num, HBR.out⟩
            case measure => simp [intOf]; omega
          · have ei : i1 = 2 := by omega
            subst ei
            have hd : decide (((2 : Nat) : Int) < 2) = false := by decide
            have HZZ := Lib.hid (HBJ.out.trans ((HB3.out.trans (HBI.out.mono HB3.out.size)).mono HBJ.out.size))
            go_wp2_with fail
            go_roundw
            case rel => exact ⟨j + 1, by have := HLT.out; omega, by go_num, HZZ.out⟩
            case measure => have := HLT.out; simp [intOf]; omega
      · have ej : j = 2 := by omega
        subst ej
        have hd : decide (((2 : Nat) : Int) < 2) = false := by decide
        have HZD := Lib.hid (HB4.out.trans (HBJ.out.mono HB4.out.size))
        go_wp2_with (go_at_call 7; (with_reducible refine (HAW.out _ HZD.out).mono ?_); rintro e w9 ⟨rfl, hb9⟩; have HY9 := Lib.hid (below_next HZD.out hb9); clear hb9)
        go_ret
        exact ⟨rfl, HY9.out⟩
end Go.Proofs.YtkiniledfcdgjaaGreatDoor
namespace Go.Proofs.YtkiniledfcdgjaaGreatDoor
open Go.ChangeShapes Go.WideShapes Go.ChangeAt Go.RowKit Go.ChangeMaps Go.Deep

def AtOk (a : At) : Prop := a.1.size ≤ 9223372036854775807 ∧ a.2.2.size ≤ 9223372036854775807 ∧ -9223372036854775808 ≤ a.2.1 ∧ a.2.1 ≤ 9223372036854775807
def RdnOk (r : List At) : Prop := r.length ≤ 9223372036854775807 ∧ ∀ i, i < r.length → AtOk (r.getD i noAt)
def NameOk (n : Nm) : Prop := n.length ≤ 9223372036854775807 ∧ ∀ i, i < n.length → RdnOk (n.getD i [])

theorem getD_map_range {α : Type} (f : Nat → α) (n i : Nat) (h : i < n) (d : α) : ((List.range n).map f).getD i d = f i := by
  rw [List.getD_eq_getElem?_getD, List.getElem?_map, List.getElem?_range h]; rfl
set_option maxRecDepth 10000 in
/-- One attribute, of three cells. -/
theorem open_at {H : Type} {enc : TypeId × Value → H} {W : World} {n : Nat} {cs : List Value} {x : DataW H × List MemPlace} (h : DataW.trod enc Tryz.prog W 0 (fun _ => true) true n 68 cs = some x) :
    ∃ t : At, cs = [.string t.1, .int .i64 t.2.1, .string t.2.2] ∧ AtOk t := by
  obtain ⟨xs, k, _, _, hl, hlen, hfd⟩ := DataW.trod_struct Tryz.underlying68 h
  have c1 : Tryz.prog.cellsOf 3 = 1 := by kernel_rfl
  have c2 : Tryz.prog.cellsOf 9 = 1 := by kernel_rfl
  have c3 : Tryz.prog.cellsOf 68 = 3 := by kernel_rfl
  have hlen3 : xs.length = 3 := hlen
  have hs3 : cs.length = 3 := hl.trans c3
  match xs, hlen3 with
  | [y0, y1, y2], _ =>
    match cs, hs3 with
    | [z0, z1, z2], _ =>
      have g0 : DataW.trod enc Tryz.prog W 0 (fun _ => true) true k 9 (([z0, z1, z2].drop 0).take (Tryz.prog.cellsOf 9)) = some y0 := hfd 0 _ rfl
      rw [c2] at g0
      obtain ⟨s0, e0, _, w0⟩ := DataW.trod_string Tryz.underlying9 g0
      have g1 : DataW.trod enc Tryz.prog W 0 (fun _ => true) true k 3 (([z0, z1, z2].drop 1).take (Tryz.prog.cellsOf 3)) = some y1 := hfd 1 _ rfl
      rw [c1] at g1
      obtain ⟨n1, e1, _, w1⟩ := DataW.trod_int Tryz.underlying3 g1
      have g2 : DataW.trod enc Tryz.prog W 0 (fun _ => true) true k 9 (([z0, z1, z2].drop 2).take (Tryz.prog.cellsOf 9)) = some y2 := hfd 2 _ rfl
      rw [c2] at g2
      obtain ⟨s2, e2, _, w2⟩ := DataW.trod_string Tryz.underlying9 g2
      have r0 : z0 = .string s0 := by simpa using e0
      have r1 : z1 = .int .i64 n1 := by simpa using e1
      have r2 : z2 = .string s2 := by simpa using e2
      have b1 := bounds_i64 w1
      refine ⟨(s0, n1, s2), by rw [r0, r1, r2], ?_, ?_, ?_, ?_⟩
      · show s0.size ≤ _
        unfold maxLen at w0; omega
      · show s2.size ≤ _
        unfold maxLen at w2; omega
      · exact b1.1
      · exact b1.2
set_option maxRecDepth 10000 in
theorem open_ats {H : Type} {enc : TypeId × Value → H} {W : World} {n : Nat} {z : Value} {x : DataW H × List MemPlace} (h : DataW.trod enc Tryz.prog W 0 (fun _ => true) true n 66 [z] = some x) :
    ∃ a c, ∃ l : List At, z = .slice a l.length c ∧ l.length ≤ c ∧ ALies W a l ∧ RdnOk l := by
  have c3 : Tryz.prog.cellsOf 68 = 3 := by kernel_rfl
  rcases open_slice Tryz.underlying66 h with ⟨hcs, _⟩ | ⟨a, len, cap, m, k, D, Pl, hcs, _, hl, hm, hmm, _, hx⟩
  · exact ⟨none, 0, [], by simpa using hcs, by simp, .inl rfl, by simp, fun i hi => absurd hi (Nat.not_lt_zero _)⟩
  · have hlm : len ≤ m := by rw [hmm]; split <;> omega
    obtain ⟨f, hf⟩ := choose_lt (α := At) (n := len) (p := fun i t => AtOk t ∧ W.cell? (a.add (i * 3)) = some (.string t.1) ∧ W.cell? (a.add (i * 3 + 1)) = some (.int .i64 t.2.1) ∧ W.cell? (a.add (i * 3 + 2)) = some (.string t.2.2)) (fun i hi => by
      obtain ⟨cs', h1, h2⟩ := hx i (by omega)
      obtain ⟨t, rfl, ht⟩ := open_at h2
      rw [c3] at h1
      obtain ⟨_, _, hc⟩ := World.cells?_some h1
      have e0 := hc 0 (by omega)
      have e1 := hc 1 (by omega)
      have e2 := hc 2 (by omega)
      rw [add_add] at e0 e1 e2
      exact ⟨t, ht, by simpa using e0, by simpa using e1, by simpa using e2⟩)
    refine ⟨some a, cap, (List.range len).map f, by simpa using hcs, by simpa using hl, ?_, by simp; unfold maxLen at hm; omega, fun i hi => ?_⟩
    · by_cases h0 : len = 0
      · exact .inl (by rw [h0]; rfl)
      · obtain ⟨b, off, spot⟩ := a
        have hspot : spot = none := by
          have := (hf 0 (by omega)).2.1
          simpa [Addr.add] using World.cell?_spot this
        subst hspot
        refine .inr ⟨b, off, rfl, fun i hi => ?_⟩
        simp at hi
        rw [getD_map_range _ _ _ hi]
        have hh := (hf i hi).2
        rw [Go.WideShapes.add_plain, Go.WideShapes.add_plain, Go.WideShapes.add_plain] at hh
        simpa [Nat.add_assoc] using hh
    · simp at hi
      rw [getD_map_range _ _ _ hi]
      exact (hf i hi).1
set_option maxRecDepth 10000 in
theorem open_rdns {H : Type} {enc : TypeId × Value → H} {W : World} {n : Nat} {z : Value} {x : DataW H × List MemPlace} (h : DataW.trod enc Tryz.prog W 0 (fun _ => true) true n 22 [z] = some x) :
    ∃ a c, ∃ l : Nm, z = .slice a l.length c ∧ l.length ≤ c ∧ RLies W a l ∧ NameOk l := by
  have c1 : Tryz.prog.cellsOf 66 = 1 := by kernel_rfl
  rcases open_slice1 Tryz.underlying22 c1 h with ⟨hcs, _⟩ | ⟨a, len, cap, m, k, V, D, Pl, hcs, _, hl, hm, hmm, _, hx⟩
  · exact ⟨none, 0, [], by simpa using hcs, by simp, .inl rfl, by simp, fun i hi => absurd hi (Nat.not_lt_zero _)⟩
  · have hlm : len ≤ m := by rw [hmm]; split <;> omega
    obtain ⟨f, hf⟩ := choose_lt (α := List At) (n := len) (p := fun i r => RdnOk r ∧ ∃ a' c', W.cell? (a.add i) = some (.slice a' r.length c') ∧ r.length ≤ c' ∧ ALies W a' r) (fun i hi => by
      obtain ⟨h1, h2⟩ := hx i (by omega)
      obtain ⟨a', c', l, e, hl3, hl, hk⟩ := open_ats h2
      exact ⟨l, hk, a', c', by rw [← e]; exact h1, hl3, hl⟩)
    refine ⟨some a, cap, (List.range len).map f, by simpa using hcs, by simpa using hl, ?_, by simp; unfold maxLen at hm; omega, fun i hi => ?_⟩
    · by_cases h0 : len = 0
      · exact .inl (by rw [h0]; rfl)
      · obtain ⟨b, off, spot⟩ := a
        have hspot : spot = none := by
          obtain ⟨_, _, _, q, _⟩ := hf 0 (by omega)
          simpa [Addr.add] using World.cell?_spot q
        subst hspot
        refine .inr ⟨b, off, rfl, fun i hi => ?_⟩
        simp at hi
        rw [getD_map_range _ _ _ hi]
        obtain ⟨_, a', c', q1, q3, q2⟩ := hf i hi
        rw [Go.WideShapes.add_plain] at q1
        exact ⟨a', c', q1, q3, q2⟩
    · simp at hi
      rw [getD_map_range _ _ _ hi]
      exact (hf i hi).1
set_option maxRecDepth 10000 in
theorem open_name {H : Type} {enc : TypeId × Value → H} {W : World} {r : Reach} {b0 : Nat} {v : Value} {d : DataW H} {p : List MemPlace}
    (hval : Value.okWide Tryz.prog W r b0 24 v) (h : DataW.Trod enc Tryz.prog W 0 (fun _ => true) true 24 v d p) : ∃ n, NameV W v n ∧ NameOk n := by
  unfold Value.okWide at hval
  rw [Tryz.underlying24] at hval
  obtain ⟨cs, rfl, hsz, _⟩ := hval
  obtain ⟨fuel, hf⟩ := h
  have cb : Tryz.prog.cellsOf 22 = 1 := by kernel_rfl
  obtain ⟨xs, k, _, _, _, hlen, hfd⟩ := DataW.trod_struct Tryz.underlying24 hf
  have hlen1 : xs.length = 1 := hlen
  have hs1 : cs.toList.length = 1 := hsz
  match xs, hlen1 with
  | [y0], _ =>
    match hcs : cs.toList, hs1 with
    | [z0], _ =>
      have hcl : (Value.agg cs).cells.toList = [z0] := hcs
      rw [hcl] at hfd
      have g0 : DataW.trod enc Tryz.prog W 0 (fun _ => true) true k 22 (([z0].drop 0).take (Tryz.prog.cellsOf 22)) = some y0 := hfd 0 _ rfl
      rw [cb] at g0
      obtain ⟨a, c, n, e, h3, h1, h2⟩ := open_rdns (z := z0) (by simpa using g0)
      refine ⟨n, ⟨a, c, ?_, h3, h1⟩, h2⟩
      congr 1
      apply Array.toList_inj.1
      rw [hcs, e]
end Go.Proofs.YtkiniledfcdgjaaGreatDoor
