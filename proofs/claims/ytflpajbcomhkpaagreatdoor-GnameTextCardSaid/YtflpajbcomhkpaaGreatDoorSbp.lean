/-
  The walk of the law GnameText: for every general name, every string, every slice of ints and every slice of bytes it returns true, and leaves all that was there as it was.
  A general name that can be read: its cells, and what lies behind its name.
  What every card of this seat's laws over gname needs: how a slice of bytes is opened, how seven arguments are opened, and that the laws' functions only read what they are handed.
  A slice of numbers that can be read: its numbers lie at its address.
  What every card of this seat's laws over gname needs: the tables that the rows list.
-/
import Derived.Test.YtflpajbcomhkpaaGreatDoorSbk
import Derived.Test.YtflpajbcomhkpaaGreatDoorSbo
import Derived.Test.YtflpajbcomhkpaaGreatDoorSbe
import Derived.Test.YtflpajbcomhkpaaGreatDoorSbm
import Derived.Test.YtflpajbcomhkpaaGreatDoorSbc
import Derived.Test.YtflpajbcomhkpaaGreatDoorCards
import Derived.Test.YtflpajbcomhkpaaGreatDoorTie
import Derived.Test.YtflpajbcomhkpaaGreatDoorSax
import Derived.Test.YtflpajbcomhkpaaGreatDoorSak
import Derived.ProofKit
import Derived.OpenShut
import Derived.Deep.DeepHandedRow
import Derived.Deep.DeepWitnessRowRef
import Derived.Lay
import Derived.Stop.LaidErr
import Derived.Test.YtflpajbcomhkpaaGreatDoorSah
import Derived.Test.YtflpajbcomhkpaaGreatDoorSaa
import Derived.Lib.LaidIn
import Derived.Test.YtflpajbcomhkpaaGreatDoorSam
import Derived.ChangeSame
import Derived.Lib.LaidU8T
namespace Go.Proofs.YtflpajbcomhkpaaGreatDoor
open Go.RowKit

theorem BLies.below_of {B : Nat} {w w' : World} {a : Option Addr} {l : List UInt8} (h : BLies w a l) (hb : Below B w w') (hB : B = w.heap.size) : BLies w' a l := by
  subst hB; exact h.below hb
theorem short_typesG {n : Nm} (h : ShN n) : ∀ r ∈ n, ∀ x ∈ r, x.1.size ≤ 200000 := by
  intro r hr x hx
  obtain ⟨i, hi, rfl⟩ := List.getElem_of_mem hr
  have h1 := (h.2 i hi).2
  rw [getD_mem hi _] at h1
  obtain ⟨j, hj, rfl⟩ := List.getElem_of_mem hx
  have h2 := (h1 j hj).1
  rw [getD_mem hj _] at h2
  omega
theorem made_typesG {n : Nm} (h : MadeN n) : ∀ r ∈ n, ∀ x ∈ r, x.1.size ≤ 200000 := fun r hr x hx => by have := (((spN_of_made h).2 r hr).2 x hx).1; omega
theorem parG_small {s : List UInt8} (h : s.length ≤ 150000) : SmallN (parG s).2.2.2 := by
  have h0 : SmallN [] := ⟨by decide, fun i hi => absurd hi (Nat.not_lt_zero _)⟩
  unfold parG genC
  split
  · exact h0
  · split
    · exact h0
    · exact (prtP_small (Nat.le_trans (cutW_len s) h)).2
theorem tab_word (W : World) (q : Nat) (hq : q < 16) : ∃ X : ByteArray, (W.alloc (.cells #[.string ⟨#[100, 110, 115, 58]⟩, .string ⟨#[109, 97, 105, 108, 58]⟩, .string ⟨#[105, 112, 58]⟩, .string ⟨#[100, 105, 114, 58]⟩, .string ⟨#[79, 61, 120]⟩, .string ⟨#[97, 46, 98]⟩, .string ⟨#[42, 46]⟩, .string ⟨#[97, 110, 110, 64]⟩, .string ⟨#[46]⟩, .string ⟨#[48, 97]⟩, .string ⟨#[48, 97, 48, 49, 48, 50, 48, 51]⟩, .string ⟨#[102, 102, 48, 48, 48, 48, 48, 48]⟩, .string ⟨#[92, 50, 99]⟩, .string ⟨#[58]⟩, .string ⟨#[67, 78, 61]⟩, .string ⟨#[]⟩] 9)).cell? ⟨W.heap.size, q, none⟩ = some (.string X) ∧ X.size ≤ 8 := by
  have hc : ∀ j, (W.alloc (.cells #[.string ⟨#[100, 110, 115, 58]⟩, .string ⟨#[109, 97, 105, 108, 58]⟩, .string ⟨#[105, 112, 58]⟩, .string ⟨#[100, 105, 114, 58]⟩, .string ⟨#[79, 61, 120]⟩, .string ⟨#[97, 46, 98]⟩, .string ⟨#[42, 46]⟩, .string ⟨#[97, 110, 110, 64]⟩, .string ⟨#[46]⟩, .string ⟨#[48, 97]⟩, .string ⟨#[48, 97, 48, 49, 48, 50, 48, 51]⟩, .string ⟨#[102, 102, 48, 48, 48, 48, 48, 48]⟩, .string ⟨#[92, 50, 99]⟩, .string ⟨#[58]⟩, .string ⟨#[67, 78, 61]⟩, .string ⟨#[]⟩] 9)).cell? ⟨W.heap.size, j, none⟩ = (#[.string ⟨#[100, 110, 115, 58]⟩, .string ⟨#[109, 97, 105, 108, 58]⟩, .string ⟨#[105, 112, 58]⟩, .string ⟨#[100, 105, 114, 58]⟩, .string ⟨#[79, 61, 120]⟩, .string ⟨#[97, 46, 98]⟩, .string ⟨#[42, 46]⟩, .string ⟨#[97, 110, 110, 64]⟩, .string ⟨#[46]⟩, .string ⟨#[48, 97]⟩, .string ⟨#[48, 97, 48, 49, 48, 50, 48, 51]⟩, .string ⟨#[102, 102, 48, 48, 48, 48, 48, 48]⟩, .string ⟨#[92, 50, 99]⟩, .string ⟨#[58]⟩, .string ⟨#[67, 78, 61]⟩, .string ⟨#[]⟩] : Array Value)[j]? := fun j => cell_of_row _ _ j _ _ _ (heap_alloc_new W _)
  rcases (by omega : q = 0 ∨ q = 1 ∨ q = 2 ∨ q = 3 ∨ q = 4 ∨ q = 5 ∨ q = 6 ∨ q = 7 ∨ q = 8 ∨ q = 9 ∨ q = 10 ∨ q = 11 ∨ q = 12 ∨ q = 13 ∨ q = 14 ∨ q = 15) with rfl | rfl | rfl | rfl | rfl | rfl | rfl | rfl | rfl | rfl | rfl | rfl | rfl | rfl | rfl | rfl
  · exact ⟨_, hc 0, by decide⟩
  · exact ⟨_, hc 1, by decide⟩
  · exact ⟨_, hc 2, by decide⟩
  · exact ⟨_, hc 3, by decide⟩
  · exact ⟨_, hc 4, by decide⟩
  · exact ⟨_, hc 5, by decide⟩
  · exact ⟨_, hc 6, by decide⟩
  · exact ⟨_, hc 7, by decide⟩
  · exact ⟨_, hc 8, by decide⟩
  · exact ⟨_, hc 9, by decide⟩
  · exact ⟨_, hc 10, by decide⟩
  · exact ⟨_, hc 11, by decide⟩
  · exact ⟨_, hc 12, by decide⟩
  · exact ⟨_, hc 13, by decide⟩
  · exact ⟨_, hc 14, by decide⟩
  · exact ⟨_, hc 15, by decide⟩
set_option maxRecDepth 100000 in
set_option maxHeartbeats 16000000 in
theorem gtxtlaw (hPE : PEnc) (hPM : PMatch) (a0 : Option Addr) (c m : Nat) (k : Int) (t : List UInt8) (n : Nm) (s : ByteArray) (a : Option Addr) (cap : Nat) (zs : List Int) (b0 : Option Addr) (cb N : Nat) (M : List UInt8) (w : World) (h : RLies w a0 n) (hn : m = n.length) (hc : m ≤ c) (hq : BigG (k, t, n))
    (hl : ILies w a zs) (hz : zs.length ≤ 9223372036854775807) (hM : BLies w b0 M) (hN : N = M.length) (_ : N ≤ 9223372036854775807) (hT : Tab w) (hS : ShT w) (hm : Mk w) :
    Calls Tryz.prog 5 #[.agg #[.int .i64 k, .string (strOf t), .slice a0 m c], .string s, .slice a zs.length cap, .slice b0 N cb] w fun e w' => e = .returned (.bool true) ∧ Below w.heap.size w w' := by
  obtain ⟨W0, hW0⟩ : ∃ W0, W0 = w.alloc (.cells #[.int .i64 k, .string (strOf t), .slice a0 m c] 32) := ⟨_, rfl⟩
  have hwr : w.alloc (.cells #[.int .i64 k, .string (strOf t), .slice a0 m c] 32) = W0 := hW0.symm
  have hb0 : Below w.heap.size w W0 := by rw [hW0]; exact belowNew w _
  have hq0 : W0.heap[w.heap.size]? = some (.cells #[.int .i64 k, .string (strOf t), .slice a0 m c] 32 (0, 0)) := by rw [hW0]; exact heap_alloc_new w _
  obtain ⟨c0, c1, c2, l0⟩ := three_facts hq0
  have HB0 := Lib.hid hb0
  have HS := Lib.hid (shortG_core a0 c m k t n W0 (h.below hb0) hn hc hq)
  have HR := Lib.hid (fun V (hb : Below w.heap.size w V) => h.below hb)
  have HAW := Lib.hid (fun V (hb : Below w.heap.size w V) => gawake_any hPE hPM V (hT.below hb) (hm.below hb))
  have HNW := Lib.hid (fun V (hb : Below w.heap.size w V) => new_any a cap zs V (hl.below hb (fun x hx hne => by
    rcases hl with h | ⟨b, o, rfl, h⟩
    · exact absurd h hne
    · obtain rfl := Option.some.inj hx
      cases zs with
      | nil => exact absurd rfl hne
      | cons z t => exact block_lt (h 0 (by simp)))) hz)
  have HFM := Lib.hid (fun V (hb : Below w.heap.size w V) a1 c1 N (q : Int) (u : List UInt8) (r : Nm) (hl : RLies V a1 r) (hN : N = r.length) (hu : u.length ≤ 150000) (hs : SmallN r) (h2 : ∀ z ∈ r, ∀ x ∈ z, x.1.size ≤ 200000) => gfmt_core a1 c1 N q u r V hl hN hu hs h2 (hT.below hb) (hS.below hb) (hm.below hb).2)
  have HPA := Lib.hid (fun V (hb : Below w.heap.size w V) x (hx : x.length ≤ 150000) => gpar_core x V hx (hT.below hb) (hS.below hb) (hm.below hb))
  have HML := Lib.hid (fun V (hb : Below w.heap.size w V) => BLies.below_of hM hb rfl)
  have HN := Lib.hid hn
  have HC := Lib.hid hc
  have HNN := Lib.hid hN
  clear h hn hc hq hl hz hT hS hm hM hN hW0 hb0 hPE hPM
  go_enter Tryz.func5, Tryz.ntmps5
  go_wp2_with fail
  refine HS.out.mono ?_
  rintro e w1 ⟨hS, hb1⟩
  have HB1 := Lib.hid (below_next HB0.out hb1)
  have HQ1 := Lib.hid ((hb1.block w.heap.size l0).trans hq0)
  clear hb1 c0 c1 c2 l0 hwr HS hq0
  rcases hS with ⟨rfl, hS⟩ | rfl
  case inr =>
    go_wp2_with (go_at_call 7; (with_reducible refine (HAW.out _ HB1.out).mono ?_); rintro e w2 ⟨rfl, hb9⟩; have HZ1 := Lib.hid (below_next HB1.out hb9); clear hb9)
    go_ret
    exact ⟨rfl, HZ1.out⟩
  have HSH := Lib.hid hS
  clear hS
  by_cases h3 : 200 < s.size
  · have hd : decide ((200 : Int) < (s.size : Int)) = true := decide_eq_true (by omega)
    clear h3
    go_wp2_with (go_at_call 7; (with_reducible refine (HAW.out _ HB1.out).mono ?_); rintro e w2 ⟨rfl, hb9⟩; have HZ1 := Lib.hid (below_next HB1.out hb9); clear hb9)
    go_ret
    exact ⟨rfl, HZ1.out⟩
  have hd : decide ((200 : Int) < (s.size : Int)) = false := decide_eq_false (by omega)
  have HSZ := Lib.hid (show s.size ≤ 200 by omega)
  have HNW1 := Lib.hid (HNW.out w1 HB1.out)
  clear h3
  go_upto_region 4 with (go_at_call 8; (with_reducible refine HNW1.out.mono ?_); rintro e w2 ⟨rfl, hd2, hb2⟩; have HD2 := Lib.hid hd2; have HB2 := Lib.hid (below_next HB1.out hb2); have HQ2 := Lib.hid ((hb2.block w.heap.size (Array.getElem?_eq_some_iff.1 HQ1.out).1).trans HQ1.out); clear hd2 hb2)
  obtain ⟨p, hp⟩ : ∃ p, p = w1.heap.size := ⟨_, rfl⟩
  have hp0 : w.heap.size < p := by rw [hp]; exact (Array.getElem?_eq_some_iff.1 HQ1.out).1
  rw [← hp] at HD2 ⊢
  obtain ⟨x0, x1, x2, lx⟩ := three_facts HQ2.out
  have HSM := Lib.hid (fun U (h : DeckAt U p a cap zs 0) => some_any p a cap zs 0 U h (by omega))
  clear hp HNW HNW1 hd
  go_cut [38, 39, 40] (fun s38 s39 s40 wx => ∃ (g : Nat) (q : Int) (u : List UInt8) (r : Nm), s38 = .slice (some ⟨g, 0, none⟩) 2 2 ∧ s39 = .int .i64 2 ∧ s40 = .int .i64 0 ∧ GLies wx (some ⟨g, 0, none⟩) [(k, t, n), (q, u, r)] ∧ u.length ≤ 64 ∧ MadeN r ∧ Below w.heap.size w wx)
  case first =>
    go_region_held3 (fun w' => w'.cell? ⟨w.heap.size, 0, none⟩ = some (.int .i64 k) ∧ w'.cell? ⟨w.heap.size, 1, none⟩ = some (.string (strOf t)) ∧ w'.cell? ⟨w.heap.size, 2, none⟩ = some (.slice a0 m c)) (first | exact ⟨by assumption, by assumption, by assumption⟩ | go_keep)
      (first | (go_at_call 9; (with_reducible refine (HSM.out _ (by first | exact HD2.out | exact deck_up HD2.out)).mono ?_); rintro e w3 ⟨q, u, sv, r, k3, hu, hms, rfl, hso, hd3, hk3, hb3⟩; have hbx : But p w2 w3 := (by first | exact hb3 | exact ((But.refl p w2).drew).next hb3); obtain ⟨a3, c3, rfl, hc3, hl3⟩ := hso.lies; have HL3 := Lib.hid hl3; have HC3 := Lib.hid hc3; have HU := Lib.hid hu; have HMS := Lib.hid hms; have g0 := (cell_same (hbx.block _ lx (by simp; omega)) 0).trans x0; have g1 := (cell_same (hbx.block _ lx (by simp; omega)) 1).trans x1; have g2 := (cell_same (hbx.block _ lx (by simp; omega)) 2).trans x2; have HB3 := Lib.hid (show Below w.heap.size w w3 from HB2.out.trans ((hbx.below (Nat.le_of_lt HD2.out.lt)).mono (Nat.le_of_lt hp0))); clear hso hl3 hc3 hd3 hk3 hu hms hb3 hbx))
    all_goals go_wp2_with fail
    all_goals go_meet
    all_goals
      obtain rfl := HN.out
      exact ⟨w3.heap.size, q, u, r, rfl, rfl, rfl, glies_two (T := 32) (heap_alloc_new w3 _) HC.out (HR.out _ (HB3.out.alloc HB3.out.size _)) HC3.out (HL3.out.below (belowNew w3 _)), HU.out, HMS.out, HB3.out.alloc HB3.out.size _⟩
  case rest =>
    obtain ⟨g, q, u, r, rfl, rfl, rfl, hG, hu, hr, hb⟩ := hcut
    obtain ⟨L, hL⟩ : ∃ L : List Gn, L = [(k, t, n), (q, u, r)] := ⟨_, rfl⟩
    have HLL := Lib.hid (show L.length = 2 by rw [hL]; rfl)
    have HLS := Lib.hid (show ∀ i, i < 2 → (L.getD i noG).2.1.length ≤ 150000 ∧ SmallN (L.getD i noG).2.2 ∧ ∀ z ∈ (L.getD i noG).2.2, ∀ x ∈ z, x.1.size ≤ 200000 by
      intro i hi
      rw [hL]
      obtain rfl | rfl : i = 0 ∨ i = 1 := by omega
      · exact ⟨Nat.le_trans HSH.out.1 (by omega), HSH.out.small, short_typesG HSH.out.2⟩
      · exact ⟨Nat.le_trans hu (by omega), madeN_small hr, made_typesG hr⟩)
    rw [← hL] at hG
    have HG := Lib.hid hG
    have HB4 := Lib.hid hb
    obtain ⟨V, hV⟩ : ∃ V, V = wc := ⟨_, rfl⟩
    subst hV
    clear hL hG hu hr hb x0 x1 x2 lx HSH HR HN HC HSM HD2 HQ1 HQ2 HB2 hp0 HB0 HB1
    go_wp2_with fail
    go_loopw [40] (fun i wr => ∃ j : Nat, j ≤ 2 ∧ i = .int .i64 (j : Int) ∧ Below V.heap.size V wr) (fun i _ => 2 - (intOf i).toNat)
    case atStart => exact ⟨0, Nat.zero_le _, rfl, Below.refl _ _⟩
    case round =>
      obtain ⟨wz, hwz⟩ : ∃ wz, wz = wr := ⟨_, rfl⟩
      subst hwz
      obtain ⟨j, hj, rfl, hb⟩ := hrel
      have HBJ := Lib.hid hb
      clear hb
      by_cases hlt : j < 2
      · have hd : decide ((j : Int) < 2) = true := decide_eq_true (by omega)
        obtain ⟨b, o, hbo, _, e0, e1, a1, x1, e2, hx1, hR1⟩ := (HG.out.below HBJ.out).at j (by rw [HLL.out]; exact hlt)
        obtain ⟨rfl, rfl⟩ : g = b ∧ 0 = o := by simpa using hbo
        rw [Nat.zero_add] at e0 e1 e2
        have hls := HLS.out j hlt
        generalize L.getD j noG = G at e0 e1 e2 hx1 hR1 hls
        obtain ⟨k1, t1, n1⟩ := G
        simp only at e0 e1 e2 hx1 hR1 hls
        obtain ⟨m1, hm1⟩ : ∃ m1, m1 = n1.length := ⟨_, rfl⟩
        rw [← hm1] at e2
        obtain ⟨W2, hW2⟩ : ∃ W2, W2 = wz.alloc (.cells #[.int .i64 k1, .string (strOf t1), .slice a1 m1 x1] 32) := ⟨_, rfl⟩
        have hb2 : Below wz.heap.size wz W2 := by rw [hW2]; exact belowNew wz _
        obtain ⟨g0, g1, g2, lg⟩ := three_facts (w := W2) (g := wz.heap.size) (by rw [hW2]; exact heap_alloc_new wz _)
        have HB2 := Lib.hid hb2
        have HWW := Lib.hid (show Below w.heap.size w W2 from below_next HB4.out (HBJ.out.trans (hb2.mono HBJ.out.size)))
        have P1 := Lib.hid (HFM.out W2 HWW.out a1 x1 m1 k1 t1 n1 (hR1.below hb2) hm1 hls.1 hls.2.1 hls.2.2)
        have P2 := Lib.hid (fun W (hb : Below W2.heap.size W2 W) => rfmtG_core a1 x1 m1 k1 t1 n1 W ((hR1.below hb2).below hb) hm1 hls.1 hls.2.1 hls.2.2)
        generalize fmtG k1 t1 n1 = Z at P1 P2
        obtain ⟨S, E⟩ := Z
        simp only at P1 P2
        have hss : (S.toList != S.toList) = false := by simp
        have hee : ((E : Int) != (E : Int)) = false := by simp
        have HWE := hW2.symm
        have HLT := Lib.hid hlt
        clear hbo hx1 hR1 hls hm1 hb2 hW2
        go_wp2_with (first
          | (go_at_call 25; (with_reducible refine P1.out.mono ?_); rintro e y1 ⟨rfl, hb1⟩; have HY1 := Lib.hid hb1; have f0 := (hb1.cell (p := ⟨wz.heap.size, 0, none⟩) lg).trans g0; have f1 := (hb1.cell (p := ⟨wz.heap.size, 1, none⟩) lg).trans g1; have f2 := (hb1.cell (p := ⟨wz.heap.size, 2, none⟩) lg).trans g2; clear hb1)
          | (go_at_call 26; (with_reducible refine (P2.out _ HY1.out).mono ?_); rintro e y2 ⟨rfl, hb2⟩; have HY2 := Lib.hid (below_next HY1.out hb2); clear hb2))
        go_roundw
        case rel => exact ⟨j + 1, by have := HLT.out; omega, by go_num, HBJ.out.trans ((below_next HB2.out HY2.out).mono HBJ.out.size)⟩
        case measure => have := HLT.out; simp [intOf]; omega
      · have ej : j = 2 := by omega
        subst ej
        try rw [show ((2 : Nat) : Int) = 2 from rfl]
        have hd : decide ((2 : Int) < 2) = false := by decide
        have HWZ := Lib.hid (below_next HB4.out HBJ.out)
        clear HG HLS HLL
        go_wp2_with fail
        go_loopw [16, 17] (fun v i wr => ∃ (j : Nat) (S : ByteArray), j ≤ 12 ∧ j ≤ N ∧ i = .int .i64 (j : Int) ∧ v = .string S ∧ S.size ≤ 8 * j ∧ Below wz.heap.size wz wr) (fun _ i _ => 12 - (intOf i).toNat)
        case atStart => exact ⟨0, ⟨#[]⟩, Nat.zero_le _, Nat.zero_le _, rfl, rfl, Nat.zero_le _, Below.refl _ _⟩
        case round =>
          obtain ⟨wy, hwy⟩ : ∃ wy, wy = wr := ⟨_, rfl⟩
          subst hwy
          obtain ⟨i1, S, hi12, hiN, rfl, rfl, hSz, hb⟩ := hrel
          have HBY := Lib.hid hb
          have HWY := Lib.hid (below_next HWZ.out hb)
          have HSS := Lib.hid hSz
          clear hb hSz
          by_cases hin : i1 < N ∧ i1 < 12
          · obtain ⟨h1, h2⟩ := hin
            have hd1 : decide ((i1 : Int) < (N : Int)) = true := decide_eq_true (by omega)
            have hd2 : decide ((i1 : Int) < 12) = true := decide_eq_true (by omega)
            obtain ⟨bb, oo, rfl, hcl⟩ := (HML.out wy HWY.out).resolve_left (fun e => by have := HNN.out; rw [e] at this; simp at this; omega)
            have hcy := hcl i1 (by rw [← HNN.out]; exact h1)
            rw [bcell] at hcy
            obtain ⟨y, hy⟩ : ∃ y, y = (M[i1]'(by rw [← HNN.out]; exact h1)).toNat := ⟨_, rfl⟩
            rw [← hy] at hcy
            have hy256 : y < 256 := by rw [hy]; exact (M[i1]'(by rw [← HNN.out]; exact h1)).toNat_lt
            obtain ⟨q, hq⟩ : ∃ q, q = y % 16 := ⟨_, rfl⟩
            have hmi : (y : Int) % 16 = (q : Int) := by omega
            have hq16 : q < 16 := by omega
            obtain ⟨X, hcw, hXs⟩ := tab_word wy q hq16
            have hcy2 := (belowNew wy (.cells #[.string ⟨#[100, 110, 115, 58]⟩, .string ⟨#[109, 97, 105, 108, 58]⟩, .string ⟨#[105, 112, 58]⟩, .string ⟨#[100, 105, 114, 58]⟩, .string ⟨#[79, 61, 120]⟩, .string ⟨#[97, 46, 98]⟩, .string ⟨#[42, 46]⟩, .string ⟨#[97, 110, 110, 64]⟩, .string ⟨#[46]⟩, .string ⟨#[48, 97]⟩, .string ⟨#[48, 97, 48, 49, 48, 50, 48, 51]⟩, .string ⟨#[102, 102, 48, 48, 48, 48, 48, 48]⟩, .string ⟨#[92, 50, 99]⟩, .string ⟨#[58]⟩, .string ⟨#[67, 78, 61]⟩, .string ⟨#[]⟩] 9)).cell (World.block_lt_of_cell? _ _ hcy) |>.trans hcy
            have hcat : ∀ w, (Op.stringOp .add S X).run Tryz.prog w = .ok (.string (S ++ X)) w := fun w => cat_any S X (by have := HSS.out; omega) w
            have HSX := Lib.hid (show (S ++ X).size ≤ 8 * (i1 + 1) by rw [ByteArray.size_append]; have := HSS.out; omega)
            have HBA := Lib.hid (below_next HBY.out (belowNew wy (.cells #[.string ⟨#[100, 110, 115, 58]⟩, .string ⟨#[109, 97, 105, 108, 58]⟩, .string ⟨#[105, 112, 58]⟩, .string ⟨#[100, 105, 114, 58]⟩, .string ⟨#[79, 61, 120]⟩, .string ⟨#[97, 46, 98]⟩, .string ⟨#[42, 46]⟩, .string ⟨#[97, 110, 110, 64]⟩, .string ⟨#[46]⟩, .string ⟨#[48, 97]⟩, .string ⟨#[48, 97, 48, 49, 48, 50, 48, 51]⟩, .string ⟨#[102, 102, 48, 48, 48, 48, 48, 48]⟩, .string ⟨#[92, 50, 99]⟩, .string ⟨#[58]⟩, .string ⟨#[67, 78, 61]⟩, .string ⟨#[]⟩] 9)))
            generalize S ++ X = S2 at hcat HSX
            clear hy hq hXs hcl
            go_wp2_with fail
            go_roundw
            case rel => exact ⟨i1 + 1, S2, by omega, by omega, by go_num, rfl, HSX.out, HBA.out⟩
            case measure => simp [intOf]; omega
          · have hor : decide ((i1 : Int) < (N : Int)) = false ∧ ¬ i1 < N ∨ decide ((i1 : Int) < (N : Int)) = true ∧ i1 < N ∧ decide ((i1 : Int) < 12) = false := by
              by_cases h : i1 < N
              · right; exact ⟨decide_eq_true (by omega), h, decide_eq_false (by omega)⟩
              · left; exact ⟨decide_eq_false (by omega), h⟩
            have hcat1 : ∀ w, (Op.stringOp .add ⟨#[105, 112, 58]⟩ S).run Tryz.prog w = .ok (.string ((⟨#[105, 112, 58]⟩ : ByteArray) ++ S)) w := fun w => cat_any ⟨#[105, 112, 58]⟩ S (by show 3 + S.size ≤ _; have := HSS.out; omega) w
            have hcat2 : ∀ w, (Op.stringOp .add ⟨#[100, 110, 115, 58]⟩ s).run Tryz.prog w = .ok (.string ((⟨#[100, 110, 115, 58]⟩ : ByteArray) ++ s)) w := fun w => cat_any ⟨#[100, 110, 115, 58]⟩ s (by show 4 + s.size ≤ _; have := HSZ.out; omega) w
            obtain ⟨U1, hU1⟩ : ∃ U, U = (⟨#[105, 112, 58]⟩ : ByteArray) ++ S := ⟨_, rfl⟩
            obtain ⟨U2, hU2⟩ : ∃ U, U = (⟨#[100, 110, 115, 58]⟩ : ByteArray) ++ s := ⟨_, rfl⟩
            rw [← hU1] at hcat1
            rw [← hU2] at hcat2
            have HU1 := Lib.hid (show U1.size ≤ 1000 by rw [hU1, ByteArray.size_append]; show 3 + S.size ≤ _; have := HSS.out; omega)
            have HU2 := Lib.hid (show U2.size ≤ 1000 by rw [hU2, ByteArray.size_append]; show 4 + s.size ≤ _; have := HSZ.out; omega)
            have HS1 := Lib.hid (show S.size ≤ 1000 by have := HSS.out; omega)
            obtain ⟨U, hU⟩ : ∃ U, U = wy.alloc (.cells #[.string s, .string S, .string U1, .string U2] 9) := ⟨_, rfl⟩
            obtain ⟨H, hH⟩ : ∃ H, H = wy.heap.size := ⟨_, rfl⟩
            have hbU : Below wy.heap.size wy U := by rw [hU]; exact belowNew wy _
            have hc : ∀ j, U.cell? ⟨H, j, none⟩ = (#[.string s, .string S, .string U1, .string U2] : Array Value)[j]? := fun j => by
              rw [hU, hH]
              exact cell_of_row _ _ j _ _ _ (heap_alloc_new wy _)
            have HROW := Lib.hid (show ∀ i, i < 4 → ∃ x : List UInt8, U.cell? ⟨H, i, none⟩ = some (.string (strOf x)) ∧ x.length ≤ 150000 from fun i hi => by
              rcases (by omega : i = 0 ∨ i = 1 ∨ i = 2 ∨ i = 3) with rfl | rfl | rfl | rfl
              · exact ⟨s.data.toList, (hc 0).trans (by rw [← strOf_of (b := s) rfl]; rfl), by show s.size ≤ _; have := HSZ.out; omega⟩
              · exact ⟨S.data.toList, (hc 1).trans (by rw [← strOf_of (b := S) rfl]; rfl), by show S.size ≤ _; have := HS1.out; omega⟩
              · exact ⟨U1.data.toList, (hc 2).trans (by rw [← strOf_of (b := U1) rfl]; rfl), by show U1.size ≤ _; have := HU1.out; omega⟩
              · exact ⟨U2.data.toList, (hc 3).trans (by rw [← strOf_of (b := U2) rfl]; rfl), by show U2.size ≤ _; have := HU2.out; omega⟩)
            have HWU := Lib.hid (below_next HWY.out hbU)
            have HEU := Lib.hid hU.symm
            have HEH := Lib.hid hH.symm
            clear hU1 hU2 hU hH hbU hc hin hiN hi12 HSS HS1 HU1 HU2 HML HNN HFM
            rcases hor with ⟨g1, g3⟩ | ⟨g1, g3, g2⟩
            all_goals
              go_upto_region 18 with fail
              rw [HEU.out, HEH.out]
              clear g1 g3 hcat1 hcat2
              go_loopw [91] (fun i wr => ∃ j : Nat, j ≤ 4 ∧ i = .int .i64 (j : Int) ∧ Below U.heap.size U wr) (fun i _ => 4 - (intOf i).toNat)
              case atStart => exact ⟨0, Nat.zero_le _, rfl, Below.refl _ _⟩
              case round =>
                obtain ⟨wu, hwu⟩ : ∃ wu, wu = wr := ⟨_, rfl⟩
                subst hwu
                obtain ⟨j4, hj4, rfl, hb⟩ := hrel
                have HBI := Lib.hid hb
                have HWI := Lib.hid (below_next HWU.out hb)
                clear hb
                by_cases hlt4 : j4 < 4
                · have hd4 : decide ((j4 : Int) < 4) = true := decide_eq_true (by omega)
                  obtain ⟨x, z0, hxz⟩ := HROW.out j4 hlt4
                  have e0 := (HBI.out.cell (block_lt z0)).trans z0
                  have P1 := Lib.hid (HPA.out wu HWI.out x hxz)
                  have P2 := Lib.hid (fun W => rpar_core x W hxz)
                  have hsm := parG_small hxz
                  generalize parG x = R at P1 P2 hsm
                  obtain ⟨E, q, u, n⟩ := R
                  have HSN := Lib.hid hsm
                  simp only at P1 P2 HSN
                  have hee : ((E : Int) != (E : Int)) = false := by simp
                  have HJ4 := Lib.hid hlt4
                  clear hsm z0 hxz
                  go_upto_region 21 with (go_at_call 27; (with_reducible refine P1.out.mono ?_); rintro e y1 ⟨s1, rfl, hso, hb1⟩; obtain ⟨a1, x1, rfl, hcs, hrl⟩ := hso.lies; have HY1 := Lib.hid hb1; have HR1 := Lib.hid hrl; have HC1' := Lib.hid hcs; clear hso hrl hb1 hcs)
                  obtain ⟨Y2, hY2⟩ : ∃ Y2, Y2 = y1.alloc (.cells #[.int .i64 q, .string (strOf u), .slice a1 n.length x1] 32) := ⟨_, rfl⟩
                  obtain ⟨g1, hg1⟩ : ∃ g1, g1 = y1.heap.size := ⟨_, rfl⟩
                  have hb2 : Below y1.heap.size y1 Y2 := by rw [hY2]; exact belowNew y1 _
                  have HG1 := Lib.hid (show Y2.heap[g1]? = some (.cells #[.int .i64 q, .string (strOf u), .slice a1 n.length x1] 32 (0, 0)) by rw [hY2, hg1]; exact heap_alloc_new y1 _)
                  have HY2 := Lib.hid (below_next HY1.out hb2)
                  have HR2 := Lib.hid (HR1.out.below hb2)
                  rw [← hY2, ← hg1]
                  clear hY2 hg1 hb2
                  go_upto_region 22 with (go_at_call 28; (with_reducible refine (P2.out _).mono ?_); rintro e y3 ⟨s3, rfl, hso, hb3⟩; obtain ⟨a3, x3, rfl, hcs, hrl⟩ := hso.lies; have HY3 := Lib.hid (below_next HY2.out hb3); have HR3 := Lib.hid hrl; have HC3 := Lib.hid hcs; have HR23 := Lib.hid (HR2.out.below hb3); have HG3 := Lib.hid ((hb3.block g1 (Array.getElem?_eq_some_iff.1 HG1.out).1).trans HG1.out); clear hso hrl hb3 hcs)
                  obtain ⟨Y4, hY4⟩ : ∃ Y4, Y4 = y3.alloc (.cells #[.int .i64 q, .string (strOf u), .slice a3 n.length x3] 32) := ⟨_, rfl⟩
                  obtain ⟨g3, hg3⟩ : ∃ g3, g3 = y3.heap.size := ⟨_, rfl⟩
                  have hb4 : Below y3.heap.size y3 Y4 := by rw [hY4]; exact belowNew y3 _
                  have HG4 := Lib.hid (show Y4.heap[g3]? = some (.cells #[.int .i64 q, .string (strOf u), .slice a3 n.length x3] 32 (0, 0)) by rw [hY4, hg3]; exact heap_alloc_new y3 _)
                  have HY4 := Lib.hid (below_next HY3.out hb4)
                  have HG14 := Lib.hid ((hb4.block g1 (Array.getElem?_eq_some_iff.1 HG3.out).1).trans HG3.out)
                  have HR4 := Lib.hid (HR3.out.below hb4)
                  have HR14 := Lib.hid (HR23.out.below hb4)
                  rw [← hY4, ← hg3]
                  clear hY4 hg3 hb4 HG1 HG3 HR1 HR2 HR3 HR23
                  obtain ⟨f0, f1, f2, _⟩ := three_facts HG14.out
                  obtain ⟨h0, h1, h2, _⟩ := three_facts HG4.out
                  obtain ⟨Y5, hY5⟩ : ∃ Y5, Y5 = Y4.alloc (.cells #[.int .i64 q, .string (strOf u), .slice a1 n.length x1] 32) := ⟨_, rfl⟩
                  obtain ⟨Y6, hY6⟩ : ∃ Y6, Y6 = Y5.alloc (.cells #[.int .i64 q, .string (strOf u), .slice a3 n.length x3] 32) := ⟨_, rfl⟩
                  have hb5 : Below Y4.heap.size Y4 Y5 := by rw [hY5]; exact belowNew Y4 _
                  have hb6 : Below Y5.heap.size Y5 Y6 := by rw [hY6]; exact belowNew Y5 _
                  have hs5 : Y5.heap.size = Y4.heap.size + 1 := by rw [hY5]; simp
                  have hq5 : Y6.heap[Y4.heap.size]? = some (.cells #[.int .i64 q, .string (strOf u), .slice a1 n.length x1] 32 (0, 0)) := (hb6.block _ (by omega)).trans (by rw [hY5]; exact heap_alloc_new Y4 _)
                  have hq6 : Y6.heap[Y4.heap.size + 1]? = some (.cells #[.int .i64 q, .string (strOf u), .slice a3 n.length x3] 32 (0, 0)) := by rw [← hs5, hY6]; exact heap_alloc_new Y5 _
                  have HX := Lib.hid (exactG_core (some ⟨Y4.heap.size, 0, none⟩) (some ⟨Y4.heap.size + 1, 0, none⟩) 1 1 1 [(q, u, n)] Y6 (glies_one hq5 HC1'.out (HR14.out.below (below_next hb5 hb6))) (glies_one hq6 HC3.out (HR4.out.below (below_next hb5 hb6))) rfl (by decide) (fun i hi => by
                    obtain rfl : i = 0 := by simp at hi; omega
                    exact HSN.out))
                  have HY6 := Lib.hid (below_next HY4.out (below_next hb5 hb6))
                  have j0 := (hb5.cell (block_lt h0)).trans h0
                  have j1 := (hb5.cell (block_lt h1)).trans h1
                  have j2 := (hb5.cell (block_lt h2)).trans h2
                  have HWE5 := hY5.symm
                  have HWE6 := hY6.symm
                  clear hb5 hb6 hq5 hq6 hY5 hY6 HG14 HG4 HR4 HR14
                  go_wp2_with (go_at_call 17; (with_reducible refine HX.out.mono ?_); rintro e y7 ⟨rfl, hb7⟩; have HY7 := Lib.hid (below_next HY6.out hb7); clear hb7)
                  go_roundw
                  case rel => exact ⟨j4 + 1, by have := HJ4.out; omega, by go_num, HBI.out.trans (HY7.out.mono HBI.out.size)⟩
                  case measure => have := HJ4.out; simp [intOf]; omega
                · have ej : j4 = 4 := by omega
                  subst ej
                  have hd4 : decide (((4 : Nat) : Int) < 4) = false := by decide
                  go_wp2_with (go_at_call 7; (with_reducible refine (HAW.out _ HWI.out).mono ?_); rintro e w9 ⟨rfl, hb9⟩; have HZ9 := Lib.hid (below_next HWI.out hb9); clear hb9)
                  go_ret
                  exact ⟨rfl, HZ9.out⟩
end Go.Proofs.YtflpajbcomhkpaaGreatDoor
namespace Go.Proofs.YtflpajbcomhkpaaGreatDoor
open Go.ChangeShapes Go.WideShapes Go.ChangeAt Go.RowKit Go.ChangeMaps Go.Deep

theorem bigG_of {k : Int} {t : List UInt8} {n : Nm} (ht : t.length ≤ 9223372036854775807) (hn : NameOk n) : BigG (k, t, n) :=
  ⟨ht, hn.1, fun i hi => ⟨(hn.2 i hi).1, fun j hj => ⟨((hn.2 i hi).2 j hj).1, ((hn.2 i hi).2 j hj).2.1⟩⟩⟩
set_option maxRecDepth 10000 in
/-- One general name, of three cells. -/
theorem open_gn {H : Type} {enc : TypeId × Value → H} {W : World} {n : Nat} {cs : List Value} {x : DataW H × List MemPlace} (h : DataW.trod enc Tryz.prog W 0 (fun _ => true) true n 32 cs = some x) :
    ∃ (k : Int) (t : List UInt8) (a : Option Addr) (c : Nat) (m : Nm), cs = [.int .i64 k, .string (strOf t), .slice a m.length c] ∧ m.length ≤ c ∧ RLies W a m ∧ BigG (k, t, m) := by
  obtain ⟨xs, k, _, _, hl, hlen, hfd⟩ := DataW.trod_struct Tryz.underlying32 h
  have c1 : Tryz.prog.cellsOf 3 = 1 := by kernel_rfl
  have c2 : Tryz.prog.cellsOf 9 = 1 := by kernel_rfl
  have c3 : Tryz.prog.cellsOf 32 = 3 := by kernel_rfl
  have c4 : Tryz.prog.cellsOf 30 = 1 := by kernel_rfl
  have c5 : Tryz.prog.cellsOf 28 = 1 := by kernel_rfl
  have hlen3 : xs.length = 3 := hlen
  have hs3 : cs.length = 3 := hl.trans c3
  match xs, hlen3 with
  | [y0, y1, y2], _ =>
    match cs, hs3 with
    | [z0, z1, z2], _ =>
      have g0 : DataW.trod enc Tryz.prog W 0 (fun _ => true) true k 3 (([z0, z1, z2].drop 0).take (Tryz.prog.cellsOf 3)) = some y0 := hfd 0 _ rfl
      rw [c1] at g0
      obtain ⟨n0, e0, _, _⟩ := DataW.trod_int Tryz.underlying3 g0
      have g1 : DataW.trod enc Tryz.prog W 0 (fun _ => true) true k 9 (([z0, z1, z2].drop 1).take (Tryz.prog.cellsOf 9)) = some y1 := hfd 1 _ rfl
      rw [c2] at g1
      obtain ⟨s1, e1, _, w1⟩ := DataW.trod_string Tryz.underlying9 g1
      have g2 : DataW.trod enc Tryz.prog W 0 (fun _ => true) true k 30 (([z0, z1, z2].drop 2).take (Tryz.prog.cellsOf 30)) = some y2 := hfd 2 _ rfl
      rw [c4] at g2
      obtain ⟨xs2, k2, _, _, _, hlen2, hfd2⟩ := DataW.trod_struct Tryz.underlying30 g2
      have hlen1 : xs2.length = 1 := hlen2
      match xs2, hlen1 with
      | [u0], _ =>
        have g3 : DataW.trod enc Tryz.prog W 0 (fun _ => true) true k2 28 ((((([z0, z1, z2] : List Value).drop 2).take 1).drop 0).take (Tryz.prog.cellsOf 28)) = some u0 := hfd2 0 _ rfl
        rw [c5] at g3
        obtain ⟨a, c, m, e2, h3, h1, h2⟩ := open_rdns (z := z2) (by simpa using g3)
        have r0 : z0 = .int .i64 n0 := by simpa using e0
        have r1 : z1 = .string s1 := by simpa using e1
        refine ⟨n0, s1.data.toList, a, c, m, by rw [r0, r1, e2]; rfl, h3, h1, bigG_of ?_ h2⟩
        show s1.size ≤ _
        unfold maxLen at w1; omega
set_option maxRecDepth 10000 in
theorem open_gname {H : Type} {enc : TypeId × Value → H} {W : World} {r : Reach} {b0 : Nat} {v : Value} {d : DataW H} {p : List MemPlace}
    (hval : Value.okWide Tryz.prog W r b0 32 v) (h : DataW.Trod enc Tryz.prog W 0 (fun _ => true) true 32 v d p) :
    ∃ (k : Int) (t : List UInt8) (a : Option Addr) (c : Nat) (m : Nm), v = .agg #[.int .i64 k, .string (strOf t), .slice a m.length c] ∧ m.length ≤ c ∧ RLies W a m ∧ BigG (k, t, m) := by
  unfold Value.okWide at hval
  rw [Tryz.underlying32] at hval
  obtain ⟨cs, rfl, _, _⟩ := hval
  obtain ⟨fuel, hf⟩ := h
  obtain ⟨k, t, a, c, m, e, h1, h2, h3⟩ := open_gn hf
  refine ⟨k, t, a, c, m, ?_, h1, h2, h3⟩
  have hcl : (Value.agg cs).cells.toList = cs.toList := rfl
  rw [hcl] at e
  congr 1
  exact Array.toList_inj.1 e
end Go.Proofs.YtflpajbcomhkpaaGreatDoor
namespace Go.Proofs.YtflpajbcomhkpaaGreatDoor
open Go.ChangeShapes Go.WideShapes Go.ChangeAt Go.RowKit Go.ChangeMaps

theorem own : ownKnob Tryz.prog.godebug = none := by kernel_rfl

/-- What was handed in reads as it read, for a call that leaves old memory alone. -/
theorem below_trodAll {H : Type} {enc : TypeId × Value → H} {W W' : World} (hb : Below W.heap.size W W') :
    ∀ (ts : List TypeId) (vs : List Value) (ds : List (DataW H)) (ps : List MemPlace), (∀ t ∈ ts, Tryz.prog.readableRec t = true ∧ t < Tryz.prog.types.size) → (∀ x ∈ ps, x.block < W.heap.size) →
      DataW.TrodAll enc Tryz.prog W 0 (fun _ => true) true ts vs ds ps → DataW.TrodAll enc Tryz.prog W' 0 (fun b => decide (b < W.heap.size)) true ts vs ds ps := by
  intro ts
  induction ts with
  | nil => intro vs ds ps _ _ h; obtain ⟨rfl, rfl, rfl⟩ := trodAll_nil h; exact trodAll_mk0
  | cons t ts ih =>
    intro vs ds ps ht hp h
    obtain ⟨v, vs', d, ds', p, q, rfl, rfl, rfl, h1, h2⟩ := trodAll_cons h
    exact trodAll_cons_mk (Below.trod laidOut (ht t (by simp)).1 (ht t (by simp)).2 h1 hb (fun x hx => hp x (by simp [hx]))) (ih vs' ds' q (fun u hu => ht u (by simp [hu])) (fun x hx => hp x (by simp [hx])) h2)

/-- A slice of bytes that can be read: its bytes lie at its address. -/
theorem open_bytes {H : Type} {enc : TypeId × Value → H} {W : World} {a0 : Option Addr} {len cap : Nat} {d : DataW H} {p : List MemPlace}
    (h : DataW.Trod enc Tryz.prog W 0 (fun _ => true) true 55 (.slice a0 len cap) d p) : ∃ l : List UInt8, len = l.length ∧ BLies W a0 l ∧ l.length ≤ 9223372036854775807 := by
  obtain ⟨fuel, hf⟩ := h
  have cb : Tryz.prog.cellsOf 5 = 1 := by kernel_rfl
  rcases open_ints Tryz.underlying55 Tryz.underlying5 cb hf with ⟨hcs, _⟩ | ⟨a, len', cap', zs, hcs, _, hl, hcm, hz, _, hcell, hwz⟩
  · simp [Value.cells] at hcs
    obtain ⟨rfl, rfl, rfl⟩ := hcs
    exact ⟨[], rfl, .inl rfl, by simp⟩
  · simp [Value.cells] at hcs
    obtain ⟨rfl, rfl, rfl⟩ := hcs
    by_cases h0 : len = 0
    · subst h0
      exact ⟨[], rfl, .inl rfl, by simp⟩
    · have hzl : len ≤ zs.length := by rw [hz]; simpa using hl
      obtain ⟨b, off, rfl, hc⟩ := ints_at hcell (by omega)
      refine ⟨(zs.take len).map fun z => UInt8.ofNat z.toNat, by simp; omega, .inr ⟨b, off, rfl, fun i hi => ?_⟩, by simp; unfold maxLen at hcm; omega⟩
      simp at hi
      rw [hc i (by omega)]
      have hb : 0 ≤ zs.getD i 0 ∧ zs.getD i 0 ≤ 255 := by
        have := range_u8 hwz i
        simpa [List.getD_eq_getElem?_getD] using this
      have he : zs.getD i 0 = zs[i] := by rw [List.getD_eq_getElem?_getD, List.getElem?_eq_getElem (by omega)]; rfl
      rw [he] at hb ⊢
      simp [bcell]
      omega

end Go.Proofs.YtflpajbcomhkpaaGreatDoor
namespace Go.Proofs.YtflpajbcomhkpaaGreatDoor
open Go.ChangeShapes Go.WideShapes Go.ChangeAt Go.RowKit

set_option maxRecDepth 10000 in
theorem open_nums {H : Type} {enc : TypeId × Value → H} {W : World} {a0 : Option Addr} {len cap : Nat} {d : DataW H} {p : List MemPlace}
    (h : DataW.Trod enc Tryz.prog W 0 (fun _ => true) true 24 (.slice a0 len cap) d p) : ∃ zs : List Int, len = zs.length ∧ ILies W a0 zs ∧ zs.length ≤ 9223372036854775807 := by
  obtain ⟨fuel, hf⟩ := h
  have cb : Tryz.prog.cellsOf 3 = 1 := by kernel_rfl
  rcases open_ints Tryz.underlying24 Tryz.underlying3 cb hf with ⟨hcs, _⟩ | ⟨a, len', cap', zs, hcs, _, hl, hcm, hz, _, hcell, _⟩
  · simp [Value.cells] at hcs
    obtain ⟨rfl, rfl, rfl⟩ := hcs
    exact ⟨[], rfl, .inl rfl, by simp⟩
  · simp [Value.cells] at hcs
    obtain ⟨rfl, rfl, rfl⟩ := hcs
    by_cases h0 : len = 0
    · subst h0
      exact ⟨[], rfl, .inl rfl, by simp⟩
    · have hzl : len ≤ zs.length := by rw [hz]; simpa using hl
      obtain ⟨b, off, rfl, hc⟩ := ints_at hcell (by omega)
      have e : (zs.take len).length = len := by rw [List.length_take]; omega
      refine ⟨zs.take len, e.symm, .inr ⟨b, off, rfl, fun i hi => ?_⟩, by rw [e]; unfold maxLen at hcm; omega⟩
      rw [e] at hi
      rw [hc i (by omega)]
      congr 2
      rw [List.getD_eq_getElem?_getD, List.getD_eq_getElem?_getD, List.getElem?_take_of_lt hi]

end Go.Proofs.YtflpajbcomhkpaaGreatDoor
namespace Go.Proofs.YtflpajbcomhkpaaGreatDoor
open Go.ChangeShapes Go.WideShapes Go.ChangeAt Go.RowKit Go.ChangeMaps

theorem first_data : (Rows.laid_unicode_utf8_first : DataW Unit) = Lib.firstData := by kernel_rfl
theorem accept_data : (Rows.laid_unicode_utf8_acceptRanges : DataW Unit) = Lib.acceptData := by kernel_rfl
/-- What the rows' list gives: the tables lie. -/
theorem tab_met {W : World} {L : List (String × DataW Unit)} (h : laidMet Tryz.prog L W) (h1 : ("unicode/utf8.first", Rows.laid_unicode_utf8_first) ∈ L) (h2 : ("unicode/utf8.acceptRanges", Rows.laid_unicode_utf8_acceptRanges) ∈ L) : Tab W := by
  rw [first_data] at h1
  rw [accept_data] at h2
  exact utf8Tabs_of_readsT (U8Types.of196 lays196) ⟨by kernel_rfl, by kernel_rfl, by kernel_rfl, by kernel_rfl, by kernel_rfl, by kernel_rfl, by kernel_rfl⟩ (Lib.laidMet.reads h h1) (Lib.laidMet.reads h h2)
theorem ints_str {P : Program} {w : World} {base : Nat} {sp : Nat → Bool} {held : Bool} {fuel : Nat} {t i s : TypeId} {f0 f1 f2 : Field} {cs : List Value} {x y : Int} {z : List UInt8} {q : List MemPlace} (hu : P.underlying t = some (.struct #[f0, f1, f2])) (hi : P.underlying i = some (.int .i64)) (hs : P.underlying s = some .string)
    (t0 : f0.type = i) (t1 : f1.type = i) (t2 : f2.type = s) (o0 : f0.offset = 0) (o1 : f1.offset = 1) (o2 : f2.offset = 2) (c1 : P.cellsOf i = 1) (c2 : P.cellsOf s = 1) (c3 : P.cellsOf t = 3) (h : DataW.trod (fun _ : TypeId × Value => ()) P w base sp held fuel t cs = some (.agg [.lit (.int .i64 x), .lit (.int .i64 y), .lit (.string z)], q)) :
    cs = [.int .i64 x, .int .i64 y, .string (strOf z)] := by
  obtain ⟨xs, k, e, hx, hl, hlen, hfd⟩ := DataW.trod_struct hu h
  have hlen3 : xs.length = 3 := hlen
  have hs3 : cs.length = 3 := hl.trans c3
  match xs, hlen3 with
  | [y0, y1, y2], _ =>
    match cs, hs3 with
    | [z0, z1, z2], _ =>
      have g0 : DataW.trod _ P w base sp held k f0.type (([z0, z1, z2].drop f0.offset).take (P.cellsOf f0.type)) = some y0 := hfd 0 _ rfl
      have g1 : DataW.trod _ P w base sp held k f1.type (([z0, z1, z2].drop f1.offset).take (P.cellsOf f1.type)) = some y1 := hfd 1 _ rfl
      have g2 : DataW.trod _ P w base sp held k f2.type (([z0, z1, z2].drop f2.offset).take (P.cellsOf f2.type)) = some y2 := hfd 2 _ rfl
      rw [t0, o0, c1] at g0
      rw [t1, o1, c1] at g1
      rw [t2, o2, c2] at g2
      obtain ⟨a0, e0, x0, _⟩ := DataW.trod_int hi g0
      obtain ⟨a1, e1, x1, _⟩ := DataW.trod_int hi g1
      obtain ⟨a2, e2, x2, _⟩ := DataW.trod_string hs g2
      have r0 : z0 = .int .i64 a0 := by simpa using e0
      have r1 : z1 = .int .i64 a1 := by simpa using e1
      have r2 : z2 = .string a2 := by simpa using e2
      have ex := congrArg Prod.fst hx
      rw [x0, x1, x2] at ex
      simp at ex
      obtain ⟨h0, h1, h2⟩ := ex
      rw [r0, r1, r2, h0, h1, strOf_of (b := a2) (l := z) h2.symm]
theorem kd_reads {W : World} (h : Lib.VarReads Tryz.prog W "certpath/gname.kinds" Rows.laid_certpath_gname_kinds) : KdT W := by
  obtain ⟨g, t, cs, fuel, p, hg, hty, hvar, hd⟩ := h
  obtain rfl : 0 = g := Option.some.inj ((show Tryz.prog.globalNamed "certpath/gname.kinds" = some 0 by kernel_rfl).symm.trans hg)
  obtain rfl : 90 = t := Option.some.inj ((show (Tryz.prog.globals[0]?).map (·.type) = some 90 by kernel_rfl).symm.trans hty)
  have c1 : Tryz.prog.cellsOf 3 = 1 := by kernel_rfl
  have c2 : Tryz.prog.cellsOf 9 = 1 := by kernel_rfl
  have c3 : Tryz.prog.cellsOf 89 = 3 := by kernel_rfl
  unfold Rows.laid_certpath_gname_kinds at hd
  have key : ∀ i (hi : i < 4) (x y : Int) (z : List UInt8), ([(1, 129, [109, 97, 105, 108, 58]), (2, 130, [100, 110, 115, 58]), (4, 164, [100, 105, 114, 58]), (7, 135, [105, 112, 58])] : List (Int × Int × List UInt8))[i]? = some (x, y, z) → cs[i * 3]? = some (.int .i64 x) ∧ cs[i * 3 + 1]? = some (.int .i64 y) ∧ cs[i * 3 + 2]? = some (.string (strOf z)) := by
    intro i hi x y z hxy
    obtain ⟨fuel', d, q, hdi, he⟩ := Lib.array_elem Tryz.underlying90 hd i hi
    have hd2 : d = .agg [.lit (.int .i64 x), .lit (.int .i64 y), .lit (.string z)] := by
      rcases (by omega : i = 0 ∨ i = 1 ∨ i = 2 ∨ i = 3) with rfl | rfl | rfl | rfl <;> (simp at hxy hdi; obtain ⟨rfl, rfl, rfl⟩ := hxy; exact hdi.symm)
    subst hd2
    rw [c3] at he
    have hcs := ints_str Tryz.underlying89 Tryz.underlying3 Tryz.underlying9 rfl rfl rfl rfl rfl rfl c1 c2 c3 he
    have e0 := congrArg (·[0]?) hcs
    have e1 := congrArg (·[1]?) hcs
    have e2 := congrArg (·[2]?) hcs
    simp only [List.getElem?_take, List.getElem?_drop] at e0 e1 e2
    exact ⟨by rw [← Array.getElem?_toList]; simpa using e0, by rw [← Array.getElem?_toList]; simpa using e1, by rw [← Array.getElem?_toList]; simpa using e2⟩
  intro j hj
  rw [World.var?_cell hg hvar j]
  rcases (by omega : j = 0 ∨ j = 1 ∨ j = 2 ∨ j = 3 ∨ j = 4 ∨ j = 5 ∨ j = 6 ∨ j = 7 ∨ j = 8 ∨ j = 9 ∨ j = 10 ∨ j = 11) with rfl | rfl | rfl | rfl | rfl | rfl | rfl | rfl | rfl | rfl | rfl | rfl
  · exact (key 0 (by omega) _ _ _ rfl).1
  · exact (key 0 (by omega) _ _ _ rfl).2.1
  · exact (key 0 (by omega) _ _ _ rfl).2.2
  · exact (key 1 (by omega) _ _ _ rfl).1
  · exact (key 1 (by omega) _ _ _ rfl).2.1
  · exact (key 1 (by omega) _ _ _ rfl).2.2
  · exact (key 2 (by omega) _ _ _ rfl).1
  · exact (key 2 (by omega) _ _ _ rfl).2.1
  · exact (key 2 (by omega) _ _ _ rfl).2.2
  · exact (key 3 (by omega) _ _ _ rfl).1
  · exact (key 3 (by omega) _ _ _ rfl).2.1
  · exact (key 3 (by omega) _ _ _ rfl).2.2
theorem kd_met {W : World} {L : List (String × DataW Unit)} (h : laidMet Tryz.prog L W) (h1 : ("certpath/gname.kinds", Rows.laid_certpath_gname_kinds) ∈ L) : KdT W := kd_reads (Lib.laidMet.reads h h1)
theorem two_strs {P : Program} {w : World} {base : Nat} {sp : Nat → Bool} {held : Bool} {fuel : Nat} {t s : TypeId} {f0 f1 : Field} {cs : List Value} {x y : List UInt8} {q : List MemPlace} (hu : P.underlying t = some (.struct #[f0, f1])) (hs : P.underlying s = some .string)
    (t0 : f0.type = s) (t1 : f1.type = s) (o0 : f0.offset = 0) (o1 : f1.offset = 1) (c1 : P.cellsOf s = 1) (c2 : P.cellsOf t = 2) (h : DataW.trod (fun _ : TypeId × Value => ()) P w base sp held fuel t cs = some (.agg [.lit (.string x), .lit (.string y)], q)) :
    cs = [.string (strOf x), .string (strOf y)] := by
  obtain ⟨y0, y1, n, hx, hl, h0, h1⟩ := trod_struct2 hu h
  rw [c2] at hl
  rw [t0, o0, c1] at h0
  rw [t1, o1, c1] at h1
  match cs, hl with
  | [u, v], _ =>
    obtain ⟨a, ea, xa, _⟩ := DataW.trod_string hs h0
    obtain ⟨b, eb, xb, _⟩ := DataW.trod_string hs h1
    have e1 := congrArg Prod.fst hx
    rw [xa, xb] at e1
    simp at e1
    obtain ⟨e2, e3⟩ := e1
    have r0 : u = .string a := by simpa using ea
    have r1 : v = .string b := by simpa using eb
    rw [r0, r1, strOf_of (b := a) (l := x) e2.symm, strOf_of (b := b) (l := y) e3.symm]
theorem sh_reads {W : World} (h : Lib.VarReads Tryz.prog W "certpath/dname.shortTypes" Rows.laid_certpath_dname_shortTypes) : ShT W := by
  obtain ⟨g, t, cs, fuel, p, hg, hty, hvar, hd⟩ := h
  obtain rfl : 1 = g := Option.some.inj ((show Tryz.prog.globalNamed "certpath/dname.shortTypes" = some 1 by kernel_rfl).symm.trans hg)
  obtain rfl : 197 = t := Option.some.inj ((show (Tryz.prog.globals[1]?).map (·.type) = some 197 by kernel_rfl).symm.trans hty)
  have c1 : Tryz.prog.cellsOf 9 = 1 := by kernel_rfl
  have c2 : Tryz.prog.cellsOf 196 = 2 := by kernel_rfl
  unfold Rows.laid_certpath_dname_shortTypes at hd
  have key : ∀ i (hi : i < 7) (x y : List UInt8), ([([67, 78], [50, 46, 53, 46, 52, 46, 51]), ([67], [50, 46, 53, 46, 52, 46, 54]), ([76], [50, 46, 53, 46, 52, 46, 55]), ([79], [50, 46, 53, 46, 52, 46, 49, 48]), ([79, 85], [50, 46, 53, 46, 52, 46, 49, 49]), ([68, 67], [48, 46, 57, 46, 50, 51, 52, 50, 46, 49, 57, 50, 48, 48, 51, 48, 48, 46, 49, 48, 48, 46, 49, 46, 50, 53]), ([69], [49, 46, 50, 46, 56, 52, 48, 46, 49, 49, 51, 53, 52, 57, 46, 49, 46, 57, 46, 49])] : List (List UInt8 × List UInt8))[i]? = some (x, y) → cs[i * 2]? = some (.string (strOf x)) ∧ cs[i * 2 + 1]? = some (.string (strOf y)) := by
    intro i hi x y hxy
    obtain ⟨fuel', d, q, hdi, he⟩ := Lib.array_elem Tryz.underlying197 hd i hi
    have hd2 : d = .agg [.lit (.string x), .lit (.string y)] := by
      rcases (by omega : i = 0 ∨ i = 1 ∨ i = 2 ∨ i = 3 ∨ i = 4 ∨ i = 5 ∨ i = 6) with rfl | rfl | rfl | rfl | rfl | rfl | rfl <;> (simp at hxy hdi; obtain ⟨rfl, rfl⟩ := hxy; exact hdi.symm)
    subst hd2
    rw [c2] at he
    have hcs := two_strs Tryz.underlying196 Tryz.underlying9 rfl rfl rfl rfl c1 c2 he
    have e0 := congrArg (·[0]?) hcs
    have e1 := congrArg (·[1]?) hcs
    simp only [List.getElem?_take, List.getElem?_drop] at e0 e1
    exact ⟨by rw [← Array.getElem?_toList]; simpa using e0, by rw [← Array.getElem?_toList]; simpa using e1⟩
  intro j hj
  rw [World.var?_cell hg hvar j]
  rcases (by omega : j = 0 ∨ j = 1 ∨ j = 2 ∨ j = 3 ∨ j = 4 ∨ j = 5 ∨ j = 6 ∨ j = 7 ∨ j = 8 ∨ j = 9 ∨ j = 10 ∨ j = 11 ∨ j = 12 ∨ j = 13) with rfl | rfl | rfl | rfl | rfl | rfl | rfl | rfl | rfl | rfl | rfl | rfl | rfl | rfl
  · exact (key 0 (by omega) _ _ rfl).1
  · exact (key 0 (by omega) _ _ rfl).2
  · exact (key 1 (by omega) _ _ rfl).1
  · exact (key 1 (by omega) _ _ rfl).2
  · exact (key 2 (by omega) _ _ rfl).1
  · exact (key 2 (by omega) _ _ rfl).2
  · exact (key 3 (by omega) _ _ rfl).1
  · exact (key 3 (by omega) _ _ rfl).2
  · exact (key 4 (by omega) _ _ rfl).1
  · exact (key 4 (by omega) _ _ rfl).2
  · exact (key 5 (by omega) _ _ rfl).1
  · exact (key 5 (by omega) _ _ rfl).2
  · exact (key 6 (by omega) _ _ rfl).1
  · exact (key 6 (by omega) _ _ rfl).2
theorem sh_met {W : World} {L : List (String × DataW Unit)} (h : laidMet Tryz.prog L W) (h1 : ("certpath/dname.shortTypes", Rows.laid_certpath_dname_shortTypes) ∈ L) : ShT W := sh_reads (Lib.laidMet.reads h h1)
abbrev laidT : List (String × DataW Unit) := [("unicode/utf8.acceptRanges", Rows.laid_unicode_utf8_acceptRanges), ("unicode.asciiFold", Rows.laid_unicode_asciiFold), ("unicode.caseOrbit", Rows.laid_unicode_caseOrbit), ("certpath/dname.shortTypes", Rows.laid_certpath_dname_shortTypes), ("certpath/gname.kinds", Rows.laid_certpath_gname_kinds), ("unicode.CaseRanges", Rows.laid_unicode_CaseRanges), ("unicode/utf8.first", Rows.laid_unicode_utf8_first)]
theorem metT {W : World} (h : laidMetH Tryz.prog laidT W) : Tab W ∧ KdT W ∧ ShT W := by
  rw [MakeChecks.laidMetH_plain _ _ _ (by kernel_rfl)] at h
  have h' : laidMet Tryz.prog laidT W := h
  exact ⟨tab_met h' (.tail _ (.tail _ (.tail _ (.tail _ (.tail _ (.tail _ (.head _))))))) (.head _), kd_met h' (.tail _ (.tail _ (.tail _ (.tail _ (.head _))))), sh_met h' (.tail _ (.tail _ (.tail _ (.head _))))⟩
end Go.Proofs.YtflpajbcomhkpaaGreatDoor
