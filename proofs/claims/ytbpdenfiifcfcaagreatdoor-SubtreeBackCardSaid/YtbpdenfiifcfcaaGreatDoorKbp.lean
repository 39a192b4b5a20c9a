/-
  The walk of the law SubtreeBack: for every slice of ints it returns true, and leaves all that was there as it was.
-/
import Derived.Test.YtbpdenfiifcfcaaGreatDoorKbj
import Derived.Test.YtbpdenfiifcfcaaGreatDoorKbo
import Derived.Test.YtbpdenfiifcfcaaGreatDoorKbn
namespace Go.Proofs.YtbpdenfiifcfcaaGreatDoor
open Go.RowKit

set_option maxRecDepth 100000 in
set_option maxHeartbeats 8000000 in
theorem sbacklaw (a : Option Addr) (cap : Nat) (zs : List Int) (w : World) (hl : ILies w a zs) (hz : zs.length ≤ 9223372036854775807) (hT : Tab w) (hP : Pow10 w) (hm : Mk w) :
    Calls Tryz.prog 5 #[.slice a zs.length cap] w fun e w' => e = .returned (.bool true) ∧ Below w.heap.size w w' := by
  have HAW := Lib.hid (fun V (hb : Below w.heap.size w V) => awake_core V (hm.below hb))
  have HEN := Lib.hid (fun V (hb : Below w.heap.size w V) a1 a2 c1 c2 m1 m2 s h1 h2 hm1 hm2 hs1 hs2 hmm1 hmm2 => encs_core a1 a2 c1 c2 m1 m2 s V h1 h2 hm1 hm2 hs1 hs2 hmm1 hmm2 (hT.below hb) (hm.below hb))
  have HDE := Lib.hid (fun b hs V (hb : Below w.heap.size w V) => decs_core b V hs (hT.below hb) (hP.below hb) (hm.below hb))
  have HNW := Lib.hid (new_any a cap zs w hl hz)
  clear hl hz hm hT hP
  go_enter Tryz.func5, Tryz.ntmps5
  go_upto_region 2 with (first
    | (go_at_call 9; (with_reducible refine HNW.out.mono ?_); rintro e w1 ⟨rfl, hd1, hb1⟩; have HD1 := Lib.hid hd1; have HB1 := Lib.hid hb1; clear hd1 hb1)
    | (go_at_call 10; (with_reducible refine (subtrees_any _ a cap zs 0 _ HD1.out (by omega)).mono ?_); rintro e w2 ⟨u, v, A, B, k2, hG, rfl, hu, hv, _, _, hb2⟩; obtain ⟨a1, c1, rfl, _, hl1⟩ := hu.lies; obtain ⟨a2, c2, rfl, _, hl2⟩ := hv.lies; have HG := Lib.hid hG; have HL1 := Lib.hid hl1; have HL2 := Lib.hid hl2; have HB2 := Lib.hid (HB1.out.trans (hb2.below (Nat.le_of_lt HD1.out.lt))); clear hu hv hb2 hG hl1 hl2))
  obtain ⟨NA, hNA⟩ : ∃ NA, NA = A.length := ⟨_, rfl⟩
  obtain ⟨NB, hNB⟩ : ∃ NB, NB = B.length := ⟨_, rfl⟩
  have HNA := Lib.hid hNA
  have HNB := Lib.hid hNB
  rw [← hNA, ← hNB]
  obtain ⟨W2, hW2⟩ : ∃ W2, W2 = w2.alloc (.cells #[.slice a1 NA c1, .slice a2 NB c2] 24) := ⟨_, rfl⟩
  obtain ⟨g, hg⟩ : ∃ g, g = w2.heap.size := ⟨_, rfl⟩
  have hbW : Below w2.heap.size w2 W2 := by rw [hW2]; exact belowNew w2 _
  have hq2 : W2.heap[g]? = some (.cells #[.slice a1 NA c1, .slice a2 NB c2] 24 (0, 0)) := by rw [hW2, hg]; exact heap_alloc_new w2 _
  have HQ2 := Lib.hid hq2
  obtain ⟨x0, x1, lx⟩ := two_facts hq2
  have hgs := genB_S HG.out
  obtain ⟨S, hS, hSz, hSd⟩ := back_gen hgs
  have HBW := Lib.hid (below_next HB2.out hbW)
  have HEN1 := Lib.hid (HEN.out W2 HBW.out a1 a2 c1 c2 NA NB (A, B) (HL1.out.below hbW) (HL2.out.below hbW) hNA hNB (okL_sm hgs.2.2.2.1) (okL_sm hgs.2.2.2.2) (by rw [hNA]; have := hgs.1; simp only at this; omega) (by rw [hNB]; have := hgs.2.1; simp only at this; omega))
  unfold encV2 at HEN1
  rw [hS] at HEN1
  have HDE1 := Lib.hid (HDE.out S (by omega))
  rw [hSd] at HDE1
  unfold SRes at HDE1
  simp only at HEN1 HDE1
  have HLB := Lib.hid (fun W (h : Below w2.heap.size w2 W) => And.intro (HL1.out.below h) (HL2.out.below h))
  have HW2 := Lib.hid hbW
  have HGS := Lib.hid hgs
  rw [← hW2, ← hg]
  clear hNA hNB hW2 hg hbW hq2 hgs hS hSz hSd HEN HDE HNW
  go_upto_region 4 with (first
    | (go_at_call 14; (with_reducible refine HEN1.out.mono ?_); rintro e w3 ⟨rfl, hb3⟩; have HB3 := Lib.hid (below_next HBW.out hb3); have HC3 := Lib.hid (below_next HW2.out hb3); have HQ3 := Lib.hid ((hb3.block g lx).trans HQ2.out); clear hb3)
    | (go_at_call 20; (with_reducible refine (HDE1.out _ HB3.out).mono ?_); rintro e w4 ⟨a3, a4, n3, c3, n4, c4, rfl, h3, h4, hb4⟩; have H3 := Lib.hid h3; have H4 := Lib.hid h4; have HB4 := Lib.hid (below_next HB3.out hb4); have HC4 := Lib.hid (below_next HC3.out hb4); have HQ4 := Lib.hid ((hb4.block g (Array.getElem?_eq_some_iff.1 HQ3.out).1).trans HQ3.out); clear h3 h4 hb4))
  obtain ⟨W5, hW5⟩ : ∃ W5, W5 = w4.alloc (.cells #[.slice a3 n3 c3, .slice a4 n4 c4] 24) := ⟨_, rfl⟩
  obtain ⟨q, hq⟩ : ∃ q, q = w4.heap.size := ⟨_, rfl⟩
  have hbV : Below w4.heap.size w4 W5 := by rw [hW5]; exact belowNew w4 _
  have HR5 := Lib.hid (show W5.heap[q]? = some (.cells #[.slice a3 n3 c3, .slice a4 n4 c4] 24 (0, 0)) by rw [hW5, hq]; exact heap_alloc_new w4 _)
  have HQ5 := Lib.hid ((hbV.block g (Array.getElem?_eq_some_iff.1 HQ4.out).1).trans HQ4.out)
  have HB5 := Lib.hid (below_next HB4.out hbV)
  have HC5 := Lib.hid (below_next HC4.out hbV)
  have h3n : n3 = NA := by rw [H3.out.1, HNA.out]; exact List.length_map ..
  have h4n : n4 = NB := by rw [H4.out.1, HNB.out]; exact List.length_map ..
  subst h3n h4n
  have HSM := Lib.hid (fun W (hb : Below W5.heap.size W5 W) => sames_core a1 a2 a3 a4 c1 c2 c3 c4 n3 n4 A B (A.map srtG) (B.map srtG) W (HLB.out W (below_next HC5.out hb)).1 (HLB.out W (below_next HC5.out hb)).2 ((H3.out.2.2.2.lies.below hbV).below hb) ((H4.out.2.2.2.lies.below hbV).below hb) HNA.out HNB.out H3.out.1 H4.out.1 (by rw [HNA.out]; have := HGS.out.1; simp only at this; omega) (by rw [HNB.out]; have := HGS.out.2.1; simp only at this; omega) (okL_alike HGS.out.2.2.2.1) (okL_alike HGS.out.2.2.2.2))
  rw [← hW5, ← hq]
  clear hW5 hq hbV x0 x1 lx
  go_wp2_with (first
    | (go_at_call 8; (with_reducible refine (HAW.out _ HB5.out).mono ?_); rintro e w6 ⟨rfl, hb6⟩; have HX6 := Lib.hid hb6; have HB6 := Lib.hid (below_next HB5.out hb6); obtain ⟨y0, y1, ly⟩ := two_facts ((hb6.block g (Array.getElem?_eq_some_iff.1 HQ5.out).1).trans HQ5.out); obtain ⟨z0, z1, lz⟩ := two_facts ((hb6.block q (Array.getElem?_eq_some_iff.1 HR5.out).1).trans HR5.out); clear hb6)
    | (go_at_call 23; (with_reducible refine (HSM.out _ HX6.out).mono ?_); rintro e w7 ⟨rfl, hb7⟩; have HB7 := Lib.hid (below_next HB6.out hb7); clear hb7))
  go_ret
  exact ⟨rfl, HB7.out⟩
end Go.Proofs.YtbpdenfiifcfcaaGreatDoor
