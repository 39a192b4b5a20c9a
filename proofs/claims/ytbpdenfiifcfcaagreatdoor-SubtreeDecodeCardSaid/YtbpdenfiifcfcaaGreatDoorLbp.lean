/-
  The walk of the law SubtreeDecode: for every text and every slice of ints it returns true, and leaves all that was there as it was.
-/
import Derived.Test.YtbpdenfiifcfcaaGreatDoorLbn
import Derived.Test.YtbpdenfiifcfcaaGreatDoorLbo
import Derived.Test.YtbpdenfiifcfcaaGreatDoorLbl
import Derived.Test.YtbpdenfiifcfcaaGreatDoorLbf
import Derived.Test.YtbpdenfiifcfcaaGreatDoorLbc
namespace Go.Proofs.YtbpdenfiifcfcaaGreatDoor
open Go.RowKit
theorem partB_szB (T:Int) {l:List Gn} (h:∀ g ∈ l,OkG g):(partB T l).1.size ≤ 666 * l.length + 6:=by
 unfold partB fitB
 split
 ·show 0 ≤ _;omega
 ·split
  ·have h1:=catT_size l h
   have h2:=wrapStr_le T (treesB l).data.toList
   have h3:(treesB l).data.toList.length = (cat_t (l.map treeB)).length:=rfl
   show (wrapStr T (treesB l).data.toList).size ≤ _
   omega
  ·show 0 ≤ _;omega
theorem genB_size {s:Sub} (h:GenB s):(encSub s).1.size ≤ 3400:=by
 have hg:=genB_S h
 have h1:=partB_szB 160 hg.2.2.2.1
 have h2:=partB_szB 161 hg.2.2.2.2
 have h3:=h.1
 have h4:=h.2.1
 unfold encSub
 split
 ·show 0 ≤ _;omega
 ·split
  ·show 0 ≤ _;omega
  ·split
   ·show 0 ≤ _;omega
   ·unfold fitB
    split
    ·have h5:=wrapStr_le 48 ((partB 160 s.1).1.data.toList ++ (partB 161 s.2).1.data.toList)
     have h6:((partB 160 s.1).1.data.toList ++ (partB 161 s.2).1.data.toList).length = (partB 160 s.1).1.size + (partB 161 s.2).1.size:=by rw [List.length_append];rfl
     show (wrapStr 48 ((partB 160 s.1).1.data.toList ++ (partB 161 s.2).1.data.toList)).size ≤ _
     omega
    ·show 0 ≤ _;omega
theorem endS_small {R:Nat × Sub} (h:(SmL R.2.1 ∧ R.2.1.length ≤ 150000) ∧ SmL R.2.2 ∧ R.2.2.length ≤ 150000):(SmL (endS R).2.1 ∧ (endS R).2.1.length ≤ 150000) ∧ SmL (endS R).2.2 ∧ (endS R).2.2.length ≤ 150000:=by
 have h0:SmL ([]:List Gn) ∧ ([]:List Gn).length ≤ 150000:=⟨fun _ hg => (by cases hg),Nat.zero_le _⟩
 unfold endS
 split
 ·exact ⟨h0,h0⟩
 ·split
  ·exact ⟨h0,h0⟩
  ·exact h
theorem decSub_small {b:ByteArray} (h:b.size ≤ 150000):(SmL (decSub b).2.1 ∧ (decSub b).2.1.length ≤ 150000) ∧ SmL (decSub b).2.2 ∧ (decSub b).2.2.length ≤ 150000:=by
 rw [decSub_prt]
 exact endS_small (prtB_small h)
set_option maxRecDepth 100000 in
set_option maxHeartbeats 8000000 in
theorem sdeclaw (b:ByteArray) (a:Option Addr) (cap:Nat) (zs:List Int) (w:World) (hl:ILies w a zs) (hz:zs.length ≤ 9223372036854775807) (hT:Tab w) (hP:Pow10 w) (hm:Mk w) :
  Calls Tryz.prog 4 #[.string b,.slice a zs.length cap] w fun e w' => e = .returned (.bool true) ∧ Below w.heap.size w w':=by
 have HAW:=Lib.hid (fun V (hb:Below w.heap.size w V) => awake_core V (hm.below hb))
 have HDE:=Lib.hid (fun x hs V (hb:Below w.heap.size w V) => decs_core x V hs (hT.below hb) (hP.below hb) (hm.below hb))
 have HNW:=Lib.hid (new_any a cap zs w hl hz)
 clear hl hz hm hT hP
 by_cases h1:300 < b.size
 ·have hd1:decide ((300:Int) < (b.size:Int)) = true:=decide_eq_true (by omega)
  clear h1
  go_enter Tryz.func4,Tryz.ntmps4
  go_wp2_with (go_at_call 8;(with_reducible refine (HAW.out _ (Below.refl _ _)).mono ?_);rintro e w1 ⟨rfl,hb1⟩;have HB1:=Lib.hid hb1;clear hb1)
  go_ret
  exact ⟨rfl,HB1.out⟩
 have hd1:decide ((300:Int) < (b.size:Int)) = false:=decide_eq_false (by omega)
 have HBZ:=Lib.hid (show b.size ≤ 1000 by omega)
 clear h1
 go_enter Tryz.func4,Tryz.ntmps4
 go_upto_region 5 with (first
  |(go_at_call 9;(with_reducible refine HNW.out.mono ?_);rintro e w1 ⟨rfl,hd1,hb1⟩;have HD1:=Lib.hid hd1;have HB1:=Lib.hid hb1;clear hd1 hb1)
  |(go_at_call 10;(with_reducible refine (subtrees_any _ a cap zs 0 _ HD1.out (by omega)).mono ?_);rintro e w2 ⟨u,v,A,B,k2,hG,rfl,hu,hv,hd2,hk2,hb2⟩;obtain ⟨a1,c1,rfl,_,hl1⟩:=hu.lies;obtain ⟨a2,c2,rfl,_,hl2⟩:=hv.lies;have HG:=Lib.hid hG;have HS:=Lib.hid (genB_S hG);have HE:=Lib.hid (rencs_core a1 a2 c1 c2 A.length B.length (A,B) w2 hl1 hl2 rfl rfl (okL_sm (genB_S hG).2.2.2.1) (okL_sm (genB_S hG).2.2.2.2) (own_room hu) (own_room hv));unfold encV2 at HE;have HSZ:=Lib.hid (genB_size hG);generalize encSub (A,B) = SE at HE HSZ;obtain ⟨S,E0⟩:=SE;simp only at HE HSZ;have HD2:=Lib.hid hd2;have HK2:=Lib.hid hk2;have HB2:=Lib.hid hb2;clear hu hv hd2 hk2 hb2 hG hl1 hl2)
  |(go_at_call 15;(with_reducible refine HE.out.mono ?_);rintro e w3 ⟨rfl,hb3⟩;have HD3:=Lib.hid (HD2.out.below hb3);have HB3:=Lib.hid (HB2.out.next (But.of hb3));clear hb3))
 have HBW:=Lib.hid (fun V (h:But w.heap.size w1 V) => show Below w.heap.size w V from HB1.out.trans (h.below (Nat.le_of_lt HD1.out.lt)))
 go_upto_region 6 with (first
  |(go_at_call 18;(with_reducible refine (damage_all _ a cap zs k2 S _ HD3.out (by have:=HK2.out;omega) (by have:=HSZ.out;omega)).mono ?_);rintro e w4 ⟨u4,j4,rfl,hu4,hd4,hk4,hb4⟩;have HU4:=Lib.hid (show u4.size ≤ 4000 by have:=HSZ.out;omega);have HD4:=Lib.hid hd4;have HK4:=Lib.hid (show j4 ≤ 100 by have:=HK2.out;omega);have HB4:=Lib.hid (HB3.out.next hb4);clear hu4 hd4 hk4 hb4)
  |(go_at_call 19;(with_reducible refine (rewrap_any _ a cap zs j4 S _ HD4.out (by have:=HK4.out;have:=HSZ.out;omega)).mono ?_);rintro e w5 ⟨u5,j5,rfl,hu5,_,_,hb5⟩;have HU5:=Lib.hid (show u5.size ≤ 140000 by have:=HSZ.out;omega);have HB5:=Lib.hid (HB4.out.next hb5);clear hu5 hb5))
 obtain ⟨U,hU⟩:∃ U,U = w5.alloc (.cells #[.string b,.string S,.string u4,.string u5] 9):=⟨_,rfl⟩
 obtain ⟨G,hGG⟩:∃ G,G = w5.heap.size:=⟨_,rfl⟩
 have hbU:Below w5.heap.size w5 U:=by rw [hU];exact belowNew w5 _
 have hc:∀ j,U.cell? ⟨G,j,none⟩ = (#[.string b,.string S,.string u4,.string u5]:Array Value)[j]?:=fun j => by
  rw [hU,hGG]
  exact cell_of_row _ _ j _ _ _ (heap_alloc_new w5 _)
 have HROW:=Lib.hid (show ∀ i,i < 4 → ∃ x:ByteArray,U.cell? ⟨G,i,none⟩ = some (.string x) ∧ x.size ≤ 140000 from fun i hi => by
  rcases (by omega:i = 0 ∨ i = 1 ∨ i = 2 ∨ i = 3) with rfl | rfl | rfl | rfl
  ·exact ⟨_,hc 0,by have:=HBZ.out;omega⟩
  ·exact ⟨_,hc 1,by have:=HSZ.out;omega⟩
  ·exact ⟨_,hc 2,by have:=HU4.out;omega⟩
  ·exact ⟨_,hc 3,HU5.out⟩)
 have HBU:=Lib.hid (below_next (HBW.out _ HB5.out) hbU)
 rw [← hU,← hGG]
 clear hU hGG hbU hc HBZ HSZ HU4 HU5 HB5 HB4 HB3 HB2 HD4 HD3 HD2 HD1 HK2 HK4 HG HS HE HBW HNW
 go_wp2_with fail
 go_loopw [36] (fun i wr => ∃ j:Nat,j ≤ 4 ∧ i = .int .i64 (j:Int) ∧ Below U.heap.size U wr) (fun i _ => 4 - (intOf i).toNat)
 case atStart => exact ⟨0,Nat.zero_le _,rfl,Below.refl _ _⟩
 case round =>
  obtain ⟨wz,hwz⟩:∃ wz,wz = wr:=⟨_,rfl⟩
  subst hwz
  obtain ⟨j,hj,rfl,hb⟩:=hrel
  have HBJ:=Lib.hid hb
  have HWZ:=Lib.hid (below_next HBU.out hb)
  clear hb
  by_cases hlt:j < 4
  ·have hd:decide ((j:Int) < 4) = true:=decide_eq_true (by omega)
   obtain ⟨x,y0,hxz⟩:=HROW.out j hlt
   have e0:=(HBJ.out.cell (block_lt y0)).trans y0
   have HP1:=Lib.hid (HDE.out x (by omega) wz HWZ.out)
   have HP2:=Lib.hid (fun V => rdsub_core x V (by omega))
   have hsm:=decSub_small (b:=x) (by omega)
   unfold SRes at HP1
   unfold TRes at HP2
   generalize decSub x = R at HP1 HP2 hsm
   obtain ⟨E,A,B⟩:=R
   simp only at HP1 HP2 hsm
   have HSM:=Lib.hid hsm
   have hee:((E:Int) != (E:Int)) = false:=by simp
   have HLT:=Lib.hid hlt
   clear y0 hxz hsm
   go_upto_region 9 with (go_at_call 20;(with_reducible refine HP1.out.mono ?_);rintro e w6 ⟨a1,a2,n1,c1,n2,c2,rfl,⟨hn1,_,_,hl1⟩,⟨hn2,_,_,hl2⟩,hb6⟩;subst hn1;subst hn2;have HL1:=Lib.hid hl1.lies;have HL2:=Lib.hid hl2.lies;have HB6:=Lib.hid hb6;clear hl1 hl2 hb6)
   obtain ⟨W6,hW6⟩:∃ W6,W6 = w6.alloc (.cells #[.slice a1 A.length c1,.slice a2 B.length c2] 24):=⟨_,rfl⟩
   obtain ⟨gy,hgy⟩:∃ gy,gy = w6.heap.size:=⟨_,rfl⟩
   have hb7:Below w6.heap.size w6 W6:=by rw [hW6];exact belowNew w6 _
   have HQ6:=Lib.hid (show W6.heap[gy]? = some (.cells #[.slice a1 A.length c1,.slice a2 B.length c2] 24 (0,0)) by rw [hW6,hgy];exact heap_alloc_new w6 _)
   have HB7:=Lib.hid (below_next HB6.out hb7)
   have HL17:=Lib.hid (HL1.out.below hb7)
   have HL27:=Lib.hid (HL2.out.below hb7)
   rw [← hW6,← hgy]
   clear hW6 hgy hb7 e0
   go_upto_region 10 with (go_at_call 21;(with_reducible refine (HP2.out W6).mono ?_);rintro e w8 ⟨a3,a4,c3,c4,rfl,hl3,hl4,hb8⟩;have HL3:=Lib.hid hl3;have HL4:=Lib.hid hl4;have HB8:=Lib.hid (below_next HB7.out hb8);have HQ8:=Lib.hid ((hb8.block gy (Array.getElem?_eq_some_iff.1 HQ6.out).1).trans HQ6.out);have HL18:=Lib.hid (HL17.out.below hb8);have HL28:=Lib.hid (HL27.out.below hb8);clear hl3 hl4 hb8)
   obtain ⟨W8,hW8⟩:∃ W8,W8 = w8.alloc (.cells #[.slice a3 A.length c3,.slice a4 B.length c4] 24):=⟨_,rfl⟩
   obtain ⟨gz,hgz⟩:∃ gz,gz = w8.heap.size:=⟨_,rfl⟩
   have hb9:Below w8.heap.size w8 W8:=by rw [hW8];exact belowNew w8 _
   have HR9:=Lib.hid (show W8.heap[gz]? = some (.cells #[.slice a3 A.length c3,.slice a4 B.length c4] 24 (0,0)) by rw [hW8,hgz];exact heap_alloc_new w8 _)
   have HQ9:=Lib.hid ((hb9.block gy (Array.getElem?_eq_some_iff.1 HQ8.out).1).trans HQ8.out)
   have HB9:=Lib.hid (below_next HB8.out hb9)
   have HX1:=Lib.hid (exactG_core a1 a3 c1 c3 A.length A W8 (HL18.out.below hb9) (HL3.out.below hb9) rfl (by have:=HSM.out.1.2;omega) (fun i hi => (HSM.out.1.1.at hi).2))
   have HX2:=Lib.hid (fun V (hb:Below W8.heap.size W8 V) => exactG_core a2 a4 c2 c4 B.length B V ((HL28.out.below hb9).below hb) ((HL4.out.below hb9).below hb) rfl (by have:=HSM.out.2.2;omega) (fun i hi => (HSM.out.2.1.at hi).2))
   rw [← hW8,← hgz]
   obtain ⟨p0,p1,lp⟩:=two_facts HQ9.out
   obtain ⟨q0,q1,lq⟩:=two_facts HR9.out
   clear hW8 hgz hb9
   go_wp2_with (first
    |(go_at_call 22;(with_reducible refine HX1.out.mono ?_);rintro e wa ⟨rfl,hba⟩;have HBA:=Lib.hid hba;have HCA:=Lib.hid (below_next HB9.out hba);obtain ⟨_,p1',_⟩:=two_facts ((hba.block gy lp).trans HQ9.out);obtain ⟨_,q1',_⟩:=two_facts ((hba.block gz lq).trans HR9.out);clear hba)
    |(go_at_call 22;(with_reducible refine (HX2.out _ HBA.out).mono ?_);rintro e wb ⟨rfl,hbb⟩;have HCB:=Lib.hid (below_next HCA.out hbb);clear hbb))
   go_roundw
   case rel => exact ⟨j + 1,by have:=HLT.out;omega,by go_num,HBJ.out.trans (HCB.out.mono HBJ.out.size)⟩
   case measure => have:=HLT.out;simp [intOf];omega
  ·have hd:decide ((j:Int) < 4) = false:=decide_eq_false (by omega)
   go_wp2_with (go_at_call 8;(with_reducible refine (HAW.out _ HWZ.out).mono ?_);rintro e w9 ⟨rfl,hb9⟩;have HZ9:=Lib.hid (below_next HWZ.out hb9);clear hb9)
   go_ret
   exact ⟨rfl,HZ9.out⟩
end Go.Proofs.YtbpdenfiifcfcaaGreatDoor
