/-
  The contract of the reference's trees: the bases of a part.
  The contract of May of the reference's decoder: the next element, if it has a tag.
  The contracts of gname's small and equal: whether two texts differ in case only.
  The contracts of gname's sameMail, Same, Match and Within.
-/
import Derived.Test.YtbpdenfiifcfcaaGreatDoorLbg
import Derived.Test.YtbpdenfiifcfcaaGreatDoorLbd
import Derived.Test.YtbpdenfiifcfcaaGreatDoorLba
import Derived.Test.YtbpdenfiifcfcaaGreatDoorLau
import Derived.Test.YtbpdenfiifcfcaaGreatDoorLad
import Derived.Deep.CutRange
import Derived.Deep.DeepCutAuto
import Derived.Deep.RegionWith
import Derived.Lib.QuietBelow
import Derived.BigQuiet
import Derived.Test.YtbpdenfiifcfcaaGreatDoorLas
import Derived.Test.YtbpdenfiifcfcaaGreatDoorLbf
import Derived.Test.YtbpdenfiifcfcaaGreatDoorLai
import Derived.Test.YtbpdenfiifcfcaaGreatDoorLax
namespace Go.Proofs.YtbpdenfiifcfcaaGreatDoor
open Go.RowKit
theorem decT1_bad {z:El} {L:List El} (h:(decG true ((z.1:Nat):Int) z.2.1).1 ≠ 0):decT1 (z :: L) = ((decG true ((z.1:Nat):Int) z.2.1).1,noG):=if_pos h
theorem decT1_more {z:El} {L:List El} (h:(decG true ((z.1:Nat):Int) z.2.1).1 = 0) (h2:L ≠ []):decT1 (z :: L) = (4,noG):=(if_neg (not_not_intro h)).trans (if_pos h2)
theorem decT1_one {z:El} (h:(decG true ((z.1:Nat):Int) z.2.1).1 = 0):decT1 [z] = (0,(decG true ((z.1:Nat):Int) z.2.1).2):=(if_neg (not_not_intro h)).trans (if_neg (not_not_intro rfl))
set_option maxRecDepth 100000 in
set_option maxHeartbeats 8000000 in
theorem rtrees_core (x:El) (w:World) (hx:x.2.1.size ≤ 150000) :
  Calls Tryz.prog 41 #[elV x.1 x.2.1 x.2.2] w fun e w' => ∃ v,e = .returned (.tuple #[v,.int .i64 (((decPt x.2.1).1:Nat):Int)]) ∧ OwnG w' w.heap.size v (decPt x.2.1).2 ∧ Below w.heap.size w w':=by
 obtain ⟨xt,xc,xr⟩:=x
 unfold elV
 simp only at hx ⊢
 obtain ⟨W0,hW0⟩:∃ W0,W0 = w.alloc (.cells #[.int .i64 ((xt:Nat):Int),.string xc,.string xr] 67):=⟨_,rfl⟩
 have hwr:=hW0.symm
 have hb0:Below w.heap.size w W0:=by rw [hW0];exact belowNew w _
 obtain ⟨b0,b1,b2,lb⟩:=three_facts (w:=W0) (g:=w.heap.size) (by rw [hW0];exact heap_alloc_new w _)
 have HB0:=Lib.hid hb0
 have HL:=Lib.hid (rlist_any xc W0 (by omega))
 have HMM:=Lib.hid (fun e (he:e ∈ (lst xc).1) => Nat.le_trans (lst_mem _ xc (Nat.le_refl _) e he) hx)
 have HLE:=Lib.hid (lst_length xc _ hx)
 have HP1:=Lib.hid (fun h => decPt_err (c:=xc) h)
 have HP2:=Lib.hid (fun h h0 => decPt_none (c:=xc) h h0)
 have HP3:=Lib.hid (fun h h0 => decPt_go (c:=xc) h h0)
 obtain ⟨R,hR⟩:∃ R,R = decPt xc:=⟨_,rfl⟩
 rw [← hR] at HP1 HP2 HP3 ⊢
 generalize lst xc = LE at HL HMM HLE HP1 HP2 HP3
 obtain ⟨L,er⟩:=LE
 simp only at HL HMM HLE HP1 HP2 HP3
 obtain ⟨n,hn⟩:∃ n,n = L.length:=⟨_,rfl⟩
 have HN:=Lib.hid hn
 clear hW0 hb0 hR hx hn
 by_cases her:er = 0
 case neg =>
  have hz1:=errno_ne her
  have HV:=Lib.hid (HP1.out her)
  clear her HP1 HP2 HP3
  go_enter Tryz.func41,Tryz.ntmps41
  go_wp2_with (go_at_call 36;(with_reducible refine HL.out.mono ?_);rintro e w1 ⟨v,rfl,ho,hb1⟩;obtain ⟨a1,c1,rfl,_⟩:=ElAt.of ho;have HB1:=Lib.hid (below_next HB0.out hb1);clear ho hb1)
  go_ret2
  exact ⟨_,by rw [HV.out];rfl,by rw [HV.out];exact OwnG.nil _ _,HB1.out⟩
 subst her
 by_cases h0:n = 0
 case pos =>
  have d0:((n:Int) == 0) = true:=beq_iff_eq.2 (by omega)
  have d1:(n == 0) = true:=beq_iff_eq.2 h0
  have HV:=Lib.hid (HP2.out rfl (by rw [← HN.out];exact h0))
  clear h0 HP1 HP2 HP3
  go_enter Tryz.func41,Tryz.ntmps41
  go_wp2_with (go_at_call 36;(with_reducible refine HL.out.mono ?_);rintro e w1 ⟨v,rfl,ho,hb1⟩;obtain ⟨a1,c1,hv1,hc1,_,_⟩:=ElAt.of ho;rw [← HN.out] at hv1;subst hv1;have HB1:=Lib.hid (below_next HB0.out hb1);clear ho hb1 hc1)
  go_ret2
  exact ⟨_,by rw [HV.out];rfl,by rw [HV.out];exact OwnG.nil _ _,HB1.out⟩
 have d0:((n:Int) == 0) = false:=beq_eq_false_iff_ne.2 (by omega)
 have d1:(n == 0) = false:=beq_eq_false_iff_ne.2 h0
 have HV0:=Lib.hid (HP3.out rfl (by rw [← HN.out];exact h0))
 obtain ⟨i0,hi,hz0,hz1,hz2⟩:=info_parts gInfo
 have hnz:n ≤ 1000000:=by have:=HLE.out;have:=HN.out;omega
 clear h0 HP1 HP2 HP3
 go_enter Tryz.func41,Tryz.ntmps41
 go_wp2_with (go_at_call 36;(with_reducible refine HL.out.mono ?_);rintro e w1 ⟨v,rfl,ho,hb1⟩;obtain ⟨a1,c1,hv1,hc1,hel,_⟩:=ElAt.of ho;rw [← HN.out] at hv1;subst hv1;have HEL:=Lib.hid hel;have HB1:=Lib.hid (below_next HB0.out hb1);clear ho hb1 hel hc1)
 clear d0 d1 b0 b1 b2 lb hwr
 go_loopw [6,28] (fun v i wr => ∃ k:Nat,k ≤ n ∧ i = .int .i64 (k:Int) ∧ (∀ j,j < k → (decTr (L.getD j noE0)).1 = 0) ∧ OwnG wr w1.heap.size v ((L.take k).map fun e => (decTr e).2) ∧ Below w1.heap.size w1 wr) (fun _ i _ => n - (intOf i).toNat)
 case atStart => exact ⟨0,Nat.zero_le _,rfl,fun j hj => absurd hj (Nat.not_lt_zero _),OwnG.nil _ _,Below.refl _ _⟩
 case round =>
  obtain ⟨wz,hwz⟩:∃ wz,wz = wr:=⟨_,rfl⟩
  subst hwz
  obtain ⟨k,hk,rfl,ha,hg,hb⟩:=hrel
  obtain ⟨av,cv,hv6,_,_⟩:=hg.lies
  have hst:=fun (hkl:k < L.length) => show (L.take (k + 1)).map (fun e => (decTr e).2) = (L.take k).map (fun e => (decTr e).2) ++ [(decTr (L.getD k noE0)).2] by rw [takeD L k hkl noE0];simp
  have hll:((L.take k).map fun e => (decTr e).2).length = k:=by rw [List.length_map,List.length_take,← HN.out];omega
  have hend:=fun (h:n ≤ k) => show (L.take k).map (fun e => (decTr e).2) = L.map fun e => (decTr e).2 by rw [List.take_of_length_le (by rw [← HN.out];exact h)]
  obtain ⟨l,hl⟩:∃ l,l = (L.take k).map fun e => (decTr e).2:=⟨_,rfl⟩
  rw [← hl] at hg hv6 hll hst hend
  subst hv6
  have HLK:=Lib.hid hll
  have HST:=Lib.hid hst
  have HEND:=Lib.hid hend
  have HB:=Lib.hid hb
  have HW:=Lib.hid (below_next HB1.out hb)
  have HG:=Lib.hid hg
  have HA:=Lib.hid ha
  have HE:=Lib.hid (HEL.out.below hb)
  have HZS:=Lib.hid hb.size
  clear hb hg ha hll hst hend hl
  by_cases hlt:k < n
  ·have hd:decide ((k:Int) < (n:Int)) = true:=by simp;omega
   have hkl:k < L.length:=by rw [← HN.out];exact hlt
   have hki:(k:Int) < (n:Int):=by omega
   obtain ⟨b,o,rfl,hcl⟩:=HE.out.resolve_left (fun e => by rw [e] at hkl;exact absurd hkl (Nat.not_lt_zero _))
   obtain ⟨x0,x1,x2⟩:=hcl k hkl
   have hmem:=HMM.out (L.getD k noE0) (by rw [List.getD_eq_getElem?_getD,List.getElem?_eq_getElem hkl];exact List.getElem_mem _)
   have hbad:=fun h => HV0.out.trans (decTs_err (l:=L) (k:=k) hkl HA.out h)
   have hgood:(decTr (L.getD k noE0)).1 = 0 → ∀ j,j < k + 1 → (decTr (L.getD j noE0)).1 = 0:=fun h j hj => by
    by_cases e:j = k
    ·rw [e];exact h
    ·exact HA.out j (by omega)
   have hsn:=HST.out hkl
   rw [show ((0:Nat),(⟨#[]⟩:ByteArray),(⟨#[]⟩:ByteArray)) = noE0 from rfl] at x0 x1 x2
   obtain ⟨y,hy⟩:∃ y,y = L.getD k noE0:=⟨_,rfl⟩
   rw [← hy] at x0 x1 x2 hmem hbad hgood hsn
   have hdec:=decTr_opn y
   obtain ⟨D,hD⟩:∃ D,D = decTr y:=⟨_,rfl⟩
   rw [← hD] at hdec hbad hgood hsn
   have HOP:=Lib.hid (fun W => ropen_any y 48 W (by omega))
   have HSM2:=Lib.hid (opn_small hmem)
   have hlen2:=opn_len y 48
   generalize opnE y 48 = E at HOP hdec
   generalize opnL y 48 = L2 at HOP hdec HSM2 hlen2
   have HDEC:=Lib.hid hdec
   have HBAD:=Lib.hid hbad
   have HGOOD:=Lib.hid hgood
   have HSN:=Lib.hid hsn
   have HLT:=Lib.hid hlt
   obtain ⟨yt,yc,yr⟩:=y
   unfold elV at HOP
   simp only at x0 x1 x2 HOP hmem hlen2
   obtain ⟨W2,hW2⟩:∃ W2,W2 = wz.alloc (.cells #[.int .i64 ((yt:Nat):Int),.string yc,.string yr] 67):=⟨_,rfl⟩
   have hb2:Below wz.heap.size wz W2:=by rw [hW2];exact belowNew wz _
   obtain ⟨t0,t1,t2,tl⟩:=three_facts (show W2.heap[wz.heap.size]? = _ from by rw [hW2];exact heap_alloc_new wz _)
   have HB2:=Lib.hid hb2
   have HWE2:=Lib.hid hW2.symm
   clear hcl hdec hbad hgood hsn hy hD hW2 hb2 hkl
   go_upto_region 10 with fail
   rw [HWE2.out]
   clear x0 x1 x2
   go_wp2_with fail
   refine (HOP.out W2).mono ?_
   rintro e w3 ⟨⟨v3,rfl,ho3⟩,hb3⟩
   obtain ⟨a3,c3,hv3,hlc3,hel3,hbk3⟩:=ElAt.of ho3
   obtain ⟨m,hm⟩:∃ m,m = L2.length:=⟨_,rfl⟩
   rw [← hm] at hv3 hlc3 hlen2
   subst hv3
   have HM:=Lib.hid hm
   obtain ⟨f,hf⟩:∃ f,f = w3.heap.size:=⟨_,rfl⟩
   obtain ⟨V3,hV3⟩:∃ V3,V3 = w3.alloc (.cells #[.slice a3 m c3,.int .i64 0] 75):=⟨_,rfl⟩
   have hbV:Below w3.heap.size w3 V3:=by rw [hV3];exact belowNew w3 _
   have qf:V3.heap[f]? = some (.cells #[.slice a3 m c3,.int .i64 ((0:Nat):Int)] 75 (0,0)):=by rw [hV3,hf];exact heap_alloc_new w3 _
   have HB3:=Lib.hid (below_next (below_next HB2.out hb3) hbV)
   have HEL3:=Lib.hid (hel3.below hbV)
   have HBK3:=Lib.hid hbk3
   have HQF:=Lib.hid qf
   have HF:=Lib.hid hf
   have HFZ:=Lib.hid (show wz.heap.size ≤ f from by rw [hf];exact Nat.le_trans HB2.out.size hb3.size)
   have HWE3:=Lib.hid hV3.symm
   clear ho3 hb3 hel3 hbk3 hm hf hV3 hbV qf t0 t1 t2 tl
   go_upto_region 11 with fail
   rw [HWE3.out,← HF.out]
   by_cases hz:E = 0
   case neg =>
    have hz1:=errno_ne hz
    have HV:=Lib.hid (show R = (E,[]) from by
     have h1:D = (E,noG):=HDEC.out.trans (if_pos hz)
     have h2:=HBAD.out (by rw [h1];exact hz)
     rw [h2,h1])
    clear hz
    go_wp2_with fail
    go_ret2
    exact ⟨_,by rw [HV.out];rfl,by rw [HV.out];exact OwnG.nil _ _,below_next HW.out HB3.out⟩
   subst hz
   have HD1:=Lib.hid (show D = decT1 L2 from HDEC.out.trans (if_neg (not_not_intro rfl)))
   go_wp2_with fail
   cases L2 with
   |nil =>
    obtain rfl:m = 0:=HM.out
    have HV:=Lib.hid (show R = (3,[]) from by
     have h1:D = (3,noG):=HD1.out
     have h2:=HBAD.out (by rw [h1];decide)
     rw [h2,h1])
    refine (rneed_trunc f 0 c3 0 a3 (-1) V3 HQF.out (Nat.le_refl _)).mono ?_
    rintro e w4 ⟨rfl,hb4⟩
    have HB4:=Lib.hid (below_next HB3.out hb4)
    clear hb4
    unfold noEl
    go_wp2_with fail
    go_ret2
    exact ⟨_,by rw [HV.out];rfl,by rw [HV.out];exact OwnG.nil _ _,below_next HW.out (below_next HB4.out (belowNew _ _))⟩
   |cons z L3 =>
    obtain ⟨b3,o3,rfl,hcl3⟩:=HEL3.out.resolve_left (by simp)
    obtain ⟨z0,z1,z2⟩:=hcl3 0 (by simp)
    rw [show (z :: L3).getD 0 ((0:Nat),(⟨#[]⟩:ByteArray),(⟨#[]⟩:ByteArray)) = z from rfl] at z0 z1 z2
    have hzm:=HSM2.out z (by simp)
    have HM1:=Lib.hid (show m = L3.length + 1 from HM.out)
    have hm0:0 < m:=by have:=HM1.out;omega
    refine (rneed_ok f b3 o3 m c3 0 (-1) z V3 HQF.out hm0 z0 z1 z2 (.inl rfl) (by omega)).mono ?_
    rintro e w4 ⟨rfl,hq4,hb4⟩
    have HTB:=Lib.hid (fun h => HD1.out.trans (decT1_bad (z:=z) (L:=L3) h))
    have HTM:=Lib.hid (fun h h2 => HD1.out.trans (decT1_more (z:=z) (L:=L3) h h2))
    have HTO:=Lib.hid (fun h (h2:L3 = []) => show D = (0,(decG true ((z.1:Nat):Int) z.2.1).2) by rw [HD1.out,h2];exact decT1_one (z:=z) h)
    obtain ⟨zt,zc,zr⟩:=z
    unfold elV
    simp only at hzm HTB HTM HTO ⊢
    have h34:Below wz.heap.size V3 w4:=(hb4.below (Nat.le_of_lt (Array.getElem?_eq_some_iff.1 HQF.out).1)).mono HFZ.out
    obtain ⟨V4,hV4⟩:∃ V4,V4 = w4.alloc (.cells #[.int .i64 ((zt:Nat):Int),.string zc,.string zr] 67):=⟨_,rfl⟩
    have hb5:Below w4.heap.size w4 V4:=by rw [hV4];exact belowNew w4 _
    have HQ5:=Lib.hid ((hb5.block f (Array.getElem?_eq_some_iff.1 hq4).1).trans hq4)
    obtain ⟨u0,u1,u2,ul⟩:=three_facts (show V4.heap[w4.heap.size]? = _ from by rw [hV4];exact heap_alloc_new w4 _)
    have HB5:=Lib.hid (below_next (HB3.out.trans h34) hb5)
    have HWE4:=Lib.hid hV4.symm
    have HX:=Lib.hid (rdecG_core ((zt:Nat):Int) zc zr true V4 hzm)
    generalize decG true ((zt:Nat):Int) zc = G at HX HTB HTM HTO
    obtain ⟨E5,q,t,nm⟩:=G
    simp only at HX HTB HTM HTO
    clear hq4 hb4 h34 hV4 hb5 hcl3 z0 z1 z2
    go_upto_region 14 with fail
    rw [HWE4.out]
    by_cases hz5:E5 = 0
    case neg =>
     have hzz:=errno_ne hz5
     have HV:=Lib.hid (show R = (E5,[]) from by
      have h1:=HTB.out hz5
      have h2:=HBAD.out (by rw [h1];exact hz5)
      rw [h2,h1])
     clear hz5
     go_wp2_with (go_at_call 68;(with_reducible refine HX.out.mono ?_);rintro e w5 ⟨s5,rfl,hso,hb6⟩;obtain ⟨a5,c5,rfl,_,_⟩:=hso.lies;have HB6:=Lib.hid (below_next HB5.out hb6);clear hso hb6)
     go_ret2
     exact ⟨_,by rw [HV.out];rfl,by rw [HV.out];exact OwnG.nil _ _,below_next HW.out (below_next HB6.out (belowNew _ _))⟩
    subst hz5
    go_upto_region 17 with (go_at_call 68;(with_reducible refine HX.out.mono ?_);rintro e w5 ⟨s5,rfl,hso,hb6⟩;obtain ⟨a5,c5,rfl,_,_⟩:=hso.lies;have HB6:=Lib.hid (below_next HB5.out hb6);have HQ6:=Lib.hid ((hb6.block f (Array.getElem?_eq_some_iff.1 HQ5.out).1).trans HQ5.out);have HO6:=Lib.hid (hso.base (Nat.le_trans HZS.out HB5.out.size));clear hso hb6)
    obtain ⟨V6,hV6⟩:∃ V6,V6 = w5.alloc (.cells #[.int .i64 q,.string (strOf t),.slice a5 nm.length c5] 29):=⟨_,rfl⟩
    obtain ⟨gg,hgg⟩:∃ gg,gg = w5.heap.size:=⟨_,rfl⟩
    have hb7:Below w5.heap.size w5 V6:=by rw [hV6];exact belowNew w5 _
    have hq7:V6.heap[gg]? = some (.cells #[.int .i64 q,.string (strOf t),.slice a5 nm.length c5] 29 (0,0)):=by rw [hV6,hgg];exact heap_alloc_new w5 _
    have HG7:=Lib.hid hq7
    have HB7:=Lib.hid (below_next HB6.out hb7)
    have HQ7:=Lib.hid ((hb7.block f (Array.getElem?_eq_some_iff.1 HQ6.out).1).trans HQ6.out)
    have HO7:=Lib.hid (HO6.out.below hb7)
    have HEN:=Lib.hid (rend_any f m c3 1 (some ⟨b3,o3,none⟩) V6 HQ7.out)
    rw [← hV6,← hgg]
    clear hV6 hgg hb7 hq7 u0 u1 u2 ul
    by_cases h3:L3 = []
    case neg =>
     have hm1:1 < m:=by have h9:=HM1.out;have h8:0 < L3.length:=List.length_pos_iff.2 h3;omega
     have HV:=Lib.hid (show R = (4,[]) from by
      have h1:=HTM.out (by trivial) h3
      have h2:=HBAD.out (by rw [h1];decide)
      rw [h2,h1])
     rw [if_pos hm1] at HEN
     clear h3 hm1
     go_wp2_with (go_at_call 42;(with_reducible refine HEN.out.mono ?_);rintro e w7 ⟨rfl,hb8⟩;have HB8:=Lib.hid (below_next HB7.out hb8);clear hb8)
     go_ret2
     exact ⟨_,by rw [HV.out];rfl,by rw [HV.out];exact OwnG.nil _ _,below_next HW.out HB8.out⟩
    have hm1:¬ 1 < m:=by have h9:=HM1.out;rw [h3] at h9;simp at h9;omega
    rw [if_neg hm1] at HEN
    have HDD:=Lib.hid (HTO.out (by trivial) h3)
    have HGD:=Lib.hid (HGOOD.out (by rw [HDD.out]))
    have HSS:=Lib.hid (show (L.take (k + 1)).map (fun e => (decTr e).2) = l ++ [(q,t,nm)] by rw [HSN.out,HDD.out])
    clear h3 hm1
    go_upto_region 22 with (go_at_call 42;(with_reducible refine HEN.out.mono ?_);rintro e w7 ⟨rfl,hb8⟩;have HB8:=Lib.hid (below_next HB7.out hb8);have HG8:=Lib.hid ((hb8.block gg (Array.getElem?_eq_some_iff.1 HG7.out).1).trans HG7.out);have HO8:=Lib.hid (HO7.out.below hb8);clear hb8)
    obtain ⟨f0,f1,f2,_⟩:=three_facts HG8.out
    obtain ⟨ss,hv1,hv2,hv3⟩:=HG.out.below HB8.out
    have HV1:=Lib.hid hv1
    have HV2:=Lib.hid hv2
    have HV3:=Lib.hid hv3
    have HC1:=Lib.hid (HB.out.trans (HB8.out.mono HB.out.size))
    have hll:l.length ≤ 1000000:=by have:=HLK.out;omega
    have hws:=HC1.out.size
    clear hv1 hv2 hv3
    go_wp2_with (at_builtin;(refine wpList_append_own _ rfl (.tmp 59) (.tmp 61) 22 rfl w1.heap.size 29 i0 (.agg #[.int .i64 0,.string ⟨#[]⟩,.slice none 0 0]) 3 48 Tryz.underlying22 hi hz0 hz1 hz2 rfl (by decide) _ l.length (gsCells l ss) rfl (own_below HV2.out (belowNew _ _)) ⟨w7.heap.size,0,none⟩ 1 1 (gCells (q,t,nm) (.slice a5 nm.length c5)) rfl rfl (fun j u h => news_row w7 #[.int .i64 q,.string (strOf t),.slice a5 nm.length c5] 29 j u (by simpa [gCells] using h)) (gCells_one _ _ _ _) (by unfold maxLen;omega) (by omega) (by simp;omega) ?_);intro v' w8 hown8 hgr8 _;have P3:=OwnG.snoc HV1.out (own_below HV2.out (belowNew _ _)) (fun i hi => (HV3.out i hi).below (belowNew _ _)) (HO8.out.below (belowNew _ _)) hgr8 hown8;have P2:=(HC1.out.trans ((belowNew w7 _).mono HC1.out.size)).grown hgr8 (by have:=HC1.out.size;simp;omega) (fun j e => (World.ownsRow.lt HV2.out j e).1);obtain ⟨a6,c6,hv6,_,_⟩:=P3.lies;rw [List.length_append,List.length_singleton] at hv6;subst hv6;have HP3:=Lib.hid P3;have HP2:=Lib.hid P2;clear P2 P3 hown8 hgr8)
    go_roundw
    case rel => exact ⟨k + 1,by have:=HLT.out;omega,by go_num,HGD.out,by rw [HSS.out];exact HP3.out,HP2.out⟩
    case measure => simp [intOf];omega
  ·have hd:decide ((k:Int) < (n:Int)) = false:=by simp;omega
   have HF:=Lib.hid (show R = (0,l) from by
    rw [HV0.out,decTs_all (l:=L) (fun j hj => HA.out j (by rw [← HN.out] at hj;omega)),HEND.out (by omega)])
   go_wp2_with fail
   go_ret2
   exact ⟨_,by rw [HF.out];rfl,by rw [HF.out];exact HG.out.base HB1.out.size,HW.out⟩
set_option maxRecDepth 100000 in
set_option maxHeartbeats 2000000 in
theorem rmay_trunc (gf n c k:Nat) (a:Option Addr) (T:Int) (w:World) (h:w.heap[gf]? = some (.cells #[.slice a n c,.int .i64 (k:Int)] 75 (0,0))) (hk:n ≤ k) :
  Calls Tryz.prog 40 #[.pointer (some ⟨gf,0,none⟩),.int .i64 T] w fun e w' => e = .returned (.tuple #[noEl,.bool false]) ∧ Below w.heap.size w w':=by
 obtain ⟨c0,c1,f0,f1,l0⟩:=fi_facts h
 obtain ⟨W0,hW0⟩:∃ W0,W0 = w.alloc (.cells #[.int .i64 0,.string ⟨#[]⟩,.string ⟨#[]⟩] 67):=⟨_,rfl⟩
 have hwe:=hW0.symm
 have hb:Below w.heap.size w W0:=by rw [hW0];exact belowNew w _
 have q0:W0.heap[w.heap.size]? = some (.cells #[.int .i64 0,.string ⟨#[]⟩,.string ⟨#[]⟩] 67 (0,0)):=by rw [hW0];exact heap_alloc_new w _
 obtain ⟨r0,r1,r2,g0,g1,g2,rl⟩:=at_facts q0
 have d0:=(hb.cell (p:=⟨gf,0,none⟩) l0).trans c0
 have d1:=(hb.cell (p:=⟨gf,1,none⟩) l0).trans c1
 have hd:decide ((n:Int) ≤ (k:Int)) = true:=by simp;omega
 have hd2:decide (n ≤ k) = true:=by simp;omega
 have HB:=Lib.hid hb
 have HQ:=Lib.hid q0
 clear h hW0 hb q0 c0 c1 f0 f1 hk
 go_enter Tryz.func40,Tryz.ntmps40
 go_wp2_with fail
 go_region
 go_wp2_with fail
 have hq:W0.drew.heap[w.heap.size]? = _:=HQ.out
 exact bodyPost_ret (elRes0 rfl _ _ _ _ _ _ rfl (at_set hq)) rfl ⟨rfl,at_below HB.out.drew (Nat.le_refl _)⟩
set_option maxRecDepth 100000 in
set_option maxHeartbeats 2000000 in
theorem rmay_tag (gf b o n c k T:Nat) (x:El) (w:World) (h:w.heap[gf]? = some (.cells #[.slice (some ⟨b,o,none⟩) n c,.int .i64 (k:Int)] 75 (0,0))) (hk:k < n)
  (x0:w.cell? ⟨b,o + k * 3,none⟩ = some (.int .i64 ((x.1:Nat):Int))) (x1:w.cell? ⟨b,o + k * 3 + 1,none⟩ = some (.string x.2.1)) (x2:w.cell? ⟨b,o + k * 3 + 2,none⟩ = some (.string x.2.2)) (hT:x.1 ≠ T) :
  Calls Tryz.prog 40 #[.pointer (some ⟨gf,0,none⟩),.int .i64 (T:Int)] w fun e w' => e = .returned (.tuple #[noEl,.bool false]) ∧ Below w.heap.size w w':=by
 obtain ⟨c0,c1,f0,f1,l0⟩:=fi_facts h
 obtain ⟨W0,hW0⟩:∃ W0,W0 = w.alloc (.cells #[.int .i64 0,.string ⟨#[]⟩,.string ⟨#[]⟩] 67):=⟨_,rfl⟩
 have hwe:=hW0.symm
 have hb:Below w.heap.size w W0:=by rw [hW0];exact belowNew w _
 have q0:W0.heap[w.heap.size]? = some (.cells #[.int .i64 0,.string ⟨#[]⟩,.string ⟨#[]⟩] 67 (0,0)):=by rw [hW0];exact heap_alloc_new w _
 obtain ⟨r0,r1,r2,g0,g1,g2,rl⟩:=at_facts q0
 have d0:=(hb.cell (p:=⟨gf,0,none⟩) l0).trans c0
 have d1:=(hb.cell (p:=⟨gf,1,none⟩) l0).trans c1
 have y0:=(hb.cell (p:=⟨b,o + k * 3,none⟩) (block_lt x0)).trans x0
 have y1:=(hb.cell (p:=⟨b,o + k * 3 + 1,none⟩) (block_lt x0)).trans x1
 have y2:=(hb.cell (p:=⟨b,o + k * 3 + 2,none⟩) (block_lt x0)).trans x2
 have bz:=belowNew W0 (.cells #[.int .i64 0,.string ⟨#[]⟩,.string ⟨#[]⟩] 67)
 have m0:=(bz.cell (p:=⟨gf,0,none⟩) (block_lt d0)).trans d0
 have m1:=(bz.cell (p:=⟨gf,1,none⟩) (block_lt d0)).trans d1
 have n0:=(bz.cell (p:=⟨b,o + k * 3,none⟩) (block_lt y0)).trans y0
 have n1:=(bz.cell (p:=⟨b,o + k * 3 + 1,none⟩) (block_lt y0)).trans y1
 have n2:=(bz.cell (p:=⟨b,o + k * 3 + 2,none⟩) (block_lt y0)).trans y2
 clear bz
 obtain ⟨xt,xc,xr⟩:=x
 simp only at y0 y1 y2 n0 n1 n2 hT
 have hd:decide ((n:Int) ≤ (k:Int)) = false:=by simp;omega
 have hd2:decide (n ≤ k) = false:=by simp;omega
 have hki:(k:Int) < (n:Int):=by omega
 have hT0:decide ((0:Int) ≤ (T:Int)) = true:=by simp
 have hTx:((xt:Int) != (T:Int)) = true:=by simp;omega
 have HB:=Lib.hid hb
 have HQ:=Lib.hid q0
 clear h hW0 hb q0 c0 c1 f0 f1 x0 x1 x2 hT
 go_enter Tryz.func40,Tryz.ntmps40
 go_wp2_with fail
 go_region
 go_wp2_with fail
 have hq:W0.drew.heap[w.heap.size]? = _:=HQ.out
 exact bodyPost_ret (elRes0 rfl _ _ _ _ _ _ rfl (at_set hq)) rfl ⟨rfl,at_below HB.out.drew (Nat.le_refl _)⟩
set_option maxRecDepth 100000 in
set_option maxHeartbeats 2000000 in
theorem rmay_ok (gf b o n c k:Nat) (T:Int) (x:El) (w:World) (h:w.heap[gf]? = some (.cells #[.slice (some ⟨b,o,none⟩) n c,.int .i64 (k:Int)] 75 (0,0))) (hk:k < n)
  (x0:w.cell? ⟨b,o + k * 3,none⟩ = some (.int .i64 ((x.1:Nat):Int))) (x1:w.cell? ⟨b,o + k * 3 + 1,none⟩ = some (.string x.2.1)) (x2:w.cell? ⟨b,o + k * 3 + 2,none⟩ = some (.string x.2.2)) (hT:(x.1:Int) = T) (hbg:b ≠ gf) (hkz:k ≤ 1000000) :
  Calls Tryz.prog 40 #[.pointer (some ⟨gf,0,none⟩),.int .i64 T] w fun e w' => e = .returned (.tuple #[elV x.1 x.2.1 x.2.2,.bool true]) ∧ w'.heap[gf]? = some (.cells #[.slice (some ⟨b,o,none⟩) n c,.int .i64 ((k:Int) + 1)] 75 (0,0)) ∧ But gf w w':=by
 obtain ⟨c0,c1,f0,f1,l0⟩:=fi_facts h
 obtain ⟨W0,hW0⟩:∃ W0,W0 = w.alloc (.cells #[.int .i64 0,.string ⟨#[]⟩,.string ⟨#[]⟩] 67):=⟨_,rfl⟩
 have hwe:=hW0.symm
 have hb:Below w.heap.size w W0:=by rw [hW0];exact belowNew w _
 have q0:W0.heap[w.heap.size]? = some (.cells #[.int .i64 0,.string ⟨#[]⟩,.string ⟨#[]⟩] 67 (0,0)):=by rw [hW0];exact heap_alloc_new w _
 obtain ⟨r0,r1,r2,g0,g1,g2,rl⟩:=at_facts q0
 have d0:=(hb.cell (p:=⟨gf,0,none⟩) l0).trans c0
 have d1:=(hb.cell (p:=⟨gf,1,none⟩) l0).trans c1
 have y0:=(hb.cell (p:=⟨b,o + k * 3,none⟩) (block_lt x0)).trans x0
 have y1:=(hb.cell (p:=⟨b,o + k * 3 + 1,none⟩) (block_lt x0)).trans x1
 have y2:=(hb.cell (p:=⟨b,o + k * 3 + 2,none⟩) (block_lt x0)).trans x2
 have bz:=belowNew W0 (.cells #[.int .i64 0,.string ⟨#[]⟩,.string ⟨#[]⟩] 67)
 have m0:=(bz.cell (p:=⟨gf,0,none⟩) (block_lt d0)).trans d0
 have m1:=(bz.cell (p:=⟨gf,1,none⟩) (block_lt d0)).trans d1
 have n0:=(bz.cell (p:=⟨b,o + k * 3,none⟩) (block_lt y0)).trans y0
 have n1:=(bz.cell (p:=⟨b,o + k * 3 + 1,none⟩) (block_lt y0)).trans y1
 have n2:=(bz.cell (p:=⟨b,o + k * 3 + 2,none⟩) (block_lt y0)).trans y2
 clear bz
 obtain ⟨xt,xc,xr⟩:=x
 simp only at y0 y1 y2 n0 n1 n2 hT
 have hd:decide ((n:Int) ≤ (k:Int)) = false:=by simp;omega
 have hd2:decide (n ≤ k) = false:=by simp;omega
 have hki:(k:Int) < (n:Int):=by omega
 have hk1:IntKind.i64.wrap ((k:Int) + 1) = (k:Int) + 1:=by rw [wrap_i64];omega
 have hg1:¬ gf = w.heap.size:=by omega
 have hg2:¬ w.heap.size = gf:=by omega
 have hlt0:gf < W0.heap.size:=block_lt d0
 have hg3:¬ gf = W0.heap.size:=by omega
 have hg4:¬ W0.heap.size = gf:=by omega
 have hg5:¬ w.heap.size = W0.heap.size:=by omega
 have hg6:¬ W0.heap.size = w.heap.size:=by omega
 have HH:=Lib.hid ((hb.block gf l0).trans h)
 have HB:=Lib.hid hb
 have HQ:=Lib.hid q0
 have HFZ:=Lib.hid (fi_facts ((hb.block gf l0).trans h))
 obtain ⟨_,_,p0,p1,_⟩:=HFZ.out
 have bz:=belowNew W0 (.cells #[.int .i64 ((xt:Nat):Int),.string xc,.string xr] 67)
 have HBZ:=Lib.hid bz
 obtain ⟨v0,v1,v2,_,_,_,vl⟩:=at_facts (heap_alloc_new W0 (.cells #[.int .i64 ((xt:Nat):Int),.string xc,.string xr] 67))
 have hqz:=(bz.block w.heap.size rl).trans q0
 have hhz:=(bz.block gf hlt0).trans ((hb.block gf l0).trans h)
 obtain ⟨s0,s1,s2,sf0,sf1,sf2,sl⟩:=at_facts hqz
 obtain ⟨t0,t1,tf0,tf1,tl⟩:=fi_facts hhz
 have HQZ:=Lib.hid hqz
 have HHZ:=Lib.hid hhz
 clear h hW0 hb q0 c0 c1 f0 f1 x0 x1 x2 bz hqz hhz
 have HT:=Lib.hid hT
 clear hT
 have hTx:((xt:Int) != T) = false:=by rw [HT.out];simp
 have hk2:IntKind.i64.wrap ((k:Int) + 1 - 1) = (k:Int):=by rw [wrap_i64];omega
 have hk3:(k:Int) + 1 - 1 = (k:Int):=by omega
 have hk4:IntKind.i64.wrap (k:Int) = (k:Int):=by rw [wrap_i64];omega
 have hbg1:¬ b = gf:=hbg
 have hbg2:¬ gf = b:=fun h => hbg h.symm
 go_enter Tryz.func40,Tryz.ntmps40
 go_wp2_with fail
 go_region
 go_wp2_with fail
 go_region
 go_wp2_with fail
 have hA:=((But.set gf 1 W0 (.int .i64 ((k:Int) + 1))).block w.heap.size rl (by simp;omega)).trans HQ.out
 have hS:=at_set (a:=.int .i64 ((xt:Nat):Int)) (b:=.string xc) (c:=.string xr) hA
 have hG:=el_other (g:=w.heap.size) (a:=.int .i64 ((xt:Nat):Int)) (b:=.string xc) (c:=.string xr) (fi_set1 (b:=.int .i64 ((k:Int) + 1)) HH.out) hg2
 have hU:=((((But.of HB.out).next (But.set gf 1 W0 (.int .i64 ((k:Int) + 1)))).fresh (But.set w.heap.size 0 _ (.int .i64 ((xt:Nat):Int))) (Nat.le_refl _)).fresh (But.set w.heap.size 1 _ (.string xc)) (Nat.le_refl _)).fresh (But.set w.heap.size 2 _ (.string xr)) (Nat.le_refl _)
 exact bodyPost_ret (elRes0 rfl _ _ _ _ _ _ rfl hS) rfl ⟨rfl,hG,hU.drew.drew⟩
set_option maxRecDepth 100000 in
set_option maxHeartbeats 4000000 in
theorem gwithin_core (a0 b0:Option Addr) (c d n m:Nat) (k l:Int) (t u:List UInt8) (r s:Nm) (w:World) (h1:RLies w a0 r) (h2:RLies w b0 s) (hn:n = r.length) (hm:m = s.length) (hnc:n ≤ c) (ht:t.length ≤ 150000) (hu:u.length ≤ 150000) (hr:SmallN r) (hs:SmallN s) (hmk:Mk w) :
  Calls Tryz.prog 98 #[.agg #[.int .i64 k,.string (strOf t),.slice a0 n c],.agg #[.int .i64 l,.string (strOf u),.slice b0 m d]] w fun e w' => e = .returned (.bool (withinG k t r l u s)) ∧ Below w.heap.size w w':=by
 obtain ⟨W0,hW0⟩:∃ W0,W0 = (w.alloc (.cells #[.int .i64 k,.string (strOf t),.slice a0 n c] 29)).alloc (.cells #[.int .i64 l,.string (strOf u),.slice b0 m d] 29):=⟨_,rfl⟩
 have hwr:(w.alloc (.cells #[.int .i64 k,.string (strOf t),.slice a0 n c] 29)).alloc (.cells #[.int .i64 l,.string (strOf u),.slice b0 m d] 29) = W0:=hW0.symm
 have hb0:Below w.heap.size w W0:=by rw [hW0];exact belowTwo w _ _
 obtain ⟨c0,c1,c2,d0,d1,d2,l1⟩:=box_two w (.int .i64 k) (.string (strOf t)) (.slice a0 n c) (.int .i64 l) (.string (strOf u)) (.slice b0 m d) 29
 rw [← hW0] at c0 c1 c2 d0 d1 d2 l1
 have l0:w.heap.size < W0.heap.size:=by omega
 have HB0:=Lib.hid hb0
 have HT:=Lib.hid ht
 have HU:=Lib.hid hu
 have HK:=Lib.hid (fun W (hb:Below w.heap.size w W) => gkind_any k (strOf t) a0 n c W (hmk.below hb).2)
 obtain ⟨E,hE⟩:∃ E,E = withinG k t r l u s:=⟨_,rfl⟩
 rw [← hE]
 have HE:=Lib.hid hE
 clear hE hW0
 have HMW:=Lib.hid (fun W (hb:Below w.heap.size w W) => pmw_any t u HT.out HU.out W (hmk.below hb).1)
 have HDW:=Lib.hid (fun W (hb:Below w.heap.size w W) => pwithin_any t u HT.out HU.out W)
 have HX:=Lib.hid (fun W (hb:Below w.heap.size w W) => within_core a0 b0 c d n m r s W (h1.below hb) (h2.below hb) hn hm hnc hr hs)
 have HAW:=Lib.hid (fun W (hb:Below w.heap.size w W) => paw_any t u HT.out HU.out W)
 clear h1 h2 hn hm hnc hr hs ht hu hb0 hmk
 by_cases hkl:k = l
 case neg =>
  have e1:(k != l) = true:=bne_iff_ne.2 hkl
  have HV:=Lib.hid (show E = false by rw [HE.out];unfold withinG;rw [if_pos hkl])
  clear hkl
  go_enter Tryz.func98,Tryz.ntmps98
  go_wp2_with fail
  go_ret
  exact ⟨by rw [HV.out];rfl,HB0.out⟩
 subst hkl
 rcases kind_or k with rfl | rfl | rfl | rfl | hk
 ·have HV:=Lib.hid (show E = mailWithinB t u by rw [HE.out];unfold withinG;rw [if_neg (by simp),if_pos rfl])
  rw [show ((kdOf 1:Nat):Int) = 0 from rfl] at HK
  go_enter Tryz.func98,Tryz.ntmps98
  go_wp2_with (first
   |(go_at_call 100;(with_reducible refine (HK.out _ HB0.out).mono ?_);rintro e w1 ⟨rfl,hb9⟩;have HB1:=Lib.hid (below_next HB0.out hb9);have q0:=(hb9.cell (p:=⟨w.heap.size,0,none⟩) l0).trans c0;have q1:=(hb9.cell (p:=⟨w.heap.size,1,none⟩) l0).trans c1;have q2:=(hb9.cell (p:=⟨w.heap.size,2,none⟩) l0).trans c2;have p0:=(hb9.cell (p:=⟨w.heap.size + 1,0,none⟩) l1).trans d0;have p1:=(hb9.cell (p:=⟨w.heap.size + 1,1,none⟩) l1).trans d1;have p2:=(hb9.cell (p:=⟨w.heap.size + 1,2,none⟩) l1).trans d2;clear hb9)
   |(go_at_call 118;(with_reducible refine (HMW.out _ HB1.out).mono ?_);rintro e w2 ⟨rfl,hb9⟩;have HB2:=Lib.hid (below_next HB1.out hb9);clear hb9))
  go_ret
  exact ⟨by rw [HV.out];rfl,HB2.out⟩
 ·have HV:=Lib.hid (show E = dnsWithinB t u by rw [HE.out];unfold withinG;rw [if_neg (by simp),if_neg (by decide),if_pos rfl])
  rw [show ((kdOf 2:Nat):Int) = 1 from rfl] at HK
  go_enter Tryz.func98,Tryz.ntmps98
  go_wp2_with (first
   |(go_at_call 100;(with_reducible refine (HK.out _ HB0.out).mono ?_);rintro e w1 ⟨rfl,hb9⟩;have HB1:=Lib.hid (below_next HB0.out hb9);have q0:=(hb9.cell (p:=⟨w.heap.size,0,none⟩) l0).trans c0;have q1:=(hb9.cell (p:=⟨w.heap.size,1,none⟩) l0).trans c1;have q2:=(hb9.cell (p:=⟨w.heap.size,2,none⟩) l0).trans c2;have p0:=(hb9.cell (p:=⟨w.heap.size + 1,0,none⟩) l1).trans d0;have p1:=(hb9.cell (p:=⟨w.heap.size + 1,1,none⟩) l1).trans d1;have p2:=(hb9.cell (p:=⟨w.heap.size + 1,2,none⟩) l1).trans d2;clear hb9)
   |(go_at_call 119;(with_reducible refine (HDW.out _ HB1.out).mono ?_);rintro e w2 ⟨rfl,hb9⟩;have HB2:=Lib.hid (below_next HB1.out hb9);clear hb9))
  go_ret
  exact ⟨by rw [HV.out];rfl,HB2.out⟩
 ·have HV:=Lib.hid (show E = decide (WithinN r s) by rw [HE.out];unfold withinG;rw [if_neg (by simp),if_neg (by decide),if_neg (by decide),if_pos rfl])
  rw [show ((kdOf 4:Nat):Int) = 2 from rfl] at HK
  go_enter Tryz.func98,Tryz.ntmps98
  go_wp2_with (first
   |(go_at_call 100;(with_reducible refine (HK.out _ HB0.out).mono ?_);rintro e w1 ⟨rfl,hb9⟩;have HB1:=Lib.hid (below_next HB0.out hb9);have q0:=(hb9.cell (p:=⟨w.heap.size,0,none⟩) l0).trans c0;have q1:=(hb9.cell (p:=⟨w.heap.size,1,none⟩) l0).trans c1;have q2:=(hb9.cell (p:=⟨w.heap.size,2,none⟩) l0).trans c2;have p0:=(hb9.cell (p:=⟨w.heap.size + 1,0,none⟩) l1).trans d0;have p1:=(hb9.cell (p:=⟨w.heap.size + 1,1,none⟩) l1).trans d1;have p2:=(hb9.cell (p:=⟨w.heap.size + 1,2,none⟩) l1).trans d2;clear hb9)
   |(go_at_call 120;(with_reducible refine (HX.out _ HB1.out).mono ?_);rintro e w2 ⟨rfl,hb9⟩;have HB2:=Lib.hid (below_next HB1.out hb9);clear hb9))
  go_ret
  exact ⟨by rw [HV.out];rfl,HB2.out⟩
 ·have HV:=Lib.hid (show E = addrWithinB t u by rw [HE.out];unfold withinG;rw [if_neg (by simp),if_neg (by decide),if_neg (by decide),if_neg (by decide),if_pos rfl])
  rw [show ((kdOf 7:Nat):Int) = 3 from rfl] at HK
  go_enter Tryz.func98,Tryz.ntmps98
  go_wp2_with (first
   |(go_at_call 100;(with_reducible refine (HK.out _ HB0.out).mono ?_);rintro e w1 ⟨rfl,hb9⟩;have HB1:=Lib.hid (below_next HB0.out hb9);have q0:=(hb9.cell (p:=⟨w.heap.size,0,none⟩) l0).trans c0;have q1:=(hb9.cell (p:=⟨w.heap.size,1,none⟩) l0).trans c1;have q2:=(hb9.cell (p:=⟨w.heap.size,2,none⟩) l0).trans c2;have p0:=(hb9.cell (p:=⟨w.heap.size + 1,0,none⟩) l1).trans d0;have p1:=(hb9.cell (p:=⟨w.heap.size + 1,1,none⟩) l1).trans d1;have p2:=(hb9.cell (p:=⟨w.heap.size + 1,2,none⟩) l1).trans d2;clear hb9)
   |(go_at_call 121;(with_reducible refine (HAW.out _ HB1.out).mono ?_);rintro e w2 ⟨rfl,hb9⟩;have HB2:=Lib.hid (below_next HB1.out hb9);clear hb9))
  go_ret
  exact ⟨by rw [HV.out];rfl,HB2.out⟩
 ·have HV:=Lib.hid (show E = false by rw [HE.out];unfold withinG;rw [if_neg (by simp),if_neg hk.1,if_neg hk.2.1,if_neg hk.2.2.1,if_neg hk.2.2.2])
  rw [kdOf_no hk,show (((4:Nat)):Int) = 4 from rfl] at HK
  have e0:(k != k) = false:=by simp
  clear hk
  go_enter Tryz.func98,Tryz.ntmps98
  go_wp2_with (go_at_call 100;(with_reducible refine (HK.out _ HB0.out).mono ?_);rintro e w1 ⟨rfl,hb9⟩;have HB1:=Lib.hid (below_next HB0.out hb9);have q0:=(hb9.cell (p:=⟨w.heap.size,0,none⟩) l0).trans c0;have q1:=(hb9.cell (p:=⟨w.heap.size,1,none⟩) l0).trans c1;have q2:=(hb9.cell (p:=⟨w.heap.size,2,none⟩) l0).trans c2;have p0:=(hb9.cell (p:=⟨w.heap.size + 1,0,none⟩) l1).trans d0;have p1:=(hb9.cell (p:=⟨w.heap.size + 1,1,none⟩) l1).trans d1;have p2:=(hb9.cell (p:=⟨w.heap.size + 1,2,none⟩) l1).trans d2;clear hb9)
  go_ret
  exact ⟨by rw [HV.out];rfl,HB1.out⟩
end Go.Proofs.YtbpdenfiifcfcaaGreatDoor
