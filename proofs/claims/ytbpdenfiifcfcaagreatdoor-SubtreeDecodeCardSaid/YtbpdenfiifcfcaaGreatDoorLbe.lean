/-
  The contracts of gname's taggedKind, decodeParts and Decode: the general name of an element, or the error.
-/
import Derived.Test.YtbpdenfiifcfcaaGreatDoorLax
import Derived.Test.YtbpdenfiifcfcaaGreatDoorLbd
import Derived.Test.YtbpdenfiifcfcaaGreatDoorLba
namespace Go.Proofs.YtbpdenfiifcfcaaGreatDoor
open Go.RowKit
set_option maxRecDepth 100000 in
set_option maxHeartbeats 4000000 in
theorem gtag_any (T:Int) (w:World) (h:KdT w) :
  Calls Tryz.prog 160 #[.int .i64 T] w fun e w' => e = .returned (.int .i64 ((tgOf T:Nat):Int)) ∧ Below w.heap.size w w':=by
 obtain ⟨c0,c1,c2,c3,c4,c5,c6,c7,c8,c9,c10,c11⟩:=h.cells
 obtain ⟨Z,hZ⟩:∃ Z,Z = tgOf T:=⟨_,rfl⟩
 have HZ:=Lib.hid hZ
 rw [← hZ]
 clear h hZ
 go_enter Tryz.func160,Tryz.ntmps160
 go_wp2_with fail
 clear c0 c1 c2 c3 c4 c5 c6 c7 c8 c9 c10 c11
 go_loopw [6] (fun i wr => ∃ k:Nat,k ≤ 4 ∧ i = .int .i64 k ∧ (∀ j,j < k → kdG j ≠ T) ∧ Below w.heap.size w wr) (fun i _ => 4 - (intOf i).toNat)
 case atStart => exact ⟨0,by omega,rfl,fun j hj => absurd hj (Nat.not_lt_zero _),Below.refl _ _⟩
 case round =>
  obtain ⟨k,hk,rfl,hA,hb⟩:=hrel
  have HB:=Lib.hid hb
  have HA:=Lib.hid hA
  by_cases hlt:k < 4
  ·have hd:decide ((k:Int) < 4) = true:=by simp;omega
   have hix:=index_kd k hlt
   obtain ⟨n,hn⟩:∃ n,n = kdG k:=⟨_,rfl⟩
   rw [← hn] at hix
   generalize kdN k = g at hix
   generalize kdW k = x at hix
   obtain ⟨W1,hW1⟩:∃ W1,W1 = wr.alloc (.cells #[.int .i64 g,.int .i64 n,.string x] 143):=⟨_,rfl⟩
   have hwr1:wr.alloc (.cells #[.int .i64 g,.int .i64 n,.string x] 143) = W1:=hW1.symm
   have hb1:Below wr.heap.size wr W1:=by rw [hW1];exact belowNew wr _
   have hq1:W1.heap[wr.heap.size]? = some (.cells #[.int .i64 g,.int .i64 n,.string x] 143 (0,0)):=by rw [hW1];exact heap_alloc_new wr _
   obtain ⟨r0,r1,r2,l1⟩:=three_facts hq1
   have HB1:=Lib.hid (below_next hb hb1)
   clear hb hA hW1 hb1 hq1
   by_cases hx:n = T
   ·have hbq:(n == T) = true:=beq_iff_eq.2 hx
    have HF:=Lib.hid (show Z = k by rw [HZ.out];exact tg_hit k hlt (by rw [← hn];exact hx))
    clear hn hx
    go_wp2_with fail
    go_ret
    exact ⟨by rw [HF.out];rfl,HB1.out⟩
   ·have hbq:(n == T) = false:=beq_eq_false_iff_ne.2 hx
    have HF:=Lib.hid (show ∀ j,j < k + 1 → kdG j ≠ T from fun j hj => by
     by_cases e:j = k
     ·rw [e,← hn];exact hx
     ·exact HA.out j (by omega))
    clear hn hx
    go_wp2_with fail
    go_roundw
    case rel => exact ⟨k + 1,by omega,by go_num,HF.out,HB1.out⟩
    case measure => simp [intOf];omega
  ·obtain rfl:k = 4:=by omega
   have hd:decide (((4:Nat):Int) < 4) = false:=rfl
   have HF:=Lib.hid (show Z = 4 by rw [HZ.out];exact tg_miss HA.out)
   clear hb hA
   go_wp2_with fail
   go_ret
   exact ⟨by rw [HF.out];rfl,HB.out⟩
theorem tgOf_no {T:Int} (h:T ≠ 129 ∧ T ≠ 130 ∧ T ≠ 135 ∧ T ≠ 164):tgOf T = 4:=by
 unfold tgOf
 rw [if_neg h.1,if_neg h.2.1,if_neg h.2.2.2,if_neg h.2.2.1]
/-- A general name and an error number as a function hands them back. -/
def GRes (w:World) (G:Nat × Gn) (e:Ending) (w':World):Prop:=∃ s,e = .returned (.tuple #[.agg #[.int .i64 G.2.1,.string (strOf G.2.2.1),s],.int .i64 ((G.1:Nat):Int)]) ∧ OwnN w' w.heap.size s G.2.2.2 ∧ Below w.heap.size w w'
theorem gres_fin {w w9:World} {r:Nat} {x y z:Value} {k:Int} {u:List UInt8} {aq:Option Addr} {cq:Nat} {n:Nm} {E:Nat} {R:Nat × Gn} (hrr:w.heap.size ≤ r) (h1:w9.heap[r]? = some (.cells #[x,y,z] 29 (0,0))) (h2:OwnN w9 w.heap.size (.slice aq n.length cq) n) (h3:Below w.heap.size w w9) (h4:R = (E,(k,u,n))) :
  (((w9.setCell ⟨r,0,none⟩ (.int .i64 k)).setCell ⟨r,1,none⟩ (.string (strOf u))).setCell ⟨r,2,none⟩ (.slice aq n.length cq)).heap[r]? = some (.cells #[.int .i64 k,.string (strOf u),.slice aq n.length cq] 29 (0,0)) ∧
  GRes w R (.returned (.tuple #[.agg #[.int .i64 k,.string (strOf u),.slice aq n.length cq],.int .i64 ((E:Nat):Int)])) (((w9.setCell ⟨r,0,none⟩ (.int .i64 k)).setCell ⟨r,1,none⟩ (.string (strOf u))).setCell ⟨r,2,none⟩ (.slice aq n.length cq)):=by
 have hs:=((But.set r 0 w9 (.int .i64 k)).next (But.set r 1 _ (.string (strOf u)))).next (But.set r 2 _ (.slice aq n.length cq))
 subst h4
 exact ⟨at_set h1,_,rfl,h2.apart h1 (by decide) (by decide) hs,h3.trans ((hs.below (Nat.le_of_lt (Array.getElem?_eq_some_iff.1 h1).1)).mono hrr)⟩
/-- What an element says,before Check. -/
noncomputable def prtD (T:Int) (ct:ByteArray):Nat × Gn:=if tgOf T = 4 then (5,noG) else if tgOf T = 2 then ((decN ct).1,(4,[],(decN ct).2)) else (0,(T - 128,ct.data.toList,[]))
theorem prtD_small {T:Int} {ct:ByteArray} (h:ct.size ≤ 150000):(prtD T ct).2.2.1.length ≤ 150000 ∧ SmallN (prtD T ct).2.2.2:=by
 have h0:SmallN []:=⟨by decide,fun i hi => absurd hi (Nat.not_lt_zero _)⟩
 unfold prtD
 split
 ·exact ⟨by decide,h0⟩
 ·split
  ·exact ⟨Nat.zero_le _,decN_small (by omega)⟩
  ·exact ⟨h,h0⟩
/-- The answer out of a first error,a general name and a second error. -/
def genC (E0:Nat) (g:Gn) (E1:Nat):Nat × Gn:=if E0 ≠ 0 then (E0,noG) else if E1 ≠ 0 then (E1,noG) else (0,g)
theorem decG_txt {con:Bool} {k T:Int} {ct:ByteArray} (e:prtD T ct = (0,(k,ct.data.toList,[]))) (e2:decG con T ct = if chkG con k ct.data.toList [] = 0 then (0,(k,ct.data.toList,[])) else (chkG con k ct.data.toList [],noG)):decG con T ct = genC (prtD T ct).1 (prtD T ct).2 (chkG con (prtD T ct).2.1 (prtD T ct).2.2.1 (prtD T ct).2.2.2):=by
 rw [e,e2]
 show _ = genC 0 (k,ct.data.toList,[]) (chkG con k ct.data.toList [])
 unfold genC
 rw [if_neg (show ¬ (0:Nat) ≠ 0 by simp)]
 by_cases h:chkG con k ct.data.toList [] = 0
 ·rw [if_pos h,if_neg (fun q => q h)]
 ·rw [if_neg h,if_pos h]
theorem decG_tail (con:Bool) (T:Int) (ct:ByteArray):decG con T ct = genC (prtD T ct).1 (prtD T ct).2 (chkG con (prtD T ct).2.1 (prtD T ct).2.2.1 (prtD T ct).2.2.2):=by
 rcases tag_or T with rfl | rfl | rfl | rfl | h
 ·exact decG_txt rfl (by unfold decG;rw [if_pos (by decide)])
 ·exact decG_txt rfl (by unfold decG;rw [if_pos (by decide)])
 ·exact decG_txt rfl (by unfold decG;rw [if_pos (by decide)])
 ·have e:prtD 164 ct = ((decN ct).1,(4,[],(decN ct).2)):=rfl
  rw [e];unfold decG genC
  rw [if_neg (by decide),if_pos rfl]
  by_cases h:(decN ct).1 = 0
  ·have hz:chkN (decN ct).2 = 0:=(enc_dec (b:=ct) (n:=(decN ct).2) (by rw [← h])).1
   rw [if_pos h,if_neg (fun q => q h),if_neg]
   show ¬ chkG con 4 [] (decN ct).2 ≠ 0
   rw [chkG_dir,if_pos rfl,hz];simp
  ·rw [if_neg h,if_pos h]
 ·have e:prtD T ct = (5,noG):=by unfold prtD;rw [if_pos (tgOf_no h)]
  rw [e];unfold decG genC
  rw [if_neg (by omega),if_neg h.2.2.2,if_pos (by decide)]
set_option maxRecDepth 100000 in
set_option maxHeartbeats 8000000 in
theorem parts_dec (T:Int) (ct raw:ByteArray) (w:World) (hc:ct.size ≤ 150000) (hT:Tab w) (hP:Pow10 w) (hmk:Mk w) :
  Calls Tryz.prog 136 #[.agg #[.int .i64 T,.string ct,.string raw]] w fun e w' => GRes w (prtD T ct) e w':=by
 obtain ⟨W0,hW0⟩:∃ W0,W0 = (w.alloc (.cells #[.int .i64 T,.string ct,.string raw] 67)).alloc (.cells #[.int .i64 0,.string ⟨#[]⟩,.slice none 0 0] 29):=⟨_,rfl⟩
 have hb0:Below w.heap.size w W0:=by rw [hW0];exact belowTwo w _ _
 obtain ⟨r,hr⟩:∃ r,r = w.heap.size + 1:=⟨_,rfl⟩
 have hqe:W0.heap[w.heap.size]? = some (.cells #[.int .i64 T,.string ct,.string raw] 67 (0,0)):=by
  rw [hW0];exact ((belowNew _ _).block _ (by simp)).trans (heap_alloc_new w _)
 have hqr:W0.heap[r]? = some (.cells #[.int .i64 0,.string ⟨#[]⟩,.slice none 0 0] 29 (0,0)):=by
  have h1:=heap_alloc_new (w.alloc (.cells #[.int .i64 T,.string ct,.string raw] 67)) (.cells #[.int .i64 0,.string ⟨#[]⟩,.slice none 0 0] 29)
  rw [show (w.alloc (.cells #[.int .i64 T,.string ct,.string raw] 67)).heap.size = r by rw [hr];simp] at h1
  rw [hW0];exact h1
 obtain ⟨c0,c1,c2,l0⟩:=three_facts hqe
 have HWR:=Lib.hid hW0.symm
 have HB0:=Lib.hid hb0
 have HQE:=Lib.hid hqe
 have HQR:=Lib.hid hqr
 have hrr:w.heap.size ≤ r:=by omega
 have HRE:=Lib.hid hr
 have lr:r < W0.heap.size:=(Array.getElem?_eq_some_iff.1 hqr).1
 have HK:=Lib.hid (gtag_any T W0 (hmk.below hb0).2)
 have HD:=Lib.hid (fun W (hb:Below w.heap.size w W) => decode_nm ct W (by omega) (hT.below hb) (hP.below hb))
 have HKC:=Lib.hid (fun W (hb:Below w.heap.size w W) => (hmk.below hb).2.cells)
 obtain ⟨R,hR⟩:∃ R,R = prtD T ct:=⟨_,rfl⟩
 rw [← hR]
 have HR:=Lib.hid hR
 have HSC:=Lib.hid (strOf_of (b:=ct) rfl)
 clear hW0 hb0 hqe hqr hc hr hR hT hP hmk
 rcases tag_or T with rfl | rfl | rfl | rfl | hT
 ·have HV:=Lib.hid (show R = (0,(1,ct.data.toList,[])) by rw [HR.out];rfl)
  rw [show ((tgOf 129:Nat):Int) = 0 from rfl] at HK
  go_enter Tryz.func136,Tryz.ntmps136
  go_upto_region 1 with fail
  rw [HWR.out,← HRE.out]
  go_upto_region 8 with (go_at_call 160;(with_reducible refine HK.out.mono ?_);rintro e w1 ⟨rfl,hb1⟩;have HB1:=Lib.hid (below_next HB0.out hb1);have d1:=(hb1.cell (p:=⟨w.heap.size,1,none⟩) l0).trans c1;have HR1:=Lib.hid ((hb1.block r lr).trans HQR.out);obtain ⟨v0,v1,v2,i0,i1,i2,lv⟩:=at_facts HR1.out;obtain ⟨k0,k1,k2,k3,k4,k5,k6,k7,k8,k9,k10,k11⟩:=HKC.out _ HB1.out;clear hb1)
  go_region
  obtain ⟨q1,s9,e9,h9,b9⟩:=gres_fin (k:=1) (u:=ct.data.toList) (aq:=none) (cq:=0) (n:=[]) hrr HR1.out (OwnN.nil _ _) HB1.out HV.out
  rw [← HSC.out] at q1 e9 h9 b9
  go_wp2_with fail
  exact bodyPost_ret (gnRes2 rfl _ _ r _ _ _ rfl q1) rfl ⟨s9,by rw [← e9];rfl,h9,b9.drew⟩
 ·have HV:=Lib.hid (show R = (0,(2,ct.data.toList,[])) by rw [HR.out];rfl)
  rw [show ((tgOf 130:Nat):Int) = 1 from rfl] at HK
  go_enter Tryz.func136,Tryz.ntmps136
  go_upto_region 1 with fail
  rw [HWR.out,← HRE.out]
  go_upto_region 8 with (go_at_call 160;(with_reducible refine HK.out.mono ?_);rintro e w1 ⟨rfl,hb1⟩;have HB1:=Lib.hid (below_next HB0.out hb1);have d1:=(hb1.cell (p:=⟨w.heap.size,1,none⟩) l0).trans c1;have HR1:=Lib.hid ((hb1.block r lr).trans HQR.out);obtain ⟨v0,v1,v2,i0,i1,i2,lv⟩:=at_facts HR1.out;obtain ⟨k0,k1,k2,k3,k4,k5,k6,k7,k8,k9,k10,k11⟩:=HKC.out _ HB1.out;clear hb1)
  go_region
  obtain ⟨q1,s9,e9,h9,b9⟩:=gres_fin (k:=2) (u:=ct.data.toList) (aq:=none) (cq:=0) (n:=[]) hrr HR1.out (OwnN.nil _ _) HB1.out HV.out
  rw [← HSC.out] at q1 e9 h9 b9
  go_wp2_with fail
  exact bodyPost_ret (gnRes2 rfl _ _ r _ _ _ rfl q1) rfl ⟨s9,by rw [← e9];rfl,h9,b9.drew⟩
 ·have HV:=Lib.hid (show R = (0,(7,ct.data.toList,[])) by rw [HR.out];rfl)
  rw [show ((tgOf 135:Nat):Int) = 3 from rfl] at HK
  go_enter Tryz.func136,Tryz.ntmps136
  go_upto_region 1 with fail
  rw [HWR.out,← HRE.out]
  go_upto_region 8 with (go_at_call 160;(with_reducible refine HK.out.mono ?_);rintro e w1 ⟨rfl,hb1⟩;have HB1:=Lib.hid (below_next HB0.out hb1);have d1:=(hb1.cell (p:=⟨w.heap.size,1,none⟩) l0).trans c1;have HR1:=Lib.hid ((hb1.block r lr).trans HQR.out);obtain ⟨v0,v1,v2,i0,i1,i2,lv⟩:=at_facts HR1.out;obtain ⟨k0,k1,k2,k3,k4,k5,k6,k7,k8,k9,k10,k11⟩:=HKC.out _ HB1.out;clear hb1)
  go_region
  obtain ⟨q1,s9,e9,h9,b9⟩:=gres_fin (k:=7) (u:=ct.data.toList) (aq:=none) (cq:=0) (n:=[]) hrr HR1.out (OwnN.nil _ _) HB1.out HV.out
  rw [← HSC.out] at q1 e9 h9 b9
  go_wp2_with fail
  exact bodyPost_ret (gnRes2 rfl _ _ r _ _ _ rfl q1) rfl ⟨s9,by rw [← e9];rfl,h9,b9.drew⟩
 ·have HV:=Lib.hid (show R = ((decN ct).1,(4,[],(decN ct).2)) by rw [HR.out];rfl)
  rw [show ((tgOf 164:Nat):Int) = 2 from rfl] at HK
  generalize decN ct = G at HD HV
  obtain ⟨E,n⟩:=G
  go_enter Tryz.func136,Tryz.ntmps136
  go_upto_region 1 with fail
  rw [HWR.out,← HRE.out]
  go_upto_region 7 with (first
   |(go_at_call 160;(with_reducible refine HK.out.mono ?_);rintro e w1 ⟨rfl,hb1⟩;have HB1:=Lib.hid (below_next HB0.out hb1);have d1:=(hb1.cell (p:=⟨w.heap.size,1,none⟩) l0).trans c1;have HR1:=Lib.hid ((hb1.block r lr).trans HQR.out);obtain ⟨v0,v1,v2,i0,i1,i2,lv⟩:=at_facts HR1.out;obtain ⟨k0,k1,k2,k3,k4,k5,k6,k7,k8,k9,k10,k11⟩:=HKC.out _ HB1.out;clear hb1)
   |(go_at_call 161;(with_reducible refine (HD.out _ HB1.out).mono ?_);rintro e w2 ⟨v,rfl,⟨s,rfl,hso⟩,hb2⟩;obtain ⟨aq,cq,rfl,hcs,hrl⟩:=hso.lies;have HB2:=Lib.hid (below_next HB1.out hb2);have HR2:=Lib.hid ((hb2.block r lv).trans HR1.out);have HO2:=Lib.hid (hso.base HB1.out.size);clear hcs hrl hso hb2 v0 v1 v2 i0 i1 i2))
  obtain ⟨W3,hW3⟩:∃ W3,W3 = w2.alloc (.cells #[.slice aq n.length cq] 27):=⟨_,rfl⟩
  have hb3:Below w2.heap.size w2 W3:=by rw [hW3];exact belowNew w2 _
  have hq3:W3.heap[w2.heap.size]? = some (.cells #[.slice aq n.length cq] 27 (0,0)):=by rw [hW3];exact heap_alloc_new w2 _
  rw [← hW3]
  have hr3:=(hb3.block r (Array.getElem?_eq_some_iff.1 HR2.out).1).trans HR2.out
  obtain ⟨v0,v1,v2,i0,i1,i2,_⟩:=at_facts hr3
  obtain ⟨n0,_,_⟩:=one_facts hq3
  obtain ⟨q1,s9,e9,h9,b9⟩:=gres_fin (k:=4) (u:=[]) hrr hr3 (HO2.out.below hb3) (below_next HB2.out hb3) HV.out
  clear hb3 hq3 hW3 hr3 k0 k1 k2 k3 k4 k5 k6 k7 k8 k9 k10 k11 c0 c1 c2 d1
  go_wp2_with fail
  exact bodyPost_ret (gnRes2 rfl _ _ r _ _ _ rfl q1) rfl ⟨s9,by rw [← e9];rfl,h9,b9⟩
 ·have HV:=Lib.hid (show R = (5,noG) by rw [HR.out];unfold prtD;rw [if_pos (tgOf_no hT)])
  rw [tgOf_no hT,show (((4:Nat)):Int) = 4 from rfl] at HK
  clear hT
  go_enter Tryz.func136,Tryz.ntmps136
  go_upto_region 1 with fail
  rw [HWR.out,← HRE.out]
  go_wp2_with (go_at_call 160;(with_reducible refine HK.out.mono ?_);rintro e w1 ⟨rfl,hb1⟩;have HB1:=Lib.hid (below_next HB0.out hb1);have d1:=(hb1.cell (p:=⟨w.heap.size,1,none⟩) l0).trans c1;have HR1:=Lib.hid ((hb1.block r lr).trans HQR.out);obtain ⟨v0,v1,v2,i0,i1,i2,lv⟩:=at_facts HR1.out;obtain ⟨k0,k1,k2,k3,k4,k5,k6,k7,k8,k9,k10,k11⟩:=HKC.out _ HB1.out;clear hb1)
  obtain ⟨q1,s9,e9,h9,b9⟩:=gres_fin (k:=0) (u:=[]) (aq:=none) (cq:=0) (n:=[]) hrr HR1.out (OwnN.nil _ _) HB1.out HV.out
  exact bodyPost_ret (gnRes2 rfl _ _ r _ _ _ rfl q1) rfl ⟨s9,by rw [← e9];rfl,h9,b9⟩
theorem genC_a {E0 E1:Nat} {g:Gn} (h:E0 ≠ 0):genC E0 g E1 = (E0,noG):=if_pos h
theorem genC_b {E1:Nat} {g:Gn} (h:E1 ≠ 0):genC 0 g E1 = (E1,noG):=by unfold genC;rw [if_neg (by simp),if_pos h]
theorem genC_c {g:Gn}:genC 0 g 0 = (0,g):=by unfold genC;rw [if_neg (by simp),if_neg (by simp)]
set_option maxRecDepth 100000 in
set_option maxHeartbeats 8000000 in
theorem gdec_core (T:Int) (ct raw:ByteArray) (con:Bool) (w:World) (hc:ct.size ≤ 150000) (hT:Tab w) (hP:Pow10 w) (hmk:Mk w) :
  Calls Tryz.prog 115 #[.agg #[.int .i64 T,.string ct,.string raw],.bool con] w fun e w' => GRes w (decG con T ct) e w':=by
 obtain ⟨W0,hW0⟩:∃ W0,W0 = (w.alloc (.cells #[.int .i64 T,.string ct,.string raw] 67)).alloc (.cells #[.int .i64 0,.string ⟨#[]⟩,.slice none 0 0] 29):=⟨_,rfl⟩
 have hb0:Below w.heap.size w W0:=by rw [hW0];exact belowTwo w _ _
 obtain ⟨r,hr⟩:∃ r,r = w.heap.size + 1:=⟨_,rfl⟩
 have hqe:W0.heap[w.heap.size]? = some (.cells #[.int .i64 T,.string ct,.string raw] 67 (0,0)):=by
  rw [hW0];exact ((belowNew _ _).block _ (by simp)).trans (heap_alloc_new w _)
 have hqr:W0.heap[r]? = some (.cells #[.int .i64 0,.string ⟨#[]⟩,.slice none 0 0] 29 (0,0)):=by
  have h1:=heap_alloc_new (w.alloc (.cells #[.int .i64 T,.string ct,.string raw] 67)) (.cells #[.int .i64 0,.string ⟨#[]⟩,.slice none 0 0] 29)
  rw [show (w.alloc (.cells #[.int .i64 T,.string ct,.string raw] 67)).heap.size = r by rw [hr];simp] at h1
  rw [hW0];exact h1
 obtain ⟨c0,c1,c2,l0⟩:=three_facts hqe
 have HWR:=Lib.hid hW0.symm
 have HB0:=Lib.hid hb0
 have HQE:=Lib.hid hqe
 have HQR:=Lib.hid hqr
 have hrr:w.heap.size ≤ r:=by omega
 have HRE:=Lib.hid hr
 have lr:r < W0.heap.size:=(Array.getElem?_eq_some_iff.1 hqr).1
 have HD:=Lib.hid (parts_dec T ct raw W0 hc (hT.below hb0) (hP.below hb0) (hmk.below hb0))
 have HCH:=Lib.hid (fun W (hb:Below w.heap.size w W) aq cq (k:Int) (u:List UInt8) (n:Nm) (h:RLies W aq n) (hu:u.length ≤ 150000) (hs:SmallN n) => gchk_core aq cq n.length k u n con W h rfl hu hs (hT.below hb) (hmk.below hb))
 obtain ⟨R,hR⟩:∃ R,R = decG con T ct:=⟨_,rfl⟩
 rw [← hR]
 have hR2:=hR.trans (decG_tail con T ct)
 have hsm:=prtD_small (T:=T) hc
 generalize prtD T ct = P at HD hR2 hsm
 obtain ⟨E,k,u,n⟩:=P
 simp only at hR2 hsm
 have HSM:=Lib.hid hsm
 have HR:=Lib.hid hR2
 clear hW0 hb0 hqe hqr hc hr hR hT hP hmk hR2 hsm
 go_enter Tryz.func115,Tryz.ntmps115
 go_upto_region 1 with fail
 rw [HWR.out,← HRE.out]
 go_upto_region 2 with (go_at_call 136;(with_reducible refine HD.out.mono ?_);rintro e w1 ⟨s,rfl,hso,hb1⟩;obtain ⟨aq,cq,rfl,hcs,hrl⟩:=hso.lies;have HB1:=Lib.hid (below_next HB0.out hb1);have HR1:=Lib.hid ((hb1.block r lr).trans HQR.out);have HO1:=Lib.hid (hso.base HB0.out.size);have HL1:=Lib.hid hrl;clear hcs hrl hso hb1)
 obtain ⟨W2,hW2⟩:∃ W2,W2 = w1.alloc (.cells #[.int .i64 k,.string (strOf u),.slice aq n.length cq] 29):=⟨_,rfl⟩
 obtain ⟨g,hg⟩:∃ g,g = w1.heap.size:=⟨_,rfl⟩
 have hb2:Below w1.heap.size w1 W2:=by rw [hW2];exact belowNew w1 _
 have hq2:W2.heap[g]? = some (.cells #[.int .i64 k,.string (strOf u),.slice aq n.length cq] 29 (0,0)):=by rw [hW2,hg];exact heap_alloc_new w1 _
 rw [← hW2,← hg]
 have hr2:=(hb2.block r (Array.getElem?_eq_some_iff.1 HR1.out).1).trans HR1.out
 have hrg:r < g:=by rw [hg];exact (Array.getElem?_eq_some_iff.1 HR1.out).1
 obtain ⟨v0,v1,v2,i0,i1,i2,lv⟩:=at_facts hr2
 obtain ⟨g0,g1,g2,_,_,_,lg⟩:=at_facts hq2
 have HB2:=Lib.hid (below_next HB1.out hb2)
 have HG2:=Lib.hid hq2
 have HR2:=Lib.hid hr2
 have HO2:=Lib.hid (HO1.out.below hb2)
 have HL2:=Lib.hid (HL1.out.below hb2)
 clear hW2 hg hb2 hq2 hr2
 by_cases hz:E = 0
 ·subst hz
  have HK:=Lib.hid (HCH.out W2 HB2.out aq cq k u n HL2.out HSM.out.1 HSM.out.2)
  clear HCH
  generalize chkG con k u n = E1 at HK HR
  by_cases hz1:E1 = 0
  ·subst hz1
   have HV:=Lib.hid (HR.out.trans genC_c)
   go_wp2_with (go_at_call 55;(with_reducible refine HK.out.mono ?_);rintro e w3 ⟨rfl,hb3⟩;have HB3:=Lib.hid (below_next HB2.out hb3);have HR3:=Lib.hid ((hb3.block r lv).trans HR2.out);have HG3:=Lib.hid ((hb3.block g lg).trans HG2.out);have HO3:=Lib.hid (HO2.out.below hb3);clear hb3 v0 v1 v2 i0 i1 i2 lv g0 g1 g2 lg;obtain ⟨v0,v1,v2,i0,i1,i2,lv⟩:=at_facts HR3.out;obtain ⟨g0,g1,g2,_,_,_,lg⟩:=at_facts HG3.out)
   obtain ⟨q1,s9,e9,h9,b9⟩:=gres_fin hrr HR3.out HO3.out HB3.out HV.out
   exact bodyPost_ret (gnRes2 rfl _ _ r _ _ _ rfl q1) rfl ⟨s9,by rw [← e9];rfl,h9,b9⟩
  ·have hz2:=errno_ne hz1
   have HV:=Lib.hid (HR.out.trans (genC_b hz1))
   clear hz1
   go_wp2_with (go_at_call 55;(with_reducible refine HK.out.mono ?_);rintro e w3 ⟨rfl,hb3⟩;have HB3:=Lib.hid (below_next HB2.out hb3);have HR3:=Lib.hid ((hb3.block r lv).trans HR2.out);clear hb3 v0 v1 v2 i0 i1 i2 lv g0 g1 g2 lg;obtain ⟨v0,v1,v2,i0,i1,i2,lv⟩:=at_facts HR3.out)
   obtain ⟨q1,s9,e9,h9,b9⟩:=gres_fin (k:=0) (u:=[]) (aq:=none) (cq:=0) (n:=[]) hrr HR3.out (OwnN.nil _ _) HB3.out HV.out
   exact bodyPost_ret (gnRes2 rfl _ _ r _ _ _ rfl q1) rfl ⟨s9,by rw [← e9];rfl,h9,b9⟩
 ·have hz2:=errno_ne hz
  have HV:=Lib.hid (HR.out.trans (genC_a hz))
  clear hz HCH
  go_wp2_with fail
  obtain ⟨q1,s9,e9,h9,b9⟩:=gres_fin (k:=0) (u:=[]) (aq:=none) (cq:=0) (n:=[]) hrr HR2.out (OwnN.nil _ _) HB2.out HV.out
  exact bodyPost_ret (gnRes2 rfl _ _ r _ _ _ rfl q1) rfl ⟨s9,by rw [← e9];rfl,h9,b9⟩
end Go.Proofs.YtbpdenfiifcfcaaGreatDoor
