/-
  The contract of the reference's DecodeName.
-/
import Derived.Test.YtbpdenfiifcfcaaGreatDoorLax
import Derived.Test.YtbpdenfiifcfcaaGreatDoorLba
import Derived.Test.YtbpdenfiifcfcaaGreatDoorLar
import Derived.Test.YtbpdenfiifcfcaaGreatDoorLal
namespace Go.Proofs.YtbpdenfiifcfcaaGreatDoor
open Go.RowKit
theorem decN_res {b:ByteArray} (h1:oneErr b = 0):decN b = if opnE (rdTag b,rdContent b,rdRaw b) 48 ≠ 0 then (opnE (rdTag b,rdContent b,rdRaw b) 48,[]) else if (decRs (opnL (rdTag b,rdContent b,rdRaw b) 48)).1 ≠ 0 then ((decRs (opnL (rdTag b,rdContent b,rdRaw b) 48)).1,[]) else if chkN (decRs (opnL (rdTag b,rdContent b,rdRaw b) 48)).2 ≠ 0 then (chkN (decRs (opnL (rdTag b,rdContent b,rdRaw b) 48)).2,[]) else (0,(decRs (opnL (rdTag b,rdContent b,rdRaw b) 48)).2):=by
 unfold decN decN0 opnE opnL
 by_cases h2:rdTag b = 48
 ·by_cases h3:(lst (rdContent b)).2 = 0
  ·simp only [h1,h2,h3,ne_eq,not_true_eq_false,if_false]
  ·simp only [h1,h2,h3,ne_eq,not_true_eq_false,not_false_eq_true,if_false,if_true]
 ·simp [h1,h2]
theorem decN_one {b:ByteArray} (h1:oneErr b ≠ 0):decN b = (oneErr b,[]):=by
 unfold decN decN0
 rw [if_pos h1];simp [h1]
theorem decR_opn (x:El):decR x = if opnE x 49 ≠ 0 then (opnE x 49,[]) else if ascB (opnL x 49) = false then (9,[]) else decAs (opnL x 49):=by
 unfold decR opnE opnL
 by_cases h:x.1 = 49
 ·simp only [h,ne_eq,not_true_eq_false,if_false]
 ·simp [h]
theorem decRs_opn_small {b:ByteArray} (hx:b.size ≤ 1000000) (h1:oneErr b = 0) (h2:opnE (rdTag b,rdContent b,rdRaw b) 48 = 0):SmallN (decRs (opnL (rdTag b,rdContent b,rdRaw b) 48)).2:=by
 have h:=decN0_small hx
 unfold decN0 at h
 rw [if_neg (by simpa using h1)] at h
 unfold opnE at h2
 unfold opnL
 simp only at h2 ⊢
 by_cases h3:rdTag b = 48
 ·rw [if_neg (by simpa using h3)] at h h2 ⊢
  rwa [if_neg (by simpa using h2)] at h
 ·rw [if_pos h3] at h2;cases h2
set_option maxRecDepth 100000 in
set_option maxHeartbeats 8000000 in
theorem rdecode_nm (x:ByteArray) (w:World) (hx:x.size ≤ 1000000) :
  Calls Tryz.prog 94 #[.string x] w fun e w' => ∃ v,e = .returned (.tuple #[v,.int .i64 (((decN x).1:Nat):Int)]) ∧ OwnV w' w.heap.size v (decN x).2 ∧ Below w.heap.size w w':=by
 obtain ⟨i0,hi,hz0,hz1,hz2⟩:=info_parts rdInfo
 obtain ⟨i1,hi',hy0,hy1,hy2⟩:=info_parts atInfo
 obtain ⟨E,A,hEA⟩:∃ E A,decN x = (E,A):=⟨_,_,rfl⟩
 have HRES:=Lib.hid (show (E,A) = decN x from hEA.symm)
 rw [hEA]
 clear hEA
 obtain ⟨g,hg⟩:∃ g,g = w.heap.size:=⟨_,rfl⟩
 obtain ⟨W0,hW0⟩:∃ W0,W0 = (w.alloc (.cells #[.slice none 0 0] 27)).alloc (.cells #[.slice none 0 0] 27):=⟨_,rfl⟩
 have HB0:=Lib.hid (show Below w.heap.size w W0 by rw [hW0];exact belowTwo w _ _)
 have HZ0:=Lib.hid (show W0.heap.size = g + 2 by rw [hW0,hg];simp)
 have HG0:=Lib.hid (show W0.heap[g]? = some (.cells #[.slice none 0 0] 27 (0,0)) by
  rw [hW0,hg];exact ((belowNew _ _).block _ (by simp)).trans (heap_alloc_new w _))
 have HG1:=Lib.hid (show W0.heap[g + 1]? = some (.cells #[.slice none 0 0] 27 (0,0)) by
  have:=heap_alloc_new (w.alloc (.cells #[.slice none 0 0] 27)) (.cells #[.slice none 0 0] 27)
  rw [← hW0] at this
  rw [hg]
  simpa using this)
 have HWE:=Lib.hid hW0.symm
 have HG:=Lib.hid hg
 have HON:=Lib.hid (rone_any x W0 (by omega))
 unfold oneVal at HON
 clear hW0 hg
 go_enter Tryz.func94,Tryz.ntmps94
 go_wp2_with fail
 rw [HWE.out,← HG.out]
 by_cases h1:oneErr x = 0
 case neg =>
  obtain ⟨hE,rfl⟩:E = oneErr x ∧ A = []:=by have:=HRES.out;rw [decN_one h1] at this;simpa using this
  rw [if_neg h1] at HON
  have hz1:=errno_ne h1
  unfold noEl at HON
  rw [← hE] at HON hz1
  clear h1 hE HRES
  refine HON.out.mono ?_
  rintro e w1 ⟨rfl,hb1⟩
  have hr:=(hb1.block g (by have:=HZ0.out;omega)).trans HG0.out
  have hs:=(hb1.block (g + 1) (by have:=HZ0.out;omega)).trans HG1.out
  have bz:=belowNew w1 (.cells #[.int .i64 0,.string ⟨#[]⟩,.string ⟨#[]⟩] 67)
  have hr2:=(bz.block g (Array.getElem?_eq_some_iff.1 hr).1).trans hr
  have hs2:=(bz.block (g + 1) (Array.getElem?_eq_some_iff.1 hs).1).trans hs
  have HR:=Lib.hid hr2
  have HBF:=Lib.hid (below_next (below_next HB0.out hb1) bz)
  obtain ⟨s0,f0,sl⟩:=one_facts hr2
  obtain ⟨s1,f1,sl1⟩:=one_facts hs2
  clear hb1 hr bz hr2 hs hs2
  go_wp2_with fail
  exact bodyPost_ret (nmRes rfl _ _ w _ (by rw [← HG.out];rfl) (by rw [← HG.out];exact one_set HR.out)) rfl ⟨_,rfl,⟨_,rfl,OwnN.nil _ _⟩,HBF.out.setCell (p:=⟨g,0,none⟩) (by rw [← HG.out];exact Nat.le_refl _) _⟩
 rw [if_pos h1] at HON
 unfold elV at HON
 have HRE:=Lib.hid (HRES.out.trans (decN_res h1))
 have HSM:=Lib.hid (decRs_opn_small hx h1)
 have hrc:=rdContent_size (oneErr_rd h1)
 generalize rdTag x = t at HON HRE HSM
 generalize rdContent x = ct at HON HRE hrc HSM
 generalize rdRaw x = rw0 at HON HRE HSM
 have HOP:=Lib.hid (fun W => ropen_any (t,ct,rw0) 48 W (by simp only;omega))
 have HMEM:=Lib.hid (fun z (hz:z ∈ opnL (t,ct,rw0) 48) => Nat.le_trans (opn_mem (t,ct,rw0) 48 z hz) (show ct.size ≤ 1099511627 by omega))
 have hlen:=opn_len (t,ct,rw0) 48
 unfold elV at HOP
 generalize opnL (t,ct,rw0) 48 = l at HRE HSM HOP HMEM hlen
 generalize opnE (t,ct,rw0) 48 = er at HRE HSM HOP
 simp only at HOP hlen
 clear HRES h1
 refine HON.out.mono ?_
 rintro e w1 ⟨rfl,hb1⟩
 obtain ⟨W1,hW1⟩:∃ W1,W1 = w1.alloc (.cells #[.int .i64 ((t:Nat):Int),.string ct,.string rw0] 67):=⟨_,rfl⟩
 have hbb:Below w1.heap.size w1 W1:=by rw [hW1];exact belowNew w1 _
 obtain ⟨e0,e1,e2,_,_,_,el⟩:=at_facts (show W1.heap[w1.heap.size]? = _ from by rw [hW1];exact heap_alloc_new w1 _)
 have HH0:=Lib.hid ((hbb.block g (by have:=hb1.size;have:=HZ0.out;omega)).trans ((hb1.block g (by have:=HZ0.out;omega)).trans HG0.out))
 have HH1:=Lib.hid ((hbb.block (g + 1) (by have:=hb1.size;have:=HZ0.out;omega)).trans ((hb1.block (g + 1) (by have:=HZ0.out;omega)).trans HG1.out))
 have HB1:=Lib.hid (below_next (below_next HB0.out hb1) hbb)
 have HWE1:=Lib.hid hW1.symm
 clear hb1 hbb hW1
 go_upto_region 5 with fail
 rw [HWE1.out]
 go_wp2_with fail
 refine (HOP.out W1).mono ?_
 rintro e w2 ⟨⟨v2,rfl,ho2⟩,hb2⟩
 obtain ⟨a,c,rfl,hlc,hel,hbk⟩:=ElAt.of ho2
 obtain ⟨n,hn⟩:∃ n,n = l.length:=⟨_,rfl⟩
 rw [← hn] at hlc hlen ⊢
 have HN:=Lib.hid hn
 have hnz:n ≤ 1099511627:=by omega
 have hzw2:W1.heap.size ≤ w2.heap.size:=hb2.size
 have hgz:g + 2 ≤ W1.heap.size:=by
  have:=(Array.getElem?_eq_some_iff.1 HH1.out).1
  omega
 obtain ⟨f,hf⟩:∃ f,f = w2.heap.size:=⟨_,rfl⟩
 obtain ⟨V2,hV2⟩:∃ V2,V2 = w2.alloc (.cells #[.slice a n c,.int .i64 0] 75):=⟨_,rfl⟩
 have hbV:Below f w2 V2:=by rw [hV2,hf];exact belowNew w2 _
 have qf:V2.heap[f]? = some (.cells #[.slice a n c,.int .i64 0] 75 (0,0)):=by rw [hV2,hf];exact heap_alloc_new w2 _
 have hVz:V2.heap.size = f + 1:=by rw [hV2,hf];simp
 have hfz:W1.heap.size ≤ f:=by omega
 have HH0V:=Lib.hid ((hbV.block g (by omega)).trans ((hb2.block g (by omega)).trans HH0.out))
 have HH1V:=Lib.hid ((hbV.block (g + 1) (by omega)).trans ((hb2.block (g + 1) (by omega)).trans HH1.out))
 have HBV:=Lib.hid (show Below w.heap.size w V2 from (below_next HB1.out hb2).trans (hbV.mono (by rw [← HG.out];omega)))
 have HELV:=Lib.hid (hel.below (by rw [← hf];exact hbV))
 have HBK:=Lib.hid (fun x hx hl => And.intro (hbk x hx hl).1 (show x.block < f by rw [hf];exact (hbk x hx hl).2))
 have HQF:=Lib.hid qf
 have HVZ:=Lib.hid hVz
 have HWE2:=Lib.hid hV2.symm
 have HF:=Lib.hid hf
 obtain ⟨s0,f0,sl⟩:=one_facts HH0V.out
 obtain ⟨s1,f1,sl1⟩:=one_facts HH1V.out
 obtain ⟨k0,k1,_,_,kl⟩:=fi_facts qf
 clear hb2 hbV qf hV2 hf ho2 hel hbk hn e0 e1 e2 el hVz
 go_upto_region 6 with fail
 rw [HWE2.out,← HF.out]
 by_cases hz:er = 0
 case neg =>
  obtain ⟨rfl,rfl⟩:E = er ∧ A = []:=by have:=HRE.out;rw [if_pos hz] at this;simpa using this
  have hzz:=errno_ne hz
  clear hz
  go_wp2_with fail
  exact bodyPost_ret (nmRes rfl _ _ w _ (by rw [← HG.out];rfl) (by rw [← HG.out];exact one_set HH0V.out)) rfl ⟨_,rfl,⟨_,rfl,OwnN.nil _ _⟩,HBV.out.setCell (p:=⟨g,0,none⟩) (by rw [← HG.out];exact Nat.le_refl _) _⟩
 subst hz
 have HSMN:=Lib.hid (HSM.out rfl)
 have HRE2:=Lib.hid (show (E,A) = if (decRs l).1 ≠ 0 then ((decRs l).1,[]) else if chkN (decRs l).2 ≠ 0 then (chkN (decRs l).2,[]) else (0,(decRs l).2) by have:=HRE.out;rwa [if_neg (by simp)] at this)
 have HDR:=Lib.hid (show decRs l = aheadA [] (decRs (l.drop 0)) by rw [List.drop_zero,aheadA_nil decRs_err])
 clear HRE HSM
 obtain ⟨E0,A0,hEA⟩:∃ E0 A0,decRs l = (E0,A0):=⟨_,_,rfl⟩
 rw [hEA] at HSMN HRE2 HDR
 simp only at HSMN HRE2
 clear hEA
 obtain ⟨p,hp⟩:∃ p,p = V2.heap.size:=⟨_,rfl⟩
 obtain ⟨W3,hW3⟩:∃ W3,W3 = V2.alloc (.cells #[.slice none 0 0] 27):=⟨_,rfl⟩
 have hb3:Below p V2 W3:=by rw [hW3,hp];exact belowNew V2 _
 have hb3':Below V2.heap.size V2 W3:=by rw [hW3];exact belowNew V2 _
 have qp:W3.heap[p]? = some (.cells #[.slice none 0 0] 27 (0,0)):=by rw [hW3,hp];exact heap_alloc_new V2 _
 have hpf:p = f + 1:=hp.trans HVZ.out
 have HH03:=Lib.hid ((hb3.block g (by omega)).trans HH0V.out)
 have HH13:=Lib.hid ((hb3.block (g + 1) (by omega)).trans HH1V.out)
 have HF3:=Lib.hid ((hb3.block f (by omega)).trans HQF.out)
 have HB3:=Lib.hid (below_next HBV.out hb3')
 have HEL3:=Lib.hid (HELV.out.below hb3')
 have HP3:=Lib.hid qp
 have HPP:=Lib.hid hp
 have hpW:p < W3.heap.size:=(Array.getElem?_eq_some_iff.1 qp).1
 have HPF:=Lib.hid hpf
 have HWE3:=Lib.hid hW3.symm
 have hgp:g + 2 < p:=by omega
 obtain ⟨k0,k1,_,_,kl⟩:=fi_facts HF3.out
 clear hb3 hb3' qp hp hW3 s0 f0 sl s1 f1 sl1 hpf
 go_upto_region 9 with fail
 rw [HWE3.out,← HPP.out]
 go_wp2_with fail
 go_loopw [42] (fun i wr => ∃ (k:Nat) (D:Nm) (v:Value),k ≤ n ∧ D.length = k ∧ i = .int .i64 (k:Int) ∧ (E0,A0) = aheadA D (decRs (l.drop k)) ∧ wr.heap[p]? = some (.cells #[v] 27 (0,0)) ∧ OwnN wr W3.heap.size v D ∧ But p W3 wr) (fun i _ => n - (intOf i).toNat)
 case atStart => exact ⟨0,[],_,Nat.zero_le _,rfl,rfl,HDR.out,HP3.out,OwnN.nil _ _,But.refl _ _⟩
 case round =>
  obtain ⟨wo,hwo⟩:∃ wo,wo = wr:=⟨_,rfl⟩
  subst hwo
  obtain ⟨k,D,v,hk,hDk,rfl,hA,hbx,hown,hb⟩:=hrel
  have HB:=Lib.hid hb
  have HA:=Lib.hid hA
  have HO:=Lib.hid hown
  have HDK:=Lib.hid hDk
  have HBX:=Lib.hid hbx
  have HR0:=Lib.hid ((hb.block g (by omega) (by simp;omega)).trans HH03.out)
  have HR1:=Lib.hid ((hb.block (g + 1) (by omega) (by simp;omega)).trans HH13.out)
  have hzr:W3.heap.size ≤ wo.heap.size:=hb.size
  have HBL:=Lib.hid (show Below w.heap.size w wo from HB3.out.trans ((hb.below (by omega)).mono (by rw [← HG.out];omega)))
  clear hb hA hown hDk hbx
  by_cases hlt:k < n
  ·have hd:decide ((k:Int) < (n:Int)) = true:=by simp;omega
   obtain ⟨b,o,rfl,hcl⟩:=HEL3.out.resolve_left (fun e => by have:=HN.out;rw [e] at this;simp at this;omega)
   obtain ⟨x0,x1,x2⟩:=hcl k (by rw [← HN.out];exact hlt)
   have hbf:b < f:=(HBK.out _ rfl (fun e => by have:=HN.out;rw [e] at this;simp at this;omega)).2
   have hfp:f < p:=by have:=HPF.out;omega
   have c0:=HB.out.cell x0 (by simp;omega)
   have c1:=HB.out.cell x1 (by simp;omega)
   have c2:=HB.out.cell x2 (by simp;omega)
   have hki:(k:Int) < (n:Int):=by omega
   have hmz:=HMEM.out (l.getD k noEle) (by rw [List.getD_eq_getElem?_getD,List.getElem?_eq_getElem (by rw [← HN.out];exact hlt)];exact List.getElem_mem _)
   have hst:=fun h0 => decRs_step (l:=l) (k:=k) (by rw [← HN.out];exact hlt) h0 D
   have hbd:=fun h0 => decRs_bad (l:=l) (k:=k) (by rw [← HN.out];exact hlt) h0 D
   rw [← HA.out] at hst hbd
   generalize l.getD k noEle = y at c0 c1 c2 hmz hst hbd
   have HFE:=Lib.hid (show E0 ≠ 0 → E = E0 ∧ A = [] from fun h => by have:=HRE2.out;rw [if_pos h] at this;simpa using this)
   have HOP2:=Lib.hid (fun W => ropen_any y 49 W (by omega))
   have HMEM2:=Lib.hid (fun z (hz:z ∈ opnL y 49) => Nat.le_trans (opn_mem y 49 z hz) hmz)
   have hlen2:=opn_len y 49
   rw [decR_opn] at hst hbd
   generalize opnL y 49 = l2 at HOP2 HMEM2 hlen2 hst hbd
   generalize opnE y 49 = er2 at HOP2 hst hbd
   have HST:=Lib.hid hst
   have HBD:=Lib.hid hbd
   obtain ⟨yt,yc,yr⟩:=y
   unfold elV at HOP2
   simp only at c0 c1 c2 HOP2 hmz hlen2
   obtain ⟨W4,hW4⟩:∃ W4,W4 = wo.alloc (.cells #[.int .i64 ((yt:Nat):Int),.string yc,.string yr] 67):=⟨_,rfl⟩
   have hb4:Below wo.heap.size wo W4:=by rw [hW4];exact belowNew wo _
   obtain ⟨t0,t1,t2,_,_,_,tl⟩:=at_facts (show W4.heap[wo.heap.size]? = _ from by rw [hW4];exact heap_alloc_new wo _)
   have HB4:=Lib.hid hb4
   have HWE4:=Lib.hid hW4.symm
   clear hst hbd hW4 hb4 x0 x1 x2 hcl hbf
   go_upto_region 12 with fail
   rw [HWE4.out]
   clear c0 c1 c2
   go_wp2_with fail
   refine (HOP2.out W4).mono ?_
   rintro e w5 ⟨⟨v5,rfl,ho5⟩,hb5⟩
   obtain ⟨a2,c2,rfl,hlc2,hel2,hbk2⟩:=ElAt.of ho5
   obtain ⟨m,hm⟩:∃ m,m = l2.length:=⟨_,rfl⟩
   rw [← hm] at hlc2 hlen2 ho5 ⊢
   have HM:=Lib.hid hm
   have hmm:m ≤ 1099511627:=by omega
   obtain ⟨W5,hW5⟩:∃ W5,W5 = w5.alloc (.cells #[.slice a2 m c2,.int .i64 0] 75):=⟨_,rfl⟩
   have hbW5:Below w5.heap.size w5 W5:=by rw [hW5];exact belowNew w5 _
   obtain ⟨q0,q1,_,_,ql⟩:=fi_facts (show W5.heap[w5.heap.size]? = _ from by rw [hW5];exact heap_alloc_new w5 _)
   have hb45:Below wo.heap.size wo W5:=below_next (below_next HB4.out hb5) hbW5
   have h0:=(hb45.block g (Array.getElem?_eq_some_iff.1 HR0.out).1).trans HR0.out
   have h1:=(hb45.block (g + 1) (Array.getElem?_eq_some_iff.1 HR1.out).1).trans HR1.out
   have HS0:=Lib.hid h0
   have HS1:=Lib.hid h1
   have HB5:=Lib.hid hb45
   have HBL5:=Lib.hid (below_next HBL.out hb45)
   have HEL5:=Lib.hid (hel2.below hbW5)
   have HOE:=Lib.hid (show OwnE W5 W4.heap.size (.slice a2 m c2) l2 from own_below ho5 hbW5)
   have HWE5:=Lib.hid hW5.symm
   obtain ⟨s0,f0,sl⟩:=one_facts h0
   obtain ⟨s1,f1,sl1⟩:=one_facts h1
   clear hb5 hbW5 hW5 hb45 h0 h1 ho5 hel2 hbk2 hm t0 t1 t2 tl
   go_upto_region 13 with fail
   rw [HWE5.out]
   by_cases hz:er2 = 0
   case neg =>
    obtain ⟨rfl,rfl⟩:E0 = er2 ∧ A0 = []:=by have:=HBD.out;rw [if_pos hz] at this;simpa using this hz
    obtain ⟨rfl,rfl⟩:=HFE.out hz
    have hzz:=errno_ne hz
    clear hz
    go_wp2_with fail
    exact bodyPost_ret (nmRes rfl _ _ w _ (by rw [← HG.out];rfl) (by rw [← HG.out];exact one_set HS0.out)) rfl ⟨_,rfl,⟨_,rfl,OwnN.nil _ _⟩,HBL5.out.setCell (p:=⟨g,0,none⟩) (by rw [← HG.out];exact Nat.le_refl _) _⟩
   subst hz
   have HST2:=Lib.hid (show (if ascB l2 = false then ((9,[]):Nat × List At) else decAs l2).1 = 0 → (E0,A0) = aheadA (D ++ [(if ascB l2 = false then ((9,[]):Nat × List At) else decAs l2).2]) (decRs (l.drop (k + 1))) by have:=HST.out;rwa [if_neg (by simp)] at this)
   have HBD2:=Lib.hid (show (if ascB l2 = false then ((9,[]):Nat × List At) else decAs l2).1 ≠ 0 → (E0,A0) = ((if ascB l2 = false then ((9,[]):Nat × List At) else decAs l2).1,[]) by have:=HBD.out;rwa [if_neg (by simp)] at this)
   clear HST HBD
   have HAS:=Lib.hid (rasc_any _ _ l2 W5 HOE.out (by have:=HM.out;omega))
   go_wp2_with fail
   refine HAS.out.mono ?_
   rintro e w6 ⟨⟨bb,rfl,hbb⟩,hb6⟩
   have hab:=ascB_iff hbb
   rw [← hab] at HST2 HBD2
   have HB6:=Lib.hid (below_next HB5.out hb6)
   have HBL6:=Lib.hid (below_next HBL5.out hb6)
   have HEL6:=Lib.hid (HEL5.out.below hb6)
   have HU0:=Lib.hid ((hb6.block g sl).trans HS0.out)
   have HU1:=Lib.hid ((hb6.block (g + 1) sl1).trans HS1.out)
   have r0:=(hb6.cell (p:=⟨w5.heap.size,0,none⟩) ql).trans q0
   obtain ⟨u0,g0,hl0⟩:=one_facts HU0.out
   obtain ⟨u1,g1,hl1⟩:=one_facts HU1.out
   clear hbb hb6 hab s0 f0 sl s1 f1 sl1 q0 q1 ql
   cases bb with
   |false =>
    obtain ⟨rfl,rfl⟩:E0 = 9 ∧ A0 = []:=by simpa using HBD2.out
    obtain ⟨rfl,rfl⟩:=HFE.out (by decide)
    go_wp2_with fail
    exact bodyPost_ret (nmRes rfl _ _ w _ (by rw [← HG.out];rfl) (by rw [← HG.out];exact one_set HU0.out)) rfl ⟨_,rfl,⟨_,rfl,OwnN.nil _ _⟩,HBL6.out.setCell (p:=⟨g,0,none⟩) (by rw [← HG.out];exact Nat.le_refl _) _⟩
   |true =>
    have HST3:=Lib.hid (show (decAs l2).1 = 0 → (E0,A0) = aheadA (D ++ [(decAs l2).2]) (decRs (l.drop (k + 1))) by simpa using HST2.out)
    have HBD3:=Lib.hid (show (decAs l2).1 ≠ 0 → (E0,A0) = ((decAs l2).1,[]) by simpa using HBD2.out)
    have HDA:=Lib.hid (show decAs l2 = aheadA [] (decAs (l2.drop 0)) by rw [List.drop_zero,aheadA_nil decAs_err])
    obtain ⟨E1,A1,hEA⟩:∃ E1 A1,decAs l2 = (E1,A1):=⟨_,_,rfl⟩
    rw [hEA] at HST3 HBD3 HDA
    simp only at HST3 HBD3
    clear hEA HST2 HBD2 HAS
    have hz6:wo.heap.size ≤ w6.heap.size:=HB6.out.size
    go_wp2_with fail
    go_loopw [13,63] (fun r i ws => ∃ (q:Nat) (L:List At) (u:Value),q ≤ m ∧ L.length = q ∧ r = u ∧ i = .int .i64 (q:Int) ∧ (E1,A1) = aheadA L (decAs (l2.drop q)) ∧ OwnA ws w6.heap.size u L ∧ Below w6.heap.size w6 ws) (fun _ i _ => m - (intOf i).toNat)
    case atStart => exact ⟨0,[],_,Nat.zero_le _,rfl,rfl,rfl,HDA.out,OwnA.nil _ _,Below.refl _ _⟩
    case round =>
     obtain ⟨ws,hws⟩:∃ ws,ws = wr:=⟨_,rfl⟩
     subst hws
     obtain ⟨q,L,u,hq,hLq,rfl,rfl,hA2,hown2,hb3⟩:=hrel
     have HB3:=Lib.hid hb3
     have HA2:=Lib.hid hA2
     have HO2:=Lib.hid hown2
     have HLQ:=Lib.hid hLq
     have hz3:w6.heap.size ≤ ws.heap.size:=hb3.size
     have HBS:=Lib.hid (below_next HB6.out hb3)
     have HV0:=Lib.hid ((hb3.block g hl0).trans HU0.out)
     have HV1:=Lib.hid ((hb3.block (g + 1) hl1).trans HU1.out)
     clear hb3 hA2 hown2 hLq
     by_cases hlq:q < m
     ·have hd2:decide ((q:Int) < (m:Int)) = true:=by simp;omega
      obtain ⟨b2,o2,rfl,hcl2⟩:=(HEL6.out.below HB3.out).resolve_left (fun e => by have:=HM.out;rw [e] at this;simp at this;omega)
      obtain ⟨x0,x1,x2⟩:=hcl2 q (by rw [← HM.out];exact hlq)
      have hki2:(q:Int) < (m:Int):=by omega
      have hmz2:=HMEM2.out (l2.getD q noEle) (by rw [List.getD_eq_getElem?_getD,List.getElem?_eq_getElem (by rw [← HM.out];exact hlq)];exact List.getElem_mem _)
      have HST4:=Lib.hid (fun h0 => HA2.out.trans (decAs_step (l:=l2) (k:=q) (by rw [← HM.out];exact hlq) h0 L))
      have HBD4:=Lib.hid (fun h0 => HA2.out.trans (decAs_bad (l:=l2) (k:=q) (by rw [← HM.out];exact hlq) h0 L))
      rw [show ((0:Nat),(⟨#[]⟩:ByteArray),(⟨#[]⟩:ByteArray)) = noEle from rfl] at x0 x1 x2
      generalize l2.getD q noEle = z at x0 x1 x2 hmz2 HST4 HBD4
      obtain ⟨zt,zc,zr⟩:=z
      have HDT:=Lib.hid (fun W => rdeca_any (zt,zc,zr) W hmz2)
      unfold elV at HDT
      obtain ⟨eA,aA,hda⟩:∃ eA aA,decA (zt,zc,zr) = (eA,aA):=⟨_,_,rfl⟩
      rw [hda] at HST4 HBD4 HDT
      obtain ⟨at1,at2,at3⟩:=aA
      unfold atV at HDT
      simp only at x0 x1 x2 HDT HST4 HBD4
      obtain ⟨W7,hW7⟩:∃ W7,W7 = ws.alloc (.cells #[.int .i64 ((zt:Nat):Int),.string zc,.string zr] 67):=⟨_,rfl⟩
      have hb7:Below ws.heap.size ws W7:=by rw [hW7];exact belowNew ws _
      obtain ⟨t0,t1,t2,_,_,_,tl⟩:=at_facts (show W7.heap[ws.heap.size]? = _ from by rw [hW7];exact heap_alloc_new ws _)
      have HB7:=Lib.hid hb7
      have HWE7:=Lib.hid hW7.symm
      clear hcl2 hmz2 hda hW7 hb7
      go_upto_region 21 with fail
      rw [HWE7.out]
      clear x0 x1 x2
      go_wp2_with fail
      refine (HDT.out W7).mono ?_
      rintro e w8 ⟨rfl,hb8⟩
      obtain ⟨W8,hW8⟩:∃ W8,W8 = w8.alloc (.cells #[.string at1,.int .i64 at2,.string at3] 86):=⟨_,rfl⟩
      have hbW8:Below w8.heap.size w8 W8:=by rw [hW8];exact belowNew w8 _
      obtain ⟨z0,z1,z2,_,_,_,zl⟩:=at_facts (show W8.heap[w8.heap.size]? = _ from by rw [hW8];exact heap_alloc_new w8 _)
      have hb78:Below ws.heap.size ws W8:=below_next (below_next HB7.out hb8) hbW8
      have h0:=(hb78.block g (Array.getElem?_eq_some_iff.1 HV0.out).1).trans HV0.out
      have h1:=(hb78.block (g + 1) (Array.getElem?_eq_some_iff.1 HV1.out).1).trans HV1.out
      have HY0:=Lib.hid h0
      obtain ⟨u0,g0,hl0⟩:=one_facts h0
      obtain ⟨u1,g1,hl1⟩:=one_facts h1
      have HB8:=Lib.hid hb78
      have HWE8:=Lib.hid hW8.symm
      clear hb8 hbW8 hb78 hW8 h0 h1 t0 t1 t2 tl
      go_upto_region 22 with fail
      rw [HWE8.out]
      by_cases hz:eA = 0
      case neg =>
       obtain ⟨rfl,rfl⟩:E1 = eA ∧ A1 = []:=by simpa using HBD4.out hz
       obtain ⟨rfl,rfl⟩:E0 = E1 ∧ A0 = []:=by simpa using HBD3.out hz
       obtain ⟨rfl,rfl⟩:=HFE.out hz
       have hzz:=errno_ne hz
       have HBX8:=Lib.hid (below_next (below_next HBL.out HBS.out) HB8.out)
       clear hz
       go_wp2_with fail
       exact bodyPost_ret (nmRes rfl _ _ w _ (by rw [← HG.out];rfl) (by rw [← HG.out];exact one_set HY0.out)) rfl ⟨_,rfl,⟨_,rfl,OwnN.nil _ _⟩,HBX8.out.setCell (p:=⟨g,0,none⟩) (by rw [← HG.out];exact Nat.le_refl _) _⟩
      subst hz
      have HPL:=Lib.hid (HST4.out rfl)
      obtain ⟨aD,cD,rfl,_,_⟩:=HO2.out.lies
      have HNW:=Lib.hid (at_news1 W8 (at1,at2,at3))
      go_wp2_with (at_builtin;(refine wpList_append_own _ rfl (.tmp 76) (.tmp 78) 84 rfl w6.heap.size 86 i1 (.agg #[.string ⟨#[]⟩,.int .i64 0,.string ⟨#[]⟩]) 3 40 Tryz.underlying84 hi' hy0 hy1 hy2 rfl (by decide) _ L.length (atsCells L) rfl ((own_below HO2.out HB8.out).alloc _) ⟨W8.heap.size,0,none⟩ 1 1 (atCells (at1,at2,at3)) rfl rfl HNW.out (atCells_one _) (by have:=HLQ.out;unfold maxLen;omega) (by have:=HLQ.out;omega) (by have:=HB3.out.size;have:=HB8.out.size;simp;omega) ?_);intro v' w9 hown9 hgr9 _;obtain ⟨P1,P2⟩:=ats_round1 (e:=(at1,at2,at3)) (Nat.le_refl _) HO2.out HB3.out HB8.out hown9 hgr9;have HP1:=Lib.hid P1;have HP2:=Lib.hid P2;clear hown9 hgr9 P1 P2)
      go_roundw
      case rel => exact ⟨q + 1,L ++ [(at1,at2,at3)],_,by omega,by rw [List.length_append,HLQ.out];rfl,rfl,by go_num,HPL.out,HP1.out,HP2.out⟩
      case measure => simp [intOf];omega
     ·have hd2:decide ((q:Int) < (m:Int)) = false:=by simp;omega
      obtain ⟨rfl,rfl⟩:E1 = 0 ∧ A1 = L:=by have:=HA2.out;rw [decAs_end (by rw [← HM.out];omega)] at this;simpa using this
      have HPL:=Lib.hid (HST3.out rfl)
      obtain ⟨aD,cD,rfl,_,_⟩:=HO2.out.lies
      obtain ⟨aV,cV,rfl,hcV,_⟩:=HO.out.lies
      have h1:=(HBS.out.block p (by omega)).trans HBX.out
      have HHP:=Lib.hid h1
      obtain ⟨d1,k1,hlp⟩:=one_facts h1
      obtain ⟨vs,hv1,hv2,hv3⟩:=HO.out
      have HVV1:=Lib.hid hv1
      have HVV2:=Lib.hid hv2
      have HVV3:=Lib.hid hv3
      clear h1 hv1 hv2 hv3
      go_wp2_with (at_builtin;(refine wpList_append_own _ rfl (.tmp 82) (.tmp 84) 25 rfl W3.heap.size 84 i0 (.slice none 0 0) 1 24 Tryz.underlying25 hi hz0 hz1 hz2 rfl (by decide) _ D.length vs rfl ((own_below HVV2.out HBS.out).alloc _) ⟨ws.heap.size,0,none⟩ 1 1 [.slice aD A1.length cD] rfl rfl (row_news ws _ _) (one_one _ _ _) (by have:=HDK.out;unfold maxLen;omega) (by have:=HDK.out;omega) (by have:=HBS.out.size;simp;omega) ?_);intro v' w9 hown9 hgr9 _;have P1:=more_box HHP.out (show p < W3.heap.size by omega) HVV2.out hgr9;have P2:=but_row HB.out (below_next HBS.out (belowNew ws _)) HVV2.out (Nat.le_refl _) hgr9;have P3:=OwnN.snoc HVV1.out (own_below (own_below HVV2.out HBS.out) (belowNew ws _)) (fun i hi => ((HVV3.out i hi).below HBS.out).below (belowNew ws _)) ((HO2.out.base (by omega)).below (belowNew ws _)) hgr9 hown9;obtain ⟨a6,c6,hv6,_,_⟩:=P3.lies;rw [List.length_append,List.length_singleton] at hv6;subst hv6;obtain ⟨s0,t0,hltq⟩:=one_facts P1;have HP1:=Lib.hid P1;have HP2:=Lib.hid P2;have HP3':=Lib.hid P3;clear P1 P2 P3 hown9 hgr9)
      have hs:=But.set p 0 w9 (.slice a6 (D.length + 1) c6)
      go_roundw
      case rel => exact ⟨_,_,_,_,_,_,_,_,_,⟨k + 1,by omega,D ++ [A1],by rw [List.length_append,HDK.out];rfl,by go_num,HPL.out,_,(Array.getElem?_eq_some_iff.1 (one_set HP1.out)).2,HP3'.out.but (p:=p) hs (by omega),HP2.out.next hs⟩,rfl,rfl,rfl,rfl,rfl,rfl,rfl,rfl,rfl⟩
      case measure => simp [intOf];omega
  ·have hd:decide ((k:Int) < (n:Int)) = false:=by simp;omega
   obtain ⟨rfl,rfl⟩:E0 = 0 ∧ A0 = D:=by have:=HA.out;rw [decRs_end (by rw [← HN.out];omega)] at this;simpa using this
   have e2:=HRE2.out
   rw [if_neg (by simp)] at e2
   obtain ⟨av,cv,rfl,hcv,hrl⟩:=HO.out.lies
   have HRL:=Lib.hid hrl
   have HCK:=Lib.hid (fun W h => rchk_core av cv A0.length A0 W h rfl HSMN.out)
   generalize chkN A0 = C at e2 HCK
   obtain ⟨c1,f1,hl1⟩:=one_facts HBX.out
   obtain ⟨c0,f0,hl0⟩:=one_facts HR0.out
   obtain ⟨d0,d1,hd1⟩:=one_facts HR1.out
   clear hrl
   by_cases hz0':C = 0
   ·obtain ⟨rfl,rfl⟩:E = 0 ∧ A = A0:=by rw [if_neg (by simpa using hz0')] at e2;simpa using e2
    subst hz0'
    clear e2
    go_wp2_with (go_at_call 62;(with_reducible refine (HCK.out _ HRL.out).mono ?_);rintro e w8 ⟨rfl,hb8⟩;have HB8:=Lib.hid (below_next HBL.out hb8);have h81:=(hb8.block p hl1).trans HBX.out;have h80:=(hb8.block g hl0).trans HR0.out;have HQ8:=Lib.hid h80;have HO8:=Lib.hid (HO.out.below hb8);obtain ⟨c81,f81,hl81⟩:=one_facts h81;obtain ⟨c80,f80,hl80⟩:=one_facts h80;clear hb8 h80 h81)
    exact bodyPost_ret (nmRes rfl _ _ w _ (by rw [← HG.out];rfl) (by rw [← HG.out];exact one_set HQ8.out)) rfl ⟨_,rfl,⟨_,rfl,(HO8.out.but (p:=g) (But.set _ _ _ _) (by omega)).base (by rw [← HG.out];omega)⟩,HB8.out.setCell (p:=⟨g,0,none⟩) (by rw [← HG.out];exact Nat.le_refl _) _⟩
   ·obtain ⟨rfl,rfl⟩:E = C ∧ A = []:=by rw [if_pos hz0'] at e2;simpa using e2
    have hz1':=errno_ne hz0'
    clear e2 hz0'
    go_wp2_with (go_at_call 62;(with_reducible refine (HCK.out _ HRL.out).mono ?_);rintro e w8 ⟨rfl,hb8⟩;have HB8:=Lib.hid (below_next HBL.out hb8);have h80:=(hb8.block g hl0).trans HR0.out;have h81:=(hb8.block (g + 1) hd1).trans HR1.out;have HQ8:=Lib.hid h80;obtain ⟨c80,f80,hl80⟩:=one_facts h80;obtain ⟨c81,f81,hl81⟩:=one_facts h81;clear hb8 h80 h81)
    exact bodyPost_ret (nmRes rfl _ _ w _ (by rw [← HG.out];rfl) (by rw [← HG.out];exact one_set HQ8.out)) rfl ⟨_,rfl,⟨_,rfl,OwnN.nil _ _⟩,HB8.out.setCell (p:=⟨g,0,none⟩) (by rw [← HG.out];exact Nat.le_refl _) _⟩
end Go.Proofs.YtbpdenfiifcfcaaGreatDoor
