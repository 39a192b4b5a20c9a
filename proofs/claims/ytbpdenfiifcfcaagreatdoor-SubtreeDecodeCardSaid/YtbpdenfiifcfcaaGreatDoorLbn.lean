/-
  The contract of the reference's DecodeSubtrees.
-/
import Derived.Test.YtbpdenfiifcfcaaGreatDoorLbh
import Derived.Test.YtbpdenfiifcfcaaGreatDoorLbi
import Derived.Test.YtbpdenfiifcfcaaGreatDoorLbm
namespace Go.Proofs.YtbpdenfiifcfcaaGreatDoor
open Go.RowKit
set_option maxRecDepth 100000 in
set_option maxHeartbeats 2000000 in
theorem rmay_any (gf n c k T:Nat) (a:Option Addr) (L:List El) (w:World) (h:w.heap[gf]? = some (.cells #[.slice a n c,.int .i64 (k:Int)] 75 (0,0))) (hel:ElAt w a L) (hn:n = L.length) (hnz:n ≤ 1000000) (hbk:∀ x,a = some x → L ≠ [] → x.block < gf) :
  Calls Tryz.prog 40 #[.pointer (some ⟨gf,0,none⟩),.int .i64 (T:Int)] w fun e w' => ∃ (xt:Nat) (xc xr:ByteArray) (b:Bool) (k':Nat),e = .returned (.tuple #[.agg #[.int .i64 ((xt:Nat):Int),.string xc,.string xr],.bool b]) ∧ w'.heap[gf]? = some (.cells #[.slice a n c,.int .i64 (k':Int)] 75 (0,0)) ∧ But gf w w' ∧
   ((b = true ∧ k' = k + 1 ∧ (xt,xc,xr) ∈ L ∧ mayP T (L.drop k) = (decPt xc,L.drop k')) ∨ (b = false ∧ k' = k ∧ mayP T (L.drop k) = ((0,[]),L.drop k'))):=by
 by_cases hk:k < n
 case neg =>
  have hd:L.drop k = []:=List.drop_of_length_le (by omega)
  refine (rmay_trunc gf n c k a (T:Int) w h (by omega)).mono fun e w' he => ?_
  exact ⟨0,⟨#[]⟩,⟨#[]⟩,false,k,he.1,(he.2.block gf (Array.getElem?_eq_some_iff.1 h).1).trans h,But.of he.2,.inr ⟨rfl,rfl,by rw [hd];rfl⟩⟩
 have hkl:k < L.length:=by omega
 obtain ⟨b,o,rfl,hcl⟩:=hel.resolve_left (fun e => by rw [e] at hkl;exact absurd hkl (Nat.not_lt_zero _))
 obtain ⟨x0,x1,x2⟩:=hcl k hkl
 have hd:L.drop k = L.getD k (0,⟨#[]⟩,⟨#[]⟩) :: L.drop (k + 1):=by
  rw [List.drop_eq_getElem_cons hkl,List.getD_eq_getElem?_getD,List.getElem?_eq_getElem hkl];rfl
 have hm:L.getD k (0,⟨#[]⟩,⟨#[]⟩) ∈ L:=by
  rw [List.getD_eq_getElem?_getD,List.getElem?_eq_getElem hkl];exact List.getElem_mem hkl
 have hbf:b < gf:=hbk _ rfl (fun e => by rw [e] at hkl;exact absurd hkl (Nat.not_lt_zero _))
 generalize L.getD k (0,⟨#[]⟩,⟨#[]⟩) = x at x0 x1 x2 hd hm
 by_cases hx:x.1 = T
 case neg =>
  refine (rmay_tag gf b o n c k T x w h hk x0 x1 x2 hx).mono fun e w' he => ?_
  exact ⟨0,⟨#[]⟩,⟨#[]⟩,false,k,he.1,(he.2.block gf (Array.getElem?_eq_some_iff.1 h).1).trans h,But.of he.2,.inr ⟨rfl,rfl,by rw [hd];exact mayP_no hx⟩⟩
 case pos =>
  refine (rmay_ok gf b o n c k (T:Int) x w h hk x0 x1 x2 (by rw [hx]) (by omega) (by omega)).mono fun e w' he => ?_
  exact ⟨x.1,x.2.1,x.2.2,true,k + 1,he.1,he.2.1,he.2.2,.inl ⟨rfl,rfl,hm,by rw [hd];exact mayP_yes hx⟩⟩
/-- Two rows that lie,or nil ones beside an error,as the reference hands them back. -/
def TRes (w:World) (R:Nat × Sub) (e:Ending) (w':World):Prop :=
 ∃ (a1 a2:Option Addr) (c1 c2:Nat),e = .returned (.tuple #[.agg #[.slice a1 R.2.1.length c1,.slice a2 R.2.2.length c2],.int .i64 ((R.1:Nat):Int)]) ∧ GLies w' a1 R.2.1 ∧ GLies w' a2 R.2.2 ∧ Below w.heap.size w w'
theorem tres_none {w w':World} {R:Nat × Sub} {E:Nat} (hR:R = (E,([],[]))) (h:Below w.heap.size w w'):TRes w R (.returned (.tuple #[.agg #[.slice none 0 0,.slice none 0 0],.int .i64 ((E:Nat):Int)])) w':=by
 subst hR
 exact ⟨none,none,0,0,rfl,.inl rfl,.inl rfl,h⟩
/-- The cells of the result and of none. -/
def Dr (w0 wx:World) (r:Nat):Prop:=wx.heap[r]? = some (.cells #[.slice none 0 0,.slice none 0 0] 24 (0,0)) ∧ wx.heap[r + 1]? = some (.cells #[.slice none 0 0,.slice none 0 0] 24 (0,0)) ∧ Below w0.heap.size w0 wx ∧ w0.heap.size ≤ r
theorem Dr.below {w0 wx wy:World} {r:Nat} (h:Dr w0 wx r) (hb:Below wx.heap.size wx wy):Dr w0 wy r :=
 ⟨(hb.block r (Array.getElem?_eq_some_iff.1 h.1).1).trans h.1,(hb.block (r + 1) (Array.getElem?_eq_some_iff.1 h.2.1).1).trans h.2.1,below_next h.2.2.1 hb,h.2.2.2⟩
theorem Dr.but {w0 wx wy:World} {r f:Nat} (h:Dr w0 wx r) (hb:But f wx wy) (hf:r + 1 < f):Dr w0 wy r :=
 ⟨(hb.block r (Array.getElem?_eq_some_iff.1 h.1).1 (by simp;omega)).trans h.1,(hb.block (r + 1) (Array.getElem?_eq_some_iff.1 h.2.1).1 (by simp;omega)).trans h.2.1,(show Below w0.heap.size w0 wy from World.grownBy.andThen (Below.only h.2.2.1) hb (fun j e => .inl (by obtain rfl:=Option.some.inj e;have:=h.2.2.2;omega)) |> only_below),h.2.2.2⟩
theorem Dr.fin {w0 wx:World} {r:Nat} {u v:Value} (h:Dr w0 wx r):Below w0.heap.size w0 ((wx.setCell ⟨r,0,none⟩ u).setCell ⟨r,1,none⟩ v) :=
 (h.2.2.1.setCell (p:=⟨r,0,none⟩) h.2.2.2 _).setCell (p:=⟨r,1,none⟩) h.2.2.2 _
/-- In the middle of DecodeSubtrees: the decoder in block f at element k,the constraints in block g. -/
def Dm (w0 wx:World) (r f g:Nat) (a:Option Addr) (n c k:Nat) (u v:Value) (L:List El) (A B:List Gn):Prop :=
 Dr w0 wx r ∧ wx.heap[f]? = some (.cells #[.slice a n c,.int .i64 (k:Int)] 75 (0,0)) ∧ wx.heap[g]? = some (.cells #[u,v] 24 (0,0)) ∧ ElAt wx a L ∧ OwnG wx (g + 1) u A ∧ OwnG wx (g + 1) v B ∧ r + 1 < f ∧ f < g ∧ (∀ x,a = some x → L ≠ [] → x.block < f)
theorem Dm.below {w0 wx wy:World} {r f g:Nat} {a:Option Addr} {n c k:Nat} {u v:Value} {L:List El} {A B:List Gn} (h:Dm w0 wx r f g a n c k u v L A B) (hb:Below wx.heap.size wx wy):Dm w0 wy r f g a n c k u v L A B:=by
 obtain ⟨h1,h2,h3,h4,h5,h6,h7⟩:=h
 exact ⟨h1.below hb,(hb.block f (Array.getElem?_eq_some_iff.1 h2).1).trans h2,(hb.block g (Array.getElem?_eq_some_iff.1 h3).1).trans h3,h4.below hb,h5.below hb,h6.below hb,h7⟩
theorem Dm.may {w0 wx wy:World} {r f g:Nat} {a:Option Addr} {n c k k':Nat} {u v:Value} {L:List El} {A B:List Gn} (h:Dm w0 wx r f g a n c k u v L A B) (hb:But f wx wy) (hq:wy.heap[f]? = some (.cells #[.slice a n c,.int .i64 (k':Int)] 75 (0,0))):Dm w0 wy r f g a n c k' u v L A B:=by
 obtain ⟨h1,h2,h3,h4,h5,h6,h7,h8,h9⟩:=h
 exact ⟨h1.but hb h7,hq,(hb.block g (Array.getElem?_eq_some_iff.1 h3).1 (by simp;omega)).trans h3,h4.but hb (fun x hx hl => Nat.ne_of_lt (h9 x hx hl)),h5.but hb (by omega),h6.but hb (by omega),h7,h8,h9⟩
theorem Dm.setU {w0 wx:World} {r f g:Nat} {a:Option Addr} {n c k:Nat} {u u' v:Value} {L:List El} {A A' B:List Gn} (h:Dm w0 wx r f g a n c k u v L A B) (hu:OwnG wx (g + 1) u' A'):Dm w0 (wx.setCell ⟨g,0,none⟩ u') r f g a n c k u' v L A' B:=by
 obtain ⟨h1,h2,h3,h4,h5,h6,h7,h8,h9⟩:=h
 have hb:=But.set g 0 wx u'
 exact ⟨h1.but hb (by omega),(hb.block f (Array.getElem?_eq_some_iff.1 h2).1 (by simp;omega)).trans h2,by simp [World.setCell,Array.getElem?_modify,h3],h4.but hb (fun x hx hl => by have:=h9 x hx hl;omega),hu.but hb (by omega),h6.but hb (by omega),h7,h8,h9⟩
theorem Dm.setV {w0 wx:World} {r f g:Nat} {a:Option Addr} {n c k:Nat} {u v v':Value} {L:List El} {A B B':List Gn} (h:Dm w0 wx r f g a n c k u v L A B) (hv:OwnG wx (g + 1) v' B'):Dm w0 (wx.setCell ⟨g,1,none⟩ v') r f g a n c k u v' L A B':=by
 obtain ⟨h1,h2,h3,h4,h5,h6,h7,h8,h9⟩:=h
 have hb:=But.set g 1 wx v'
 exact ⟨h1.but hb (by omega),(hb.block f (Array.getElem?_eq_some_iff.1 h2).1 (by simp;omega)).trans h2,fi_set1 h3,h4.but hb (fun x hx hl => by have:=h9 x hx hl;omega),h5.but hb (by omega),hv.but hb (by omega),h7,h8,h9⟩
theorem endF1 {L:List El} {k1 E1:Nat} {G1:List Gn} (h1:mayP 160 L = ((E1,G1),L.drop k1)) (h:E1 ≠ 0):endS (prtF L) = (E1,([],[])):=by
 have e:prtF L = (E1,([],[])):=by rw [prtF_1 (by rw [h1];exact h),h1]
 rw [e,endS_err h]
theorem endF2 {L:List El} {k1 k2 E2:Nat} {G1 G2:List Gn} (h1:mayP 160 L = ((0,G1),L.drop k1)) (h2:mayP 161 (L.drop k1) = ((E2,G2),L.drop k2)) (h:E2 ≠ 0):endS (prtF L) = (E2,([],[])):=by
 have e:prtF L = (E2,([],[])):=by rw [prtF_2 (by rw [h1]) (by rw [h1];simp only;rw [h2];exact h),h1];simp only;rw [h2]
 rw [e,endS_err h]
theorem endF3 {L:List El} {k1 k2:Nat} {G1 G2:List Gn} (h1:mayP 160 L = ((0,G1),L.drop k1)) (h2:mayP 161 (L.drop k1) = ((0,G2),L.drop k2)) (h:k2 < L.length):endS (prtF L) = (4,([],[])):=by
 have e:prtF L = (4,([],[])):=prtF_3 (by rw [h1]) (by rw [h1];simp only;rw [h2]) (by
  rw [h1];simp only;rw [h2]
  exact fun e => by have:=congrArg List.length e;rw [List.length_drop] at this;simp at this;omega)
 rw [e,endS_err (by decide)]
theorem endF4 {L:List El} {k1 k2:Nat} {G1 G2:List Gn} (h1:mayP 160 L = ((0,G1),L.drop k1)) (h2:mayP 161 (L.drop k1) = ((0,G2),L.drop k2)) (h:¬ k2 < L.length):endS (prtF L) = if chkS (G1,G2) ≠ 0 then (chkS (G1,G2),([],[])) else (0,(G1,G2)):=by
 have e:prtF L = (0,(G1,G2)):=by
  rw [prtF_4 (by rw [h1]) (by rw [h1];simp only;rw [h2]) (by rw [h1];simp only;rw [h2];exact List.drop_of_length_le (by omega)),h1]
  simp only
  rw [h2]
 rw [e]
 unfold endS
 exact if_neg (not_not_intro rfl)
set_option maxRecDepth 100000 in
set_option maxHeartbeats 16000000 in
theorem rdsub_core (b:ByteArray) (w:World) (hs:b.size ≤ 150000) :
  Calls Tryz.prog 21 #[.string b] w fun e w' => TRes w (decSub b) e w':=by
 obtain ⟨W0,hW0⟩:∃ W0,W0 = (w.alloc (.cells #[.slice none 0 0,.slice none 0 0] 24)).alloc (.cells #[.slice none 0 0,.slice none 0 0] 24):=⟨_,rfl⟩
 have hb0:Below w.heap.size w W0:=by rw [hW0];exact belowTwo w _ _
 obtain ⟨r,hr⟩:∃ r,r = w.heap.size:=⟨_,rfl⟩
 have hq0:W0.heap[r]? = some (.cells #[.slice none 0 0,.slice none 0 0] 24 (0,0)):=by rw [hW0,hr,heap_first];exact heap_alloc_new w _
 have hq1:W0.heap[r + 1]? = some (.cells #[.slice none 0 0,.slice none 0 0] 24 (0,0)):=by rw [hW0,hr];exact heap_second w _ _ _
 have HR0:=Lib.hid (show Dr w W0 r from ⟨hq0,hq1,hb0,by omega⟩)
 have HWR:=Lib.hid hW0.symm
 have HRE:=Lib.hid hr
 have HON:=Lib.hid (rone_any b W0 (by omega))
 unfold oneVal at HON
 have HP1:=Lib.hid (fun h => (decSub_prt b).trans ((congrArg endS (prtB_one (b:=b) h)).trans (endS_err h)))
 have HP2:=Lib.hid (fun h h2 => (decSub_prt b).trans ((congrArg endS (prtB_opn (b:=b) h h2)).trans (endS_err h2)))
 have HP3:=Lib.hid (fun h h2 => (decSub_prt b).trans (by rw [prtB_go (b:=b) h h2]))
 obtain ⟨R,hR⟩:∃ R,R = decSub b:=⟨_,rfl⟩
 rw [← hR] at HP1 HP2 HP3 ⊢
 clear hW0 hq0 hq1 hr hR hb0
 by_cases h1:oneErr b = 0
 case neg =>
  rw [if_neg h1] at HON
  unfold noEl at HON
  have HV:=Lib.hid (HP1.out h1)
  have hz1:=errno_ne h1
  generalize oneErr b = E at HON HV hz1
  clear h1 HP1 HP2 HP3
  go_enter Tryz.func21,Tryz.ntmps21
  go_upto_region 2 with fail
  rw [HWR.out,← HRE.out]
  go_upto_region 3 with (go_at_call 34;(with_reducible refine HON.out.mono ?_);rintro e w1 ⟨rfl,hb1⟩;have HR2:=Lib.hid ((HR0.out.below hb1).below (belowNew w1 (.cells #[.int .i64 0,.string ⟨#[]⟩,.string ⟨#[]⟩] 67)));clear hb1)
  obtain ⟨s0,s1,f0,f1,sl⟩:=fi_facts HR2.out.1
  obtain ⟨z0,z1,_,_,zl⟩:=fi_facts HR2.out.2.1
  go_wp2_with fail
  refine bodyPost_ret (sbRes2 rfl _ _ r _ _ rfl (fi_set HR2.out.1)) rfl ?_
  exact tres_none HV.out HR2.out.fin
 rw [if_pos h1] at HON
 unfold elV at HON
 have HP4:=Lib.hid (HP2.out h1)
 have HP5:=Lib.hid (HP3.out h1)
 have hcz:=rdContent_size (oneErr_rd h1)
 generalize rdTag b = xt at HON HP4 HP5
 generalize rdContent b = xc at HON HP4 HP5 hcz
 generalize rdRaw b = xr at HON HP4 HP5
 have HOP:=Lib.hid (fun W => ropen_any (xt,xc,xr) 48 W (show xc.size ≤ _ by omega))
 have HSM:=Lib.hid (opn_small (x:=(xt,xc,xr)) (show xc.size ≤ 150000 by omega))
 have hlen:=opn_len (xt,xc,xr) 48
 unfold elV at HOP
 simp only at HOP hlen
 rw [show ((48:Nat):Int) = 48 from rfl] at HOP
 generalize opnE (xt,xc,xr) 48 = E at HOP HP4 HP5
 generalize opnL (xt,xc,xr) 48 = L at HOP HP5 HSM hlen
 clear HP1 HP2 HP3 h1
 go_enter Tryz.func21,Tryz.ntmps21
 go_upto_region 2 with fail
 rw [HWR.out,← HRE.out]
 go_upto_region 3 with (go_at_call 34;(with_reducible refine HON.out.mono ?_);rintro e w1 ⟨rfl,hb1⟩;have HR1:=Lib.hid (HR0.out.below hb1);clear hb1)
 obtain ⟨W1,hW1⟩:∃ W1,W1 = w1.alloc (.cells #[.int .i64 ((xt:Nat):Int),.string xc,.string xr] 67):=⟨_,rfl⟩
 obtain ⟨ge,hge⟩:∃ ge,ge = w1.heap.size:=⟨_,rfl⟩
 have hbb:Below w1.heap.size w1 W1:=by rw [hW1];exact belowNew w1 _
 obtain ⟨e0,e1,e2,el⟩:=three_facts (show W1.heap[ge]? = some (.cells #[.int .i64 ((xt:Nat):Int),.string xc,.string xr] 67 (0,0)) from by rw [hW1,hge];exact heap_alloc_new w1 _)
 have HR2:=Lib.hid (HR1.out.below hbb)
 rw [← hW1,← hge]
 clear hW1 hge hbb
 obtain ⟨n,hn⟩:∃ n,n = L.length:=⟨_,rfl⟩
 have HN:=Lib.hid hn
 rw [← hn] at hlen
 clear hn
 go_upto_region 6 with (go_at_call 39;(with_reducible refine (HOP.out W1).mono ?_);rintro e w2 ⟨⟨v2,rfl,ho2⟩,hb2⟩;obtain ⟨a,c,hv2,hlc,hel,hbk⟩:=ElAt.of ho2;rw [← HN.out] at hv2 hlc;subst hv2;have HEL:=Lib.hid hel;have HBK:=Lib.hid (fun x hx hl => (hbk x hx hl).2);have HR3:=Lib.hid (HR2.out.below hb2);clear ho2 hb2 hel hbk hlc)
 clear e0 e1 e2 el
 obtain ⟨V2,hV2⟩:∃ V2,V2 = w2.alloc (.cells #[.slice a n c,.int .i64 0] 75):=⟨_,rfl⟩
 obtain ⟨f,hf⟩:∃ f,f = w2.heap.size:=⟨_,rfl⟩
 have hbV:Below w2.heap.size w2 V2:=by rw [hV2];exact belowNew w2 _
 have HQF:=Lib.hid (show V2.heap[f]? = some (.cells #[.slice a n c,.int .i64 ((0:Nat):Int)] 75 (0,0)) by rw [hV2,hf];exact heap_alloc_new w2 _)
 have HR4:=Lib.hid (HR3.out.below hbV)
 have HEL4:=Lib.hid (HEL.out.below hbV)
 have HBK4:=Lib.hid (show ∀ x,a = some x → L ≠ [] → x.block < f by rw [hf];exact HBK.out)
 have hrf:r + 1 < f:=by rw [hf];exact (Array.getElem?_eq_some_iff.1 HR3.out.2.1).1
 rw [← hV2,← hf]
 clear hV2 hf hbV
 by_cases hz:E = 0
 case neg =>
  have HV:=Lib.hid (HP4.out hz)
  have hz1:=errno_ne hz
  clear hz HP4 HP5
  obtain ⟨s0,s1,f0,f1,sl⟩:=fi_facts HR4.out.1
  obtain ⟨z0,z1,_,_,zl⟩:=fi_facts HR4.out.2.1
  go_wp2_with fail
  refine bodyPost_ret (sbRes2 rfl _ _ r _ _ rfl (fi_set HR4.out.1)) rfl ?_
  exact tres_none HV.out HR4.out.fin
 subst hz
 have HEN:=Lib.hid (HP5.out (by trivial))
 have hnz:n ≤ 1000000:=by omega
 clear HP4 HP5
 go_upto_region 9 with fail
 obtain ⟨V3,hV3⟩:∃ V3,V3 = V2.alloc (.cells #[.slice none 0 0,.slice none 0 0] 24):=⟨_,rfl⟩
 obtain ⟨g,hg⟩:∃ g,g = V2.heap.size:=⟨_,rfl⟩
 have hbV:Below V2.heap.size V2 V3:=by rw [hV3];exact belowNew V2 _
 have HD3:=Lib.hid (show Dm w V3 r f g a n c 0 (.slice none 0 0) (.slice none 0 0) L [] [] from ⟨HR4.out.below hbV,(hbV.block f (Array.getElem?_eq_some_iff.1 HQF.out).1).trans HQF.out,by rw [hV3,hg];exact heap_alloc_new V2 _,HEL4.out.below hbV,OwnG.nil _ _,OwnG.nil _ _,hrf,by rw [hg];exact (Array.getElem?_eq_some_iff.1 HQF.out).1,HBK4.out⟩)
 have HGS:=Lib.hid (show g + 1 ≤ V3.heap.size by rw [hV3,hg];simp)
 rw [← hV3,← hg]
 clear hV3 hg hbV HQF HR4 HEL4 HR3 HEL HR2 HR1
 have HMY:=rmay_any f n c 0 160 a L V3 HD3.out.2.1 HD3.out.2.2.2.1 HN.out hnz HBK4.out
 rw [show ((160:Nat):Int) = 160 from rfl,List.drop_zero] at HMY
 have HMY1:=Lib.hid HMY
 clear HMY
 go_upto_region 10 with (go_at_call 40;(with_reducible refine HMY1.out.mono ?_);rintro e w4 ⟨yt,yc,yr,b1,k1,rfl,hq4,hb4,hcase⟩;have HC4:=Lib.hid hcase;have HD4:=Lib.hid (HD3.out.may hb4 hq4);have HGS4:=Lib.hid (Nat.le_trans HGS.out hb4.size);clear hq4 hb4 hcase)
 obtain ⟨W4,hW4⟩:∃ W4,W4 = w4.alloc (.cells #[.int .i64 ((yt:Nat):Int),.string yc,.string yr] 67):=⟨_,rfl⟩
 obtain ⟨gx,hgx⟩:∃ gx,gx = w4.heap.size:=⟨_,rfl⟩
 have hb5:Below w4.heap.size w4 W4:=by rw [hW4];exact belowNew w4 _
 obtain ⟨x0,x1,x2,xl⟩:=three_facts (show W4.heap[gx]? = some (.cells #[.int .i64 ((yt:Nat):Int),.string yc,.string yr] 67 (0,0)) from by rw [hW4,hgx];exact heap_alloc_new w4 _)
 have HD5:=Lib.hid (HD4.out.below hb5)
 have HGS5:=Lib.hid (Nat.le_trans HGS4.out hb5.size)
 rw [← hW4,← hgx]
 clear hW4 hgx hb5 HD3 HD4 HGS HGS4 HMY1
 rcases HC4.out with ⟨rfl,hk1,hmem,hmay⟩ | ⟨rfl,hk1,hmay⟩
 ·have HTR:=Lib.hid (rtrees_core (yt,yc,yr) W4 (HSM.out _ hmem))
  unfold elV at HTR
  simp only at HTR
  generalize decPt yc = PD at HTR hmay
  obtain ⟨E1,G1⟩:=PD
  simp only at HTR
  have HM1:=Lib.hid hmay
  clear hmem hmay
  go_upto_region 12 with (go_at_call 41;(with_reducible refine HTR.out.mono ?_);rintro e w5 ⟨v5,rfl,ho5,hb5⟩;obtain ⟨a5,c5,hv5,_,_⟩:=ho5.lies;have HD6:=Lib.hid (HD5.out.below hb5);have HO5:=Lib.hid (ho5.base (Nat.le_trans HGS5.out (Nat.le_refl _)));have HGS6:=Lib.hid (Nat.le_trans HGS5.out hb5.size);obtain ⟨t0,t1,k0,k1',tl⟩:=fi_facts HD6.out.2.2.1;subst hv5;clear ho5 hb5)
  have HD7:=Lib.hid (HD6.out.setU HO5.out)
  obtain ⟨W6,hW6⟩:∃ W6,W6 = w5.setCell ⟨g,0,none⟩ (.slice a5 G1.length c5):=⟨_,rfl⟩
  rw [← hW6] at HD7 ⊢
  have HGS7:=Lib.hid (show g + 1 ≤ W6.heap.size by rw [hW6];simp;exact HGS6.out)
  clear hW6 t0 t1 k0 k1' tl x0 x1 x2 xl HD5 HD6 HO5 HTR HGS5 HGS6
  by_cases hE1:E1 = 0
  case neg =>
   have HV:=Lib.hid (HEN.out.trans (endF1 HM1.out hE1))
   have hz1:=errno_ne hE1
   clear hE1
   obtain ⟨s0,s1,f0,f1,sl⟩:=fi_facts HD7.out.1.1
   obtain ⟨z0,z1,_,_,zl⟩:=fi_facts HD7.out.1.2.1
   go_wp2_with fail
   refine bodyPost_ret (sbRes2 rfl _ _ r _ _ rfl (fi_set HD7.out.1.1)) rfl ?_
   exact tres_none HV.out HD7.out.1.fin
  subst hE1
  have HMY:=rmay_any f n c k1 161 a L W6 HD7.out.2.1 HD7.out.2.2.2.1 HN.out hnz HBK4.out
  rw [show ((161:Nat):Int) = 161 from rfl] at HMY
  have HMY2:=Lib.hid HMY
  clear HMY
  go_upto_region 15 with (go_at_call 40;(with_reducible refine HMY2.out.mono ?_);rintro e w7 ⟨zt,zc,zr,b2,k2,rfl,hq7,hb7,hcase⟩;have HC7:=Lib.hid hcase;have HE7:=Lib.hid (HD7.out.may hb7 hq7);have HGT7:=Lib.hid (Nat.le_trans HGS7.out hb7.size);clear hq7 hb7 hcase)
  obtain ⟨W7,hW7⟩:∃ W7,W7 = w7.alloc (.cells #[.int .i64 ((zt:Nat):Int),.string zc,.string zr] 67):=⟨_,rfl⟩
  obtain ⟨gy,hgy⟩:∃ gy,gy = w7.heap.size:=⟨_,rfl⟩
  have hb8:Below w7.heap.size w7 W7:=by rw [hW7];exact belowNew w7 _
  obtain ⟨y0,y1,y2,yl⟩:=three_facts (show W7.heap[gy]? = some (.cells #[.int .i64 ((zt:Nat):Int),.string zc,.string zr] 67 (0,0)) from by rw [hW7,hgy];exact heap_alloc_new w7 _)
  have HE8:=Lib.hid (HE7.out.below hb8)
  have HGT8:=Lib.hid (Nat.le_trans HGT7.out hb8.size)
  rw [← hW7,← hgy]
  clear hW7 hgy hb8 HE7 HGT7 HMY2
  rcases HC7.out with ⟨rfl,hk2,hmem2,hmay2⟩ | ⟨rfl,hk2,hmay2⟩
  ·have HTR2:=Lib.hid (rtrees_core (zt,zc,zr) W7 (HSM.out _ hmem2))
   unfold elV at HTR2
   simp only at HTR2
   generalize decPt zc = PD2 at HTR2 hmay2
   obtain ⟨E2,G2⟩:=PD2
   simp only at HTR2
   have HM2:=Lib.hid hmay2
   clear hmem2 hmay2
   go_upto_region 17 with (go_at_call 41;(with_reducible refine HTR2.out.mono ?_);rintro e w9 ⟨v9,rfl,ho9,hb9⟩;obtain ⟨a9,c9,hv9,_,_⟩:=ho9.lies;have HE9:=Lib.hid (HE8.out.below hb9);have HO9:=Lib.hid (ho9.base HGT8.out);have HGT9:=Lib.hid (Nat.le_trans HGT8.out hb9.size);obtain ⟨t0,t1,k0,k1',tl⟩:=fi_facts HE9.out.2.2.1;subst hv9;clear ho9 hb9)
   have HE10:=Lib.hid (HE9.out.setV HO9.out)
   obtain ⟨W10,hW10⟩:∃ W10,W10 = w9.setCell ⟨g,1,none⟩ (.slice a9 G2.length c9):=⟨_,rfl⟩
   rw [← hW10] at HE10 ⊢
   clear hW10 t0 t1 k0 k1' tl y0 y1 y2 yl HE8 HE9 HO9 HTR2 HGT8 HGT9
   by_cases hE2:E2 = 0
   case neg =>
    have HV:=Lib.hid (HEN.out.trans (endF2 HM1.out HM2.out hE2))
    have hz1:=errno_ne hE2
    clear hE2
    obtain ⟨s0,s1,f0,f1,sl⟩:=fi_facts HE10.out.1.1
    obtain ⟨z0,z1,_,_,zl⟩:=fi_facts HE10.out.1.2.1
    go_wp2_with fail
    refine bodyPost_ret (sbRes2 rfl _ _ r _ _ rfl (fi_set HE10.out.1.1)) rfl ?_
    exact tres_none HV.out HE10.out.1.fin
   subst hE2
   have HEE:=rend_any f n c k2 a W10 HE10.out.2.1
   by_cases hk2n:k2 < n
   ·rw [if_pos hk2n] at HEE
    have HEE1:=Lib.hid HEE
    have HV:=Lib.hid (HEN.out.trans (endF3 HM1.out HM2.out (by rw [← HN.out];exact hk2n)))
    clear HEE hk2n
    go_upto_region 20 with (go_at_call 42;(with_reducible refine HEE1.out.mono ?_);rintro e wA ⟨rfl,hbA⟩;have HEA:=Lib.hid (HE10.out.below hbA);clear hbA)
    obtain ⟨s0,s1,f0,f1,sl⟩:=fi_facts HEA.out.1.1
    obtain ⟨z0,z1,_,_,zl⟩:=fi_facts HEA.out.1.2.1
    go_wp2_with fail
    refine bodyPost_ret (sbRes2 rfl _ _ r _ _ rfl (fi_set HEA.out.1.1)) rfl ?_
    exact tres_none HV.out HEA.out.1.fin
   ·rw [if_neg hk2n] at HEE
    have HEE1:=Lib.hid HEE
    have HV4:=Lib.hid (HEN.out.trans (endF4 HM1.out HM2.out (by rw [← HN.out];exact hk2n)))
    have HSMA:=Lib.hid (mayP_small (T:=160) HSM.out)
    rw [HM1.out] at HSMA
    have HSMB:=Lib.hid (mayP_small (T:=161) HSMA.out.2)
    simp only at HSMB
    rw [HM2.out] at HSMB
    clear HEE hk2n
    go_upto_region 22 with (go_at_call 42;(with_reducible refine HEE1.out.mono ?_);rintro e wA ⟨rfl,hbA⟩;have HEA:=Lib.hid (HE10.out.below hbA);clear hbA)
    have HCK:=Lib.hid (rchks_core a5 a9 c5 c9 G1.length G2.length (G1,G2) wA (ownG_at HEA.out.2.2.2.2.1) (ownG_at HEA.out.2.2.2.2.2.1) rfl rfl (own_room HEA.out.2.2.2.2.1) (own_room HEA.out.2.2.2.2.2.1) HSMA.out.1.1 HSMB.out.1.1)
    obtain ⟨C,hC⟩:∃ C,C = chkS (G1,G2):=⟨_,rfl⟩
    rw [← hC] at HCK HV4
    obtain ⟨t0,t1,_,_,tl⟩:=fi_facts HEA.out.2.2.1
    clear hC
    by_cases hC0:C = 0
    ·subst hC0
     have HV:=Lib.hid (show R = (0,(G1,G2)) from HV4.out.trans (if_neg (not_not_intro rfl)))
     go_upto_region 25 with (go_at_call 17;(with_reducible refine HCK.out.mono ?_);rintro e wB ⟨rfl,hbB⟩;have HEB:=Lib.hid (HEA.out.below hbB);clear hbB)
     clear t0 t1 tl
     obtain ⟨t0,t1,_,_,tl⟩:=fi_facts HEB.out.2.2.1
     obtain ⟨s0,s1,f0,f1,sl⟩:=fi_facts HEB.out.1.1
     go_wp2_with fail
     refine bodyPost_ret (sbRes2 rfl _ _ r _ _ rfl (fi_set HEB.out.1.1)) rfl ?_
     have hbb:=(But.set r 0 wB (.slice a5 G1.length c5)).next (But.set r 1 _ (.slice a9 G2.length c9))
     have hrg:r < g + 1:=by have:=HEB.out.2.2.2.2.2.2.1;have:=HEB.out.2.2.2.2.2.2.2.1;omega
     refine ⟨a5,a9,c5,c9,by rw [HV.out];rfl,?_,?_,HEB.out.1.fin⟩
     ·rw [HV.out]
      exact ownG_at (HEB.out.2.2.2.2.1.but hbb hrg)
     ·rw [HV.out]
      exact ownG_at (HEB.out.2.2.2.2.2.1.but hbb hrg)
    ·have HV:=Lib.hid (show R = (C,([],[])) from HV4.out.trans (if_pos hC0))
     have hz1:=errno_ne hC0
     clear hC0
     go_upto_region 23 with (go_at_call 17;(with_reducible refine HCK.out.mono ?_);rintro e wB ⟨rfl,hbB⟩;have HEB:=Lib.hid (HEA.out.below hbB);clear hbB)
     clear t0 t1 tl
     obtain ⟨s0,s1,f0,f1,sl⟩:=fi_facts HEB.out.1.1
     obtain ⟨z0,z1,_,_,zl⟩:=fi_facts HEB.out.1.2.1
     go_wp2_with fail
     refine bodyPost_ret (sbRes2 rfl _ _ r _ _ rfl (fi_set HEB.out.1.1)) rfl ?_
     exact tres_none HV.out HEB.out.1.fin
  ·have HM2:=Lib.hid hmay2
   clear hmay2 y0 y1 y2 yl
   have HEE:=rend_any f n c k2 a W7 HE8.out.2.1
   by_cases hk2n:k2 < n
   ·rw [if_pos hk2n] at HEE
    have HEE1:=Lib.hid HEE
    have HV:=Lib.hid (HEN.out.trans (endF3 HM1.out HM2.out (by rw [← HN.out];exact hk2n)))
    clear HEE hk2n
    go_upto_region 20 with (go_at_call 42;(with_reducible refine HEE1.out.mono ?_);rintro e wA ⟨rfl,hbA⟩;have HEA:=Lib.hid (HE8.out.below hbA);clear hbA)
    obtain ⟨s0,s1,f0,f1,sl⟩:=fi_facts HEA.out.1.1
    obtain ⟨z0,z1,_,_,zl⟩:=fi_facts HEA.out.1.2.1
    go_wp2_with fail
    refine bodyPost_ret (sbRes2 rfl _ _ r _ _ rfl (fi_set HEA.out.1.1)) rfl ?_
    exact tres_none HV.out HEA.out.1.fin
   ·rw [if_neg hk2n] at HEE
    have HEE1:=Lib.hid HEE
    have HV4:=Lib.hid (HEN.out.trans (endF4 HM1.out HM2.out (by rw [← HN.out];exact hk2n)))
    have HSMA:=Lib.hid (mayP_small (T:=160) HSM.out)
    rw [HM1.out] at HSMA
    have HSMB:=Lib.hid (mayP_small (T:=161) HSMA.out.2)
    simp only at HSMB
    rw [HM2.out] at HSMB
    clear HEE hk2n
    go_upto_region 22 with (go_at_call 42;(with_reducible refine HEE1.out.mono ?_);rintro e wA ⟨rfl,hbA⟩;have HEA:=Lib.hid (HE8.out.below hbA);clear hbA)
    have HCK:=Lib.hid (rchks_core a5 none c5 0 G1.length 0 (G1,([]:List Gn)) wA (ownG_at HEA.out.2.2.2.2.1) (ownG_at HEA.out.2.2.2.2.2.1) rfl rfl (own_room HEA.out.2.2.2.2.1) (own_room HEA.out.2.2.2.2.2.1) HSMA.out.1.1 HSMB.out.1.1)
    obtain ⟨C,hC⟩:∃ C,C = chkS (G1,([]:List Gn)):=⟨_,rfl⟩
    rw [← hC] at HCK HV4
    obtain ⟨t0,t1,_,_,tl⟩:=fi_facts HEA.out.2.2.1
    clear hC
    by_cases hC0:C = 0
    ·subst hC0
     have HV:=Lib.hid (show R = (0,(G1,([]:List Gn))) from HV4.out.trans (if_neg (not_not_intro rfl)))
     go_upto_region 25 with (go_at_call 17;(with_reducible refine HCK.out.mono ?_);rintro e wB ⟨rfl,hbB⟩;have HEB:=Lib.hid (HEA.out.below hbB);clear hbB)
     clear t0 t1 tl
     obtain ⟨t0,t1,_,_,tl⟩:=fi_facts HEB.out.2.2.1
     obtain ⟨s0,s1,f0,f1,sl⟩:=fi_facts HEB.out.1.1
     go_wp2_with fail
     refine bodyPost_ret (sbRes2 rfl _ _ r _ _ rfl (fi_set HEB.out.1.1)) rfl ?_
     have hbb:=(But.set r 0 wB (.slice a5 G1.length c5)).next (But.set r 1 _ (.slice none 0 0))
     have hrg:r < g + 1:=by have:=HEB.out.2.2.2.2.2.2.1;have:=HEB.out.2.2.2.2.2.2.2.1;omega
     refine ⟨a5,none,c5,0,by rw [HV.out];rfl,?_,?_,HEB.out.1.fin⟩
     ·rw [HV.out]
      exact ownG_at (HEB.out.2.2.2.2.1.but hbb hrg)
     ·rw [HV.out]
      exact ownG_at (HEB.out.2.2.2.2.2.1.but hbb hrg)
    ·have HV:=Lib.hid (show R = (C,([],[])) from HV4.out.trans (if_pos hC0))
     have hz1:=errno_ne hC0
     clear hC0
     go_upto_region 23 with (go_at_call 17;(with_reducible refine HCK.out.mono ?_);rintro e wB ⟨rfl,hbB⟩;have HEB:=Lib.hid (HEA.out.below hbB);clear hbB)
     clear t0 t1 tl
     obtain ⟨s0,s1,f0,f1,sl⟩:=fi_facts HEB.out.1.1
     obtain ⟨z0,z1,_,_,zl⟩:=fi_facts HEB.out.1.2.1
     go_wp2_with fail
     refine bodyPost_ret (sbRes2 rfl _ _ r _ _ rfl (fi_set HEB.out.1.1)) rfl ?_
     exact tres_none HV.out HEB.out.1.fin
 ·have HM1:=Lib.hid hmay
  clear hmay x0 x1 x2 xl
  have HMY:=rmay_any f n c k1 161 a L W4 HD5.out.2.1 HD5.out.2.2.2.1 HN.out hnz HBK4.out
  rw [show ((161:Nat):Int) = 161 from rfl] at HMY
  have HMY2:=Lib.hid HMY
  clear HMY
  go_upto_region 15 with (go_at_call 40;(with_reducible refine HMY2.out.mono ?_);rintro e w7 ⟨zt,zc,zr,b2,k2,rfl,hq7,hb7,hcase⟩;have HC7:=Lib.hid hcase;have HE7:=Lib.hid (HD5.out.may hb7 hq7);have HGT7:=Lib.hid (Nat.le_trans HGS5.out hb7.size);clear hq7 hb7 hcase)
  obtain ⟨W7,hW7⟩:∃ W7,W7 = w7.alloc (.cells #[.int .i64 ((zt:Nat):Int),.string zc,.string zr] 67):=⟨_,rfl⟩
  obtain ⟨gy,hgy⟩:∃ gy,gy = w7.heap.size:=⟨_,rfl⟩
  have hb8:Below w7.heap.size w7 W7:=by rw [hW7];exact belowNew w7 _
  obtain ⟨y0,y1,y2,yl⟩:=three_facts (show W7.heap[gy]? = some (.cells #[.int .i64 ((zt:Nat):Int),.string zc,.string zr] 67 (0,0)) from by rw [hW7,hgy];exact heap_alloc_new w7 _)
  have HE8:=Lib.hid (HE7.out.below hb8)
  have HGT8:=Lib.hid (Nat.le_trans HGT7.out hb8.size)
  rw [← hW7,← hgy]
  clear hW7 hgy hb8 HE7 HGT7 HMY2
  rcases HC7.out with ⟨rfl,hk2,hmem2,hmay2⟩ | ⟨rfl,hk2,hmay2⟩
  ·have HTR2:=Lib.hid (rtrees_core (zt,zc,zr) W7 (HSM.out _ hmem2))
   unfold elV at HTR2
   simp only at HTR2
   generalize decPt zc = PD2 at HTR2 hmay2
   obtain ⟨E2,G2⟩:=PD2
   simp only at HTR2
   have HM2:=Lib.hid hmay2
   clear hmem2 hmay2
   go_upto_region 17 with (go_at_call 41;(with_reducible refine HTR2.out.mono ?_);rintro e w9 ⟨v9,rfl,ho9,hb9⟩;obtain ⟨a9,c9,hv9,_,_⟩:=ho9.lies;have HE9:=Lib.hid (HE8.out.below hb9);have HO9:=Lib.hid (ho9.base HGT8.out);have HGT9:=Lib.hid (Nat.le_trans HGT8.out hb9.size);obtain ⟨t0,t1,k0,k1',tl⟩:=fi_facts HE9.out.2.2.1;subst hv9;clear ho9 hb9)
   have HE10:=Lib.hid (HE9.out.setV HO9.out)
   obtain ⟨W10,hW10⟩:∃ W10,W10 = w9.setCell ⟨g,1,none⟩ (.slice a9 G2.length c9):=⟨_,rfl⟩
   rw [← hW10] at HE10 ⊢
   clear hW10 t0 t1 k0 k1' tl y0 y1 y2 yl HE8 HE9 HO9 HTR2 HGT8 HGT9
   by_cases hE2:E2 = 0
   case neg =>
    have HV:=Lib.hid (HEN.out.trans (endF2 HM1.out HM2.out hE2))
    have hz1:=errno_ne hE2
    clear hE2
    obtain ⟨s0,s1,f0,f1,sl⟩:=fi_facts HE10.out.1.1
    obtain ⟨z0,z1,_,_,zl⟩:=fi_facts HE10.out.1.2.1
    go_wp2_with fail
    refine bodyPost_ret (sbRes2 rfl _ _ r _ _ rfl (fi_set HE10.out.1.1)) rfl ?_
    exact tres_none HV.out HE10.out.1.fin
   subst hE2
   have HEE:=rend_any f n c k2 a W10 HE10.out.2.1
   by_cases hk2n:k2 < n
   ·rw [if_pos hk2n] at HEE
    have HEE1:=Lib.hid HEE
    have HV:=Lib.hid (HEN.out.trans (endF3 HM1.out HM2.out (by rw [← HN.out];exact hk2n)))
    clear HEE hk2n
    go_upto_region 20 with (go_at_call 42;(with_reducible refine HEE1.out.mono ?_);rintro e wA ⟨rfl,hbA⟩;have HEA:=Lib.hid (HE10.out.below hbA);clear hbA)
    obtain ⟨s0,s1,f0,f1,sl⟩:=fi_facts HEA.out.1.1
    obtain ⟨z0,z1,_,_,zl⟩:=fi_facts HEA.out.1.2.1
    go_wp2_with fail
    refine bodyPost_ret (sbRes2 rfl _ _ r _ _ rfl (fi_set HEA.out.1.1)) rfl ?_
    exact tres_none HV.out HEA.out.1.fin
   ·rw [if_neg hk2n] at HEE
    have HEE1:=Lib.hid HEE
    have HV4:=Lib.hid (HEN.out.trans (endF4 HM1.out HM2.out (by rw [← HN.out];exact hk2n)))
    have HSMA:=Lib.hid (mayP_small (T:=160) HSM.out)
    rw [HM1.out] at HSMA
    have HSMB:=Lib.hid (mayP_small (T:=161) HSMA.out.2)
    simp only at HSMB
    rw [HM2.out] at HSMB
    clear HEE hk2n
    go_upto_region 22 with (go_at_call 42;(with_reducible refine HEE1.out.mono ?_);rintro e wA ⟨rfl,hbA⟩;have HEA:=Lib.hid (HE10.out.below hbA);clear hbA)
    have HCK:=Lib.hid (rchks_core none a9 0 c9 0 G2.length (([]:List Gn),G2) wA (ownG_at HEA.out.2.2.2.2.1) (ownG_at HEA.out.2.2.2.2.2.1) rfl rfl (own_room HEA.out.2.2.2.2.1) (own_room HEA.out.2.2.2.2.2.1) HSMA.out.1.1 HSMB.out.1.1)
    obtain ⟨C,hC⟩:∃ C,C = chkS (([]:List Gn),G2):=⟨_,rfl⟩
    rw [← hC] at HCK HV4
    obtain ⟨t0,t1,_,_,tl⟩:=fi_facts HEA.out.2.2.1
    clear hC
    by_cases hC0:C = 0
    ·subst hC0
     have HV:=Lib.hid (show R = (0,(([]:List Gn),G2)) from HV4.out.trans (if_neg (not_not_intro rfl)))
     go_upto_region 25 with (go_at_call 17;(with_reducible refine HCK.out.mono ?_);rintro e wB ⟨rfl,hbB⟩;have HEB:=Lib.hid (HEA.out.below hbB);clear hbB)
     clear t0 t1 tl
     obtain ⟨t0,t1,_,_,tl⟩:=fi_facts HEB.out.2.2.1
     obtain ⟨s0,s1,f0,f1,sl⟩:=fi_facts HEB.out.1.1
     go_wp2_with fail
     refine bodyPost_ret (sbRes2 rfl _ _ r _ _ rfl (fi_set HEB.out.1.1)) rfl ?_
     have hbb:=(But.set r 0 wB (.slice none 0 0)).next (But.set r 1 _ (.slice a9 G2.length c9))
     have hrg:r < g + 1:=by have:=HEB.out.2.2.2.2.2.2.1;have:=HEB.out.2.2.2.2.2.2.2.1;omega
     refine ⟨none,a9,0,c9,by rw [HV.out];rfl,?_,?_,HEB.out.1.fin⟩
     ·rw [HV.out]
      exact ownG_at (HEB.out.2.2.2.2.1.but hbb hrg)
     ·rw [HV.out]
      exact ownG_at (HEB.out.2.2.2.2.2.1.but hbb hrg)
    ·have HV:=Lib.hid (show R = (C,([],[])) from HV4.out.trans (if_pos hC0))
     have hz1:=errno_ne hC0
     clear hC0
     go_upto_region 23 with (go_at_call 17;(with_reducible refine HCK.out.mono ?_);rintro e wB ⟨rfl,hbB⟩;have HEB:=Lib.hid (HEA.out.below hbB);clear hbB)
     clear t0 t1 tl
     obtain ⟨s0,s1,f0,f1,sl⟩:=fi_facts HEB.out.1.1
     obtain ⟨z0,z1,_,_,zl⟩:=fi_facts HEB.out.1.2.1
     go_wp2_with fail
     refine bodyPost_ret (sbRes2 rfl _ _ r _ _ rfl (fi_set HEB.out.1.1)) rfl ?_
     exact tres_none HV.out HEB.out.1.fin
  ·have HM2:=Lib.hid hmay2
   clear hmay2 y0 y1 y2 yl
   have HEE:=rend_any f n c k2 a W7 HE8.out.2.1
   by_cases hk2n:k2 < n
   ·rw [if_pos hk2n] at HEE
    have HEE1:=Lib.hid HEE
    have HV:=Lib.hid (HEN.out.trans (endF3 HM1.out HM2.out (by rw [← HN.out];exact hk2n)))
    clear HEE hk2n
    go_upto_region 20 with (go_at_call 42;(with_reducible refine HEE1.out.mono ?_);rintro e wA ⟨rfl,hbA⟩;have HEA:=Lib.hid (HE8.out.below hbA);clear hbA)
    obtain ⟨s0,s1,f0,f1,sl⟩:=fi_facts HEA.out.1.1
    obtain ⟨z0,z1,_,_,zl⟩:=fi_facts HEA.out.1.2.1
    go_wp2_with fail
    refine bodyPost_ret (sbRes2 rfl _ _ r _ _ rfl (fi_set HEA.out.1.1)) rfl ?_
    exact tres_none HV.out HEA.out.1.fin
   ·rw [if_neg hk2n] at HEE
    have HEE1:=Lib.hid HEE
    have HV4:=Lib.hid (HEN.out.trans (endF4 HM1.out HM2.out (by rw [← HN.out];exact hk2n)))
    have HSMA:=Lib.hid (mayP_small (T:=160) HSM.out)
    rw [HM1.out] at HSMA
    have HSMB:=Lib.hid (mayP_small (T:=161) HSMA.out.2)
    simp only at HSMB
    rw [HM2.out] at HSMB
    clear HEE hk2n
    go_upto_region 22 with (go_at_call 42;(with_reducible refine HEE1.out.mono ?_);rintro e wA ⟨rfl,hbA⟩;have HEA:=Lib.hid (HE8.out.below hbA);clear hbA)
    have HCK:=Lib.hid (rchks_core none none 0 0 0 0 (([]:List Gn),([]:List Gn)) wA (ownG_at HEA.out.2.2.2.2.1) (ownG_at HEA.out.2.2.2.2.2.1) rfl rfl (own_room HEA.out.2.2.2.2.1) (own_room HEA.out.2.2.2.2.2.1) HSMA.out.1.1 HSMB.out.1.1)
    obtain ⟨C,hC⟩:∃ C,C = chkS (([]:List Gn),([]:List Gn)):=⟨_,rfl⟩
    rw [← hC] at HCK HV4
    obtain ⟨t0,t1,_,_,tl⟩:=fi_facts HEA.out.2.2.1
    clear hC
    by_cases hC0:C = 0
    ·subst hC0
     have HV:=Lib.hid (show R = (0,(([]:List Gn),([]:List Gn))) from HV4.out.trans (if_neg (not_not_intro rfl)))
     go_upto_region 25 with (go_at_call 17;(with_reducible refine HCK.out.mono ?_);rintro e wB ⟨rfl,hbB⟩;have HEB:=Lib.hid (HEA.out.below hbB);clear hbB)
     clear t0 t1 tl
     obtain ⟨t0,t1,_,_,tl⟩:=fi_facts HEB.out.2.2.1
     obtain ⟨s0,s1,f0,f1,sl⟩:=fi_facts HEB.out.1.1
     go_wp2_with fail
     refine bodyPost_ret (sbRes2 rfl _ _ r _ _ rfl (fi_set HEB.out.1.1)) rfl ?_
     have hbb:=(But.set r 0 wB (.slice none 0 0)).next (But.set r 1 _ (.slice none 0 0))
     have hrg:r < g + 1:=by have:=HEB.out.2.2.2.2.2.2.1;have:=HEB.out.2.2.2.2.2.2.2.1;omega
     refine ⟨none,none,0,0,by rw [HV.out];rfl,?_,?_,HEB.out.1.fin⟩
     ·rw [HV.out]
      exact ownG_at (HEB.out.2.2.2.2.1.but hbb hrg)
     ·rw [HV.out]
      exact ownG_at (HEB.out.2.2.2.2.2.1.but hbb hrg)
    ·have HV:=Lib.hid (show R = (C,([],[])) from HV4.out.trans (if_pos hC0))
     have hz1:=errno_ne hC0
     clear hC0
     go_upto_region 23 with (go_at_call 17;(with_reducible refine HCK.out.mono ?_);rintro e wB ⟨rfl,hbB⟩;have HEB:=Lib.hid (HEA.out.below hbB);clear hbB)
     clear t0 t1 tl
     obtain ⟨s0,s1,f0,f1,sl⟩:=fi_facts HEB.out.1.1
     obtain ⟨z0,z1,_,_,zl⟩:=fi_facts HEB.out.1.2.1
     go_wp2_with fail
     refine bodyPost_ret (sbRes2 rfl _ _ r _ _ rfl (fi_set HEB.out.1.1)) rfl ?_
     exact tres_none HV.out HEB.out.1.fin
end Go.Proofs.YtbpdenfiifcfcaaGreatDoor
