/-
  The contracts of wrap, encodeSubtree, convert and encodePart of package subtree, and of the reference's Fit and part.
  The contracts of encodePart of package subtree, and of the reference's part.
  The contracts of Encode of package subtree, and of the reference's EncodeSubtrees.
  The constraints of the generator are such that the code gives them back; the contract of the reference's SameSubtrees.
  The contracts of Add of package subtree and of the law's awake.
  The law's awake returns true: the example of the chapter.
-/
import Derived.Test.YtbpdenfiifcfcaaGreatDoorLbh
import Derived.Test.YtbpdenfiifcfcaaGreatDoorLbf
import Derived.Test.YtbpdenfiifcfcaaGreatDoorLar
import Derived.Test.YtbpdenfiifcfcaaGreatDoorLbm
import Derived.Test.YtbpdenfiifcfcaaGreatDoorLbg
import Derived.Test.YtbpdenfiifcfcaaGreatDoorLbk
import Derived.Test.YtbpdenfiifcfcaaGreatDoorLbj
namespace Go.Proofs.YtbpdenfiifcfcaaGreatDoor
open Go.RowKit
def TagOk (T:Int):Prop:=T = 48 ∨ T = 160 ∨ T = 161
noncomputable def fitV (T:Int) (x:ByteArray):Value:=.tuple #[.string (fitB T x).1,.int .i64 (((fitB T x).2:Nat):Int)]
theorem fit_or (T:Int) (h:TagOk T) (l:List UInt8) (x:ByteArray) (hx:x = ⟨l.toArray⟩):(wrapErr T l.length = 0 ∧ fitB T x = (wrapStr T l,0)) ∨ (wrapErr T l.length ≠ 0 ∧ fitB T x = (⟨#[]⟩,2)):=by
 have hs:x.size = l.length:=by rw [hx];show l.toArray.size = _;rw [List.size_toArray]
 have hl:x.data.toList = l:=by rw [hx]
 have ht:¬ (T < 0 ∨ 255 < T ∨ T % 32 = 31):=by rcases h with rfl | rfl | rfl <;> decide
 unfold wrapErr fitB wr1
 rw [hs,hl,if_neg ht]
 by_cases hc:l.length ≤ 131072
 ·rw [if_pos hc,if_neg (by omega)];exact .inl ⟨rfl,rfl⟩
 ·rw [if_neg hc,if_pos (by omega)];exact .inr ⟨by decide,rfl⟩
set_option maxRecDepth 100000 in
set_option maxHeartbeats 1000000 in
theorem rfit_any (T:Int) (hT:TagOk T) (a:Option Addr) (n c:Nat) (ss:List ByteArray) (w:World) (hv:Reads w (.slice a n c) ss) (hn:ss.length < 4611686018427387904) (hb:(cat_t ss).length ≤ 1099511627776) :
  Calls Tryz.prog 31 #[.int .i64 T,.slice a n c] w fun e w' => e = .returned (fitV T ⟨(cat_t ss).toArray⟩) ∧ Below w.heap.size w w':=by
 have HW:=rwrap_any T _ ss w hv hn hb
 unfold wrapVal at HW
 rcases fit_or T hT (cat_t ss) _ rfl with ⟨h1,h2⟩ | ⟨h1,h2⟩
 ·unfold fitV
  rw [h1] at HW
  rw [h2]
  have H:=Lib.hid HW
  clear HW hv hn h1 h2 hT hb
  go_enter Tryz.func31,Tryz.ntmps31
  go_wp2_with (go_at_call 54;(with_reducible refine H.out.mono ?_);rintro e w1 ⟨rfl,hb⟩;have HB:=Lib.hid hb;clear hb)
  go_ret2
  exact ⟨rfl,HB.out⟩
 ·unfold fitV
  rw [h2]
  have hz1:=errno_ne h1
  have H:=Lib.hid HW
  clear HW hv hn h2 hT h1 hb
  generalize wrapErr T (cat_t ss).length = X at H hz1
  go_enter Tryz.func31,Tryz.ntmps31
  go_wp2_with (go_at_call 54;(with_reducible refine H.out.mono ?_);rintro e w1 ⟨rfl,hb⟩;have HB:=Lib.hid hb;clear hb)
  go_ret2
  exact ⟨rfl,HB.out⟩
theorem rfit1 (T:Int) (hT:TagOk T) (g:Nat) (x:ByteArray) (w:World) (h:w.cell? ⟨g,0,none⟩ = some (.string x)) (hx:x.size ≤ 1099511627776) :
  Calls Tryz.prog 31 #[.int .i64 T,.slice (some ⟨g,0,none⟩) 1 1] w fun e w' => e = .returned (fitV T x) ∧ Below w.heap.size w w':=by
 have:=rfit_any T hT _ _ _ _ w (reads_one h) (by simp) (by rw [cat_one];exact hx)
 rwa [cat_one] at this
theorem eGt_le {g:Gn} (h:xGt g = 0):(eGt g).size ≤ 4500:=by
 obtain ⟨k,t,n⟩:=g
 have h0:chkG true k t n = 0:=h
 show (encG true k t n).size ≤ 4500
 unfold encG
 rw [if_pos h0]
 rcases encG_zero h0 with ⟨rfl,rfl,hk⟩ | ⟨h4,hok,_,_⟩
 ·rw [if_pos rfl]
  have h1:=encN_le64 hk
  have h2:=wrapStr_le 164 (encN n).data.toList
  have h3:(encN n).data.toList.length = (encN n).size:=rfl
  show (wrapStr 164 (encN n).data.toList).size ≤ 4500
  omega
 ·rw [if_neg h4]
  have h1:t.length ≤ 128:=okT_len hok
  have h2:=wrapStr_le (128 + k) (strOf t).data.toList
  have h3:(strOf t).data.toList.length = t.length:=by rw [strOf_list]
  show (wrapStr (128 + k) (strOf t).data.toList).size ≤ 4500
  omega
theorem treeB_le {g:Gn} (h:xGt g = 0):(treeB g).size ≤ 4510:=by
 have h1:=eGt_le h
 have h2:=wrapStr_le 48 (eGt g).data.toList
 have h3:(eGt g).data.toList.length = (eGt g).size:=rfl
 show (wrapStr 48 (eGt g).data.toList).size ≤ 4510
 omega
theorem treesB_le:∀ (l:List Gn),(∀ g ∈ l,xGt g = 0) → (cat_t (l.map treeB)).length ≤ 4510 * l.length
 |[],_ => Nat.le_refl _
 |g :: r,h => by
  have h1:=treesB_le r (fun x hx => h x (List.mem_cons_of_mem _ hx))
  have h2:=treeB_le (h g (by simp))
  have h3:(treeB g).data.toList.length = (treeB g).size:=rfl
  show ((treeB g).data.toList ++ cat_t (r.map treeB)).length ≤ 4510 * (r.length + 1)
  rw [List.length_append]
  omega
theorem at_mem {l:List Gn} {p:Gn → Prop} (h:∀ g ∈ l,p g) {i:Nat} (hi:i < l.length):p (l.getD i noG):=by
 rw [List.getD_eq_getElem?_getD,List.getElem?_eq_getElem hi];exact h _ (List.getElem_mem hi)
noncomputable def partV (T:Int) (l:List Gn):Value:=.tuple #[.string (partB T l).1,.int .i64 (((partB T l).2:Nat):Int)]
theorem partV_fit (T:Int) {l:List Gn} (h:l.length ≠ 0):partV T l = fitV T (treesB l):=by unfold partV partB fitV;rw [if_neg h]
theorem partV_nil (T:Int) {l:List Gn} (h:l.length = 0):partV T l = .tuple #[.string ⟨#[]⟩,.int .i64 0]:=by unfold partV partB;rw [if_pos h];rfl
set_option maxRecDepth 100000 in
set_option maxHeartbeats 4000000 in
theorem rpart_core (T:Int) (hTag:TagOk T) (a0:Option Addr) (c m:Nat) (l:List Gn) (w:World) (h:GLies w a0 l) (hm:m = l.length) (hmm:m ≤ 1000) (hs:SmL l) (hx:∀ g ∈ l,xGt g = 0) :
  Calls Tryz.prog 30 #[.int .i64 T,.slice a0 m c] w fun e w' => e = .returned (partV T l) ∧ Below w.heap.size w w':=by
 rcases Nat.eq_zero_or_pos m with hz | hz
 ·rw [partV_nil T (by omega)]
  subst hz
  clear h hm hmm hs hx hTag
  go_enter Tryz.func30,Tryz.ntmps30
  go_wp2_with fail
  go_ret2
  exact ⟨rfl,Below.refl _ _⟩
 ·have hq:((m:Int) == 0) = false:=by simp;omega
  rw [partV_fit T (by omega)]
  have H1:=Lib.hid h
  have HN:=Lib.hid hm
  have HS:=Lib.hid hs
  have HX:=Lib.hid hx
  have hle:=treesB_le l hx
  have hTS:(treesB l).size = (cat_t (l.map treeB)).length:=by show (cat_t (l.map treeB)).toArray.size = _;rw [List.size_toArray]
  have HW:=Lib.hid (fun g W h => rfit1 T hTag g (treesB l) W h (by rw [hTS];have:=hm;omega))
  obtain ⟨V,hV⟩:∃ V,V = fitB T (treesB l):=⟨_,rfl⟩
  have hVV:fitV T (treesB l) = .tuple #[.string V.1,.int .i64 ((V.2:Nat):Int)]:=by unfold fitV;rw [← hV]
  rw [hVV] at HW ⊢
  clear h hm hs hx hTag hV hVV hz hle hTS
  obtain ⟨V1,V2⟩:=V
  simp only at HW ⊢
  go_enter Tryz.func30,Tryz.ntmps30
  go_wp2_with fail
  clear hq
  go_loopw [6,16] (fun u i wr => ∃ (k:Nat) (S:ByteArray),k ≤ m ∧ i = .int .i64 (k:Int) ∧ u = .string S ∧ S.data.toList = cat_t ((l.take k).map treeB) ∧ S.size ≤ 131080 * k ∧ Below w.heap.size w wr) (fun _ i _ => m - (intOf i).toNat)
  case atStart => exact ⟨0,⟨#[]⟩,Nat.zero_le _,rfl,rfl,rfl,by decide,Below.refl _ _⟩
  case round =>
   obtain ⟨wz,hwz⟩:∃ wz,wz = wr:=⟨_,rfl⟩
   subst hwz
   obtain ⟨k,S,hk,rfl,rfl,hS,hSz,hb⟩:=hrel
   have HB:=Lib.hid hb
   have HSL:=Lib.hid hS
   clear hb hS
   by_cases hlt:k < m
   ·have hd:decide ((k:Int) < (m:Int)) = true:=by simp;omega
    have hkl:k < l.length:=by rw [← HN.out];exact hlt
    obtain ⟨b,o,rfl,hbl,e0,e1,a1,c1,e2,hc1,hL1⟩:=H1.out.at k hkl
    have f0:wz.cell? ⟨b,o + k * 3,none⟩ = _:=(HB.out.cell (p:=⟨b,o + k * 3,none⟩) hbl).trans e0
    have f1:wz.cell? ⟨b,o + k * 3 + 1,none⟩ = _:=(HB.out.cell (p:=⟨b,o + k * 3 + 1,none⟩) hbl).trans e1
    have f2:wz.cell? ⟨b,o + k * 3 + 2,none⟩ = _:=(HB.out.cell (p:=⟨b,o + k * 3 + 2,none⟩) hbl).trans e2
    have hsm:=HS.out.at hkl
    have hxk:=at_mem HX.out hkl
    have hst:(l.take (k + 1)).map treeB = (l.take k).map treeB ++ [treeB (l.getD k noG)]:=by rw [takeD l k hkl noG];simp
    obtain ⟨G,hG⟩:∃ G,G = l.getD k noG:=⟨_,rfl⟩
    rw [← hG] at f0 f1 f2 hsm hxk hL1 hc1 hst
    obtain ⟨q,t,n⟩:=G
    simp only at f0 f1 f2 hL1 hc1
    obtain ⟨N,hNn⟩:∃ N,N = n.length:=⟨_,rfl⟩
    rw [← hNn] at f2
    obtain ⟨W2,hW2⟩:∃ W2,W2 = wz.alloc (.cells #[.int .i64 q,.string (strOf t),.slice a1 N c1] 29):=⟨_,rfl⟩
    have hb2:Below wz.heap.size wz W2:=by rw [hW2];exact belowNew wz _
    obtain ⟨g0,g1,g2,_⟩:=three_facts (w:=W2) (g:=wz.heap.size) (by rw [hW2];exact heap_alloc_new wz _)
    have HB2:=Lib.hid (below_next HB.out hb2)
    have HCE:=rencG_core a1 c1 N q t n true W2 ((hL1.below HB.out).below hb2) hNn hsm.1 hsm.2
    rw [show chkG true q t n = 0 from hxk,show encG true q t n = eGt (q,t,n) from rfl] at HCE
    have HCH:=Lib.hid HCE
    have HWE:=hW2.symm
    have hez:=eGt_le hxk
    have htz:=treeB_le hxk
    have HW1:=Lib.hid (fun g W h => rw1 48 g (eGt (q,t,n)) W h (by omega))
    rw [show wr1 48 (eGt (q,t,n)) = treeB (q,t,n) from rfl] at HW1
    obtain ⟨s,hs⟩:∃ s,s = treeB (q,t,n):=⟨_,rfl⟩
    rw [← hs] at HW1 hst htz
    have hcat:=cat_any S s (by omega)
    obtain ⟨TT,hTT⟩:∃ TT,TT = S ++ s:=⟨_,rfl⟩
    rw [← hTT] at hcat
    have HTL:=Lib.hid (show TT.data.toList = cat_t ((l.take (k + 1)).map treeB) by rw [hst,catt_snoc,← HSL.out,hTT];simp)
    have HTZ:=Lib.hid (show TT.size ≤ 131080 * (k + 1) by rw [hTT,ByteArray.size_append];omega)
    generalize eGt (q,t,n) = EE at HCH HW1
    clear e0 e1 e2 hbl hL1 hc1 hG hNn hW2 hb2 hsm hxk hs hst hkl hez htz hTT HCE
    go_wp2_with (first
     |(go_at_call 53;(with_reducible refine HCH.out.mono ?_);rintro e w3 ⟨rfl,hb3⟩;have HB3:=Lib.hid (below_next HB2.out hb3);clear hb3)
     |(go_at_call 37;(with_reducible refine (HW1.out _ _ (bx1 _ _ _)).mono ?_);rintro e w5 ⟨rfl,hb5⟩;have HB5:=Lib.hid (below_next HB3.out (below_next (belowNew _ _) hb5));clear hb5))
    go_roundw
    case rel => exact ⟨k + 1,TT,by omega,by go_num,rfl,HTL.out,HTZ.out,HB5.out⟩
    case measure => simp [intOf];omega
   ·have hd:decide ((k:Int) < (m:Int)) = false:=by simp;omega
    have HS2:=Lib.hid (show S = treesB l by
     have h1:=HSL.out
     rw [List.take_of_length_le (by rw [← HN.out];omega)] at h1
     unfold treesB
     rw [← h1])
    go_wp2_with (go_at_call 31;(with_reducible refine (HW.out _ _ (by rw [← HS2.out];exact bx1 _ _ _)).mono ?_);rintro e w5 ⟨rfl,hb5⟩;have HB5:=Lib.hid (below_next HB.out (below_next (belowNew _ _) hb5));clear hb5)
    go_ret2
    exact ⟨rfl,HB5.out⟩
noncomputable def encV2 (s:Sub):Value:=.tuple #[.string (encSub s).1,.int .i64 (((encSub s).2:Nat):Int)]
theorem errT_all:∀ {l:List Gn},errT l = 0 → ∀ g ∈ l,xGt g = 0
 |[],_,g,hg => by cases hg
 |x :: r,h,g,hg => by
  by_cases hx:xGt x = 0
  ·have h1:errT r = 0:=by
    have h2:(if xGt x ≠ 0 then xGt x else errT r) = 0:=h
    rwa [if_neg (not_not_intro hx)] at h2
   rcases List.mem_cons.1 hg with rfl | hg
   ·exact hx
   ·exact errT_all h1 g hg
  ·have h2:(if xGt x ≠ 0 then xGt x else errT r) = 0:=h
   rw [if_pos hx] at h2
   exact absurd h2 hx
theorem chkS_all {s:Sub} (h:chkS s = 0):s.1.length ≤ 16 ∧ s.2.length ≤ 16 ∧ (∀ g ∈ s.1,xGt g = 0) ∧ ∀ g ∈ s.2,xGt g = 0:=by
 unfold chkS at h
 split at h
 ·cases h
 ·split at h
  ·cases h
  ·rename_i h16
   have:=errT_all h
   exact ⟨by omega,by omega,fun g hg => this g (List.mem_append_left _ hg),fun g hg => this g (List.mem_append_right _ hg)⟩
theorem encV2_err {s:Sub} (h:chkS s ≠ 0):encV2 s = .tuple #[.string ⟨#[]⟩,.int .i64 ((chkS s:Nat):Int)]:=by unfold encV2 encSub;rw [if_pos h]
theorem encV2_one {s:Sub} (h:chkS s = 0) (h1:(partB 160 s.1).2 ≠ 0):encV2 s = .tuple #[.string ⟨#[]⟩,.int .i64 (((partB 160 s.1).2:Nat):Int)]:=by unfold encV2 encSub;rw [if_neg (not_not_intro h),if_pos h1]
theorem encV2_two {s:Sub} (h:chkS s = 0) (h1:(partB 160 s.1).2 = 0) (h2:(partB 161 s.2).2 ≠ 0):encV2 s = .tuple #[.string ⟨#[]⟩,.int .i64 (((partB 161 s.2).2:Nat):Int)]:=by unfold encV2 encSub;rw [if_neg (not_not_intro h),if_neg (not_not_intro h1),if_pos h2]
theorem encV2_ok {s:Sub} (h:chkS s = 0) (h1:(partB 160 s.1).2 = 0) (h2:(partB 161 s.2).2 = 0):encV2 s = fitV 48 ⟨((partB 160 s.1).1.data.toList ++ (partB 161 s.2).1.data.toList).toArray⟩:=by unfold encV2 encSub fitV;rw [if_neg (not_not_intro h),if_neg (not_not_intro h1),if_neg (not_not_intro h2)]
theorem rfit2 (T:Int) (hT:TagOk T) (g:Nat) (x y:ByteArray) (w:World) (h:w.cell? ⟨g,0,none⟩ = some (.string x)) (k:w.cell? ⟨g,1,none⟩ = some (.string y)) (hx:x.size + y.size ≤ 1099511627776) :
  Calls Tryz.prog 31 #[.int .i64 T,.slice (some ⟨g,0,none⟩) 2 2] w fun e w' => e = .returned (fitV T ⟨(x.data.toList ++ y.data.toList).toArray⟩) ∧ Below w.heap.size w w':=by
 have:=rfit_any T hT _ _ _ _ w (reads_two h k) (by simp) (by rw [cat_two,List.length_append];exact hx)
 rwa [cat_two] at this
theorem partB_size (T:Int) (l:List Gn):(partB T l).1.size ≤ 131080:=by
 unfold partB fitB
 split
 ·show 0 ≤ _;omega
 ·split
  ·exact wrapStr_size _ _
  ·show 0 ≤ _;omega
theorem bxa (V:World) (x y:ByteArray) (T:TypeId):(V.alloc (.cells #[.string x,.string y] T)).cell? ⟨V.heap.size,0,none⟩ = some (.string x) ∧ (V.alloc (.cells #[.string x,.string y] T)).cell? ⟨V.heap.size,1,none⟩ = some (.string y):=by
 obtain ⟨h1,h2,_⟩:=two_facts (heap_alloc_new V (.cells #[.string x,.string y] T))
 exact ⟨h1,h2⟩
set_option maxRecDepth 100000 in
set_option maxHeartbeats 4000000 in
theorem rencs_core (a1 a2:Option Addr) (c1 c2 m1 m2:Nat) (s:Sub) (w:World) (h1:GLies w a1 s.1) (h2:GLies w a2 s.2) (hm1:m1 = s.1.length) (hm2:m2 = s.2.length) (hs1:SmL s.1) (hs2:SmL s.2) (hn1:a1 = none → m1 = 0 ∧ c1 = 0) (hn2:a2 = none → m2 = 0 ∧ c2 = 0) :
  Calls Tryz.prog 15 #[.agg #[.slice a1 m1 c1,.slice a2 m2 c2]] w fun e w' => e = .returned (encV2 s) ∧ Below w.heap.size w w':=by
 obtain ⟨W0,hW0⟩:∃ W0,W0 = w.alloc (.cells #[.slice a1 m1 c1,.slice a2 m2 c2] 24):=⟨_,rfl⟩
 have hwr:=hW0.symm
 have hb0:Below w.heap.size w W0:=by rw [hW0];exact belowNew w _
 obtain ⟨b0,b1,lb⟩:=two_facts (w:=W0) (g:=w.heap.size) (by rw [hW0];exact heap_alloc_new w _)
 have HB0:=Lib.hid hb0
 have HC:=Lib.hid (rchks_core a1 a2 c1 c2 m1 m2 s W0 (h1.below hb0) (h2.below hb0) hm1 hm2 hn1 hn2 hs1 hs2)
 obtain ⟨E,hE⟩:∃ E,E = chkS s:=⟨_,rfl⟩
 rw [← hE] at HC
 by_cases hz:E = 0
 ·have hx:=chkS_all (s:=s) (by rw [← hE,hz])
  have HP1:=Lib.hid (fun W (hb:Below w.heap.size w W) => rpart_core 160 (.inr (.inl rfl)) a1 c1 m1 s.1 W (h1.below hb) hm1 (by have:=hx.1;omega) hs1 hx.2.2.1)
  have HP2:=Lib.hid (fun W (hb:Below w.heap.size w W) => rpart_core 161 (.inr (.inr rfl)) a2 c2 m2 s.2 W (h2.below hb) hm2 (by have:=hx.2.1;omega) hs2 hx.2.2.2)
  unfold partV at HP1 HP2
  have e1:=fun k => encV2_one (s:=s) (by rw [← hE,hz]) k
  have e2:=fun k l => encV2_two (s:=s) (by rw [← hE,hz]) k l
  have e3:=fun k l => encV2_ok (s:=s) (by rw [← hE,hz]) k l
  have z1:=partB_size 160 s.1
  have z2:=partB_size 161 s.2
  generalize partB 160 s.1 = A at HP1 e1 e2 e3 z1
  generalize partB 161 s.2 = B at HP2 e2 e3 z2
  obtain ⟨A1,A2⟩:=A
  obtain ⟨B1,B2⟩:=B
  simp only at HP1 HP2 e1 e2 e3 z1 z2
  have E1:=Lib.hid e1
  have E2:=Lib.hid e2
  have E3:=Lib.hid e3
  have HF:=Lib.hid (fun g W h k => rfit2 48 (.inl rfl) g A1 B1 W h k (by omega))
  subst hz
  clear h1 h2 hm1 hm2 hs1 hs2 hW0 hb0 hE hx e1 e2 e3 z1 z2 hn1 hn2
  by_cases hA:A2 = 0
  ·subst hA
   by_cases hB:B2 = 0
   ·subst hB
    rw [E3.out rfl rfl]
    generalize (⟨(A1.data.toList ++ B1.data.toList).toArray⟩:ByteArray) = X at HF ⊢
    unfold fitV at HF ⊢
    generalize fitB 48 X = F at HF ⊢
    obtain ⟨F1,F2⟩:=F
    simp only at HF ⊢
    go_enter Tryz.func15,Tryz.ntmps15
    go_wp2_with (first
     |(go_at_call 17;(with_reducible refine HC.out.mono ?_);rintro e w1 ⟨rfl,hb1⟩;have HB1:=Lib.hid (below_next HB0.out hb1);have d0:=(hb1.cell (p:=⟨w.heap.size,0,none⟩) lb).trans b0;have d1:=(hb1.cell (p:=⟨w.heap.size,1,none⟩) lb).trans b1;have ld:=Nat.lt_of_lt_of_le lb hb1.size;clear hb1)
     |(go_at_call 30;(with_reducible refine (HP1.out _ HB1.out).mono ?_);rintro e w2 ⟨rfl,hb2⟩;have HB2:=Lib.hid (below_next HB1.out hb2);have f1:=(hb2.cell (p:=⟨w.heap.size,1,none⟩) ld).trans d1;clear hb2)
     |(go_at_call 30;(with_reducible refine (HP2.out _ HB2.out).mono ?_);rintro e w3 ⟨rfl,hb3⟩;have HB3:=Lib.hid (below_next HB2.out hb3);clear hb3)
     |(go_at_call 31;(with_reducible refine (HF.out _ _ (bxa _ _ _ _).1 (bxa _ _ _ _).2).mono ?_);rintro e w5 ⟨rfl,hb5⟩;have HB5:=Lib.hid (below_next HB3.out (below_next (belowNew _ _) hb5));clear hb5))
    go_ret2
    exact ⟨rfl,HB5.out⟩
   ·have hz1:=errno_ne hB
    rw [E2.out rfl hB]
    clear E1 E2 E3 HF hB
    go_enter Tryz.func15,Tryz.ntmps15
    go_wp2_with (first
     |(go_at_call 17;(with_reducible refine HC.out.mono ?_);rintro e w1 ⟨rfl,hb1⟩;have HB1:=Lib.hid (below_next HB0.out hb1);have d0:=(hb1.cell (p:=⟨w.heap.size,0,none⟩) lb).trans b0;have d1:=(hb1.cell (p:=⟨w.heap.size,1,none⟩) lb).trans b1;have ld:=Nat.lt_of_lt_of_le lb hb1.size;clear hb1)
     |(go_at_call 30;(with_reducible refine (HP1.out _ HB1.out).mono ?_);rintro e w2 ⟨rfl,hb2⟩;have HB2:=Lib.hid (below_next HB1.out hb2);have f1:=(hb2.cell (p:=⟨w.heap.size,1,none⟩) ld).trans d1;clear hb2)
     |(go_at_call 30;(with_reducible refine (HP2.out _ HB2.out).mono ?_);rintro e w3 ⟨rfl,hb3⟩;have HB3:=Lib.hid (below_next HB2.out hb3);clear hb3))
    go_ret2
    exact ⟨rfl,HB3.out⟩
  ·have hz1:=errno_ne hA
   rw [E1.out hA]
   clear E1 E2 E3 HF hA
   go_enter Tryz.func15,Tryz.ntmps15
   go_wp2_with (first
    |(go_at_call 17;(with_reducible refine HC.out.mono ?_);rintro e w1 ⟨rfl,hb1⟩;have HB1:=Lib.hid (below_next HB0.out hb1);have d0:=(hb1.cell (p:=⟨w.heap.size,0,none⟩) lb).trans b0;clear hb1)
    |(go_at_call 30;(with_reducible refine (HP1.out _ HB1.out).mono ?_);rintro e w2 ⟨rfl,hb2⟩;have HB2:=Lib.hid (below_next HB1.out hb2);clear hb2))
   go_ret2
   exact ⟨rfl,HB2.out⟩
 ·have hz1:=errno_ne hz
  rw [encV2_err (by rw [← hE];exact hz),← hE]
  clear h1 h2 hm1 hm2 hs1 hs2 hW0 hb0 hE hn1 hn2
  go_enter Tryz.func15,Tryz.ntmps15
  go_wp2_with (go_at_call 17;(with_reducible refine HC.out.mono ?_);rintro e w1 ⟨rfl,hb1⟩;have HB1:=Lib.hid (below_next HB0.out hb1);clear hb1)
  go_ret2
  exact ⟨rfl,HB1.out⟩
theorem genB_S {s:Sub} (h:GenB s):GenS s :=
 ⟨Nat.le_trans h.1 (by omega),Nat.le_trans h.2.1 (by omega),h.2.2.1,fun g hg => by
  show OkC true _ _ _
  unfold OkC
  rw [if_pos rfl]
  exact h.2.2.2.1 g hg,fun g hg => by
  show OkC true _ _ _
  unfold OkC
  rw [if_pos rfl]
  exact h.2.2.2.2 g hg⟩
theorem okG_sm {g:Gn} (h:OkG g):SmG g:=by
 have:=okC_len h
 exact ⟨Nat.le_trans this.1 (by omega),madeN_small this.2⟩
theorem okL_sm {l:List Gn} (h:∀ g ∈ l,OkG g):SmL l:=fun g hg => okG_sm (h g hg)
/-- Bounds under which the functions on states are known. -/
def OkS (L:List Sub):Prop:=SmS L ∧ L.length ≤ 1000000 ∧ ∀ s ∈ L,s.1.length ≤ 1000000 ∧ s.2.length ≤ 1000000
theorem OkS.nil:OkS []:=⟨(fun _ h => nomatch h),(Nat.zero_le _),(fun _ h => nomatch h)⟩
theorem OkS.snoc {L:List Sub} {s:Sub} (h:OkS L) (hl:L.length < 1000000) (h1:SmL s.1) (h2:SmL s.2) (h3:s.1.length ≤ 1000000) (h4:s.2.length ≤ 1000000):OkS (L ++ [s]):=by
 refine ⟨fun x hx => ?_,by rw [List.length_append];simp;omega,fun x hx => ?_⟩
 ·rcases List.mem_append.1 hx with hx | hx
  ·exact h.1 x hx
  ·rw [List.mem_singleton.1 hx];exact ⟨h1,h2⟩
 ·rcases List.mem_append.1 hx with hx | hx
  ·exact h.2.2 x hx
  ·rw [List.mem_singleton.1 hx];exact ⟨h3,h4⟩
theorem OkS.sz {L:List Sub} (h:OkS L) {i:Nat} (hi:i < L.length):(L.getD i noSub).1.length ≤ 1000000 ∧ (L.getD i noSub).2.length ≤ 1000000:=by
 rw [List.getD_eq_getElem?_getD,List.getElem?_eq_getElem hi];exact h.2.2 _ (List.getElem_mem hi)
set_option maxRecDepth 100000 in
set_option maxHeartbeats 4000000 in
theorem copiess_core (f:Nat) (eg:∀ args w,(callFunc f args).run Tryz.prog w = .ok (.enter f args) w) (hf:CopiesS f) (a0:Option Addr) (c m:Nat) (l:List Sub) (w:World) (h:SLies w a0 l) (hm:m = l.length) (hs:OkS l) :
  Calls Tryz.prog 45 #[.slice a0 m c,.func (.func f) #[] #[]] w fun e w' => ∃ v,e = .returned v ∧ OwnSb w' w.heap.size v l ∧ Below w.heap.size w w':=by
 obtain ⟨i0,hi,hz0,hz1,hz2⟩:=info_parts subInfo
 have hmm:m ≤ 1000000:=by rw [hm];exact hs.2.1
 have H1:=Lib.hid h
 have HN:=Lib.hid hm
 have HF:=Lib.hid hf
 have HS:=Lib.hid hs
 clear h hm hf hs
 go_enter Tryz.func45,Tryz.ntmps45
 go_wp2_with fail
 go_loopw [5,10] (fun v i wr => ∃ k:Nat,k ≤ m ∧ i = .int .i64 k ∧ OwnSb wr w.heap.size v (l.take k) ∧ Below w.heap.size w wr) (fun _ i _ => m - (intOf i).toNat)
 case atStart => exact ⟨0,Nat.zero_le _,rfl,OwnSb.nil _ _,Below.refl _ _⟩
 case round =>
  obtain ⟨wz,hwz⟩:∃ wz,wz = wr:=⟨_,rfl⟩
  subst hwz
  obtain ⟨k,hk,rfl,ho,hb⟩:=hrel
  obtain ⟨av,cv,hv5,_,_⟩:=ho.lies
  have HB:=Lib.hid hb
  have HO:=Lib.hid ho
  have HNX:(l.take k).length = k:=by rw [List.length_take];exact Nat.min_eq_left (by rw [← HN.out];exact hk)
  rw [HNX] at hv5
  have HTK:=Lib.hid HNX
  clear hb ho HNX
  subst hv5
  by_cases hlt:k < m
  ·have hd:decide ((k:Int) < (m:Int)) = true:=by simp;omega
   have hki:(k:Int) < (m:Int):=by omega
   obtain ⟨b,o,rfl,hbl,a1,c1,a2,c2,e0,e1,⟨hc1,hL1⟩,hc2,hL2⟩:=H1.out.at k (by rw [← HN.out];exact hlt)
   have f0:=(HB.out.cell (p:=⟨b,o + k * 2,none⟩) hbl).trans e0
   have f1:=(HB.out.cell (p:=⟨b,o + k * 2 + 1,none⟩) hbl).trans e1
   have hsk:=HS.out.1.at (i:=k) (by rw [← HN.out];exact hlt)
   have hzk:=HS.out.sz (i:=k) (by rw [← HN.out];exact hlt)
   have HST:=Lib.hid (takeN l k (by rw [← HN.out];exact hlt) noSub)
   have HLT:=Lib.hid hlt
   clear e0 e1 hbl
   generalize l.getD k noSub = G at f0 f1 hsk hzk hL1 hL2 hc1 hc2 HST
   obtain ⟨A,B⟩:=G
   simp only at f0 f1 hL1 hL2 hc1 hc2 hzk
   obtain ⟨NA,hNA⟩:∃ NA,NA = A.length:=⟨_,rfl⟩
   obtain ⟨NB,hNB⟩:∃ NB,NB = B.length:=⟨_,rfl⟩
   rw [← hNA] at f0 hzk
   rw [← hNB] at f1 hzk
   obtain ⟨W2,hW2⟩:∃ W2,W2 = wz.alloc (.cells #[.slice a1 NA c1,.slice a2 NB c2] 24):=⟨_,rfl⟩
   have hb2:Below wz.heap.size wz W2:=by rw [hW2];exact belowNew wz _
   obtain ⟨s0,s1,ls⟩:=two_facts (w:=W2) (g:=wz.heap.size) (by rw [hW2];exact heap_alloc_new wz _)
   have HB2:=Lib.hid (below_next HB.out hb2)
   have HO2:=Lib.hid (HO.out.below hb2)
   have HC:=Lib.hid (HF.out a1 a2 c1 c2 NA NB A B W2 ((hL1.below HB.out).below hb2) ((hL2.below HB.out).below hb2) hNA hNB hzk.1 hzk.2 hsk.1 hsk.2)
   have HWE:=hW2.symm
   clear hL1 hL2 hc1 hc2 hNA hNB hsk hzk hW2 hb2
   obtain ⟨X,hX⟩:∃ X,X = l.take k:=⟨_,rfl⟩
   rw [← hX] at HO2 HST HTK
   clear hX HO
   go_wp2_with (first
    |(go_at_fn f;refine HC.out.mono ?_;rintro e w3 ⟨u,v,rfl,ho3,ho4,hb3⟩;obtain ⟨a3,c3,rfl,_,_⟩:=ho3.lies;obtain ⟨a4,c4,rfl,_,_⟩:=ho4.lies;have HB3:=Lib.hid (below_next HB2.out hb3);obtain ⟨vs,hv1,hv2,hv3⟩:=HO2.out.below hb3;have HV1:=Lib.hid hv1;have HV2:=Lib.hid hv2;have HV3:=Lib.hid hv3;have HO3:=Lib.hid (And.intro (ho3.base HB2.out.size) (ho4.base HB2.out.size));clear hb3 ho3 ho4 hv1 hv2 hv3)
    |(at_builtin;(refine wpList_append_own _ rfl (.tmp 14) (.tmp 18) 39 rfl w.heap.size 24 i0 (.agg #[.slice none 0 0,.slice none 0 0]) 2 48 Tryz.underlying39 hi hz0 hz1 hz2 rfl (by decide) _ X.length (ssCells vs) rfl (own_below HV2.out (belowNew _ _)) ⟨w3.heap.size,0,none⟩ 1 1 (sCells (.slice a3 A.length c3,.slice a4 B.length c4)) rfl rfl (fun j u h => news_row w3 #[.slice a3 A.length c3,.slice a4 B.length c4] 24 j u (by simpa [sCells] using h)) (sCells_one _ _ _ _ _ _) (by have:=HTK.out;unfold maxLen;omega) (by have:=HTK.out;omega) (by have:=HB3.out.size;simp;omega) ?_);intro v' w6 hown6 hgr6 _;have P3:=OwnSb.snoc HV1.out (own_below HV2.out (belowNew w3 _)) (fun i hi => ⟨(HV3.out i hi).1.below (belowNew w3 _),(HV3.out i hi).2.below (belowNew w3 _)⟩) ⟨HO3.out.1.below (belowNew w3 _),HO3.out.2.below (belowNew w3 _)⟩ hgr6 hown6 (g:=(A,B));have P2:=(HB3.out.trans ((belowNew w3 _).mono HB3.out.size)).grown hgr6 (by have:=HB3.out.size;simp;omega) (fun j e => (World.ownsRow.lt HV2.out j e).1);obtain ⟨a6,c6,hv6,_,_⟩:=P3.lies;rw [List.length_append,List.length_singleton,HTK.out] at hv6;subst hv6;have HP3:=Lib.hid P3;have HP2:=Lib.hid P2;clear P2 P3 hown6 hgr6))
   go_roundw
   case rel => exact ⟨k + 1,HLT.out,by go_num,by rw [HST.out];exact HP3.out,HP2.out⟩
   case measure => simp [intOf];omega
  ·have hd:decide ((k:Int) < (m:Int)) = false:=by simp;omega
   obtain rfl:k = m:=by omega
   go_wp2_with fail
   go_ret
   refine ⟨_,rfl,?_,HB.out⟩
   have:=HO.out
   rw [List.take_of_length_le (by rw [← HN.out];exact Nat.le_refl _)] at this
   exact this
set_option maxRecDepth 100000 in
set_option maxHeartbeats 4000000 in
theorem add_core (a0 a1 a2:Option Addr) (c m c1 c2 NA NB:Nat) (L:List Sub) (A B:List Gn) (w:World) (h:SLies w a0 L) (hm:m = L.length) (hs:OkS L) (hlt:m < 1000000) (h1:GLies w a1 A) (h2:GLies w a2 B) (hA:NA = A.length) (hB:NB = B.length) (hzA:NA ≤ 1000000) (hzB:NB ≤ 1000000) (hsA:SmL A) (hsB:SmL B) :
  Calls Tryz.prog 25 #[.agg #[.slice a0 m c],.agg #[.slice a1 NA c1,.slice a2 NB c2]] w fun e w' => ∃ v,e = .returned (.agg #[v]) ∧ OwnSb w' w.heap.size v (L ++ [(A,B)]) ∧ Below w.heap.size w w':=by
 obtain ⟨i0,hi,hz0,hz1,hz2⟩:=info_parts subInfo
 obtain ⟨V0,hV0⟩:∃ V0,V0 = (w.alloc (.cells #[.slice a0 m c] 55)).alloc (.cells #[.slice a1 NA c1,.slice a2 NB c2] 24):=⟨_,rfl⟩
 obtain ⟨W0,hW0⟩:∃ W0,W0 = V0.alloc (.cells #[.slice none 0 0] 55):=⟨_,rfl⟩
 have hwr:((w.alloc (.cells #[.slice a0 m c] 55)).alloc (.cells #[.slice a1 NA c1,.slice a2 NB c2] 24)).alloc (.cells #[.slice none 0 0] 55) = W0:=by rw [hW0,hV0]
 have hbv:Below w.heap.size w V0:=by rw [hV0];exact belowTwo w _ _
 have hvz:V0.heap.size = w.heap.size + 2:=by rw [hV0];simp
 have hbn:Below V0.heap.size V0 W0:=by rw [hW0];exact belowNew V0 _
 have hb0:Below w.heap.size w W0:=below_next hbv hbn
 have hq0:W0.heap[w.heap.size]? = some (.cells #[.slice a0 m c] 55 (0,0)):=(hbn.block _ (by omega)).trans (by rw [hV0,heap_first];exact heap_alloc_new w _)
 have hq1:W0.heap[w.heap.size + 1]? = some (.cells #[.slice a1 NA c1,.slice a2 NB c2] 24 (0,0)):=(hbn.block _ (by omega)).trans (by rw [hV0];exact heap_second w _ _ _)
 have hq2:W0.heap[w.heap.size + 2]? = some (.cells #[.slice none 0 0] 55 (0,0)):=by rw [hW0,← hvz];exact heap_alloc_new V0 _
 obtain ⟨x0,_,lx⟩:=one_facts hq0
 obtain ⟨s0,s1,ls⟩:=two_facts hq1
 have lr:=(Array.getElem?_eq_some_iff.1 hq2).1
 have HB0:=Lib.hid hb0
 have HQ2:=Lib.hid hq2
 have SS0:=Lib.hid s0
 have SS1:=Lib.hid s1
 have HML:=Lib.hid hm
 have HC:=Lib.hid (copiess_core 46 (enters_of Tryz.func46 (by kernel_rfl) rfl) copysub_core a0 c m L W0 (h.below hb0) hm hs)
 have HD:=Lib.hid (fun W (hb:Below W0.heap.size W0 W) => copysub_core a1 a2 c1 c2 NA NB A B W ((h1.below hb0).below hb) ((h2.below hb0).below hb) hA hB hzA hzB hsA hsB)
 clear h hm hs h1 h2 hA hB hsA hsB hb0 hq0 hq1 hq2 hW0 hV0 hbv hbn s0 s1 hvz
 go_enter Tryz.func25,Tryz.ntmps25
 go_wp2_with (first
  |(go_at_call 45;(with_reducible refine HC.out.mono ?_);rintro e w3 ⟨v,rfl,ho3,hb3⟩;obtain ⟨av,cv,hv3,_,_⟩:=ho3.lies;rw [← HML.out] at hv3;subst hv3;have HB3:=Lib.hid hb3;have HO3:=Lib.hid ho3;have s0:=(hb3.cell (p:=⟨w.heap.size + 1,0,none⟩) ls).trans SS0.out;have s1:=(hb3.cell (p:=⟨w.heap.size + 1,1,none⟩) ls).trans SS1.out;clear hb3 ho3)
  |(go_at_call 46;(with_reducible refine (HD.out _ HB3.out).mono ?_);rintro e w4 ⟨u1,u2,rfl,ho4,ho5,hb4⟩;obtain ⟨a4,c4,rfl,_,_⟩:=ho4.lies;obtain ⟨a5,c5,rfl,_,_⟩:=ho5.lies;have HB4:=Lib.hid (below_next HB3.out hb4);obtain ⟨vs,hv1,hv2,hv3⟩:=HO3.out.below hb4;have HV1:=Lib.hid hv1;have HV2:=Lib.hid hv2;have HV3:=Lib.hid hv3;have HO4:=Lib.hid (And.intro (ho4.base HB3.out.size) (ho5.base HB3.out.size));clear hb4 ho4 ho5 hv1 hv2 hv3)
  |(at_builtin;(refine wpList_append_own _ rfl (.tmp 9) (.tmp 12) 39 rfl W0.heap.size 24 i0 (.agg #[.slice none 0 0,.slice none 0 0]) 2 48 Tryz.underlying39 hi hz0 hz1 hz2 rfl (by decide) _ L.length (ssCells vs) rfl (own_below HV2.out (belowNew _ _)) ⟨w4.heap.size,0,none⟩ 1 1 (sCells (.slice a4 A.length c4,.slice a5 B.length c5)) rfl rfl (fun j u h => news_row w4 #[.slice a4 A.length c4,.slice a5 B.length c5] 24 j u (by simpa [sCells] using h)) (sCells_one _ _ _ _ _ _) (by have:=HML.out;unfold maxLen;omega) (by have:=HML.out;omega) (by have:=HB4.out.size;simp;omega) ?_);intro v' w6 hown6 hgr6 _;have P3:=OwnSb.snoc HV1.out (own_below HV2.out (belowNew w4 _)) (fun i hi => ⟨(HV3.out i hi).1.below (belowNew w4 _),(HV3.out i hi).2.below (belowNew w4 _)⟩) ⟨HO4.out.1.below (belowNew w4 _),HO4.out.2.below (belowNew w4 _)⟩ hgr6 hown6 (g:=(A,B));have P2:=(HB4.out.trans ((belowNew w4 _).mono HB4.out.size)).grown hgr6 (by have:=HB4.out.size;simp;omega) (fun j e => (World.ownsRow.lt HV2.out j e).1);obtain ⟨a6,c6,hv6,_,_⟩:=P3.lies;rw [List.length_append,List.length_singleton,← HML.out] at hv6;subst hv6;have hq6:=(P2.block (w.heap.size + 2) lr).trans HQ2.out;obtain ⟨r0,r1,lr6⟩:=one_facts hq6;have HQ6:=Lib.hid hq6;have HP3:=Lib.hid P3;have HP2:=Lib.hid P2;clear P2 P3 hown6 hgr6 hq6))
 have hs:=But.set (w.heap.size + 2) 0 w6 (.slice a6 (m + 1) c6)
 exact bodyPost_ret (stRes rfl _ _ _ _ rfl (one_set HQ6.out)) rfl ⟨_,rfl,(HP3.out.but hs lr).base HB0.out.size,below_set (below_next HB0.out HP2.out) (by omega)⟩
def exT:List UInt8:=[101,120,97,109,112,108,101,46,111,114,103]
def wwT:List UInt8:=[119,119,119,46,101,120,97,109,112,108,101,46,111,114,103]
def maT:List UInt8:=[97,64,98]
def awL:List Sub:=[([((2:Int),exT,([]:Nm))],[]),([((2:Int),wwT,([]:Nm))],[])]
set_option maxRecDepth 100000 in
theorem aw_we:dnsWithinB wwT exT = true ∧ dnsWithinB wwT wwT = true ∧ dnsWithinB exT wwT = false:=by decide +kernel
theorem aw_one:perG awL (2,wwT,[]) = true:=by
 have h1:wG (2,wwT,[]) (2,exT,[]) = true:=(withinG_2 _ _ _ _).trans aw_we.1
 have h2:wG (2,wwT,[]) (2,wwT,[]) = true:=(withinG_2 _ _ _ _).trans aw_we.2.1
 simp [perG,awL,inG,limG,h1,h2]
theorem aw_two:perG awL (2,exT,[]) = false:=by
 have h2:wG (2,exT,[]) (2,wwT,[]) = false:=(withinG_2 _ _ _ _).trans aw_we.2.2
 simp [perG,awL,inG,limG,h2]
theorem aw_three:perG awL (1,maT,[]) = true:=by
 simp [perG,awL,inG,limG]
theorem sm_nil (k:Int) (t:List UInt8) (h:t.length ≤ 150000):SmG (k,t,[]):=⟨h,Nat.zero_le _,fun _ hi => absurd hi (Nat.not_lt_zero _)⟩
theorem sm_one {g:Gn} (h:SmG g):SmL [g]:=fun x hx => by rw [List.mem_singleton.1 hx];exact h
theorem sm_none:SmL []:=fun _ h => nomatch h
theorem awL_ok:OkS awL:=OkS.snoc (L:=[([((2:Int),exT,([]:Nm))],[])]) (OkS.snoc (L:=[]) OkS.nil (by decide) (sm_one (sm_nil _ _ (by decide))) sm_none (by decide) (by decide)) (by decide) (sm_one (sm_nil _ _ (by decide))) sm_none (by decide) (by decide)
theorem awL1_ok:OkS [([((2:Int),exT,([]:Nm))],[])]:=OkS.snoc (L:=[]) OkS.nil (by decide) (sm_one (sm_nil _ _ (by decide))) sm_none (by decide) (by decide)
set_option maxRecDepth 100000 in
set_option maxHeartbeats 4000000 in
theorem awake_core (w:World) (hmk:Mk w):Calls Tryz.prog 8 #[] w fun e w' => e = .returned (.bool true) ∧ Below w.heap.size w w':=by
 obtain ⟨Wa,hWa⟩:∃ Wa,Wa = w.alloc (.cells #[.int .i64 2,.string ⟨#[101,120,97,109,112,108,101,46,111,114,103]⟩,.slice none 0 0] 29):=⟨_,rfl⟩
 have hwa:=hWa.symm
 have hba:Below w.heap.size w Wa:=by rw [hWa];exact belowNew w _
 have hga:=glies_one (w:=Wa) (g:=w.heap.size) (k:=2) (t:=exT) (n:=[]) (a:=none) (c:=0) (by rw [hWa];exact heap_alloc_new w _) (Nat.le_refl _) (.inl rfl)
 have HA:=Lib.hid (add_core none (some ⟨w.heap.size,0,none⟩) none 0 0 1 0 1 0 [] [(2,exT,[])] [] Wa (.inl rfl) rfl OkS.nil (by decide) hga (.inl rfl) rfl rfl (by decide) (by decide) (sm_one (sm_nil _ _ (by decide))) sm_none)
 have HMK:=Lib.hid hmk
 have HBA:=Lib.hid hba
 clear hmk hba hga hWa
 go_enter Tryz.func8,Tryz.ntmps8
 go_upto_region 2 with (go_at_call 25;(with_reducible refine HA.out.mono ?_);rintro e w1 ⟨v,rfl,ho,hb⟩;obtain ⟨av,cv,hv,_,_⟩:=ho.lies;rw [show ([] ++ [([((2:Int),exT,([]:Nm))],([]:List Gn))]:List Sub).length = 1 from rfl] at hv;subst hv;have HB1:=Lib.hid (below_next HBA.out hb);have HO1:=Lib.hid ho;clear hb ho)
 clear hwa
 obtain ⟨W2,hW2⟩:∃ W2,W2 = w1.alloc (.cells #[.slice av 1 cv] 55):=⟨_,rfl⟩
 rw [← hW2]
 obtain ⟨g,hg⟩:∃ g,g = w1.heap.size:=⟨_,rfl⟩
 have hb2:Below w1.heap.size w1 W2:=by rw [hW2];exact belowNew w1 _
 have hq2:W2.heap[g]? = some (.cells #[.slice av 1 cv] 55 (0,0)):=by rw [hW2,hg];exact heap_alloc_new w1 _
 rw [← hg]
 obtain ⟨c0,f0,lg2⟩:=one_facts hq2
 have HWG:=Lib.hid (show w.heap.size ≤ g by rw [hg];exact HB1.out.size)
 obtain ⟨Wb,hWb⟩:∃ Wb,Wb = W2.alloc (.cells #[.int .i64 2,.string ⟨#[119,119,119,46,101,120,97,109,112,108,101,46,111,114,103]⟩,.slice none 0 0] 29):=⟨_,rfl⟩
 have hwb:=hWb.symm
 have hbb:Below W2.heap.size W2 Wb:=by rw [hWb];exact belowNew W2 _
 have hgb:=glies_one (w:=Wb) (g:=W2.heap.size) (k:=2) (t:=wwT) (n:=[]) (a:=none) (c:=0) (by rw [hWb];exact heap_alloc_new W2 _) (Nat.le_refl _) (.inl rfl)
 have hsl:SLies Wb av [([((2:Int),exT,([]:Nm))],[])]:=by
  obtain ⟨a',c',e,_,hl⟩:=((HO1.out.below hb2).below hbb).lies
  rw [(slice_inj e).1];exact hl
 have HA2:=Lib.hid (add_core av (some ⟨W2.heap.size,0,none⟩) none cv 1 1 0 1 0 [([((2:Int),exT,([]:Nm))],[])] [(2,wwT,[])] [] Wb hsl rfl awL1_ok (by decide) hgb (.inl rfl) rfl rfl (by decide) (by decide) (sm_one (sm_nil _ _ (by decide))) sm_none)
 have HQ:=Lib.hid ((hbb.block g lg2).trans hq2)
 have HBB:=Lib.hid (below_next (below_next HB1.out hb2) hbb)
 have lgb:g < Wb.heap.size:=Nat.lt_of_lt_of_le lg2 hbb.size
 clear hb2 hq2 hbb hgb hsl hWb hg hW2
 go_upto_region 3 with (go_at_call 25;(with_reducible refine HA2.out.mono ?_);rintro e w3 ⟨v,rfl,ho,hb⟩;obtain ⟨a3,c3,hv,_,_⟩:=ho.lies;rw [show ([([((2:Int),exT,([]:Nm))],([]:List Gn))] ++ [([((2:Int),wwT,([]:Nm))],([]:List Gn))]:List Sub).length = 2 from rfl] at hv;subst hv;have hq3:=(hb.block g lgb).trans HQ.out;obtain ⟨d0,d1,d2⟩:=one_facts hq3;have HQ3:=Lib.hid hq3;have HB3:=Lib.hid (below_next HBB.out hb);have HO3:=Lib.hid ho;clear hb ho hq3)
 clear hwb c0 f0
 obtain ⟨W4,hW4⟩:∃ W4,W4 = w3.setCell ⟨g,0,none⟩ (.slice a3 2 c3):=⟨_,rfl⟩
 rw [← hW4]
 have hq4:W4.heap[g]? = some (.cells #[.slice a3 2 c3] 55 (0,0)):=by rw [hW4];exact one_set HQ3.out
 have HB4:=Lib.hid (show Below w.heap.size w W4 by rw [hW4];exact below_set HB3.out HWG.out)
 have hs4:SLies W4 a3 awL:=by
  obtain ⟨a',c',e,_,hl⟩:=(HO3.out.apart (w':=W4) HQ3.out (by decide) (by decide) (by decide) (by decide) (by rw [hW4];exact But.set _ _ _ _)).lies
  rw [(slice_inj e).1];exact hl
 obtain ⟨c0,_,lg⟩:=one_facts hq4
 have HC0:=Lib.hid c0
 have HX:=Lib.hid (Below.refl W4.heap.size W4)
 have HP1:=Lib.hid (fun W (hb:Below W4.heap.size W4 W) => permits_core a3 none c3 2 0 0 awL 2 wwT [] W (hs4.below hb) rfl (by decide) (.inl rfl) rfl (Nat.le_refl _) (sm_nil _ _ (by decide)) awL_ok.1 awL_ok.2.2 ((HMK.out.below HB4.out).below hb))
 have HP2:=Lib.hid (fun W (hb:Below W4.heap.size W4 W) => permits_core a3 none c3 2 0 0 awL 2 exT [] W (hs4.below hb) rfl (by decide) (.inl rfl) rfl (Nat.le_refl _) (sm_nil _ _ (by decide)) awL_ok.1 awL_ok.2.2 ((HMK.out.below HB4.out).below hb))
 have HP3:=Lib.hid (fun W (hb:Below W4.heap.size W4 W) => permits_core a3 none c3 2 0 0 awL 1 maT [] W (hs4.below hb) rfl (by decide) (.inl rfl) rfl (Nat.le_refl _) (sm_nil _ _ (by decide)) awL_ok.1 awL_ok.2.2 ((HMK.out.below HB4.out).below hb))
 rw [aw_one,show strOf wwT = ⟨#[119,119,119,46,101,120,97,109,112,108,101,46,111,114,103]⟩ from rfl] at HP1
 rw [aw_two,show strOf exT = ⟨#[101,120,97,109,112,108,101,46,111,114,103]⟩ from rfl] at HP2
 rw [aw_three,show strOf maT = ⟨#[97,64,98]⟩ from rfl] at HP3
 clear hq4 hs4 hW4 d0 d1 d2
 go_wp2_with (first
 |(go_at_call 26;(with_reducible refine (HP1.out _ HX.out).mono ?_);rintro e w5 ⟨rfl,hb9⟩;have HX:=Lib.hid (below_next HX.out hb9);have c0:=(HX.out.cell (p:=⟨g,0,none⟩) lg).trans HC0.out;clear hb9)
 |(go_at_call 26;(with_reducible refine (HP2.out _ HX.out).mono ?_);rintro e w6 ⟨rfl,hb9⟩;have HX:=Lib.hid (below_next HX.out hb9);have c0:=(HX.out.cell (p:=⟨g,0,none⟩) lg).trans HC0.out;clear hb9)
 |(go_at_call 26;(with_reducible refine (HP3.out _ HX.out).mono ?_);rintro e w7 ⟨rfl,hb9⟩;have HX:=Lib.hid (below_next HX.out hb9);have c0:=(HX.out.cell (p:=⟨g,0,none⟩) lg).trans HC0.out;clear hb9))
 go_ret
 exact ⟨rfl,below_next HB4.out HX.out⟩
end Go.Proofs.YtbpdenfiifcfcaaGreatDoor
