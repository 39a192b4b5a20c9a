/-
  The contract of Decode: the name whose encoding bytes are, or the error.
  The contracts of the reference's Open, Need, End and attribute.
  The contract of the reference's attribute: the same as decodeAttribute's.
-/
import Derived.Test.YtbpdenfiifcfcaaGreatDoorLaz
import Derived.Test.YtbpdenfiifcfcaaGreatDoorLah
import Derived.Test.YtbpdenfiifcfcaaGreatDoorLax
import Derived.Test.YtbpdenfiifcfcaaGreatDoorLay
namespace Go.Proofs.YtbpdenfiifcfcaaGreatDoor
open Go.RowKit
theorem oidD_size {c id:ByteArray} (h:oidD c = some id):id.size ≤ 1000:=by
 by_cases hx:∃ a,Dec c.data.toList a
 ·obtain ⟨a,ha⟩:=hx
  rw [oidD_yes ha] at h
  obtain rfl:=Option.some.inj h
  rw [strOf_size]
  obtain ⟨_,h2,h5⟩:=ha.1
  have h5:=h5.1
  have:=txt_len a h5
  omega
 ·rw [oidD_no (fun a k => hx ⟨a,k⟩)] at h;cases h
theorem decL_small {l:List El} {K M:Nat} (hm:∀ e ∈ l,e.2.1.size ≤ K) (h:K ≤ M) (hM:1000 ≤ M):(decL l).2.1.size ≤ M ∧ (decL l).2.2.2.size ≤ M:=by
 have hz:noAt.1.size ≤ M ∧ noAt.2.2.size ≤ M:=⟨Nat.zero_le _,Nat.zero_le _⟩
 cases l with
 |nil => exact hz
 |cons x r =>
  by_cases hx:x.1 = 6
  case neg => simp only [decL];rw [if_pos hx];exact hz
  cases hd:oidD x.2.1 with
  |none => simp only [decL,hd];rw [if_neg (by simpa using hx)];exact hz
  |some id =>
   cases r with
   |nil => simp only [decL,hd];rw [if_neg (by simpa using hx)];exact hz
   |cons y q =>
    simp only [decL,hd]
    rw [if_neg (by simpa using hx)]
    by_cases hs:strTag y.1 = false
    ·rw [if_pos hs];exact hz
    ·rw [if_neg hs]
     by_cases hq:q = []
     ·rw [if_neg (by simpa using hq)]
      exact ⟨Nat.le_trans (oidD_size hd) hM,Nat.le_trans (hm y (List.mem_cons_of_mem _ List.mem_cons_self)) h⟩
     ·rw [if_pos hq];exact hz
theorem decA_small {e:El} {M:Nat} (h:e.2.1.size ≤ M) (hM:1000 ≤ M):(decA e).2.1.size ≤ M ∧ (decA e).2.2.2.size ≤ M:=by
 have hz:noAt.1.size ≤ M ∧ noAt.2.2.size ≤ M:=⟨Nat.zero_le _,Nat.zero_le _⟩
 have hm:=lst_mem _ e.2.1 (Nat.le_refl _)
 unfold decA
 split
 ·exact hz
 ·split
  ·exact hz
  ·exact decL_small hm h hM
theorem decAs_small:∀ {l:List El} {M:Nat},1000 ≤ M → (∀ e ∈ l,e.2.1.size ≤ M) → (decAs l).2.length ≤ l.length ∧ ∀ i,i < (decAs l).2.length → ((decAs l).2.getD i noAt).1.size ≤ M ∧ ((decAs l).2.getD i noAt).2.2.size ≤ M
 |[],M,hM,h => ⟨Nat.le_refl _,fun i hi => absurd hi (Nat.not_lt_zero _)⟩
 |e :: r,M,hM,h => by
  obtain ⟨h1,h2⟩:=decAs_small hM (fun x hx => h x (List.mem_cons_of_mem _ hx))
  unfold decAs
  split
  ·exact ⟨Nat.zero_le _,fun i hi => absurd hi (Nat.not_lt_zero _)⟩
  ·split
   ·exact ⟨Nat.zero_le _,fun i hi => absurd hi (Nat.not_lt_zero _)⟩
   ·refine ⟨by simp;omega,fun i hi => ?_⟩
    cases i with
    |zero => exact decA_small (h e List.mem_cons_self) hM
    |succ i => exact h2 i (by simpa using hi)
theorem decR_small {e:El} {M:Nat} (hM:1000 ≤ M) (h:e.2.1.size ≤ M) (hM2:M ≤ 1000000):SmallR (decR e).2:=by
 have hz:SmallR []:=⟨by simp,fun i hi => absurd hi (Nat.not_lt_zero _)⟩
 have hl:=lst_length e.2.1 _ (Nat.le_refl _)
 have hm:=lst_mem _ e.2.1 (Nat.le_refl _)
 unfold decR
 split
 ·exact hz
 ·split
  ·exact hz
  ·split
   ·exact hz
   ·obtain ⟨h1,h2⟩:=decAs_small hM (fun x hx => Nat.le_trans (hm x hx) h)
    exact ⟨by omega,fun i hi => ⟨Nat.le_trans (h2 i hi).1 hM2,Nat.le_trans (h2 i hi).2 hM2⟩⟩
theorem decRs_small:∀ {l:List El} {M:Nat},1000 ≤ M → M ≤ 1000000 → (∀ e ∈ l,e.2.1.size ≤ M) → (decRs l).2.length ≤ l.length ∧ ∀ i,i < (decRs l).2.length → SmallR ((decRs l).2.getD i [])
 |[],M,hM,hM2,h => ⟨Nat.le_refl _,fun i hi => absurd hi (Nat.not_lt_zero _)⟩
 |e :: r,M,hM,hM2,h => by
  obtain ⟨h1,h2⟩:=decRs_small hM hM2 (fun x hx => h x (List.mem_cons_of_mem _ hx))
  unfold decRs
  split
  ·exact ⟨Nat.zero_le _,fun i hi => absurd hi (Nat.not_lt_zero _)⟩
  ·split
   ·exact ⟨Nat.zero_le _,fun i hi => absurd hi (Nat.not_lt_zero _)⟩
   ·refine ⟨by simp;omega,fun i hi => ?_⟩
    cases i with
    |zero => exact decR_small hM (h e List.mem_cons_self) hM2
    |succ i => exact h2 i (by simpa using hi)
theorem decN0_small {b:ByteArray} (hb:b.size ≤ 1000000):SmallN (decN0 b).2:=by
 have hz:SmallN []:=⟨by simp,fun i hi => absurd hi (Nat.not_lt_zero _)⟩
 unfold decN0
 split
 ·exact hz
 ·rename_i h1
  have hc:=rdContent_size (oneErr_rd (by simpa using h1))
  split
  ·exact hz
  ·split
   ·exact hz
   ·have hl:=lst_length (rdContent b) _ (Nat.le_refl _)
    have hm:=lst_mem _ (rdContent b) (Nat.le_refl _)
    obtain ⟨h2,h3⟩:=decRs_small (M:=1000000) (by omega) (by omega) (fun x hx => Nat.le_trans (hm x hx) (by omega))
    exact ⟨by omega,h3⟩
theorem decN_small {b:ByteArray} (hb:b.size ≤ 1000000):SmallN (decN b).2:=by
 have hz:SmallN []:=⟨by simp,fun i hi => absurd hi (Nat.not_lt_zero _)⟩
 unfold decN
 split
 ·exact hz
 ·split
  ·exact hz
  ·exact decN0_small hb
set_option maxRecDepth 100000 in
set_option maxHeartbeats 4000000 in
theorem decode_nm (x:ByteArray) (w:World) (hx:x.size ≤ 1000000) (hT:Tab w) (hP:Pow10 w) :
  Calls Tryz.prog 161 #[.string x] w fun e w' => ∃ v,e = .returned (.tuple #[v,.int .i64 (((decN x).1:Nat):Int)]) ∧ OwnV w' w.heap.size v (decN x).2 ∧ Below w.heap.size w w':=by
 obtain ⟨W0,hW0⟩:∃ W0,W0 = w.alloc (.cells #[.slice none 0 0] 27):=⟨_,rfl⟩
 have hwr:w.alloc (.cells #[.slice none 0 0] 27) = W0:=hW0.symm
 have hb0:Below w.heap.size w W0:=by rw [hW0];exact belowNew w _
 have hq0:W0.heap[w.heap.size]? = some (.cells #[.slice none 0 0] 27 (0,0)):=by rw [hW0];exact heap_alloc_new w _
 have hz:W0.heap.size = w.heap.size + 1:=by rw [hW0];simp
 have HB0:=Lib.hid hb0
 have HQ0:=Lib.hid hq0
 have HZ:=Lib.hid hz
 have HT:=Lib.hid (hT.below hb0)
 have HPP:=Lib.hid (decnm0_any x W0 (by omega) (hP.below hb0))
 have HSM:=Lib.hid (decN0_small hx)
 obtain ⟨E,V,hEV⟩:∃ E V,decN x = (E,V):=⟨_,_,rfl⟩
 have HRES:=Lib.hid (show (E,V) = if (decN0 x).1 ≠ 0 then ((decN0 x).1,[]) else if chkN (decN0 x).2 ≠ 0 then (chkN (decN0 x).2,[]) else (0,(decN0 x).2) from hEV.symm)
 rw [hEV]
 generalize decN0 x = r at HPP HSM HRES
 obtain ⟨er,n⟩:=r
 simp only at HPP HSM HRES
 clear hEV hb0 hq0 hz hT hP hW0
 by_cases hz0:er = 0
 case neg =>
  obtain ⟨rfl,rfl⟩:E = er ∧ V = []:=by have:=HRES.out;rw [if_pos hz0] at this;simpa using this
  have hz1:=errno_ne hz0
  have hz2:((E:Int) == 0) = false:=by simp;omega
  clear hz0
  go_enter Tryz.func161,Tryz.ntmps161
  go_wp2_with (go_at_call 187;(with_reducible refine HPP.out.mono ?_);rintro e w1 ⟨v,rfl,ho,hb1⟩;obtain ⟨s,rfl,hs⟩:=ho;obtain ⟨av,cv,rfl,_,_⟩:=hs.lies;have hq:=(hb1.block _ (one_facts HQ0.out).2.2).trans HQ0.out;have HQ:=Lib.hid hq;obtain ⟨r0,g0,hlt0⟩:=one_facts hq;have HB1:=Lib.hid (below_next HB0.out hb1);clear hb1 hq hs)
  exact bodyPost_ret (nmRes rfl _ _ w _ rfl (((belowNew _ _).block _ (Array.getElem?_eq_some_iff.1 (one_set HQ.out)).1).trans (one_set HQ.out))) rfl ⟨_,rfl,⟨_,rfl,OwnN.nil _ _⟩,below_next (HB1.out.setCell (p:=⟨w.heap.size,0,none⟩) (Nat.le_refl _) _) (belowNew _ _)⟩
 subst hz0
 have HCK:=Lib.hid (fun (av:Option Addr) (cv:Nat) W (h:RLies W av n) (hT:Tab W) => chk_core av cv n.length n W h rfl HSM.out hT)
 obtain ⟨C,hC⟩:∃ C,C = chkN n:=⟨_,rfl⟩
 have HRE:=Lib.hid (show (E,V) = if C ≠ 0 then (C,[]) else (0,n) by have:=HRES.out;rw [if_neg (by simp),← hC] at this;exact this)
 rw [← hC] at HCK
 clear HRES hC
 have hee:(((0:Nat):Int) == 0) = true:=rfl
 by_cases hz0:C = 0
 ·obtain ⟨rfl,rfl⟩:E = 0 ∧ V = n:=by have:=HRE.out;rw [if_neg (by simpa using hz0)] at this;simpa using this
  subst hz0
  go_enter Tryz.func161,Tryz.ntmps161
  go_wp2_with (first
   |(go_at_call 187;(with_reducible refine HPP.out.mono ?_);rintro e w1 ⟨v,rfl,ho,hb1⟩;obtain ⟨s,rfl,hs⟩:=ho;obtain ⟨av,cv,rfl,_,hrl⟩:=hs.lies;have HRL:=Lib.hid hrl;have HOW:=Lib.hid hs;have hq:=(hb1.block _ (one_facts HQ0.out).2.2).trans HQ0.out;have HQ:=Lib.hid hq;have HB1:=Lib.hid (below_next HB0.out hb1);have HTB:=Lib.hid (HT.out.below hb1);clear hb1 hq hs hrl)
   |(go_at_call 85;(with_reducible refine (HCK.out _ _ _ (HRL.out.below (belowNew w1 _)) (HTB.out.below (belowNew w1 _))).mono ?_);rintro e w2 ⟨rfl,hb2⟩;have hq:=((below_next (belowNew w1 _) hb2).block _ (one_facts HQ.out).2.2).trans HQ.out;have HQ2:=Lib.hid hq;obtain ⟨r0,g0,hlt0⟩:=one_facts hq;have hq1:=(hb2.block _ (by simp)).trans (heap_alloc_new w1 _);obtain ⟨m0,n0,hlt1⟩:=one_facts hq1;have HB2:=Lib.hid (below_next (belowNew w1 _) hb2);clear hb2 hq hq1))
  exact bodyPost_ret (nmRes rfl _ _ w _ rfl (one_set HQ2.out)) rfl ⟨_,rfl,⟨_,rfl,((HOW.out.below HB2.out).but (p:=w.heap.size) (But.set _ _ _ _) (by have:=HZ.out;omega)).base (by have:=HZ.out;omega)⟩,(below_next HB1.out HB2.out).setCell (p:=⟨w.heap.size,0,none⟩) (Nat.le_refl _) _⟩
 ·obtain ⟨rfl,rfl⟩:E = C ∧ V = []:=by have:=HRE.out;rw [if_pos hz0] at this;simpa using this
  have hz1:=errno_ne hz0
  clear hz0
  go_enter Tryz.func161,Tryz.ntmps161
  go_wp2_with (first
   |(go_at_call 187;(with_reducible refine HPP.out.mono ?_);rintro e w1 ⟨v,rfl,ho,hb1⟩;obtain ⟨s,rfl,hs⟩:=ho;obtain ⟨av,cv,rfl,_,hrl⟩:=hs.lies;have HRL:=Lib.hid hrl;have hq:=(hb1.block _ (one_facts HQ0.out).2.2).trans HQ0.out;have HQ:=Lib.hid hq;have HB1:=Lib.hid (below_next HB0.out hb1);have HTB:=Lib.hid (HT.out.below hb1);clear hb1 hq hs hrl)
   |(go_at_call 85;(with_reducible refine (HCK.out _ _ _ (HRL.out.below (belowNew w1 _)) (HTB.out.below (belowNew w1 _))).mono ?_);rintro e w2 ⟨rfl,hb2⟩;have hq:=((below_next (belowNew w1 _) hb2).block _ (one_facts HQ.out).2.2).trans HQ.out;have HQ2:=Lib.hid hq;obtain ⟨r0,g0,hlt0⟩:=one_facts hq;have HB2:=Lib.hid (below_next (belowNew w1 _) hb2);clear hb2 hq))
  exact bodyPost_ret (nmRes rfl _ _ w _ rfl (one_set HQ2.out)) rfl ⟨_,rfl,⟨_,rfl,OwnN.nil _ _⟩,(below_next HB1.out HB2.out).setCell (p:=⟨w.heap.size,0,none⟩) (Nat.le_refl _) _⟩
theorem fiRes {fn:Func} {p u:Tmp} (h:fn.results = #[.cell p 75,.tmp u]) (tmps:Array Value) (w:World) (g:Nat) (x y:Value)
  (hp:tmps.getD p undef = .pointer (some ⟨g,0,none⟩)) (hg:w.heap[g]? = some (.cells #[x,y] 75 (0,0))) :
  (results fn tmps).run Tryz.prog w = .ok (.tuple #[.agg #[x,y],tmps.getD u undef]) w :=
 results_cell_row2 h tmps w g 75 #[x,y] (0,0) _ hp hg Tryz.underlying75 rfl (by kernel_rfl)
theorem fi_facts {w:World} {g:Nat} {x y:Value} {t:TypeId} (h:w.heap[g]? = some (.cells #[x,y] t (0,0))) :
  w.cell? ⟨g,0,none⟩ = some x ∧ w.cell? ⟨g,1,none⟩ = some y ∧ w.frozen? ⟨g,0,none⟩ = false ∧ w.frozen? ⟨g,1,none⟩ = false ∧ g < w.heap.size:=by
 refine ⟨?_,?_,Lib.frozen_of_heap h 0,Lib.frozen_of_heap h 1,(Array.getElem?_eq_some_iff.1 h).1⟩
 ·rw [Lib.cell_of_heap h];rfl
 ·rw [Lib.cell_of_heap h];rfl
theorem fi_set {w:World} {g:Nat} {x y a b:Value} {t:TypeId} (h:w.heap[g]? = some (.cells #[x,y] t (0,0))) :
  ((w.setCell ⟨g,0,none⟩ a).setCell ⟨g,1,none⟩ b).heap[g]? = some (.cells #[a,b] t (0,0)):=by
 simp [World.setCell,Array.getElem?_modify,h]
theorem fi_set1 {w:World} {g:Nat} {x y b:Value} {t:TypeId} (h:w.heap[g]? = some (.cells #[x,y] t (0,0))):(w.setCell ⟨g,1,none⟩ b).heap[g]? = some (.cells #[x,b] t (0,0)):=by
 simp [World.setCell,Array.getElem?_modify,h]
/-- What Open answers. -/
def opnE (x:El) (T:Nat):Nat:=if x.1 ≠ T then 5 else (lst x.2.1).2
def opnL (x:El) (T:Nat):List El:=if x.1 ≠ T then [] else (lst x.2.1).1
set_option maxRecDepth 100000 in
set_option maxHeartbeats 2000000 in
theorem ropen_any (x:El) (T:Nat) (w:World) (hx:x.2.1.size ≤ 1099511627776) :
  Calls Tryz.prog 39 #[elV x.1 x.2.1 x.2.2,.int .i64 (T:Int)] w fun e w' => (∃ v,e = .returned (.tuple #[.agg #[v,.int .i64 0],.int .i64 ((opnE x T:Nat):Int)]) ∧ OwnE w' w.heap.size v (opnL x T)) ∧ Below w.heap.size w w':=by
 obtain ⟨t,ct,rw0⟩:=x
 unfold elV opnE opnL
 simp only at hx ⊢
 obtain ⟨W0,hW0⟩:∃ W0,W0 = (w.alloc (.cells #[.int .i64 ((t:Nat):Int),.string ct,.string rw0] 67)).alloc (.cells #[.slice none 0 0,.int .i64 0] 75):=⟨_,rfl⟩
 have hwe:=hW0.symm
 have hb0:Below w.heap.size w W0:=by rw [hW0];exact belowTwo w _ _
 have q0:W0.heap[w.heap.size]? = some (.cells #[.int .i64 ((t:Nat):Int),.string ct,.string rw0] 67 (0,0)):=by
  rw [hW0];exact ((belowNew _ _).block _ (by simp)).trans (heap_alloc_new w _)
 have q1:W0.heap[w.heap.size + 1]? = some (.cells #[.slice none 0 0,.int .i64 0] 75 (0,0)):=by
  have:=heap_alloc_new (w.alloc (.cells #[.int .i64 ((t:Nat):Int),.string ct,.string rw0] 67)) (.cells #[.slice none 0 0,.int .i64 0] 75)
  rw [← hW0] at this
  simpa using this
 obtain ⟨e0,e1,e2,_,_,_,el⟩:=at_facts q0
 obtain ⟨r0,r1,g0,g1,rl⟩:=fi_facts q1
 have HB0:=Lib.hid hb0
 have HQ1:=Lib.hid q1
 have hz0:W0.heap.size = w.heap.size + 2:=by rw [hW0];simp
 clear hW0 hb0 q0 q1
 by_cases ht:t = T
 case neg =>
  have hd:((t:Int) != (T:Int)) = true:=by simp;omega
  rw [if_pos ht,if_pos ht]
  clear ht
  go_enter Tryz.func39,Tryz.ntmps39
  go_wp2_with fail
  exact bodyPost_ret (fiRes rfl _ _ _ _ _ rfl (fi_set HQ1.out)) rfl ⟨⟨_,rfl,World.ownsRow_nil _ _ _ _⟩,(HB0.out.setCell (p:=⟨w.heap.size + 1,0,none⟩) (Nat.le_succ _) _).setCell (p:=⟨w.heap.size + 1,1,none⟩) (Nat.le_succ _) _⟩
 have hd:((t:Int) != (T:Int)) = false:=by rw [ht];simp
 rw [if_neg (by simpa using ht),if_neg (by simpa using ht)]
 have HLS:=Lib.hid (rlist_any ct W0 hx)
 generalize lst ct = LE at HLS ⊢
 obtain ⟨l,er⟩:=LE
 simp only at HLS ⊢
 clear ht
 go_enter Tryz.func39,Tryz.ntmps39
 go_wp2_with (go_at_call 36;(with_reducible refine HLS.out.mono ?_);rintro e w1 ⟨v1,rfl,ho1,hb1⟩;obtain ⟨a,c,rfl,_,_,_⟩:=ElAt.of ho1;have hqr:=(hb1.block (w.heap.size + 1) rl).trans HQ1.out;have HQR:=Lib.hid hqr;have HO:=Lib.hid ho1;have HB1:=Lib.hid (below_next HB0.out hb1);obtain ⟨s0,s1,f0,f1,sl⟩:=fi_facts hqr;clear hb1 hqr ho1)
 refine bodyPost_ret (fiRes rfl _ _ _ _ _ rfl (fi_set HQR.out)) rfl ⟨⟨_,rfl,?_⟩,(HB1.out.setCell (p:=⟨w.heap.size + 1,0,none⟩) (Nat.le_succ _) _).setCell (p:=⟨w.heap.size + 1,1,none⟩) (Nat.le_succ _) _⟩
 have h1:=own_but HO.out (But.set (w.heap.size + 1) 0 w1 (.slice a l.length c)) (by omega)
 have h2:=own_but h1 (But.set (w.heap.size + 1) 1 _ (.int .i64 0)) (by omega)
 exact own_base h2 (by omega)
set_option maxRecDepth 100000 in
set_option maxHeartbeats 2000000 in
theorem rneed_trunc (gf n c k:Nat) (a:Option Addr) (T:Int) (w:World) (h:w.heap[gf]? = some (.cells #[.slice a n c,.int .i64 (k:Int)] 75 (0,0))) (hk:n ≤ k) :
  Calls Tryz.prog 67 #[.pointer (some ⟨gf,0,none⟩),.int .i64 T] w fun e w' => e = .returned (.tuple #[noEl,.int .i64 3]) ∧ Below w.heap.size w w':=by
 obtain ⟨c0,c1,f0,f1,l0⟩:=fi_facts h
 obtain ⟨W0,hW0⟩:∃ W0,W0 = w.alloc (.cells #[.int .i64 0,.string ⟨#[]⟩,.string ⟨#[]⟩] 67):=⟨_,rfl⟩
 have hwe:=hW0.symm
 have hb:Below w.heap.size w W0:=by rw [hW0];exact belowNew w _
 have q0:W0.heap[w.heap.size]? = some (.cells #[.int .i64 0,.string ⟨#[]⟩,.string ⟨#[]⟩] 67 (0,0)):=by rw [hW0];exact heap_alloc_new w _
 obtain ⟨r0,r1,r2,g0,g1,g2,rl⟩:=at_facts q0
 have d0:=(hb.cell (p:=⟨gf,0,none⟩) l0).trans c0
 have d1:=(hb.cell (p:=⟨gf,1,none⟩) l0).trans c1
 have hd:decide ((n:Int) ≤ (k:Int)) = true:=by simp;omega
 have hd2:decide (n ≤ k) = true:=by simp;omega
 have HB:=Lib.hid hb
 have HQ:=Lib.hid q0
 clear h hW0 hb q0 c0 c1 f0 f1 hk
 go_enter Tryz.func67,Tryz.ntmps67
 go_wp2_with fail
 go_region
 go_wp2_with fail
 have hq:W0.drew.heap[w.heap.size]? = _:=HQ.out
 exact bodyPost_ret (elRes0 rfl _ _ _ _ _ _ rfl (at_set hq)) rfl ⟨rfl,at_below HB.out.drew (Nat.le_refl _)⟩
set_option maxRecDepth 100000 in
set_option maxHeartbeats 2000000 in
theorem rneed_tag (gf b o n c k T:Nat) (x:El) (w:World) (h:w.heap[gf]? = some (.cells #[.slice (some ⟨b,o,none⟩) n c,.int .i64 (k:Int)] 75 (0,0))) (hk:k < n)
  (x0:w.cell? ⟨b,o + k * 3,none⟩ = some (.int .i64 ((x.1:Nat):Int))) (x1:w.cell? ⟨b,o + k * 3 + 1,none⟩ = some (.string x.2.1)) (x2:w.cell? ⟨b,o + k * 3 + 2,none⟩ = some (.string x.2.2)) (hT:x.1 ≠ T) :
  Calls Tryz.prog 67 #[.pointer (some ⟨gf,0,none⟩),.int .i64 (T:Int)] w fun e w' => e = .returned (.tuple #[noEl,.int .i64 5]) ∧ Below w.heap.size w w':=by
 obtain ⟨c0,c1,f0,f1,l0⟩:=fi_facts h
 obtain ⟨W0,hW0⟩:∃ W0,W0 = w.alloc (.cells #[.int .i64 0,.string ⟨#[]⟩,.string ⟨#[]⟩] 67):=⟨_,rfl⟩
 have hwe:=hW0.symm
 have hb:Below w.heap.size w W0:=by rw [hW0];exact belowNew w _
 have q0:W0.heap[w.heap.size]? = some (.cells #[.int .i64 0,.string ⟨#[]⟩,.string ⟨#[]⟩] 67 (0,0)):=by rw [hW0];exact heap_alloc_new w _
 obtain ⟨r0,r1,r2,g0,g1,g2,rl⟩:=at_facts q0
 have d0:=(hb.cell (p:=⟨gf,0,none⟩) l0).trans c0
 have d1:=(hb.cell (p:=⟨gf,1,none⟩) l0).trans c1
 have y0:=(hb.cell (p:=⟨b,o + k * 3,none⟩) (block_lt x0)).trans x0
 have y1:=(hb.cell (p:=⟨b,o + k * 3 + 1,none⟩) (block_lt x0)).trans x1
 have y2:=(hb.cell (p:=⟨b,o + k * 3 + 2,none⟩) (block_lt x0)).trans x2
 have bz:=belowNew W0 (.cells #[.int .i64 0,.string ⟨#[]⟩,.string ⟨#[]⟩] 67)
 have m0:=(bz.cell (p:=⟨gf,0,none⟩) (block_lt d0)).trans d0
 have m1:=(bz.cell (p:=⟨gf,1,none⟩) (block_lt d0)).trans d1
 have n0:=(bz.cell (p:=⟨b,o + k * 3,none⟩) (block_lt y0)).trans y0
 have n1:=(bz.cell (p:=⟨b,o + k * 3 + 1,none⟩) (block_lt y0)).trans y1
 have n2:=(bz.cell (p:=⟨b,o + k * 3 + 2,none⟩) (block_lt y0)).trans y2
 clear bz
 obtain ⟨xt,xc,xr⟩:=x
 simp only at y0 y1 y2 n0 n1 n2 hT
 have hd:decide ((n:Int) ≤ (k:Int)) = false:=by simp;omega
 have hd2:decide (n ≤ k) = false:=by simp;omega
 have hki:(k:Int) < (n:Int):=by omega
 have hT0:decide ((0:Int) ≤ (T:Int)) = true:=by simp
 have hTx:((xt:Int) != (T:Int)) = true:=by simp;omega
 have HB:=Lib.hid hb
 have HQ:=Lib.hid q0
 clear h hW0 hb q0 c0 c1 f0 f1 x0 x1 x2 hT
 go_enter Tryz.func67,Tryz.ntmps67
 go_wp2_with fail
 go_region
 go_wp2_with fail
 go_region
 go_wp2_with fail
 have hS:=at_set (a:=.int .i64 0) (b:=.string ⟨#[]⟩) (c:=.string ⟨#[]⟩) HQ.out
 have hq:=((belowNew _ (.cells #[.int .i64 ((xt:Nat):Int),.string xc,.string xr] 67)).block w.heap.size (Array.getElem?_eq_some_iff.1 hS).1).trans hS
 exact bodyPost_ret (elRes0 rfl _ _ _ _ _ _ rfl hq) rfl ⟨rfl,(below_next (at_below HB.out (Nat.le_refl _)) (belowNew _ _)).drew.drew⟩
set_option maxRecDepth 100000 in
set_option maxHeartbeats 2000000 in
theorem rneed_ok (gf b o n c k:Nat) (T:Int) (x:El) (w:World) (h:w.heap[gf]? = some (.cells #[.slice (some ⟨b,o,none⟩) n c,.int .i64 (k:Int)] 75 (0,0))) (hk:k < n)
  (x0:w.cell? ⟨b,o + k * 3,none⟩ = some (.int .i64 ((x.1:Nat):Int))) (x1:w.cell? ⟨b,o + k * 3 + 1,none⟩ = some (.string x.2.1)) (x2:w.cell? ⟨b,o + k * 3 + 2,none⟩ = some (.string x.2.2)) (hT:T = -1 ∨ (0 ≤ T ∧ (x.1:Int) = T)) (hkz:k ≤ 1000000) :
  Calls Tryz.prog 67 #[.pointer (some ⟨gf,0,none⟩),.int .i64 T] w fun e w' => e = .returned (.tuple #[elV x.1 x.2.1 x.2.2,.int .i64 0]) ∧ w'.heap[gf]? = some (.cells #[.slice (some ⟨b,o,none⟩) n c,.int .i64 ((k:Int) + 1)] 75 (0,0)) ∧ But gf w w':=by
 obtain ⟨c0,c1,f0,f1,l0⟩:=fi_facts h
 obtain ⟨W0,hW0⟩:∃ W0,W0 = w.alloc (.cells #[.int .i64 0,.string ⟨#[]⟩,.string ⟨#[]⟩] 67):=⟨_,rfl⟩
 have hwe:=hW0.symm
 have hb:Below w.heap.size w W0:=by rw [hW0];exact belowNew w _
 have q0:W0.heap[w.heap.size]? = some (.cells #[.int .i64 0,.string ⟨#[]⟩,.string ⟨#[]⟩] 67 (0,0)):=by rw [hW0];exact heap_alloc_new w _
 obtain ⟨r0,r1,r2,g0,g1,g2,rl⟩:=at_facts q0
 have d0:=(hb.cell (p:=⟨gf,0,none⟩) l0).trans c0
 have d1:=(hb.cell (p:=⟨gf,1,none⟩) l0).trans c1
 have y0:=(hb.cell (p:=⟨b,o + k * 3,none⟩) (block_lt x0)).trans x0
 have y1:=(hb.cell (p:=⟨b,o + k * 3 + 1,none⟩) (block_lt x0)).trans x1
 have y2:=(hb.cell (p:=⟨b,o + k * 3 + 2,none⟩) (block_lt x0)).trans x2
 have bz:=belowNew W0 (.cells #[.int .i64 0,.string ⟨#[]⟩,.string ⟨#[]⟩] 67)
 have m0:=(bz.cell (p:=⟨gf,0,none⟩) (block_lt d0)).trans d0
 have m1:=(bz.cell (p:=⟨gf,1,none⟩) (block_lt d0)).trans d1
 have n0:=(bz.cell (p:=⟨b,o + k * 3,none⟩) (block_lt y0)).trans y0
 have n1:=(bz.cell (p:=⟨b,o + k * 3 + 1,none⟩) (block_lt y0)).trans y1
 have n2:=(bz.cell (p:=⟨b,o + k * 3 + 2,none⟩) (block_lt y0)).trans y2
 clear bz
 obtain ⟨xt,xc,xr⟩:=x
 simp only at y0 y1 y2 n0 n1 n2 hT
 have hd:decide ((n:Int) ≤ (k:Int)) = false:=by simp;omega
 have hd2:decide (n ≤ k) = false:=by simp;omega
 have hki:(k:Int) < (n:Int):=by omega
 have hk1:IntKind.i64.wrap ((k:Int) + 1) = (k:Int) + 1:=by rw [wrap_i64];omega
 have hg1:¬ gf = w.heap.size:=by omega
 have hg2:¬ w.heap.size = gf:=by omega
 have hlt0:gf < W0.heap.size:=block_lt d0
 have hg3:¬ gf = W0.heap.size:=by omega
 have hg4:¬ W0.heap.size = gf:=by omega
 have hg5:¬ w.heap.size = W0.heap.size:=by omega
 have hg6:¬ W0.heap.size = w.heap.size:=by omega
 have HH:=Lib.hid ((hb.block gf l0).trans h)
 have HB:=Lib.hid hb
 have HQ:=Lib.hid q0
 have HFZ:=Lib.hid (fi_facts ((hb.block gf l0).trans h))
 obtain ⟨_,_,p0,p1,_⟩:=HFZ.out
 have bz:=belowNew W0 (.cells #[.int .i64 ((xt:Nat):Int),.string xc,.string xr] 67)
 have HBZ:=Lib.hid bz
 obtain ⟨v0,v1,v2,_,_,_,vl⟩:=at_facts (heap_alloc_new W0 (.cells #[.int .i64 ((xt:Nat):Int),.string xc,.string xr] 67))
 have hqz:=(bz.block w.heap.size rl).trans q0
 have hhz:=(bz.block gf hlt0).trans ((hb.block gf l0).trans h)
 obtain ⟨s0,s1,s2,sf0,sf1,sf2,sl⟩:=at_facts hqz
 obtain ⟨t0,t1,tf0,tf1,tl⟩:=fi_facts hhz
 have HQZ:=Lib.hid hqz
 have HHZ:=Lib.hid hhz
 clear h hW0 hb q0 c0 c1 f0 f1 x0 x1 x2 bz hqz hhz
 have HT:=Lib.hid hT
 clear hT
 have hor:(T = -1 ∧ decide ((0:Int) ≤ T) = false) ∨ (decide ((0:Int) ≤ T) = true ∧ ((xt:Int) != T) = false):=by
  rcases HT.out with h | ⟨h1,h2⟩
  ·exact .inl ⟨h,by rw [h];rfl⟩
  ·exact .inr ⟨by simpa using h1,by rw [h2];simp⟩
 go_enter Tryz.func67,Tryz.ntmps67
 go_wp2_with fail
 go_region
 go_wp2_with fail
 go_region
 rcases hor with ⟨hT1,hT0⟩ | ⟨hT0,hTx⟩
 all_goals go_wp2_with fail
 all_goals
  have hA:=((But.set gf 1 W0 (.int .i64 ((k:Int) + 1))).block w.heap.size rl (by simp;omega)).trans HQ.out
  have hS:=at_set (a:=.int .i64 ((xt:Nat):Int)) (b:=.string xc) (c:=.string xr) hA
  have hG:=el_other (g:=w.heap.size) (a:=.int .i64 ((xt:Nat):Int)) (b:=.string xc) (c:=.string xr) (fi_set1 (b:=.int .i64 ((k:Int) + 1)) HH.out) hg2
  have hU:=((((But.of HB.out).next (But.set gf 1 W0 (.int .i64 ((k:Int) + 1)))).fresh (But.set w.heap.size 0 _ (.int .i64 ((xt:Nat):Int))) (Nat.le_refl _)).fresh (But.set w.heap.size 1 _ (.string xc)) (Nat.le_refl _)).fresh (But.set w.heap.size 2 _ (.string xr)) (Nat.le_refl _)
  exact bodyPost_ret (elRes0 rfl _ _ _ _ _ _ rfl (((belowNew _ _).block _ (Array.getElem?_eq_some_iff.1 hS).1).trans hS)) rfl ⟨rfl,((belowNew _ _).block _ (Array.getElem?_eq_some_iff.1 hG).1).trans hG,(hU.alloc _).drew.drew⟩
set_option maxRecDepth 100000 in
set_option maxHeartbeats 2000000 in
theorem rend_any (gf n c k:Nat) (a:Option Addr) (w:World) (h:w.heap[gf]? = some (.cells #[.slice a n c,.int .i64 (k:Int)] 75 (0,0))) :
  Calls Tryz.prog 42 #[.pointer (some ⟨gf,0,none⟩)] w fun e w' => e = .returned (.int .i64 (if k < n then 4 else 0)) ∧ Below w.heap.size w w':=by
 obtain ⟨c0,c1,f0,f1,l0⟩:=fi_facts h
 clear h f0 f1
 by_cases hk:k < n
 ·have hd:decide ((k:Int) < (n:Int)) = true:=by simp;omega
  have hd2:decide (k < n) = true:=by simp;omega
  rw [if_pos hk]
  clear hk
  go_enter Tryz.func42,Tryz.ntmps42
  go_wp2_with fail
  go_region
  go_wp2_with fail
  go_ret
  exact ⟨rfl,(Below.refl _ _).drew⟩
 ·have hd:decide ((k:Int) < (n:Int)) = false:=by simp;omega
  have hd2:decide (k < n) = false:=by simp;omega
  rw [if_neg hk]
  clear hk
  go_enter Tryz.func42,Tryz.ntmps42
  go_wp2_with fail
  go_region
  go_wp2_with fail
  go_ret
  exact ⟨rfl,(Below.refl _ _).drew⟩
theorem opn_decA (x:El):decA x = if opnE x 48 ≠ 0 then (opnE x 48,noAt) else decL (opnL x 48):=by
 unfold decA opnE opnL
 by_cases h:x.1 = 48
 ·simp [h]
 ·simp [h]
theorem opn_mem (x:El) (T:Nat):∀ z ∈ opnL x T,z.2.1.size ≤ x.2.1.size:=by
 intro z hz
 unfold opnL at hz
 split at hz
 ·cases hz
 ·exact lst_mem _ _ (Nat.le_refl _) z hz
theorem opn_len (x:El) (T:Nat):(opnL x T).length ≤ x.2.1.size:=by
 unfold opnL
 split
 ·exact Nat.zero_le _
 ·exact lst_length _ _ (Nat.le_refl _)
set_option maxRecDepth 100000 in
set_option maxHeartbeats 8000000 in
theorem rdeca_any (x:El) (w:World) (hx:x.2.1.size ≤ 1099511627) :
  Calls Tryz.prog 117 #[elV x.1 x.2.1 x.2.2] w fun e w' => e = .returned (.tuple #[atV (decA x).2,.int .i64 (((decA x).1:Nat):Int)]) ∧ Below w.heap.size w w':=by
 have HOP:=Lib.hid (fun W => ropen_any x 48 W (Nat.le_trans hx (by omega)))
 have HMEM:=Lib.hid (fun z (hz:z ∈ opnL x 48) => Nat.le_trans (opn_mem x 48 z hz) hx)
 have hlen:=opn_len x 48
 obtain ⟨E,A,hEA⟩:∃ E A,decA x = (E,A):=⟨_,_,rfl⟩
 rw [hEA]
 have HRES:=Lib.hid (show (E,A) = if opnE x 48 ≠ 0 then (opnE x 48,noAt) else decL (opnL x 48) by rw [← hEA];exact opn_decA x)
 generalize opnE x 48 = er at HOP HRES
 generalize opnL x 48 = l at HOP HRES HMEM hlen
 obtain ⟨t,ct,rw0⟩:=x
 unfold elV at HOP ⊢
 simp only at hx hlen HOP ⊢
 obtain ⟨W0,hW0⟩:∃ W0,W0 = ((w.alloc (.cells #[.int .i64 ((t:Nat):Int),.string ct,.string rw0] 67)).alloc (.cells #[.string ⟨#[]⟩,.int .i64 0,.string ⟨#[]⟩] 86)).alloc (.cells #[.string ⟨#[]⟩,.int .i64 0,.string ⟨#[]⟩] 86):=⟨_,rfl⟩
 have HWE:=Lib.hid hW0.symm
 have hb0:Below w.heap.size w W0:=by rw [hW0];exact below_next (belowTwo w _ _) (belowNew _ _)
 have q0:W0.heap[w.heap.size]? = some (.cells #[.int .i64 ((t:Nat):Int),.string ct,.string rw0] 67 (0,0)):=by
  rw [hW0];exact ((belowNew _ _).block _ (by simp <;> omega)).trans (((belowNew _ _).block _ (by simp)).trans (heap_alloc_new w _))
 have q1:W0.heap[w.heap.size + 1]? = some (.cells #[.string ⟨#[]⟩,.int .i64 0,.string ⟨#[]⟩] 86 (0,0)):=by
  have:=heap_alloc_new (w.alloc (.cells #[.int .i64 ((t:Nat):Int),.string ct,.string rw0] 67)) (.cells #[.string ⟨#[]⟩,.int .i64 0,.string ⟨#[]⟩] 86)
  rw [hW0]
  refine ((belowNew _ _).block _ (by simp)).trans ?_
  simpa using this
 have q2:W0.heap[w.heap.size + 1 + 1]? = some (.cells #[.string ⟨#[]⟩,.int .i64 0,.string ⟨#[]⟩] 86 (0,0)):=by
  have:=heap_alloc_new ((w.alloc (.cells #[.int .i64 ((t:Nat):Int),.string ct,.string rw0] 67)).alloc (.cells #[.string ⟨#[]⟩,.int .i64 0,.string ⟨#[]⟩] 86)) (.cells #[.string ⟨#[]⟩,.int .i64 0,.string ⟨#[]⟩] 86)
  rw [← hW0] at this
  simpa using this
 obtain ⟨e0,e1,e2,_,_,_,el⟩:=at_facts q0
 have HB0:=Lib.hid hb0
 have HQ1:=Lib.hid q1
 have HQ2:=Lib.hid q2
 have hz0:W0.heap.size = w.heap.size + 3:=by rw [hW0];simp
 clear hW0 hb0 q0 q1 q2 hEA
 go_enter Tryz.func117,Tryz.ntmps117
 go_wp2_with fail
 rw [HWE.out]
 refine (HOP.out W0).mono ?_
 rintro e w1 ⟨⟨v1,rfl,ho1⟩,hb1⟩
 obtain ⟨a,c,rfl,hlc,hel,hbk⟩:=ElAt.of ho1
 have HEL1:=Lib.hid hel
 have HBK:=Lib.hid hbk
 obtain ⟨n,hn⟩:∃ n,n = l.length:=⟨_,rfl⟩
 rw [← hn] at hlc hlen ⊢
 have HN:=Lib.hid hn
 have hnz:n ≤ 1099511627:=by omega
 obtain ⟨gl,hgl⟩:∃ gl,gl = w1.heap.size:=⟨_,rfl⟩
 obtain ⟨V1,hV1⟩:∃ V1,V1 = w1.alloc (.cells #[.slice a n c,.int .i64 0] 75):=⟨_,rfl⟩
 have hbV:Below gl w1 V1:=by rw [hV1,hgl];exact belowNew w1 _
 have qg:V1.heap[gl]? = some (.cells #[.slice a n c,.int .i64 ((0:Nat):Int)] 75 (0,0)):=by rw [hV1,hgl];exact heap_alloc_new w1 _
 have hw03:w.heap.size + 3 ≤ gl:=by rw [hgl,← hz0];exact hb1.size
 have HRV:=Lib.hid ((hbV.block (w.heap.size + 1) (by omega)).trans ((hb1.block (w.heap.size + 1) (by omega)).trans HQ1.out))
 have HSV:=Lib.hid ((hbV.block (w.heap.size + 1 + 1) (by omega)).trans ((hb1.block (w.heap.size + 1 + 1) (by omega)).trans HQ2.out))
 have HBV:=Lib.hid (show Below w.heap.size w V1 from (below_next HB0.out hb1).trans (hbV.mono (by omega)))
 have HELV:=Lib.hid (HEL1.out.below (by rw [← hgl];exact hbV))
 have HGL:=Lib.hid hgl
 have HQG:=Lib.hid qg
 have HWE1:=Lib.hid hV1.symm
 obtain ⟨s0,s1,s2,f0,f1,f2,sl⟩:=at_facts HRV.out
 obtain ⟨z0,z1,z2,_,_,_,zl⟩:=at_facts HSV.out
 clear e0 e1 e2 el ho1 hb1 hel hbk hn hV1 hgl hbV qg
 go_upto_region 3 with fail
 rw [HWE1.out,← HGL.out]
 by_cases hz:er = 0
 case neg =>
  obtain ⟨rfl,rfl⟩:E = er ∧ A = noAt:=by have:=HRES.out;rw [if_pos hz] at this;simpa using this
  have hz1:=errno_ne hz
  clear hz
  go_wp2_with fail
  exact bodyPost_ret (atRes0 rfl _ _ _ _ _ _ rfl (at_set HRV.out)) rfl ⟨rfl,at_below HBV.out (by omega)⟩
 subst hz
 have HRE:=Lib.hid (show (E,A) = decL l by have:=HRES.out;rwa [if_neg (by simp)] at this)
 clear HRES
 go_wp2_with fail
 clear s0 s1 s2 f0 f1 f2 sl z0 z1 z2 zl
 have hglt:gl < V1.heap.size:=(Array.getElem?_eq_some_iff.1 HQG.out).1
 cases l with
 |nil =>
  obtain ⟨rfl,rfl⟩:E = 3 ∧ A = noAt:=by have:=HRE.out;simpa [decL] using this
  obtain rfl:n = 0:=HN.out
  refine (rneed_trunc gl 0 c 0 a 6 V1 HQG.out (Nat.le_refl _)).mono ?_
  rintro e w2 ⟨rfl,hb2⟩
  have hrg:=(hb2.block (w.heap.size + 1) (Array.getElem?_eq_some_iff.1 HRV.out).1).trans HRV.out
  have hsg:=(hb2.block (w.heap.size + 1 + 1) (Array.getElem?_eq_some_iff.1 HSV.out).1).trans HSV.out
  have bz:=belowNew w2 (.cells #[.int .i64 0,.string ⟨#[]⟩,.string ⟨#[]⟩] 67)
  have HRF:=Lib.hid ((bz.block (w.heap.size + 1) (Array.getElem?_eq_some_iff.1 hrg).1).trans hrg)
  obtain ⟨s0,s1,s2,f0,f1,f2,sl⟩:=at_facts HRF.out
  obtain ⟨z0,z1,z2,_,_,_,zl⟩:=at_facts ((bz.block (w.heap.size + 1 + 1) (Array.getElem?_eq_some_iff.1 hsg).1).trans hsg)
  have HBF:=Lib.hid (below_next (below_next HBV.out hb2) bz)
  clear hb2 hrg hsg bz
  unfold noEl
  go_wp2_with fail
  exact bodyPost_ret (atRes0 rfl _ _ _ _ _ _ rfl (at_set HRF.out)) rfl ⟨rfl,at_below HBF.out (by omega)⟩
 |cons x r =>
  obtain ⟨b,o,rfl,hcl⟩:=HELV.out.resolve_left (by simp)
  have hb2:=HBK.out _ rfl (by simp)
  rw [← HGL.out] at hb2
  have hbg:b ≠ gl:=by have:=hb2.2;simp at this;omega
  have hn1:1 ≤ n:=by have:=HN.out;simp at this;omega
  obtain ⟨x0,x1,x2⟩:=hcl 0 (by simp)
  rw [show (x :: r).getD 0 ((0:Nat),(⟨#[]⟩:ByteArray),(⟨#[]⟩:ByteArray)) = x from rfl] at x0 x1 x2
  have HXM:=Lib.hid (HMEM.out x (by simp))
  have HCL:=Lib.hid hcl
  clear hcl hb2
  by_cases hx6:x.1 = 6
  case neg =>
   obtain ⟨rfl,rfl⟩:E = 5 ∧ A = noAt:=by have:=HRE.out;rw [decL_tag hx6] at this;simpa using this
   refine (rneed_tag gl b o n c 0 6 x V1 HQG.out (by omega) x0 x1 x2 hx6).mono ?_
   rintro e w2 ⟨rfl,hb2⟩
   clear x0 x1 x2 hx6
   have hrg:=(hb2.block (w.heap.size + 1) (Array.getElem?_eq_some_iff.1 HRV.out).1).trans HRV.out
   have hsg:=(hb2.block (w.heap.size + 1 + 1) (Array.getElem?_eq_some_iff.1 HSV.out).1).trans HSV.out
   have bz:=belowNew w2 (.cells #[.int .i64 0,.string ⟨#[]⟩,.string ⟨#[]⟩] 67)
   have HRF:=Lib.hid ((bz.block (w.heap.size + 1) (Array.getElem?_eq_some_iff.1 hrg).1).trans hrg)
   obtain ⟨s0,s1,s2,f0,f1,f2,sl⟩:=at_facts HRF.out
   obtain ⟨z0,z1,z2,_,_,_,zl⟩:=at_facts ((bz.block (w.heap.size + 1 + 1) (Array.getElem?_eq_some_iff.1 hsg).1).trans hsg)
   have HBF:=Lib.hid (below_next (below_next HBV.out hb2) bz)
   clear hb2 hrg hsg bz
   unfold noEl
   go_wp2_with fail
   exact bodyPost_ret (atRes0 rfl _ _ _ _ _ _ rfl (at_set HRF.out)) rfl ⟨rfl,at_below HBF.out (by omega)⟩
  have HX6:=Lib.hid hx6
  refine (rneed_ok gl b o n c 0 6 x V1 HQG.out (by omega) x0 x1 x2 (.inr ⟨by omega,by rw [hx6];rfl⟩) (by omega)).mono ?_
  rintro e w2 ⟨rfl,hg2,hb2⟩
  have hg2:w2.heap[gl]? = some (.cells #[.slice (some ⟨b,o,none⟩) n c,.int .i64 ((1:Nat):Int)] 75 (0,0)):=hg2
  obtain ⟨xt,xc,xr⟩:=x
  unfold elV
  simp only at HXM HX6 ⊢
  obtain ⟨W3,hW3⟩:∃ W3,W3 = w2.alloc (.cells #[.int .i64 ((xt:Nat):Int),.string xc,.string xr] 67):=⟨_,rfl⟩
  have hb3:Below w2.heap.size w2 W3:=by rw [hW3];exact belowNew w2 _
  have hq3:W3.heap[w2.heap.size]? = some (.cells #[.int .i64 ((xt:Nat):Int),.string xc,.string xr] 67 (0,0)):=by rw [hW3];exact heap_alloc_new w2 _
  obtain ⟨y0,y1,y2,_,_,_,yl⟩:=at_facts hq3
  have hW3':=hW3.symm
  have HB3:=Lib.hid (show But gl V1 W3 from hb2.next (But.of hb3))
  have HG3:=Lib.hid ((hb3.block gl (Array.getElem?_eq_some_iff.1 hg2).1).trans hg2)
  have HR3:=Lib.hid ((HB3.out.block (w.heap.size + 1) (by omega) (by simp;omega)).trans HRV.out)
  have HS3:=Lib.hid ((HB3.out.block (w.heap.size + 1 + 1) (by omega) (by simp;omega)).trans HSV.out)
  have HBW3:=Lib.hid (show Below w.heap.size w W3 from HBV.out.trans ((HB3.out.below (by omega)).mono (by omega)))
  clear hW3 hb3 hq3 hb2 hg2 x0 x1 x2 hx6
  go_wp2_with fail
  refine (rdecode_any xc W3 HXM.out).mono ?_
  rintro e w4 ⟨hdc,hb4⟩
  have HB4:=Lib.hid (show But gl V1 w4 from HB3.out.next (But.of hb4))
  have HG4:=Lib.hid ((hb4.block gl (Array.getElem?_eq_some_iff.1 HG3.out).1).trans HG3.out)
  have HR4:=Lib.hid ((hb4.block (w.heap.size + 1) (Array.getElem?_eq_some_iff.1 HR3.out).1).trans HR3.out)
  have HS4:=Lib.hid ((hb4.block (w.heap.size + 1 + 1) (Array.getElem?_eq_some_iff.1 HS3.out).1).trans HS3.out)
  have HBW4:=Lib.hid (below_next HBW3.out hb4)
  clear hb4 y0 y1 y2 yl hW3'
  rcases oidD_decd hdc with ⟨id,hid,rfl⟩ | ⟨hid,rfl⟩
  case inr =>
   obtain ⟨rfl,rfl⟩:E = 11 ∧ A = noAt:=by have:=HRE.out;rw [decL_oid HX6.out hid] at this;simpa using this
   obtain ⟨s0,s1,s2,f0,f1,f2,sl⟩:=at_facts HR4.out
   obtain ⟨z0,z1,z2,_,_,_,zl⟩:=at_facts HS4.out
   clear hdc hid
   go_wp2_with fail
   exact bodyPost_ret (atRes0 rfl _ _ _ _ _ _ rfl (at_set HR4.out)) rfl ⟨rfl,at_below HBW4.out (by omega)⟩
  have HID:=Lib.hid hid
  clear hdc hid
  go_wp2_with fail
  cases r with
  |nil =>
   obtain ⟨rfl,rfl⟩:E = 3 ∧ A = noAt:=by have:=HRE.out;rw [decL_one HX6.out HID.out] at this;simpa using this
   obtain rfl:n = 1:=HN.out
   refine (rneed_trunc gl 1 c 1 _ (-1) w4 HG4.out (Nat.le_refl _)).mono ?_
   rintro e w5 ⟨rfl,hb2⟩
   have hrg:=(hb2.block (w.heap.size + 1) (Array.getElem?_eq_some_iff.1 HR4.out).1).trans HR4.out
   have hsg:=(hb2.block (w.heap.size + 1 + 1) (Array.getElem?_eq_some_iff.1 HS4.out).1).trans HS4.out
   have bz:=belowNew w5 (.cells #[.int .i64 0,.string ⟨#[]⟩,.string ⟨#[]⟩] 67)
   have HRF:=Lib.hid ((bz.block (w.heap.size + 1) (Array.getElem?_eq_some_iff.1 hrg).1).trans hrg)
   obtain ⟨s0,s1,s2,f0,f1,f2,sl⟩:=at_facts HRF.out
   obtain ⟨z0,z1,z2,_,_,_,zl⟩:=at_facts ((bz.block (w.heap.size + 1 + 1) (Array.getElem?_eq_some_iff.1 hsg).1).trans hsg)
   have HBF:=Lib.hid (below_next (below_next HBW4.out hb2) bz)
   clear hb2 hrg hsg bz
   unfold noEl
   go_wp2_with fail
   exact bodyPost_ret (atRes0 rfl _ _ _ _ _ _ rfl (at_set HRF.out)) rfl ⟨rfl,at_below HBF.out (by omega)⟩
  |cons y q =>
   have hn2:2 ≤ n:=by have:=HN.out;simp at this;omega
   obtain ⟨z0,z1,z2⟩:=HCL.out 1 (by simp)
   rw [show ((xt,xc,xr) :: y :: q).getD 1 ((0:Nat),(⟨#[]⟩:ByteArray),(⟨#[]⟩:ByteArray)) = y from rfl] at z0 z1 z2
   have hbk:=HB4.out.block b (block_lt z0) (by simpa using hbg)
   have z0:=(cell_same hbk _).trans z0
   have z1:=(cell_same hbk _).trans z1
   have z2:=(cell_same hbk _).trans z2
   clear hbk
   refine (rneed_ok gl b o n c 1 (-1) y w4 HG4.out (by omega) z0 z1 z2 (.inl rfl) (by omega)).mono ?_
   rintro e w5 ⟨rfl,hg5,hb5⟩
   have hg5:w5.heap[gl]? = some (.cells #[.slice (some ⟨b,o,none⟩) n c,.int .i64 ((2:Nat):Int)] 75 (0,0)):=hg5
   obtain ⟨yt,yc,yr⟩:=y
   unfold elV
   simp only
   obtain ⟨W6,hW6⟩:∃ W6,W6 = w5.alloc (.cells #[.int .i64 ((yt:Nat):Int),.string yc,.string yr] 67):=⟨_,rfl⟩
   have hb6:Below w5.heap.size w5 W6:=by rw [hW6];exact belowNew w5 _
   have hq6:W6.heap[w5.heap.size]? = some (.cells #[.int .i64 ((yt:Nat):Int),.string yc,.string yr] 67 (0,0)):=by rw [hW6];exact heap_alloc_new w5 _
   obtain ⟨y0,y1,y2,_,_,_,yl⟩:=at_facts hq6
   have hW6':=hW6.symm
   have hB6:But gl w4 W6:=hb5.next (But.of hb6)
   have HG6:=Lib.hid ((hb6.block gl (Array.getElem?_eq_some_iff.1 hg5).1).trans hg5)
   have HR6:=Lib.hid ((hB6.block (w.heap.size + 1) (Array.getElem?_eq_some_iff.1 HR4.out).1 (by simp;omega)).trans HR4.out)
   have HS6:=Lib.hid ((hB6.block (w.heap.size + 1 + 1) (Array.getElem?_eq_some_iff.1 HS4.out).1 (by simp;omega)).trans HS4.out)
   have HBW6:=Lib.hid (show Below w.heap.size w W6 from HBW4.out.trans ((hB6.below (Nat.le_of_lt (Array.getElem?_eq_some_iff.1 HG4.out).1)).mono (by omega)))
   have HQ6:=Lib.hid hq6
   obtain ⟨s0,s1,s2,f0,f1,f2,sl⟩:=at_facts HR6.out
   obtain ⟨k0,k1,k2,_,_,_,kl⟩:=at_facts HS6.out
   clear hW6 hb6 hq6 hb5 hg5 hB6 z0 z1 z2
   cases hsy:strTag yt with
   |false =>
    obtain ⟨rfl,rfl⟩:E = 5 ∧ A = noAt:=by have:=HRE.out;rw [decL_kind HX6.out HID.out hsy] at this;simpa using this
    have hs3:¬ yt = 12 ∧ ¬ yt = 19 ∧ ¬ yt = 22:=by simpa [strTag,and_assoc] using hsy
    have t1:((yt:Int) != 12) = true:=by simp;omega
    have t2:((yt:Int) != 19) = true:=by simp;omega
    have t3:((yt:Int) != 22) = true:=by simp;omega
    clear hs3 hsy
    go_wp2_with fail
    exact bodyPost_ret (atRes0 rfl _ _ _ _ _ _ rfl (at_set HR6.out)) rfl ⟨rfl,at_below HBW6.out (by omega)⟩
   |true =>
    have HEN:=Lib.hid (rend_any gl n c 2 _ W6 HG6.out)
    have hor:yt = 12 ∨ yt = 19 ∨ yt = 22:=by simpa [strTag,or_assoc] using hsy
    have hways:((yt:Int) != 12) = false ∨ (((yt:Int) != 12) = true ∧ ((yt:Int) != 19) = false) ∨ (((yt:Int) != 12) = true ∧ ((yt:Int) != 19) = true ∧ ((yt:Int) != 22) = false):=by
     rcases hor with h | h | h <;> subst h
     ·exact .inl rfl
     ·exact .inr (.inl ⟨rfl,rfl⟩)
     ·exact .inr (.inr ⟨rfl,rfl,rfl⟩)
    have HSY:=Lib.hid hsy
    clear hsy hor
    cases q with
    |nil =>
     obtain ⟨rfl,rfl⟩:E = 0 ∧ A = (id,(yt:Int),yc):=by have:=HRE.out;rw [decL_ok HX6.out HID.out HSY.out] at this;simpa using this
     obtain rfl:n = 2:=HN.out
     rw [if_neg (by omega)] at HEN
     rcases hways with t1 | ⟨t1,t2⟩ | ⟨t1,t2,t3⟩
     all_goals
      go_wp2_with (go_at_call 42;(with_reducible refine HEN.out.mono ?_);rintro e w7 ⟨rfl,hb7⟩;have hr7:=(hb7.block (w.heap.size + 1) (Array.getElem?_eq_some_iff.1 HR6.out).1).trans HR6.out;have HR7:=Lib.hid hr7;obtain ⟨s0',s1',s2',f0',f1',f2',sl'⟩:=at_facts hr7;obtain ⟨y0',y1',y2',_,_,_,yl'⟩:=at_facts ((hb7.block w5.heap.size (Array.getElem?_eq_some_iff.1 HQ6.out).1).trans HQ6.out);have HB7:=Lib.hid (below_next HBW6.out hb7);clear hb7 hr7)
      exact bodyPost_ret (atRes0 rfl _ _ _ _ _ _ rfl (at_set HR7.out)) rfl ⟨rfl,at_below HB7.out (by omega)⟩
    |cons z q =>
     obtain ⟨rfl,rfl⟩:E = 4 ∧ A = noAt:=by have:=HRE.out;rw [decL_more HX6.out HID.out HSY.out] at this;simpa using this
     have h20:2 < n:=by have:=HN.out;simp at this;omega
     rw [if_pos h20] at HEN
     rcases hways with t1 | ⟨t1,t2⟩ | ⟨t1,t2,t3⟩
     all_goals
      go_wp2_with (go_at_call 42;(with_reducible refine HEN.out.mono ?_);rintro e w7 ⟨rfl,hb7⟩;have hr7:=(hb7.block (w.heap.size + 1) (Array.getElem?_eq_some_iff.1 HR6.out).1).trans HR6.out;have HR7:=Lib.hid hr7;obtain ⟨s0',s1',s2',f0',f1',f2',sl'⟩:=at_facts hr7;obtain ⟨k0',k1',k2',_,_,_,kl'⟩:=at_facts ((hb7.block (w.heap.size + 1 + 1) (Array.getElem?_eq_some_iff.1 HS6.out).1).trans HS6.out);have HB7:=Lib.hid (below_next HBW6.out hb7);clear hb7 hr7)
      exact bodyPost_ret (atRes0 rfl _ _ _ _ _ _ rfl (at_set HR7.out)) rfl ⟨rfl,at_below HB7.out (by omega)⟩
end Go.Proofs.YtbpdenfiifcfcaaGreatDoor
