/-
  Decoding constraints on names in two steps: the parts, and their errors. Nothing is claimed of the program here.
  The contracts of checkBases and Check of package subtree.
  The contracts of decodeParts and Decode of package subtree.
-/
import Derived.Test.YtbpdenfiifcfcaaGreatDoorLbg
import Derived.Test.YtbpdenfiifcfcaaGreatDoorLax
namespace Go.Proofs.YtbpdenfiifcfcaaGreatDoor
open Go.RowKit
noncomputable def prtF (L:List El):Nat × Sub :=
 if (mayP 160 L).1.1 ≠ 0 then ((mayP 160 L).1.1,([],[])) else if (mayP 161 (mayP 160 L).2).1.1 ≠ 0 then ((mayP 161 (mayP 160 L).2).1.1,([],[])) else if (mayP 161 (mayP 160 L).2).2 ≠ [] then (4,([],[])) else (0,((mayP 160 L).1.2,(mayP 161 (mayP 160 L).2).1.2))
noncomputable def prtB (b:ByteArray):Nat × Sub :=
 if oneErr b ≠ 0 then (oneErr b,([],[])) else if opnE (rdTag b,rdContent b,rdRaw b) 48 ≠ 0 then (opnE (rdTag b,rdContent b,rdRaw b) 48,([],[])) else prtF (opnL (rdTag b,rdContent b,rdRaw b) 48)
noncomputable def endS (R:Nat × Sub):Nat × Sub:=if R.1 ≠ 0 then (R.1,([],[])) else if chkS R.2 ≠ 0 then (chkS R.2,([],[])) else R
theorem endS_err {R:Nat × Sub} (h:R.1 ≠ 0):endS R = (R.1,([],[])):=if_pos h
theorem endS_bad {R:Nat × Sub} (h:R.1 = 0) (h2:chkS R.2 ≠ 0):endS R = (chkS R.2,([],[])):=by unfold endS;rw [if_neg (not_not_intro h),if_pos h2]
theorem endS_ok {R:Nat × Sub} (h:R.1 = 0) (h2:chkS R.2 = 0):endS R = R:=by unfold endS;rw [if_neg (not_not_intro h),if_neg (not_not_intro h2)]
theorem decF_prt (L:List El):decF L = endS (prtF L):=by
 unfold decF prtF
 by_cases h1:(mayP 160 L).1.1 ≠ 0
 ·rw [if_pos h1,if_pos h1,endS_err h1]
 ·rw [if_neg h1,if_neg h1]
  by_cases h2:(mayP 161 (mayP 160 L).2).1.1 ≠ 0
  ·rw [if_pos h2,if_pos h2,endS_err h2]
  ·rw [if_neg h2,if_neg h2]
   by_cases h3:(mayP 161 (mayP 160 L).2).2 ≠ []
   ·rw [if_pos h3,if_pos h3,endS_err (by decide)]
   ·rw [if_neg h3,if_neg h3]
    unfold endS
    exact (if_neg (not_not_intro rfl)).symm
theorem decSub_prt (b:ByteArray):decSub b = endS (prtB b):=by
 unfold decSub prtB
 by_cases h1:oneErr b ≠ 0
 ·rw [if_pos h1,if_pos h1,endS_err h1]
 ·rw [if_neg h1,if_neg h1]
  by_cases h2:rdTag b = 48
  ·obtain ⟨o1,o2⟩:=opn_ok (x:=(rdTag b,rdContent b,rdRaw b)) (T:=48) h2
   rw [o1,o2,if_neg (not_not_intro h2)]
   by_cases h3:(lst (rdContent b)).2 ≠ 0
   ·rw [if_pos h3,if_pos h3,endS_err h3]
   ·rw [if_neg h3,if_neg h3,decF_prt]
  ·obtain ⟨o1,o2⟩:=opn_tag (x:=(rdTag b,rdContent b,rdRaw b)) (T:=48) h2
   rw [if_pos h2,o1,if_pos (by decide),endS_err (by decide)]
theorem prtF_small {L:List El} (h:∀ e ∈ L,e.2.1.size ≤ 150000):(SmL (prtF L).2.1 ∧ (prtF L).2.1.length ≤ 150000) ∧ SmL (prtF L).2.2 ∧ (prtF L).2.2.length ≤ 150000:=by
 have h0:SmL ([]:List Gn) ∧ ([]:List Gn).length ≤ 150000:=⟨fun _ hg => (by cases hg),Nat.zero_le _⟩
 have h1:=mayP_small (T:=160) h
 have h2:=mayP_small (T:=161) h1.2
 unfold prtF
 split
 ·exact ⟨h0,h0⟩
 ·split
  ·exact ⟨h0,h0⟩
  ·split
   ·exact ⟨h0,h0⟩
   ·exact ⟨h1.1,h2.1⟩
theorem prtB_small {b:ByteArray} (h:b.size ≤ 150000):(SmL (prtB b).2.1 ∧ (prtB b).2.1.length ≤ 150000) ∧ SmL (prtB b).2.2 ∧ (prtB b).2.2.length ≤ 150000:=by
 have h0:SmL ([]:List Gn) ∧ ([]:List Gn).length ≤ 150000:=⟨fun _ hg => (by cases hg),Nat.zero_le _⟩
 unfold prtB
 split
 ·exact ⟨h0,h0⟩
 ·rename_i h1
  split
  ·exact ⟨h0,h0⟩
  ·exact prtF_small (opn_small (x:=(rdTag b,rdContent b,rdRaw b)) (by
    have:=rdContent_size (oneErr_rd (b:=b) (by omega))
    show (rdContent b).size ≤ _
    omega))
/-- What is decoded lies in two rows;beside an error they say nothing. -/
def PRes (w:World) (R:Nat × Sub) (e:Ending) (w':World):Prop :=
 ∃ (a1 a2:Option Addr) (n1 c1 n2 c2:Nat),e = .returned (.tuple #[.agg #[.slice a1 n1 c1,.slice a2 n2 c2],.int .i64 ((R.1:Nat):Int)]) ∧ (R.1 = 0 → (n1 = R.2.1.length ∧ n1 ≤ c1 ∧ (a1 = none → c1 = 0) ∧ LieG w' a1 n1 R.2.1) ∧ n2 = R.2.2.length ∧ n2 ≤ c2 ∧ (a2 = none → c2 = 0) ∧ LieG w' a2 n2 R.2.2) ∧ Below w.heap.size w w'
/-- What Decode hands back: two rows that lie;nil ones beside an error. -/
def SRes (w:World) (R:Nat × Sub) (e:Ending) (w':World):Prop :=
 ∃ (a1 a2:Option Addr) (n1 c1 n2 c2:Nat),e = .returned (.tuple #[.agg #[.slice a1 n1 c1,.slice a2 n2 c2],.int .i64 ((R.1:Nat):Int)]) ∧ (n1 = R.2.1.length ∧ n1 ≤ c1 ∧ (a1 = none → c1 = 0) ∧ LieG w' a1 n1 R.2.1) ∧ (n2 = R.2.2.length ∧ n2 ≤ c2 ∧ (a2 = none → c2 = 0) ∧ LieG w' a2 n2 R.2.2) ∧ Below w.heap.size w w'
theorem sres_none {w w':World} {R:Nat × Sub} {E:Nat} (hR:R = (E,([],[]))) (h:Below w.heap.size w w'):SRes w R (.returned (.tuple #[.agg #[.slice none 0 0,.slice none 0 0],.int .i64 ((E:Nat):Int)])) w':=by
 subst hR
 exact ⟨none,none,0,0,0,0,rfl,⟨rfl,Nat.le_refl _,fun _ => rfl,.inl rfl⟩,⟨rfl,Nat.le_refl _,fun _ => rfl,.inl rfl⟩,h⟩
theorem sbRes2 {fn:Func} {p u:Tmp} (h:fn.results = #[.cell p 24,.tmp u]) (tmps:Array Value) (w:World) (g:Nat) (x y:Value)
  (hp:tmps.getD p undef = .pointer (some ⟨g,0,none⟩)) (hg:w.heap[g]? = some (.cells #[x,y] 24 (0,0))) :
  (results fn tmps).run Tryz.prog w = .ok (.tuple #[.agg #[x,y],tmps.getD u undef]) w :=
 results_cell_row2 h tmps w g 24 #[x,y] (0,0) _ hp hg Tryz.underlying24 rfl (by kernel_rfl)
/-- The result's cells are written. -/
theorem sb_fin {w w9:World} {r:Nat} {x y u v:Value} (hrr:w.heap.size ≤ r) (h1:w9.heap[r]? = some (.cells #[x,y] 24 (0,0))) (h3:Below w.heap.size w w9) :
  ((w9.setCell ⟨r,0,none⟩ u).setCell ⟨r,1,none⟩ v).heap[r]? = some (.cells #[u,v] 24 (0,0)) ∧ Below w.heap.size w ((w9.setCell ⟨r,0,none⟩ u).setCell ⟨r,1,none⟩ v) ∧ But r w9 ((w9.setCell ⟨r,0,none⟩ u).setCell ⟨r,1,none⟩ v) :=
 ⟨fi_set h1,(h3.setCell (p:=⟨r,0,none⟩) hrr _).setCell (p:=⟨r,1,none⟩) hrr _,(But.set r 0 w9 u).next (But.set r 1 _ v)⟩
theorem errT_step:∀ (l:List Gn) (k:Nat),k < l.length → errT (l.drop k) = if xGt (l.getD k noG) ≠ 0 then xGt (l.getD k noG) else errT (l.drop (k + 1))
 |[],k,h => absurd h (Nat.not_lt_zero _)
 |g :: r,0,_ => rfl
 |g :: r,k + 1,h => by
  have:=errT_step r k (by simpa using h)
  simpa using this
theorem errT_end (l:List Gn):errT (l.drop l.length) = 0:=by rw [List.drop_length];rfl
theorem errT_app:∀ (a b:List Gn),errT (a ++ b) = if errT a ≠ 0 then errT a else errT b
 |[],b => (if_neg (by show ¬ (0:Nat) ≠ 0;decide)).symm
 |g :: r,b => by
  show (if xGt g ≠ 0 then xGt g else errT (r ++ b)) = if (if xGt g ≠ 0 then xGt g else errT r) ≠ 0 then (if xGt g ≠ 0 then xGt g else errT r) else errT b
  by_cases h:xGt g = 0
  ·rw [if_neg (not_not_intro h),if_neg (not_not_intro h),errT_app r b]
  ·rw [if_pos h,if_pos h,if_pos h]
set_option maxRecDepth 100000 in
set_option maxHeartbeats 4000000 in
theorem chkb_core (a0:Option Addr) (c m:Nat) (l:List Gn) (w:World) (h:GLies w a0 l) (hm:m = l.length) (hmm:m ≤ 1000000) (hs:SmL l) (hT:Tab w) (hmk:Mk w) :
  Calls Tryz.prog 32 #[.slice a0 m c] w fun e w' => e = .returned (.int .i64 ((errT l:Nat):Int)) ∧ Below w.heap.size w w':=by
 have H1:=Lib.hid h
 have HN:=Lib.hid hm
 have HS:=Lib.hid hs
 have HT:=Lib.hid (fun W (hb:Below w.heap.size w W) => hT.below hb)
 have HMK:=Lib.hid (fun W (hb:Below w.heap.size w W) => hmk.below hb)
 obtain ⟨E0,hE0⟩:∃ E0,E0 = errT l:=⟨_,rfl⟩
 rw [← hE0]
 have HE0:=Lib.hid hE0
 clear h hm hs hT hmk hE0
 go_enter Tryz.func32,Tryz.ntmps32
 go_wp2_with fail
 go_loopw [8] (fun i wr => ∃ k:Nat,k ≤ m ∧ i = .int .i64 k ∧ E0 = errT (l.drop k) ∧ Below w.heap.size w wr) (fun i _ => m - (intOf i).toNat)
 case atStart => exact ⟨0,Nat.zero_le _,rfl,HE0.out,Below.refl _ _⟩
 case round =>
  obtain ⟨wz,hwz⟩:∃ wz,wz = wr:=⟨_,rfl⟩
  subst hwz
  obtain ⟨k,hk,rfl,hA,hb⟩:=hrel
  have HB:=Lib.hid hb
  have HA:=Lib.hid hA
  clear hb hA
  by_cases hlt:k < m
  ·have hd:decide ((k:Int) < (m:Int)) = true:=by simp;omega
   have hkl:k < l.length:=by rw [← HN.out];exact hlt
   obtain ⟨b,o,rfl,hb,e0,e1,a1,c1,e2,hc1,hL1⟩:=H1.out.at k hkl
   have f0:wz.cell? ⟨b,o + k * 3,none⟩ = _:=(HB.out.cell (p:=⟨b,o + k * 3,none⟩) hb).trans e0
   have f1:wz.cell? ⟨b,o + k * 3 + 1,none⟩ = _:=(HB.out.cell (p:=⟨b,o + k * 3 + 1,none⟩) hb).trans e1
   have f2:wz.cell? ⟨b,o + k * 3 + 2,none⟩ = _:=(HB.out.cell (p:=⟨b,o + k * 3 + 2,none⟩) hb).trans e2
   have hsm:=HS.out.at hkl
   have HSTEP:=HA.out.trans (errT_step l k hkl)
   obtain ⟨G,hG⟩:∃ G,G = l.getD k noG:=⟨_,rfl⟩
   rw [← hG] at f0 f1 f2 hsm hL1 hc1 HSTEP
   obtain ⟨q,t,n⟩:=G
   simp only at f0 f1 f2 hL1 hc1 hsm
   obtain ⟨N,hNn⟩:∃ N,N = n.length:=⟨_,rfl⟩
   rw [← hNn] at f2
   obtain ⟨W2,hW2⟩:∃ W2,W2 = wz.alloc (.cells #[.int .i64 q,.string (strOf t),.slice a1 N c1] 29):=⟨_,rfl⟩
   have hb2:Below wz.heap.size wz W2:=by rw [hW2];exact belowNew wz _
   obtain ⟨g0,g1,g2,_⟩:=three_facts (w:=W2) (g:=wz.heap.size) (by rw [hW2];exact heap_alloc_new wz _)
   have HB2:=Lib.hid (below_next HB.out hb2)
   have HCH:=Lib.hid (gchk_core a1 c1 N q t n true W2 ((hL1.below HB.out).below hb2) hNn hsm.1 hsm.2 (HT.out _ HB2.out) (HMK.out _ HB2.out))
   have HWE:=hW2.symm
   have HST:=Lib.hid (show E0 = if chkG true q t n ≠ 0 then chkG true q t n else errT (l.drop (k + 1)) from HSTEP)
   obtain ⟨X,hX⟩:∃ X,X = chkG true q t n:=⟨_,rfl⟩
   rw [← hX] at HCH HST
   clear e0 e1 e2 hb hL1 hc1 hG hNn hW2 hb2 hsm HSTEP hX hkl
   rcases Nat.eq_zero_or_pos X with hz | hz
   ·have HE1:=Lib.hid (HST.out.trans (if_neg (not_not_intro hz)))
    subst hz
    go_wp2_with (go_at_call 55;(with_reducible refine HCH.out.mono ?_);rintro e w3 ⟨rfl,hb3⟩;have HB3:=Lib.hid (below_next HB2.out hb3);clear hb3)
    go_roundw
    case rel => exact ⟨k + 1,by omega,by go_num,HE1.out,HB3.out⟩
    case measure => simp [intOf];omega
   ·have hz1:=errno_ne (Nat.ne_of_gt hz)
    have HE1:=Lib.hid (HST.out.trans (if_pos (Nat.ne_of_gt hz)))
    go_wp2_with (go_at_call 55;(with_reducible refine HCH.out.mono ?_);rintro e w3 ⟨rfl,hb3⟩;have HB3:=Lib.hid (below_next HB2.out hb3);clear hb3)
    go_ret
    exact ⟨by rw [HE1.out];rfl,HB3.out⟩
  ·have hd:decide ((k:Int) < (m:Int)) = false:=by simp;omega
   obtain rfl:k = m:=by omega
   have HE1:=Lib.hid (show E0 = 0 from by rw [HA.out,HN.out,errT_end])
   go_wp2_with fail
   go_ret
   exact ⟨by rw [HE1.out];rfl,HB.out⟩
set_option maxRecDepth 100000 in
set_option maxHeartbeats 4000000 in
theorem chks_core (a1 a2:Option Addr) (c1 c2 m1 m2:Nat) (s:Sub) (w:World) (h1:GLies w a1 s.1) (h2:GLies w a2 s.2) (hm1:m1 = s.1.length) (hm2:m2 = s.2.length) (hmm1:m1 ≤ 1000000) (hmm2:m2 ≤ 1000000) (hs1:SmL s.1) (hs2:SmL s.2) (hT:Tab w) (hmk:Mk w) :
  Calls Tryz.prog 16 #[.agg #[.slice a1 m1 c1,.slice a2 m2 c2]] w fun e w' => e = .returned (.int .i64 ((chkS s:Nat):Int)) ∧ Below w.heap.size w w':=by
 obtain ⟨W0,hW0⟩:∃ W0,W0 = w.alloc (.cells #[.slice a1 m1 c1,.slice a2 m2 c2] 24):=⟨_,rfl⟩
 have hwr:=hW0.symm
 have hb0:Below w.heap.size w W0:=by rw [hW0];exact belowNew w _
 obtain ⟨b0,b1,lb⟩:=two_facts (w:=W0) (g:=w.heap.size) (by rw [hW0];exact heap_alloc_new w _)
 have HB0:=Lib.hid hb0
 have HE:=show chkS s = if m1 = 0 ∧ m2 = 0 then 7 else if 16 < m1 ∨ 16 < m2 then 2 else if errT s.1 ≠ 0 then errT s.1 else errT s.2 by unfold chkS;rw [errT_app,← hm1,← hm2]
 obtain ⟨E,hE⟩:∃ E,E = chkS s:=⟨_,rfl⟩
 rw [← hE] at HE ⊢
 have H1:=Lib.hid (chkb_core a1 c1 m1 s.1 W0 (h1.below hb0) hm1 hmm1 hs1 (hT.below hb0) (hmk.below hb0))
 have H2:=Lib.hid (fun W (hb:Below w.heap.size w W) => chkb_core a2 c2 m2 s.2 W (h2.below hb) hm2 hmm2 hs2 (hT.below hb) (hmk.below hb))
 obtain ⟨X,hX⟩:∃ X,X = errT s.1:=⟨_,rfl⟩
 obtain ⟨Y,hY⟩:∃ Y,Y = errT s.2:=⟨_,rfl⟩
 rw [← hX] at H1 HE
 rw [← hY] at H2 HE
 clear hW0 hb0 h1 h2 hm1 hm2 hs1 hs2 hT hmk hE hX hY
 by_cases hz:m1 = 0 ∧ m2 = 0
 ·obtain ⟨rfl,rfl⟩:=hz
  rw [if_pos ⟨rfl,rfl⟩] at HE
  subst HE
  clear H1 H2
  go_enter Tryz.func16,Tryz.ntmps16
  go_wp2_with fail
  go_ret
  exact ⟨rfl,HB0.out⟩
 rw [if_neg hz] at HE
 have HZ:=Lib.hid hz
 have q1:((m1:Int) == 0) = true ∨ ((m1:Int) == 0) = false:=by cases ((m1:Int) == 0) <;> simp
 have HQ2:=Lib.hid (show ((m1:Int) == 0) = true → ((m2:Int) == 0) = false from fun h => by simp at h ⊢;omega)
 clear hz
 by_cases hy:16 < m1 ∨ 16 < m2
 ·rw [if_pos hy] at HE
  subst HE
  clear H1 H2
  rcases Nat.lt_or_ge 16 m1 with hy1 | hy1
  ·have q3:decide ((16:Int) < (m1:Int)) = true:=by simp;omega
   have q1:((m1:Int) == 0) = false:=by simp;omega
   go_enter Tryz.func16,Tryz.ntmps16
   go_wp2_with fail
   go_ret
   exact ⟨rfl,HB0.out⟩
  ·have q3:decide ((16:Int) < (m1:Int)) = false:=by simp;omega
   have q4:decide ((16:Int) < (m2:Int)) = true:=by simp;omega
   have q2:((m2:Int) == 0) = false:=by simp;omega
   clear hy hy1
   rcases q1 with q1 | q1
   ·go_enter Tryz.func16,Tryz.ntmps16
    go_wp2_with fail
    go_ret
    exact ⟨rfl,HB0.out⟩
   ·go_enter Tryz.func16,Tryz.ntmps16
    go_wp2_with fail
    go_ret
    exact ⟨rfl,HB0.out⟩
 rw [if_neg hy] at HE
 have q3:decide ((16:Int) < (m1:Int)) = false:=by simp;omega
 have q4:decide ((16:Int) < (m2:Int)) = false:=by simp;omega
 clear hy
 have HX:=Lib.hid HE
 clear HE
 rcases q1 with q1 | q1
 ·have q2:=HQ2.out q1
  rcases Nat.eq_zero_or_pos X with hx | hx
  ·have HE1:=Lib.hid (HX.out.trans (if_neg (not_not_intro hx)))
   subst hx
   go_enter Tryz.func16,Tryz.ntmps16
   go_wp2_with (first
    |(with_reducible refine H1.out.mono ?_;rintro e w1 ⟨rfl,hb1⟩;have HB1:=Lib.hid (below_next HB0.out hb1);have d1:=(hb1.cell (p:=⟨w.heap.size,1,none⟩) lb).trans b1;clear hb1)
    |(with_reducible refine (H2.out _ HB1.out).mono ?_;rintro e w2 ⟨rfl,hb2⟩;have HB2:=Lib.hid (below_next HB1.out hb2);clear hb2))
   go_ret
   exact ⟨by rw [HE1.out];rfl,HB2.out⟩
  ·have hz1:=errno_ne (Nat.ne_of_gt hx)
   have HE1:=Lib.hid (HX.out.trans (if_pos (Nat.ne_of_gt hx)))
   go_enter Tryz.func16,Tryz.ntmps16
   go_wp2_with (with_reducible refine H1.out.mono ?_;rintro e w1 ⟨rfl,hb1⟩;have HB1:=Lib.hid (below_next HB0.out hb1);have d1:=(hb1.cell (p:=⟨w.heap.size,1,none⟩) lb).trans b1;clear hb1)
   go_ret
   exact ⟨by rw [HE1.out];rfl,HB1.out⟩
 ·rcases Nat.eq_zero_or_pos X with hx | hx
  ·have HE1:=Lib.hid (HX.out.trans (if_neg (not_not_intro hx)))
   subst hx
   go_enter Tryz.func16,Tryz.ntmps16
   go_wp2_with (first
    |(with_reducible refine H1.out.mono ?_;rintro e w1 ⟨rfl,hb1⟩;have HB1:=Lib.hid (below_next HB0.out hb1);have d1:=(hb1.cell (p:=⟨w.heap.size,1,none⟩) lb).trans b1;clear hb1)
    |(with_reducible refine (H2.out _ HB1.out).mono ?_;rintro e w2 ⟨rfl,hb2⟩;have HB2:=Lib.hid (below_next HB1.out hb2);clear hb2))
   go_ret
   exact ⟨by rw [HE1.out];rfl,HB2.out⟩
  ·have hz1:=errno_ne (Nat.ne_of_gt hx)
   have HE1:=Lib.hid (HX.out.trans (if_pos (Nat.ne_of_gt hx)))
   go_enter Tryz.func16,Tryz.ntmps16
   go_wp2_with (with_reducible refine H1.out.mono ?_;rintro e w1 ⟨rfl,hb1⟩;have HB1:=Lib.hid (below_next HB0.out hb1);have d1:=(hb1.cell (p:=⟨w.heap.size,1,none⟩) lb).trans b1;clear hb1)
   go_ret
   exact ⟨by rw [HE1.out];rfl,HB1.out⟩
theorem prtB_one {b:ByteArray} (h:oneErr b ≠ 0):prtB b = (oneErr b,([],[])):=if_pos h
theorem prtB_opn {b:ByteArray} (h:oneErr b = 0) (h2:opnE (rdTag b,rdContent b,rdRaw b) 48 ≠ 0):prtB b = (opnE (rdTag b,rdContent b,rdRaw b) 48,([],[])):=by unfold prtB;rw [if_neg (not_not_intro h),if_pos h2]
theorem prtB_go {b:ByteArray} (h:oneErr b = 0) (h2:opnE (rdTag b,rdContent b,rdRaw b) 48 = 0):prtB b = prtF (opnL (rdTag b,rdContent b,rdRaw b) 48):=by unfold prtB;rw [if_neg (not_not_intro h),if_neg (not_not_intro h2)]
theorem prtF_1 {L:List El} (h:(mayP 160 L).1.1 ≠ 0):prtF L = ((mayP 160 L).1.1,([],[])):=if_pos h
theorem prtF_2 {L:List El} (h:(mayP 160 L).1.1 = 0) (h2:(mayP 161 (mayP 160 L).2).1.1 ≠ 0):prtF L = ((mayP 161 (mayP 160 L).2).1.1,([],[])):=by unfold prtF;rw [if_neg (not_not_intro h),if_pos h2]
theorem prtF_3 {L:List El} (h:(mayP 160 L).1.1 = 0) (h2:(mayP 161 (mayP 160 L).2).1.1 = 0) (h3:(mayP 161 (mayP 160 L).2).2 ≠ []):prtF L = (4,([],[])):=by unfold prtF;rw [if_neg (not_not_intro h),if_neg (not_not_intro h2),if_pos h3]
theorem prtF_4 {L:List El} (h:(mayP 160 L).1.1 = 0) (h2:(mayP 161 (mayP 160 L).2).1.1 = 0) (h3:(mayP 161 (mayP 160 L).2).2 = []):prtF L = (0,((mayP 160 L).1.2,(mayP 161 (mayP 160 L).2).1.2)):=by unfold prtF;rw [if_neg (not_not_intro h),if_neg (not_not_intro h2),if_neg (not_not_intro h3)]
theorem pres_none {w w':World} {R:Nat × Sub} {E:Nat} (hR:R = (E,([],[]))) (hE:E ≠ 0) (h:Below w.heap.size w w'):PRes w R (.returned (.tuple #[.agg #[.slice none 0 0,.slice none 0 0],.int .i64 ((E:Nat):Int)])) w' :=
 ⟨none,none,0,0,0,0,by rw [hR],fun h => absurd (by rw [hR] at h;exact h) hE,h⟩
set_option maxRecDepth 100000 in
set_option maxHeartbeats 8000000 in
theorem dparts_core (b:ByteArray) (w:World) (hs:b.size ≤ 150000) (hT:Tab w) (hP:Pow10 w) (hmk:Mk w) :
  Calls Tryz.prog 38 #[.string b] w fun e w' => PRes w (prtB b) e w':=by
 have HP1:=Lib.hid (fun h => prtB_one (b:=b) h)
 have HP2:=Lib.hid (fun h h2 => prtB_opn (b:=b) h h2)
 have HP3:=Lib.hid (fun h h2 => prtB_go (b:=b) h h2)
 obtain ⟨R,hR⟩:∃ R,R = prtB b:=⟨_,rfl⟩
 rw [← hR] at HP1 HP2 HP3 ⊢
 obtain ⟨W0,hW0⟩:∃ W0,W0 = w.alloc (.cells #[.slice none 0 0,.slice none 0 0] 24):=⟨_,rfl⟩
 have hb0:Below w.heap.size w W0:=by rw [hW0];exact belowNew w _
 obtain ⟨r,hr⟩:∃ r,r = w.heap.size:=⟨_,rfl⟩
 have hq0:W0.heap[r]? = some (.cells #[.slice none 0 0,.slice none 0 0] 24 (0,0)):=by rw [hW0,hr];exact heap_alloc_new w _
 have lr:r < W0.heap.size:=(Array.getElem?_eq_some_iff.1 hq0).1
 have hrr:w.heap.size ≤ r:=by omega
 have HWR:=Lib.hid hW0.symm
 have HRE:=Lib.hid hr
 have HB0:=Lib.hid hb0
 have HQ0:=Lib.hid hq0
 have HON:=Lib.hid (one_any b W0 (by omega))
 unfold oneVal at HON
 clear hW0 hq0 hr hR
 by_cases h1:oneErr b = 0
 case neg =>
  rw [if_neg h1] at HON
  unfold noEl at HON
  have HV:=Lib.hid (HP1.out h1)
  have hz1:=errno_ne h1
  have HNE:=Lib.hid h1
  generalize oneErr b = E at HON HV hz1 HNE
  clear h1 HP1 HP2 HP3 hT hP hmk hb0
  go_enter Tryz.func38,Tryz.ntmps38
  go_upto_region 1 with fail
  rw [HWR.out,← HRE.out]
  go_wp2_with (go_at_call 64;(with_reducible refine HON.out.mono ?_);rintro e w1 ⟨rfl,hb1⟩;have hr1:=(hb1.block r lr).trans HQ0.out;have bz:=belowNew w1 (.cells #[.int .i64 0,.string ⟨#[]⟩,.string ⟨#[]⟩] 67);have HR2:=Lib.hid ((bz.block r (Array.getElem?_eq_some_iff.1 hr1).1).trans hr1);have HB2:=Lib.hid (below_next (below_next HB0.out hb1) bz);clear hb1 hr1 bz;obtain ⟨s0,s1,f0,f1,sl⟩:=fi_facts HR2.out)
  refine bodyPost_ret (sbRes2 rfl _ _ r _ _ rfl (fi_set HR2.out)) rfl ?_
  exact pres_none HV.out HNE.out (sb_fin (u:=.slice none 0 0) (v:=.slice none 0 0) hrr HR2.out HB2.out).2.1
 case pos =>
  rw [if_pos h1] at HON
  unfold elV at HON
  have HP4:=Lib.hid (HP2.out h1)
  have HP5:=Lib.hid (HP3.out h1)
  have hcz:=rdContent_size (oneErr_rd h1)
  generalize rdTag b = xt at HON HP4 HP5
  generalize rdContent b = xc at HON HP4 HP5 hcz
  generalize rdRaw b = xr at HON HP4 HP5
  have HDV:=Lib.hid (fun W => div_core (xt,xc,xr) W (show xc.size ≤ _ by omega))
  have HSM:=Lib.hid (opn_small (x:=(xt,xc,xr)) (show xc.size ≤ 150000 by omega))
  have hlen:=opn_len (xt,xc,xr) 48
  unfold elV at HDV
  simp only at HDV hlen
  generalize opnE (xt,xc,xr) 48 = E at HDV HP4 HP5
  generalize opnL (xt,xc,xr) 48 = L at HDV HP5 HSM hlen
  have HTT:=Lib.hid (fun W (hb:Below w.heap.size w W) => And.intro (hT.below hb) (And.intro (hP.below hb) (hmk.below hb)))
  clear HP1 HP2 HP3 hb0 h1 hT hP hmk
  go_enter Tryz.func38,Tryz.ntmps38
  go_upto_region 1 with fail
  rw [HWR.out,← HRE.out]
  go_upto_region 2 with (go_at_call 64;(with_reducible refine HON.out.mono ?_);rintro e w1 ⟨rfl,hb1⟩;have HR1:=Lib.hid ((hb1.block r lr).trans HQ0.out);have HB1:=Lib.hid (below_next HB0.out hb1);clear hb1)
  obtain ⟨W1,hW1⟩:∃ W1,W1 = w1.alloc (.cells #[.int .i64 ((xt:Nat):Int),.string xc,.string xr] 67):=⟨_,rfl⟩
  obtain ⟨g,hg⟩:∃ g,g = w1.heap.size:=⟨_,rfl⟩
  have hbb:Below w1.heap.size w1 W1:=by rw [hW1];exact belowNew w1 _
  obtain ⟨e0,e1,e2,el⟩:=three_facts (show W1.heap[g]? = some (.cells #[.int .i64 ((xt:Nat):Int),.string xc,.string xr] 67 (0,0)) from by rw [hW1,hg];exact heap_alloc_new w1 _)
  have HR2:=Lib.hid ((hbb.block r (Array.getElem?_eq_some_iff.1 HR1.out).1).trans HR1.out)
  have HB2:=Lib.hid (below_next HB1.out hbb)
  rw [← hW1,← hg]
  clear hW1 hg hbb
  by_cases hz:E = 0
  case neg =>
   have HV:=Lib.hid (HP4.out hz)
   have hz1:=errno_ne hz
   have HNE:=Lib.hid hz
   clear hz HP4 HP5
   go_wp2_with (go_at_call 65;(with_reducible refine (HDV.out W1).mono ?_);rintro e w2 ⟨v,rfl,ho,hb2⟩;obtain ⟨a5,k5,rfl,_,_,_⟩:=ElAt.of ho;have HR3:=Lib.hid ((hb2.block r (Array.getElem?_eq_some_iff.1 HR2.out).1).trans HR2.out);have HB3:=Lib.hid (below_next HB2.out hb2);clear ho hb2;obtain ⟨s0,s1,f0,f1,sl⟩:=fi_facts HR3.out)
   refine bodyPost_ret (sbRes2 rfl _ _ r _ _ rfl (fi_set HR3.out)) rfl ?_
   exact pres_none HV.out HNE.out (sb_fin (u:=.slice none 0 0) (v:=.slice none 0 0) hrr HR3.out HB3.out).2.1
  case pos =>
   subst hz
   have HF1:=Lib.hid (fun h => (HP5.out (by trivial)).trans (prtF_1 (L:=L) h))
   have HF2:=Lib.hid (fun h h2 => (HP5.out (by trivial)).trans (prtF_2 (L:=L) h h2))
   have HF3:=Lib.hid (fun h h2 h3 => (HP5.out (by trivial)).trans (prtF_3 (L:=L) h h2 h3))
   have HF4:=Lib.hid (fun h h2 h3 => (HP5.out (by trivial)).trans (prtF_4 (L:=L) h h2 h3))
   have hsm2:=mayP_small (T:=160) HSM.out
   have HC1:=Lib.hid (fun W (hb:Below w.heap.size w W) a c m (h:ElAt W a L) hm hmc => cut_core 160 a c m L W h hm hmc HSM.out (HTT.out W hb).1 (HTT.out W hb).2.1 (HTT.out W hb).2.2)
   have HC2:=Lib.hid (fun W (hb:Below w.heap.size w W) a c m (h:ElAt W a (mayP 160 L).2) hm hmc => cut_core 161 a c m (mayP 160 L).2 W h hm hmc hsm2.2 (HTT.out W hb).1 (HTT.out W hb).2.1 (HTT.out W hb).2.2)
   rw [show ((160:Nat):Int) = 160 from rfl] at HC1
   rw [show ((161:Nat):Int) = 161 from rfl] at HC2
   generalize mayP 160 L = M1 at HF1 HF2 HF3 HF4 HC1 HC2
   generalize mayP 161 M1.2 = M2 at HF2 HF3 HF4 HC2
   obtain ⟨⟨E1,G1⟩,L1⟩:=M1
   obtain ⟨⟨E2,G2⟩,L2⟩:=M2
   unfold CRes at HC1 HC2
   simp only at HF1 HF2 HF3 HF4 HC1 HC2
   clear hsm2 HP4 HP5 HTT HSM hlen
   by_cases hE1:E1 = 0
   case neg =>
    have HV:=Lib.hid (HF1.out hE1)
    have hz1:=errno_ne hE1
    have HNE:=Lib.hid hE1
    clear hE1 HF1 HF2 HF3 HF4 HC2
    go_wp2_with (first
     |(go_at_call 65;(with_reducible refine (HDV.out W1).mono ?_);rintro e w2 ⟨v,rfl,ho,hb2⟩;obtain ⟨a5,k5,rfl,hk5,hea,_⟩:=ElAt.of ho;have HEA:=Lib.hid hea;have HKL:=Lib.hid hk5;have HR3:=Lib.hid ((hb2.block r (Array.getElem?_eq_some_iff.1 HR2.out).1).trans HR2.out);have HB3:=Lib.hid (below_next HB2.out hb2);clear ho hb2 hea hk5)
     |(go_at_call 66;(with_reducible refine (HC1.out _ HB3.out _ _ _ HEA.out rfl HKL.out).mono ?_);rintro e w3 ⟨a1,a2,n1,c1,n2,c2,rfl,_,hb3⟩;have HR4:=Lib.hid ((hb3.block r (Array.getElem?_eq_some_iff.1 HR3.out).1).trans HR3.out);have HB4:=Lib.hid (below_next HB3.out hb3);clear hb3;obtain ⟨s0,s1,f0,f1,sl⟩:=fi_facts HR4.out))
    refine bodyPost_ret (sbRes2 rfl _ _ r _ _ rfl (fi_set HR4.out)) rfl ?_
    exact pres_none HV.out HNE.out (sb_fin (u:=.slice none 0 0) (v:=.slice none 0 0) hrr HR4.out HB4.out).2.1
   case pos =>
    subst hE1
    by_cases hE2:E2 = 0
    case neg =>
     have HV:=Lib.hid (HF2.out (by trivial) hE2)
     have hz1:=errno_ne hE2
     have HNE:=Lib.hid hE2
     clear hE2 HF1 HF2 HF3 HF4
     go_wp2_with (first
      |(go_at_call 65;(with_reducible refine (HDV.out W1).mono ?_);rintro e w2 ⟨v,rfl,ho,hb2⟩;obtain ⟨a5,k5,rfl,hk5,hea,_⟩:=ElAt.of ho;have HEA:=Lib.hid hea;have HKL:=Lib.hid hk5;have HR3:=Lib.hid ((hb2.block r (Array.getElem?_eq_some_iff.1 HR2.out).1).trans HR2.out);have HB3:=Lib.hid (below_next HB2.out hb2);clear ho hb2 hea hk5)
      |(go_at_call 66;(with_reducible refine (HC1.out _ HB3.out _ _ _ HEA.out rfl HKL.out).mono ?_);rintro e w3 ⟨a1,a2,n1,c1,n2,c2,rfl,hok,hb3⟩;have HR4:=Lib.hid ((hb3.block r (Array.getElem?_eq_some_iff.1 HR3.out).1).trans HR3.out);have HB4:=Lib.hid (below_next HB3.out hb3);obtain ⟨_,hn2,hc2,hea2⟩:=hok (by trivial);have HEB:=Lib.hid hea2;have HNB:=Lib.hid hn2;have HCB:=Lib.hid hc2;clear hb3 hok hn2 hc2 hea2)
      |(go_at_call 66;(with_reducible refine (HC2.out _ HB4.out _ _ _ HEB.out HNB.out HCB.out).mono ?_);rintro e w4 ⟨a3,a4,n3,c3,n4,c4,rfl,_,hb4⟩;have HR5:=Lib.hid ((hb4.block r (Array.getElem?_eq_some_iff.1 HR4.out).1).trans HR4.out);have HB5:=Lib.hid (below_next HB4.out hb4);clear hb4;obtain ⟨s0,s1,f0,f1,sl⟩:=fi_facts HR5.out))
     refine bodyPost_ret (sbRes2 rfl _ _ r _ _ rfl (fi_set HR5.out)) rfl ?_
     exact pres_none HV.out HNE.out (sb_fin (u:=.slice none 0 0) (v:=.slice none 0 0) hrr HR5.out HB5.out).2.1
    case pos =>
     subst hE2
     go_upto_region 13 with (first
      |(go_at_call 65;(with_reducible refine (HDV.out W1).mono ?_);rintro e w2 ⟨v,rfl,ho,hb2⟩;obtain ⟨a5,k5,rfl,hk5,hea,_⟩:=ElAt.of ho;have HEA:=Lib.hid hea;have HKL:=Lib.hid hk5;have HR3:=Lib.hid ((hb2.block r (Array.getElem?_eq_some_iff.1 HR2.out).1).trans HR2.out);have HB3:=Lib.hid (below_next HB2.out hb2);clear ho hb2 hea hk5)
      |(go_at_call 66;(with_reducible refine (HC1.out _ HB3.out _ _ _ HEA.out rfl HKL.out).mono ?_);rintro e w3 ⟨a1,a2,n1,c1,n2,c2,rfl,hok,hb3⟩;have HR4:=Lib.hid ((hb3.block r (Array.getElem?_eq_some_iff.1 HR3.out).1).trans HR3.out);have HB4:=Lib.hid (below_next HB3.out hb3);obtain ⟨hl1,hn2,hc2,hea2⟩:=hok (by trivial);have HG1:=Lib.hid hl1;have HEB:=Lib.hid hea2;have HNB:=Lib.hid hn2;have HCB:=Lib.hid hc2;clear hb3 hok hn2 hc2 hea2 hl1)
      |(go_at_call 66;(with_reducible refine (HC2.out _ HB4.out _ _ _ HEB.out HNB.out HCB.out).mono ?_);rintro e w4 ⟨a3,a4,n3,c3,n4,c4,rfl,hok,hb4⟩;have HR5:=Lib.hid ((hb4.block r (Array.getElem?_eq_some_iff.1 HR4.out).1).trans HR4.out);have HB5:=Lib.hid (below_next HB4.out hb4);have HG1':=Lib.hid (show n1 = G1.length ∧ n1 ≤ c1 ∧ (a1 = none → c1 = 0) ∧ LieG w4 a1 n1 G1 from ⟨HG1.out.1,HG1.out.2.1,HG1.out.2.2.1,HG1.out.2.2.2.below hb4⟩);obtain ⟨hl2,hn4,_,_⟩:=hok (by trivial);have HG2:=Lib.hid hl2;have HN4:=Lib.hid hn4;clear hb4 hok hl2 hn4;obtain ⟨s0,s1,f0,f1,sl⟩:=fi_facts HR5.out))
     have HFN:=Lib.hid (sb_fin (u:=.slice a1 n1 c1) (v:=.slice a3 n3 c3) hrr HR5.out HB5.out)
     by_cases h0:n4 = 0
     ·have hd:decide ((0:Int) < (n4:Int)) = false:=decide_eq_false (by omega)
      have hd2:decide (0 < n4) = false:=decide_eq_false (by omega)
      have HV:=Lib.hid (HF4.out (by trivial) (by trivial) (List.eq_nil_of_length_eq_zero (by rw [← HN4.out];exact h0)))
      clear h0 HF1 HF2 HF3 HF4 HC1 HC2
      go_wp2_with fail
      exact bodyPost_ret (sbRes2 rfl _ _ r _ _ rfl (fi_set HR5.out)) rfl ⟨a1,a3,n1,c1,n3,c3,by rw [HV.out];rfl,fun _ => by
       rw [HV.out]
       exact ⟨⟨HG1'.out.1,HG1'.out.2.1,HG1'.out.2.2.1,HG1'.out.2.2.2.apart HR5.out (by decide) (by decide) (by decide) HFN.out.2.2⟩,HG2.out.1,HG2.out.2.1,HG2.out.2.2.1,HG2.out.2.2.2.apart HR5.out (by decide) (by decide) (by decide) HFN.out.2.2⟩,HFN.out.2.1⟩
     ·have hd:decide ((0:Int) < (n4:Int)) = true:=decide_eq_true (by omega)
      have hd2:decide (0 < n4) = true:=decide_eq_true (by omega)
      have HV:=Lib.hid (HF3.out (by trivial) (by trivial) (fun h => h0 (by rw [HN4.out,h];rfl)))
      clear h0 HF1 HF2 HF3 HF4 HC1 HC2
      go_wp2_with fail
      refine bodyPost_ret (sbRes2 rfl _ _ r _ _ rfl (fi_set HR5.out)) rfl ?_
      exact pres_none HV.out (by decide) (sb_fin (u:=.slice none 0 0) (v:=.slice none 0 0) hrr HR5.out HB5.out).2.1
set_option maxRecDepth 100000 in
set_option maxHeartbeats 8000000 in
theorem decs_core (b:ByteArray) (w:World) (hs:b.size ≤ 150000) (hT:Tab w) (hP:Pow10 w) (hmk:Mk w) :
  Calls Tryz.prog 20 #[.string b] w fun e w' => SRes w (decSub b) e w':=by
 obtain ⟨W0,hW0⟩:∃ W0,W0 = w.alloc (.cells #[.slice none 0 0,.slice none 0 0] 24):=⟨_,rfl⟩
 have hb0:Below w.heap.size w W0:=by rw [hW0];exact belowNew w _
 obtain ⟨r,hr⟩:∃ r,r = w.heap.size:=⟨_,rfl⟩
 have hq0:W0.heap[r]? = some (.cells #[.slice none 0 0,.slice none 0 0] 24 (0,0)):=by rw [hW0,hr];exact heap_alloc_new w _
 have lr:r < W0.heap.size:=(Array.getElem?_eq_some_iff.1 hq0).1
 have hrr:w.heap.size ≤ r:=by omega
 have HWR:=Lib.hid hW0.symm
 have HRE:=Lib.hid hr
 have HB0:=Lib.hid hb0
 have HQ0:=Lib.hid hq0
 have HPT:=Lib.hid (dparts_core b W0 hs (hT.below hb0) (hP.below hb0) (hmk.below hb0))
 unfold PRes at HPT
 have hsm:=prtB_small hs
 have HTT:=Lib.hid (fun W (hb:Below w.heap.size w W) => And.intro (hT.below hb) (hmk.below hb))
 rw [decSub_prt]
 generalize prtB b = R at HPT hsm
 obtain ⟨E,A,B⟩:=R
 simp only at HPT hsm
 have HSM:=Lib.hid hsm
 have HZ1:=Lib.hid (fun h => endS_err (R:=(E,A,B)) h)
 have HZ2:=Lib.hid (fun h h2 => endS_bad (R:=(E,A,B)) h h2)
 have HZ3:=Lib.hid (fun h h2 => endS_ok (R:=(E,A,B)) h h2)
 obtain ⟨Z,hZ⟩:∃ Z,Z = endS (E,A,B):=⟨_,rfl⟩
 rw [← hZ] at HZ1 HZ2 HZ3 ⊢
 clear hW0 hq0 hr hb0 hT hP hmk hsm hZ
 go_enter Tryz.func20,Tryz.ntmps20
 go_upto_region 1 with fail
 rw [HWR.out,← HRE.out]
 go_upto_region 2 with (go_at_call 38;(with_reducible refine HPT.out.mono ?_);rintro e w1 ⟨a1,a2,n1,c1,n2,c2,rfl,hok,hb1⟩;have HOK:=Lib.hid hok;have HR1:=Lib.hid ((hb1.block r lr).trans HQ0.out);have HB1:=Lib.hid (below_next HB0.out hb1);clear hb1 hok)
 obtain ⟨W1,hW1⟩:∃ W1,W1 = w1.alloc (.cells #[.slice a1 n1 c1,.slice a2 n2 c2] 24):=⟨_,rfl⟩
 obtain ⟨g,hg⟩:∃ g,g = w1.heap.size:=⟨_,rfl⟩
 have hbb:Below w1.heap.size w1 W1:=by rw [hW1];exact belowNew w1 _
 have hqg:W1.heap[g]? = some (.cells #[.slice a1 n1 c1,.slice a2 n2 c2] 24 (0,0)):=by rw [hW1,hg];exact heap_alloc_new w1 _
 have HQG:=Lib.hid hqg
 obtain ⟨e0,e1,el⟩:=two_facts hqg
 have HR2:=Lib.hid ((hbb.block r (Array.getElem?_eq_some_iff.1 HR1.out).1).trans HR1.out)
 have HB2:=Lib.hid (below_next HB1.out hbb)
 have HBB:=Lib.hid hbb
 rw [← hW1,← hg]
 clear hW1 hg hbb hqg
 obtain ⟨s0,s1,f0,f1,sl⟩:=fi_facts HR2.out
 by_cases hz:E = 0
 case neg =>
  have hz1:=errno_ne hz
  have hz2:((E:Int) == 0) = false:=by simp;omega
  have HV:=Lib.hid (show Z = (E,([],[])) from HZ1.out hz)
  clear hz HZ1 HZ2 HZ3
  go_wp2_with fail
  refine bodyPost_ret (sbRes2 rfl _ _ r _ _ rfl (fi_set HR2.out)) rfl ?_
  exact sres_none HV.out (sb_fin (u:=.slice none 0 0) (v:=.slice none 0 0) hrr HR2.out HB2.out).2.1
 case pos =>
  subst hz
  obtain ⟨⟨hn1,hc1,hz1,hg1⟩,hn2,hc2,hz2,hg2⟩:=HOK.out (by trivial)
  have HG1:=Lib.hid (hg1.below HBB.out)
  have HG2:=Lib.hid (hg2.below HBB.out)
  have HCK:=Lib.hid (chks_core a1 a2 c1 c2 n1 n2 (A,B) W1 HG1.out.lies HG2.out.lies hn1 hn2 (by rw [hn1];have:=HSM.out.1.2;omega) (by rw [hn2];have:=HSM.out.2.2;omega) HSM.out.1.1 HSM.out.2.1 (HTT.out W1 HB2.out).1 (HTT.out W1 HB2.out).2)
  have HN1:=Lib.hid (And.intro hn1 (And.intro hc1 hz1))
  have HN2:=Lib.hid (And.intro hn2 (And.intro hc2 hz2))
  clear hn1 hc1 hz1 hg1 hn2 hc2 hz2 hg2 HOK
  obtain ⟨C,hC⟩:∃ C,C = chkS (A,B):=⟨_,rfl⟩
  rw [← hC] at HCK
  by_cases hcz:C = 0
  ·have HV:=Lib.hid (show Z = (0,A,B) from HZ3.out (by trivial) (by rw [← hC,hcz]))
   subst hcz
   clear hC HZ1 HZ2 HZ3
   go_wp2_with (go_at_call 16;(with_reducible refine HCK.out.mono ?_);rintro e w3 ⟨rfl,hb3⟩;have HR3:=Lib.hid ((hb3.block r sl).trans HR2.out);have HB3:=Lib.hid (below_next HB2.out hb3);have hq3:=(hb3.block g el).trans HQG.out;obtain ⟨x0,x1,xl⟩:=two_facts hq3;have HG13:=Lib.hid (HG1.out.below hb3);have HG23:=Lib.hid (HG2.out.below hb3);clear hb3 hq3;obtain ⟨t0,t1,k0,k1,tl⟩:=fi_facts HR3.out)
   have HFN:=Lib.hid (sb_fin (u:=.slice a1 n1 c1) (v:=.slice a2 n2 c2) hrr HR3.out HB3.out)
   exact bodyPost_ret (sbRes2 rfl _ _ r _ _ rfl (fi_set HR3.out)) rfl ⟨a1,a2,n1,c1,n2,c2,by rw [HV.out];rfl,by rw [HV.out];exact ⟨HN1.out.1,HN1.out.2.1,HN1.out.2.2,HG13.out.apart HR3.out (by decide) (by decide) (by decide) HFN.out.2.2⟩,by rw [HV.out];exact ⟨HN2.out.1,HN2.out.2.1,HN2.out.2.2,HG23.out.apart HR3.out (by decide) (by decide) (by decide) HFN.out.2.2⟩,HFN.out.2.1⟩
  ·have hz1:=errno_ne hcz
   have HV:=Lib.hid (show Z = (C,([],[])) from by rw [hC];exact HZ2.out (by trivial) (by rw [← hC];exact hcz))
   clear hC hcz HZ1 HZ2 HZ3
   go_wp2_with (go_at_call 16;(with_reducible refine HCK.out.mono ?_);rintro e w3 ⟨rfl,hb3⟩;have HR3:=Lib.hid ((hb3.block r sl).trans HR2.out);have HB3:=Lib.hid (below_next HB2.out hb3);clear hb3;obtain ⟨t0,t1,k0,k1,tl⟩:=fi_facts HR3.out)
   refine bodyPost_ret (sbRes2 rfl _ _ r _ _ rfl (fi_set HR3.out)) rfl ?_
   exact sres_none HV.out (sb_fin (u:=.slice none 0 0) (v:=.slice none 0 0) hrr HR3.out HB3.out).2.1
end Go.Proofs.YtbpdenfiifcfcaaGreatDoor
