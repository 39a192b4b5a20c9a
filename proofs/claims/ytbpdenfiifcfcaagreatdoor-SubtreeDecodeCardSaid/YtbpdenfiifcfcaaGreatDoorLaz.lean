/-
  The contract of decodeRelative: the attributes of an element, or the first error.
  The contract of decodeRelative: the attributes of an element, or the first error.
  The contract of Parse: the name that a text denotes, or the error.
  The contracts of decodeName and Decode: the name that bytes say, or the error.
-/
import Derived.Test.YtbpdenfiifcfcaaGreatDoorLay
import Derived.Test.YtbpdenfiifcfcaaGreatDoorLai
namespace Go.Proofs.YtbpdenfiifcfcaaGreatDoor
open Go.RowKit
/-- What was read so far,ahead of what is left. -/
def aheadA {β:Type} (D:List β) (p:Nat × List β):Nat × List β:=if p.1 ≠ 0 then (p.1,[]) else (0,D ++ p.2)
theorem aheadA_nil {β:Type} {p:Nat × List β} (h:p.1 ≠ 0 → p.2 = []):aheadA [] p = p:=by
 obtain ⟨e,r⟩:=p
 unfold aheadA
 by_cases he:e = 0
 ·subst he;simp
 ·have h2:=h he
  simp only at h2
  subst h2
  simp [he]
theorem decAs_err:∀ {l:List El},(decAs l).1 ≠ 0 → (decAs l).2 = []
 |[],h => absurd rfl h
 |e :: r,h => by
  unfold decAs at h ⊢
  by_cases h1:(decA e).1 ≠ 0
  ·rw [if_pos h1]
  ·rw [if_neg h1] at h ⊢
   by_cases h2:(decAs r).1 ≠ 0
   ·rw [if_pos h2]
   ·rw [if_neg h2] at h;exact absurd rfl h
abbrev noEle:El:=(0,⟨#[]⟩,⟨#[]⟩)
theorem decAs_step {l:List El} {k:Nat} (h:k < l.length) (h0:(decA (l.getD k noEle)).1 = 0) (D:List At):aheadA D (decAs (l.drop k)) = aheadA (D ++ [(decA (l.getD k noEle)).2]) (decAs (l.drop (k + 1))):=by
 rw [dropD l k h noEle]
 show aheadA D (if (decA (l.getD k noEle)).1 ≠ 0 then _ else _) = _
 rw [if_neg (by simpa using h0)]
 by_cases h2:(decAs (l.drop (k + 1))).1 ≠ 0
 ·rw [if_pos h2];unfold aheadA;rw [if_pos h2,if_pos h2]
 ·rw [if_neg h2];unfold aheadA;rw [if_neg (by simp),if_neg h2];simp
theorem decAs_bad {l:List El} {k:Nat} (h:k < l.length) (h0:(decA (l.getD k noEle)).1 ≠ 0) (D:List At):aheadA D (decAs (l.drop k)) = ((decA (l.getD k noEle)).1,[]):=by
 rw [dropD l k h noEle]
 show aheadA D (if (decA (l.getD k noEle)).1 ≠ 0 then _ else _) = _
 rw [if_pos h0];unfold aheadA;rw [if_pos h0]
theorem decAs_end {l:List El} {k:Nat} (h:l.length ≤ k) (D:List At):aheadA D (decAs (l.drop k)) = (0,D):=by
 rw [List.drop_eq_nil_of_le h];simp [aheadA,decAs]
/-! ### A row of attributes that is filled one by one -/
def rowA (n:Nat) (L:List At):Array Value:=(atsCells (L ++ List.replicate (n - L.length) noAt)).toArray
theorem set_mid {α:Type} (A B:List α) (x y:α) (k:Nat) (h:k = A.length):(A ++ x :: B).set k y = A ++ y :: B:=by subst h;simp
theorem rowA_snoc (n:Nat) (L:List At) (a:At) (k:Nat) (hk:k = L.length) (h:k < n) :
  (((rowA n L).setIfInBounds (k * 3) (.string a.1)).setIfInBounds (k * 3 + 1) (.int .i64 a.2.1)).setIfInBounds (k * 3 + 2) (.string a.2.2) = rowA n (L ++ [a]):=by
 obtain ⟨m,hm⟩:∃ m,n - L.length = m + 1:=⟨n - L.length - 1,by omega⟩
 have hm2:n - (L ++ [a]).length = m:=by simp;omega
 have e1:atsCells (L ++ List.replicate (n - L.length) noAt) = atsCells L ++ (.string ⟨#[]⟩ :: .int .i64 0 :: .string ⟨#[]⟩ :: atsCells (List.replicate m noAt)):=by
  rw [hm,List.replicate_succ,atsCells_append];rfl
 have e2:atsCells ((L ++ [a]) ++ List.replicate (n - (L ++ [a]).length) noAt) = atsCells L ++ (.string a.1 :: .int .i64 a.2.1 :: .string a.2.2 :: atsCells (List.replicate m noAt)):=by
  rw [hm2,atsCells_append,atsCells_append,List.append_assoc];rfl
 have hl:k * 3 = (atsCells L).length:=by rw [atsCells_length,hk]
 unfold rowA
 rw [e1,e2]
 simp only [List.setIfInBounds_toArray]
 congr 1
 rw [set_mid _ _ _ _ _ hl]
 have h2:=set_mid (atsCells L ++ [.string a.1]) (.string ⟨#[]⟩ :: atsCells (List.replicate m noAt)) (Value.int .i64 0) (.int .i64 a.2.1) (k * 3 + 1) (by simp [hl])
 simp only [List.append_assoc,List.singleton_append] at h2
 rw [h2]
 have h3:=set_mid (atsCells L ++ [.string a.1,.int .i64 a.2.1]) (atsCells (List.replicate m noAt)) (Value.string ⟨#[]⟩) (.string a.2.2) (k * 3 + 2) (by simp [hl])
 simpa using h3
theorem rowA_size (n:Nat) (L:List At) (h:L.length ≤ n):(rowA n L).size = n * 3:=by
 unfold rowA
 rw [List.size_toArray,atsCells_length]
 simp;omega
theorem rowA_put {w:World} {g n k:Nat} {L:List At} {a:At} {T:TypeId} (h:w.heap[g]? = some (.cells (rowA n L) T (0,0))) (hk:k = L.length) (hn:k < n) :
  (((w.setCell ⟨g,k * 3,none⟩ (.string a.1)).setCell ⟨g,k * 3 + 1,none⟩ (.int .i64 a.2.1)).setCell ⟨g,k * 3 + 2,none⟩ (.string a.2.2)).heap[g]? = some (.cells (rowA n (L ++ [a])) T (0,0)):=by
 rw [← rowA_snoc n L a k hk hn]
 simp [World.setCell,Array.getElem?_modify,h]
theorem rowA_cells {w:World} {g n k:Nat} {L:List At} {T:TypeId} (h:w.heap[g]? = some (.cells (rowA n L) T (0,0))) (hl:L.length ≤ n) (hn:k < n) (j:Nat) (hj:j < 3):(∃ v,w.cell? ⟨g,k * 3 + j,none⟩ = some v) ∧ w.frozen? ⟨g,k * 3 + j,none⟩ = false:=by
 refine ⟨⟨(rowA n L)[k * 3 + j]'(by rw [rowA_size n L hl];omega),?_⟩,Lib.frozen_of_heap h _⟩
 rw [Lib.cell_of_heap h,Array.getElem?_eq_getElem]
theorem ats_make (n:Nat) (hn:n ≤ 1099511627) (W:World):(Instr.makeSlice 84 (.int .i64 (n:Int)) (.int .i64 (n:Int))).run Tryz.prog W = .ok (.slice (some ⟨W.heap.size,0,none⟩) n n) (W.alloc (.cells (rowA n []) 86)):=by
 obtain ⟨i0,hi,hz0,hz1,hz2⟩:=info_parts atInfo
 have hr:=run_make (P:=Tryz.prog) W 84 86 i0 (.agg #[.string ⟨#[]⟩,.int .i64 0,.string ⟨#[]⟩]) Tryz.underlying84 hi hz0 .i64 .i64 (n:Int) (n:Int) (by omega) (Int.le_refl _) (by rw [hz2];omega) (by omega)
 rw [hr]
 have e2:madeCells (Value.agg #[.string ⟨#[]⟩,.int .i64 0,.string ⟨#[]⟩]).cells ((n:Int).toNat * i0.size) = rowA n []:=by
  rw [hz1]
  apply Array.ext
  ·rw [rowA_size n [] (by simp)];simp [madeCells]
  ·intro i h1 h2
   rw [rowA_size n [] (by simp)] at h2
   have e:i = i / 3 * 3 + i % 3:=by omega
   have hc:=ats_at (List.replicate n noAt) (i / 3) (by simp;omega) (i % 3) (by omega)
   have hc2:(rowA n [])[i]? = (atCells noAt)[i % 3]?:=by
    unfold rowA
    rw [List.getElem?_toArray]
    have:([]:List At) ++ List.replicate (n - ([]:List At).length) noAt = List.replicate n noAt:=by simp
    rw [this]
    conv => lhs;rw [e]
    rw [hc,List.getD_eq_getElem?_getD,List.getElem?_replicate]
    split <;> rfl
   have h3:i % 3 < 3:=by omega
   rw [Array.getElem?_eq_getElem (by rw [rowA_size n [] (by simp)];exact h2)] at hc2
   simp only [madeCells,Value.cells]
   rcases (by omega:i % 3 = 0 ∨ i % 3 = 1 ∨ i % 3 = 2) with h | h | h <;> rw [h] at hc2 <;> simp [h] <;> exact (Option.some.inj hc2).symm
 rw [e2]
 simp
theorem rowA_own {w:World} {B g n:Nat} {L:List At} (h:w.heap[g]? = some (.cells (rowA n L) 86 (0,0))) (hB:B ≤ g) (hl:L.length = n) (hn:n ≤ 1099511627):OwnA w B (.slice (some ⟨g,0,none⟩) n n) L:=by
 subst hl
 have e:rowA L.length L = (atsCells L).toArray:=by unfold rowA;simp
 rw [e] at h
 refine ⟨atsCells_length L,.inr ⟨g,L.length,_,rfl,hB,h,Nat.le_refl _,?_,?_,?_⟩⟩
 ·unfold maxLen;omega
 ·rw [List.size_toArray,atsCells_length]
 ·exact List.take_of_length_le (by simp [atsCells_length])
theorem ascB_iff {l:List El} {b:Bool} (h:b = true ↔ ascP l l.length):b = ascB l:=by
 unfold ascB
 cases b with
 |true => exact (@decide_eq_true _ (Classical.propDecidable _) (h.1 rfl)).symm
 |false => exact (@decide_eq_false _ (Classical.propDecidable _) (fun k => by cases h.2 k)).symm
set_option maxRecDepth 100000 in
set_option maxHeartbeats 8000000 in
theorem decrel_any (x:El) (w:World) (hx:x.2.1.size ≤ 1099511627) (hP:Pow10 w) :
  Calls Tryz.prog 206 #[elV x.1 x.2.1 x.2.2] w fun e w' => ∃ v,e = .returned (.tuple #[v,.int .i64 (((decR x).1:Nat):Int)]) ∧ OwnA w' w.heap.size v (decR x).2 ∧ Below w.heap.size w w':=by
 obtain ⟨E,A,hEA⟩:∃ E A,decR x = (E,A):=⟨_,_,rfl⟩
 have HRES:=Lib.hid (show (E,A) = decR x from hEA.symm)
 rw [hEA]
 clear hEA
 obtain ⟨t,ct,rw0⟩:=x
 unfold decR at HRES
 unfold elV
 simp only at hx HRES ⊢
 have q0:=heap_alloc_new w (.cells #[.int .i64 ((t:Nat):Int),.string ct,.string rw0] 67)
 obtain ⟨e0,e1,e2,_,_,_,el⟩:=at_facts q0
 by_cases ht:t = 49
 case neg =>
  obtain ⟨rfl,rfl⟩:E = 5 ∧ A = []:=by have:=HRES.out;rw [if_pos ht] at this;simpa using this
  have hd:((t:Int) != 49) = true:=by simp;omega
  clear ht q0
  go_enter Tryz.func206,Tryz.ntmps206
  go_wp2_with fail
  go_ret2
  exact ⟨_,rfl,OwnA.nil _ _,belowNew w _⟩
 have hd:((t:Int) != 49) = false:=by rw [ht];rfl
 obtain ⟨W0,hW0⟩:∃ W0,W0 = w.alloc (.cells #[.int .i64 ((t:Nat):Int),.string ct,.string rw0] 67):=⟨_,rfl⟩
 have HRE:=Lib.hid (show (E,A) = if (lst ct).2 ≠ 0 then ((lst ct).2,[]) else if ascB (lst ct).1 = false then (9,[]) else decAs (lst ct).1 by have:=HRES.out;rwa [if_neg (by simpa using ht)] at this)
 have hb0:Below w.heap.size w W0:=by rw [hW0];exact belowNew w _
 rw [← hW0] at e0 e1 e2 el
 have HLS:=Lib.hid (list_any ct W0 (Nat.le_trans hx (by omega)))
 have HMEM:=Lib.hid (fun z (hz:z ∈ (lst ct).1) => Nat.le_trans (lst_mem _ ct (Nat.le_refl _) z hz) hx)
 have hlen:=lst_length ct _ (Nat.le_refl _)
 have HWE:=Lib.hid hW0.symm
 have HB0:=Lib.hid hb0
 have HP0:=Lib.hid (hP.below hb0)
 generalize lst ct = LE at HLS HMEM hlen HRE
 obtain ⟨l,er⟩:=LE
 simp only at HLS HMEM hlen HRE
 have hwe:=hW0.symm
 clear HRES ht q0 hW0 hb0 hP
 go_enter Tryz.func206,Tryz.ntmps206
 go_wp2_with fail
 clear hwe
 refine HLS.out.mono ?_
 rintro e w1 ⟨v1,rfl,ho1,hb1⟩
 have HOE:=Lib.hid ho1
 obtain ⟨a,c,rfl,hlc,hel,hbk⟩:=ElAt.of ho1
 obtain ⟨n,hn⟩:∃ n,n = l.length:=⟨_,rfl⟩
 rw [← hn] at hlc hlen HOE ⊢
 have HN:=Lib.hid hn
 have hnz:n ≤ 1099511627:=by omega
 have HEL:=Lib.hid hel
 have HB1:=Lib.hid (below_next HB0.out hb1)
 have HP1:=Lib.hid (HP0.out.below hb1)
 clear ho1 hel hbk hb1 hn e0 e1 e2 el
 by_cases hz:er = 0
 case neg =>
  obtain ⟨rfl,rfl⟩:E = er ∧ A = []:=by have:=HRE.out;rw [if_pos hz] at this;simpa using this
  have hz1:=errno_ne hz
  clear hz
  go_wp2_with fail
  go_ret2
  exact ⟨_,rfl,OwnA.nil _ _,HB1.out⟩
 subst hz
 have HR2:=Lib.hid (show (E,A) = if ascB l = false then (9,[]) else decAs l by have:=HRE.out;rwa [if_neg (by simp)] at this)
 clear HRE
 have HAS:=Lib.hid (asc_any _ _ l w1 HOE.out (by have:=HN.out;omega))
 go_wp2_with fail
 refine HAS.out.mono ?_
 rintro e w2 ⟨⟨bb,rfl,hbb⟩,hb2⟩
 have hab:=ascB_iff hbb
 have HAB:=Lib.hid hab
 have HB2:=Lib.hid (below_next HB1.out hb2)
 have HEL2:=Lib.hid (HEL.out.below hb2)
 have HP2:=Lib.hid (HP1.out.below hb2)
 clear hbb hb2 hab
 cases bb with
 |false =>
  obtain ⟨rfl,rfl⟩:E = 9 ∧ A = []:=by have:=HR2.out;rw [if_pos HAB.out.symm] at this;simpa using this
  go_wp2_with fail
  go_ret2
  exact ⟨_,rfl,OwnA.nil _ _,HB2.out⟩
 |true =>
  have HRA:=Lib.hid (show (E,A) = aheadA [] (decAs (l.drop 0)) by
   have:=HR2.out
   rw [if_neg (by rw [← HAB.out];decide)] at this
   rw [this,List.drop_zero,aheadA_nil decAs_err])
  clear HR2
  have hmk:=ats_make n (by omega)
  obtain ⟨g,hg⟩:∃ g,g = w2.heap.size:=⟨_,rfl⟩
  obtain ⟨W3,hW3⟩:∃ W3,W3 = w2.alloc (.cells (rowA n []) 86):=⟨_,rfl⟩
  have hq3:W3.heap[g]? = some (.cells (rowA n []) 86 (0,0)):=by rw [hW3,hg];exact heap_alloc_new w2 _
  have hb3:Below w2.heap.size w2 W3:=by rw [hW3];exact belowNew w2 _
  have HQ3:=Lib.hid hq3
  have HB3:=Lib.hid (below_next HB2.out hb3)
  have HEL3:=Lib.hid (HEL2.out.below hb3)
  have HP3:=Lib.hid (HP2.out.below hb3)
  have HW3:=Lib.hid hW3.symm
  have HG:=Lib.hid hg
  have hwg:w.heap.size ≤ g:=by rw [hg];exact HB2.out.size
  have hgW:g < W3.heap.size:=(Array.getElem?_eq_some_iff.1 hq3).1
  clear hq3 hb3 hW3 hg
  go_wp2_with fail
  rw [HW3.out,← HG.out]
  clear hmk
  go_loopw [29] (fun i wr => ∃ (k:Nat) (D:List At),k ≤ n ∧ i = .int .i64 (k:Int) ∧ D.length = k ∧ (E,A) = aheadA D (decAs (l.drop k)) ∧ wr.heap[g]? = some (.cells (rowA n D) 86 (0,0)) ∧ But g W3 wr) (fun i _ => n - (intOf i).toNat)
  case atStart => exact ⟨0,[],Nat.zero_le _,rfl,rfl,HRA.out,HQ3.out,But.refl _ _⟩
  case round =>
   obtain ⟨k,D,hk,rfl,hDk,hA,hq,hb⟩:=hrel
   have HQ:=Lib.hid hq
   have HB:=Lib.hid hb
   have HA:=Lib.hid hA
   have HDK:=Lib.hid hDk
   have HBW:=Lib.hid (show Below w.heap.size w wr from HB3.out.trans ((hb.below (Nat.le_of_lt hgW)).mono hwg))
   clear hq hb hA hDk
   by_cases hlt:k < n
   ·have hd':decide ((k:Int) < (n:Int)) = true:=by simp;omega
    obtain ⟨b,o,rfl,hcl⟩:=HEL2.out.resolve_left (fun e => by have:=HN.out;rw [e] at this;simp at this;omega)
    obtain ⟨x0,x1,x2⟩:=hcl k (by rw [← HN.out];exact hlt)
    have hbe:=(HB.out.below (Nat.le_of_lt hgW))
    have HB23:Below g W3 wr:=hbe
    have hw23:Below g w2 W3:=by rw [← HW3.out,HG.out];exact belowNew w2 _
    have hbg:b < g:=by rw [HG.out];exact block_lt x0
    have c0:=((hw23.trans HB23).cell (p:=⟨b,o + k * 3,none⟩) hbg).trans x0
    have c1:=((hw23.trans HB23).cell (p:=⟨b,o + k * 3 + 1,none⟩) hbg).trans x1
    have c2:=((hw23.trans HB23).cell (p:=⟨b,o + k * 3 + 2,none⟩) hbg).trans x2
    have hki:(k:Int) < (n:Int):=by omega
    have hmz:=HMEM.out (l.getD k noEle) (by rw [List.getD_eq_getElem?_getD,List.getElem?_eq_getElem (by rw [← HN.out];exact hlt)];exact List.getElem_mem _)
    have HST:=Lib.hid (fun h0 => decAs_step (l:=l) (k:=k) (by rw [← HN.out];exact hlt) h0 D)
    have HBD:=Lib.hid (fun h0 => decAs_bad (l:=l) (k:=k) (by rw [← HN.out];exact hlt) h0 D)
    generalize l.getD k noEle = y at c0 c1 c2 hmz HST HBD
    have HPW:=Lib.hid (show Pow10 wr from HP2.out.below (by rw [← HG.out];exact hw23.trans HB23))
    obtain ⟨yt,yc,yr⟩:=y
    have HDA:=Lib.hid (fun W h => deca_any (yt,yc,yr) W hmz h)
    unfold elV at HDA
    obtain ⟨eA,aA,hda⟩:∃ eA aA,decA (yt,yc,yr) = (eA,aA):=⟨_,_,rfl⟩
    rw [hda] at HST HBD HDA
    obtain ⟨at1,at2,at3⟩:=aA
    unfold atV at HDA
    simp only at c0 c1 c2 HDA HST HBD
    have hgl:g < wr.heap.size:=(Array.getElem?_eq_some_iff.1 HQ.out).1
    clear x0 x1 x2 hcl hmz hda hbe HB23 hw23
    go_wp2_with fail
    refine (HDA.out _ (HPW.out.below (belowNew wr _))).mono ?_
    rintro e w5 ⟨rfl,hb5⟩
    have hbn:Below wr.heap.size wr w5:=below_next (belowNew wr _) hb5
    have hq5:=(hbn.block g hgl).trans HQ.out
    obtain ⟨⟨u0,m0⟩,z0⟩:=rowA_cells hq5 (by have:=HDK.out;omega) hlt 0 (by omega)
    obtain ⟨⟨u1,m1⟩,z1⟩:=rowA_cells hq5 (by have:=HDK.out;omega) hlt 1 (by omega)
    obtain ⟨⟨u2,m2⟩,z2⟩:=rowA_cells hq5 (by have:=HDK.out;omega) hlt 2 (by omega)
    rw [Nat.add_zero] at m0 z0
    have HQ5:=Lib.hid hq5
    have HB5:=Lib.hid (HB.out.next (But.of hbn))
    have HBW5:=Lib.hid (below_next HBW.out hbn)
    have hs:=(((HB5.out.next (But.set g (k * 3) w5 (.string at1))).next (But.set g (k * 3 + 1) _ (.int .i64 at2))).next (But.set g (k * 3 + 2) _ (.string at3)))
    have HS:=Lib.hid hs
    clear hb5 hbn hq5 hs c0 c1 c2
    by_cases hz:eA = 0
    ·subst hz
     have HF:=Lib.hid (show (E,A) = aheadA (D ++ [(at1,at2,at3)]) (decAs (l.drop (k + 1))) from HA.out.trans (HST.out rfl))
     go_wp2_with fail
     go_roundw
     case rel => exact ⟨k + 1,D ++ [(at1,at2,at3)],by omega,by go_num,by rw [List.length_append,HDK.out];rfl,HF.out,rowA_put (L:=D) (a:=(at1,at2,at3)) HQ5.out HDK.out.symm hlt,HS.out⟩
     case measure => simp [intOf];omega
    ·obtain ⟨rfl,rfl⟩:E = eA ∧ A = []:=by have:=HA.out.trans (HBD.out hz);simpa using this
     have hz1:=errno_ne hz
     clear hz
     go_wp2_with fail
     go_ret2
     exact ⟨_,rfl,OwnA.nil _ _,(((HBW5.out.setCell (p:=⟨g,k * 3,none⟩) hwg _).setCell (p:=⟨g,k * 3 + 1,none⟩) hwg _).setCell (p:=⟨g,k * 3 + 2,none⟩) hwg _)⟩
   ·have hd':decide ((k:Int) < (n:Int)) = false:=by simp;omega
    obtain ⟨rfl,rfl⟩:E = 0 ∧ A = D:=by have:=HA.out;rw [decAs_end (by rw [← HN.out];omega)] at this;simpa using this
    go_wp2_with fail
    go_ret2
    exact ⟨_,rfl,rowA_own HQ.out hwg (by have:=HDK.out;omega) hnz,HBW.out⟩
theorem getD_mem {α:Type} {l:List α} {i:Nat} (h:i < l.length) (d:α):l.getD i d = l[i]:=by rw [List.getD_eq_getElem?_getD,List.getElem?_eq_getElem h];rfl
theorem decRs_err:∀ {l:List El},(decRs l).1 ≠ 0 → (decRs l).2 = []
 |[],h => absurd rfl h
 |e :: r,h => by
  unfold decRs at h ⊢
  by_cases h1:(decR e).1 ≠ 0
  ·rw [if_pos h1]
  ·rw [if_neg h1] at h ⊢
   by_cases h2:(decRs r).1 ≠ 0
   ·rw [if_pos h2]
   ·rw [if_neg h2] at h;exact absurd rfl h
theorem decRs_step {l:List El} {k:Nat} (h:k < l.length) (h0:(decR (l.getD k noEle)).1 = 0) (D:Nm):aheadA D (decRs (l.drop k)) = aheadA (D ++ [(decR (l.getD k noEle)).2]) (decRs (l.drop (k + 1))):=by
 rw [dropD l k h noEle]
 show aheadA D (if (decR (l.getD k noEle)).1 ≠ 0 then _ else _) = _
 rw [if_neg (by simpa using h0)]
 by_cases h2:(decRs (l.drop (k + 1))).1 ≠ 0
 ·rw [if_pos h2];unfold aheadA;rw [if_pos h2,if_pos h2]
 ·rw [if_neg h2];unfold aheadA;rw [if_neg (by simp),if_neg h2];simp
theorem decRs_bad {l:List El} {k:Nat} (h:k < l.length) (h0:(decR (l.getD k noEle)).1 ≠ 0) (D:Nm):aheadA D (decRs (l.drop k)) = ((decR (l.getD k noEle)).1,[]):=by
 rw [dropD l k h noEle]
 show aheadA D (if (decR (l.getD k noEle)).1 ≠ 0 then _ else _) = _
 rw [if_pos h0];unfold aheadA;rw [if_pos h0]
theorem decRs_end {l:List El} {k:Nat} (h:l.length ≤ k) (D:Nm):aheadA D (decRs (l.drop k)) = (0,D):=by
 rw [List.drop_eq_nil_of_le h];simp [aheadA,decRs]
/-! ### A row of rows that is filled one by one -/
def rowV (n:Nat) (L:List Value):Array Value:=(L ++ List.replicate (n - L.length) (Value.slice none 0 0)).toArray
theorem rowV_size (n:Nat) (L:List Value) (h:L.length ≤ n):(rowV n L).size = n:=by simp [rowV];omega
theorem rowV_snoc (n:Nat) (L:List Value) (v:Value) (k:Nat) (hk:k = L.length) (h:k < n):(rowV n L).setIfInBounds k v = rowV n (L ++ [v]):=by
 obtain ⟨m,hm⟩:∃ m,n - L.length = m + 1:=⟨n - L.length - 1,by omega⟩
 have hm2:n - (L ++ [v]).length = m:=by simp;omega
 unfold rowV
 rw [hm2,hm,List.replicate_succ,List.setIfInBounds_toArray,set_mid _ _ _ _ _ hk]
 simp
theorem rowV_put {w:World} {g n k:Nat} {L:List Value} {v:Value} {T:TypeId} (h:w.heap[g]? = some (.cells (rowV n L) T (0,0))) (hk:k = L.length) (hn:k < n) :
  (w.setCell ⟨g,k,none⟩ v).heap[g]? = some (.cells (rowV n (L ++ [v])) T (0,0)):=by
 rw [← rowV_snoc n L v k hk hn]
 simp [World.setCell,Array.getElem?_modify,h]
theorem rowV_cells {w:World} {g n k:Nat} {L:List Value} {T:TypeId} (h:w.heap[g]? = some (.cells (rowV n L) T (0,0))) (hl:L.length ≤ n) (hn:k < n):(∃ v,w.cell? ⟨g,k,none⟩ = some v) ∧ w.frozen? ⟨g,k,none⟩ = false:=by
 refine ⟨⟨(rowV n L)[k]'(by rw [rowV_size n L hl];omega),?_⟩,Lib.frozen_of_heap h _⟩
 rw [Lib.cell_of_heap h,Array.getElem?_eq_getElem]
theorem rds_make (n:Nat) (hn:n ≤ 1099511627) (W:World):(Instr.makeSlice 25 (.int .i64 (n:Int)) (.int .i64 (n:Int))).run Tryz.prog W = .ok (.slice (some ⟨W.heap.size,0,none⟩) n n) (W.alloc (.cells (rowV n []) 84)):=by
 obtain ⟨i0,hi,hz0,hz1,hz2⟩:=info_parts rdInfo
 have hr:=run_make (P:=Tryz.prog) W 25 84 i0 (.slice none 0 0) Tryz.underlying25 hi hz0 .i64 .i64 (n:Int) (n:Int) (by omega) (Int.le_refl _) (by rw [hz2];omega) (by omega)
 rw [hr]
 have e2:madeCells (Value.slice none 0 0).cells ((n:Int).toNat * i0.size) = rowV n []:=by
  rw [hz1]
  apply Array.ext
  ·simp [madeCells,Value.cells,rowV]
  ·intro i h1 h2
   simp [madeCells,Value.cells,rowV,Nat.mod_one]
 rw [e2]
 simp
theorem rowV_own {w:World} {B g n:Nat} {L:List Value} {N:Nm} (h:w.heap[g]? = some (.cells (rowV n L) 84 (0,0))) (hB:B ≤ g) (hl:L.length = n) (hN:N.length = n) (hn:n ≤ 1099511627) (ho:∀ i,i < n → OwnA w B (L.getD i (.slice none 0 0)) (N.getD i [])) :
  OwnN w B (.slice (some ⟨g,0,none⟩) n n) N:=by
 subst hN
 have e:rowV N.length L = L.toArray:=by unfold rowV;rw [hl];simp
 rw [e] at h
 refine ⟨L,hl,⟨by rw [hl,Nat.mul_one],.inr ⟨g,N.length,_,rfl,hB,h,Nat.le_refl _,?_,?_,?_⟩⟩,ho⟩
 ·unfold maxLen;omega
 ·simp [hl]
 ·exact List.take_of_length_le (by simp [hl])
theorem gsnoc_eq {α:Type} (l:List α) (a d:α) {k:Nat} (h:l.length = k):(l ++ [a]).getD k d = a:=by
 subst h;simp
theorem gsnoc_lt {α:Type} (l:List α) (a d:α) (i:Nat) (h:i < l.length):(l ++ [a]).getD i d = l.getD i d:=by
 rw [List.getD_eq_getElem?_getD,List.getElem?_append_left h,← List.getD_eq_getElem?_getD]
set_option maxRecDepth 100000 in
set_option maxHeartbeats 8000000 in
theorem decnm0_any (b:ByteArray) (w:World) (hx:b.size ≤ 1099511627) (hP:Pow10 w) :
  Calls Tryz.prog 187 #[.string b] w fun e w' => ∃ v,e = .returned (.tuple #[v,.int .i64 (((decN0 b).1:Nat):Int)]) ∧ OwnV w' w.heap.size v (decN0 b).2 ∧ Below w.heap.size w w':=by
 obtain ⟨E,A,hEA⟩:∃ E A,decN0 b = (E,A):=⟨_,_,rfl⟩
 have HRES:=Lib.hid (show (E,A) = decN0 b from hEA.symm)
 rw [hEA]
 clear hEA
 unfold decN0 at HRES
 obtain ⟨W0,hW0⟩:∃ W0,W0 = w.alloc (.cells #[.slice none 0 0] 27):=⟨_,rfl⟩
 have hb0:Below w.heap.size w W0:=by rw [hW0];exact belowNew w _
 have q0:W0.heap[w.heap.size]? = some (.cells #[.slice none 0 0] 27 (0,0)):=by rw [hW0];exact heap_alloc_new w _
 have hz0:W0.heap.size = w.heap.size + 1:=by rw [hW0];simp
 have HWE:=Lib.hid hW0.symm
 have HB0:=Lib.hid hb0
 have HQ0:=Lib.hid q0
 have HP0:=Lib.hid (hP.below hb0)
 have HON:=Lib.hid (one_any b W0 (by omega))
 unfold oneVal at HON
 clear hW0 hb0 q0 hP
 go_enter Tryz.func187,Tryz.ntmps187
 go_wp2_with fail
 rw [HWE.out]
 by_cases h1:oneErr b = 0
 case neg =>
  obtain ⟨hE,rfl⟩:E = oneErr b ∧ A = []:=by have:=HRES.out;rw [if_pos h1] at this;simpa using this
  rw [if_neg h1] at HON
  have hz1:=errno_ne h1
  unfold noEl at HON
  rw [← hE] at HON hz1
  clear h1 hE HRES
  refine HON.out.mono ?_
  rintro e w1 ⟨rfl,hb1⟩
  have hr:=(hb1.block w.heap.size (by omega)).trans HQ0.out
  have bz:=belowNew w1 (.cells #[.int .i64 0,.string ⟨#[]⟩,.string ⟨#[]⟩] 67)
  have hr2:=(bz.block w.heap.size (Array.getElem?_eq_some_iff.1 hr).1).trans hr
  have HR:=Lib.hid hr2
  have HBF:=Lib.hid (below_next (below_next HB0.out hb1) bz)
  obtain ⟨s0,f0,sl⟩:=one_facts hr2
  clear hb1 hr bz hr2
  go_wp2_with fail
  exact bodyPost_ret (nmRes rfl _ _ w _ rfl (one_set HR.out)) rfl ⟨_,rfl,⟨_,rfl,OwnN.nil _ _⟩,HBF.out.setCell (p:=⟨w.heap.size,0,none⟩) (Nat.le_refl _) _⟩
 rw [if_pos h1] at HON
 unfold elV at HON
 have hre:=HRES.out
 rw [if_neg (by simpa using h1)] at hre
 have HRE:=Lib.hid hre
 clear hre
 have hrc:=rdContent_size (oneErr_rd h1)
 generalize rdTag b = t at HON HRE
 generalize rdContent b = ct at HON HRE hrc
 generalize rdRaw b = rw0 at HON
 clear HRES h1
 refine HON.out.mono ?_
 rintro e w1 ⟨rfl,hb1⟩
 obtain ⟨W1,hW1⟩:∃ W1,W1 = w1.alloc (.cells #[.int .i64 ((t:Nat):Int),.string ct,.string rw0] 67):=⟨_,rfl⟩
 have hbb:Below w1.heap.size w1 W1:=by rw [hW1];exact belowNew w1 _
 obtain ⟨e0,e1,e2,_,_,_,el⟩:=at_facts (show W1.heap[w1.heap.size]? = _ from by rw [hW1];exact heap_alloc_new w1 _)
 have HR1:=Lib.hid ((hbb.block w.heap.size (by have:=hb1.size;omega)).trans ((hb1.block w.heap.size (by omega)).trans HQ0.out))
 have HB1:=Lib.hid (below_next (below_next HB0.out hb1) hbb)
 have HP1:=Lib.hid ((HP0.out.below hb1).below hbb)
 have hwe1:=hW1.symm
 obtain ⟨s0,f0,sl⟩:=one_facts HR1.out
 clear hb1 hbb hW1
 by_cases ht:t = 48
 case neg =>
  obtain ⟨rfl,rfl⟩:E = 5 ∧ A = []:=by have:=HRE.out;rw [if_pos ht] at this;simpa using this
  have hd:((t:Int) != 48) = true:=by simp;omega
  clear ht
  go_wp2_with fail
  exact bodyPost_ret (nmRes rfl _ _ w _ rfl (one_set HR1.out)) rfl ⟨_,rfl,⟨_,rfl,OwnN.nil _ _⟩,HB1.out.setCell (p:=⟨w.heap.size,0,none⟩) (Nat.le_refl _) _⟩
 have hd:((t:Int) != 48) = false:=by rw [ht];rfl
 have hre:=HRE.out
 rw [if_neg (by simpa using ht)] at hre
 have HRE2:=Lib.hid hre
 clear hre
 have HLS:=Lib.hid (list_any ct W1 (by omega))
 have HMEM:=Lib.hid (fun z (hz:z ∈ (lst ct).1) => Nat.le_trans (lst_mem _ ct (Nat.le_refl _) z hz) (show ct.size ≤ 1099511627 by omega))
 have hlen:=lst_length ct _ (Nat.le_refl _)
 generalize lst ct = LE at HLS HMEM hlen HRE2
 obtain ⟨l,er⟩:=LE
 simp only at HLS HMEM hlen HRE2
 clear HRE ht s0 f0 sl
 go_wp2_with fail
 refine HLS.out.mono ?_
 rintro e w2 ⟨v2,rfl,ho2,hb2⟩
 obtain ⟨a,c,rfl,hlc,hel,hbk⟩:=ElAt.of ho2
 obtain ⟨n,hn⟩:∃ n,n = l.length:=⟨_,rfl⟩
 rw [← hn] at hlc hlen ⊢
 have HN:=Lib.hid hn
 have hnz:n ≤ 1099511627:=by omega
 have HEL:=Lib.hid hel
 have hwW1:w.heap.size < W1.heap.size:=(Array.getElem?_eq_some_iff.1 HR1.out).1
 have HR2:=Lib.hid ((hb2.block w.heap.size hwW1).trans HR1.out)
 have HB2:=Lib.hid (below_next HB1.out hb2)
 have HP2:=Lib.hid (HP1.out.below hb2)
 obtain ⟨s0,f0,sl⟩:=one_facts HR2.out
 clear ho2 hel hbk hb2 hn e0 e1 e2 el hwe1
 by_cases hz:er = 0
 case neg =>
  obtain ⟨rfl,rfl⟩:E = er ∧ A = []:=by have:=HRE2.out;rw [if_pos hz] at this;simpa using this
  have hz1:=errno_ne hz
  clear hz
  go_wp2_with fail
  exact bodyPost_ret (nmRes rfl _ _ w _ rfl (one_set HR2.out)) rfl ⟨_,rfl,⟨_,rfl,OwnN.nil _ _⟩,HB2.out.setCell (p:=⟨w.heap.size,0,none⟩) (Nat.le_refl _) _⟩
 subst hz
 have HRA:=Lib.hid (show (E,A) = aheadA [] (decRs (l.drop 0)) by
  have:=HRE2.out
  rw [if_neg (by simp)] at this
  rw [this,List.drop_zero,aheadA_nil decRs_err])
 clear HRE2
 have hmk:=rds_make n (by omega)
 obtain ⟨g,hg⟩:∃ g,g = w2.heap.size:=⟨_,rfl⟩
 obtain ⟨W3,hW3⟩:∃ W3,W3 = (w2.alloc (.cells (rowV n []) 84)).alloc (.cells #[.slice (some ⟨w2.heap.size,0,none⟩) n n] 27):=⟨_,rfl⟩
 have hq3:W3.heap[g]? = some (.cells (rowV n []) 84 (0,0)):=by rw [hW3,hg];exact ((belowNew _ _).block _ (by simp)).trans (heap_alloc_new w2 _)
 have hn3:W3.heap[g + 1]? = some (.cells #[.slice (some ⟨g,0,none⟩) n n] 27 (0,0)):=by
  have:=heap_alloc_new (w2.alloc (.cells (rowV n []) 84)) (.cells #[.slice (some ⟨w2.heap.size,0,none⟩) n n] 27)
  rw [← hW3] at this
  rw [hg]
  simpa using this
 have hb3:Below w2.heap.size w2 W3:=by rw [hW3];exact belowTwo w2 _ _
 have HQ3:=Lib.hid hq3
 have HN3:=Lib.hid hn3
 have HR3:=Lib.hid ((hb3.block w.heap.size sl).trans HR2.out)
 have HB3:=Lib.hid (below_next HB2.out hb3)
 have HBG:=Lib.hid (show Below g w2 W3 by rw [hg];exact hb3)
 have HW3:=Lib.hid hW3.symm
 have HG:=Lib.hid hg
 have hwg:w.heap.size < g:=by rw [hg];exact sl
 have hgW:g + 1 < W3.heap.size:=(Array.getElem?_eq_some_iff.1 hn3).1
 clear hq3 hb3 hW3 hg hn3 s0 f0
 go_wp2_with fail
 rw [HW3.out,← HG.out]
 clear hmk sl
 go_loopw [39] (fun i wr => ∃ (k:Nat) (D:Nm) (L:List Value),k ≤ n ∧ i = .int .i64 (k:Int) ∧ D.length = k ∧ L.length = k ∧ (E,A) = aheadA D (decRs (l.drop k)) ∧ wr.heap[g]? = some (.cells (rowV n L) 84 (0,0)) ∧ (∀ i,i < k → OwnA wr W3.heap.size (L.getD i (.slice none 0 0)) (D.getD i [])) ∧ But g W3 wr) (fun i _ => n - (intOf i).toNat)
 case atStart => exact ⟨0,[],[],Nat.zero_le _,rfl,rfl,rfl,HRA.out,HQ3.out,fun i hi => absurd hi (Nat.not_lt_zero _),But.refl _ _⟩
 case round =>
  obtain ⟨k,D,L,hk,rfl,hDk,hLk,hA,hq,how,hb⟩:=hrel
  have HQ:=Lib.hid hq
  have HB:=Lib.hid hb
  have HA:=Lib.hid hA
  have HDK:=Lib.hid hDk
  have HLK:=Lib.hid hLk
  have HOW:=Lib.hid how
  have HBW:=Lib.hid (show Below w.heap.size w wr from HB3.out.trans ((hb.below (by omega)).mono (by omega)))
  have HRR:=Lib.hid ((hb.block w.heap.size (by omega) (by simp;omega)).trans HR3.out)
  have hnn:=(hb.block (g + 1) hgW (by simp)).trans HN3.out
  have HNN:=Lib.hid hnn
  have hgl:g < wr.heap.size:=(Array.getElem?_eq_some_iff.1 hq).1
  have hgl1:g + 1 < wr.heap.size:=(Array.getElem?_eq_some_iff.1 hnn).1
  clear hq hb hA hDk hLk how hnn
  by_cases hlt:k < n
  ·have hd':decide ((k:Int) < (n:Int)) = true:=by simp;omega
   obtain ⟨b3,o,rfl,hcl⟩:=HEL.out.resolve_left (fun e => by have:=HN.out;rw [e] at this;simp at this;omega)
   obtain ⟨x0,x1,x2⟩:=hcl k (by rw [← HN.out];exact hlt)
   have hwx:Below g w2 wr:=HBG.out.trans (HB.out.below (by omega))
   have hbg:b3 < g:=by rw [HG.out];exact block_lt x0
   have c0:=(hwx.cell (p:=⟨b3,o + k * 3,none⟩) hbg).trans x0
   have c1:=(hwx.cell (p:=⟨b3,o + k * 3 + 1,none⟩) hbg).trans x1
   have c2:=(hwx.cell (p:=⟨b3,o + k * 3 + 2,none⟩) hbg).trans x2
   have hki:(k:Int) < (n:Int):=by omega
   have hmz:=HMEM.out (l.getD k noEle) (by rw [List.getD_eq_getElem?_getD,List.getElem?_eq_getElem (by rw [← HN.out];exact hlt)];exact List.getElem_mem _)
   have HST:=Lib.hid (fun h0 => decRs_step (l:=l) (k:=k) (by rw [← HN.out];exact hlt) h0 D)
   have HBD:=Lib.hid (fun h0 => decRs_bad (l:=l) (k:=k) (by rw [← HN.out];exact hlt) h0 D)
   generalize l.getD k noEle = y at c0 c1 c2 hmz HST HBD
   have HPW:=Lib.hid (show Pow10 wr from HP2.out.below (by rw [← HG.out];exact hwx))
   obtain ⟨yt,yc,yr⟩:=y
   have HDA:=Lib.hid (fun W h => decrel_any (yt,yc,yr) W hmz h)
   unfold elV at HDA
   obtain ⟨eA,aA,hda⟩:∃ eA aA,decR (yt,yc,yr) = (eA,aA):=⟨_,_,rfl⟩
   rw [hda] at HST HBD HDA
   simp only at c0 c1 c2 HDA HST HBD
   obtain ⟨W4,hW4⟩:∃ W4,W4 = wr.alloc (.cells #[.int .i64 ((yt:Nat):Int),.string yc,.string yr] 67):=⟨_,rfl⟩
   have hb4:Below wr.heap.size wr W4:=by rw [hW4];exact belowNew wr _
   obtain ⟨t0,t1,t2,_,_,_,tl⟩:=at_facts (show W4.heap[wr.heap.size]? = _ from by rw [hW4];exact heap_alloc_new wr _)
   have HWE4:=Lib.hid hW4.symm
   have m0:=(hb4.cell (p:=⟨g + 1,0,none⟩) hgl1).trans (one_facts HNN.out).1
   have HB4:=Lib.hid hb4
   have HPW4:=Lib.hid (HPW.out.below hb4)
   obtain ⟨q,hq⟩:∃ q,q = wr.heap.size:=⟨_,rfl⟩
   rw [← hq] at t0 t1 t2 tl hgl hgl1
   have HQQ:=Lib.hid hq
   have hlg1:g + 1 < W4.heap.size:=block_lt m0
   have hgq:¬ g = q:=by omega
   have hgq':¬ q = g:=by omega
   clear x0 x1 x2 hcl hmz hda hwx hW4 hb4 hq
   go_wp2_with fail
   rw [HWE4.out,← HQQ.out]
   clear c0 c1 c2
   go_region_held3 (fun w' => w'.cell? ⟨g + 1,0,none⟩ = some (.slice (some ⟨g,0,none⟩) n n) ∧ w'.cell? ⟨q,0,none⟩ = some (.int .i64 ((yt:Nat):Int)) ∧ w'.cell? ⟨q,1,none⟩ = some (.string yc) ∧ w'.cell? ⟨q,2,none⟩ = some (.string yr)) (first | exact ⟨by assumption,by assumption,by assumption,by assumption⟩ | go_keep)
    (first
     |(go_at_call 206;(with_reducible refine (HDA.out _ (by first | exact HPW4.out | exact HPW4.out.below (Below.refl _ _).drew)).mono ?_);rintro e w5 ⟨v5,rfl,ho5,hb5⟩;have hb5':Below W4.heap.size W4 w5:=(by first | exact hb5 | exact (Below.refl _ _).drew.trans hb5);obtain ⟨a5,c5,rfl,_,_⟩:=ho5.lies;have m0':=(hb5'.cell (p:=⟨g + 1,0,none⟩) hlg1).trans m0;have t0':=(hb5'.cell (p:=⟨q,0,none⟩) tl).trans t0;have t1':=(hb5'.cell (p:=⟨q,1,none⟩) tl).trans t1;have t2':=(hb5'.cell (p:=⟨q,2,none⟩) tl).trans t2;have hbn:Below wr.heap.size wr w5:=below_next HB4.out hb5';have hq5:=(hbn.block g (Array.getElem?_eq_some_iff.1 HQ.out).1).trans HQ.out;obtain ⟨⟨u0,n0⟩,z0⟩:=rowV_cells hq5 (by have:=HLK.out;omega) hlt;have HQ5:=Lib.hid hq5;have HBN:=Lib.hid hbn;have HO5:=Lib.hid (show OwnA w5 W3.heap.size (.slice a5 aA.length c5) aA from OwnA.base ho5 (by have h1:=HB.out.size;have h2:=HB4.out.size;simp only [World.drew] ;omega));clear hb5 hb5' hbn hq5 ho5))
   all_goals
    by_cases hz:eA = 0
    ·subst hz
     have HF:=Lib.hid (show (E,A) = aheadA (D ++ [aA]) (decRs (l.drop (k + 1))) from HA.out.trans (HST.out rfl))
     have HOX:=Lib.hid (show ∀ i,i < k + 1 → OwnA (w5.setCell ⟨g,k,none⟩ (.slice a5 aA.length c5)) W3.heap.size ((L ++ [Value.slice a5 aA.length c5]).getD i (.slice none 0 0)) ((D ++ [aA]).getD i []) from fun i hi => by
      by_cases e:i = k
      ·subst e
       rw [gsnoc_eq _ _ _ HLK.out,gsnoc_eq _ _ _ HDK.out]
       exact HO5.out.but (p:=g) (But.set g _ w5 _) (by omega)
      ·rw [gsnoc_lt _ _ _ _ (by rw [HLK.out];omega),gsnoc_lt _ _ _ _ (by rw [HDK.out];omega)]
       exact ((HOW.out i (by omega)).below HBN.out).but (p:=g) (But.set g _ w5 _) (by omega))
     have HBX:=Lib.hid ((HB.out.next (But.of HBN.out)).next (But.set g k w5 (.slice a5 aA.length c5)))
     clear m0' t0' t1' t2' m0 t0 t1 t2
     go_wp2_with fail
     go_roundw
     case rel => exact ⟨k + 1,D ++ [aA],L ++ [Value.slice a5 aA.length c5],by omega,by go_num,by rw [List.length_append,HDK.out];rfl,by rw [List.length_append,HLK.out];rfl,HF.out,rowV_put (L:=L) HQ5.out HLK.out.symm hlt,HOX.out,HBX.out⟩
     case measure => simp [intOf];omega
    ·obtain ⟨rfl,rfl⟩:E = eA ∧ A = []:=by have:=HA.out.trans (HBD.out hz);simpa using this
     have hz1:=errno_ne hz
     have hr5:=(HBN.out.block w.heap.size (Array.getElem?_eq_some_iff.1 HRR.out).1).trans HRR.out
     have HRX:=Lib.hid (((But.set g k w5 (.slice a5 aA.length c5)).block w.heap.size (Array.getElem?_eq_some_iff.1 hr5).1 (by simp;omega)).trans hr5)
     obtain ⟨r0,r1,r2⟩:=one_facts hr5
     have hwg1:¬ w.heap.size = g:=by omega
     have hwg2:¬ g = w.heap.size:=by omega
     have HBX:=Lib.hid (below_next HBW.out HBN.out)
     clear hz hr5 m0' t0' t1' t2' m0 t0 t1 t2
     go_wp2_with fail
     exact bodyPost_ret (nmRes rfl _ _ w _ rfl (one_set HRX.out)) rfl ⟨_,rfl,⟨_,rfl,OwnN.nil _ _⟩,(HBX.out.setCell (p:=⟨g,k,none⟩) (Nat.le_of_lt hwg) _).setCell (p:=⟨w.heap.size,0,none⟩) (Nat.le_refl _) _⟩
  ·have hd':decide ((k:Int) < (n:Int)) = false:=by simp;omega
   obtain ⟨rfl,rfl⟩:E = 0 ∧ A = D:=by have:=HA.out;rw [decRs_end (by rw [← HN.out];omega)] at this;simpa using this
   obtain ⟨r0,r1,r2⟩:=one_facts HRR.out
   obtain ⟨m0,_,_⟩:=one_facts HNN.out
   have hk':k = n:=by omega
   have HOV:=Lib.hid (show OwnN wr g (.slice (some ⟨g,0,none⟩) n n) A from rowV_own HQ.out (Nat.le_refl _) (by rw [HLK.out];exact hk') (by rw [HDK.out];exact hk') hnz (fun i hi => (HOW.out i (by omega)).base (by omega)))
   clear hk'
   go_wp2_with fail
   exact bodyPost_ret (nmRes rfl _ _ w _ rfl (one_set HRR.out)) rfl ⟨_,rfl,⟨_,rfl,(HOV.out.but (p:=w.heap.size) (But.set _ _ _ _) hwg).base (Nat.le_of_lt hwg)⟩,HBW.out.setCell (p:=⟨w.heap.size,0,none⟩) (Nat.le_refl _) _⟩
end Go.Proofs.YtbpdenfiifcfcaaGreatDoor
