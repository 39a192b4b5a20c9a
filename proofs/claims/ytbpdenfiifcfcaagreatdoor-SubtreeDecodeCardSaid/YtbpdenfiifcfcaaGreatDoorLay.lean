/-
  The contract of the definition's DecodeOID: the object identifier with these contents, if there is one.
  What the decoders of names answer; the contract of slices.Contains over ints, and of the closure next of decodeAttribute.
  The contract of decodeAttribute: what an element says of an attribute, or the error.
  The contract of decodeAttribute: what an element says of an attribute, or the error.
-/
import Derived.Test.YtbpdenfiifcfcaaGreatDoorLax
import Derived.Test.YtbpdenfiifcfcaaGreatDoorLar
import Derived.Test.YtbpdenfiifcfcaaGreatDoorLao
import Derived.Test.YtbpdenfiifcfcaaGreatDoorLap
import Derived.Test.YtbpdenfiifcfcaaGreatDoorLah
import Derived.Test.YtbpdenfiifcfcaaGreatDoorLai
import Derived.Test.YtbpdenfiifcfcaaGreatDoorLan
namespace Go.Proofs.YtbpdenfiifcfcaaGreatDoor
open Go.RowKit
/-- What Decode and its definition answer. -/
def Decd (c:List UInt8) (e:Ending):Prop:=(∃ a,Dec c a ∧ e = .returned (oidVal a)) ∨ ((∀ a,¬ Dec c a) ∧ e = .returned noVal)
theorem decode_any (c:ByteArray) (w:World) (hs:c.size ≤ 1099511627) (ht:Pow10 w) :
  Calls Tryz.prog 247 #[.string c] w fun e w' => Decd c.data.toList e ∧ Below w.heap.size w w':=by
 by_cases h:∃ a,Dec c.data.toList a
 ·obtain ⟨a,h1,h2⟩:=h
  have hg:=good_nums h1
  refine (decode_yes hg.1 h2 w hs ht).mono ?_
  rintro e w' ⟨rfl,hb⟩
  exact ⟨.inl ⟨a,⟨h1,h2⟩,by rw [hg.2]⟩,hb⟩
 ·have h':∀ a,¬ Dec c.data.toList a:=fun a k => h ⟨a,k⟩
  refine (decode_no h' w hs).mono ?_
  rintro e w' ⟨rfl,hb⟩
  exact ⟨.inr ⟨h',rfl⟩,hb⟩
theorem arcs_snoc {A:List Nat} (h:A ≠ []) (x:Nat):arcsN (A ++ [x]) = arcsN A ++ [x]:=by
 cases A with
 |nil => exact absurd rfl h
 |cons m M => simp [arcsN]
theorem arcs_ne {A:List Nat} (h:A ≠ []):arcsN A ≠ []:=by
 cases A with
 |nil => exact absurd rfl h
 |cons m M => simp [arcsN]
theorem dec_le10' {v:Nat} (h:v ≤ 2147483727):(Lib.decDigits v).length ≤ 10:=dec_len 10 v (Nat.lt_of_le_of_lt h (by decide)) (by omega)
theorem cat_nil_e {M:List Nat} (h:([]:List UInt8) = cat e128 M):M = []:=by
 cases M with
 |nil => rfl
 |cons m M => have:=h.symm;simp [cat,e128] at this
theorem limit_le {A M:List Nat} {m:Nat} (h:GoodN (A ++ m :: M)):m ≤ 2147483727:=by
 have:=limit_of h
 split at this <;> omega
set_option maxRecDepth 100000 in
set_option maxHeartbeats 8000000 in
theorem rdecode_any (c:ByteArray) (w:World) (hs:c.size ≤ 1099511627) :
  Calls Tryz.prog 137 #[.string c] w fun e w' => Decd c.data.toList e ∧ Below w.heap.size w w':=by
 go_enter Tryz.func137,Tryz.ntmps137
 go_wp2_with fail
 go_loopw [4,5,6,7,8] (fun s v o n i wr => ∃ (j:Nat) (A:List Nat) (u:List UInt8) (x k:Nat) (op:Bool) (T:List UInt8),j ≤ c.size ∧ i = .int .i64 (j:Int) ∧ c.data.toList.take j = cat e128 A ++ u ∧ (∀ b ∈ u,128 ≤ b.toNat) ∧ u.head? ≠ some 128 ∧ x = val7 u ∧ x ≤ 2147483727 ∧ v = .int .i64 (x:Int) ∧ o = .bool op ∧ op = !u.isEmpty ∧ A.length ≤ 11 ∧ k = (if A = [] then 0 else A.length + 1) ∧ n = .int .i64 (k:Int) ∧ T = txt (arcsN A) ∧ T.length ≤ 11 * (A.length + 1) ∧ s = .string (strOf T) ∧ Below w.heap.size w wr) (fun _ _ _ _ i _ => c.size - (intOf i).toNat)
 case atStart => exact ⟨0,[],[],0,0,false,[],by omega,rfl,rfl,by simp,by simp,rfl,by omega,rfl,rfl,rfl,by simp,rfl,rfl,rfl,by simp,rfl,Below.refl _ _⟩
 case round =>
  obtain ⟨j,A,u,x,k,op,T,hj,rfl,htk,hall,hhd,hx,hxb,rfl,rfl,hop,hA,hk,rfl,hT,hTl,rfl,hb⟩:=hrel
  have HB:=Lib.hid hb
  have HTK:=Lib.hid htk
  have HALL:=Lib.hid hall
  have HHD:=Lib.hid hhd
  have HX:=Lib.hid hx
  have HK:=Lib.hid hk
  have HT:=Lib.hid hT
  have hkb:k ≤ 12:=by rw [hk];split <;> omega
  clear hb htk hall hhd hx hk hT
  by_cases hlt:j < c.size
  ·have dj:decide ((j:Int) < (c.size:Int)) = true:=by simp;omega
   have hij:=fun w => run_index_u8 (P:=Tryz.prog) Tryz.underlying9 c j hlt (j:Int) rfl w
   obtain ⟨b,hb,hbv⟩:=u8at_list c j hlt
   obtain ⟨y,hy⟩:∃ y,y = u8at c j:=⟨_,rfl⟩
   have hy256:y < 256:=by rw [hy];exact u8at_lt c j
   rw [← hy] at hij hbv
   have HS:=Lib.hid (show c.data.toList = cat e128 A ++ (u ++ b :: c.data.toList.drop (j + 1)) by
    rw [← List.append_assoc,← HTK.out]
    exact at_split _ _ _ hb)
   have HSN:=Lib.hid (show c.data.toList.take (j + 1) = cat e128 A ++ (u ++ [b]) by
    rw [take_snoc hb,HTK.out,List.append_assoc])
   have HDN:=Lib.hid (fun a (h:Dec c.data.toList a) => dec_next HS.out h)
   clear hy hb
   obtain ⟨y7,hy7⟩:∃ y7,y7 = y % 128:=⟨_,rfl⟩
   have hy7i:(y:Int) % 128 = (y7:Int):=by omega
   have hy7b:y7 < 128:=by omega
   obtain ⟨x2,hx2⟩:∃ x2,x2 = 128 * x + y7:=⟨_,rfl⟩
   have hx2i:128 * (x:Int) + (y:Int) % 128 = (x2:Int):=by omega
   have hx2b:x2 < 274877920000:=by omega
   have HX2:=Lib.hid (show x2 = val7 (u ++ [b]) by rw [val7_snoc,← HX.out,hx2,hy7,hbv])
   clear hx2 hy7i hy7b hy7
   by_cases hbad:u = [] ∧ y = 128
   ·obtain ⟨rfl,rfl⟩:=hbad
    have HNO:=Lib.hid (show ∀ a,¬ Dec c.data.toList a from fun a h => by
     obtain ⟨M,_,h2,h3⟩:=HDN.out a h
     refine next_head h2 ?_
     rw [List.nil_append,List.head?_cons]
     congr 1
     exact UInt8.toNat_inj.1 (by rw [← hbv];rfl))
    obtain rfl:op = false:=hop
    clear hbv
    go_wp2_with fail
    go_ret2
    exact ⟨.inr ⟨HNO.out,rfl⟩,HB.out⟩
   ·have HOR:=Lib.hid (show (u = [] ∧ y ≠ 128) ∨ u ≠ [] by
     by_cases hu:u = []
     ·left;exact ⟨hu,fun e => hbad ⟨hu,e⟩⟩
     ·right;exact hu)
    have HUB:=Lib.hid (show (u ++ [b]).head? ≠ some 128 by
     rcases HOR.out with ⟨rfl,h⟩ | h
     ·intro e
      refine h ?_
      rw [hbv,Option.some.inj e];rfl
     ·rw [head_left h];exact HHD.out)
    have hor:(op = false ∧ ((y:Int) == 128) = false) ∨ op = true:=by
     rcases HOR.out with ⟨rfl,h⟩ | h
     ·left;exact ⟨hop,beq_eq_false_iff_ne.2 (by omega)⟩
     ·right;rw [hop];cases u with
      |nil => exact absurd rfl h
      |cons => rfl
    clear hbad hop
    by_cases hbig:2147483727 < x2
    ·have d1:decide (2147483727 < (x2:Int)) = true:=by simp;omega
     have HNO:=Lib.hid (show ∀ a,¬ Dec c.data.toList a from fun a h => by
      obtain ⟨M,_,h2,h3⟩:=HDN.out a h
      obtain ⟨m,M',rfl,h5⟩:=next_ge2 h2 rfl HALL.out
      have h6:=limit_le h3
      rw [← HX2.out] at h5
      omega)
     clear hbv
     rcases hor with ⟨rfl,g2⟩ | rfl
     all_goals
      go_wp2_with fail
      go_ret2
      exact ⟨.inr ⟨HNO.out,rfl⟩,HB.out⟩
    ·have d1:decide (2147483727 < (x2:Int)) = false:=by simp;omega
     by_cases hend:y < 128
     ·have d2:decide (128 ≤ (y:Int)) = false:=by simp;omega
      have HE:=Lib.hid (show u ++ [b] = e128 x2 by
       rw [HX2.out]
       exact e128_of _ _ HALL.out HUB.out (by omega))
      have HA2:=Lib.hid (show c.data.toList.take (j + 1) = cat e128 (A ++ [x2]) ++ [] by
       rw [HSN.out,HE.out,cat_append];simp [cat])
      clear hbv
      by_cases hA0:A = []
      ·obtain rfl:k = 0:=by rw [HK.out,if_pos hA0]
       subst hA0
       obtain ⟨q,hq⟩:∃ q,q = x2 / 40:=⟨_,rfl⟩
       have hqi:(x2:Int) / 40 = (q:Int):=by omega
       obtain ⟨f,hf⟩:∃ f,f = min q 2:=⟨_,rfl⟩
       have hfi:min (q:Int) 2 = (f:Int):=by omega
       have hfb:f ≤ 2:=by omega
       obtain ⟨z,hz⟩:∃ z,z = x2 - 40 * f:=⟨_,rfl⟩
       have hzi:(x2:Int) - 40 * (f:Int) = (z:Int):=by omega
       have hzb:z ≤ 2147483727:=by omega
       have HT2:=Lib.hid (show Lib.decDigits f ++ 46 :: Lib.decDigits z = txt (arcsN ([] ++ [x2])) by rw [hz,hf,hq];simp [arcsN,txt])
       have HL2:=Lib.hid (show (Lib.decDigits f ++ 46 :: Lib.decDigits z).length ≤ 11 * (([] ++ [x2]:List Nat).length + 1) by
        have h1:=dec_le10' (v:=f) (by omega)
        have h2:=dec_le10' hzb
        simp;omega)
       have c1:=add_dot (Lib.decDigits f) (Nat.le_trans (dec_le10' (by omega)) (by omega))
       have c2:=add_str (Lib.decDigits f ++ [46]) (Lib.decDigits z) (by have:=HL2.out;simp at this ⊢;omega)
       have BF:=Lib.hid (show f ≤ 9223372036854775807 by omega)
       have BZ:=Lib.hid (show z ≤ 9223372036854775807 by omega)
       clear hq hf hz
       rcases hor with ⟨rfl,g2⟩ | rfl
       all_goals
        go_wp2_with (first
         |(go_at_call 162;(with_reducible refine (decno_any f _ BF.out).mono ?_);rintro e w1 ⟨rfl,hb1⟩;have HB1:=Lib.hid hb1;clear hb1)
         |(go_at_call 162;(with_reducible refine (decno_any z _ BZ.out).mono ?_);rintro e w2 ⟨rfl,hb2⟩;have HB2:=Lib.hid hb2;clear hb2))
        go_roundw
        case rel => exact ⟨j + 1,[] ++ [x2],[],0,2,false,Lib.decDigits f ++ 46 :: Lib.decDigits z,by omega,by go_num,HA2.out,by simp,by simp,rfl,by omega,rfl,rfl,rfl,by simp,rfl,rfl,HT2.out,HL2.out,rfl,below_next (below_next HB.out HB1.out) HB2.out⟩
        case measure => simp [intOf];omega
      ·have hk1:k = A.length + 1:=by rw [HK.out,if_neg hA0]
       have dk:((k:Int) == 0) = false:=beq_eq_false_iff_ne.2 (by omega)
       have HT2:=Lib.hid (show T ++ 46 :: Lib.decDigits x2 = txt (arcsN (A ++ [x2])) by
        rw [arcs_snoc hA0,txt_snoc _ (arcs_ne hA0),HT.out])
       have hd10:=dec_le10' (v:=x2) (by omega)
       have HL2:=Lib.hid (show (T ++ 46 :: Lib.decDigits x2).length ≤ 11 * ((A ++ [x2]).length + 1) by simp;omega)
       have c1:=dot_add (Lib.decDigits x2) (by omega)
       have c2:=add_str T (46 :: Lib.decDigits x2) (by simp;omega)
       have BX:=Lib.hid (show x2 ≤ 9223372036854775807 by omega)
       have HA0:=Lib.hid hA0
       clear hA0 hd10
       by_cases h11:A.length = 11
       ·have dn:decide (12 < (k:Int) + 1) = true:=by simp;omega
        have HNO:=Lib.hid (show ∀ a,¬ Dec c.data.toList a from fun a h => by
         obtain ⟨M,h1,h2,h3⟩:=HDN.out a h
         cases M with
         |nil => simp [cat] at h2
         |cons m M' => have:=h3.2.1;simp at this;omega)
        clear h11 hk1
        rcases hor with ⟨rfl,g2⟩ | rfl
        all_goals
         go_wp2_with (go_at_call 162;(with_reducible refine (decno_any x2 _ BX.out).mono ?_);rintro e w1 ⟨rfl,hb1⟩;have HB1:=Lib.hid hb1;clear hb1)
         go_ret2
         exact ⟨.inr ⟨HNO.out,rfl⟩,below_next HB.out HB1.out⟩
       ·have dn:decide (12 < (k:Int) + 1) = false:=by simp;omega
        have hA10:A.length ≤ 10:=by omega
        have HK2:=Lib.hid (show k + 1 = (if A ++ [x2] = [] then 0 else (A ++ [x2]).length + 1) by rw [if_neg (by simp)];simp;omega)
        clear h11 hk1
        rcases hor with ⟨rfl,g2⟩ | rfl
        all_goals
         go_wp2_with (go_at_call 162;(with_reducible refine (decno_any x2 _ BX.out).mono ?_);rintro e w1 ⟨rfl,hb1⟩;have HB1:=Lib.hid hb1;clear hb1)
         go_roundw
         case rel => exact ⟨j + 1,A ++ [x2],[],0,k + 1,false,T ++ 46 :: Lib.decDigits x2,by omega,by go_num,HA2.out,by simp,by simp,rfl,by omega,rfl,rfl,rfl,by simp;omega,HK2.out,by go_num,HT2.out,HL2.out,rfl,below_next HB.out HB1.out⟩
         case measure => simp [intOf];omega
     ·have d2:decide (128 ≤ (y:Int)) = true:=by simp;omega
      have HAL2:=Lib.hid (show ∀ z ∈ u ++ [b],128 ≤ z.toNat by
       intro z hz
       rcases List.mem_append.1 hz with hz | hz
       ·exact HALL.out z hz
       ·obtain rfl:z = b:=by simpa using hz
        omega)
      have HNE2:=Lib.hid (show true = (!(u ++ [b]).isEmpty) by simp)
      clear hbv
      rcases hor with ⟨rfl,g2⟩ | rfl
      all_goals
       go_wp2_with fail
       go_roundw
       case rel => exact ⟨j + 1,A,u ++ [b],x2,k,true,T,by omega,by go_num,HSN.out,HAL2.out,HUB.out,HX2.out,by omega,rfl,rfl,HNE2.out,hA,HK.out,rfl,HT.out,hTl,rfl,HB.out⟩
       case measure => simp [intOf];omega
  ·obtain rfl:j = c.size:=by omega
   have dj:decide ((c.size:Int) < (c.size:Int)) = false:=by simp
   have HC:=Lib.hid (show c.data.toList = cat e128 A ++ u by rw [← HTK.out,List.take_of_length_le (show c.data.toList.length ≤ c.size from Nat.le_refl _)])
   have HDN:=Lib.hid (fun a (h:Dec c.data.toList a) => dec_next HC.out h)
   clear hlt
   by_cases h0:c.size = 0
   ·have d0:((c.size:Int) == 0) = true:=by rw [h0];rfl
    clear hop
    have HNO:=Lib.hid (show ∀ a,¬ Dec c.data.toList a from fun a h => by
     have hn:c.data.toList = []:=List.eq_nil_of_length_eq_zero h0
     have h2:=h.2
     rw [hn] at h2
     have h3:=(good_nums h.1).1.1
     rw [cat_nil_e h2] at h3
     simp at h3)
    clear h0
    go_wp2_with fail
    all_goals
     go_ret2
     exact ⟨.inr ⟨HNO.out,rfl⟩,HB.out⟩
   ·have d0:((c.size:Int) == 0) = false:=beq_eq_false_iff_ne.2 (by omega)
    by_cases hu:u = []
    ·subst hu
     obtain rfl:op = false:=hop
     have hA0:A ≠ []:=by
      rintro rfl
      refine h0 ?_
      show c.data.toList.length = 0
      rw [HC.out];rfl
     have HCC:=Lib.hid (show c.data.toList = cat e128 A by rw [HC.out,List.append_nil])
     have hTs:(strOf T).size ≤ 1099511627:=by rw [strOf_size];omega
     have HTS:=Lib.hid hTs
     rcases oid_or (strOf T).data.toList with ⟨a,ho⟩ | hno
     ·have HO:=Lib.hid ho
      have HYES:=Lib.hid (show Dec c.data.toList (arcsN A) ∧ T = txt (arcsN A) from by
       have ho':=ho
       rw [strOf_list,HT.out] at ho'
       have e:=good_of_txt (arcs_ne hA0) ho'
       subst e
       exact ⟨dec_iff (goodN_of hA0 ho'.1) HCC.out,HT.out⟩)
      clear h0 hA0 ho hTs
      go_wp2_with (go_at_call 112;(with_reducible refine (rvalid_yes HO.out _ HTS.out).mono ?_);rintro e w1 ⟨rfl,hb1⟩;have HB1:=Lib.hid hb1;clear hb1)
      all_goals
       go_ret2
       exact ⟨.inl ⟨arcsN A,HYES.out.1,by rw [HYES.out.2];rfl⟩,below_next HB.out HB1.out⟩
     ·have HNV:=Lib.hid hno
      have HNO:=Lib.hid (show ∀ a,¬ Dec c.data.toList a from fun a h => by
       have e:numsOf a = A:=code_inj e128_code e128_ne (h.2.symm.trans HCC.out)
       have g:=good_nums h.1
       refine hno (arcsN A) ?_
       rw [strOf_list,HT.out,← e,g.2]
       exact oid_of h.1)
      clear h0 hA0 hno hTs
      go_wp2_with (go_at_call 112;(with_reducible refine (rvalid_no HNV.out _ HTS.out).mono ?_);rintro e w1 ⟨rfl,hb1⟩;have HB1:=Lib.hid hb1;clear hb1)
      all_goals
       go_ret2
       exact ⟨.inr ⟨HNO.out,rfl⟩,below_next HB.out HB1.out⟩
    ·obtain rfl:op = true:=by
      rw [hop]
      cases u with
      |nil => exact absurd rfl hu
      |cons => rfl
     have HNO:=Lib.hid (show ∀ a,¬ Dec c.data.toList a from fun a h => by
      obtain ⟨M,_,h2,h3⟩:=HDN.out a h
      exact next_open h2 HALL.out hu)
     clear h0 hu hop
     go_wp2_with fail
     all_goals
      go_ret2
      exact ⟨.inr ⟨HNO.out,rfl⟩,HB.out⟩
/-- The object identifier that contents say. -/
noncomputable def oidD (c:ByteArray):Option ByteArray:=@dite _ (∃ a,Dec c.data.toList a) (Classical.propDecidable _) (fun h => some (strOf (txt h.choose))) (fun _ => none)
theorem oidD_yes {c:ByteArray} {a:List Nat} (h:Dec c.data.toList a):oidD c = some (strOf (txt a)):=by
 have hx:∃ a,Dec c.data.toList a:=⟨a,h⟩
 unfold oidD
 rw [dif_pos hx,dec_one hx.choose_spec h]
theorem oidD_no {c:ByteArray} (h:∀ a,¬ Dec c.data.toList a):oidD c = none:=by
 unfold oidD
 rw [dif_neg (fun ⟨a,k⟩ => h a k)]
theorem oidD_decd {c:ByteArray} {e:Ending} (h:Decd c.data.toList e):(∃ id,oidD c = some id ∧ e = .returned (.tuple #[.string id,.int .i64 0])) ∨ (oidD c = none ∧ e = .returned (.tuple #[.string ⟨#[]⟩,.int .i64 11])):=by
 rcases h with ⟨a,h1,rfl⟩ | ⟨h1,rfl⟩
 ·exact .inl ⟨_,oidD_yes h1,rfl⟩
 ·exact .inr ⟨oidD_no h1,rfl⟩
def strTag (t:Nat):Bool:=t == 12 || t == 19 || t == 22
/-- What the elements of an attribute say: an error and the attribute. -/
noncomputable def decL:List El → Nat × At
 |[] => (3,noAt)
 |x :: r => if x.1 ≠ 6 then (5,noAt) else match oidD x.2.1 with
  |none => (11,noAt)
  |some id => match r with
   |[] => (3,noAt)
   |y :: q => if strTag y.1 = false then (5,noAt) else if q ≠ [] then (4,noAt) else (0,(id,(y.1:Int),y.2.1))
noncomputable def decA (e:El):Nat × At:=if e.1 ≠ 48 then (5,noAt) else if (lst e.2.1).2 ≠ 0 then ((lst e.2.1).2,noAt) else decL (lst e.2.1).1
/-- The attributes of elements,or the first error. -/
noncomputable def decAs:List El → Nat × List At
 |[] => (0,[])
 |e :: r => if (decA e).1 ≠ 0 then ((decA e).1,[]) else if (decAs r).1 ≠ 0 then ((decAs r).1,[]) else (0,(decA e).2 :: (decAs r).2)
noncomputable def ascB (l:List El):Bool:=@decide (ascP l l.length) (Classical.propDecidable _)
noncomputable def decR (e:El):Nat × List At:=if e.1 ≠ 49 then (5,[]) else if (lst e.2.1).2 ≠ 0 then ((lst e.2.1).2,[]) else if ascB (lst e.2.1).1 = false then (9,[]) else decAs (lst e.2.1).1
noncomputable def decRs:List El → Nat × Nm
 |[] => (0,[])
 |e :: r => if (decR e).1 ≠ 0 then ((decR e).1,[]) else if (decRs r).1 ≠ 0 then ((decRs r).1,[]) else (0,(decR e).2 :: (decRs r).2)
noncomputable def decN0 (b:ByteArray):Nat × Nm :=
 if oneErr b ≠ 0 then (oneErr b,[]) else if rdTag b ≠ 48 then (5,[]) else if (lst (rdContent b)).2 ≠ 0 then ((lst (rdContent b)).2,[]) else decRs (lst (rdContent b)).1
noncomputable def decN (b:ByteArray):Nat × Nm:=if (decN0 b).1 ≠ 0 then ((decN0 b).1,[]) else if chkN (decN0 b).2 ≠ 0 then (chkN (decN0 b).2,[]) else (0,(decN0 b).2)
/-! ### slices.Contains -/
set_option maxRecDepth 100000 in
set_option maxHeartbeats 1000000 in
theorem cont_any (b o c:Nat) (zs:List Nat) (t n:Nat) (hn:n = zs.length) (hn3:n ≤ 1000) (w:World) (h:∀ i,i < zs.length → w.cell? ⟨b,o + i,none⟩ = some (.int .i64 ((zs.getD i 0:Nat):Int))) :
  Calls Tryz.prog 246 #[.slice (some ⟨b,o,none⟩) n c,.int .i64 (t:Int)] w fun e w' => e = .returned (.bool (decide (t ∈ zs))) ∧ Below w.heap.size w w':=by
 have HI:=Lib.hid (show Calls Tryz.prog 252 #[.slice (some ⟨b,o,none⟩) n c,.int .i64 (t:Int)] w fun e w' => (∃ k:Int,e = .returned (.int .i64 k) ∧ decide (0 ≤ k) = decide (t ∈ zs)) ∧ Below w.heap.size w w' from by
  have HC:=Lib.hid h
  have HN:=Lib.hid hn
  clear h hn
  go_enter Tryz.func252,Tryz.ntmps252
  go_wp2_with fail
  go_loopw [8] (fun i wr => ∃ k:Nat,k ≤ n ∧ i = .int .i64 (k:Int) ∧ t ∉ zs.take k ∧ Below w.heap.size w wr) (fun i _ => n - (intOf i).toNat)
  case atStart => exact ⟨0,Nat.zero_le _,rfl,by simp,Below.refl _ _⟩
  case round =>
   obtain ⟨k,hk,rfl,hm,hb⟩:=hrel
   have HM:=Lib.hid hm
   have HB:=Lib.hid hb
   clear hm hb
   by_cases hlt:k < n
   ·have hd:decide ((k:Int) < (n:Int)) = true:=by simp;omega
    have hki:(k:Int) < (n:Int):=by omega
    have c0:=HC.out k (by rw [← HN.out];exact hlt)
    have c1:=(HB.out.cell (p:=⟨b,o + k,none⟩) (block_lt c0)).trans c0
    have hmem:zs.getD k 0 ∈ zs:=by rw [List.getD_eq_getElem?_getD,List.getElem?_eq_getElem (by rw [← HN.out];exact hlt)];exact List.getElem_mem _
    have htk:=takeD zs k (by rw [← HN.out];exact hlt) 0
    generalize zs.getD k 0 = z at c1 hmem htk
    clear c0
    by_cases hz:t = z
    ·subst hz
     have hq:((t:Int) == (t:Int)) = true:=by simp
     have HF:=Lib.hid hmem
     clear htk hmem
     go_wp2_with fail
     try go_region
     all_goals (try go_wp2_with fail)
     go_ret
     exact ⟨⟨_,rfl,by rw [decide_eq_true HF.out];simp⟩,by first | exact HB.out | exact HB.out.trans ((Below.refl wr.heap.size wr).drew.mono HB.out.size)⟩
    ·have hq:((t:Int) == (z:Int)) = false:=by simp;omega
     have HF:=Lib.hid (show t ∉ zs.take (k + 1) by
      rw [htk]
      intro hm
      rcases List.mem_append.1 hm with hm | hm
      ·exact HM.out hm
      ·exact hz (List.mem_singleton.1 hm))
     clear htk hmem hz
     go_wp2_with fail
     try go_region
     all_goals (try go_wp2_with fail)
     go_roundw
     case rel => exact ⟨k + 1,by omega,by go_num,HF.out,by first | exact HB.out | exact HB.out.trans ((Below.refl wr.heap.size wr).drew.mono HB.out.size)⟩
     case measure => simp [intOf];omega
   ·have hd:decide ((k:Int) < (n:Int)) = false:=by simp;omega
    have HF:=Lib.hid (show t ∉ zs by have:=HM.out;rwa [List.take_of_length_le (by rw [← HN.out];omega)] at this)
    go_wp2_with fail
    go_ret
    exact ⟨⟨_,rfl,by rw [decide_eq_false HF.out];rfl⟩,HB.out⟩)
 clear h hn
 go_enter Tryz.func246,Tryz.ntmps246
 go_wp2_with (go_at_call 252;(with_reducible refine HI.out.mono ?_);rintro e w1 ⟨⟨k,rfl,hk⟩,hb⟩;have HK:=Lib.hid hk;have HB:=Lib.hid hb;clear hb hk)
 go_ret
 exact ⟨by rw [← HK.out];rfl,HB.out⟩
theorem slice_tail2 (a0:Option Addr) (n c:Nat) (hn:1 ≤ n) (hc:n ≤ c) (W:World):∃ a1,(Instr.slice 70 (.slice a0 n c) (some (.int .i64 1)) none none).run Tryz.prog W = .ok (.slice (if c - 1 = 0 then a0 else a0.map fun x => x.add 3) (n - 1) (c - 1)) W ∧ a1 = a0:=by
 obtain ⟨i0,hi,hz0,hz1,hz2⟩:=info_parts elInfo
 refine ⟨a0,?_,rfl⟩
 simp [Instr.slice,run_underlying Tryz.underlying70,Instr.sliceBounds,Instr.sliceBound,asIntOf,Result.andThen]
 rw [if_pos (by omega)]
 by_cases h1:c = 1
 ·subst h1;simp
 ·simp [h1,show ¬ c - 1 = 0 by omega]
theorem elRes0 {fn:Func} {p u:Tmp} (h:fn.results = #[.cell p 67,.tmp u]) (tmps:Array Value) (w:World) (g:Nat) (x y z:Value)
  (hp:tmps.getD p undef = .pointer (some ⟨g,0,none⟩)) (hg:w.heap[g]? = some (.cells #[x,y,z] 67 (0,0))) :
  (results fn tmps).run Tryz.prog w = .ok (.tuple #[.agg #[x,y,z],tmps.getD u undef]) w :=
 results_cell_row2 h tmps w g 67 #[x,y,z] (0,0) _ hp hg Tryz.underlying67 rfl (by kernel_rfl)
/-- The elements l lie at an address. -/
def ElAt (w:World) (a:Option Addr) (l:List El):Prop:=l = [] ∨ ∃ b o,a = some ⟨b,o,none⟩ ∧ ∀ k,k < l.length → w.cell? ⟨b,o + k * 3,none⟩ = some (.int .i64 (((l.getD k (0,⟨#[]⟩,⟨#[]⟩)).1:Nat):Int)) ∧ w.cell? ⟨b,o + k * 3 + 1,none⟩ = some (.string (l.getD k (0,⟨#[]⟩,⟨#[]⟩)).2.1) ∧ w.cell? ⟨b,o + k * 3 + 2,none⟩ = some (.string (l.getD k (0,⟨#[]⟩,⟨#[]⟩)).2.2)
theorem ElAt.below {w w':World} {a:Option Addr} {l:List El} (h:ElAt w a l) (hb:Below w.heap.size w w'):ElAt w' a l:=by
 rcases h with h | ⟨b,o,h1,h2⟩
 ·exact .inl h
 ·refine .inr ⟨b,o,h1,fun i hi => ?_⟩
  obtain ⟨c0,c1,c2⟩:=h2 i hi
  exact ⟨(hb.cell (block_lt c0)).trans c0,(hb.cell (block_lt c1)).trans c1,(hb.cell (block_lt c2)).trans c2⟩
theorem ElAt.of {w:World} {B:Nat} {v:Value} {l:List El} (h:OwnE w B v l):∃ a c,v = .slice a l.length c ∧ l.length ≤ c ∧ ElAt w a l ∧ (∀ x,a = some x → l ≠ [] → B ≤ x.block ∧ x.block < w.heap.size):=by
 obtain ⟨a,c,hv,hA⟩:=EAt.of h
 have h':=h
 rcases h.2 with ⟨hv',h0⟩ | ⟨g,cap,cur,hv',hB,hg,hn,_⟩
 ·rw [hv] at hv'
  obtain ⟨_,_,rfl⟩:a = none ∧ l.length = 0 ∧ c = 0:=by simpa using hv'
  have hl:l = []:=List.eq_nil_of_length_eq_zero h0
  exact ⟨a,0,hv,by omega,.inl hl,fun x _ hne => absurd hl hne⟩
 ·rw [hv] at hv'
  obtain ⟨rfl,rfl⟩:a = some ⟨g,0,none⟩ ∧ c = cap:=by simpa using hv'
  refine ⟨_,c,hv,hn,?_,fun x hx _ => by obtain rfl:=Option.some.inj hx;exact ⟨hB,(Array.getElem?_eq_some_iff.1 hg).1⟩⟩
  refine .inr ⟨g,0,rfl,fun k hk => ?_⟩
  obtain ⟨g',e,hc⟩:=hA k hk
  obtain rfl:g = g':=by simpa using e
  rw [List.getD_eq_getElem?_getD,List.getElem?_eq_getElem hk,Nat.zero_add]
  exact ⟨hc 0 (by omega),hc 1 (by omega),hc 2 (by omega)⟩
/-! ### The closure next -/
set_option maxRecDepth 100000 in
set_option maxHeartbeats 1000000 in
theorem nxt_empty (gl:Nat) (a v:Option Addr) (c n m:Nat) (w:World) (h:w.heap[gl]? = some (.cells #[.slice a 0 c] 70 (0,0))) :
  Calls Tryz.prog 245 #[.slice v n m,.pointer (some ⟨gl,0,none⟩)] w fun e w' => e = .returned (.tuple #[noEl,.int .i64 3]) ∧ Below w.heap.size w w':=by
 obtain ⟨c0,f0,l0⟩:=one_facts h
 have hne:¬ gl = w.heap.size:=by omega
 have c1:=((belowNew w (.cells #[.int .i64 0,.string ⟨#[]⟩,.string ⟨#[]⟩] 67)).cell (p:=⟨gl,0,none⟩) l0).trans c0
 clear h
 go_enter Tryz.func245,Tryz.ntmps245
 go_wp2_with fail
 exact bodyPost_ret (elRes0 rfl _ _ _ _ _ _ rfl (heap_alloc_new w _)) rfl ⟨rfl,belowNew w _⟩
/-- The world with the two blocks that next makes. -/
theorem nxt_world (w:World) (x:El):∃ V,V = (w.alloc (.cells #[.int .i64 0,.string ⟨#[]⟩,.string ⟨#[]⟩] 67)).alloc (.cells #[.int .i64 ((x.1:Nat):Int),.string x.2.1,.string x.2.2] 67) ∧ Below w.heap.size w V ∧
  V.heap[w.heap.size]? = some (.cells #[.int .i64 0,.string ⟨#[]⟩,.string ⟨#[]⟩] 67 (0,0)) ∧ V.heap[w.heap.size + 1]? = some (.cells #[.int .i64 ((x.1:Nat):Int),.string x.2.1,.string x.2.2] 67 (0,0)):=by
 refine ⟨_,rfl,belowTwo w _ _,((belowNew _ _).block _ (by simp)).trans (heap_alloc_new w _),?_⟩
 have:=heap_alloc_new (w.alloc (.cells #[.int .i64 0,.string ⟨#[]⟩,.string ⟨#[]⟩] 67)) (.cells #[.int .i64 ((x.1:Nat):Int),.string x.2.1,.string x.2.2] 67)
 simpa using this
set_option maxRecDepth 100000 in
set_option maxHeartbeats 2000000 in
theorem nxt_bad (gl b o c n tb tq m mc:Nat) (x:El) (zs:List Nat) (w:World) (h:w.heap[gl]? = some (.cells #[.slice (some ⟨b,o,none⟩) n c] 70 (0,0))) (hn:1 ≤ n) (hnz:n ≤ 1099511627776)
  (x0:w.cell? ⟨b,o,none⟩ = some (.int .i64 ((x.1:Nat):Int))) (x1:w.cell? ⟨b,o + 1,none⟩ = some (.string x.2.1)) (x2:w.cell? ⟨b,o + 2,none⟩ = some (.string x.2.2))
  (hm:m = zs.length) (hm3:m ≤ 1000) (ht:∀ i,i < zs.length → w.cell? ⟨tb,tq + i,none⟩ = some (.int .i64 ((zs.getD i 0:Nat):Int))) (hno:x.1 ∉ zs) :
  Calls Tryz.prog 245 #[.slice (some ⟨tb,tq,none⟩) m mc,.pointer (some ⟨gl,0,none⟩)] w fun e w' => e = .returned (.tuple #[noEl,.int .i64 5]) ∧ Below w.heap.size w w':=by
 obtain ⟨c0,f0,l0⟩:=one_facts h
 obtain ⟨V,hV,hb,q0,q1⟩:=nxt_world w x
 obtain ⟨v0,v1,v2,_,_,_,vl⟩:=at_facts q1
 obtain ⟨xt,xc,xr⟩:=x
 simp only at v0 v1 v2
 have hVe:=hV.symm
 have hg1:¬ gl = w.heap.size:=by omega
 have hg2:¬ w.heap.size = gl:=by omega
 have hg3:¬ gl = w.heap.size + 1:=by omega
 have hg4:¬ w.heap.size + 1 = gl:=by omega
 have bw:=belowNew w (.cells #[.int .i64 0,.string ⟨#[]⟩,.string ⟨#[]⟩] 67)
 have d0:=(bw.cell (p:=⟨gl,0,none⟩) l0).trans c0
 have y0:=(bw.cell (p:=⟨b,o,none⟩) (block_lt x0)).trans x0
 have y1:=(bw.cell (p:=⟨b,o + 1,none⟩) (block_lt x0)).trans x1
 have y2:=(bw.cell (p:=⟨b,o + 2,none⟩) (block_lt x0)).trans x2
 have hne:((n:Int) == 0) = false:=by simp;omega
 have hni:(0:Int) < (n:Int):=by omega
 have HCT:=Lib.hid (cont_any tb tq mc zs xt m hm hm3 V (fun i hi => (hb.cell (p:=⟨tb,tq + i,none⟩) (block_lt (ht i hi))).trans (ht i hi)))
 rw [decide_eq_false hno] at HCT
 have HB:=Lib.hid hb
 have HQ0:=Lib.hid q0
 have HVE:=Lib.hid hVe
 simp only at hVe
 clear h c0 f0 l0 x0 x1 x2 ht hno q0 q1 hb bw hV hm
 go_enter Tryz.func245,Tryz.ntmps245
 go_wp2_with (go_at_call 246;(with_reducible refine HCT.out.mono ?_);rintro e w1 ⟨rfl,hb1⟩;have hq:=(hb1.block w.heap.size (Array.getElem?_eq_some_iff.1 HQ0.out).1).trans HQ0.out;have HQ1:=Lib.hid hq;obtain ⟨r0,r1,r2,g0,g1,g2,hlt⟩:=at_facts hq;have HB1:=Lib.hid (below_next HB.out hb1);clear hb1 hq)
 exact bodyPost_ret (elRes0 rfl _ _ _ _ _ _ rfl (at_set HQ1.out)) rfl ⟨rfl,at_below HB1.out (Nat.le_refl _)⟩
set_option maxRecDepth 100000 in
set_option maxHeartbeats 2000000 in
theorem nxt_ok (gl b o c n tb tq m mc:Nat) (x:El) (zs:List Nat) (w:World) (h:w.heap[gl]? = some (.cells #[.slice (some ⟨b,o,none⟩) n c] 70 (0,0))) (hn:1 ≤ n) (hnc:n ≤ c) (hnz:n ≤ 1099511627776)
  (x0:w.cell? ⟨b,o,none⟩ = some (.int .i64 ((x.1:Nat):Int))) (x1:w.cell? ⟨b,o + 1,none⟩ = some (.string x.2.1)) (x2:w.cell? ⟨b,o + 2,none⟩ = some (.string x.2.2))
  (hm:m = zs.length) (hm3:m ≤ 1000) (ht:∀ i,i < zs.length → w.cell? ⟨tb,tq + i,none⟩ = some (.int .i64 ((zs.getD i 0:Nat):Int))) (hyes:x.1 ∈ zs) :
  Calls Tryz.prog 245 #[.slice (some ⟨tb,tq,none⟩) m mc,.pointer (some ⟨gl,0,none⟩)] w fun e w' => e = .returned (.tuple #[elV x.1 x.2.1 x.2.2,.int .i64 0]) ∧ (∃ a1,w'.heap[gl]? = some (.cells #[.slice a1 (n - 1) (c - 1)] 70 (0,0)) ∧ (1 < n → a1 = some ⟨b,o + 3,none⟩)) ∧ But gl w w':=by
 obtain ⟨c0,f0,l0⟩:=one_facts h
 obtain ⟨V,hV,hb,q0,q1⟩:=nxt_world w x
 obtain ⟨v0,v1,v2,_,_,_,vl⟩:=at_facts q1
 obtain ⟨xt,xc,xr⟩:=x
 simp only at v0 v1 v2
 have hVe:=hV.symm
 have hg1:¬ gl = w.heap.size:=by omega
 have hg2:¬ w.heap.size = gl:=by omega
 have hg3:¬ gl = w.heap.size + 1:=by omega
 have hg4:¬ w.heap.size + 1 = gl:=by omega
 have bw:=belowNew w (.cells #[.int .i64 0,.string ⟨#[]⟩,.string ⟨#[]⟩] 67)
 have d0:=(bw.cell (p:=⟨gl,0,none⟩) l0).trans c0
 have y0:=(bw.cell (p:=⟨b,o,none⟩) (block_lt x0)).trans x0
 have y1:=(bw.cell (p:=⟨b,o + 1,none⟩) (block_lt x0)).trans x1
 have y2:=(bw.cell (p:=⟨b,o + 2,none⟩) (block_lt x0)).trans x2
 have hne:((n:Int) == 0) = false:=by simp;omega
 have hni:(0:Int) < (n:Int):=by omega
 have HCT:=Lib.hid (cont_any tb tq mc zs xt m hm hm3 V (fun i hi => (hb.cell (p:=⟨tb,tq + i,none⟩) (block_lt (ht i hi))).trans (ht i hi)))
 rw [decide_eq_true hyes] at HCT
 obtain ⟨a1,hsl,ha1⟩:∃ a1,(∀ W,(Instr.slice 70 (.slice (some ⟨b,o,none⟩) n c) (some (.int .i64 1)) none none).run Tryz.prog W = .ok (.slice a1 (n - 1) (c - 1)) W) ∧ (1 < n → a1 = some ⟨b,o + 3,none⟩):=by
  refine ⟨if c - 1 = 0 then some ⟨b,o,none⟩ else some ⟨b,o + 3,none⟩,fun W => ?_,fun h => if_neg (by omega)⟩
  obtain ⟨a1,e,_⟩:=slice_tail2 (some ⟨b,o,none⟩) n c hn hnc W
  rw [e]
  rfl
 have HA1:=Lib.hid ha1
 obtain ⟨n',hn'⟩:∃ n',n' = n - 1:=⟨_,rfl⟩
 obtain ⟨c',hc'⟩:∃ c',c' = c - 1:=⟨_,rfl⟩
 rw [← hn',← hc'] at hsl ⊢
 have HB:=Lib.hid hb
 have HQ0:=Lib.hid q0
 have HQ5:=Lib.hid q1
 have HH:=Lib.hid h
 simp only at hVe
 clear h c0 f0 x0 x1 x2 ht hyes q0 q1 hb bw hV hm ha1 hn' hc'
 go_enter Tryz.func245,Tryz.ntmps245
 go_wp2_with (go_at_call 246;(with_reducible refine HCT.out.mono ?_);rintro e w1 ⟨rfl,hb1⟩;have hq:=(hb1.block w.heap.size (Array.getElem?_eq_some_iff.1 HQ0.out).1).trans HQ0.out;have HQ1:=Lib.hid hq;obtain ⟨r0,r1,r2,g0,g1,g2,hlt⟩:=at_facts hq;have hq5:=(hb1.block (w.heap.size + 1) (Array.getElem?_eq_some_iff.1 HQ5.out).1).trans HQ5.out;obtain ⟨s0,s1,s2,_,_,_,hlt5⟩:=at_facts hq5;have HB1:=Lib.hid (below_next HB.out hb1);have hqg:=(HB1.out.block gl l0).trans HH.out;have HQG:=Lib.hid hqg;obtain ⟨t0,t1,hltg⟩:=one_facts hqg;clear hb1 hq hqg hq5)
 exact bodyPost_ret (elRes0 rfl _ _ _ _ _ _ rfl (at_set (((But.set gl 0 w1 _).block w.heap.size hlt (by simp;omega)).trans HQ1.out))) rfl
  ⟨rfl,⟨a1,el_other (one_set HQG.out) hg2,HA1.out⟩,((((But.of HB1.out).next (But.set gl 0 w1 _)).fresh (But.set w.heap.size 0 _ _) (Nat.le_refl _)).fresh (But.set w.heap.size 1 _ _) (Nat.le_refl _)).fresh (But.set w.heap.size 2 _ _) (Nat.le_refl _)⟩
theorem lst_mem:∀ (n:Nat) (b:ByteArray),b.size ≤ n → ∀ e ∈ (lst b).1,e.2.1.size ≤ b.size
 |0,b,h,e,he => by rw [lst_nil (by omega)] at he;cases he
 |n + 1,b,h,e,he => by
  by_cases h0:b.size = 0
  ·rw [lst_nil h0] at he;cases he
  ·by_cases hr:rdErr b = 0
   ·rw [lst_step h0 hr] at he
    have h1:=rdRest_size hr
    have h2:=rdContent_size hr
    split at he
    ·rcases List.mem_cons.1 he with rfl | he
     ·exact Nat.le_of_lt h2
     ·have:=lst_mem n (rdRest b) (by omega) e he
      omega
    ·cases he
   ·rw [lst_bad h0 hr] at he;cases he
theorem atRes0 {fn:Func} {p u:Tmp} (h:fn.results = #[.cell p 86,.tmp u]) (tmps:Array Value) (w:World) (g:Nat) (x y z:Value)
  (hp:tmps.getD p undef = .pointer (some ⟨g,0,none⟩)) (hg:w.heap[g]? = some (.cells #[x,y,z] 86 (0,0))) :
  (results fn tmps).run Tryz.prog w = .ok (.tuple #[.agg #[x,y,z],tmps.getD u undef]) w :=
 results_cell_row2 h tmps w g 86 #[x,y,z] (0,0) _ hp hg Tryz.underlying86 rfl atSize
theorem ElAt.but {w w':World} {p:Nat} {a:Option Addr} {l:List El} (h:ElAt w a l) (hb:But p w w') (hne:∀ x,a = some x → l ≠ [] → x.block ≠ p):ElAt w' a l:=by
 rcases h with h | ⟨b,o,rfl,h2⟩
 ·exact .inl h
 ·refine .inr ⟨b,o,rfl,fun i hi => ?_⟩
  have hn:=hne _ rfl (fun e => by rw [e] at hi;exact absurd hi (Nat.not_lt_zero _))
  obtain ⟨c0,c1,c2⟩:=h2 i hi
  have hbk:=hb.block b (block_lt c0) (by simpa using hn)
  exact ⟨(cell_same hbk _).trans c0,(cell_same hbk _).trans c1,(cell_same hbk _).trans c2⟩
theorem decL_tag {x:El} {r:List El} (h:x.1 ≠ 6):decL (x :: r) = (5,noAt):=by unfold decL;simp [h]
theorem decL_oid {x:El} {r:List El} (h:x.1 = 6) (k:oidD x.2.1 = none):decL (x :: r) = (11,noAt):=by unfold decL;simp [h,k]
theorem decL_one {x:El} {id:ByteArray} (h:x.1 = 6) (k:oidD x.2.1 = some id):decL [x] = (3,noAt):=by unfold decL;simp [h,k]
theorem decL_kind {x y:El} {q:List El} {id:ByteArray} (h:x.1 = 6) (k:oidD x.2.1 = some id) (hy:strTag y.1 = false):decL (x :: y :: q) = (5,noAt):=by unfold decL;simp [h,k,hy]
theorem decL_more {x y z:El} {q:List El} {id:ByteArray} (h:x.1 = 6) (k:oidD x.2.1 = some id) (hy:strTag y.1 = true):decL (x :: y :: z :: q) = (4,noAt):=by unfold decL;simp [h,k,hy]
theorem decL_ok {x y:El} {id:ByteArray} (h:x.1 = 6) (k:oidD x.2.1 = some id) (hy:strTag y.1 = true):decL [x,y] = (0,(id,(y.1:Int),y.2.1)):=by unfold decL;simp [h,k,hy]
theorem strTag_iff (t:Nat):strTag t = true ↔ t ∈ [12,19,22]:=by simp [strTag,or_assoc]
/-- A world with a box and a row behind it. -/
theorem two_new (w:World) (v:Value) (T:TypeId) (cs:Array Value) (U:TypeId):∃ V,V = (w.alloc (.cells #[v] T)).alloc (.cells cs U) ∧ Below w.heap.size w V ∧ V.heap[w.heap.size]? = some (.cells #[v] T (0,0)) ∧ V.heap[w.heap.size + 1]? = some (.cells cs U (0,0)) ∧ V.heap.size = w.heap.size + 2:=by
 refine ⟨_,rfl,belowTwo w _ _,((belowNew _ _).block _ (by simp)).trans (heap_alloc_new w _),?_,by simp⟩
 have:=heap_alloc_new (w.alloc (.cells #[v] T)) (.cells cs U)
 simpa using this
set_option maxRecDepth 100000 in
set_option maxHeartbeats 8000000 in
theorem deca_any (x:El) (w:World) (hx:x.2.1.size ≤ 1099511627) (hP:Pow10 w) :
  Calls Tryz.prog 230 #[elV x.1 x.2.1 x.2.2] w fun e w' => e = .returned (.tuple #[atV (decA x).2,.int .i64 (((decA x).1:Nat):Int)]) ∧ Below w.heap.size w w':=by
 obtain ⟨t,ct,rw0⟩:=x
 unfold elV
 simp only at hx ⊢
 obtain ⟨W0,hW0⟩:∃ W0,W0 = (w.alloc (.cells #[.int .i64 ((t:Nat):Int),.string ct,.string rw0] 67)).alloc (.cells #[.string ⟨#[]⟩,.int .i64 0,.string ⟨#[]⟩] 86):=⟨_,rfl⟩
 have hwe:=hW0.symm
 have hb0:Below w.heap.size w W0:=by rw [hW0];exact belowTwo w _ _
 have q0:W0.heap[w.heap.size]? = some (.cells #[.int .i64 ((t:Nat):Int),.string ct,.string rw0] 67 (0,0)):=by
  rw [hW0];exact ((belowNew _ _).block _ (by simp)).trans (heap_alloc_new w _)
 have q1:W0.heap[w.heap.size + 1]? = some (.cells #[.string ⟨#[]⟩,.int .i64 0,.string ⟨#[]⟩] 86 (0,0)):=by
  have:=heap_alloc_new (w.alloc (.cells #[.int .i64 ((t:Nat):Int),.string ct,.string rw0] 67)) (.cells #[.string ⟨#[]⟩,.int .i64 0,.string ⟨#[]⟩] 86)
  rw [← hW0] at this
  simpa using this
 obtain ⟨e0,e1,e2,_,_,_,el⟩:=at_facts q0
 obtain ⟨r0,r1,r2,g0,g1,g2,rl⟩:=at_facts q1
 have HB0:=Lib.hid hb0
 have HQ1:=Lib.hid q1
 have HP:=Lib.hid (hP.below hb0)
 clear hW0 hb0 q0 q1 hP
 by_cases ht:t = 48
 case neg =>
  have hd:((t:Int) != 48) = true:=by simp;omega
  have e:decA (t,ct,rw0) = (5,noAt):=if_pos ht
  rw [e]
  clear e ht
  go_enter Tryz.func230,Tryz.ntmps230
  go_wp2_with fail
  exact bodyPost_ret (atRes0 rfl _ _ _ _ _ _ rfl (at_set HQ1.out)) rfl ⟨rfl,at_below HB0.out (Nat.le_succ _)⟩
 have hd:((t:Int) != 48) = false:=by rw [ht];rfl
 have e:decA (t,ct,rw0) = if (lst ct).2 ≠ 0 then ((lst ct).2,noAt) else decL (lst ct).1:=if_neg (by simpa using ht)
 obtain ⟨E,A,hEA⟩:∃ E A,decA (t,ct,rw0) = (E,A):=⟨_,_,rfl⟩
 rw [hEA] at e ⊢
 have HRES:=Lib.hid e
 have HLS:=Lib.hid (list_any ct W0 (Nat.le_trans hx (by omega)))
 have HMEM:=Lib.hid (fun z (hz:z ∈ (lst ct).1) => Nat.le_trans (lst_mem _ ct (Nat.le_refl _) z hz) hx)
 have hlen:=lst_length ct _ (Nat.le_refl _)
 generalize lst ct = LE at HLS HMEM hlen HRES
 obtain ⟨l,er⟩:=LE
 simp only at HLS HMEM hlen HRES ⊢
 clear e ht hEA
 go_enter Tryz.func230,Tryz.ntmps230
 go_wp2_with fail
 refine HLS.out.mono ?_
 rintro e w1 ⟨v1,rfl,ho1,hb1⟩
 obtain ⟨a,c,rfl,hlc,hel,hbk⟩:=ElAt.of ho1
 have hqr:=(hb1.block (w.heap.size + 1) rl).trans HQ1.out
 have HQR:=Lib.hid hqr
 have HB1:=Lib.hid (below_next HB0.out hb1)
 have HP1:=Lib.hid (HP.out.below hb1)
 obtain ⟨s0,s1,s2,f0,f1,f2,sl⟩:=at_facts hqr
 have HEL:=Lib.hid hel
 have HBK:=Lib.hid hbk
 obtain ⟨n,hn⟩:∃ n,n = l.length:=⟨_,rfl⟩
 rw [← hn] at hlc hlen ⊢
 have HN:=Lib.hid hn
 have hnz:n ≤ 1099511627:=by omega
 clear e0 e1 e2 el r0 r1 r2 g0 g1 g2 rl hwe ho1 hb1 hqr hel hbk hn hd
 obtain ⟨V1,hV1,hbV,qg,qt,hzV⟩:=two_new w1 (.slice a n c) 70 #[.int .i64 6] 3
 have hwg:w.heap.size + 1 < w1.heap.size:=sl
 have HV1:=Lib.hid hV1
 clear hV1
 by_cases hz:er = 0
 case neg =>
  obtain ⟨rfl,rfl⟩:E = er ∧ A = noAt:=by have:=HRES.out;rw [if_pos hz] at this;simpa using this
  have hz1:=errno_ne hz
  clear hz hbV qg qt hzV
  go_wp2_with fail
  exact bodyPost_ret (atRes0 rfl _ _ _ _ _ _ rfl (((belowNew _ _).block _ (Array.getElem?_eq_some_iff.1 (at_set HQR.out)).1).trans (at_set HQR.out))) rfl ⟨rfl,below_next (at_below HB1.out (Nat.le_succ _)) (belowNew _ _)⟩
 subst hz
 have HRE:=Lib.hid (show (E,A) = decL l by have:=HRES.out;rwa [if_neg (by simp)] at this)
 clear HRES
 go_wp2_with fail
 rw [← HV1.out]
 obtain ⟨gl,hgl⟩:∃ gl,gl = w1.heap.size:=⟨_,rfl⟩
 rw [← hgl] at qg qt hzV hwg hbV ⊢
 have HGL:=Lib.hid hgl
 have HRV:=Lib.hid (show V1.heap[w.heap.size + 1]? = _ from (hbV.block (w.heap.size + 1) hwg).trans HQR.out)
 have HBV1:=Lib.hid (show Below w.heap.size w V1 from HB1.out.trans (hbV.mono (Nat.le_of_lt (by omega))))
 have HELV:=Lib.hid (HEL.out.below (by rw [← hgl];exact hbV))
 have HPV:=Lib.hid (HP1.out.below (by rw [← hgl];exact hbV))
 have hqt0:=(one_facts qt).1
 have HQG:=Lib.hid qg
 have HBVV:=Lib.hid hbV
 have HQT:=Lib.hid qt
 clear qg qt hbV s0 s1 s2 f0 f1 f2 sl hgl
 cases l with
 |nil =>
  obtain ⟨rfl,rfl⟩:E = 3 ∧ A = noAt:=by have:=HRE.out;simpa [decL] using this
  obtain rfl:n = 0:=HN.out
  refine (nxt_empty gl a (some ⟨gl + 1,0,none⟩) c 1 1 V1 HQG.out).mono ?_
  rintro e w2 ⟨rfl,hb2⟩
  have hrg:=(hb2.block (w.heap.size + 1) (Array.getElem?_eq_some_iff.1 HRV.out).1).trans HRV.out
  obtain ⟨s0,s1,s2,f0,f1,f2,sl⟩:=at_facts ((belowNew w2 (.cells #[.int .i64 0,.string ⟨#[]⟩,.string ⟨#[]⟩] 67)).block (w.heap.size + 1) (Array.getElem?_eq_some_iff.1 hrg).1 |>.trans hrg)
  have HRF:=Lib.hid ((belowNew w2 (.cells #[.int .i64 0,.string ⟨#[]⟩,.string ⟨#[]⟩] 67)).block (w.heap.size + 1) (Array.getElem?_eq_some_iff.1 hrg).1 |>.trans hrg)
  have HBF:=Lib.hid (below_next (below_next HBV1.out hb2) (belowNew w2 (.cells #[.int .i64 0,.string ⟨#[]⟩,.string ⟨#[]⟩] 67)))
  clear hb2 hrg
  unfold noEl
  go_wp2_with fail
  exact bodyPost_ret (atRes0 rfl _ _ _ _ _ _ rfl (at_set HRF.out)) rfl ⟨rfl,at_below HBF.out (Nat.le_succ _)⟩
 |cons x r =>
  obtain ⟨b,o,rfl,hcl⟩:=HELV.out.resolve_left (by simp)
  have hb2:=HBK.out _ rfl (by simp)
  rw [← HGL.out] at hb2
  have hbg:b ≠ gl:=by have:=hb2.2;simp at this;omega
  have hn1:1 ≤ n:=by have:=HN.out;simp at this;omega
  obtain ⟨x0,x1,x2⟩:=hcl 0 (by simp)
  rw [Nat.zero_mul,Nat.add_zero] at x0 x1 x2
  rw [show (x :: r).getD 0 ((0:Nat),(⟨#[]⟩:ByteArray),(⟨#[]⟩:ByteArray)) = x from rfl] at x0 x1 x2
  have htq:∀ i,i < [6].length → V1.cell? ⟨gl + 1,0 + i,none⟩ = some (.int .i64 (([6].getD i 0:Nat):Int)):=fun i hi => by
   obtain rfl:i = 0:=by simpa using hi
   exact hqt0
  have HXM:=Lib.hid (HMEM.out x (by simp))
  have HCL:=Lib.hid hcl
  clear hcl hb2
  by_cases hx6:x.1 = 6
  case neg =>
   obtain ⟨rfl,rfl⟩:E = 5 ∧ A = noAt:=by have:=HRE.out;rw [decL_tag hx6] at this;simpa using this
   refine (nxt_bad gl b o c n (gl + 1) 0 1 1 x [6] V1 HQG.out hn1 (by omega) x0 x1 x2 rfl (by omega) htq (by simpa using hx6)).mono ?_
   rintro e w2 ⟨rfl,hb2⟩
   have hrg:=(hb2.block (w.heap.size + 1) (Array.getElem?_eq_some_iff.1 HRV.out).1).trans HRV.out
   obtain ⟨s0,s1,s2,f0,f1,f2,sl⟩:=at_facts ((belowNew w2 (.cells #[.int .i64 0,.string ⟨#[]⟩,.string ⟨#[]⟩] 67)).block (w.heap.size + 1) (Array.getElem?_eq_some_iff.1 hrg).1 |>.trans hrg)
   have HRF:=Lib.hid ((belowNew w2 (.cells #[.int .i64 0,.string ⟨#[]⟩,.string ⟨#[]⟩] 67)).block (w.heap.size + 1) (Array.getElem?_eq_some_iff.1 hrg).1 |>.trans hrg)
   have HBF:=Lib.hid (below_next (below_next HBV1.out hb2) (belowNew w2 (.cells #[.int .i64 0,.string ⟨#[]⟩,.string ⟨#[]⟩] 67)))
   clear hb2 hrg x0 x1 x2 htq hqt0 hx6
   unfold noEl
   go_wp2_with fail
   exact bodyPost_ret (atRes0 rfl _ _ _ _ _ _ rfl (at_set HRF.out)) rfl ⟨rfl,at_below HBF.out (Nat.le_succ _)⟩
  have hx6':x.1 = 6:=by simpa using hx6
  refine (nxt_ok gl b o c n (gl + 1) 0 1 1 x [6] V1 HQG.out hn1 hlc (by omega) x0 x1 x2 rfl (by omega) htq (by simpa using hx6)).mono ?_
  rintro e w2 ⟨rfl,⟨a1,hg2,ha1⟩,hb2⟩
  obtain ⟨n1,hn1'⟩:∃ n1,n1 = n - 1:=⟨_,rfl⟩
  obtain ⟨c1,hc1'⟩:∃ c1,c1 = c - 1:=⟨_,rfl⟩
  rw [← hn1',← hc1'] at hg2
  have HN1:=Lib.hid (show n1 = r.length by rw [hn1',HN.out];simp)
  have hc1:n1 ≤ c1:=by omega
  have hn1n:n1 ≤ n:=by omega
  have HA1:=Lib.hid (show 1 ≤ n1 → a1 = some ⟨b,o + 3,none⟩ from fun h => ha1 (by omega))
  obtain ⟨xt,xc,xr⟩:=x
  unfold elV
  simp only at HXM hx6' ⊢
  have HX6:=Lib.hid hx6'
  obtain ⟨W3,hW3⟩:∃ W3,W3 = w2.alloc (.cells #[.int .i64 ((xt:Nat):Int),.string xc,.string xr] 67):=⟨_,rfl⟩
  have hb3:Below w2.heap.size w2 W3:=by rw [hW3];exact belowNew w2 _
  have hq3:W3.heap[w2.heap.size]? = some (.cells #[.int .i64 ((xt:Nat):Int),.string xc,.string xr] 67 (0,0)):=by rw [hW3];exact heap_alloc_new w2 _
  obtain ⟨y0,y1,y2,_,_,_,yl⟩:=at_facts hq3
  have hW3':=hW3.symm
  have HB3:=Lib.hid (show But gl V1 W3 from hb2.next (But.of hb3))
  have HG3:=Lib.hid ((hb3.block gl (Array.getElem?_eq_some_iff.1 hg2).1).trans hg2)
  have HR3:=Lib.hid ((HB3.out.block (w.heap.size + 1) (Array.getElem?_eq_some_iff.1 HRV.out).1 (by simp;omega)).trans HRV.out)
  have HBW3:=Lib.hid (show Below w.heap.size w W3 from HBV1.out.trans ((HB3.out.below (by omega)).mono (by omega)))
  have HP3:=Lib.hid (show Pow10 W3 from HP1.out.below (by rw [← HGL.out];exact HBVV.out.trans (HB3.out.below (by omega))))
  clear hW3 hb3 hq3 hb2 hg2 ha1 x0 x1 x2 htq hqt0 hn1' hc1' hx6 hx6'
  go_wp2_with fail
  refine (decode_any xc W3 HXM.out HP3.out).mono ?_
  rintro e w4 ⟨hdc,hb4⟩
  have HB4:=Lib.hid (show But gl V1 w4 from HB3.out.next (But.of hb4))
  have HG4:=Lib.hid ((hb4.block gl (Array.getElem?_eq_some_iff.1 HG3.out).1).trans HG3.out)
  have HR4:=Lib.hid ((hb4.block (w.heap.size + 1) (Array.getElem?_eq_some_iff.1 HR3.out).1).trans HR3.out)
  have HBW4:=Lib.hid (below_next HBW3.out hb4)
  clear hb4 y0 y1 y2 yl hW3'
  rcases oidD_decd hdc with ⟨id,hid,rfl⟩ | ⟨hid,rfl⟩
  case inr =>
   obtain ⟨rfl,rfl⟩:E = 11 ∧ A = noAt:=by have:=HRE.out;rw [decL_oid HX6.out hid] at this;simpa using this
   obtain ⟨s0,s1,s2,f0,f1,f2,sl⟩:=at_facts HR4.out
   clear hdc hid
   go_wp2_with fail
   exact bodyPost_ret (atRes0 rfl _ _ _ _ _ _ rfl (at_set HR4.out)) rfl ⟨rfl,at_below HBW4.out (Nat.le_succ _)⟩
  have HID:=Lib.hid hid
  clear hdc hid
  go_wp2_with fail
  obtain ⟨V4,hV4⟩:∃ V4,V4 = w4.alloc (.cells #[.int .i64 12,.int .i64 19,.int .i64 22] 3):=⟨_,rfl⟩
  have hbv4:Below w4.heap.size w4 V4:=by rw [hV4];exact belowNew w4 _
  have htv4:∀ i,i < [12,19,22].length → V4.cell? ⟨w4.heap.size,0 + i,none⟩ = some (.int .i64 (([12,19,22].getD i 0:Nat):Int)):=fun i hi => by
   rw [hV4,Nat.zero_add,cell_of_row _ _ i _ _ _ (heap_alloc_new w4 _)]
   rcases (by simp at hi;omega:i = 0 ∨ i = 1 ∨ i = 2) with rfl | rfl | rfl <;> rfl
  rw [← hV4]
  have HB5:=Lib.hid (show But gl V1 V4 from HB4.out.next (But.of hbv4))
  have HG5:=Lib.hid ((hbv4.block gl (Array.getElem?_eq_some_iff.1 HG4.out).1).trans HG4.out)
  have HR5:=Lib.hid ((hbv4.block (w.heap.size + 1) (Array.getElem?_eq_some_iff.1 HR4.out).1).trans HR4.out)
  have HBW5:=Lib.hid (below_next HBW4.out hbv4)
  have HV4:=Lib.hid hV4
  clear hbv4 hV4
  cases r with
  |nil =>
   obtain ⟨rfl,rfl⟩:E = 3 ∧ A = noAt:=by have:=HRE.out;rw [decL_one HX6.out HID.out] at this;simpa using this
   obtain rfl:n1 = 0:=HN1.out
   refine (nxt_empty gl a1 (some ⟨w4.heap.size,0,none⟩) c1 3 3 V4 HG5.out).mono ?_
   rintro e w5 ⟨rfl,hb5⟩
   have hrg:=(hb5.block (w.heap.size + 1) (Array.getElem?_eq_some_iff.1 HR5.out).1).trans HR5.out
   obtain ⟨s0,s1,s2,f0,f1,f2,sl⟩:=at_facts ((belowNew w5 (.cells #[.int .i64 0,.string ⟨#[]⟩,.string ⟨#[]⟩] 67)).block (w.heap.size + 1) (Array.getElem?_eq_some_iff.1 hrg).1 |>.trans hrg)
   have HRF:=Lib.hid ((belowNew w5 (.cells #[.int .i64 0,.string ⟨#[]⟩,.string ⟨#[]⟩] 67)).block (w.heap.size + 1) (Array.getElem?_eq_some_iff.1 hrg).1 |>.trans hrg)
   have HBF:=Lib.hid (below_next (below_next HBW5.out hb5) (belowNew w5 (.cells #[.int .i64 0,.string ⟨#[]⟩,.string ⟨#[]⟩] 67)))
   clear hb5 hrg htv4
   unfold noEl
   go_wp2_with fail
   exact bodyPost_ret (atRes0 rfl _ _ _ _ _ _ rfl (at_set HRF.out)) rfl ⟨rfl,at_below HBF.out (Nat.le_succ _)⟩
  |cons y q =>
   have hn11:1 ≤ n1:=by have:=HN1.out;simp at this;omega
   obtain rfl:=HA1.out hn11
   obtain ⟨z0,z1,z2⟩:=HCL.out 1 (by simp)
   rw [Nat.one_mul] at z0 z1 z2
   rw [show ((xt,xc,xr) :: y :: q).getD 1 ((0:Nat),(⟨#[]⟩:ByteArray),(⟨#[]⟩:ByteArray)) = y from rfl] at z0 z1 z2
   have hbk:=HB5.out.block b (block_lt z0) (by simpa using hbg)
   have z0:=(cell_same hbk _).trans z0
   have z1:=(cell_same hbk _).trans z1
   have z2:=(cell_same hbk _).trans z2
   clear hbk
   cases hsy:strTag y.1 with
   |false =>
    obtain ⟨rfl,rfl⟩:E = 5 ∧ A = noAt:=by have:=HRE.out;rw [decL_kind HX6.out HID.out hsy] at this;simpa using this
    refine (nxt_bad gl b (o + 3) c1 n1 w4.heap.size 0 3 3 y [12,19,22] V4 HG5.out hn11 (by omega) z0 z1 z2 rfl (by omega) htv4 (fun h => by rw [(strTag_iff _).2 h] at hsy;cases hsy)).mono ?_
    rintro e w5 ⟨rfl,hb5⟩
    have hrg:=(hb5.block (w.heap.size + 1) (Array.getElem?_eq_some_iff.1 HR5.out).1).trans HR5.out
    obtain ⟨s0,s1,s2,f0,f1,f2,sl⟩:=at_facts ((belowNew w5 (.cells #[.int .i64 0,.string ⟨#[]⟩,.string ⟨#[]⟩] 67)).block (w.heap.size + 1) (Array.getElem?_eq_some_iff.1 hrg).1 |>.trans hrg)
    have HRF:=Lib.hid ((belowNew w5 (.cells #[.int .i64 0,.string ⟨#[]⟩,.string ⟨#[]⟩] 67)).block (w.heap.size + 1) (Array.getElem?_eq_some_iff.1 hrg).1 |>.trans hrg)
    have HBF:=Lib.hid (below_next (below_next HBW5.out hb5) (belowNew w5 (.cells #[.int .i64 0,.string ⟨#[]⟩,.string ⟨#[]⟩] 67)))
    clear hb5 hrg htv4 z0 z1 z2 hsy
    unfold noEl
    go_wp2_with fail
    exact bodyPost_ret (atRes0 rfl _ _ _ _ _ _ rfl (at_set HRF.out)) rfl ⟨rfl,at_below HBF.out (Nat.le_succ _)⟩
   |true =>
    refine (nxt_ok gl b (o + 3) c1 n1 w4.heap.size 0 3 3 y [12,19,22] V4 HG5.out hn11 hc1 (by omega) z0 z1 z2 rfl (by omega) htv4 ((strTag_iff _).1 hsy)).mono ?_
    rintro e w5 ⟨rfl,⟨a2,hg5,_⟩,hb5⟩
    obtain ⟨n2,hn2'⟩:∃ n2,n2 = n1 - 1:=⟨_,rfl⟩
    rw [← hn2'] at hg5
    have HN2:=Lib.hid (show n2 = q.length by rw [hn2',HN1.out];simp)
    obtain ⟨yt,yc,yr⟩:=y
    unfold elV
    simp only at hsy ⊢
    obtain ⟨W6,hW6⟩:∃ W6,W6 = w5.alloc (.cells #[.int .i64 ((yt:Nat):Int),.string yc,.string yr] 67):=⟨_,rfl⟩
    have hb6:Below w5.heap.size w5 W6:=by rw [hW6];exact belowNew w5 _
    have hq6:W6.heap[w5.heap.size]? = some (.cells #[.int .i64 ((yt:Nat):Int),.string yc,.string yr] 67 (0,0)):=by rw [hW6];exact heap_alloc_new w5 _
    obtain ⟨y0,y1,y2,_,_,_,yl⟩:=at_facts hq6
    have hW6':=hW6.symm
    have hB6:But gl V4 W6:=hb5.next (But.of hb6)
    have hg6:=(hb6.block gl (Array.getElem?_eq_some_iff.1 hg5).1).trans hg5
    obtain ⟨k0,_,_⟩:=one_facts hg6
    have HR6:=Lib.hid ((hB6.block (w.heap.size + 1) (Array.getElem?_eq_some_iff.1 HR5.out).1 (by simp;omega)).trans HR5.out)
    have HBW6:=Lib.hid (show Below w.heap.size w W6 from HBW5.out.trans ((hB6.below (Nat.le_of_lt (Array.getElem?_eq_some_iff.1 HG5.out).1)).mono (by omega)))
    obtain ⟨s0,s1,s2,f0,f1,f2,sl⟩:=at_facts HR6.out
    have hgn:¬ gl = w.heap.size + 1:=by omega
    have hgn':¬ w.heap.size + 1 = gl:=by omega
    have HSY:=Lib.hid hsy
    clear hW6 hb6 hq6 hb5 hg5 hB6 hg6 z0 z1 z2 htv4 hn2' hsy
    cases q with
    |nil =>
     obtain ⟨rfl,rfl⟩:E = 0 ∧ A = (id,(yt:Int),yc):=by have:=HRE.out;rw [decL_ok HX6.out HID.out HSY.out] at this;simpa using this
     obtain rfl:n2 = 0:=HN2.out
     go_wp2_with fail
     exact bodyPost_ret (atRes0 rfl _ _ _ _ _ _ rfl (at_set HR6.out)) rfl ⟨rfl,at_below HBW6.out (Nat.le_succ _)⟩
    |cons z q =>
     obtain ⟨rfl,rfl⟩:E = 4 ∧ A = noAt:=by have:=HRE.out;rw [decL_more HX6.out HID.out HSY.out] at this;simpa using this
     have h20:0 < n2:=by have:=HN2.out;simp at this;omega
     have h2d:decide ((0:Int) < (n2:Int)) = true:=by simp;omega
     go_wp2_with fail
     exact bodyPost_ret (atRes0 rfl _ _ _ _ _ _ rfl (at_set HR6.out)) rfl ⟨rfl,at_below HBW6.out (Nat.le_succ _)⟩
end Go.Proofs.YtbpdenfiifcfcaaGreatDoor
