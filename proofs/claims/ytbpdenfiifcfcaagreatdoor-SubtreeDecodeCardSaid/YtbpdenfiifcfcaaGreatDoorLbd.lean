/-
  Elements, and what is read of them; attributes, relative names and names, and their encodings: each determines the other. Nothing is claimed of the program here.
  What is encoded is decoded, apart from the order of attributes; what is decoded is encoded as it was. Nothing is claimed of the program here.
  The contract of the reference's DecodeGeneral: the general name of an element, or the error.
-/
import Derived.Test.YtbpdenfiifcfcaaGreatDoorLba
import Derived.Test.YtbpdenfiifcfcaaGreatDoorLbc
import Derived.Test.YtbpdenfiifcfcaaGreatDoorLax
import Derived.Test.YtbpdenfiifcfcaaGreatDoorLbb
namespace Go.Proofs.YtbpdenfiifcfcaaGreatDoor
open Go.RowKit
/-! ### Elements -/
theorem wr1_list {t:Nat} {c:ByteArray} (ht:t < 256) (h1:t % 32 ≠ 31) (hc:c.size ≤ 131072):(wr1 ((t:Nat):Int) c).data.toList = wrapL t c.data.toList:=by
 have e:wrapErr ((t:Nat):Int) c.data.toList.length = 0:=by
  have:c.data.toList.length = c.size:=rfl
  unfold wrapErr
  rw [if_neg (by omega),if_neg (by omega)]
 unfold wr1 wrapStr
 rw [e,if_pos rfl]
 rfl
/-- An element as Wrap writes it. -/
def OkE (e:El):Prop:=e.1 < 256 ∧ e.1 % 32 ≠ 31 ∧ e.2.1.size ≤ 131072 ∧ e.2.2 = wr1 ((e.1:Nat):Int) e.2.1
def raws (L:List El):List (List UInt8):=L.map fun e => e.2.2.data.toList
theorem lst_els:∀ (L:List El),(∀ e ∈ L,OkE e) → ∀ b:ByteArray,b.data.toList = (raws L).flatten → lst b = (L,0)
 |[],_,b,hb => lst_nil (by rw [size_list hb];rfl)
 |e :: L,h,b,hb => by
  obtain ⟨t,c,r⟩:=e
  obtain ⟨ht,h1,hc,hr⟩:=h _ List.mem_cons_self
  simp only at ht h1 hc hr
  have hw:=wr1_list ht h1 hc
  have hb2:b.data.toList = wrapL t c.data.toList ++ (raws L).flatten:=by
   rw [hb,raws,List.map_cons,List.flatten_cons,hr,hw];rfl
  have hrd:=rd_wrap ht h1 hc hb2
  have he:rdErr b = 0:=by unfold rdErr;rw [hrd]
  have hv:=read_wrap ht h1 hc hb2
  rw [rdVal_good he] at hv
  have h0:b.size ≠ 0:=by
   rw [size_list hb2]
   unfold wrapL
   simp
  simp only [Value.tuple.injEq,Array.mk.injEq,List.cons.injEq,Value.agg.injEq,Value.string.injEq,Value.int.injEq] at hv
  have e1:rdTag b = t:=by have:=hv.1.1.2;omega
  have e2:rdRaw b = r:=by rw [hv.1.2.2.1,hr];exact (ext_list_t (by rw [hw])).symm
  have e3:rdContent b = c:=by rw [hv.1.2.1]
  have e4:rdRest b = ⟨(raws L).flatten.toArray⟩:=hv.2.1
  have i1:=lst_els L (fun x hx => h x (List.mem_cons_of_mem _ hx)) (rdRest b) (by rw [e4])
  rw [lst_step h0 he,i1,if_pos rfl]
  unfold rdElem
  rw [e1,e2,e3]
theorem rd_parts {b:ByteArray} (h:rdErr b = 0):OkE (rdElem b) ∧ b.data.toList = (rdRaw b).data.toList ++ (rdRest b).data.toList:=by
 have hh:=head_back h
 obtain ⟨h2,h5,hs,hx,h0⟩:=rd_ok h
 have hlen:=rd_len_le h
 have ht:=rdTag_lt b
 obtain ⟨n,hn⟩:∃ n,n = (rd b).2.2:=⟨_,rfl⟩
 obtain ⟨p,hp⟩:∃ p,p = (rd b).2.1:=⟨_,rfl⟩
 have hraw:(rdRaw b).data.toList = b.data.toList.take (p + n):=by unfold rdRaw;rw [data_extract,← hn,← hp];simp
 have hrest:(rdRest b).data.toList = b.data.toList.drop (p + n):=by
  unfold rdRest
  rw [data_extract,← hn,← hp]
  refine List.take_of_length_le ?_
  rw [List.length_drop]
  exact Nat.le_refl _
 have hcon:(rdContent b).data.toList = (b.data.toList.drop p).take n:=by unfold rdContent;rw [data_extract,← hn,← hp];congr 1;omega
 rw [← hn,← hp] at hh
 rw [← hn] at hlen
 rw [← hn,← hp] at hs
 obtain ⟨D,hD⟩:∃ D,D = b.data.toList.drop p:=⟨_,rfl⟩
 have hDl:D.length = b.size - p:=by rw [hD,List.length_drop];rfl
 rw [← hD] at hh hcon
 have hl:=congrArg List.length hh
 have hlb:b.data.toList.length = b.size:=rfl
 rw [hlb,List.length_cons,List.length_append,hDl] at hl
 have hc:(rdContent b).size = n:=by
  have:(rdContent b).data.toList.length = (rdContent b).size:=rfl
  rw [← this,hcon,List.length_take,hDl]
  omega
 refine ⟨⟨ht,hx,by show (rdContent b).size ≤ _;omega,?_⟩,by rw [hraw,hrest,List.take_append_drop]⟩
 show rdRaw b = wr1 _ (rdContent b)
 apply ext_list_t
 show _ = (wr1 ((rdTag b:Nat):Int) (rdContent b)).data.toList
 rw [wr1_list ht hx (by omega),hraw,hcon]
 have hcl:(D.take n).length = n:=by rw [← hcon];exact hc
 unfold wrapL
 rw [hcl]
 conv => lhs;rw [hh]
 rw [show p + n = (lenO n).length + n + 1 by omega,List.take_succ_cons,List.take_append]
 congr 1
 rw [List.take_of_length_le (by omega),show (lenO n).length + n - (lenO n).length = n by omega]
theorem els_lst (k:Nat):∀ (b:ByteArray) (L:List El),b.size ≤ k → lst b = (L,0) → (∀ e ∈ L,OkE e) ∧ b.data.toList = (raws L).flatten:=by
 induction k with
 |zero =>
  intro b L hk h
  have h0:b.size = 0:=by omega
  rw [lst_nil h0] at h
  obtain rfl:L = []:=(Prod.mk.inj h).1.symm
  exact ⟨fun e he => (by cases he),List.length_eq_zero_iff.1 h0⟩
 |succ k ih =>
  intro b L hk h
  by_cases h0:b.size = 0
  ·rw [lst_nil h0] at h
   obtain rfl:L = []:=(Prod.mk.inj h).1.symm
   exact ⟨fun e he => (by cases he),List.length_eq_zero_iff.1 h0⟩
  ·by_cases he:rdErr b = 0
   ·obtain ⟨p1,p2⟩:=rd_parts he
    have hsz:=rdRest_size he
    rw [lst_step h0 he] at h
    by_cases hr:(lst (rdRest b)).2 = 0
    ·rw [if_pos hr] at h
     obtain rfl:L = rdElem b :: (lst (rdRest b)).1:=(Prod.mk.inj h).1.symm
     obtain ⟨M,hM⟩:∃ M,M = (lst (rdRest b)).1:=⟨_,rfl⟩
     have h3:lst (rdRest b) = (M,0):=by rw [hM,← hr]
     rw [← hM]
     obtain ⟨i1,i2⟩:=ih (rdRest b) M (by omega) h3
     refine ⟨fun e hm => ?_,?_⟩
     ·rcases List.mem_cons.1 hm with rfl | hm
      ·exact p1
      ·exact i1 e hm
     ·rw [p2,i2];rfl
    ·rw [if_neg hr] at h
     exact absurd (Prod.mk.inj h).2 hr
   ·rw [lst_bad h0 he] at h
    exact absurd (Prod.mk.inj h).2 he
/-! ### Attributes -/
def okA (a:At):Prop:=oidB a.1 = true ∧ a.2.2.size ≠ 0 ∧ validB a.2.1 a.2.2.data.toList = true ∧ a.2.2.size ≤ 64
theorem valid_kind {k:Int} {l:List UInt8} (h:validB k l = true):k = 12 ∨ k = 19 ∨ k = 22:=by
 unfold validB at h
 by_cases h1:k = 12
 ·exact .inl h1
 ·rw [if_neg h1] at h
  by_cases h2:k = 19
  ·exact .inr (.inl h2)
  ·rw [if_neg h2] at h
   by_cases h3:k = 22
   ·exact .inr (.inr h3)
   ·rw [if_neg h3] at h;cases h
/-! ### Object identifiers -/
theorem oid_there {s:ByteArray} (h:oidB s = true):oidD (oidS s) = some s:=by
 obtain ⟨a,ha⟩:=oidB_true h
 rw [oidS_yes ha,oidD_yes (a:=a) ⟨ha.1,strOf_list _⟩]
 exact congrArg some (strOf_of (oid_txt ha)).symm
theorem oid_back {c id:ByteArray} (h:oidD c = some id):oidS id = c ∧ oidB id = true:=by
 by_cases hx:∃ a,Dec c.data.toList a
 ·obtain ⟨a,ha⟩:=hx
  rw [oidD_yes ha] at h
  obtain rfl:=Option.some.inj h
  have ho:Oid (strOf (txt a)).data.toList a:=by rw [strOf_list];exact oid_of ha.1
  exact ⟨by rw [oidS_yes ho];exact (strOf_of ha.2).symm,oidB_yes ho⟩
 ·rw [oidD_no (fun a k => hx ⟨a,k⟩)] at h
  cases h
theorem size_of_list {c:ByteArray} {l:List UInt8} (h:c.data.toList = l):c.size = l.length:=by rw [← h];rfl
/-- The elements of an attribute. -/
noncomputable def elOid (a:At):El:=(6,oidS a.1,wr1 6 (oidS a.1))
def elVal (a:At):El:=(a.2.1.toNat,a.2.2,wr1 a.2.1 a.2.2)
noncomputable def inA (a:At):ByteArray:=⟨((wr1 6 (oidS a.1)).data.toList ++ (wr1 a.2.1 a.2.2).data.toList).toArray⟩
noncomputable def elA (a:At):El:=(48,inA a,encA a)
theorem okA_kind {a:At} (h:okA a):∃ k:Nat,a.2.1 = (k:Int) ∧ (k = 12 ∨ k = 19 ∨ k = 22):=by
 rcases valid_kind h.2.2.1 with e | e | e
 ·exact ⟨12,e,.inl rfl⟩
 ·exact ⟨19,e,.inr (.inl rfl)⟩
 ·exact ⟨22,e,.inr (.inr rfl)⟩
theorem elOid_ok (a:At):OkE (elOid a):=⟨by show 6 < 256;omega,by show 6 % 32 ≠ 31;omega,by show (oidS a.1).size ≤ _;have:=oidS_size a.1;omega,rfl⟩
theorem elVal_ok {a:At} (h:okA a):OkE (elVal a):=by
 obtain ⟨k,e,hk⟩:=okA_kind h
 have hs:=h.2.2.2
 have e2:a.2.1.toNat = k:=by omega
 refine ⟨by show a.2.1.toNat < 256;omega,by show a.2.1.toNat % 32 ≠ 31;omega,by show a.2.2.size ≤ _;omega,?_⟩
 show wr1 a.2.1 a.2.2 = wr1 ((a.2.1.toNat:Nat):Int) a.2.2
 rw [e2,e]
theorem inA_size {a:At} (h:okA a):(inA a).size ≤ 131:=by
 have h1:=wrapStr_le 6 (oidS a.1).data.toList
 have h2:=wrapStr_le a.2.1 a.2.2.data.toList
 have h3:=oidS_size a.1
 have h4:=h.2.2.2
 have e1:(oidS a.1).data.toList.length = (oidS a.1).size:=rfl
 have e2:a.2.2.data.toList.length = a.2.2.size:=rfl
 have e3:(wr1 6 (oidS a.1)).data.toList.length = (wr1 6 (oidS a.1)).size:=rfl
 have e4:(wr1 a.2.1 a.2.2).data.toList.length = (wr1 a.2.1 a.2.2).size:=rfl
 have e5:(inA a).size = ((wr1 6 (oidS a.1)).data.toList ++ (wr1 a.2.1 a.2.2).data.toList).length:=rfl
 rw [e5,List.length_append,e3,e4]
 unfold wr1
 omega
theorem decA_elA {a:At} (h:okA a):decA (elA a) = (0,a):=by
 have hl:lst (inA a) = ([elOid a,elVal a],0):=lst_els _ (fun e he => by
  rcases List.mem_cons.1 he with rfl | he
  ·exact elOid_ok a
  ·obtain rfl:=List.mem_singleton.1 he
   exact elVal_ok h) _ (by unfold raws elOid elVal inA;simp)
 unfold decA
 have e1:(elA a).1 = 48:=rfl
 have e2:(elA a).2.1 = inA a:=rfl
 rw [e1,e2,hl,if_neg (by omega),if_neg (by simp)]
 obtain ⟨k,e,hk⟩:=okA_kind h
 have e3:a.2.1.toNat = k:=by omega
 have hT:strTag (elVal a).1 = true:=by
  show strTag a.2.1.toNat = true
  rw [e3]
  rcases hk with rfl | rfl | rfl <;> rfl
 simp only [decL]
 have e4:(elOid a).1 = 6:=rfl
 have e5:oidD (elOid a).2.1 = some a.1:=oid_there h.1
 rw [e4,if_neg (by omega),e5,hT]
 simp only []
 rw [if_neg (by simp),if_neg (by simp)]
 have e6:(((elVal a).1:Nat):Int) = a.2.1:=by show ((a.2.1.toNat:Nat):Int) = _;omega
 rw [e6]
 rfl
/-! ### Relative names -/
noncomputable def sortR (r:List At):List At:=r.mergeSort fun x y => decide ((encA x).data.toList ≤ (encA y).data.toList)
theorem sortR_perm (r:List At):(sortR r).Perm r:=List.mergeSort_perm _ _
/-! ### Names -/
theorem one_of_lst {b:ByteArray} {e:El} (h:lst b = ([e],0)):oneErr b = 0 ∧ rdElem b = e:=by
 by_cases h0:b.size = 0
 ·rw [lst_nil h0] at h;cases (Prod.mk.inj h).1
 ·by_cases he:rdErr b = 0
  ·rw [lst_step h0 he] at h
   by_cases hr:(lst (rdRest b)).2 = 0
   ·rw [if_pos hr] at h
    obtain ⟨h1,h2⟩:=List.cons.inj (Prod.mk.inj h).1
    obtain ⟨_,h3⟩:=els_lst _ (rdRest b) [] (Nat.le_refl _) (by rw [← hr,← h2])
    have h4:(rdRest b).size = 0:=size_of_list h3
    exact ⟨by unfold oneErr;rw [if_neg (fun k => k he),if_neg (fun k => k h4)],h1⟩
   ·rw [if_neg hr] at h;exact absurd (Prod.mk.inj h).2 hr
  ·rw [lst_bad h0 he] at h;exact absurd (Prod.mk.inj h).2 he
theorem read_one {b c:ByteArray} (hc:c.size ≤ 131072) (hb:b = wr1 ((48:Nat):Int) c):oneErr b = 0 ∧ rdTag b = 48 ∧ rdContent b = c:=by
 have hok:OkE (48,c,b):=⟨by show 48 < 256;omega,by show 48 % 32 ≠ 31;omega,hc,hb⟩
 obtain ⟨h1,he⟩:=one_of_lst (lst_els [(48,c,b)] (fun e hm => by rw [List.mem_singleton.1 hm];exact hok) b (by unfold raws;simp))
 unfold rdElem at he
 obtain ⟨e1,e2⟩:=Prod.mk.inj he
 obtain ⟨e3,_⟩:=Prod.mk.inj e2
 exact ⟨h1,e1,e3⟩
theorem asc_pair {l:List El} {L:List (List UInt8)} (hL:l.map (fun e => e.2.2.data.toList) = L) (h:ascP l l.length):L.Pairwise (fun a b => ¬ b < a):=by
 have hl:L.length = l.length:=by rw [← hL,List.length_map]
 have g:∀ j (hj:j < L.length),rawAt l j = L[j]:=fun j hj => by
  unfold rawAt
  rw [List.getD_eq_getElem?_getD,List.getElem?_eq_getElem (by omega)]
  simp only [← hL,List.getElem_map,Option.getD_some]
 have hs:∀ d i,i + d < l.length → ¬ rawAt l (i + d) < rawAt l i:=by
  intro d
  induction d with
  |zero => intro i _;exact List.lt_irrefl _
  |succ d ih =>
   intro i hi
   have h1:=ih i (by omega)
   have h2:=h (i + (d + 1)) (by omega) hi
   rw [show i + (d + 1) - 1 = i + d by omega] at h2
   exact List.not_lt.2 (List.le_trans (List.not_lt.1 h1) (List.not_lt.1 h2))
 refine List.pairwise_iff_getElem.2 fun i j hi hj hij => ?_
 rw [← g i hi,← g j hj]
 have:=hs (j - i) i (by omega)
 rwa [show i + (j - i) = j by omega] at this
theorem decA_back {e:El} {a:At} (he:OkE e) (h:decA e = (0,a)):encA a = e.2.2:=by
 unfold decA at h
 by_cases h1:e.1 ≠ 48
 ·rw [if_pos h1] at h;cases (Prod.mk.inj h).1
 ·rw [if_neg h1] at h
  by_cases h2:(lst e.2.1).2 ≠ 0
  ·rw [if_pos h2] at h;exact absurd (Prod.mk.inj h).1 h2
  ·rw [if_neg h2] at h
   have h2':(lst e.2.1).2 = 0:=by omega
   obtain ⟨k1,k2⟩:=els_lst _ e.2.1 (lst e.2.1).1 (Nat.le_refl _) (by rw [← h2'])
   cases hl:(lst e.2.1).1 with
   |nil => rw [hl] at h;simp only [decL] at h;cases (Prod.mk.inj h).1
   |cons x r =>
    rw [hl] at h k1 k2
    simp only [decL] at h
    by_cases h3:x.1 ≠ 6
    ·rw [if_pos h3] at h;cases (Prod.mk.inj h).1
    ·rw [if_neg h3] at h
     cases ho:oidD x.2.1 with
     |none => rw [ho] at h;cases (Prod.mk.inj h).1
     |some id =>
      rw [ho] at h
      simp only [] at h
      cases r with
      |nil => cases (Prod.mk.inj h).1
      |cons y q =>
       simp only [] at h
       by_cases h4:strTag y.1 = false
       ·rw [if_pos h4] at h;cases (Prod.mk.inj h).1
       ·rw [if_neg h4] at h
        by_cases h5:q ≠ []
        ·rw [if_pos h5] at h;cases (Prod.mk.inj h).1
        ·rw [if_neg h5] at h
         have h5':q = []:=by simpa using h5
         subst h5'
         obtain rfl:=(Prod.mk.inj h).2
         have x1:=k1 x List.mem_cons_self
         have y1:=k1 y (List.mem_cons_of_mem _ List.mem_cons_self)
         have hx6:x.1 = 6:=by omega
         have h48:e.1 = 48:=by omega
         rw [he.2.2.2,h48]
         show wrapStr 48 _ = wrapStr 48 _
         congr 1
         rw [k2,(oid_back ho).1]
         have xr:=x1.2.2.2
         rw [hx6] at xr
         have yr:=y1.2.2.2
         show (wr1 6 x.2.1).data.toList ++ (wr1 (y.1:Int) y.2.1).data.toList = _
         unfold raws
         simp [xr,yr]
theorem decAs_back:∀ {l:List El} {r:List At},(∀ e ∈ l,OkE e) → decAs l = (0,r) → r.map encA = l.map (·.2.2)
 |[],r,_,h => by
  obtain rfl:=(Prod.mk.inj h).2.symm
  rfl
 |e :: l,r,hk,h => by
  unfold decAs at h
  by_cases h1:(decA e).1 ≠ 0
  ·rw [if_pos h1] at h;exact absurd (Prod.mk.inj h).1 h1
  ·rw [if_neg h1] at h
   by_cases h2:(decAs l).1 ≠ 0
   ·rw [if_pos h2] at h;exact absurd (Prod.mk.inj h).1 h2
   ·rw [if_neg h2] at h
    obtain rfl:=(Prod.mk.inj h).2.symm
    have a1:=decA_back (a:=(decA e).2) (hk e List.mem_cons_self) (by rw [← show (decA e).1 = 0 by omega])
    have a2:=decAs_back (r:=(decAs l).2) (fun x hx => hk x (List.mem_cons_of_mem _ hx)) (by rw [← show (decAs l).1 = 0 by omega])
    rw [List.map_cons,List.map_cons,a1,a2]
theorem decR_back {e:El} {r:List At} (he:OkE e) (h:decR e = (0,r)):encR r = e.2.2:=by
 unfold decR at h
 by_cases h1:e.1 ≠ 49
 ·rw [if_pos h1] at h;cases (Prod.mk.inj h).1
 ·rw [if_neg h1] at h
  by_cases h2:(lst e.2.1).2 ≠ 0
  ·rw [if_pos h2] at h;exact absurd (Prod.mk.inj h).1 h2
  ·rw [if_neg h2] at h
   have h2':(lst e.2.1).2 = 0:=by omega
   obtain ⟨k1,k2⟩:=els_lst _ e.2.1 (lst e.2.1).1 (Nat.le_refl _) (by rw [← h2'])
   by_cases h3:ascB (lst e.2.1).1 = false
   ·rw [if_pos h3] at h;cases (Prod.mk.inj h).1
   ·rw [if_neg h3] at h
    have ha:ascP (lst e.2.1).1 (lst e.2.1).1.length:=by
     have:ascB (lst e.2.1).1 = true:=by simpa using h3
     unfold ascB at this
     exact @of_decide_eq_true _ (Classical.propDecidable _) this
    have hm:=decAs_back k1 h
    have hL:lists (r.map encA) = raws (lst e.2.1).1:=by unfold lists raws;rw [hm,List.map_map];rfl
    have hs:lists (r.map encA) = ordL (lists (r.map encA)):=sorted_one (by rw [hL];exact asc_pair rfl ha) (List.Perm.refl _)
    have h49:e.1 = 49:=by omega
    rw [he.2.2.2,h49]
    show wrapStr 49 _ = wrapStr 49 _
    congr 1
    rw [k2,← hL]
    show (ordL (lists (r.map encA))).flatten = _
    rw [← hs]
theorem decRs_back:∀ {l:List El} {n:Nm},(∀ e ∈ l,OkE e) → decRs l = (0,n) → n.map encR = l.map (·.2.2)
 |[],r,_,h => by
  obtain rfl:=(Prod.mk.inj h).2.symm
  rfl
 |e :: l,r,hk,h => by
  unfold decRs at h
  by_cases h1:(decR e).1 ≠ 0
  ·rw [if_pos h1] at h;exact absurd (Prod.mk.inj h).1 h1
  ·rw [if_neg h1] at h
   by_cases h2:(decRs l).1 ≠ 0
   ·rw [if_pos h2] at h;exact absurd (Prod.mk.inj h).1 h2
   ·rw [if_neg h2] at h
    obtain rfl:=(Prod.mk.inj h).2.symm
    have a1:=decR_back (r:=(decR e).2) (hk e List.mem_cons_self) (by rw [← show (decR e).1 = 0 by omega])
    have a2:=decRs_back (n:=(decRs l).2) (fun x hx => hk x (List.mem_cons_of_mem _ hx)) (by rw [← show (decRs l).1 = 0 by omega])
    rw [List.map_cons,List.map_cons,a1,a2]
/-- What is decoded is encoded as it was. -/
theorem enc_dec {b:ByteArray} {n:Nm} (h:decN b = (0,n)):chkN n = 0 ∧ encN n = b:=by
 unfold decN at h
 by_cases h1:(decN0 b).1 ≠ 0
 ·rw [if_pos h1] at h;exact absurd (Prod.mk.inj h).1 h1
 ·rw [if_neg h1] at h
  by_cases h2:chkN (decN0 b).2 ≠ 0
  ·rw [if_pos h2] at h;exact absurd (Prod.mk.inj h).1 h2
  ·rw [if_neg h2] at h
   obtain rfl:=(Prod.mk.inj h).2.symm
   refine ⟨by omega,?_⟩
   clear h h2
   have h1':(decN0 b).1 = 0:=by omega
   obtain ⟨n,hn⟩:∃ n,n = (decN0 b).2:=⟨_,rfl⟩
   have h:decN0 b = (0,n):=by rw [← h1',hn]
   rw [← hn]
   clear hn h1 h1'
   unfold decN0 at h
   by_cases h1:oneErr b ≠ 0
   ·rw [if_pos h1] at h;exact absurd (Prod.mk.inj h).1 h1
   ·rw [if_neg h1] at h
    by_cases h2:rdTag b ≠ 48
    ·rw [if_pos h2] at h;cases (Prod.mk.inj h).1
    ·rw [if_neg h2] at h
     by_cases h3:(lst (rdContent b)).2 ≠ 0
     ·rw [if_pos h3] at h;exact absurd (Prod.mk.inj h).1 h3
     ·rw [if_neg h3] at h
      obtain ⟨k1,k2⟩:=els_lst _ (rdContent b) (lst (rdContent b)).1 (Nat.le_refl _) (by rw [← show (lst (rdContent b)).2 = 0 by omega])
      have hm:=decRs_back k1 h
      obtain ⟨w1,w2⟩:=wrap_one (b:=b) (by omega)
      have he:=oneErr_rd (show oneErr b = 0 by omega)
      obtain ⟨p1,_⟩:=rd_parts he
      have h48:rdTag b = 48:=by omega
      have p2:=p1.2.2.2
      have p3:rdRaw b = wr1 ((rdTag b:Nat):Int) (rdContent b):=p2
      rw [w2,h48] at p3
      rw [p3]
      show wrapStr 48 _ = wrapStr 48 _
      congr 1
      rw [k2,← flat_cat]
      congr 1
      unfold lists raws
      rw [hm,List.map_map]
      rfl
noncomputable def decG (con:Bool) (tag:Int) (ct:ByteArray):Nat × Gn :=
 if tag = 129 ∨ tag = 130 ∨ tag = 135 then (if chkG con (tag - 128) ct.data.toList [] = 0 then (0,(tag - 128,ct.data.toList,[])) else (chkG con (tag - 128) ct.data.toList [],noG))
 else if tag = 164 then (if (decN ct).1 = 0 then (0,(4,[],(decN ct).2)) else ((decN ct).1,noG)) else (5,noG)
theorem gnRes2 {fn:Func} {p u:Tmp} (h:fn.results = #[.cell p 29,.tmp u]) (tmps:Array Value) (w:World) (g:Nat) (x y z:Value)
  (hp:tmps.getD p undef = .pointer (some ⟨g,0,none⟩)) (hg:w.heap[g]? = some (.cells #[x,y,z] 29 (0,0))) :
  (results fn tmps).run Tryz.prog w = .ok (.tuple #[.agg #[x,y,z],tmps.getD u undef]) w :=
 results_cell_row2 h tmps w g 29 #[x,y,z] (0,0) _ hp hg Tryz.underlying29 rfl gnSize
theorem own_lies4 {w:World} {B c:Nat} {a:Option Addr} {n:Nm} (h:OwnN w B (.slice a n.length c) n):RLies w a n:=by
 obtain ⟨a',c',e,_,hr⟩:=h.lies
 obtain ⟨rfl,rfl⟩:a = a' ∧ c = c':=by simpa using e
 exact hr
theorem tag_or (T:Int):T = 129 ∨ T = 130 ∨ T = 135 ∨ T = 164 ∨ (T ≠ 129 ∧ T ≠ 130 ∧ T ≠ 135 ∧ T ≠ 164):=by omega
set_option maxRecDepth 100000 in
set_option maxHeartbeats 8000000 in
theorem rdecG_core (T:Int) (ct raw:ByteArray) (con:Bool) (w:World) (hc:ct.size ≤ 150000) :
  Calls Tryz.prog 68 #[.agg #[.int .i64 T,.string ct,.string raw],.bool con] w fun e w' => ∃ s,e = .returned (.tuple #[.agg #[.int .i64 (decG con T ct).2.1,.string (strOf (decG con T ct).2.2.1),s],.int .i64 (((decG con T ct).1:Nat):Int)]) ∧ OwnN w' w.heap.size s (decG con T ct).2.2.2 ∧ Below w.heap.size w w':=by
 obtain ⟨W0,hW0⟩:∃ W0,W0 = ((w.alloc (.cells #[.int .i64 T,.string ct,.string raw] 67)).alloc (.cells #[.int .i64 0,.string ⟨#[]⟩,.slice none 0 0] 29)).alloc (.cells #[.int .i64 0,.string ⟨#[]⟩,.slice none 0 0] 29):=⟨_,rfl⟩
 have hb0:Below w.heap.size w W0:=by rw [hW0];exact below_next (belowTwo w _ _) (belowNew _ _)
 have hqe:W0.heap[w.heap.size]? = some (.cells #[.int .i64 T,.string ct,.string raw] 67 (0,0)):=by
  rw [hW0];exact ((belowTwo _ _ _).block _ (by simp)).trans (heap_alloc_new w _)
 obtain ⟨r,hr⟩:∃ r,r = w.heap.size + 1:=⟨_,rfl⟩
 have hqr:W0.heap[r]? = some (.cells #[.int .i64 0,.string ⟨#[]⟩,.slice none 0 0] 29 (0,0)):=by
  have h1:=heap_alloc_new (w.alloc (.cells #[.int .i64 T,.string ct,.string raw] 67)) (.cells #[.int .i64 0,.string ⟨#[]⟩,.slice none 0 0] 29)
  rw [show (w.alloc (.cells #[.int .i64 T,.string ct,.string raw] 67)).heap.size = r by rw [hr];simp] at h1
  rw [hW0];exact ((belowNew _ _).block r (by rw [hr];simp)).trans h1
 have hqg:W0.heap[r + 1]? = some (.cells #[.int .i64 0,.string ⟨#[]⟩,.slice none 0 0] 29 (0,0)):=by
  have h1:=heap_alloc_new ((w.alloc (.cells #[.int .i64 T,.string ct,.string raw] 67)).alloc (.cells #[.int .i64 0,.string ⟨#[]⟩,.slice none 0 0] 29)) (.cells #[.int .i64 0,.string ⟨#[]⟩,.slice none 0 0] 29)
  rw [show ((w.alloc (.cells #[.int .i64 T,.string ct,.string raw] 67)).alloc (.cells #[.int .i64 0,.string ⟨#[]⟩,.slice none 0 0] 29)).heap.size = r + 1 by rw [hr];simp] at h1
  rw [hW0];exact h1
 obtain ⟨c0,c1,c2,l0⟩:=three_facts hqe
 obtain ⟨r0,r1,r2,s0,s1,s2,lr⟩:=at_facts hqr
 obtain ⟨g0,g1,g2,t0,t1,t2,lg⟩:=at_facts hqg
 have HWR:=Lib.hid hW0.symm
 have HB0:=Lib.hid hb0
 have HQR:=Lib.hid hqr
 have HQG:=Lib.hid hqg
 have HC:=Lib.hid hc
 have hrr:w.heap.size < r:=by omega
 have HRE:=Lib.hid hr
 obtain ⟨t,rfl⟩:∃ t,ct = strOf t:=⟨_,strOf_of rfl⟩
 obtain ⟨R,hR⟩:∃ R,R = decG con T (strOf t):=⟨_,rfl⟩
 rw [← hR]
 have HR:=Lib.hid hR
 have HTL:=Lib.hid (show t.length ≤ 150000 by have:=hc;rw [strOf_size] at this;exact this)
 clear hW0 hb0 hqe hqr hqg hc hr hR
 have fin:∀ (w9:World) (k:Int) (u:List UInt8) (aq:Option Addr) (cq:Nat) (n:Nm) (E:Nat),w9.heap[r]? = some (.cells #[.int .i64 0,.string ⟨#[]⟩,.slice none 0 0] 29 (0,0)) → OwnN w9 w.heap.size (.slice aq n.length cq) n → Below w.heap.size w w9 → R = (E,(k,u,n)) →
   (((w9.setCell ⟨r,0,none⟩ (.int .i64 k)).setCell ⟨r,1,none⟩ (.string (strOf u))).setCell ⟨r,2,none⟩ (.slice aq n.length cq)).heap[r]? = some (.cells #[.int .i64 k,.string (strOf u),.slice aq n.length cq] 29 (0,0)) ∧
   ∃ s,Ending.returned (.tuple #[.agg #[.int .i64 k,.string (strOf u),.slice aq n.length cq],.int .i64 (E:Int)]) = .returned (.tuple #[.agg #[.int .i64 R.2.1,.string (strOf R.2.2.1),s],.int .i64 ((R.1:Nat):Int)]) ∧ OwnN (((w9.setCell ⟨r,0,none⟩ (.int .i64 k)).setCell ⟨r,1,none⟩ (.string (strOf u))).setCell ⟨r,2,none⟩ (.slice aq n.length cq)) w.heap.size s R.2.2.2 ∧ Below w.heap.size w (((w9.setCell ⟨r,0,none⟩ (.int .i64 k)).setCell ⟨r,1,none⟩ (.string (strOf u))).setCell ⟨r,2,none⟩ (.slice aq n.length cq)):=by
  intro w9 k u aq cq n E h1 h2 h3 h4
  have hs:=((But.set r 0 w9 (.int .i64 k)).next (But.set r 1 _ (.string (strOf u)))).next (But.set r 2 _ (.slice aq n.length cq))
  subst h4
  exact ⟨at_set h1,_,rfl,h2.apart h1 (by decide) (by decide) hs,h3.trans ((hs.below (Nat.le_of_lt (Array.getElem?_eq_some_iff.1 h1).1)).mono (Nat.le_of_lt hrr))⟩
 have HF:=Lib.hid fin
 clear fin
 rcases tag_or T with rfl | rfl | rfl | rfl | hT
 ·obtain ⟨W1,hW1⟩:∃ W1,W1 = ((W0.setCell ⟨r + 1,0,none⟩ (.int .i64 1)).setCell ⟨r + 1,1,none⟩ (.string (strOf t))).setCell ⟨r + 1,2,none⟩ (.slice none 0 0):=⟨_,rfl⟩
  have hs:=((But.set (r + 1) 0 W0 (.int .i64 1)).next (But.set (r + 1) 1 _ (.string (strOf t)))).next (But.set (r + 1) 2 _ (.slice none 0 0))
  rw [← hW1] at hs
  have hg1:=at_set (a:=.int .i64 1) (b:=.string (strOf t)) (c:=.slice none 0 0) HQG.out
  rw [← hW1] at hg1
  have hr1:=(hs.block r lr (by simp)).trans HQR.out
  have HB1:=Lib.hid (show Below w.heap.size w W1 from HB0.out.trans ((hs.below (Nat.le_of_lt lg)).mono (by omega)))
  have HK:=Lib.hid (rchkG_core none 0 0 1 t [] con W1 (RLies.nil _ _) rfl HTL.out ⟨by decide,fun i hi => absurd hi (Nat.not_lt_zero _)⟩)
  have HV:=Lib.hid (show R = if chkG con 1 t [] = 0 then (0,(1,t,[])) else (chkG con 1 t [],noG) by rw [HR.out];unfold decG;rw [if_pos (by decide),strOf_list];rfl)
  have HG1:=Lib.hid hg1
  have HR1:=Lib.hid hr1
  obtain ⟨x0,x1,x2,_,_,_,lx⟩:=at_facts hg1
  obtain ⟨y0,y1,y2,z0,z1,z2,ly⟩:=at_facts hr1
  have HWE:=hW1.symm
  generalize chkG con 1 t [] = E at HK HV
  clear hs hg1 hr1 hW1
  by_cases hz:E = 0
  ·subst hz
   have HV2:=Lib.hid (show R = (0,(1,t,[])) from HV.out.trans (if_pos rfl))
   go_enter Tryz.func68,Tryz.ntmps68
   go_upto_region 2 with fail
   rw [HWR.out,← HRE.out]
   go_upto_region 13 with fail
   try rw [HWE]
   clear c0 c1 c2 g0 g1 g2 t0 t1 t2 r0 r1 r2 s0 s1 s2 HWE
   go_wp2_with (go_at_call 33;(with_reducible refine HK.out.mono ?_);rintro e w2 ⟨rfl,hb2⟩;have HB2:=Lib.hid (below_next HB1.out hb2);have HG2:=Lib.hid ((hb2.block _ lx).trans HG1.out);have HR2:=Lib.hid ((hb2.block _ ly).trans HR1.out);obtain ⟨u0,u1,u2,_,_,_,lu⟩:=at_facts HG2.out;obtain ⟨v0,v1,v2,i0,i1,i2,lv⟩:=at_facts HR2.out;clear hb2)
   obtain ⟨q1,q2⟩:=HF.out w2 1 t none 0 [] 0 HR2.out (OwnN.nil _ _) HB2.out HV2.out
   obtain ⟨s9,e9,h9,b9⟩:=q2
   exact bodyPost_ret (gnRes2 rfl _ _ r _ _ _ rfl q1) rfl ⟨s9,by rw [← e9];rfl,h9,b9⟩
  ·have hz1:=errno_ne hz
   have HV2:=Lib.hid (show R = (E,noG) from HV.out.trans (if_neg hz))
   go_enter Tryz.func68,Tryz.ntmps68
   go_upto_region 2 with fail
   rw [HWR.out,← HRE.out]
   go_upto_region 13 with fail
   try rw [HWE]
   clear c0 c1 c2 g0 g1 g2 t0 t1 t2 r0 r1 r2 s0 s1 s2 HWE
   go_wp2_with (go_at_call 33;(with_reducible refine HK.out.mono ?_);rintro e w2 ⟨rfl,hb2⟩;have HB2:=Lib.hid (below_next HB1.out hb2);have HR2:=Lib.hid ((hb2.block _ ly).trans HR1.out);obtain ⟨v0,v1,v2,i0,i1,i2,lv⟩:=at_facts HR2.out;clear hb2)
   obtain ⟨q1,q2⟩:=HF.out w2 0 [] none 0 [] E HR2.out (OwnN.nil _ _) HB2.out HV2.out
   obtain ⟨s9,e9,h9,b9⟩:=q2
   exact bodyPost_ret (gnRes2 rfl _ _ r _ _ _ rfl q1) rfl ⟨s9,by rw [← e9];rfl,h9,b9⟩
 ·obtain ⟨W1,hW1⟩:∃ W1,W1 = ((W0.setCell ⟨r + 1,0,none⟩ (.int .i64 2)).setCell ⟨r + 1,1,none⟩ (.string (strOf t))).setCell ⟨r + 1,2,none⟩ (.slice none 0 0):=⟨_,rfl⟩
  have hs:=((But.set (r + 1) 0 W0 (.int .i64 2)).next (But.set (r + 1) 1 _ (.string (strOf t)))).next (But.set (r + 1) 2 _ (.slice none 0 0))
  rw [← hW1] at hs
  have hg1:=at_set (a:=.int .i64 2) (b:=.string (strOf t)) (c:=.slice none 0 0) HQG.out
  rw [← hW1] at hg1
  have hr1:=(hs.block r lr (by simp)).trans HQR.out
  have HB1:=Lib.hid (show Below w.heap.size w W1 from HB0.out.trans ((hs.below (Nat.le_of_lt lg)).mono (by omega)))
  have HK:=Lib.hid (rchkG_core none 0 0 2 t [] con W1 (RLies.nil _ _) rfl HTL.out ⟨by decide,fun i hi => absurd hi (Nat.not_lt_zero _)⟩)
  have HV:=Lib.hid (show R = if chkG con 2 t [] = 0 then (0,(2,t,[])) else (chkG con 2 t [],noG) by rw [HR.out];unfold decG;rw [if_pos (by decide),strOf_list];rfl)
  have HG1:=Lib.hid hg1
  have HR1:=Lib.hid hr1
  obtain ⟨x0,x1,x2,_,_,_,lx⟩:=at_facts hg1
  obtain ⟨y0,y1,y2,z0,z1,z2,ly⟩:=at_facts hr1
  have HWE:=hW1.symm
  generalize chkG con 2 t [] = E at HK HV
  clear hs hg1 hr1 hW1
  by_cases hz:E = 0
  ·subst hz
   have HV2:=Lib.hid (show R = (0,(2,t,[])) from HV.out.trans (if_pos rfl))
   go_enter Tryz.func68,Tryz.ntmps68
   go_upto_region 2 with fail
   rw [HWR.out,← HRE.out]
   go_upto_region 13 with fail
   try rw [HWE]
   clear c0 c1 c2 g0 g1 g2 t0 t1 t2 r0 r1 r2 s0 s1 s2 HWE
   go_wp2_with (go_at_call 33;(with_reducible refine HK.out.mono ?_);rintro e w2 ⟨rfl,hb2⟩;have HB2:=Lib.hid (below_next HB1.out hb2);have HG2:=Lib.hid ((hb2.block _ lx).trans HG1.out);have HR2:=Lib.hid ((hb2.block _ ly).trans HR1.out);obtain ⟨u0,u1,u2,_,_,_,lu⟩:=at_facts HG2.out;obtain ⟨v0,v1,v2,i0,i1,i2,lv⟩:=at_facts HR2.out;clear hb2)
   obtain ⟨q1,q2⟩:=HF.out w2 2 t none 0 [] 0 HR2.out (OwnN.nil _ _) HB2.out HV2.out
   obtain ⟨s9,e9,h9,b9⟩:=q2
   exact bodyPost_ret (gnRes2 rfl _ _ r _ _ _ rfl q1) rfl ⟨s9,by rw [← e9];rfl,h9,b9⟩
  ·have hz1:=errno_ne hz
   have HV2:=Lib.hid (show R = (E,noG) from HV.out.trans (if_neg hz))
   go_enter Tryz.func68,Tryz.ntmps68
   go_upto_region 2 with fail
   rw [HWR.out,← HRE.out]
   go_upto_region 13 with fail
   try rw [HWE]
   clear c0 c1 c2 g0 g1 g2 t0 t1 t2 r0 r1 r2 s0 s1 s2 HWE
   go_wp2_with (go_at_call 33;(with_reducible refine HK.out.mono ?_);rintro e w2 ⟨rfl,hb2⟩;have HB2:=Lib.hid (below_next HB1.out hb2);have HR2:=Lib.hid ((hb2.block _ ly).trans HR1.out);obtain ⟨v0,v1,v2,i0,i1,i2,lv⟩:=at_facts HR2.out;clear hb2)
   obtain ⟨q1,q2⟩:=HF.out w2 0 [] none 0 [] E HR2.out (OwnN.nil _ _) HB2.out HV2.out
   obtain ⟨s9,e9,h9,b9⟩:=q2
   exact bodyPost_ret (gnRes2 rfl _ _ r _ _ _ rfl q1) rfl ⟨s9,by rw [← e9];rfl,h9,b9⟩
 ·obtain ⟨W1,hW1⟩:∃ W1,W1 = ((W0.setCell ⟨r + 1,0,none⟩ (.int .i64 7)).setCell ⟨r + 1,1,none⟩ (.string (strOf t))).setCell ⟨r + 1,2,none⟩ (.slice none 0 0):=⟨_,rfl⟩
  have hs:=((But.set (r + 1) 0 W0 (.int .i64 7)).next (But.set (r + 1) 1 _ (.string (strOf t)))).next (But.set (r + 1) 2 _ (.slice none 0 0))
  rw [← hW1] at hs
  have hg1:=at_set (a:=.int .i64 7) (b:=.string (strOf t)) (c:=.slice none 0 0) HQG.out
  rw [← hW1] at hg1
  have hr1:=(hs.block r lr (by simp)).trans HQR.out
  have HB1:=Lib.hid (show Below w.heap.size w W1 from HB0.out.trans ((hs.below (Nat.le_of_lt lg)).mono (by omega)))
  have HK:=Lib.hid (rchkG_core none 0 0 7 t [] con W1 (RLies.nil _ _) rfl HTL.out ⟨by decide,fun i hi => absurd hi (Nat.not_lt_zero _)⟩)
  have HV:=Lib.hid (show R = if chkG con 7 t [] = 0 then (0,(7,t,[])) else (chkG con 7 t [],noG) by rw [HR.out];unfold decG;rw [if_pos (by decide),strOf_list];rfl)
  have HG1:=Lib.hid hg1
  have HR1:=Lib.hid hr1
  obtain ⟨x0,x1,x2,_,_,_,lx⟩:=at_facts hg1
  obtain ⟨y0,y1,y2,z0,z1,z2,ly⟩:=at_facts hr1
  have HWE:=hW1.symm
  generalize chkG con 7 t [] = E at HK HV
  clear hs hg1 hr1 hW1
  by_cases hz:E = 0
  ·subst hz
   have HV2:=Lib.hid (show R = (0,(7,t,[])) from HV.out.trans (if_pos rfl))
   go_enter Tryz.func68,Tryz.ntmps68
   go_upto_region 2 with fail
   rw [HWR.out,← HRE.out]
   go_upto_region 13 with fail
   try rw [HWE]
   clear c0 c1 c2 g0 g1 g2 t0 t1 t2 r0 r1 r2 s0 s1 s2 HWE
   go_wp2_with (go_at_call 33;(with_reducible refine HK.out.mono ?_);rintro e w2 ⟨rfl,hb2⟩;have HB2:=Lib.hid (below_next HB1.out hb2);have HG2:=Lib.hid ((hb2.block _ lx).trans HG1.out);have HR2:=Lib.hid ((hb2.block _ ly).trans HR1.out);obtain ⟨u0,u1,u2,_,_,_,lu⟩:=at_facts HG2.out;obtain ⟨v0,v1,v2,i0,i1,i2,lv⟩:=at_facts HR2.out;clear hb2)
   obtain ⟨q1,q2⟩:=HF.out w2 7 t none 0 [] 0 HR2.out (OwnN.nil _ _) HB2.out HV2.out
   obtain ⟨s9,e9,h9,b9⟩:=q2
   exact bodyPost_ret (gnRes2 rfl _ _ r _ _ _ rfl q1) rfl ⟨s9,by rw [← e9];rfl,h9,b9⟩
  ·have hz1:=errno_ne hz
   have HV2:=Lib.hid (show R = (E,noG) from HV.out.trans (if_neg hz))
   go_enter Tryz.func68,Tryz.ntmps68
   go_upto_region 2 with fail
   rw [HWR.out,← HRE.out]
   go_upto_region 13 with fail
   try rw [HWE]
   clear c0 c1 c2 g0 g1 g2 t0 t1 t2 r0 r1 r2 s0 s1 s2 HWE
   go_wp2_with (go_at_call 33;(with_reducible refine HK.out.mono ?_);rintro e w2 ⟨rfl,hb2⟩;have HB2:=Lib.hid (below_next HB1.out hb2);have HR2:=Lib.hid ((hb2.block _ ly).trans HR1.out);obtain ⟨v0,v1,v2,i0,i1,i2,lv⟩:=at_facts HR2.out;clear hb2)
   obtain ⟨q1,q2⟩:=HF.out w2 0 [] none 0 [] E HR2.out (OwnN.nil _ _) HB2.out HV2.out
   obtain ⟨s9,e9,h9,b9⟩:=q2
   exact bodyPost_ret (gnRes2 rfl _ _ r _ _ _ rfl q1) rfl ⟨s9,by rw [← e9];rfl,h9,b9⟩
 ·have HD:=Lib.hid (rdecode_nm (strOf t) W0 (by rw [strOf_size];have:=HTL.out;omega))
  have HSM:=Lib.hid (decN_small (b:=strOf t) (by rw [strOf_size];have:=HTL.out;omega))
  have HV:=Lib.hid (show R = if (decN (strOf t)).1 = 0 then (0,(4,[],(decN (strOf t)).2)) else ((decN (strOf t)).1,noG) by rw [HR.out];unfold decG;rw [if_neg (by decide),if_pos rfl])
  have HED:=Lib.hid (fun n (h:decN (strOf t) = (0,n)) => (enc_dec h).1)
  obtain ⟨D,hD⟩:∃ D,D = decN (strOf t):=⟨_,rfl⟩
  rw [← hD] at HD HSM HV HED
  clear hD
  obtain ⟨E,n⟩:=D
  by_cases hz:E = 0
  ·subst hz
   have HV2:=Lib.hid (show R = (0,(4,[],n)) from HV.out.trans (if_pos rfl))
   have hz0:=HED.out n rfl
   go_enter Tryz.func68,Tryz.ntmps68
   go_upto_region 2 with fail
   rw [HWR.out,← HRE.out]
   go_upto_region 12 with (go_at_call 94;(with_reducible refine HD.out.mono ?_);rintro e w2 ⟨v,rfl,⟨s,rfl,hso⟩,hb2⟩;obtain ⟨aq,cq,rfl,hcs,hrl⟩:=hso.lies;have HB2:=Lib.hid (below_next HB0.out hb2);have HG2:=Lib.hid ((hb2.block _ lg).trans HQG.out);have HR2:=Lib.hid ((hb2.block _ lr).trans HQR.out);have HO2:=Lib.hid hso;have HL2:=Lib.hid hrl;clear hcs hrl hso hb2)
   obtain ⟨W3,hW3⟩:∃ W3,W3 = w2.alloc (.cells #[.slice aq n.length cq] 27):=⟨_,rfl⟩
   have hb3:Below w2.heap.size w2 W3:=by rw [hW3];exact belowNew w2 _
   have hq3:W3.heap[w2.heap.size]? = some (.cells #[.slice aq n.length cq] 27 (0,0)):=by rw [hW3];exact heap_alloc_new w2 _
   rw [← hW3]
   have hgx:=(hb3.block _ (Array.getElem?_eq_some_iff.1 HG2.out).1).trans HG2.out
   have hrx:=(hb3.block _ (Array.getElem?_eq_some_iff.1 HR2.out).1).trans HR2.out
   have hs:=((But.set (r + 1) 0 W3 (.int .i64 4)).next (But.set (r + 1) 1 _ (.string ⟨#[]⟩))).next (But.set (r + 1) 2 _ (.slice aq n.length cq))
   obtain ⟨W4,hW4⟩:∃ W4,W4 = ((W3.setCell ⟨r + 1,0,none⟩ (.int .i64 4)).setCell ⟨r + 1,1,none⟩ (.string ⟨#[]⟩)).setCell ⟨r + 1,2,none⟩ (.slice aq n.length cq):=⟨_,rfl⟩
   have hg4:=at_set (a:=.int .i64 4) (b:=.string ⟨#[]⟩) (c:=.slice aq n.length cq) hgx
   have hr4:=(hs.block r (Array.getElem?_eq_some_iff.1 hrx).1 (by simp)).trans hrx
   have ho3:=(HO2.out.base (Nat.le_of_lt (Nat.lt_of_lt_of_le l0 (Nat.le_refl _)))).below hb3
   have ho4:=ho3.apart hgx (by decide) (by decide) hs
   rw [← hW4] at hs hg4 hr4 ho4
   have HB4:=Lib.hid (show Below w.heap.size w W4 from (below_next HB2.out hb3).trans ((hs.below (Nat.le_of_lt (Array.getElem?_eq_some_iff.1 hgx).1)).mono (by omega)))
   have HK:=Lib.hid (rchkG_core aq cq n.length 4 [] n con W4 (own_lies4 ho4) rfl (by decide) HSM.out)
   rw [show chkG con 4 [] n = 0 by rw [chkG_dir,if_pos rfl];exact hz0,show strOf [] = ⟨#[]⟩ from rfl] at HK
   have HG4:=Lib.hid hg4
   have HR4:=Lib.hid hr4
   have HO4:=Lib.hid ho4
   have HW4:=Lib.hid hW4.symm
   obtain ⟨n0,_,_⟩:=one_facts hq3
   clear c0 c1 c2 g0 g1 g2 t0 t1 t2 r0 r1 r2 s0 s1 s2
   obtain ⟨g0,g1,g2,t0,t1,t2,_⟩:=at_facts hgx
   clear hb3 hq3 hW3 hrx hgx hs hg4 hr4 ho3 ho4 hW4 hz0
   go_upto_region 13 with fail
   rw [HW4.out]
   clear g0 g1 g2 t0 t1 t2 n0
   obtain ⟨x0,x1,x2,_,_,_,lx⟩:=at_facts HG4.out
   go_wp2_with (go_at_call 33;(with_reducible refine HK.out.mono ?_);rintro e w5 ⟨rfl,hb5⟩;have HB5:=Lib.hid (below_next HB4.out hb5);have HO5:=Lib.hid (HO4.out.below hb5);have HG5:=Lib.hid ((hb5.block _ lx).trans HG4.out);have HR5:=Lib.hid ((hb5.block _ (Array.getElem?_eq_some_iff.1 HR4.out).1).trans HR4.out);obtain ⟨u0,u1,u2,_,_,_,lu⟩:=at_facts HG5.out;obtain ⟨v0,v1,v2,i0,i1,i2,lv⟩:=at_facts HR5.out;clear hb5)
   obtain ⟨q1,q2⟩:=HF.out w5 4 [] aq cq n 0 HR5.out HO5.out HB5.out HV2.out
   obtain ⟨s9,e9,h9,b9⟩:=q2
   exact bodyPost_ret (gnRes2 rfl _ _ r _ _ _ rfl q1) rfl ⟨s9,by rw [← e9];rfl,h9,b9⟩
  ·have hz1:=errno_ne hz
   have HV2:=Lib.hid (show R = (E,noG) from HV.out.trans (if_neg hz))
   go_enter Tryz.func68,Tryz.ntmps68
   go_upto_region 2 with fail
   rw [HWR.out,← HRE.out]
   go_wp2_with (go_at_call 94;(with_reducible refine HD.out.mono ?_);rintro e w2 ⟨v,rfl,⟨s,rfl,hso⟩,hb2⟩;obtain ⟨aq,cq,rfl,hcs,hrl⟩:=hso.lies;have HB2:=Lib.hid (below_next HB0.out hb2);have HR2:=Lib.hid ((hb2.block _ lr).trans HQR.out);obtain ⟨v0,v1,v2,i0,i1,i2,lv⟩:=at_facts HR2.out;clear hcs hrl hso hb2)
   obtain ⟨q1,s9,e9,h9,b9⟩:=HF.out w2 0 [] none 0 [] E HR2.out (OwnN.nil _ _) HB2.out HV2.out
   exact bodyPost_ret (gnRes2 rfl _ _ r _ _ _ rfl (((belowNew _ _).block r (Array.getElem?_eq_some_iff.1 q1).1).trans q1)) rfl ⟨s9,by rw [← e9];rfl,h9.below (belowNew _ _),below_next b9 (belowNew _ _)⟩
 ·have HV:=Lib.hid (show R = (5,noG) by rw [HR.out];unfold decG;rw [if_neg (by omega),if_neg hT.2.2.2])
  obtain ⟨k1,k2,k4,k7⟩:=hT
  have e1:(T == 129) = false:=beq_eq_false_iff_ne.2 k1
  have e2:(T == 130) = false:=beq_eq_false_iff_ne.2 k2
  have e4:(T == 135) = false:=beq_eq_false_iff_ne.2 k4
  have e7:(T == 164) = false:=beq_eq_false_iff_ne.2 k7
  clear k1 k2 k4 k7
  go_enter Tryz.func68,Tryz.ntmps68
  go_upto_region 2 with fail
  rw [HWR.out,← HRE.out]
  go_wp2_with fail
  obtain ⟨q1,q2⟩:=HF.out W0 0 [] none 0 [] 5 HQR.out (OwnN.nil _ _) HB0.out HV.out
  obtain ⟨s9,e9,h9,b9⟩:=q2
  exact bodyPost_ret (gnRes2 rfl _ _ r _ _ _ rfl q1) rfl ⟨s9,by rw [← e9];rfl,h9,b9⟩
end Go.Proofs.YtbpdenfiifcfcaaGreatDoor
