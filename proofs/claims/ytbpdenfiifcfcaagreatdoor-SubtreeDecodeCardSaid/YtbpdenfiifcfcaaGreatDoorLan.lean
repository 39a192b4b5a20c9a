/-
  The contract of oid.appendNumber: the digits of a number in base 128 are added to the bytes that the caller has.
  The contract of oid.Encode: the contents of the object identifier that the text is, if it is one.
  The contract of oid.numbersOf: the numbers of which the contents consist, if they are those of an object identifier.
  The contract of the reference's Read, put together: the same answer as that of tlv.Read.
  The contracts of tlv.One and of the reference's One: the element that a string consists of, or the error; nothing that was there before the call has changed.
-/
import Derived.Test.YtbpdenfiifcfcaaGreatDoorLag
import Derived.Test.YtbpdenfiifcfcaaGreatDoorLaa
import Derived.Deep.LoopGhost
import Derived.Test.YtbpdenfiifcfcaaGreatDoorLam
import Derived.Lib.Builder
namespace Go.Proofs.YtbpdenfiifcfcaaGreatDoor
open Go.RowKit
def encVal (a:List Nat):Value:=.tuple #[.string (strOf (enc a)),.int .i64 0]
def noVal:Value:=.tuple #[.string ⟨#[]⟩,.int .i64 11]
theorem ILie.tail {w:World} {g:Nat} {x y:Nat} {r:List Nat} (h:ILie w g (x :: y :: r)) (k:Nat) (hk:k < r.length):w.cell? ⟨g,2 + k,none⟩ = some (.int .i64 ((r.getD k 0:Nat):Int)):=by
 have:=h.2 (2 + k) (by simp;omega)
 rw [this]
 have e:(x :: y :: r).getD (2 + k) 0 = r.getD k 0:=by
  rw [show 2 + k = (k + 1) + 1 by omega];simp
 rw [e]
theorem e128_len5 {a:List Nat} (h:∀ v ∈ a,v < 34359738368):(cat e128 a).length ≤ 5 * a.length:=by
 induction a with
 |nil => simp [cat]
 |cons v a ih =>
  have h1:=e128_len v (h v (by simp))
  have h2:=ih (fun x hx => h x (by simp [hx]))
  simp only [cat,List.length_append,List.length_cons];omega
/-- What numbersOf answers: the numbers,in a block of the call's own,or no. -/
def Numd (c:List UInt8) (B:Nat) (w':World) (e:Ending):Prop :=
 (∃ N g cap,GoodN N ∧ c = cat e128 N ∧ e = .returned (.tuple #[.slice (some ⟨g,0,none⟩) N.length cap,.bool true]) ∧ ILie w' g N ∧ B ≤ g ∧ N.length ≤ cap) ∨ ((∀ a,¬ Dec c a) ∧ ∃ v,e = .returned (.tuple #[v,.bool false]))
theorem andNot_128i:∀ x:Nat,x < 256 → bits BinOp.andNot .u8 ((x:Nat):Int) 128 = ((x % 128:Nat):Int):=by decide +kernel
theorem or_7 (x b:Nat) (hx:x < 4294967296) (hb:b < 128):bits BinOp.or .i64 ((x:Int) * 128) (b:Int) = ((128 * x + b:Nat):Int):=by
 show IntKind.i64.wrap ((BitVec.ofInt 64 ((x:Int) * 128) ||| BitVec.ofInt 64 (b:Int)).toNat:Int) = _
 rw [BitVec.toNat_or,BitVec.toNat_ofInt,BitVec.toNat_ofInt,wrap_i64]
 have e1:((x:Int) * 128 % (2 ^ 64:Nat)).toNat = 128 * x:=by
  show ((x:Int) * 128 % (18446744073709551616:Nat)).toNat = 128 * x
  omega
 have e2:((b:Int) % (2 ^ 64:Nat)).toNat = b:=by
  show ((b:Int) % (18446744073709551616:Nat)).toNat = b
  omega
 have e3:128 * x ||| b = 128 * x + b:=(Nat.two_pow_add_eq_or_of_lt (i:=7) hb x).symm
 rw [e1,e2,e3]
 show (((128 * x + b:Nat):Int) + 9223372036854775808) % 18446744073709551616 - 9223372036854775808 = _
 omega
/-! ### What is left of the contents: the first number -/
theorem next_cut {r:List UInt8} {u t:List UInt8} {M:List Nat} (h:r = cat e128 M) (hr:r = u ++ t) (hu:∀ c ∈ u,128 ≤ c.toNat) (hne:r ≠ []) :
  ∃ m M' u2,M = m :: M' ∧ e128 m = u ++ u2 ∧ t = u2 ++ cat e128 M':=by
 cases M with
 |nil => exact absurd h hne
 |cons m M' =>
  have e:u ++ t = hd7 (m / 128) ++ UInt8.ofNat (m % 128) :: cat e128 M':=by
   rw [← hr,h];simp [cat,e128]
  have key:∀ (u v t s:List UInt8) (b:UInt8),(∀ x ∈ u,128 ≤ x.toNat) → b.toNat < 128 → u ++ t = v ++ b :: s → ∃ u2,v ++ [b] = u ++ u2 ∧ t = u2 ++ s:=by
   intro u
   induction u with
   |nil => intro v t s b _ _ e;exact ⟨v ++ [b],rfl,by simpa using e⟩
   |cons x u ih =>
    intro v t s b hx hb e
    cases v with
    |nil =>
     simp at e
     have:=hx x (by simp)
     rw [e.1] at this;omega
    |cons y v =>
     simp at e
     obtain ⟨u2,h1,h2⟩:=ih v t s b (fun z hz => hx z (by simp [hz])) hb e.2
     exact ⟨u2,by rw [List.cons_append,h1,e.1];rfl,h2⟩
  obtain ⟨u2,h1,h2⟩:=key u _ t _ _ hu (by simp;omega) e
  exact ⟨m,M',u2,rfl,by rw [e128,h1],h2⟩
/-- A number that is at least as great as the digits that were read. -/
theorem next_ge {m:Nat} {u u2:List UInt8} (h:e128 m = u ++ u2):val7 u ≤ m:=by
 have:=val7_le u u2
 rw [← h,val_e128] at this
 exact this
/-- The contents end within a number. -/
theorem next_open {r:List UInt8} {M:List Nat} (h:r = cat e128 M) (hu:∀ c ∈ r,128 ≤ c.toNat) (hne:r ≠ []):False:=by
 cases M with
 |nil => exact hne h
 |cons m M' =>
  have hm:UInt8.ofNat (m % 128) ∈ r:=by rw [h];simp [cat,e128]
  have:=hu _ hm
  simp at this;omega
theorem next_head {r:List UInt8} {M:List Nat} (h:r = cat e128 M):r.head? ≠ some 128:=by
 cases M with
 |nil => rw [h];simp [cat]
 |cons m M' => rw [h,cat,head_left (e128_ne m)];exact e128_head m
theorem limit_of {A M:List Nat} {m:Nat} (h:GoodN (A ++ m :: M)):m ≤ (if A = [] then 2147483727 else 2147483647):=by
 obtain ⟨_,_,h3,h4⟩:=h
 by_cases hA:A = []
 ·subst hA;rw [if_pos rfl];simpa using h3
 ·rw [if_neg hA]
  obtain ⟨x,A',rfl⟩:∃ x A',A = x :: A':=by
   cases A with
   |nil => exact absurd rfl hA
   |cons x A' => exact ⟨x,A',rfl⟩
  exact h4 m (by simp)
theorem goodN_snoc {A:List Nat} (hA:A = [] ∨ GoodN A) (h10:A.length < 11) {m:Nat} (hm:m ≤ (if A = [] then 2147483727 else 2147483647)):GoodN (A ++ [m]):=by
 rcases hA with rfl | ⟨h1,h2,h3,h4⟩
 ·rw [if_pos rfl] at hm
  exact ⟨by simp,by simp,by simpa using hm,by simp⟩
 ·have hne:A ≠ []:=fun e => by rw [e] at h1;simp at h1
  rw [if_neg hne] at hm
  obtain ⟨x,A',rfl⟩:∃ x A',A = x :: A':=by
   cases A with
   |nil => exact absurd rfl hne
   |cons x A' => exact ⟨x,A',rfl⟩
  refine ⟨by simp,by simp at h10 ⊢;omega,by simpa using h3,?_⟩
  intro v hv
  simp at hv
  rcases hv with hv | rfl
  ·exact h4 v (by simpa using hv)
  ·exact hm
theorem next_ge2 {r u t:List UInt8} {b:UInt8} {M:List Nat} (h:r = cat e128 M) (hr:r = u ++ b :: t) (hu:∀ c ∈ u,128 ≤ c.toNat):∃ m M',M = m :: M' ∧ val7 (u ++ [b]) ≤ m:=by
 obtain ⟨m,M',u2,h1,h2,h3⟩:=next_cut h hr hu (by rw [hr];simp)
 cases u2 with
 |nil =>
  exfalso
  have hm:UInt8.ofNat (m % 128) ∈ u:=by
   have:UInt8.ofNat (m % 128) ∈ e128 m:=by simp [e128]
   rw [h2] at this;simpa using this
  have:=hu _ hm
  simp at this;omega
 |cons x u3 =>
  simp at h3
  refine ⟨m,M',h1,next_ge (u2:=u3) ?_⟩
  rw [h2,h3.1];simp
def strLen:Value → Nat
 |.string r => r.size
 |_ => 0
theorem ext_tail (r:ByteArray) (j:Nat):(r.extract j r.size).data.toList = r.data.toList.drop j:=by
 rw [ByteArray.data_extract,Array.toList_extract,List.extract_eq_take_drop]
 exact List.take_of_length_le (by rw [List.length_drop];exact Nat.le_refl _)
set_option maxRecDepth 100000 in
set_option maxHeartbeats 2000000 in
theorem nums_any (c:ByteArray) (w:World) (hs:c.size ≤ 1099511627) :
  Calls Tryz.prog 253 #[.string c] w fun e w' => Numd c.data.toList w.heap.size w' e ∧ Below w.heap.size w w':=by
 obtain ⟨i0,hi,hz0,hz1,hz2⟩:=info_parts intInfo
 have HS:=Lib.hid hs
 go_enter Tryz.func253,Tryz.ntmps253
 go_wp2_with fail
 go_step3
 go_wp2_with fail
 go_step3
 go_wp2_with fail
 go_loopg [0,4,5] (c.size + 1) (fun gh t v u wr => ∃ (r:ByteArray) (A:List Nat),gh = r.size + 1 ∧ t = .string r ∧ r.size ≤ c.size ∧ c.data.toList = cat e128 A ++ r.data.toList ∧ (A = [] ∨ GoodN A) ∧ A.length ≤ 11 ∧ u = .int .i64 (((if A = [] then 2147483727 else 2147483647:Nat)):Int) ∧ OwnI wr w.heap.size v A ∧ Below w.heap.size w wr)
 case atStart => exact ⟨c,[],rfl,rfl,Nat.le_refl _,by simp [cat],.inl rfl,by simp,rfl,World.ownsRow_nil _ _ _ _,Below.refl _ _⟩
 case round =>
  obtain ⟨r,A,hgk,rfl,hrs,hc,hA,hA11,rfl,ho,hb⟩:=hrel
  have HGK:=Lib.hid hgk
  clear hgk
  have HO:=Lib.hid ho
  have HB:=Lib.hid hb
  have HC:=Lib.hid hc
  have HA:=Lib.hid hA
  have HDN:=Lib.hid (fun a (h:Dec c.data.toList a) => dec_next hc h)
  have hrz:r.size ≤ 1099511627:=by omega
  obtain ⟨lim,hlim⟩:∃ lim:Nat,lim = (if A = [] then 2147483727 else 2147483647):=⟨_,rfl⟩
  have hlb:lim ≤ 2147483727:=by rw [hlim];split <;> omega
  have HLM:=Lib.hid hlim
  rw [← hlim]
  clear ho hb hc hA hlim
  by_cases h0:r.size = 0
  ·obtain rfl:=empty_of_size h0
   clear h0
   obtain ⟨p,cap,hp⟩:=HO.out.form
   by_cases hA0:A = []
   ·have HX:=Lib.hid (show ∀ a,¬ Dec c.data.toList a from fun a h => by
     obtain ⟨M,_,h2,h3⟩:=HDN.out a h
     cases M with
     |nil => rw [hA0] at h3;exact absurd h3.1 (by decide)
     |cons m M' => have:=h2.symm;simp [cat,e128] at this)
    subst hA0
    subst hp
    go_wp2_with fail
    go_ret2
    exact ⟨.inr ⟨HX.out,_,rfl⟩,HB.out⟩
   ·have HG:=Lib.hid (HA.out.resolve_left hA0)
    obtain ⟨g,cp,hv,hg,hl,hcp⟩:=HO.out.open hA0
    have hpos:0 < A.length:=List.length_pos_iff.2 hA0
    have d0:decide ((0:Int) < (A.length:Int)) = true:=by simp;omega
    have HCC:=Lib.hid (show c.data.toList = cat e128 A by have:=HC.out;simpa using this)
    subst hv
    clear hp hA0
    go_wp2_with fail
    go_ret2
    exact ⟨.inl ⟨A,g,cp,HG.out,HCC.out,rfl,hl,hg,hcp⟩,HB.out⟩
  ·have he:=nonempty_list h0
   have hrne:r.data.toList ≠ []:=fun e => h0 (by show r.data.toList.length = 0;rw [e];rfl)
   obtain ⟨p,cap,hp⟩:=HO.out.form
   by_cases h11:A.length = 11
   ·have d11:((A.length:Int) == 11) = true:=by rw [h11];rfl
    have HX:=Lib.hid (show ∀ a,¬ Dec c.data.toList a from fun a h => by
     obtain ⟨M,_,h2,h3⟩:=HDN.out a h
     cases M with
     |nil => exact hrne h2
     |cons m M' => have:=h3.2.1;simp at this;omega)
    subst hp
    clear h11 h0 hA11
    go_wp2_with fail
    rw [Exit.noGoto_ret]
    go_ret2
    exact ⟨.inr ⟨HX.out,_,rfl⟩,HB.out⟩
   ·have d11:((A.length:Int) == 11) = false:=beq_eq_false_iff_ne.2 (by omega)
    have hi0:=fun w => run_index_u8 (P:=Tryz.prog) Tryz.underlying9 r 0 (by omega) 0 rfl w
    obtain ⟨b0,hb0,hbn⟩:∃ b:UInt8,r.data.toList.head? = some b ∧ u8at r 0 = b.toNat:=by
     obtain ⟨b,h1,h2⟩:=u8at_list r 0 (by omega)
     exact ⟨b,by rw [List.head?_eq_getElem?];exact h1,h2⟩
    obtain ⟨n0,hn0⟩:∃ n0,n0 = u8at r 0:=⟨_,rfl⟩
    rw [← hn0] at hi0 hbn
    by_cases h128:n0 = 128
    ·have dn:((n0:Int) == 128) = true:=by rw [h128];rfl
     have HX:=Lib.hid (show ∀ a,¬ Dec c.data.toList a from fun a h => by
      obtain ⟨M,_,h2,h3⟩:=HDN.out a h
      refine next_head h2 ?_
      rw [hb0]
      congr 1
      exact UInt8.toNat_inj.1 (by rw [← hbn,h128];rfl))
     subst hp
     clear h128 hn0 hbn h11 h0 hA11
     go_wp2_with fail
     rw [Exit.noGoto_ret]
     go_ret2
     exact ⟨.inr ⟨HX.out,_,rfl⟩,HB.out⟩
    ·have dn:((n0:Int) == 128) = false:=beq_eq_false_iff_ne.2 (by omega)
     have HH:=Lib.hid (show r.data.toList.head? ≠ some 128 from fun e => h128 (by
      rw [hb0] at e
      rw [hbn,Option.some.inj e];rfl))
     have hA10:A.length < 11:=by omega
     subst hp
     clear h128 hn0 hbn h11 hA11 hb0
     go_wp2_with fail
     clear hi0 dn d11 he
     obtain ⟨wo,rfl⟩:∃ wo,wo = wr:=⟨wr,rfl⟩
     go_loopg [0,4,5,6,20] r.size (fun gh t0 t4 t5 u i wx => ∃ (j n:Nat),t0 = .string r ∧ t4 = .slice p A.length cap ∧ t5 = .int .i64 (lim:Int) ∧ j + gh = r.size ∧ i = .int .i64 (j:Int) ∧ u = .int .i64 (n:Int) ∧ n = val7 (r.data.toList.take j) ∧ n ≤ lim ∧ (∀ b ∈ r.data.toList.take j,128 ≤ b.toNat) ∧ wx = wo)
     case atStart => exact ⟨0,0,rfl,rfl,rfl,by omega,rfl,rfl,by simp [val7],by omega,by simp,rfl⟩
     case round =>
      obtain ⟨j,n,rfl,rfl,rfl,hjg,rfl,rfl,hn,hnl,hall,rfl⟩:=hrel
      have HJG:=Lib.hid hjg
      have HN:=Lib.hid hn
      have HALL:=Lib.hid hall
      have hnb:n < 2147483728:=by omega
      have hjs:j ≤ r.size:=by omega
      clear hn hall hjg
      by_cases hlt:j < r.size
      ·have dj:decide ((j:Int) < (r.size:Int)) = true:=by simp;omega
       have hij:=fun w => run_index_u8 (P:=Tryz.prog) Tryz.underlying9 r j hlt (j:Int) rfl w
       obtain ⟨b,hb,hbv⟩:=u8at_list r j hlt
       obtain ⟨x,hx⟩:∃ x,x = u8at r j:=⟨_,rfl⟩
       have hx256:x < 256:=by rw [hx];exact u8at_lt r j
       rw [← hx] at hij hbv
       have hand:=andNot_128i x hx256
       obtain ⟨x7,hx7⟩:∃ x7,x7 = x % 128:=⟨_,rfl⟩
       rw [← hx7] at hand
       have hor:=or_7 n x7 (by omega) (by omega)
       obtain ⟨n2,hn2⟩:∃ n2,n2 = 128 * n + x7:=⟨_,rfl⟩
       rw [← hn2] at hor
       have HTK:=Lib.hid (show r.data.toList.take (j + 1) = r.data.toList.take j ++ [b] from take_snoc hb)
       have HN2:=Lib.hid (show n2 = val7 (r.data.toList.take (j + 1)) by rw [HTK.out,val7_snoc,← HN.out,hn2,hx7,hbv])
       have HSP:=Lib.hid (show r.data.toList = r.data.toList.take j ++ b :: r.data.toList.drop (j + 1) from at_split _ _ _ hb)
       have hn2b:n2 < 274877920000:=by omega
       have hx7b:x7 < 128:=by omega
       clear hx hx7 hn2 hb
       by_cases hbig:lim < n2
       ·have d1:decide ((lim:Int) < (n2:Int)) = true:=by simp;omega
        have HX:=Lib.hid (show ∀ a,¬ Dec c.data.toList a from fun a h => by
         obtain ⟨M,_,h2,h3⟩:=HDN.out a h
         obtain ⟨m,M',rfl,h5⟩:=next_ge2 h2 HSP.out HALL.out
         have h6:=limit_of h3
         rw [← HLM.out] at h6
         rw [← HTK.out,← HN2.out] at h5
         omega)
        clear hbv
        go_wp2_with fail
        rw [Exit.noGoto_ret]
        go_ret2
        exact ⟨.inr ⟨HX.out,_,rfl⟩,HB.out⟩
       ·have d1:decide ((lim:Int) < (n2:Int)) = false:=by simp;omega
        by_cases hend:x < 128
        ·have d2:decide ((x:Int) < 128) = true:=by simp;omega
         have HE:=Lib.hid (show r.data.toList.take (j + 1) = e128 n2 by
          rw [HN2.out,HTK.out]
          refine e128_of _ _ HALL.out ?_ (by omega)
          rw [← HTK.out]
          intro e
          refine HH.out ?_
          rw [← e]
          have h1:=List.take_append_drop (j + 1) r.data.toList
          conv => lhs;rw [← h1]
          exact head_left (by rw [HTK.out];simp))
         have HGN:=Lib.hid (goodN_snoc HA.out hA10 (m:=n2) (by rw [← HLM.out];omega))
         have hsl:∀ w,(Instr.slice 9 (.string r) (some (.int .i64 ((j:Int) + 1))) none none).run Tryz.prog w = .ok (.string (r.extract (j + 1) r.size)) w:=fun w => by
          have:=run_slice_string_from_if (P:=Tryz.prog) w 9 r .i64 ((j:Int) + 1) Tryz.underlying9
          rw [this,if_pos ⟨by omega,by omega⟩]
          congr 3
         have HR2:=Lib.hid (show c.data.toList = cat e128 (A ++ [n2]) ++ (r.extract (j + 1) r.size).data.toList by
          rw [ext_tail,cat_append,HC.out,List.append_assoc]
          congr 1
          simp only [cat,List.append_nil]
          rw [← HE.out,List.take_append_drop])
         have HZ2:=Lib.hid (show (r.extract (j + 1) r.size).size = r.size - (j + 1) by rw [ByteArray.size_extract];omega)
         generalize r.extract (j + 1) r.size = r2 at hsl HR2 HZ2
         clear hbv
         go_wp2_with (at_builtin;(refine wpList_append_own _ rfl (.tmp 38) (.tmp 40) 30 rfl w.heap.size 3 i0 (.int .i64 0) 1 8 Tryz.underlying30 hi hz0 hz1 hz2 rfl (by decide) _ _ _ rfl (HO.out.alloc _) ⟨wr.heap.size,0,none⟩ 1 1 [icell n2] rfl rfl (news_row wr #[icell n2] 3) (icells_one [n2]) (by unfold maxLen;omega) (by omega) (by have:=HB.out.size;simp;omega) ?_);intro v' w2 hown2 hgr2 _;obtain ⟨P1,P2⟩:=own_round HO.out HB.out hown2 hgr2;have HP1:=Lib.hid P1;have HP2:=Lib.hid P2;clear hown2 hgr2 P1 P2)
         clear hx7b
         go_roundg (r2.size + 1)
         case measure => have:=HGK.out;have:=HZ2.out;omega
         case rel => exact ⟨r2,A ++ [n2],rfl,rfl,by have:=HZ2.out;omega,HR2.out,.inr HGN.out,by simp;omega,by rw [if_neg (by simp)];rfl,HP1.out,HP2.out⟩
        ·have d2:decide ((x:Int) < 128) = false:=by simp;omega
         have HB128:=Lib.hid (show 128 ≤ b.toNat by omega)
         clear hbv
         go_wp2_with fail
         go_roundg (r.size - (j + 1))
         case measure => have:=HJG.out;omega
         case rel => exact ⟨j + 1,n2,rfl,rfl,rfl,by omega,by congr 1,rfl,HN2.out,by omega,by
          rw [HTK.out]
          intro y hy
          rcases List.mem_append.1 hy with hy | hy
          ·exact HALL.out y hy
          ·obtain rfl:y = b:=by simpa using hy
           exact HB128.out,rfl⟩
      ·obtain rfl:j = r.size:=by omega
       have dj:decide ((r.size:Int) < (r.size:Int)) = false:=by simp
       have HX:=Lib.hid (show ∀ a,¬ Dec c.data.toList a from fun a h => by
        obtain ⟨M,_,h2,h3⟩:=HDN.out a h
        refine next_open h2 (fun y hy => HALL.out y ?_) hrne
        rw [List.take_of_length_le (show r.data.toList.length ≤ r.size from Nat.le_refl _)]
        exact hy)
       go_wp2_with fail
       rw [Exit.noGoto_ret]
       go_ret2
       exact ⟨.inr ⟨HX.out,_,rfl⟩,HB.out⟩
theorem rdVal_err {b:ByteArray} {x:Nat} (h:rd b = (x,0,0)) (hx:x ≠ 0):rdVal b = .tuple #[noEl,.string ⟨#[]⟩,.int .i64 (x:Nat)]:=by
 unfold rdVal rdErr
 rw [h]
 exact if_neg hx
theorem rdVal_ok {b:ByteArray} {a n:Nat} (h:rd b = (0,a,n)):rdVal b = .tuple #[elV (u8at b 0) (b.extract a (a + n)) (b.extract 0 (a + n)),.string (b.extract (a + n) b.size),.int .i64 0]:=by
 unfold rdVal rdErr rdContent rdRaw rdRest rdTag
 rw [h]
 exact if_pos rfl
theorem rread_any (b:ByteArray) (w:World) (hs:b.size ≤ 1099511627776) :
  Calls Tryz.prog 63 #[.string b] w fun e w' => e = .returned (rdVal b) ∧ Below w.heap.size w w':=by
 by_cases h0:b.size = 0
 ·have e:b = ⟨#[]⟩:=by
   apply ByteArray.ext
   exact Array.eq_empty_of_size_eq_zero h0
  subst e
  exact rread_empty w
 ·by_cases h1:u8at b 0 % 32 = 31
  ·have hrd:rd b = (5,0,0):=by unfold rd;rw [if_neg h0,if_pos h1]
   rw [rdVal_err hrd (by decide)]
   exact rread_tag b w h0 _ rfl h1
  ·have hrd:=show rd b = _ from by unfold rd;rw [if_neg h0,if_neg h1]
   unfold lnAt at hrd
   by_cases h2:b.size ≤ 1
   ·rw [if_pos h2] at hrd
    rw [rdVal_err hrd (by decide)]
    exact rread_one b w (by omega) _ rfl h1
   ·rw [if_neg h2] at hrd
    by_cases h3:u8at b 1 < 128
    ·rw [if_pos h3] at hrd
     refine rread_short b w hs (by omega) _ rfl h1 _ rfl h3 _ ?_
     by_cases h4:b.size < 2 + u8at b 1
     ·rw [if_pos h4]
      refine rdVal_err (x:=3) ?_ (by decide)
      rw [hrd]
      simp only [ne_eq,not_true_eq_false,if_false,Nat.reduceAdd]
      rw [if_pos h4]
     ·rw [if_neg h4]
      refine rdVal_ok (a:=2) (n:=u8at b 1) ?_
      rw [hrd]
      simp only [ne_eq,not_true_eq_false,if_false,Nat.reduceAdd]
      rw [if_neg h4]
    ·rw [if_neg h3] at hrd
     by_cases h4:u8at b 1 = 128 ∨ 131 < u8at b 1
     ·rw [if_pos h4] at hrd
      rw [rdVal_err (x:=6) (by rw [hrd];rfl) (by decide)]
      exact rread_form b w (by omega) _ rfl h1 _ rfl h4
     ·rw [if_neg h4] at hrd
      have h5:=u8at_lt b 1
      obtain ⟨k,hk⟩:∃ k,u8at b 1 = 128 + k:=⟨u8at b 1 - 128,by omega⟩
      have ek:u8at b 1 - 128 = k:=by omega
      rw [ek] at hrd
      by_cases h6:b.size < 1 + 1 + k
      ·rw [if_pos h6] at hrd
       rw [rdVal_err (x:=3) (by rw [hrd];rfl) (by decide)]
       exact rread_more b w hs (by omega) _ rfl h1 k hk (by omega) (by omega) (by omega)
      ·rw [if_neg h6] at hrd
       refine rread_long b w hs (by omega) _ rfl h1 k hk (by omega) (by omega) (by omega) _ rfl _ ?_
       by_cases h7:be b (1 + 1) k < least k ∨ 131072 < be b (1 + 1) k
       ·rw [if_pos h7] at hrd
        rw [if_pos h7]
        exact rdVal_err (x:=6) (by rw [hrd];rfl) (by decide)
       ·rw [if_neg h7] at hrd
        rw [if_neg h7]
        have e:1 + (1 + k) = 2 + k:=by omega
        simp only [ne_eq,not_true_eq_false,if_false,Nat.reduceAdd,e] at hrd
        by_cases h8:b.size < 2 + k + be b 2 k
        ·rw [if_pos h8] at hrd
         rw [if_pos h8]
         exact rdVal_err hrd (by decide)
        ·rw [if_neg h8] at hrd
         rw [if_neg h8]
         exact rdVal_ok hrd
/-- What One answers. -/
def oneErr (b:ByteArray):Nat:=if rdErr b ≠ 0 then rdErr b else if (rdRest b).size ≠ 0 then 4 else 0
def oneVal (b:ByteArray):Value:=if oneErr b = 0 then .tuple #[elV (rdTag b) (rdContent b) (rdRaw b),.int .i64 0] else .tuple #[noEl,.int .i64 ((oneErr b:Nat):Int)]
theorem rdVal_bad {b:ByteArray} (h:rdErr b ≠ 0):rdVal b = .tuple #[.agg #[.int .i64 0,.string ⟨#[]⟩,.string ⟨#[]⟩],.string ⟨#[]⟩,.int .i64 ((rdErr b:Nat):Int)]:=if_neg h
theorem rdVal_good {b:ByteArray} (h:rdErr b = 0):rdVal b = .tuple #[.agg #[.int .i64 ((rdTag b:Nat):Int),.string (rdContent b),.string (rdRaw b)],.string (rdRest b),.int .i64 0]:=if_pos h
theorem el_facts {w:World} {g:Nat} {x y z:Value} {t:TypeId} (h:w.heap[g]? = some (.cells #[x,y,z] t (0,0))) :
  w.cell? ⟨g,0,none⟩ = some x ∧ w.cell? ⟨g,1,none⟩ = some y ∧ w.cell? ⟨g,2,none⟩ = some z ∧ w.frozen? ⟨g,0,none⟩ = false ∧ w.frozen? ⟨g,1,none⟩ = false ∧ w.frozen? ⟨g,2,none⟩ = false ∧ g < w.heap.size:=by
 refine ⟨?_,?_,?_,Lib.frozen_of_heap h 0,Lib.frozen_of_heap h 1,Lib.frozen_of_heap h 2,(Array.getElem?_eq_some_iff.1 h).1⟩
 ·rw [Lib.cell_of_heap h];rfl
 ·rw [Lib.cell_of_heap h];rfl
 ·rw [Lib.cell_of_heap h];rfl
theorem el_set {w:World} {g:Nat} {x y z a b c:Value} {t:TypeId} (h:w.heap[g]? = some (.cells #[x,y,z] t (0,0))) :
  (((w.setCell ⟨g,0,none⟩ a).setCell ⟨g,1,none⟩ b).setCell ⟨g,2,none⟩ c).heap[g]? = some (.cells #[a,b,c] t (0,0)):=by
 simp [World.setCell,Array.getElem?_modify,h]
theorem el_below {B:Nat} {w0 w:World} {g:Nat} {a b c:Value} (h:Below B w0 w) (hg:B ≤ g):Below B w0 (((w.setCell ⟨g,0,none⟩ a).setCell ⟨g,1,none⟩ b).setCell ⟨g,2,none⟩ c) :=
 ((h.setCell (p:=⟨g,0,none⟩) hg _).setCell (p:=⟨g,1,none⟩) hg _).setCell (p:=⟨g,2,none⟩) hg _
theorem heap_keep {w:World} {g:Nat} {x:Obj} (h:w.heap[g]? = some x) (o:Obj):(w.alloc o).heap[g]? = some x:=by
 have hlt:g < w.heap.size:=by
  rcases Nat.lt_or_ge g w.heap.size with h' | h'
  ·exact h'
  ·simp [Array.getElem?_eq_none h'] at h
 show (w.heap.push o)[g]? = _
 rw [Array.getElem?_push,if_neg (Nat.ne_of_lt hlt)]
 exact h
theorem elRes2 {fn:Func} {p u:Tmp} (h:fn.results = #[.cell p 67,.tmp u]) (tmps:Array Value) (w w0:World) (x y z:Value)
  (hp:tmps.getD p undef = .pointer (some ⟨w0.heap.size,0,none⟩)) (hg:w.heap[w0.heap.size]? = some (.cells #[x,y,z] 67 (0,0))) :
  (results fn tmps).run Tryz.prog w = .ok (.tuple #[.agg #[x,y,z],tmps.getD u undef]) w :=
 results_cell_row2 h tmps w w0.heap.size 67 #[x,y,z] (0,0) _ hp hg Tryz.underlying67 rfl elSize
set_option maxRecDepth 100000 in
set_option maxHeartbeats 1000000 in
theorem one_bad (b:ByteArray) (w:World) (hs:b.size ≤ 1099511627776) (x:Nat) (hx:x ≠ 0) (hr:rdVal b = .tuple #[.agg #[.int .i64 0,.string ⟨#[]⟩,.string ⟨#[]⟩],.string ⟨#[]⟩,.int .i64 (x:Nat)]) :
  Calls Tryz.prog 64 #[.string b] w fun e w' => e = .returned (.tuple #[noEl,.int .i64 (x:Nat)]) ∧ Below w.heap.size w w':=by
 have HS:=Lib.hid hs
 have HR:=Lib.hid hr
 have dx:((x:Int) != 0) = true:=by simp;omega
 clear hx
 clear hs hr
 go_enter Tryz.func64,Tryz.ntmps64
 go_wp2_with (go_at_call 90;(with_reducible refine (read_any b _ HS.out).mono ?_);rw [HR.out];rintro e w1 ⟨rfl,hb1⟩;have hc:=((hb1.block w.heap.size (by simp)).trans (elNew w _));obtain ⟨c0,c1,c2,f0,f1,f2,hlt⟩:=el_facts hc;have HC:=Lib.hid hc;clear hc;have HB1:=Lib.hid hb1;clear hb1)
 exact bodyPost_ret (elRes2 rfl _ _ w _ _ _ rfl (heap_keep (el_set HC.out) _)) rfl ⟨rfl,(el_below ((belowNew w _).trans (HB1.out.mono (by simp))) (Nat.le_refl _)).alloc (by simp;omega) _⟩
set_option maxRecDepth 100000 in
set_option maxHeartbeats 1000000 in
theorem one_trail (b:ByteArray) (w:World) (hs:b.size ≤ 1099511627776) (t:Nat) (c r u:ByteArray) (hu:u.size ≠ 0) (hr:rdVal b = .tuple #[.agg #[.int .i64 (t:Nat),.string c,.string r],.string u,.int .i64 0]) :
  Calls Tryz.prog 64 #[.string b] w fun e w' => e = .returned (.tuple #[noEl,.int .i64 4]) ∧ Below w.heap.size w w':=by
 have HS:=Lib.hid hs
 have HR:=Lib.hid hr
 have he:=nonempty_list hu
 have hd:decide (0 < (u.size:Int)) = true:=by simp;omega
 clear hs hr
 go_enter Tryz.func64,Tryz.ntmps64
 go_wp2_with (go_at_call 90;(with_reducible refine (read_any b _ HS.out).mono ?_);rw [HR.out];rintro e w1 ⟨rfl,hb1⟩;have hc:=((hb1.block w.heap.size (by simp)).trans (elNew w _));obtain ⟨c0,c1,c2,f0,f1,f2,hlt⟩:=el_facts hc;have HC:=Lib.hid hc;clear hc;have HB1:=Lib.hid hb1;clear hb1)
 exact bodyPost_ret (elRes2 rfl _ _ w _ _ _ rfl (heap_keep (el_set HC.out) _)) rfl ⟨rfl,(el_below ((belowNew w _).trans (HB1.out.mono (by simp))) (Nat.le_refl _)).alloc (by simp;omega) _⟩
set_option maxRecDepth 100000 in
set_option maxHeartbeats 1000000 in
theorem one_good (b:ByteArray) (w:World) (hs:b.size ≤ 1099511627776) (t:Nat) (c r:ByteArray) (hr:rdVal b = .tuple #[.agg #[.int .i64 (t:Nat),.string c,.string r],.string ⟨#[]⟩,.int .i64 0]) :
  Calls Tryz.prog 64 #[.string b] w fun e w' => e = .returned (.tuple #[elV t c r,.int .i64 0]) ∧ Below w.heap.size w w':=by
 have HS:=Lib.hid hs
 have HR:=Lib.hid hr
 clear hs hr
 go_enter Tryz.func64,Tryz.ntmps64
 go_wp2_with (go_at_call 90;(with_reducible refine (read_any b _ HS.out).mono ?_);rw [HR.out];rintro e w1 ⟨rfl,hb1⟩;have hc:=((hb1.block w.heap.size (by simp)).trans (elNew w _));obtain ⟨c0,c1,c2,f0,f1,f2,hlt⟩:=el_facts hc;have HC:=Lib.hid hc;clear hc;have HB1:=Lib.hid hb1;clear hb1)
 exact bodyPost_ret (elRes2 rfl _ _ w _ _ _ rfl (heap_keep (el_set HC.out) _)) rfl ⟨rfl,(el_below ((belowNew w _).trans (HB1.out.mono (by simp))) (Nat.le_refl _)).alloc (by simp;omega) _⟩
theorem one_any (b:ByteArray) (w:World) (hs:b.size ≤ 1099511627776) :
  Calls Tryz.prog 64 #[.string b] w fun e w' => e = .returned (oneVal b) ∧ Below w.heap.size w w':=by
 unfold oneVal oneErr
 by_cases h:rdErr b = 0
 ·by_cases h2:(rdRest b).size = 0
  ·have e:rdRest b = ⟨#[]⟩:=by
    apply ByteArray.ext
    exact Array.eq_empty_of_size_eq_zero h2
   simp only [h,h2,ne_eq,not_true_eq_false,if_false,if_true]
   exact one_good b w hs _ _ _ (by rw [rdVal_good h,e])
  ·simp only [h,h2,ne_eq,not_true_eq_false,not_false_eq_true,if_false,if_true,Nat.reduceEqDiff]
   exact one_trail b w hs _ _ _ _ h2 (rdVal_good h)
 ·simp only [h,ne_eq,not_false_eq_true,if_true,if_false]
  exact one_bad b w hs _ h (rdVal_bad h)
set_option maxRecDepth 100000 in
set_option maxHeartbeats 1000000 in
theorem rone_bad (b:ByteArray) (w:World) (hs:b.size ≤ 1099511627776) (x:Nat) (hx:x ≠ 0) (hr:rdVal b = .tuple #[.agg #[.int .i64 0,.string ⟨#[]⟩,.string ⟨#[]⟩],.string ⟨#[]⟩,.int .i64 (x:Nat)]) :
  Calls Tryz.prog 34 #[.string b] w fun e w' => e = .returned (.tuple #[noEl,.int .i64 (x:Nat)]) ∧ Below w.heap.size w w':=by
 have HS:=Lib.hid hs
 have HR:=Lib.hid hr
 have dx:((x:Int) != 0) = true:=by simp;omega
 clear hx
 clear hs hr
 go_enter Tryz.func34,Tryz.ntmps34
 go_wp2_with (go_at_call 63;(with_reducible refine (rread_any b _ HS.out).mono ?_);rw [HR.out];rintro e w1 ⟨rfl,hb1⟩;have hc:=((hb1.block w.heap.size (by simp)).trans (elNew w _));obtain ⟨c0,c1,c2,f0,f1,f2,hlt⟩:=el_facts hc;have HC:=Lib.hid hc;clear hc;have HB1:=Lib.hid hb1;clear hb1)
 exact bodyPost_ret (elRes2 rfl _ _ w _ _ _ rfl (heap_keep (el_set HC.out) _)) rfl ⟨rfl,(el_below ((belowNew w _).trans (HB1.out.mono (by simp))) (Nat.le_refl _)).alloc (by simp;omega) _⟩
set_option maxRecDepth 100000 in
set_option maxHeartbeats 1000000 in
theorem rone_trail (b:ByteArray) (w:World) (hs:b.size ≤ 1099511627776) (t:Nat) (c r u:ByteArray) (hu:u.size ≠ 0) (hr:rdVal b = .tuple #[.agg #[.int .i64 (t:Nat),.string c,.string r],.string u,.int .i64 0]) :
  Calls Tryz.prog 34 #[.string b] w fun e w' => e = .returned (.tuple #[noEl,.int .i64 4]) ∧ Below w.heap.size w w':=by
 have HS:=Lib.hid hs
 have HR:=Lib.hid hr
 have he:=nonempty_list hu
 have hd:decide (0 < (u.size:Int)) = true:=by simp;omega
 clear hs hr
 go_enter Tryz.func34,Tryz.ntmps34
 go_wp2_with (go_at_call 63;(with_reducible refine (rread_any b _ HS.out).mono ?_);rw [HR.out];rintro e w1 ⟨rfl,hb1⟩;have hc:=((hb1.block w.heap.size (by simp)).trans (elNew w _));obtain ⟨c0,c1,c2,f0,f1,f2,hlt⟩:=el_facts hc;have HC:=Lib.hid hc;clear hc;have HB1:=Lib.hid hb1;clear hb1)
 exact bodyPost_ret (elRes2 rfl _ _ w _ _ _ rfl (heap_keep (el_set HC.out) _)) rfl ⟨rfl,(el_below ((belowNew w _).trans (HB1.out.mono (by simp))) (Nat.le_refl _)).alloc (by simp;omega) _⟩
set_option maxRecDepth 100000 in
set_option maxHeartbeats 1000000 in
theorem rone_good (b:ByteArray) (w:World) (hs:b.size ≤ 1099511627776) (t:Nat) (c r:ByteArray) (hr:rdVal b = .tuple #[.agg #[.int .i64 (t:Nat),.string c,.string r],.string ⟨#[]⟩,.int .i64 0]) :
  Calls Tryz.prog 34 #[.string b] w fun e w' => e = .returned (.tuple #[elV t c r,.int .i64 0]) ∧ Below w.heap.size w w':=by
 have HS:=Lib.hid hs
 have HR:=Lib.hid hr
 clear hs hr
 go_enter Tryz.func34,Tryz.ntmps34
 go_wp2_with (go_at_call 63;(with_reducible refine (rread_any b _ HS.out).mono ?_);rw [HR.out];rintro e w1 ⟨rfl,hb1⟩;have hc:=((hb1.block w.heap.size (by simp)).trans (elNew w _));obtain ⟨c0,c1,c2,f0,f1,f2,hlt⟩:=el_facts hc;have HC:=Lib.hid hc;clear hc;have HB1:=Lib.hid hb1;clear hb1)
 exact bodyPost_ret (elRes2 rfl _ _ w _ _ _ rfl (heap_keep (el_set HC.out) _)) rfl ⟨rfl,(el_below ((belowNew w _).trans (HB1.out.mono (by simp))) (Nat.le_refl _)).alloc (by simp;omega) _⟩
theorem rone_any (b:ByteArray) (w:World) (hs:b.size ≤ 1099511627776) :
  Calls Tryz.prog 34 #[.string b] w fun e w' => e = .returned (oneVal b) ∧ Below w.heap.size w w':=by
 unfold oneVal oneErr
 by_cases h:rdErr b = 0
 ·by_cases h2:(rdRest b).size = 0
  ·have e:rdRest b = ⟨#[]⟩:=by
    apply ByteArray.ext
    exact Array.eq_empty_of_size_eq_zero h2
   simp only [h,h2,ne_eq,not_true_eq_false,if_false,if_true]
   exact rone_good b w hs _ _ _ (by rw [rdVal_good h,e])
  ·simp only [h,h2,ne_eq,not_true_eq_false,not_false_eq_true,if_false,if_true,Nat.reduceEqDiff]
   exact rone_trail b w hs _ _ _ _ h2 (rdVal_good h)
 ·simp only [h,ne_eq,not_false_eq_true,if_true,if_false]
  exact rone_bad b w hs _ h (rdVal_bad h)
end Go.Proofs.YtbpdenfiifcfcaaGreatDoor
