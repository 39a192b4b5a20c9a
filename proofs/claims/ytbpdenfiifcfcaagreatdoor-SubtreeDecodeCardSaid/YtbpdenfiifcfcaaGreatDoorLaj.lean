/-
  The contract of the reference's DNS: whether a text is a DNS name.
  The contracts of the reference's Pattern and Base: whether a text is a DNS name or a pattern; whether it is a base.
  The contract of the reference's DNSMatch: whether a pattern matches a name.
  The contract of the reference's DNSWithin: whether a name, a pattern or a base lies within a base.
  The contract of the reference's parts: the local part and the domain of a mail address.
-/
import Derived.Test.YtbpdenfiifcfcaaGreatDoorLai
import Derived.Lib.QuietBelow
import Derived.BigQuiet
namespace Go.Proofs.YtbpdenfiifcfcaaGreatDoor
open Go.RowKit
def lblB (c:UInt8):Bool:=alnum c.toNat || c == 45
theorem lbl_def (p:List UInt8):lbl p = (decide (1 ≤ p.length) && decide (p.length ≤ 63) && p.head? != some 45 && p.getLast? != some 45 && p.all lblB):=rfl
theorem lbl_nil:lbl [] = false:=rfl
theorem lbl_long {p:List UInt8} (h:63 < p.length):lbl p = false:=by rw [lbl_def,decide_eq_false (show ¬ p.length ≤ 63 by omega)];simp
theorem lbl_head {p:List UInt8} (h:p.head? = some 45):lbl p = false:=by rw [lbl_def,h];simp
theorem lbl_last {p:List UInt8} (h:p.getLast? = some 45):lbl p = false:=by rw [lbl_def,h];simp
theorem lbl_all {p:List UInt8} (h1:1 ≤ p.length) (h2:p.length ≤ 63) (h3:p.head? ≠ some 45) (h4:p.getLast? ≠ some 45):lbl p = p.all lblB:=by
 rw [lbl_def,decide_eq_true h1,decide_eq_true h2,bne_iff_ne.2 h3,bne_iff_ne.2 h4]
 rfl
theorem all_at {l:List (List UInt8)} {f:List UInt8 → Bool} {j:Nat} (hj:j < l.length) (h:f (l.getD j []) = false):l.all f = false:=by
 rw [Bool.eq_false_iff]
 intro k
 rw [List.all_eq_true] at k
 rw [List.getD_eq_getElem?_getD,List.getElem?_eq_getElem hj] at h
 have:=k _ (List.getElem_mem hj)
 simp only [Option.getD_some] at h
 rw [h] at this
 cases this
theorem all_upto {l:List (List UInt8)} {f:List UInt8 → Bool} (h:∀ j,j < l.length → f (l.getD j []) = true):l.all f = true:=by
 rw [List.all_eq_true]
 intro x hx
 obtain ⟨j,hj,rfl⟩:=List.getElem_of_mem hx
 have:=h j hj
 rwa [List.getD_eq_getElem?_getD,List.getElem?_eq_getElem hj] at this
theorem pcsL_eq (c:UInt8) (l:List UInt8):pcsS c (strOf l) = (pcsL c l).map strOf:=by
 unfold pcsL
 rw [List.map_map]
 conv => lhs;rw [← List.map_id (pcsS c (strOf l))]
 exact List.map_congr_left fun x _ => strOf_of rfl
theorem getD_strOf (P:List (List UInt8)) (j:Nat):(P.map strOf).getD j ⟨#[]⟩ = strOf (P.getD j []):=by
 rw [List.getD_eq_getElem?_getD,List.getD_eq_getElem?_getD,List.getElem?_map]
 cases P[j]? <;> rfl
theorem pcsL_ne (c:UInt8) (l:List UInt8):pcsL c l ≠ []:=(pcsL_spl c l).1
theorem dnsB_long {L:List UInt8} (h:128 < L.length):dnsB L = false:=by unfold dnsB;rw [decide_eq_false (show ¬ L.length ≤ 128 by omega)];rfl
theorem dnsB_all {L:List UInt8} (h:L.length ≤ 128):dnsB L = (pcsL 46 L).all lbl:=by unfold dnsB;rw [decide_eq_true h];rfl
theorem alnumU (c:UInt8) (w:World):Calls Tryz.prog 110 #[.int .u8 ((c.toNat:Nat):Int)] w fun e w' => e = .returned (.bool (alnum c.toNat)) ∧ w' = w:=ralnum_is rfl w
theorem split_dot (L:List UInt8) (h:L.length ≤ 150000) (w:World) :
  Calls Tryz.prog 88 #[.string (strOf L),.int .u8 46] w fun e w' => (∃ v,e = .returned v ∧ OwnT w' w.heap.size v (pcsS 46 (strOf L))) ∧ Below w.heap.size w w' :=
 rsplit_any (strOf L) 46 46 rfl w h
theorem pcsL_len (c:UInt8) (l:List UInt8):(pcsL c l).length ≤ l.length + 1:=by
 have h:=(pcsL_spl c l).2.1
 cases e:pcsL c l with
 |nil => simp
 |cons x r =>
  rw [e] at h
  have:=Lib.join_length x r [c]
  rw [h] at this
  simp only [List.length_cons,List.length_nil] at this ⊢
  omega
/-- A text's pieces,in cells. -/
theorem OwnT.pieces {w:World} {B:Nat} {v:Value} {c:UInt8} {L:List UInt8} (h:OwnT w B v (pcsS c (strOf L))) :
  ∃ g cp,v = .slice (some ⟨g,0,none⟩) (pcsL c L).length cp ∧ g < w.heap.size ∧ B ≤ g ∧ ∀ j,j < (pcsL c L).length → w.cell? ⟨g,j,none⟩ = some (.string (strOf ((pcsL c L).getD j []))):=by
 have e:(pcsS c (strOf L)).length = (pcsL c L).length:=by rw [pcsL_eq,List.length_map]
 obtain ⟨g,cp,rfl,h1,h2,_,h3⟩:=h.cells rfl (by rw [pcsL_eq];exact fun k => pcsL_ne c L (List.map_eq_nil_iff.1 k))
 refine ⟨g,cp,by rw [e],h1,h2,fun j hj => ?_⟩
 rw [h3 j (by omega),pcsL_eq,getD_strOf]
set_option maxRecDepth 100000 in
set_option maxHeartbeats 2000000 in
theorem rdns_any (L:List UInt8) (hL:L.length ≤ 150000) (w:World) :
  Calls Tryz.prog 86 #[.string (strOf L)] w fun e w' => e = .returned (.bool (dnsB L)) ∧ Below w.heap.size w w':=by
 have e0:=strOf_size L
 by_cases h:128 < L.length
 ·have d1:decide ((128:Int) < (L.length:Int)) = true:=by simp;omega
  have HE:=Lib.hid (dnsB_long h)
  go_enter Tryz.func86,Tryz.ntmps86
  go_wp2_with fail
  go_ret
  exact ⟨by rw [HE.out];rfl,Below.refl _ _⟩
 ·have d1:decide ((128:Int) < (L.length:Int)) = false:=by simp;omega
  have HD:=Lib.hid (dnsB_all (L:=L) (by omega))
  have HL:=Lib.hid hL
  have HLE:=Lib.hid e0
  go_enter Tryz.func86,Tryz.ntmps86
  go_wp2_with (go_at_call 88;(with_reducible refine (split_dot L HL.out _).mono ?_);rintro e w1 ⟨⟨v,rfl,ho⟩,hb1⟩;obtain ⟨g,cp,rfl,hg,hB,hcells⟩:=ho.pieces;have HO:=Lib.hid hcells;have HB1:=Lib.hid hb1;have HG:=Lib.hid hg;clear hb1 ho hcells hg hB)
  obtain ⟨P,hP⟩:∃ P,P = pcsL 46 L:=⟨_,rfl⟩
  rw [← hP] at HO HD ⊢
  clear d1 h hL
  obtain ⟨n,hn⟩:∃ n,n = P.length:=⟨_,rfl⟩
  have HN:=Lib.hid hn
  have hnb:n ≤ 150001:=by have:=pcsL_len 46 L;have:=HL.out;rw [hn,hP];omega
  rw [← hn] at HO ⊢
  clear hn hP
  go_loopw [12] (fun i wr => ∃ k:Nat,k ≤ n ∧ i = .int .i64 (k:Int) ∧ (∀ j,j < k → lbl (P.getD j []) = true) ∧ Below w1.heap.size w1 wr) (fun i _ => n - (intOf i).toNat)
  case atStart => exact ⟨0,Nat.zero_le _,rfl,fun j h => absurd h (Nat.not_lt_zero _),Below.refl _ _⟩
  case round =>
   obtain ⟨k,hk,rfl,hall,hb⟩:=hrel
   have HA:=Lib.hid hall
   have HB:=Lib.hid hb
   clear hall hb
   by_cases hlt:k < n
   ·have hd:decide ((k:Int) < (n:Int)) = true:=by simp;omega
    have hc:=(HB.out.cell (p:=⟨g,k,none⟩) HG.out).trans (HO.out k hlt)
    have HF:=Lib.hid (show lbl (P.getD k []) = false → dnsB L = false from fun h => by rw [HD.out];exact all_at (by rw [← HN.out];exact hlt) h)
    have HT:=Lib.hid (show lbl (P.getD k []) = true → ∀ j,j < k + 1 → lbl (P.getD j []) = true from fun h j hj => by
     rcases Nat.lt_or_ge j k with e | e
     ·exact HA.out j e
     ·rw [show j = k by omega];exact h)
    generalize P.getD k [] = p at hc HF HT
    have es:=strOf_size p
    by_cases h1:p.length < 1
    ·have HF2:=Lib.hid (HF.out (by rw [List.eq_nil_of_length_eq_zero (show p.length = 0 by omega)];exact lbl_nil))
     have dl:decide ((p.length:Int) < 1) = true:=decide_eq_true (by omega)
     have dl2:decide (p.length < 1) = true:=decide_eq_true h1
     go_wp2_with fail
     go_ret
     exact ⟨by rw [HF2.out];rfl,HB1.out.trans (HB.out.mono HB1.out.size)⟩
    ·have dl:decide ((p.length:Int) < 1) = false:=decide_eq_false (by omega)
     by_cases h2:63 < p.length
     ·have HF2:=Lib.hid (HF.out (lbl_long h2))
      have dm:decide ((63:Int) < (p.length:Int)) = true:=by simp;omega
      go_wp2_with fail
      go_ret
      exact ⟨by rw [HF2.out];rfl,HB1.out.trans (HB.out.mono HB1.out.size)⟩
     ·have dm:decide ((63:Int) < (p.length:Int)) = false:=by simp;omega
      obtain ⟨x,hx,hxn⟩:=u8at_list (strOf p) 0 (by rw [es];omega)
      have hix:=run_index_u8 (P:=Tryz.prog) Tryz.underlying9 (strOf p) 0 (by rw [es];omega) 0 rfl
      rw [hxn] at hix
      obtain ⟨y,hy,hyn⟩:=u8at_list (strOf p) (p.length - 1) (by rw [es];omega)
      have hiy:=run_index_u8 (P:=Tryz.prog) Tryz.underlying9 (strOf p) (p.length - 1) (by rw [es];omega) ((p.length:Int) - 1) (by omega)
      rw [hyn] at hiy
      rw [strOf_list] at hx hy
      by_cases h3:x = 45
      ·have HF2:=Lib.hid (HF.out (lbl_head (by rw [List.head?_eq_getElem?,hx,h3])))
       have dx:((x.toNat:Nat):Int) == (45:Int):=by rw [h3];rfl
       clear hx hy hxn hyn hiy
       go_wp2_with fail
       go_ret
       exact ⟨by rw [HF2.out];rfl,HB1.out.trans (HB.out.mono HB1.out.size)⟩
      ·have dx:(((x.toNat:Nat):Int) == (45:Int)) = false:=by
        have:¬ x.toNat = 45:=fun h => h3 (UInt8.toNat_inj.1 h)
        simp;omega
       by_cases h4:y = 45
       ·have HF2:=Lib.hid (HF.out (lbl_last (by rw [List.getLast?_eq_getElem?,hy,h4])))
        have dy:((y.toNat:Nat):Int) == (45:Int):=by rw [h4];rfl
        clear hx hy hxn hyn
        go_wp2_with fail
        go_ret
        exact ⟨by rw [HF2.out];rfl,HB1.out.trans (HB.out.mono HB1.out.size)⟩
       ·have dy:(((y.toNat:Nat):Int) == (45:Int)) = false:=by
         have:¬ y.toNat = 45:=fun h => h4 (UInt8.toNat_inj.1 h)
         simp;omega
        have HQ:=Lib.hid (show lbl p = p.all lblB from lbl_all (by omega) (by omega) (by rw [List.head?_eq_getElem?,hx];exact fun h => h3 (Option.some.inj h)) (by rw [List.getLast?_eq_getElem?,hy];exact fun h => h4 (Option.some.inj h)))
        clear hx hy hxn hyn h3 h4
        go_wp2_with fail
        clear hc dl dm dx dy hd
        go_loopw [5] (fun i ws => ∃ m:Nat,m ≤ p.length ∧ i = .int .i64 (m:Int) ∧ p.all lblB = (p.drop m).all lblB ∧ Below w1.heap.size w1 ws) (fun i _ => p.length - (intOf i).toNat)
        case atStart => exact ⟨0,Nat.zero_le _,rfl,rfl,HB.out⟩
        case round =>
         obtain ⟨wz,hwz⟩:∃ wz,wz = wr:=⟨_,rfl⟩
         subst hwz
         obtain ⟨m,hm,rfl,hal,hbs⟩:=hrel
         have HBS:=Lib.hid hbs
         clear hbs
         by_cases hmt:m < p.length
         ·have hd:decide ((m:Int) < (p.length:Int)) = true:=by simp;omega
          obtain ⟨c,hc,hcn⟩:=u8at_list (strOf p) m (by rw [es];exact hmt)
          have hix:=run_index_u8 (P:=Tryz.prog) Tryz.underlying9 (strOf p) m (by rw [es];exact hmt) (m:Int) rfl
          rw [hcn] at hix
          rw [strOf_list] at hc
          rw [drop_cons hc,List.all_cons] at hal
          have HAL:=Lib.hid hal
          clear hc hcn hal
          cases ha:alnum c.toNat with
          |true =>
           have HAN:=Lib.hid (fun w => show Calls Tryz.prog 110 #[.int .u8 ((c.toNat:Nat):Int)] w fun e w' => e = .returned (.bool true) ∧ w' = w from ha ▸ alnumU c w)
           have HN2:=Lib.hid (show p.all lblB = (p.drop (m + 1)).all lblB by
            rw [HAL.out,show lblB c = true by unfold lblB;rw [ha];rfl,Bool.true_and])
           clear ha
           go_wp2_with (go_at_call 110;(with_reducible refine (HAN.out _).mono ?_);rintro e w2 ⟨rfl,rfl⟩)
           go_roundw
           case rel => exact ⟨m + 1,by omega,by go_num,HN2.out,HBS.out⟩
           case measure => simp [intOf];omega
          |false =>
           have HAN:=Lib.hid (fun w => show Calls Tryz.prog 110 #[.int .u8 ((c.toNat:Nat):Int)] w fun e w' => e = .returned (.bool false) ∧ w' = w from ha ▸ alnumU c w)
           by_cases h5:c = 45
           ·have d5:(((c.toNat:Nat):Int) != (45:Int)) = false:=by rw [h5];rfl
            have HN2:=Lib.hid (show p.all lblB = (p.drop (m + 1)).all lblB by
             rw [HAL.out,show lblB c = true by unfold lblB;rw [h5];rfl,Bool.true_and])
            clear ha h5
            go_wp2_with (go_at_call 110;(with_reducible refine (HAN.out _).mono ?_);rintro e w2 ⟨rfl,rfl⟩)
            go_roundw
            case rel => exact ⟨m + 1,by omega,by go_num,HN2.out,HBS.out⟩
            case measure => simp [intOf];omega
           ·have d5:(((c.toNat:Nat):Int) != (45:Int)) = true:=by
             have:¬ c.toNat = 45:=fun h => h5 (UInt8.toNat_inj.1 h)
             simp;omega
            have HF2:=Lib.hid (HF.out (by rw [HQ.out,HAL.out,show lblB c = false by unfold lblB;rw [ha,beq_eq_false_iff_ne.2 h5];rfl,Bool.false_and]))
            clear ha
            go_wp2_with (go_at_call 110;(with_reducible refine (HAN.out _).mono ?_);rintro e w2 ⟨rfl,rfl⟩)
            go_ret
            exact ⟨by rw [HF2.out];rfl,HB1.out.trans (HBS.out.mono HB1.out.size)⟩
         ·have em:m = p.length:=by omega
          subst em
          have hd:decide ((p.length:Int) < (p.length:Int)) = false:=by simp
          have HT2:=Lib.hid (HT.out (by rw [HQ.out,hal,List.drop_length];rfl))
          clear hal
          go_wp2_with fail
          go_roundw
          case rel => exact ⟨k + 1,by omega,by go_num,HT2.out,HBS.out⟩
          case measure => simp [intOf];omega
   ·have ek:k = n:=by omega
    subst ek
    have hd:decide ((k:Int) < (k:Int)) = false:=by simp
    have HE:=Lib.hid (show dnsB L = true by rw [HD.out];exact all_upto fun j hj => HA.out j (by rw [HN.out];exact hj))
    go_wp2_with fail
    go_ret
    exact ⟨by rw [HE.out];rfl,HB1.out.trans (HB.out.mono HB1.out.size)⟩
theorem rdns_is {L:List UInt8} {b:Bool} (h:dnsB L = b) (hL:L.length ≤ 150000) (w:World) :
  Calls Tryz.prog 86 #[.string (strOf L)] w fun e w' => e = .returned (.bool b) ∧ Below w.heap.size w w':=by
 have:=rdns_any L hL w
 rwa [h] at this
theorem split_num (L:List UInt8) (h:L.length ≤ 150000) (w:World) :
  Calls Tryz.prog 88 #[.string (strOf L),.int .u8 46] w fun e w' => (∃ a cp,e = .returned (.slice a (pcsL 46 L).length cp)) ∧ Below w.heap.size w w':=by
 refine (split_dot L h w).mono ?_
 rintro e w1 ⟨⟨v,rfl,ho⟩,hb⟩
 obtain ⟨g,cp,rfl,_⟩:=ho.pieces
 exact ⟨⟨_,cp,rfl⟩,hb⟩
theorem toList_of (l:List UInt8):(strOf l).toList = l:=by rw [toList_eq_list];rfl
/-- The form of a pattern that is no name. -/
def starB (l:List UInt8):Bool:=decide (l.length ≤ 128) && decide (2 < l.length) && decide (l.take 2 = [42,46]) && dnsB (l.drop 2) && decide (2 < (pcsL 46 l).length)
theorem patB_def (l:List UInt8):patB l = (dnsB l || starB l):=rfl
set_option maxRecDepth 100000 in
set_option maxHeartbeats 2000000 in
theorem rpat_any (L:List UInt8) (hL:L.length ≤ 150000) (w:World) :
  Calls Tryz.prog 59 #[.string (strOf L)] w fun e w' => e = .returned (.bool (patB L)) ∧ Below w.heap.size w w':=by
 have e0:=strOf_size L
 have HL:=Lib.hid hL
 rw [patB_def]
 cases hd:dnsB L with
 |true =>
  have HD:=Lib.hid (fun w => rdns_is hd hL w)
  clear hL hd
  go_enter Tryz.func59,Tryz.ntmps59
  go_wp2_with (go_at_call 86;(with_reducible refine (HD.out _).mono ?_);rintro e w1 ⟨rfl,hb1⟩;have HB1:=Lib.hid hb1;clear hb1)
  go_ret
  exact ⟨rfl,HB1.out⟩
 |false =>
  have HD:=Lib.hid (fun w => rdns_is hd hL w)
  clear hd
  by_cases h1:L.length ≤ 128
  ·have d1:decide ((L.length:Int) ≤ (128:Int)) = true:=by simp;omega
   by_cases h2:2 < L.length
   ·have d2:decide ((2:Int) < (L.length:Int)) = true:=by simp;omega
    have hsh:=fun w => head_of L 2 (by omega) (2:Int) rfl w
    have hbe:((strOf (L.take 2)).toList == [42,46]) = decide (L.take 2 = [42,46]):=by rw [toList_of,Bool.eq_iff_iff,beq_iff_eq,decide_eq_true_iff]
    have hbp:((strOf (L.take 2)).toList = [42,46]) = (L.take 2 = [42,46]):=by rw [toList_of]
    by_cases h3:L.take 2 = [42,46]
    ·rw [decide_eq_true h3] at hbe
     rw [eq_true h3] at hbp
     have hst:=fun w => tail_of L 2 (by omega) (2:Int) rfl w
     generalize hT:L.take 2 = T at hsh hbe hbp
     obtain ⟨D,hD⟩:∃ D,D = L.drop 2:=⟨_,rfl⟩
     rw [← hD] at hst
     have HDL:=Lib.hid (show D.length ≤ 150000 by rw [hD,List.length_drop];omega)
     have HS:=Lib.hid (show starB L = (dnsB D && decide (2 < (pcsL 46 L).length)) by
      unfold starB;rw [decide_eq_true h1,decide_eq_true h2,decide_eq_true h3,← hD];rfl)
     have HTT:=Lib.hid hT
     clear hT hD h3
     cases hq:dnsB D with
     |true =>
      have HQ:=Lib.hid (fun w => rdns_is hq HDL.out w)
      have HS2:=Lib.hid (show starB L = decide (2 < (pcsL 46 L).length) by rw [HS.out,hq];rfl)
      clear hq
      go_enter Tryz.func59,Tryz.ntmps59
      go_wp2_with (first
       |(go_at_call 86;(with_reducible refine (HD.out _).mono ?_);rintro e w1 ⟨rfl,hb1⟩;have HB1:=Lib.hid hb1;clear hb1)
       |(go_at_call 86;(with_reducible refine (HQ.out _).mono ?_);rintro e w2 ⟨rfl,hb2⟩;have HB2:=Lib.hid hb2;clear hb2)
       |(go_at_call 88;(with_reducible refine (split_num L HL.out _).mono ?_);rintro e w3 ⟨⟨a,cp,rfl⟩,hb3⟩;have HB3:=Lib.hid hb3;clear hb3))
      go_ret
      exact ⟨by rw [HS2.out];simp;omega,below_next (below_next HB1.out HB2.out) HB3.out⟩
     |false =>
      have HQ:=Lib.hid (fun w => rdns_is hq HDL.out w)
      have HS2:=Lib.hid (show starB L = false by rw [HS.out,hq];rfl)
      clear hq
      go_enter Tryz.func59,Tryz.ntmps59
      go_wp2_with (first
       |(go_at_call 86;(with_reducible refine (HD.out _).mono ?_);rintro e w1 ⟨rfl,hb1⟩;have HB1:=Lib.hid hb1;clear hb1)
       |(go_at_call 86;(with_reducible refine (HQ.out _).mono ?_);rintro e w2 ⟨rfl,hb2⟩;have HB2:=Lib.hid hb2;clear hb2))
      go_ret
      exact ⟨by rw [HS2.out];rfl,below_next HB1.out HB2.out⟩
    ·rw [decide_eq_false h3] at hbe
     rw [eq_false h3] at hbp
     have HS:=Lib.hid (show starB L = false by unfold starB;rw [decide_eq_false h3];simp)
     generalize L.take 2 = T at hsh hbe hbp
     clear h3
     go_enter Tryz.func59,Tryz.ntmps59
     go_wp2_with (go_at_call 86;(with_reducible refine (HD.out _).mono ?_);rintro e w1 ⟨rfl,hb1⟩;have HB1:=Lib.hid hb1;clear hb1)
     go_ret
     exact ⟨by rw [HS.out];rfl,HB1.out⟩
   ·have d2:decide ((2:Int) < (L.length:Int)) = false:=by simp;omega
    have HS:=Lib.hid (show starB L = false by unfold starB;rw [decide_eq_false h2];simp)
    go_enter Tryz.func59,Tryz.ntmps59
    go_wp2_with (go_at_call 86;(with_reducible refine (HD.out _).mono ?_);rintro e w1 ⟨rfl,hb1⟩;have HB1:=Lib.hid hb1;clear hb1)
    go_ret
    exact ⟨by rw [HS.out];rfl,HB1.out⟩
  ·have d1:decide ((L.length:Int) ≤ (128:Int)) = false:=by simp;omega
   have HS:=Lib.hid (show starB L = false by unfold starB;rw [decide_eq_false h1];simp)
   go_enter Tryz.func59,Tryz.ntmps59
   go_wp2_with (go_at_call 86;(with_reducible refine (HD.out _).mono ?_);rintro e w1 ⟨rfl,hb1⟩;have HB1:=Lib.hid hb1;clear hb1)
   go_ret
   exact ⟨by rw [HS.out];rfl,HB1.out⟩
set_option maxRecDepth 100000 in
set_option maxHeartbeats 2000000 in
theorem rbase_any (L:List UInt8) (hL:L.length ≤ 150000) (w:World) :
  Calls Tryz.prog 58 #[.string (strOf L)] w fun e w' => e = .returned (.bool (baseB L)) ∧ Below w.heap.size w w':=by
 have hbe:(strOf L).toList.isEmpty = decide (L = []):=by
  rw [toList_of]
  cases L <;> rfl
 have hbp:((strOf L).toList = []) = (L = []):=by rw [toList_of]
 have HD:=Lib.hid (fun w => rdns_any L hL w)
 by_cases h:L = []
 ·rw [decide_eq_true h] at hbe
  rw [eq_true h] at hbp
  have HE:=Lib.hid (show baseB L = true by unfold baseB;rw [decide_eq_true h];rfl)
  clear h
  go_enter Tryz.func58,Tryz.ntmps58
  go_wp2_with fail
  go_ret
  exact ⟨by rw [HE.out];rfl,Below.refl _ _⟩
 ·rw [decide_eq_false h] at hbe
  rw [eq_false h] at hbp
  have HE:=Lib.hid (show baseB L = dnsB L by unfold baseB;rw [decide_eq_false h];rfl)
  clear h
  go_enter Tryz.func58,Tryz.ntmps58
  go_wp2_with (go_at_call 86;(with_reducible refine (HD.out _).mono ?_);rintro e w1 ⟨rfl,hb1⟩;have HB1:=Lib.hid hb1;clear hb1)
  go_ret
  exact ⟨by rw [HE.out];rfl,HB1.out⟩
/-- A string that is empty,and one that is not: what the walk asks. -/
theorem empty_is {L:List UInt8} (h:L = []):(strOf L).toList.isEmpty = true ∧ ((strOf L).toList = []) = True:=by subst h;rw [toList_of];exact ⟨rfl,by simp⟩
theorem empty_not {L:List UInt8} (h:L ≠ []):(strOf L).toList.isEmpty = false ∧ ((strOf L).toList = []) = False:=by
 rw [toList_of]
 cases L with
 |nil => exact absurd rfl h
 |cons c r => exact ⟨rfl,by simp⟩
theorem dot_of (L:List UInt8) (h:L.length ≤ 150000) (w:World):(Op.stringOp .add ⟨#[46]⟩ (strOf L)).run Tryz.prog w = .ok (.string (strOf (46 :: L))) w:=by
 rw [run_string_add_sum w _ _ (by rw [strOf_size];show 1 + L.length ≤ _;omega)]
 have:=str_cat [46] L
 rw [show strOf [46] = ⟨#[46]⟩ from rfl] at this
 rw [this]
 rfl
def firstArg (s:List UInt8):Bool:=decide (s = []) || patB s
theorem within_def (s b:List UInt8):dnsWithinB s b = (firstArg s && baseB b && (decide (b = []) || alikeB s b || endsB s (46 :: b))):=rfl
theorem atK_le (L:List UInt8):atK L ≤ L.length:=by
 unfold atK
 induction L with
 |nil => simp
 |cons c r ih =>
  rw [List.takeWhile_cons]
  split
  ·simp only [List.length_cons];omega
  ·simp
theorem atK_lt {L:List UInt8} {j:Nat} (h:j < atK L):∃ c,L[j]? = some c ∧ c ≠ 64:=by
 unfold atK at h
 induction L generalizing j with
 |nil => simp at h
 |cons c r ih =>
  rw [List.takeWhile_cons] at h
  split at h
  ·rename_i hc
   cases j with
   |zero => exact ⟨c,rfl,by simpa using hc⟩
   |succ j => exact ih (by simp only [List.length_cons] at h;omega)
  ·simp at h
theorem atK_at {L:List UInt8} (h:atK L < L.length):L[atK L]? = some 64:=by
 unfold atK at h ⊢
 induction L with
 |nil => simp at h
 |cons c r ih =>
  rw [List.takeWhile_cons] at h ⊢
  split at h
  ·rename_i hc
   rw [if_pos hc]
   simp only [List.length_cons] at h ⊢
   exact ih (by omega)
  ·rename_i hc
   rw [if_neg hc]
   have:c = 64:=by simpa using hc
   rw [this]
   rfl
def okB (c d:UInt8):Bool:=(alnum c.toNat || signsL.contains c) && !(c == 46 && d == 46)
theorem local_step {L:List UInt8} {K i:Nat} {c d:UInt8} (h64:L[K]? = some 64) (hi:i < K) (hc:L[i]? = some c) (hd:L[i + 1]? = some d) :
  localB ((L.take K).drop i) = (okB c d && localB ((L.take K).drop (i + 1))):=by
 have hc':(L.take K)[i]? = some c:=by rw [List.getElem?_take_of_lt hi];exact hc
 rw [drop_cons hc']
 show ((alnum c.toNat || signsL.contains c) && !(c == 46 && ((L.take K).drop (i + 1)).head? == some 46) && localB ((L.take K).drop (i + 1))) = _
 have e:(c == 46 && ((L.take K).drop (i + 1)).head? == some 46) = (c == 46 && d == 46):=by
  rw [List.head?_drop]
  by_cases hk:i + 1 < K
  ·rw [List.getElem?_take_of_lt hk,hd]
   rfl
  ·have ek:i + 1 = K:=by omega
   rw [List.getElem?_eq_none (by rw [List.length_take];omega)]
   rw [ek,h64] at hd
   have:d = 64:=(Option.some.inj hd).symm
   rw [this]
   rfl
 rw [e]
 rfl
theorem mail_long {L:List UInt8} (h:128 < L.length):mailB L = false:=by unfold mailB;rw [decide_eq_false (show ¬ L.length ≤ 128 by omega)];simp
theorem mail_k0 {L:List UInt8} (h:atK L < 1):mailB L = false:=by unfold mailB;rw [decide_eq_false (show ¬ 1 ≤ atK L by omega)];simp
theorem mail_k64 {L:List UInt8} (h:64 < atK L):mailB L = false:=by unfold mailB;rw [decide_eq_false (show ¬ atK L ≤ 64 by omega)];simp
theorem mail_no {L:List UInt8} (h:atK L = L.length):mailB L = false:=by unfold mailB;rw [decide_eq_false (show ¬ atK L < L.length by omega)];simp
theorem mail_dns {L:List UInt8} (h:dnsB (L.drop (atK L + 1)) = false):mailB L = false:=by unfold mailB;rw [h];simp
theorem mail_head {L:List UInt8} (h:L.head? = some 46):mailB L = false:=by unfold mailB;rw [h];simp
theorem mail_last {L:List UInt8} (h:(L.take (atK L)).getLast? = some 46):mailB L = false:=by unfold mailB;rw [h];simp
theorem mail_local {L:List UInt8} (h:localB (L.take (atK L)) = false):mailB L = false:=by unfold mailB;rw [h];simp
theorem mail_yes {L:List UInt8} (h1:L.length ≤ 128) (h2:1 ≤ atK L) (h3:atK L ≤ 64) (h4:atK L < L.length) (h5:dnsB (L.drop (atK L + 1)) = true) (h6:L.head? ≠ some 46) (h7:(L.take (atK L)).getLast? ≠ some 46) (h8:localB (L.take (atK L)) = true):mailB L = true:=by
 unfold mailB
 rw [decide_eq_true h1,decide_eq_true h2,decide_eq_true h3,decide_eq_true h4,h5,bne_iff_ne.2 h6,bne_iff_ne.2 h7,h8]
 rfl
def partsR (L:List UInt8):Value:=if mailB L = true then .tuple #[.string (strOf (localP L)),.string (strOf (domP L)),.bool true] else .tuple #[.string ⟨#[]⟩,.string ⟨#[]⟩,.bool false]
theorem partsR_no {L:List UInt8} (h:mailB L = false):partsR L = .tuple #[.string ⟨#[]⟩,.string ⟨#[]⟩,.bool false]:=by unfold partsR;rw [h];rfl
theorem partsR_yes {L:List UInt8} (h:mailB L = true):partsR L = .tuple #[.string (strOf (localP L)),.string (strOf (domP L)),.bool true]:=by unfold partsR;rw [if_pos h]
theorem signs_is {c:UInt8} {b:Bool} (h:signsL.contains c = b) (w:World) :
  Calls Tryz.prog 111 #[.int .u8 ((c.toNat:Nat):Int),.string ⟨#[33,35,36,37,38,39,42,43,45,47,61,63,94,95,96,123,124,125,126,46]⟩] w fun e w' => e = .returned (.bool b) ∧ w' = w :=
 among_is (l:=⟨#[33,35,36,37,38,39,42,43,45,47,61,63,94,95,96,123,124,125,126,46]⟩) h (by decide) w
theorem alnumU_is {c:UInt8} {b:Bool} (h:alnum c.toNat = b) (w:World):Calls Tryz.prog 110 #[.int .u8 ((c.toNat:Nat):Int)] w fun e w' => e = .returned (.bool b) ∧ w' = w:=ralnum_is h w
theorem byte_ne {c d:UInt8} (h:c ≠ d):(((c.toNat:Nat):Int) == ((d.toNat:Nat):Int)) = false:=by
 have:¬ c.toNat = d.toNat:=fun e => h (UInt8.toNat_inj.1 e)
 simp;omega
theorem alnum_dot {c:UInt8} (h:alnum c.toNat = true):c ≠ 46:=fun e => by rw [e] at h;exact absurd h (by decide)
set_option maxRecDepth 100000 in
set_option maxHeartbeats 4000000 in
theorem rparts_any (L:List UInt8) (hL:L.length ≤ 150000) (w:World) :
  Calls Tryz.prog 87 #[.string (strOf L)] w fun e w' => e = .returned (partsR L) ∧ Below w.heap.size w w':=by
 have e0:=strOf_size L
 by_cases h:128 < L.length
 ·have d1:decide ((128:Int) < (L.length:Int)) = true:=by simp;omega
  have HE:=Lib.hid (partsR_no (mail_long h))
  go_enter Tryz.func87,Tryz.ntmps87
  go_wp2_with fail
  exact bodyPost_ret (results_tmp3 rfl _ _ _) rfl ⟨by rw [HE.out];rfl,Below.refl _ _⟩
 ·have d1:decide ((128:Int) < (L.length:Int)) = false:=by simp;omega
  obtain ⟨K,hK⟩:∃ K,K = atK L:=⟨_,rfl⟩
  have hKL:=atK_le L
  rw [← hK] at hKL
  have HKE:=Lib.hid hK
  clear hK
  go_enter Tryz.func87,Tryz.ntmps87
  go_wp2_with fail
  clear d1
  go_loopw [5] (fun i wr => ∃ k:Nat,k ≤ K ∧ i = .int .i64 (k:Int) ∧ wr = w) (fun i _ => K - (intOf i).toNat)
  case atStart => exact ⟨0,Nat.zero_le _,rfl,rfl⟩
  case round =>
   obtain ⟨k,hk,rfl,rfl⟩:=hrel
   by_cases hlt:k < K
   ·obtain ⟨c,hc,hc64⟩:=atK_lt (L:=L) (j:=k) (by rw [← HKE.out];exact hlt)
    have hd:decide ((k:Int) < (L.length:Int)) = true:=by simp;omega
    obtain ⟨x,hx,hxn⟩:=u8at_list (strOf L) k (by rw [e0];omega)
    have hix:=run_index_u8 (P:=Tryz.prog) Tryz.underlying9 (strOf L) k (by rw [e0];omega) (k:Int) rfl
    rw [hxn] at hix
    rw [strOf_list,hc] at hx
    obtain rfl:c = x:=Option.some.inj hx
    have d6:(((c.toNat:Nat):Int) != (64:Int)) = true:=by
     have:¬ c.toNat = 64:=fun h => hc64 (UInt8.toNat_inj.1 h)
     simp;omega
    clear hx hxn hc hc64
    go_wp2_with fail
    go_roundw
    case rel => exact ⟨k + 1,by omega,by go_num,by first | exact trivial | rfl⟩
    case measure => simp [intOf];omega
   ·have ek:k = K:=by omega
    subst ek
    by_cases hkl:k < L.length
    ·have hd:decide ((k:Int) < (L.length:Int)) = true:=by simp;omega
     have h64:L[k]? = some 64:=by rw [HKE.out];exact atK_at (by rw [← HKE.out];exact hkl)
     obtain ⟨x,hx,hxn⟩:=u8at_list (strOf L) k (by rw [e0];omega)
     have hix:=run_index_u8 (P:=Tryz.prog) Tryz.underlying9 (strOf L) k (by rw [e0];omega) (k:Int) rfl
     rw [hxn] at hix
     rw [strOf_list,h64] at hx
     obtain rfl:64 = x:=Option.some.inj hx
     have d6:((((64:UInt8).toNat:Nat):Int) != (64:Int)) = false:=by rfl
     clear hx hxn
     have deq:((k:Int) == (L.length:Int)) = false:=by simp;omega
     by_cases h1:k < 1
     ·have HE:=Lib.hid (partsR_no (mail_k0 (L:=L) (by rw [← HKE.out];exact h1)))
      have dl:decide ((k:Int) < 1) = true:=decide_eq_true (by omega)
      go_wp2_with fail
      exact bodyPost_ret (results_tmp3 rfl _ _ _) rfl ⟨by rw [HE.out];rfl,Below.refl _ _⟩
     ·have dl:decide ((k:Int) < 1) = false:=decide_eq_false (by omega)
      by_cases h2:64 < k
      ·have HE:=Lib.hid (partsR_no (mail_k64 (L:=L) (by rw [← HKE.out];exact h2)))
       have dm:decide ((64:Int) < (k:Int)) = true:=decide_eq_true (by omega)
       go_wp2_with fail
       exact bodyPost_ret (results_tmp3 rfl _ _ _) rfl ⟨by rw [HE.out];rfl,Below.refl _ _⟩
      ·have dm:decide ((64:Int) < (k:Int)) = false:=decide_eq_false (by omega)
       have htl:=fun w => tail_of L (k + 1) hkl ((k:Int) + 1) (by omega) w
       obtain ⟨D,hD⟩:∃ D,D = L.drop (k + 1):=⟨_,rfl⟩
       rw [← hD] at htl
       have HD:=Lib.hid hD
       have HDL:=Lib.hid (show D.length ≤ 150000 by rw [hD,List.length_drop];omega)
       clear hD
       cases h3:dnsB D with
       |false =>
        have HE:=Lib.hid (partsR_no (mail_dns (L:=L) (by rw [← HKE.out,← HD.out];exact h3)))
        have HS:=Lib.hid (fun w => rdns_is h3 HDL.out w)
        clear h3 h64
        go_wp2_with (go_at_call 86;(with_reducible refine (HS.out _).mono ?_);rintro e w2 ⟨rfl,hb2⟩;have HB2:=Lib.hid hb2;clear hb2)
        exact bodyPost_ret (results_tmp3 rfl _ _ _) rfl ⟨by rw [HE.out];rfl,HB2.out⟩
       |true =>
        have HS:=Lib.hid (fun w => rdns_is h3 HDL.out w)
        obtain ⟨x,hx,hxn⟩:=u8at_list (strOf L) 0 (by rw [e0];omega)
        have hiz:=run_index_u8 (P:=Tryz.prog) Tryz.underlying9 (strOf L) 0 (by rw [e0];omega) 0 rfl
        rw [hxn] at hiz
        rw [strOf_list] at hx
        by_cases h4:x = 46
        ·have HE:=Lib.hid (partsR_no (mail_head (L:=L) (by rw [List.head?_eq_getElem?,hx,h4])))
         have dx:(((x.toNat:Nat):Int) == (46:Int)) = true:=by rw [h4];rfl
         clear h3 h4 hx hxn h64
         go_wp2_with (go_at_call 86;(with_reducible refine (HS.out _).mono ?_);rintro e w2 ⟨rfl,hb2⟩;have HB2:=Lib.hid hb2;clear hb2)
         exact bodyPost_ret (results_tmp3 rfl _ _ _) rfl ⟨by rw [HE.out];rfl,HB2.out⟩
        ·have dx:(((x.toNat:Nat):Int) == (46:Int)) = false:=byte_ne h4
         obtain ⟨y,hy,hyn⟩:=u8at_list (strOf L) (k - 1) (by rw [e0];omega)
         have hiy:=run_index_u8 (P:=Tryz.prog) Tryz.underlying9 (strOf L) (k - 1) (by rw [e0];omega) ((k:Int) - 1) (by omega)
         rw [hyn] at hiy
         rw [strOf_list] at hy
         have hgl:(L.take k).getLast? = some y:=by
          rw [List.getLast?_eq_getElem?,List.length_take,List.getElem?_take_of_lt (by omega),show min k L.length - 1 = k - 1 by omega]
          exact hy
         by_cases h5:y = 46
         ·have HE:=Lib.hid (partsR_no (mail_last (L:=L) (by rw [← HKE.out,hgl,h5])))
          have dy:(((y.toNat:Nat):Int) == (46:Int)) = true:=by rw [h5];rfl
          clear h3 h4 h5 hx hxn hy hyn hgl h64
          go_wp2_with (go_at_call 86;(with_reducible refine (HS.out _).mono ?_);rintro e w2 ⟨rfl,hb2⟩;have HB2:=Lib.hid hb2;clear hb2)
          exact bodyPost_ret (results_tmp3 rfl _ _ _) rfl ⟨by rw [HE.out];rfl,HB2.out⟩
         ·have dy:(((y.toNat:Nat):Int) == (46:Int)) = false:=byte_ne h5
          have HY:=Lib.hid (show localB (L.take k) = true → partsR L = .tuple #[.string (strOf (L.take k)),.string (strOf D),.bool true] from fun h => by
           rw [partsR_yes (mail_yes (by omega) (by rw [← HKE.out];omega) (by rw [← HKE.out];omega) (by rw [← HKE.out];exact hkl) (by rw [← HKE.out,← HD.out];exact h3) (by rw [List.head?_eq_getElem?,hx];exact fun h => h4 (Option.some.inj h)) (by rw [← HKE.out,hgl];exact fun h => h5 (Option.some.inj h)) (by rw [← HKE.out];exact h))]
           unfold localP domP
           rw [← HKE.out,← HD.out])
          have HF:=Lib.hid (show localB (L.take k) = false → partsR L = _ from fun h => partsR_no (mail_local (L:=L) (by rw [← HKE.out];exact h)))
          have H64:=Lib.hid h64
          have hhd:=fun w => head_of L k hKL (k:Int) rfl w
          obtain ⟨T,hT⟩:∃ T,T = L.take k:=⟨_,rfl⟩
          have HT:=Lib.hid hT
          rw [← hT] at hhd HY HF
          clear h3 h4 h5 hx hxn hy hyn hgl h64 hT
          go_wp2_with (go_at_call 86;(with_reducible refine (HS.out _).mono ?_);rintro e w2 ⟨rfl,hb2⟩;have HB2:=Lib.hid hb2;clear hb2)
          clear hix hiz hiy d6 deq dl dm dx dy hd
          go_loopw [6] (fun i ws => ∃ m:Nat,m ≤ k ∧ i = .int .i64 (m:Int) ∧ localB T = localB (T.drop m) ∧ ws = w2) (fun i _ => k - (intOf i).toNat)
          case atStart => exact ⟨0,Nat.zero_le _,rfl,rfl,rfl⟩
          case round =>
           obtain ⟨m,hm,rfl,hal,rfl⟩:=hrel
           by_cases hmt:m < k
           ·have hd:decide ((m:Int) < (k:Int)) = true:=decide_eq_true (by omega)
            obtain ⟨c,hc,hcn⟩:=u8at_list (strOf L) m (by rw [e0];omega)
            have hix:=run_index_u8 (P:=Tryz.prog) Tryz.underlying9 (strOf L) m (by rw [e0];omega) (m:Int) rfl
            rw [hcn] at hix
            obtain ⟨d,hdd,hdn⟩:=u8at_list (strOf L) (m + 1) (by rw [e0];omega)
            have hiy:=run_index_u8 (P:=Tryz.prog) Tryz.underlying9 (strOf L) (m + 1) (by rw [e0];omega) ((m:Int) + 1) (by omega)
            rw [hdn] at hiy
            rw [strOf_list] at hc hdd
            have hst:=local_step H64.out hmt hc hdd
            rw [← HT.out] at hst
            have HST:=Lib.hid (hal.trans hst)
            clear hc hdd hcn hdn hst hal
            cases ha:alnum c.toNat with
            |true =>
             have HAN:=Lib.hid (fun w => alnumU_is ha w)
             have dc:(((c.toNat:Nat):Int) == (46:Int)) = false:=byte_ne (alnum_dot ha)
             have HN2:=Lib.hid (show localB T = localB (T.drop (m + 1)) by
              rw [HST.out,show okB c d = true by unfold okB;rw [ha,beq_eq_false_iff_ne.2 (alnum_dot ha)];rfl,Bool.true_and])
             clear ha
             go_wp2_with (go_at_call 110;(with_reducible refine (HAN.out _).mono ?_);rintro e w3 ⟨rfl,rfl⟩)
             go_roundw
             case rel => exact ⟨m + 1,by omega,by go_num,HN2.out,by first | exact trivial | rfl⟩
             case measure => simp [intOf];omega
            |false =>
             have HAN:=Lib.hid (fun w => alnumU_is ha w)
             cases hs:signsL.contains c with
             |false =>
              have HSN:=Lib.hid (fun w => signs_is hs w)
              have HE:=Lib.hid (HF.out (by rw [HST.out,show okB c d = false by unfold okB;rw [ha,hs];rfl,Bool.false_and]))
              clear ha hs
              go_wp2_with (first
               |(go_at_call 110;(with_reducible refine (HAN.out _).mono ?_);rintro e w3 ⟨rfl,rfl⟩)
               |(go_at_call 111;(with_reducible refine (HSN.out _).mono ?_);rintro e w4 ⟨rfl,rfl⟩))
              exact bodyPost_ret (results_tmp3 rfl _ _ _) rfl ⟨by rw [HE.out];rfl,HB2.out⟩
             |true =>
              have HSN:=Lib.hid (fun w => signs_is hs w)
              by_cases h6:c = 46
              ·have dc:(((c.toNat:Nat):Int) == (46:Int)) = true:=by rw [h6];rfl
               by_cases h7:d = 46
               ·have dd:(((d.toNat:Nat):Int) == (46:Int)) = true:=by rw [h7];rfl
                have HE:=Lib.hid (HF.out (by rw [HST.out,show okB c d = false by unfold okB;rw [h6,h7];rfl,Bool.false_and]))
                clear ha hs h6 h7
                go_wp2_with (first
                 |(go_at_call 110;(with_reducible refine (HAN.out _).mono ?_);rintro e w3 ⟨rfl,rfl⟩)
                 |(go_at_call 111;(with_reducible refine (HSN.out _).mono ?_);rintro e w4 ⟨rfl,rfl⟩))
                exact bodyPost_ret (results_tmp3 rfl _ _ _) rfl ⟨by rw [HE.out];rfl,HB2.out⟩
               ·have dd:(((d.toNat:Nat):Int) == (46:Int)) = false:=byte_ne h7
                have HN2:=Lib.hid (show localB T = localB (T.drop (m + 1)) by
                 rw [HST.out,show okB c d = true by unfold okB;rw [hs,beq_eq_false_iff_ne.2 h7];simp,Bool.true_and])
                clear ha hs h6 h7
                go_wp2_with (first
                 |(go_at_call 110;(with_reducible refine (HAN.out _).mono ?_);rintro e w3 ⟨rfl,rfl⟩)
                 |(go_at_call 111;(with_reducible refine (HSN.out _).mono ?_);rintro e w4 ⟨rfl,rfl⟩))
                go_roundw
                case rel => exact ⟨m + 1,by omega,by go_num,HN2.out,by first | exact trivial | rfl⟩
                case measure => simp [intOf];omega
              ·have dc:(((c.toNat:Nat):Int) == (46:Int)) = false:=byte_ne h6
               have HN2:=Lib.hid (show localB T = localB (T.drop (m + 1)) by
                rw [HST.out,show okB c d = true by unfold okB;rw [hs,beq_eq_false_iff_ne.2 h6];simp,Bool.true_and])
               clear ha hs h6
               go_wp2_with (first
                |(go_at_call 110;(with_reducible refine (HAN.out _).mono ?_);rintro e w3 ⟨rfl,rfl⟩)
                |(go_at_call 111;(with_reducible refine (HSN.out _).mono ?_);rintro e w4 ⟨rfl,rfl⟩))
               go_roundw
               case rel => exact ⟨m + 1,by omega,by go_num,HN2.out,by first | exact trivial | rfl⟩
               case measure => simp [intOf];omega
           ·have em:m = k:=by omega
            subst em
            have hd:decide ((m:Int) < (m:Int)) = false:=by simp
            have HE:=Lib.hid (HY.out (by rw [hal,List.drop_eq_nil_of_le (by rw [HT.out,List.length_take];omega)];rfl))
            clear hal
            go_wp2_with fail
            go_region
            go_wp2_with fail
            exact bodyPost_ret (results_tmp3 rfl _ _ _) rfl ⟨by rw [HE.out];rfl,Below.drawn HB2.out _⟩
    ·have ekl:k = L.length:=by omega
     have HE:=Lib.hid (partsR_no (mail_no (L:=L) (by rw [← HKE.out];exact ekl)))
     have hd:decide ((k:Int) < (L.length:Int)) = false:=decide_eq_false (by omega)
     have deq:((k:Int) == (L.length:Int)) = true:=by rw [ekl];simp
     by_cases h1:k < 1
     ·have dl:decide ((k:Int) < 1) = true:=decide_eq_true (by omega)
      clear ekl
      go_wp2_with fail
      exact bodyPost_ret (results_tmp3 rfl _ _ _) rfl ⟨by rw [HE.out];rfl,Below.refl _ _⟩
     ·have dl:decide ((k:Int) < 1) = false:=decide_eq_false (by omega)
      by_cases h2:64 < k
      ·have dm:decide ((64:Int) < (k:Int)) = true:=decide_eq_true (by omega)
       clear ekl
       go_wp2_with fail
       exact bodyPost_ret (results_tmp3 rfl _ _ _) rfl ⟨by rw [HE.out];rfl,Below.refl _ _⟩
      ·have dm:decide ((64:Int) < (k:Int)) = false:=decide_eq_false (by omega)
       clear ekl
       go_wp2_with fail
       exact bodyPost_ret (results_tmp3 rfl _ _ _) rfl ⟨by rw [HE.out];rfl,Below.refl _ _⟩
end Go.Proofs.YtbpdenfiifcfcaaGreatDoor
