/-
  The contract of the reference's EncodeOID: the contents of the object identifier that the text is, if it is one.
  The contracts of slices.Clone, slices.Sort, strings.Join and strings.Compare at strings: the library's theorems, laid at the program's own numbers. Nothing is claimed of the program beyond its bodies.
  The contract of tlv.Order: the strings in ascending order, one after the other; nothing that was there before the call has changed.
  The contracts of tlv.Ascending and of the reference's Ascending: whether no element's Raw is less than the one before it.
-/
import Derived.Test.YtbpdenfiifcfcaaGreatDoorLan
import Derived.Test.YtbpdenfiifcfcaaGreatDoorLaa
import Derived.Shelf.Strings.Builder1
import Derived.Shelf.Strings.Builder2
import Derived.Shelf.Strings.OnBuilder
import Derived.Shelf.Small.Strs
import Derived.Shelf.Sort.Plain
import Derived.Ground.Names2Prog
import Derived.Shelf.Slices.Clone
import Derived.Shelf.Slices.In.SortNone
import Derived.Sort.OwnSorted
import Derived.Test.YtbpdenfiifcfcaaGreatDoorChecked
import Derived.Test.YtbpdenfiifcfcaaGreatDoorLal
import Derived.Lib.Join
import Derived.Test.YtbpdenfiifcfcaaGreatDoorLao
namespace Go.Proofs.YtbpdenfiifcfcaaGreatDoor
open Go.RowKit
set_option maxRecDepth 100000 in
set_option maxHeartbeats 1000000 in
theorem renc_no {s:ByteArray} (h:∀ a,¬ Oid s.data.toList a) (w:World) (hs:s.size ≤ 1099511627) :
  Calls Tryz.prog 149 #[.string s] w fun e w' => e = .returned noVal ∧ Below w.heap.size w w':=by
 have HH:=Lib.hid h
 clear h
 go_enter Tryz.func149,Tryz.ntmps149
 go_wp2_with (go_at_call 134;(with_reducible refine (rarcs_no HH.out _ hs).mono ?_);rintro e w1 ⟨rfl,hb1⟩;have HB1:=Lib.hid hb1;clear hb1)
 go_ret2
 exact ⟨rfl,HB1.out⟩
theorem int_new (w:World) (m:Nat):(w.alloc (.cells #[.int .i64 (m:Int)] 3)).ownsRow w.heap.size 3 1 (.slice (some ⟨w.heap.size,0,none⟩) 1 1) 1 [icell m] :=
 ⟨rfl,.inr ⟨w.heap.size,1,_,rfl,Nat.le_refl _,heap_alloc_new w _,Nat.le_refl _,by decide,rfl,rfl⟩⟩
theorem news_tail {w w':World} {g x y:Nat} {r:List Nat} (h:ILie w g (x :: y :: r)) (hb:Below w.heap.size w w') (o:Nat) (ho:r.length ≠ 0 → o = 2) :
  ∀ j u,(r.map icell)[j]? = some u → w'.cell? ((⟨g,o,none⟩:Addr).add j) = some u:=fun j u hu => by
 have hj:j < r.length:=by
  have:=(List.getElem?_eq_some_iff.1 hu).1
  simpa using this
 have hadd:(⟨g,o,none⟩:Addr).add j = ⟨g,o + j,none⟩:=by unfold Addr.add;split <;> simp_all
 have e:=h.tail j hj
 rw [hadd,ho (by omega),← hu,List.getElem?_map,hb.cell (p:=⟨g,2 + j,none⟩) h.1,e,List.getD_eq_getElem?_getD,List.getElem?_eq_getElem hj]
 rfl
theorem nums_row {w1 w2:World} {v2:Value} {m:Nat} {r:List Nat} {n:Nat} (hn:n = r.length + 1) (h:w2.ownsRow w1.heap.size 3 1 v2 n ([icell m] ++ r.map icell)):OwnI w2 w1.heap.size v2 (m :: r):=by
 subst hn
 unfold OwnI
 rw [List.length_cons,List.map_cons];exact h
/-- 128 added to all digits but the last one. -/
def mark:List UInt8 → List UInt8
 |[] => []
 |[x] => [x]
 |x :: y :: r => UInt8.ofNat (128 + x.toNat) :: mark (y :: r)
def marked (E:List UInt8) (i:Nat):List UInt8:=(E.take i).map (fun x => UInt8.ofNat (128 + x.toNat)) ++ E.drop i
theorem marked_zero (E:List UInt8):marked E 0 = E:=by simp [marked]
theorem marked_len (E:List UInt8) (i:Nat):(marked E i).length = E.length:=by simp [marked];omega
theorem marked_get (E:List UInt8) (i:Nat) (h:i < E.length):(marked E i).getD i 0 = E.getD i 0:=by
 unfold marked
 rw [List.getD_eq_getElem?_getD,List.getElem?_append_right (by simp;omega)]
 simp [Nat.min_eq_left (Nat.le_of_lt h)]
theorem marked_set (E:List UInt8) (i:Nat) (h:i < E.length) (y:UInt8) (hy:y = UInt8.ofNat (128 + (E.getD i 0).toNat)):(marked E i).set i y = marked E (i + 1):=by
 unfold marked
 have e1:E.drop i = E.getD i 0 :: E.drop (i + 1):=by
  rw [List.drop_eq_getElem_cons h,List.getD_eq_getElem?_getD,List.getElem?_eq_getElem h];rfl
 have e2:E.take (i + 1) = E.take i ++ [E.getD i 0]:=by
  rw [List.take_add_one,List.getElem?_eq_getElem h,List.getD_eq_getElem?_getD,List.getElem?_eq_getElem h];rfl
 rw [e1,e2,List.set_append_right _ _ (by simp;omega)]
 simp [Nat.min_eq_left (Nat.le_of_lt h),hy]
theorem mark_len:∀ E:List UInt8,(mark E).length = E.length
 |[] => rfl
 |[x] => rfl
 |x :: y :: r => by rw [mark,List.length_cons,mark_len (y :: r)];rfl
theorem mark_marked:∀ E:List UInt8,E ≠ [] → mark E = marked E (E.length - 1)
 |[],h => absurd rfl h
 |[x],_ => rfl
 |x :: y :: r,_ => by
  rw [mark,mark_marked (y :: r) (by simp)]
  simp [marked]
theorem mark_cons (x:UInt8) (E:List UInt8) (h:E ≠ []):mark (x :: E) = UInt8.ofNat (128 + x.toNat) :: mark E:=by
 cases E with
 |nil => exact absurd rfl h
 |cons y r => rfl
theorem byte_new (w:World) (y:UInt8):OwnB 5 (w.alloc (.cells #[.int .u8 ((y.toNat:Nat):Int)] 5)) w.heap.size (.slice (some ⟨w.heap.size,0,none⟩) 1 1) [y] :=
 ⟨rfl,.inr ⟨w.heap.size,1,_,rfl,Nat.le_refl _,heap_alloc_new w _,Nat.le_refl _,by decide,rfl,rfl⟩⟩
theorem OwnB.open {w:World} {B:Nat} {v:Value} {l:List UInt8} (h:OwnB 5 w B v l) (hl:l ≠ []):∃ g cap,v = .slice (some ⟨g,0,none⟩) l.length cap ∧ B ≤ g ∧ g < w.heap.size ∧ l.length ≤ cap:=by
 rcases h.2 with ⟨rfl,h0⟩ | ⟨g,cap,cur,rfl,hB,hg,hn,_,_,_⟩
 ·exact absurd (List.eq_nil_of_length_eq_zero h0) hl
 ·exact ⟨g,cap,rfl,hB,(Array.getElem?_eq_some_iff.1 hg).1,hn⟩
theorem OwnB.news {w w':World} {B g n cap:Nat} {l:List UInt8} (h:OwnB 5 w B (.slice (some ⟨g,0,none⟩) n cap) l) (hb:Below w.heap.size w w'):∀ j u,(l.map bcell)[j]? = some u → w'.cell? ((⟨g,0,none⟩:Addr).add j) = some u:=fun j u hu => by
 rw [← World.ownsRow.cells h rfl j u hu]
 exact hb.cell (p:=(⟨g,0,none⟩:Addr).add j) (by
  have:((⟨g,0,none⟩:Addr).add j).block = g:=by unfold Addr.add;split <;> rfl
  rw [this];exact (World.ownsRow.lt h g rfl).2)
set_option maxRecDepth 100000 in
set_option maxHeartbeats 2000000 in
theorem renc_yes {s:ByteArray} {a:List Nat} (h:Oid s.data.toList a) (w:World) (hs:s.size ≤ 1099511627) :
  Calls Tryz.prog 149 #[.string s] w fun e w' => e = .returned (encVal a) ∧ Below w.heap.size w w':=by
 obtain ⟨i0,hi,hz0,hz1,hz2⟩:=info_parts intInfo
 have HH:=Lib.hid h
 have hg:=h.1
 obtain ⟨x,y,r,rfl⟩:∃ x y r,a = x :: y :: r:=by
  match a,hg.1 with
  |x :: y :: r,_ => exact ⟨x,y,r,rfl⟩
 have hx:x ≤ 2:=by simpa using hg.2.2.2.1
 have hy:y ≤ 2147483647:=hg.2.2.1 y (by simp)
 have HR:=Lib.hid (fun v (hv:v ∈ r) => hg.2.2.1 v (by simp [hv]))
 have hrl:r.length ≤ 10:=by have:=hg.2.1;simp at this;omega
 obtain ⟨m,hm⟩:∃ m,m = 40 * x + y:=⟨_,rfl⟩
 have hwr:IntKind.i64.wrap (40 * (x:Int) + (y:Int)) = (m:Int):=by rw [wrap_i64];omega
 have hwr2:IntKind.i64.wrap (40 * (x:Int)) = 40 * (x:Int):=by rw [wrap_i64];omega
 have hmb:m < 34359738368:=by omega
 have HM:=Lib.hid hm
 have HNN:=Lib.hid (show ∀ v ∈ m :: r,v < 34359738368 from fun v hv => by
   rcases List.mem_cons.1 hv with rfl | hv
   ·exact hmb
   ·exact Nat.lt_of_le_of_lt (HR.out v hv) (by decide))
 have hNl:(m :: r).length ≤ 11:=by simp;omega
 have hNe:m :: r ≠ []:=by simp
 have HEN:=Lib.hid (show enc (x :: y :: r) = cat e128 (m :: r) by rw [HM.out];rfl)
 obtain ⟨N,hN⟩:∃ N,N = m :: r:=⟨_,rfl⟩
 rw [← hN] at HNN hNl hNe HEN
 have HNE:=Lib.hid hNe
 have HN0:=Lib.hid hN
 clear h hg hm hN hNe
 go_enter Tryz.func149,Tryz.ntmps149
 go_upto_region 4 with (go_at_call 134;(with_reducible refine (rarcs_yes HH.out _ hs).mono ?_);rintro e w1 ⟨⟨g,cap,rfl,hl,hg,hcp⟩,hb1⟩;have HB1:=Lib.hid hb1;have HL1:=Lib.hid hl;have hc0:=hl.cell 0 (by simp);have hc1:=hl.cell 1 (by simp);clear hb1 hl hg)
 simp only [List.length_cons] at hcp
 simp only [List.getD_cons_zero,List.getD_cons_succ] at hc0 hc1
 by_cases hr0:r.length = 0
 all_goals by_cases hc2:cap = 2
 all_goals first
 |(exfalso;omega)
 |(obtain rfl:=List.eq_nil_of_length_eq_zero hr0
   have HO2:=Lib.hid (show OwnI _ w1.heap.size _ N by rw [HN0.out];exact nums_row (w1:=w1) (m:=m) (r:=[]) rfl ((int_new w1 m).drew))
   have HB2:=Lib.hid ((belowNew w1 (.cells #[.int .i64 (m:Int)] 3)).drew)
   try subst hc2
   simp only [List.length_nil,Nat.zero_add,Nat.reduceAdd] at hcp ⊢
   go_region
   generalize Value.slice (some ⟨w1.heap.size,0,none⟩) 1 1 = v2 at HO2 ⊢
   generalize (w1.alloc (Obj.cells #[Value.int IntKind.i64 (m:Int)] 3)).drew = w2 at HO2 HB2 ⊢)
 |(have hc3:¬ (2 = cap):=by omega
   have p0:0 < (r.length:Int) + 1 + 1:=by omega
   have p1:1 < (r.length:Int) + 1 + 1:=by omega
   have p2:2 ≤ (r.length:Int) + 1 + 1:=by omega
   have p3:(r.length:Int) + 1 + 1 ≤ (cap:Int):=by omega
   go_region_law (refine step_append_own rfl (.tmp 26) (.tmp 28) 30 rfl w1.heap.size 3 i0 (.int .i64 0) 8 Tryz.underlying30 hi hz0 hz1 hz2 rfl _ 1 [icell m] (by simp [Act.eval]) ((int_new w1 m).drew) ⟨g,2,none⟩ r.length (cap - 2) (r.map icell) (by simp [Act.eval]) (by simp) (news_tail HL1.out ((belowNew w1 _).drew) 2 (fun _ => rfl)) (icells_one r) (by unfold maxLen;omega) (by omega) (by simp) ?_;intro v2 w2 ho2 hg2 _;have HO2:=Lib.hid (show OwnI w2 w1.heap.size v2 N by rw [HN0.out];exact nums_row (by omega) ho2);have HB2:=Lib.hid (((belowNew w1 (.cells #[.int .i64 (m:Int)] 3)).drew).grown hg2 (by simp) (fun k e => by cases e;exact Nat.le_refl _));clear ho2 hg2))
 all_goals
  clear hwr hwr2 hc0 hc1
  obtain ⟨q,c2,rfl,hq,hli,hcq⟩:=HO2.out.open HNE.out
  have HLI:=Lib.hid hli
  clear hq hli hcq
  obtain ⟨ib,hib,hbz0,hbz1,hbz2⟩:=info_parts byteInfo
  go_wp2_with fail
  go_loopw [6,32] (fun u i wr => ∃ (k:Nat) (D:List UInt8),k ≤ N.length ∧ i = .int .i64 (k:Int) ∧ D = cat e128 (N.take k) ∧ OwnB 5 wr w2.heap.size u D ∧ Below w2.heap.size w2 wr) (fun _ i _ => N.length - (intOf i).toNat)
  case atStart => exact ⟨0,[],by omega,rfl,by simp [cat],own_nil _ _ _,Below.refl _ _⟩
  case round =>
   obtain ⟨k,D,hk,rfl,hD,ho,hb⟩:=hrel
   have HO:=Lib.hid ho
   have HB:=Lib.hid hb
   have HD:=Lib.hid hD
   have hDl:D.length ≤ 60:=by
    rw [hD]
    exact Nat.le_trans (e128_len5 (fun v hv => HNN.out v (List.mem_of_mem_take hv))) (by simp;omega)
   have hszb:=hb.size
   clear ho hb hD
   by_cases hlt:k < N.length
   ·have hd:decide ((k:Int) < (N.length:Int)) = true:=by simp;omega
    have hcx:=(HLI.out.below HB.out).cell k hlt
    have hzm:N.getD k 0 < 34359738368:=by
     rw [List.getD_eq_getElem?_getD,List.getElem?_eq_getElem hlt]
     exact HNN.out _ (List.getElem_mem _)
    have HN:=Lib.hid (show N.take (k + 1) = N.take k ++ [N.getD k 0] by
     rw [List.take_add_one,List.getElem?_eq_getElem hlt,List.getD_eq_getElem?_getD,List.getElem?_eq_getElem hlt];rfl)
    generalize N.getD k 0 = z at hcx hzm HN
    go_wp2_with fail
    clear hcx hd
    obtain ⟨wo,rfl⟩:∃ wo,wo = wr:=⟨wr,rfl⟩
    go_loopw [8,9] (fun u v wx => ∃ (n:Nat) (E:List UInt8),u = .int .i64 (n:Int) ∧ n < 34359738368 ∧ OwnB 5 wx wo.heap.size v E ∧ Below wo.heap.size wo wx ∧ (E = [] ∧ n = z ∧ v = .slice none 0 0 ∨ E ≠ [] ∧ n ≠ 0 ∧ e128 z = hd7 n ++ mark E)) (fun u _ _ => (intOf u).toNat)
    case atStart => exact ⟨z,[],rfl,hzm,own_nil _ _ _,Below.refl _ _,.inl ⟨rfl,rfl,rfl⟩⟩
    case round =>
     obtain ⟨n,E,rfl,hn,ho2,hb2,hE⟩:=hrel
     have HOE:=Lib.hid ho2
     have HBE:=Lib.hid hb2
     have hEl:E.length ≤ 5:=by
      rcases hE with ⟨rfl,_⟩ | ⟨_,_,e⟩
      ·simp
      ·have h1:=e128_len z hzm
       rw [e,List.length_append,mark_len] at h1
       omega
     have hszx:=hb2.size
     clear ho2 hb2
     obtain ⟨y0,hy0⟩:∃ y0:UInt8,y0 = UInt8.ofNat (n % 128):=⟨_,rfl⟩
     have hy0n:y0.toNat = n % 128:=by rw [hy0];simp;omega
     have hyi:(n:Int) % 128 = ((y0.toNat:Nat):Int):=by rw [hy0n];omega
     obtain ⟨nq,hnq⟩:∃ nq,nq = n / 128:=⟨_,rfl⟩
     have hqi:(n:Int) / 128 = (nq:Int):=by rw [hnq];omega
     have HNX:=Lib.hid (show e128 z = hd7 nq ++ mark (y0 :: E) by
      rcases hE with ⟨rfl,rfl,_⟩ | ⟨h1,h2,h3⟩
      ·rw [e128,hnq,hy0];rfl
      ·rw [h3,hd7_pos h2,mark_cons _ _ h1,hy0n,hnq];simp)
     have HLT:=Lib.hid (show nq ≠ 0 → nq < n by omega)
     have HQB:=Lib.hid (show nq < 34359738368 by omega)
     clear hy0 hy0n hnq
     have HBN:=Lib.hid (show OwnB 5 (wr.alloc (.cells #[.int .u8 ((y0.toNat:Nat):Int)] 5)) wo.heap.size (.slice (some ⟨wr.heap.size,0,none⟩) 1 1) [y0] from own_base (byte_new wr y0) hszx)
     have HBW:=Lib.hid (show Below wo.heap.size wo (wr.alloc (.cells #[.int .u8 ((y0.toNat:Nat):Int)] 5)) from HBE.out.alloc hszx _)
     have hor:(E = [] ∧ u9 = .slice none 0 0) ∨ E ≠ []:=by
      rcases hE with ⟨h1,_,h2⟩ | ⟨h1,_⟩
      ·exact .inl ⟨h1,h2⟩
      ·exact .inr h1
     clear hE
     by_cases hq0:nq = 0
     ·have dq:((nq:Int) == 0) = true:=by rw [hq0];rfl
      have HFIN:=Lib.hid (show e128 z = mark (y0 :: E) by have:=HNX.out;rw [hq0,hd7_zero] at this;exact this)
      clear hq0
      obtain ⟨E5,hE5⟩:∃ E5,E5 = y0 :: E:=⟨_,rfl⟩
      have HY5:=Lib.hid (show E5 ≠ [] by rw [hE5];simp)
      rw [← hE5] at HFIN
      have hE6:E5.length ≤ 6:=by rw [hE5];simp;omega
      have HE5:=Lib.hid hE5
      clear hE5
      rcases hor with ⟨rfl,rfl⟩ | hne
      all_goals first
      |(have HO5:=Lib.hid (show OwnB 5 _ wo.heap.size _ E5 by rw [HE5.out];exact HBN.out)
        have HB5:=HBW
        clear HBN HBW
        go_wp2_with fail
        generalize Value.slice (some ⟨wr.heap.size,0,none⟩) 1 1 = v5 at HO5 ⊢
        generalize wr.alloc (Obj.cells #[Value.int IntKind.u8 ((y0.toNat:Nat):Int)] 5) = w5 at HO5 HB5 ⊢)
      |(obtain ⟨h,c3,rfl,hh1,hh2,hh3⟩:=HOE.out.open hne
        go_wp2_with (at_builtin;(refine wpList_append_own _ rfl (.tmp 39) (.tmp 40) 65 rfl wo.heap.size 5 ib (.int .u8 0) 1 1 Tryz.underlying65 hib hbz0 hbz1 hbz2 rfl (by decide) _ 1 [bcell y0] rfl HBN.out ⟨h,0,none⟩ E.length c3 (E.map bcell) rfl (by simp) (HOE.out.news (belowNew _ _)) (bcells_one E) (by unfold maxLen;omega) (by omega) (by simp;omega) ?_);intro v5 w5 ho5 hg5 _;have HO5:=Lib.hid (show OwnB 5 w5 wo.heap.size v5 E5 by rw [HE5.out];unfold OwnB;rw [List.length_cons,Nat.add_comm];exact ho5);have HB5:=Lib.hid (HBW.out.grown hg5 (by simp;omega) (fun k e => by cases e;exact hszx));clear ho5 hg5))
      all_goals
       obtain ⟨h5,c5,rfl,hh4,hh5,hh6⟩:=HO5.out.open HY5.out
       have hl5:0 < E5.length:=List.length_pos_iff.2 HY5.out
       go_loopw [10] (fun i wy => ∃ j:Nat,i = .int .i64 (j:Int) ∧ j + 1 ≤ E5.length ∧ OwnB 5 wy wo.heap.size (.slice (some ⟨h5,0,none⟩) E5.length c5) (marked E5 j) ∧ Below wo.heap.size wo wy) (fun i _ => E5.length - (intOf i).toNat)
       case atStart => exact ⟨0,rfl,by omega,by rw [marked_zero];exact HO5.out,HB5.out⟩
       case round =>
        obtain ⟨j,rfl,hj,ho7,hb7⟩:=hrel
        have HO7:=Lib.hid ho7
        have HB7:=Lib.hid hb7
        by_cases hjl:j + 1 < E5.length
        ·have dj:decide ((j:Int) + 1 < (E5.length:Int)) = true:=by simp;omega
         have hcj:=own_cell ho7 (marked_len _ _) j (by omega)
         have hfj:=own_free ho7 (marked_len _ _) j
         rw [marked_get E5 j (by omega)] at hcj
         obtain ⟨y7,hy7⟩:∃ y7:UInt8,y7 = UInt8.ofNat (128 + (E5.getD j 0).toNat):=⟨_,rfl⟩
         have HS7:=Lib.hid (own_set ho7 (marked_len _ _) j y7)
         rw [marked_set E5 j (by omega) y7 hy7] at HS7
         have hadd:IntKind.u8.wrap (((E5.getD j 0).toNat:Int) + 128) = ((y7.toNat:Nat):Int):=by
          rw [hy7]
          simp [IntKind.wrap,IntKind.bits,IntKind.signed]
          omega
         generalize (E5.getD j 0).toNat = x7 at hcj hadd
         clear ho7 hb7 hy7
         go_wp2_with fail
         go_roundw
         case rel => exact ⟨j + 1,by go_num,by omega,HS7.out,HB7.out.setCell hh4 _⟩
         case measure => simp [intOf];omega
        ·have dj:decide ((j:Int) + 1 < (E5.length:Int)) = false:=by simp;omega
         have HM5:=Lib.hid (show marked E5 j = e128 z by rw [HFIN.out,mark_marked E5 HY5.out];congr 1;omega)
         rw [HM5.out] at HO7
         have hzl:(e128 z).length = E5.length:=by rw [← HM5.out,marked_len]
         have HZL:=Lib.hid hzl
         have hE5:E5.length ≤ 5:=by rw [← hzl];exact e128_len z hzm
         have hszw:=hb7.size
         clear ho7 hb7 hzl
         go_wp2_with (at_builtin;(refine wpList_append_own _ rfl (.tmp 59) (.tmp 60) 65 rfl w2.heap.size 5 ib (.int .u8 0) 1 1 Tryz.underlying65 hib hbz0 hbz1 hbz2 rfl (by decide) _ D.length (D.map bcell) rfl (own_below HO.out HB7.out) ⟨h5,0,none⟩ E5.length c5 ((e128 z).map bcell) rfl (by simp;exact HZL.out) (HO7.out.news (Below.refl _ _)) (bcells_one _) (by unfold maxLen;omega) (by omega) (by omega) ?_);intro v8 w8 ho8 hg8 _;have HO8:=Lib.hid (show OwnB 5 w8 w2.heap.size v8 (D ++ e128 z) by unfold OwnB;rw [List.length_append,List.map_append,HZL.out];exact ho8);have HB8:=Lib.hid ((HB.out.trans (HB7.out.mono hszb)).grown hg8 (by omega) (fun k e => (World.ownsRow.lt HO.out k e).1));clear ho8 hg8)
         go_roundw
         case rel => exact ⟨k + 1,D ++ e128 z,by omega,by go_num,by rw [HD.out,HN.out,cat_append];simp [cat],HO8.out,HB8.out⟩
         case measure => simp [intOf];omega
     ·have dq:((nq:Int) == 0) = false:=beq_eq_false_iff_ne.2 (by omega)
      have HQ0:=Lib.hid hq0
      clear hq0
      rcases hor with ⟨rfl,rfl⟩ | hne
      ·go_wp2_with fail
       go_roundw
       case rel => exact ⟨nq,[y0],rfl,HQB.out,HBN.out,HBW.out,.inr ⟨by simp,HQ0.out,HNX.out⟩⟩
       case measure => simp [intOf];exact HLT.out HQ0.out
      ·obtain ⟨h,c3,rfl,hh1,hh2,hh3⟩:=HOE.out.open hne
       go_wp2_with (at_builtin;(refine wpList_append_own _ rfl (.tmp 39) (.tmp 40) 65 rfl wo.heap.size 5 ib (.int .u8 0) 1 1 Tryz.underlying65 hib hbz0 hbz1 hbz2 rfl (by decide) _ 1 [bcell y0] rfl HBN.out ⟨h,0,none⟩ E.length c3 (E.map bcell) rfl (by simp) (HOE.out.news (belowNew _ _)) (bcells_one E) (by unfold maxLen;omega) (by omega) (by simp;omega) ?_);intro v5 w5 ho5 hg5 _;have HO5:=Lib.hid (show OwnB 5 w5 wo.heap.size v5 (y0 :: E) by unfold OwnB;rw [List.length_cons,Nat.add_comm];exact ho5);have HB5:=Lib.hid (HBW.out.grown hg5 (by simp;omega) (fun k e => by cases e;exact hszx));clear ho5 hg5)
       go_roundw
       case rel => exact ⟨nq,y0 :: E,rfl,HQB.out,HO5.out,HB5.out,.inr ⟨by simp,HQ0.out,HNX.out⟩⟩
       case measure => simp [intOf];exact HLT.out HQ0.out
   ·obtain rfl:k = N.length:=by omega
    have hd:decide ((N.length:Int) < (N.length:Int)) = false:=by simp
    have hs2:=own_str HO.out
    go_wp2_with fail
    go_ret2
    refine ⟨?_,below_next (below_next HB1.out HB2.out) HB.out⟩
    have e:=HD.out
    rw [List.take_of_length_le (Nat.le_refl _),← HEN.out] at e
    rw [e];rfl
open Go.Shelf Go.RowKit
def lays106_ren:Go.Shelf.Ren:=⟨fun | 106 => 244 | 213 => 251 | 265 => 255 | n => n,fun | 9 => 9 | 3 => 3 | n => n,fun | n => n⟩
theorem lays106:Go.Proofs.Lays.n106 Tryz.prog lays106_ren:={
 mixed:=by kernel_rfl
 f106:=Tryz.func244.trans (congrArg some (by kernel_rfl))
 f213:=Tryz.func251.trans (congrArg some (by kernel_rfl))
 f265:=Tryz.func255.trans (congrArg some (by kernel_rfl))
 t3:=Tryz.underlying3
 a3:=Tryz.isAgg3
 z3:=Tryz.sizeOf3
 v3:=Tryz.zeroValue3
 t9:=Tryz.underlying9
 a9:=Tryz.isAgg9
 z9:=Tryz.sizeOf9
 v9:=Tryz.zeroValue9 }
theorem compare_any (a b:ByteArray) (w:World) :
  Calls Tryz.prog 244 #[.string a,.string b] w fun e w' => e = .returned (.int .i64 (Lib.compareBytes a.data.toList b.data.toList)) ∧ w' = w:=Any.strings_Compare lays106 a b w
/-- Byte strings in ascending order. -/
def ordL (L:List (List UInt8)):List (List UInt8):=L.mergeSort fun x y => decide (x ≤ y)
def lists (ss:List ByteArray):List (List UInt8):=ss.map fun s => s.data.toList
theorem flat_cat (ss:List ByteArray):(lists ss).flatten = cat_t ss:=by simp [lists,cat_t,List.flatMap]
theorem ordL_perm (L:List (List UInt8)):(ordL L).Perm L:=List.mergeSort_perm L _
theorem ordL_flat_length (L:List (List UInt8)):(ordL L).flatten.length = L.flatten.length:=by
 rw [List.length_flatten,List.length_flatten]
 exact ((ordL_perm L).map List.length).sum_nat
/-- The bytes of the i-th element. -/
def rawAt (l:List El) (i:Nat):List UInt8:=(l.getD i (0,⟨#[]⟩,⟨#[]⟩)).2.2.data.toList
theorem bl_iff:∀ x y:List UInt8,Op.bytesLess x y = true ↔ x < y
 |_,[] => by simp [Op.bytesLess]
 |[],_ :: _ => by simp [Op.bytesLess]
 |a :: x,b :: y => by
  rw [List.cons_lt_cons_iff,← bl_iff x y]
  simp [Op.bytesLess]
theorem cb_iff:∀ x y:List UInt8,Lib.compareBytes x y < 0 ↔ x < y
 |[],[] => by simp [Lib.compareBytes]
 |[],_ :: _ => by simp [Lib.compareBytes]
 |_ :: _,[] => by simp [Lib.compareBytes]
 |a :: x,b :: y => by
  rw [List.cons_lt_cons_iff,← cb_iff x y]
  rw [show Lib.compareBytes (a :: x) (b :: y) = if a < b then -1 else if b < a then 1 else Lib.compareBytes x y from rfl]
  by_cases h1:a < b
  ·simp [h1]
  ·by_cases h2:b < a
   ·rw [if_neg h1,if_pos h2]
    have:¬ a = b:=fun e => by rw [e] at h2;exact absurd h2 (UInt8.lt_irrefl b)
    simp [h1,this]
   ·rw [if_neg h1,if_neg h2]
    have:a = b:=UInt8.le_antisymm (UInt8.not_lt.1 h2) (UInt8.not_lt.1 h1)
    simp [this]
def ascP (l:List El) (n:Nat):Prop:=∀ i,1 ≤ i → i < n → ¬ rawAt l i < rawAt l (i - 1)
/-- At the address lie the elements l. -/
def EAt (w:World) (a:Option Addr) (l:List El):Prop:=∀ k (h:k < l.length),∃ g,a = some ⟨g,0,none⟩ ∧ ∀ j,j < 3 → w.cell? ⟨g,k * 3 + j,none⟩ = (elCells l[k])[j]?
theorem EAt.of {w:World} {B:Nat} {v:Value} {l:List El} (h:OwnE w B v l):∃ a c,v = .slice a l.length c ∧ EAt w a l:=by
 have h':=own_base_t h
 rcases h.2 with ⟨hv,h0⟩ | ⟨g,cap,cur,hv,_⟩
 ·exact ⟨none,0,by rw [hv,h0],fun k hk => by omega⟩
 ·rw [hv] at h'
  exact ⟨_,cap,hv,fun k hk => ⟨g,rfl,fun j hj => els_cell h' k hk j hj⟩⟩
theorem EAt.two {w wr:World} {a:Option Addr} {l:List El} (h:EAt w a l) (hb:Below w.heap.size w wr) (k:Nat) (hk1:1 ≤ k) (hk:k < l.length) :
  ∃ (g:Nat) (t c t' c':Value) (x y:ByteArray),a = some ⟨g,0,none⟩ ∧ wr.cell? ⟨g,k * 3,none⟩ = some t ∧ wr.cell? ⟨g,k * 3 + 1,none⟩ = some c ∧ wr.cell? ⟨g,k * 3 + 2,none⟩ = some (.string x) ∧
   wr.cell? ⟨g,(k - 1) * 3,none⟩ = some t' ∧ wr.cell? ⟨g,(k - 1) * 3 + 1,none⟩ = some c' ∧ wr.cell? ⟨g,(k - 1) * 3 + 2,none⟩ = some (.string y) ∧ rawAt l k = x.data.toList ∧ rawAt l (k - 1) = y.data.toList:=by
 obtain ⟨g,rfl,h1⟩:=h k hk
 obtain ⟨g',e,h2⟩:=h (k - 1) (by omega)
 obtain rfl:g = g':=by simpa using e
 have hg:g < w.heap.size:=block_lt_of_cell (a:=⟨g,k * 3 + 0,none⟩) (h1 0 (by omega))
 have o1:∀ j,j < 3 → wr.cell? ⟨g,k * 3 + j,none⟩ = (elCells l[k])[j]?:=fun j hj => (hb.cell (p:=⟨g,k * 3 + j,none⟩) hg).trans (h1 j hj)
 have o2:∀ j,j < 3 → wr.cell? ⟨g,(k - 1) * 3 + j,none⟩ = (elCells (l[k - 1]'(by omega)))[j]?:=fun j hj => (hb.cell (p:=⟨g,(k - 1) * 3 + j,none⟩) hg).trans (h2 j hj)
 exact ⟨g,_,_,_,_,_,_,rfl,o1 0 (by omega),o1 1 (by omega),o1 2 (by omega),o2 0 (by omega),o2 1 (by omega),o2 2 (by omega),
  by unfold rawAt;rw [List.getD_eq_getElem?_getD,List.getElem?_eq_getElem hk];rfl,by unfold rawAt;rw [List.getD_eq_getElem?_getD,List.getElem?_eq_getElem (by omega)];rfl⟩
set_option maxRecDepth 100000 in
set_option maxHeartbeats 1000000 in
theorem rasc_some (a:Option Addr) (c n:Nat) (l:List El) (w:World) (h:EAt w a l) (hn:n = l.length) (hL:n ≤ 1099511627776) :
  Calls Tryz.prog 116 #[.slice a n c] w fun e w' => (∃ b:Bool,e = .returned (.bool b) ∧ (b = true ↔ ascP l l.length)) ∧ Below w.heap.size w w':=by
 have H1:=Lib.hid h
 have HN:=Lib.hid hn
 clear h
 rw [← hn]
 clear hn
 go_enter Tryz.func116,Tryz.ntmps116
 go_wp2_with fail
 go_loopw [3] (fun i wr => ∃ k:Nat,1 ≤ k ∧ (k ≤ n ∨ k = 1) ∧ i = .int .i64 k ∧ ascP l k ∧ Below w.heap.size w wr) (fun i _ => n + 1 - (intOf i).toNat)
 case atStart => exact ⟨1,Nat.le_refl _,.inr rfl,rfl,fun i h1 h2 => by omega,Below.refl _ _⟩
 case round =>
  obtain ⟨k,hk1,hk,rfl,hA,hb⟩:=hrel
  have HB:=Lib.hid hb
  have HA:=Lib.hid hA
  clear hb hA
  by_cases hlt:k < n
  ·have hd:decide ((k:Int) < (n:Int)) = true:=by simp;omega
   obtain ⟨g,t,c1,t2,c2,x,y,rfl,a0,a1,a2,b0,b1,b2,hX,hY⟩:=H1.out.two HB.out k hk1 (by rw [← HN.out];exact hlt)
   have HX:=Lib.hid hX
   have HY:=Lib.hid hY
   clear hX hY
   by_cases hless:x.data.toList < y.data.toList
   ·have hbl:Op.bytesLess x.toList y.toList = true:=by rw [ByteArray.toList_eq,ByteArray.toList_eq];exact (bl_iff _ _).2 hless
    have HF:=Lib.hid (show ¬ ascP l n from fun hh => hh k hk1 hlt (by rw [HX.out,HY.out];exact hless))
    clear hless
    go_wp2_with fail
    go_region
    go_wp2_with fail
    go_ret
    exact ⟨⟨false,rfl,fun hh => absurd hh (by decide),fun hh => absurd hh HF.out⟩,HB.out.drew⟩
   ·have hbl:Op.bytesLess x.toList y.toList = false:=by
     rw [ByteArray.toList_eq,ByteArray.toList_eq,← Bool.not_eq_true,bl_iff];exact hless
    have HF:=Lib.hid (show ascP l (k + 1) from fun i h1 h2 => by
     by_cases e:i = k
     ·subst e;rw [HX.out,HY.out];exact hless
     ·exact HA.out i h1 (by omega))
    clear hless
    go_wp2_with fail
    go_region
    go_wp2_with fail
    go_roundw
    case rel => exact ⟨k + 1,by omega,.inl (by omega),by go_num,HF.out,HB.out.drew⟩
    case measure => simp [intOf];omega
  ·have hd:decide ((k:Int) < (n:Int)) = false:=by simp;omega
   have HF:=Lib.hid (show ascP l n from fun i h1 h2 => HA.out i h1 (by omega))
   go_wp2_with fail
   go_ret
   exact ⟨⟨true,rfl,fun _ => HF.out,fun _ => rfl⟩,HB.out⟩
set_option maxRecDepth 100000 in
theorem cmp_any_t (t c t2 c2:Value) (x y:ByteArray) (w:World) :
  Calls Tryz.prog 243 #[.agg #[t,c,.string x],.agg #[t2,c2,.string y]] w fun e w' => e = .returned (.int .i64 (Lib.compareBytes x.data.toList y.data.toList)) ∧ Below w.heap.size w w':=by
 go_enter Tryz.func243,Tryz.ntmps243
 go_wp2_with (go_at_call 244;(with_reducible refine (compare_any x y _).mono ?_);rintro e w1 ⟨rfl,rfl⟩)
 go_ret
 exact ⟨rfl,belowNew2 w _ _⟩
set_option maxRecDepth 100000 in
set_option maxHeartbeats 1000000 in
theorem sorted_any (a:Option Addr) (c n:Nat) (l:List El) (w:World) (h:EAt w a l) (hn:n = l.length) (hL:n ≤ 1099511627776) :
  Calls Tryz.prog 242 #[.slice a n c,.func (.func 243) #[] #[]] w fun e w' => (∃ b:Bool,e = .returned (.bool b) ∧ (b = true ↔ ascP l l.length)) ∧ Below w.heap.size w w':=by
 have H1:=Lib.hid h
 have HN:=Lib.hid hn
 clear h
 rw [← hn]
 clear hn
 go_enter Tryz.func242,Tryz.ntmps242
 go_wp2_with fail
 go_loopw [5] (fun i wr => ∃ k:Nat,k ≤ n ∧ i = .int .i64 ((k:Int) - 1) ∧ (∀ i,k ≤ i → 1 ≤ i → i < n → ¬ rawAt l i < rawAt l (i - 1)) ∧ Below w.heap.size w wr) (fun i _ => (intOf i + 1).toNat)
 case atStart => exact ⟨n,Nat.le_refl _,rfl,fun i h1 h2 h3 => by omega,Below.refl _ _⟩
 case round =>
  obtain ⟨k,hk,rfl,hA,hb⟩:=hrel
  have HB:=Lib.hid hb
  have HA:=Lib.hid hA
  clear hb hA
  by_cases hlt:1 < k
  ·obtain ⟨j,rfl⟩:∃ j,k = j + 1:=⟨k - 1,by omega⟩
   have ej:((j + 1:Nat):Int) - 1 = (j:Int):=by omega
   rw [ej]
   obtain ⟨g,t,c1,t2,c2,x,y,rfl,a0,a1,a2,b0,b1,b2,hX,hY⟩:=H1.out.two HB.out j (by omega) (by rw [← HN.out];omega)
   have HX:=Lib.hid hX
   have HY:=Lib.hid hY
   have hd:decide (0 < (j:Int)) = true:=by simp;omega
   have hjn:j < n:=by omega
   have hjw:IntKind.i64.wrap ((j:Int) - 1) = ((j - 1:Nat):Int):=by simp [IntKind.wrap,IntKind.bits,IntKind.signed];omega
   have hjm:j - 1 < n:=by omega
   clear hX hY ej
   obtain ⟨z,hz⟩:∃ z,z = Lib.compareBytes x.data.toList y.data.toList:=⟨_,rfl⟩
   have hci:=cb_iff x.data.toList y.data.toList
   rw [← hz] at hci
   have HZ:=Lib.hid hz
   clear hz
   by_cases hless:z < 0
   ·have dz:decide (z < 0) = true:=by simpa using hless
    have HF:=Lib.hid (show ¬ ascP l n from fun hh => hh j (by omega) hjn (by rw [HX.out,HY.out];exact hci.1 hless))
    clear hci hless
    go_wp2_with fail
    go_region_with (go_at_call 243;(with_reducible refine (cmp_any_t t c1 t2 c2 x y _).mono ?_);rw [← HZ.out];rintro e w1 ⟨rfl,hb1⟩;have HB1:=Lib.hid (below_next_t HB.out.drew hb1);clear hb1)
    all_goals
     go_wp2_with fail
     go_ret
     exact ⟨⟨false,rfl,fun hh => absurd hh (by decide),fun hh => absurd hh HF.out⟩,HB1.out⟩
   ·have dz:decide (z < 0) = false:=by simpa using hless
    have HF:=Lib.hid (show ∀ i,j ≤ i → 1 ≤ i → i < n → ¬ rawAt l i < rawAt l (i - 1) from fun i h1 h2 h3 => by
     by_cases e:i = j
     ·subst e;rw [HX.out,HY.out];exact fun hh => hless (hci.2 hh)
     ·exact HA.out i (by omega) h2 h3)
    clear hci hless
    go_wp2_with fail
    go_region_with (go_at_call 243;(with_reducible refine (cmp_any_t t c1 t2 c2 x y _).mono ?_);rw [← HZ.out];rintro e w1 ⟨rfl,hb1⟩;have HB1:=Lib.hid (below_next_t HB.out.drew hb1);clear hb1)
    all_goals
     go_wp2_with fail
     go_roundw
     case rel => exact ⟨j,by omega,by go_num,HF.out,HB1.out⟩
     case measure => simp [intOf];omega
  ·have hd:decide (0 < (k:Int) - 1) = false:=by simp;omega
   have HF:=Lib.hid (show ascP l n from fun i h1 h2 => HA.out i (by omega) h1 h2)
   go_wp2_with fail
   go_ret
   exact ⟨⟨true,rfl,fun _ => HF.out,fun _ => rfl⟩,HB.out⟩
set_option maxRecDepth 100000 in
theorem asc_some (a:Option Addr) (c n:Nat) (l:List El) (w:World) (h:EAt w a l) (hn:n = l.length) (hL:n ≤ 1099511627776) :
  Calls Tryz.prog 229 #[.slice a n c] w fun e w' => (∃ b:Bool,e = .returned (.bool b) ∧ (b = true ↔ ascP l l.length)) ∧ Below w.heap.size w w':=by
 have HS:=Lib.hid (sorted_any a c n l w h hn hL)
 clear h hn
 go_enter Tryz.func229,Tryz.ntmps229
 go_wp2_with (go_at_call 242;(with_reducible refine HS.out.mono ?_);rintro e w1 ⟨⟨b,rfl,hb⟩,hbb⟩;have HBB:=Lib.hid hb;have HW:=Lib.hid hbb;clear hb hbb)
 go_ret
 exact ⟨⟨b,rfl,HBB.out⟩,HW.out⟩
/-- Both,of a slice that the call has made. -/
theorem asc_any (B:Nat) (v:Value) (l:List El) (w:World) (h:OwnE w B v l) (hL:l.length ≤ 1099511627776) :
  Calls Tryz.prog 229 #[v] w fun e w' => (∃ b:Bool,e = .returned (.bool b) ∧ (b = true ↔ ascP l l.length)) ∧ Below w.heap.size w w':=by
 obtain ⟨a,c,rfl,hA⟩:=EAt.of h
 exact asc_some a c l.length l w hA rfl hL
theorem rasc_any (B:Nat) (v:Value) (l:List El) (w:World) (h:OwnE w B v l) (hL:l.length ≤ 1099511627776) :
  Calls Tryz.prog 116 #[v] w fun e w' => (∃ b:Bool,e = .returned (.bool b) ∧ (b = true ↔ ascP l l.length)) ∧ Below w.heap.size w w':=by
 obtain ⟨a,c,rfl,hA⟩:=EAt.of h
 exact rasc_some a c l.length l w hA rfl hL
end Go.Proofs.YtbpdenfiifcfcaaGreatDoor
