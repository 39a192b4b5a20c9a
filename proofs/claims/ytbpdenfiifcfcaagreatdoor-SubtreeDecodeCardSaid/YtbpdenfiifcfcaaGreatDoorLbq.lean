/-
  A general name that can be read: its cells, and what lies behind its name.
  What every card of this seat's laws over gname needs: how a slice of bytes is opened, how seven arguments are opened, and that the laws' functions only read what they are handed.
  A slice of numbers that can be read: its numbers lie at its address.
  What every card of this seat's laws over subtree needs: the tables that the rows list.
-/
import Derived.Test.YtbpdenfiifcfcaaGreatDoorLbf
import Derived.Test.YtbpdenfiifcfcaaGreatDoorLax
import Derived.Test.YtbpdenfiifcfcaaGreatDoorCards
import Derived.Test.YtbpdenfiifcfcaaGreatDoorTie
import Derived.Test.YtbpdenfiifcfcaaGreatDoorLas
import Derived.Test.YtbpdenfiifcfcaaGreatDoorLah
import Derived.ProofKit
import Derived.OpenShut
import Derived.Deep.DeepHandedRow
import Derived.Deep.DeepWitnessRowRef
import Derived.Lay
import Derived.Stop.LaidErr
import Derived.Test.YtbpdenfiifcfcaaGreatDoorLaf
import Derived.Test.YtbpdenfiifcfcaaGreatDoorLaa
import Derived.Lib.LaidIn
import Derived.ChangeSame
import Derived.Lib.LaidU8T
namespace Go.Proofs.YtbpdenfiifcfcaaGreatDoor
open Go.ChangeShapes Go.WideShapes Go.ChangeAt Go.RowKit Go.ChangeMaps Go.Deep
open Go.ChangeShapes Go.WideShapes Go.ChangeAt Go.RowKit Go.ChangeMaps
theorem own:ownKnob Tryz.prog.godebug = none:=by kernel_rfl
/-- What was handed in reads as it read,for a call that leaves old memory alone. -/
theorem below_trodAll {H:Type} {enc:TypeId × Value → H} {W W':World} (hb:Below W.heap.size W W') :
  ∀ (ts:List TypeId) (vs:List Value) (ds:List (DataW H)) (ps:List MemPlace),(∀ t ∈ ts,Tryz.prog.readableRec t = true ∧ t < Tryz.prog.types.size) → (∀ x ∈ ps,x.block < W.heap.size) →
   DataW.TrodAll enc Tryz.prog W 0 (fun _ => true) true ts vs ds ps → DataW.TrodAll enc Tryz.prog W' 0 (fun b => decide (b < W.heap.size)) true ts vs ds ps:=by
 intro ts
 induction ts with
 |nil => intro vs ds ps _ _ h;obtain ⟨rfl,rfl,rfl⟩:=trodAll_nil h;exact trodAll_mk0
 |cons t ts ih =>
  intro vs ds ps ht hp h
  obtain ⟨v,vs',d,ds',p,q,rfl,rfl,rfl,h1,h2⟩:=trodAll_cons h
  exact trodAll_cons_mk (Below.trod laidOut (ht t (by simp)).1 (ht t (by simp)).2 h1 hb (fun x hx => hp x (by simp [hx]))) (ih vs' ds' q (fun u hu => ht u (by simp [hu])) (fun x hx => hp x (by simp [hx])) h2)
open Go.ChangeShapes Go.WideShapes Go.ChangeAt Go.RowKit
set_option maxRecDepth 10000 in
theorem open_nums {H:Type} {enc:TypeId × Value → H} {W:World} {a0:Option Addr} {len cap:Nat} {d:DataW H} {p:List MemPlace}
  (h:DataW.Trod enc Tryz.prog W 0 (fun _ => true) true 30 (.slice a0 len cap) d p):∃ zs:List Int,len = zs.length ∧ ILies W a0 zs ∧ zs.length ≤ 9223372036854775807:=by
 obtain ⟨fuel,hf⟩:=h
 have cb:Tryz.prog.cellsOf 3 = 1:=by kernel_rfl
 rcases open_ints Tryz.underlying30 Tryz.underlying3 cb hf with ⟨hcs,_⟩ | ⟨a,len',cap',zs,hcs,_,hl,hcm,hz,_,hcell,_⟩
 ·simp [Value.cells] at hcs
  obtain ⟨rfl,rfl,rfl⟩:=hcs
  exact ⟨[],rfl,.inl rfl,by simp⟩
 ·simp [Value.cells] at hcs
  obtain ⟨rfl,rfl,rfl⟩:=hcs
  by_cases h0:len = 0
  ·subst h0
   exact ⟨[],rfl,.inl rfl,by simp⟩
  ·have hzl:len ≤ zs.length:=by rw [hz];simpa using hl
   obtain ⟨b,off,rfl,hc⟩:=ints_at hcell (by omega)
   have e:(zs.take len).length = len:=by rw [List.length_take];omega
   refine ⟨zs.take len,e.symm,.inr ⟨b,off,rfl,fun i hi => ?_⟩,by rw [e];unfold maxLen at hcm;omega⟩
   rw [e] at hi
   rw [hc i (by omega)]
   congr 2
   rw [List.getD_eq_getElem?_getD,List.getD_eq_getElem?_getD,List.getElem?_take_of_lt hi]
theorem first_data:(Rows.laid_unicode_utf8_first:DataW Unit) = Lib.firstData:=by kernel_rfl
theorem accept_data:(Rows.laid_unicode_utf8_acceptRanges:DataW Unit) = Lib.acceptData:=by kernel_rfl
/-- What the rows' list gives: the tables lie. -/
theorem tab_met {W:World} {L:List (String × DataW Unit)} (h:laidMet Tryz.prog L W) (h1:("unicode/utf8.first",Rows.laid_unicode_utf8_first) ∈ L) (h2:("unicode/utf8.acceptRanges",Rows.laid_unicode_utf8_acceptRanges) ∈ L):Tab W:=by
 rw [first_data] at h1
 rw [accept_data] at h2
 exact utf8Tabs_of_readsT (U8Types.of196 lays196) ⟨by kernel_rfl,by kernel_rfl,by kernel_rfl,by kernel_rfl,by kernel_rfl,by kernel_rfl,by kernel_rfl⟩ (Lib.laidMet.reads h h1) (Lib.laidMet.reads h h2)
theorem ints_str {P:Program} {w:World} {base:Nat} {sp:Nat → Bool} {held:Bool} {fuel:Nat} {t i s:TypeId} {f0 f1 f2:Field} {cs:List Value} {x y:Int} {z:List UInt8} {q:List MemPlace} (hu:P.underlying t = some (.struct #[f0,f1,f2])) (hi:P.underlying i = some (.int .i64)) (hs:P.underlying s = some .string)
  (t0:f0.type = i) (t1:f1.type = i) (t2:f2.type = s) (o0:f0.offset = 0) (o1:f1.offset = 1) (o2:f2.offset = 2) (c1:P.cellsOf i = 1) (c2:P.cellsOf s = 1) (c3:P.cellsOf t = 3) (h:DataW.trod (fun _:TypeId × Value => ()) P w base sp held fuel t cs = some (.agg [.lit (.int .i64 x),.lit (.int .i64 y),.lit (.string z)],q)) :
  cs = [.int .i64 x,.int .i64 y,.string (strOf z)]:=by
 obtain ⟨xs,k,e,hx,hl,hlen,hfd⟩:=DataW.trod_struct hu h
 have hlen3:xs.length = 3:=hlen
 have hs3:cs.length = 3:=hl.trans c3
 match xs,hlen3 with
 |[y0,y1,y2],_ =>
  match cs,hs3 with
  |[z0,z1,z2],_ =>
   have g0:DataW.trod _ P w base sp held k f0.type (([z0,z1,z2].drop f0.offset).take (P.cellsOf f0.type)) = some y0:=hfd 0 _ rfl
   have g1:DataW.trod _ P w base sp held k f1.type (([z0,z1,z2].drop f1.offset).take (P.cellsOf f1.type)) = some y1:=hfd 1 _ rfl
   have g2:DataW.trod _ P w base sp held k f2.type (([z0,z1,z2].drop f2.offset).take (P.cellsOf f2.type)) = some y2:=hfd 2 _ rfl
   rw [t0,o0,c1] at g0
   rw [t1,o1,c1] at g1
   rw [t2,o2,c2] at g2
   obtain ⟨a0,e0,x0,_⟩:=DataW.trod_int hi g0
   obtain ⟨a1,e1,x1,_⟩:=DataW.trod_int hi g1
   obtain ⟨a2,e2,x2,_⟩:=DataW.trod_string hs g2
   have r0:z0 = .int .i64 a0:=by simpa using e0
   have r1:z1 = .int .i64 a1:=by simpa using e1
   have r2:z2 = .string a2:=by simpa using e2
   have ex:=congrArg Prod.fst hx
   rw [x0,x1,x2] at ex
   simp at ex
   obtain ⟨h0,h1,h2⟩:=ex
   rw [r0,r1,r2,h0,h1,strOf_of (b:=a2) (l:=z) h2.symm]
theorem kd_reads {W:World} (h:Lib.VarReads Tryz.prog W "certpath/gname.kinds" Rows.laid_certpath_gname_kinds):KdT W:=by
 obtain ⟨g,t,cs,fuel,p,hg,hty,hvar,hd⟩:=h
 obtain rfl:0 = g:=Option.some.inj ((show Tryz.prog.globalNamed "certpath/gname.kinds" = some 0 by kernel_rfl).symm.trans hg)
 obtain rfl:144 = t:=Option.some.inj ((show (Tryz.prog.globals[0]?).map (·.type) = some 144 by kernel_rfl).symm.trans hty)
 have c1:Tryz.prog.cellsOf 3 = 1:=by kernel_rfl
 have c2:Tryz.prog.cellsOf 9 = 1:=by kernel_rfl
 have c3:Tryz.prog.cellsOf 143 = 3:=by kernel_rfl
 unfold Rows.laid_certpath_gname_kinds at hd
 have key:∀ i (hi:i < 4) (x y:Int) (z:List UInt8),([(1,129,[109,97,105,108,58]),(2,130,[100,110,115,58]),(4,164,[100,105,114,58]),(7,135,[105,112,58])]:List (Int × Int × List UInt8))[i]? = some (x,y,z) → cs[i * 3]? = some (.int .i64 x) ∧ cs[i * 3 + 1]? = some (.int .i64 y) ∧ cs[i * 3 + 2]? = some (.string (strOf z)):=by
  intro i hi x y z hxy
  obtain ⟨fuel',d,q,hdi,he⟩:=Lib.array_elem Tryz.underlying144 hd i hi
  have hd2:d = .agg [.lit (.int .i64 x),.lit (.int .i64 y),.lit (.string z)]:=by
   rcases (by omega:i = 0 ∨ i = 1 ∨ i = 2 ∨ i = 3) with rfl | rfl | rfl | rfl <;> (simp at hxy hdi;obtain ⟨rfl,rfl,rfl⟩:=hxy;exact hdi.symm)
  subst hd2
  rw [c3] at he
  have hcs:=ints_str Tryz.underlying143 Tryz.underlying3 Tryz.underlying9 rfl rfl rfl rfl rfl rfl c1 c2 c3 he
  have e0:=congrArg (·[0]?) hcs
  have e1:=congrArg (·[1]?) hcs
  have e2:=congrArg (·[2]?) hcs
  simp only [List.getElem?_take,List.getElem?_drop] at e0 e1 e2
  exact ⟨by rw [← Array.getElem?_toList];simpa using e0,by rw [← Array.getElem?_toList];simpa using e1,by rw [← Array.getElem?_toList];simpa using e2⟩
 intro j hj
 rw [World.var?_cell hg hvar j]
 rcases (by omega:j = 0 ∨ j = 1 ∨ j = 2 ∨ j = 3 ∨ j = 4 ∨ j = 5 ∨ j = 6 ∨ j = 7 ∨ j = 8 ∨ j = 9 ∨ j = 10 ∨ j = 11) with rfl | rfl | rfl | rfl | rfl | rfl | rfl | rfl | rfl | rfl | rfl | rfl
 ·exact (key 0 (by omega) _ _ _ rfl).1
 ·exact (key 0 (by omega) _ _ _ rfl).2.1
 ·exact (key 0 (by omega) _ _ _ rfl).2.2
 ·exact (key 1 (by omega) _ _ _ rfl).1
 ·exact (key 1 (by omega) _ _ _ rfl).2.1
 ·exact (key 1 (by omega) _ _ _ rfl).2.2
 ·exact (key 2 (by omega) _ _ _ rfl).1
 ·exact (key 2 (by omega) _ _ _ rfl).2.1
 ·exact (key 2 (by omega) _ _ _ rfl).2.2
 ·exact (key 3 (by omega) _ _ _ rfl).1
 ·exact (key 3 (by omega) _ _ _ rfl).2.1
 ·exact (key 3 (by omega) _ _ _ rfl).2.2
theorem kd_met {W:World} {L:List (String × DataW Unit)} (h:laidMet Tryz.prog L W) (h1:("certpath/gname.kinds",Rows.laid_certpath_gname_kinds) ∈ L):KdT W:=kd_reads (Lib.laidMet.reads h h1)
theorem pow10_laid {x y:String × DataW Unit} {rest:List (String × DataW Unit)} {W:World} (h:laidMet Tryz.prog (x :: y :: ("internal/strconv.uint64pow10",Lib.tabData .u64 Lib.pow10Tab) :: rest) W):Pow10 W :=
 Lib.tabBelow_of_tabIs (Lib.tabIs_of_head (g:=7) (t:=265) (e:=234) (n:=20) (by kernel_rfl) (by kernel_rfl) Tryz.underlying265 Tryz.underlying234 (by kernel_rfl) (by kernel_rfl) h.tail.tail)
theorem pow10_data:(Rows.laid_internal_strconv_uint64pow10:DataW Unit) = Lib.tabData .u64 Lib.pow10Tab:=by kernel_rfl
abbrev laidD:List (String × DataW Unit):=[("math/bits.deBruijn32tab",Rows.laid_math_bits_deBruijn32tab),("math/bits.deBruijn64tab",Rows.laid_math_bits_deBruijn64tab),("internal/strconv.uint64pow10",Rows.laid_internal_strconv_uint64pow10),("unicode/utf8.acceptRanges",Rows.laid_unicode_utf8_acceptRanges),("unicode.asciiFold",Rows.laid_unicode_asciiFold),("unicode.caseOrbit",Rows.laid_unicode_caseOrbit),("certpath/gname.kinds",Rows.laid_certpath_gname_kinds),("unicode.CaseRanges",Rows.laid_unicode_CaseRanges),("unicode/utf8.first",Rows.laid_unicode_utf8_first)]
theorem metD {W:World} (h:laidMetH Tryz.prog laidD W):Tab W ∧ KdT W ∧ Pow10 W:=by
 rw [MakeChecks.laidMetH_plain _ _ _ (by kernel_rfl)] at h
 have h':laidMet Tryz.prog laidD W:=h
 have h2:laidMet Tryz.prog (("math/bits.deBruijn32tab",Rows.laid_math_bits_deBruijn32tab) :: ("math/bits.deBruijn64tab",Rows.laid_math_bits_deBruijn64tab) :: ("internal/strconv.uint64pow10",Rows.laid_internal_strconv_uint64pow10) :: [("unicode/utf8.acceptRanges",Rows.laid_unicode_utf8_acceptRanges),("unicode.asciiFold",Rows.laid_unicode_asciiFold),("unicode.caseOrbit",Rows.laid_unicode_caseOrbit),("certpath/gname.kinds",Rows.laid_certpath_gname_kinds),("unicode.CaseRanges",Rows.laid_unicode_CaseRanges),("unicode/utf8.first",Rows.laid_unicode_utf8_first)]) W:=h
 rw [pow10_data] at h2
 have hP:Pow10 W:=pow10_laid h2
 exact ⟨tab_met h' (.tail _ (.tail _ (.tail _ (.tail _ (.tail _ (.tail _ (.tail _ (.tail _ (.head _))))))))) (.tail _ (.tail _ (.tail _ (.head _)))),kd_met h' (.tail _ (.tail _ (.tail _ (.tail _ (.tail _ (.tail _ (.head _))))))),hP⟩
end Go.Proofs.YtbpdenfiifcfcaaGreatDoor
