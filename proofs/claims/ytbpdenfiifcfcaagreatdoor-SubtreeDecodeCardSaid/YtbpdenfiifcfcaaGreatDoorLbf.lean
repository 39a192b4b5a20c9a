/-
  The contracts of the reference's nibble, Unhex and Hex: the string whose digits are the given ones, if there is one, and a string's digits; nothing that was there before the call has changed.
  The contracts of the program's hash.Hex and hash.Unhex.
  The contracts of gname's cutWord, parseRest, checkEither and Parse: the general name that a text denotes, or the error.
  The contracts of the reference's Escape and Unescape; nothing that was there before the call has changed.
  The contract of the reference's ParseName: the same name as Parse returns, or the same error.
  The contract of the reference's ParseGeneral: the same answer as that of gname's Parse.
  The contract of the reference's EncodeGeneral: the element of a general name.
  How long the encoding of a valid name is at most. Nothing is claimed of the program here.
  The contract of gname's Encode: the whole element of a general name, or the error of Check.
  The contract of the reference's EncodeList: the encodings of general names one after the other, or the first error.
  Slices of general names of a call's own: one that grows, and one that is made and filled.
  The contracts of gname's checkNumber, EncodeList and DecodeList.
  The contract of the reference's DecodeList.
  The contracts of the reference's ExactGenerals, for two rows of the same general names, and of the law's short.
  The contracts of the reference's SameGeneral, MatchGeneral and WithinGeneral.
  What the laws over gname want of the program's functions, each said as a proposition; and that the law's awake then returns true.
  The walk of the law GnameCheck: for every general name and every slice of ints it returns true, and leaves all that was there as it was.
  How long encodings of made general names are, and the reference's One. Nothing is claimed of the program here but what One returns.
  The contract of the reference's SameName at names whose relative names hold each other's attributes.
  The contract of the reference's SameGenerals, for two rows of general names that are equal apart from the order of attributes.
  General names that are the same are within the same bases: plain laws; and what the law GnameSame wants of the program's functions.
  Attributes in the order of their encodings: there is one such order. Nothing is claimed of the program here.
  The contracts of formatRelative's comparison and of slices.SortFunc over attributes, for at most twelve of them.
  The keys of names as texts: two valid names have the same key exactly if they match. Nothing is claimed of the program here.
  Names as texts: what is written is read, and the name that is read matches. Nothing is claimed of the program here.
  The contracts of assign, of Key's closure and of join of the program.
  The contract of join of the program, over whatever function answers for the relative names.
  The contracts of shortOf, of slices.Clone and slices.SortFunc over attributes, and of formatRelative.
  The contracts of slices.SortFunc over attributes and of formatRelative.
  The contracts of formatRelative and of Format.
  The contract of Format.
  What the reference's FormatName does, as plain laws: the least attribute is taken again and again; the short types. Nothing is claimed of the program here.
  A name that can be read: its relative names lie at its address, and their attributes at theirs.
  A store into a cell of a name leaves a name in memory, of the same numbers of relative names and attributes. A parameter of type api.Attribute.
  The contract of the reference's FormatName.
  The contract of the reference's FormatGeneral: the text of a general name.
  The names of the generator have no error, nor have they when their kinds are those that Parse gives. Nothing is claimed of the program here.
  The walk of the law NameText: for every name and list of numbers it returns true, and leaves all that was there as it was.
-/
import Derived.Test.YtbpdenfiifcfcaaGreatDoorLai
import Derived.Test.YtbpdenfiifcfcaaGreatDoorLad
import Derived.WalkSpells
import Derived.Test.YtbpdenfiifcfcaaGreatDoorLaa
import Derived.Test.YtbpdenfiifcfcaaGreatDoorLbe
import Derived.Test.YtbpdenfiifcfcaaGreatDoorLau
import Derived.Test.YtbpdenfiifcfcaaGreatDoorLaz
import Derived.Test.YtbpdenfiifcfcaaGreatDoorLax
import Derived.Test.YtbpdenfiifcfcaaGreatDoorLbc
import Derived.Test.YtbpdenfiifcfcaaGreatDoorLal
import Derived.Test.YtbpdenfiifcfcaaGreatDoorLar
import Derived.Test.YtbpdenfiifcfcaaGreatDoorLbd
import Derived.Test.YtbpdenfiifcfcaaGreatDoorLas
import Derived.Lib.QuietBelow
import Derived.BigQuiet
import Derived.Test.YtbpdenfiifcfcaaGreatDoorLak
import Derived.Test.YtbpdenfiifcfcaaGreatDoorLaj
import Derived.Deep.CutRange
import Derived.Deep.DeepCutAuto
import Derived.Deep.RegionWith
import Derived.Test.YtbpdenfiifcfcaaGreatDoorLap
import Derived.Deep.RegionHeld3
import Derived.Test.YtbpdenfiifcfcaaGreatDoorLab
import Derived.Test.YtbpdenfiifcfcaaGreatDoorLac
import Derived.Lib.SliceRun
import Derived.Test.YtbpdenfiifcfcaaGreatDoorLah
import Derived.Test.YtbpdenfiifcfcaaGreatDoorLag
import Derived.ProofKit
import Derived.OpenShut
import Derived.Deep.Slices
import Derived.Deep.Strs
import Derived.Deep.DeepHandedRow
namespace Go.Proofs.YtbpdenfiifcfcaaGreatDoor
open Go.RowKit
theorem encG_zero {con:Bool} {k:Int} {t:List UInt8} {n:Nm} (h:chkG con k t n = 0):(k = 4 ∧ t = [] ∧ chkN n = 0) ∨ (k ≠ 4 ∧ okT k con t = true ∧ n = [] ∧ (k = 1 ∨ k = 2 ∨ k = 7)):=by
 unfold chkG at h
 split at h
 ·rename_i h4
  split at h
  ·rename_i h0;exact .inl ⟨h4,h0,h⟩
  ·cases h
 ·rename_i h4
  split at h
  ·rename_i h0
   refine .inr ⟨h4,h0.1,h0.2,?_⟩
   rcases kind_or k with rfl | rfl | rfl | rfl | hk
   ·exact .inl rfl
   ·exact .inr (.inl rfl)
   ·exact absurd rfl h4
   ·exact .inr (.inr rfl)
   ·have:=okT_no hk con t;rw [this] at h0;cases h0.1
  ·cases h
set_option maxRecDepth 100000 in
set_option maxHeartbeats 4000000 in
theorem rencG_core (a0:Option Addr) (c m:Nat) (k:Int) (t:List UInt8) (n:Nm) (con:Bool) (w:World) (h:RLies w a0 n) (hn:m = n.length) (ht:t.length ≤ 150000) (hs:SmallN n) :
  Calls Tryz.prog 53 #[.agg #[.int .i64 k,.string (strOf t),.slice a0 m c],.bool con] w fun e w' => e = .returned (.tuple #[.string (encG con k t n),.int .i64 ((chkG con k t n:Nat):Int)]) ∧ Below w.heap.size w w':=by
 obtain ⟨W0,hW0⟩:∃ W0,W0 = w.alloc (.cells #[.int .i64 k,.string (strOf t),.slice a0 m c] 29):=⟨_,rfl⟩
 have hwr:w.alloc (.cells #[.int .i64 k,.string (strOf t),.slice a0 m c] 29) = W0:=hW0.symm
 have hb0:Below w.heap.size w W0:=by rw [hW0];exact belowNew w _
 have hq0:W0.heap[w.heap.size]? = some (.cells #[.int .i64 k,.string (strOf t),.slice a0 m c] 29 (0,0)):=by rw [hW0];exact heap_alloc_new w _
 obtain ⟨c0,c1,c2,l0⟩:=three_facts hq0
 have HB0:=Lib.hid hb0
 have HTL:=Lib.hid ht
 have HC:=Lib.hid (rchkG_core a0 c m k t n con W0 (h.below hb0) hn ht hs)
 have HN:=Lib.hid (fun W (hb:Below w.heap.size w W) => rencode_core a0 c m n W (h.below hb) hn hs)
 obtain ⟨E,hE⟩:∃ E,E = chkG con k t n:=⟨_,rfl⟩
 obtain ⟨V,hV⟩:∃ V,V = encG con k t n:=⟨_,rfl⟩
 rw [← hE] at HC ⊢
 rw [← hV]
 clear h hn ht hs hW0 hb0 hq0
 by_cases hz:E = 0
 ·subst hz
  rcases encG_zero hE.symm with ⟨rfl,rfl,hk⟩ | ⟨h4,_,_,hk⟩
  ·have HV:=Lib.hid (show V = wr1 164 (encN n) by rw [hV];unfold encG;rw [← hE,if_pos rfl,if_pos rfl])
   have he:encV n = encN n:=by unfold encV;rw [if_pos hk]
   have HW1:=Lib.hid (fun g W h => rw1 164 g (encN n) W h (Nat.le_trans (wrapStr_size _ _) (by decide)))
   rw [← HV.out] at HW1
   rw [he,hk] at HN
   clear he hk hE hV HV
   go_enter Tryz.func53,Tryz.ntmps53
   go_wp2_with (first
    |(go_at_call 33;(with_reducible refine HC.out.mono ?_);rintro e w1 ⟨rfl,hb1⟩;have HB1:=Lib.hid (below_next HB0.out hb1);have d0:=(hb1.cell (p:=⟨w.heap.size,0,none⟩) l0).trans c0;have d2:=(hb1.cell (p:=⟨w.heap.size,2,none⟩) l0).trans c2;have l1:=Nat.lt_of_lt_of_le l0 hb1.size;clear hb1)
    |(go_at_call 83;(with_reducible refine (HN.out _ HB1.out).mono ?_);rintro e w2 ⟨rfl,hb2⟩;have HB2:=Lib.hid (below_next HB1.out hb2);have e0:=(hb2.cell (p:=⟨w.heap.size,0,none⟩) l1).trans d0;clear hb2)
    |(go_at_call 37;(with_reducible refine (HW1.out _ _ (bx1 _ _ _)).mono ?_);rintro e w5 ⟨rfl,hb5⟩;have HB5:=Lib.hid (below_next HB2.out (below_next (belowNew _ _) hb5));clear hb5))
   go_ret2
   exact ⟨rfl,HB5.out⟩
  ·have HV:=Lib.hid (show V = wr1 (128 + k) (strOf t) by rw [hV];unfold encG;rw [← hE,if_pos rfl,if_neg h4])
   clear hE hV h4 HN
   rcases hk with rfl | rfl | rfl
   ·have HW1:=Lib.hid (fun g W h => rw1 129 g (strOf t) W h (by rw [strOf_size];exact Nat.le_trans HTL.out (by decide)))
    rw [← show V = wr1 129 (strOf t) from HV.out] at HW1
    clear HV
    go_enter Tryz.func53,Tryz.ntmps53
    go_wp2_with (first
     |(go_at_call 33;(with_reducible refine HC.out.mono ?_);rintro e w1 ⟨rfl,hb1⟩;have HB1:=Lib.hid (below_next HB0.out hb1);have d0:=(hb1.cell (p:=⟨w.heap.size,0,none⟩) l0).trans c0;have d1:=(hb1.cell (p:=⟨w.heap.size,1,none⟩) l0).trans c1;clear hb1)
     |(go_at_call 37;(with_reducible refine (HW1.out _ _ (bx1 _ _ _)).mono ?_);rintro e w5 ⟨rfl,hb5⟩;have HB5:=Lib.hid (below_next HB1.out (below_next (belowNew _ _) hb5));clear hb5))
    go_ret2
    exact ⟨rfl,HB5.out⟩
   ·have HW1:=Lib.hid (fun g W h => rw1 130 g (strOf t) W h (by rw [strOf_size];exact Nat.le_trans HTL.out (by decide)))
    rw [← show V = wr1 130 (strOf t) from HV.out] at HW1
    clear HV
    go_enter Tryz.func53,Tryz.ntmps53
    go_wp2_with (first
     |(go_at_call 33;(with_reducible refine HC.out.mono ?_);rintro e w1 ⟨rfl,hb1⟩;have HB1:=Lib.hid (below_next HB0.out hb1);have d0:=(hb1.cell (p:=⟨w.heap.size,0,none⟩) l0).trans c0;have d1:=(hb1.cell (p:=⟨w.heap.size,1,none⟩) l0).trans c1;clear hb1)
     |(go_at_call 37;(with_reducible refine (HW1.out _ _ (bx1 _ _ _)).mono ?_);rintro e w5 ⟨rfl,hb5⟩;have HB5:=Lib.hid (below_next HB1.out (below_next (belowNew _ _) hb5));clear hb5))
    go_ret2
    exact ⟨rfl,HB5.out⟩
   ·have HW1:=Lib.hid (fun g W h => rw1 135 g (strOf t) W h (by rw [strOf_size];exact Nat.le_trans HTL.out (by decide)))
    rw [← show V = wr1 135 (strOf t) from HV.out] at HW1
    clear HV
    go_enter Tryz.func53,Tryz.ntmps53
    go_wp2_with (first
     |(go_at_call 33;(with_reducible refine HC.out.mono ?_);rintro e w1 ⟨rfl,hb1⟩;have HB1:=Lib.hid (below_next HB0.out hb1);have d0:=(hb1.cell (p:=⟨w.heap.size,0,none⟩) l0).trans c0;have d1:=(hb1.cell (p:=⟨w.heap.size,1,none⟩) l0).trans c1;clear hb1)
     |(go_at_call 37;(with_reducible refine (HW1.out _ _ (bx1 _ _ _)).mono ?_);rintro e w5 ⟨rfl,hb5⟩;have HB5:=Lib.hid (below_next HB1.out (below_next (belowNew _ _) hb5));clear hb5))
    go_ret2
    exact ⟨rfl,HB5.out⟩
 ·have hz1:=errno_ne hz
  have HV:=Lib.hid (show V = ⟨#[]⟩ by rw [hV];unfold encG;rw [← hE,if_neg hz])
  clear hE hV HN
  rw [HV.out]
  go_enter Tryz.func53,Tryz.ntmps53
  go_wp2_with (go_at_call 33;(with_reducible refine HC.out.mono ?_);rintro e w1 ⟨rfl,hb1⟩;have HB1:=Lib.hid (below_next HB0.out hb1);clear hb1)
  go_ret2
  exact ⟨rfl,HB1.out⟩
theorem chkA_len {b:List At} {a:At} (h:chkA b a = 0):a.2.2.size ≤ 64:=by
 unfold chkA at h
 split at h
 ·cases h
 ·split at h
  ·cases h
  ·split at h
   ·cases h
   ·split at h
    ·cases h
    ·omega
theorem chkL_len:∀ {r b:List At},chkL b r = 0 → ∀ a ∈ r,a.2.2.size ≤ 64
 |[],_,_,_,ha => by cases ha
 |x :: r,b,h,a,ha => by
  unfold chkL at h
  by_cases hx:chkA b x = 0
  ·rw [if_pos hx] at h
   rcases List.mem_cons.1 ha with rfl | ha
   ·exact chkA_len hx
   ·exact chkL_len h a ha
  ·rw [if_neg hx] at h;exact absurd h hx
theorem encA_le64 (x:At) (h:x.2.2.size ≤ 64):(encA x).size ≤ 137:=by
 have h1:=wrapStr_le 6 (oidS x.1).data.toList
 have h2:=wrapStr_le x.2.1 x.2.2.data.toList
 have h3:=wrapStr_le 48 ((wr1 6 (oidS x.1)).data.toList ++ (wr1 x.2.1 x.2.2).data.toList)
 have h4:=oidS_size x.1
 have e1:(oidS x.1).data.toList.length = (oidS x.1).size:=rfl
 have e2:x.2.2.data.toList.length = x.2.2.size:=rfl
 have e3:(wr1 6 (oidS x.1)).data.toList.length = (wrapStr 6 (oidS x.1).data.toList).size:=rfl
 have e4:(wr1 x.2.1 x.2.2).data.toList.length = (wrapStr x.2.1 x.2.2.data.toList).size:=rfl
 rw [List.length_append] at h3
 show (wrapStr 48 ((wr1 6 (oidS x.1)).data.toList ++ (wr1 x.2.1 x.2.2).data.toList)).size ≤ 137
 omega
theorem encR_le64 {r:List At} (h:chkR r = 0):(encR r).size ≤ 554:=by
 have hl:r.length ≤ 4 ∧ chkL [] r = 0:=by
  unfold chkR at h
  split at h
  ·cases h
  ·split at h
   ·cases h
   ·exact ⟨by omega,h⟩
 have h1:=wrapStr_le 49 (ordL (lists (r.map encA))).flatten
 rw [ordL_flat_length,lists_flat] at h1
 have h2:=cat_lenM 137 (r.map encA) (fun s hs => by obtain ⟨a,ha,rfl⟩:=List.mem_map.1 hs;exact encA_le64 a (chkL_len hl.2 a ha))
 rw [List.length_map] at h2
 have:=hl.1
 show (wrapStr 49 (ordL (lists (r.map encA))).flatten).size ≤ 554
 omega
theorem chkRs_all:∀ {n:Nm},chkRs n = 0 → ∀ r ∈ n,chkR r = 0
 |[],_,_,hr => by cases hr
 |x :: n,h,r,hr => by
  unfold chkRs at h
  by_cases hx:chkR x = 0
  ·rw [if_pos hx] at h
   rcases List.mem_cons.1 hr with rfl | hr
   ·exact hx
   ·exact chkRs_all h r hr
  ·rw [if_neg hx] at h;exact absurd h hx
theorem encN_le64 {n:Nm} (h:chkN n = 0):(encN n).size ≤ 4438:=by
 have hl:n.length ≤ 8 ∧ chkRs n = 0:=by
  unfold chkN at h
  split at h
  ·cases h
  ·exact ⟨by omega,h⟩
 have h1:=wrapStr_le 48 (cat_t (n.map encR))
 have h2:=cat_lenM 554 (n.map encR) (fun s hs => by obtain ⟨a,ha,rfl⟩:=List.mem_map.1 hs;exact encR_le64 (chkRs_all hl.2 a ha))
 rw [List.length_map] at h2
 have:=hl.1
 show (wrapStr 48 (cat_t (n.map encR))).size ≤ 4438
 omega
def noS:Value:=.slice none 0 0
def gCells (g:Gn) (s:Value):List Value:=[.int .i64 g.1,.string (strOf g.2.1),s]
def gsCells:List Gn → List Value → List Value
 |g :: l,s :: ss => gCells g s ++ gsCells l ss
 |_,_ => []
theorem gsCells_length:∀ (l:List Gn) (ss:List Value),ss.length = l.length → (gsCells l ss).length = l.length * 3
 |[],[],_ => rfl
 |g :: l,s :: ss,h => by
  have:=gsCells_length l ss (by simpa using h)
  simp only [gsCells,gCells,List.length_append,List.length_cons,List.length_nil,this]
  omega
theorem gsCells_snoc:∀ (l:List Gn) (ss:List Value) (g:Gn) (s:Value),ss.length = l.length → gsCells (l ++ [g]) (ss ++ [s]) = gsCells l ss ++ gCells g s
 |[],[],g,s,_ => by simp [gsCells,gCells]
 |x :: l,y :: ss,g,s,h => by
  have:=gsCells_snoc l ss g s (by simpa using h)
  simp only [List.cons_append,gsCells,this,List.append_assoc]
theorem gs_at:∀ (l:List Gn) (ss:List Value) (i j:Nat),ss.length = l.length → i < l.length → j < 3 → (gsCells l ss)[i * 3 + j]? = (gCells (l.getD i noG) (ss.getD i noS))[j]?
 |[],_,i,_,_,h,_ => absurd h (Nat.not_lt_zero _)
 |g :: l,s :: ss,0,j,_,_,hj => by
  show (gCells g s ++ gsCells l ss)[0 * 3 + j]? = (gCells g s)[j]?
  rw [List.getElem?_append_left (by simp [gCells];omega)]
  simp
 |g :: l,s :: ss,i + 1,j,h,hi,hj => by
  have:=gs_at l ss i j (by simpa using h) (by simpa using hi) hj
  show (gCells g s ++ gsCells l ss)[(i + 1) * 3 + j]? = _
  rw [List.getElem?_append_right (by simp [gCells];omega),show (i + 1) * 3 + j - (gCells g s).length = i * 3 + j by simp [gCells];omega,this]
  rfl
theorem gCells_one (g:Gn) (a:Option Addr) (n c:Nat):∀ u ∈ gCells g (.slice a n c),u.oneCell' = true:=by
 intro u hu
 simp only [gCells,List.mem_cons,List.not_mem_nil,or_false] at hu
 rcases hu with rfl | rfl | rfl <;> rfl
theorem gInfo:(Tryz.prog.info? 29).map (fun i => (i.zero,i.size,i.bytes)) = some (some (.agg #[.int .i64 0,.string ⟨#[]⟩,.slice none 0 0]),3,48):=by kernel_rfl
/-- The slice value v,of memory from block B on,holds the general names l,each name in memory of its own. -/
def OwnG (w:World) (B:Nat) (v:Value) (l:List Gn):Prop:=∃ ss:List Value,ss.length = l.length ∧ w.ownsRow B 29 3 v l.length (gsCells l ss) ∧ ∀ i,i < l.length → OwnN w B (ss.getD i noS) (l.getD i noG).2.2
theorem OwnG.nil (w:World) (B:Nat):OwnG w B (.slice none 0 0) []:=⟨[],rfl,World.ownsRow_nil _ _ _ _,fun _ hi => absurd hi (Nat.not_lt_zero _)⟩
theorem OwnG.below {w w':World} {B:Nat} {v:Value} {l:List Gn} (h:OwnG w B v l) (hb:Below w.heap.size w w'):OwnG w' B v l:=by
 obtain ⟨ss,h1,h2,h3⟩:=h
 exact ⟨ss,h1,own_below h2 hb,fun i hi => (h3 i hi).below hb⟩
theorem OwnG.lies {w:World} {B:Nat} {v:Value} {l:List Gn} (h:OwnG w B v l):∃ a c,v = .slice a l.length c ∧ l.length ≤ c ∧ GLies w a l:=by
 obtain ⟨ss,h1,h2,h3⟩:=h
 have hh:=h2
 rcases h2.2 with ⟨hv,h0⟩ | ⟨g,cap,cur,hv,_,_,hcap,_⟩
 ·exact ⟨none,0,by rw [hv,h0],by omega,.inl (List.eq_nil_of_length_eq_zero h0)⟩
 ·refine ⟨_,cap,hv,hcap,.inr ⟨g,0,rfl,fun i hi => ?_⟩⟩
  rw [hv] at hh
  obtain ⟨a',c',e,q3,q⟩:=(h3 i hi).lies
  have hc:∀ j,j < 3 → w.cell? ⟨g,i * 3 + j,none⟩ = (gCells (l.getD i noG) (ss.getD i noS))[j]?:=fun j hj => by
   rw [World.ownsRow.cellAt hh (i * 3 + j) (by omega)]
   exact gs_at l ss i j h1 hi hj
  rw [Nat.zero_add]
  refine ⟨hc 0 (by omega),hc 1 (by omega),a',c',?_,q3,q⟩
  rw [hc 2 (by omega),← e]
  rfl
theorem OwnN.keptG {w w':World} {B B' k m:Nat} {v u:Value} {n:Nm} {xs:List Value} (h:OwnN w B u n) (ho:w.ownsRow B' 29 k v m xs) (hg:w.grownBy w' v.ownBlock):OwnN w' B u n:=by
 obtain ⟨vs,h1,h2,h3⟩:=h
 exact ⟨vs,h1,World.ownsRow.kept h2 hg (rows_apart h2 ho (by decide)),fun i hi => World.ownsRow.kept (h3 i hi) hg (rows_apart (h3 i hi) ho (by decide))⟩
/-- One general name more. -/
theorem OwnG.snoc {w w':World} {B:Nat} {v v' s:Value} {l:List Gn} {g:Gn} {ss:List Value} (h1:ss.length = l.length) (h2:w.ownsRow B 29 3 v l.length (gsCells l ss)) (h3:∀ i,i < l.length → OwnN w B (ss.getD i noS) (l.getD i noG).2.2)
  (hr:OwnN w B s g.2.2) (hg:w.grownBy w' v.ownBlock) (h4:w'.ownsRow B 29 3 v' (l.length + 1) (gsCells l ss ++ gCells g s)):OwnG w' B v' (l ++ [g]):=by
 refine ⟨ss ++ [s],by simp [h1],by rw [List.length_append,gsCells_snoc l ss g s h1];exact h4,fun i hi => ?_⟩
 by_cases hlt:i < l.length
 ·rw [getD_snoc_lt _ _ _ _ (by omega),getD_snoc_lt _ _ _ _ hlt]
  exact (h3 i hlt).keptG h2 hg
 ·rw [List.length_append,List.length_singleton] at hi
  obtain rfl:i = l.length:=by omega
  rw [getD_snoc_eq,← h1,getD_snoc_eq]
  exact hr.keptG h2 hg
theorem OwnG.base {w:World} {B B':Nat} {v:Value} {l:List Gn} (h:OwnG w B v l) (hB:B' ≤ B):OwnG w B' v l:=by
 obtain ⟨ss,h1,h2,h3⟩:=h
 exact ⟨ss,h1,own_base h2 hB,fun i hi => (h3 i hi).base hB⟩
theorem OwnG.apart {w w':World} {B g:Nat} {T:TypeId} {v:Value} {l:List Gn} {cs:Array Value} {f:Nat × Nat} (h:OwnG w B v l) (hc:w.heap[g]? = some (.cells cs T f)) (h0:T ≠ 29) (h1:T ≠ 86) (h2:T ≠ 84) (hg:But g w w'):OwnG w' B v l:=by
 obtain ⟨ss,q1,q2,q3⟩:=h
 exact ⟨ss,q1,own_apart q2 hc h0 hg,fun i hi => (q3 i hi).apart hc h1 h2 hg⟩
/-! ### A row that is made and filled -/
def GRow (w:World) (B G n:Nat) (l:List Gn):Prop:=∃ cs:Array Value,w.heap[G]? = some (.cells cs 29 (0,0)) ∧ cs.size = n * 3 ∧ ∃ ss:List Value,ss.length = l.length ∧
 (∀ i j,i < l.length → j < 3 → cs[i * 3 + j]? = (gCells (l.getD i noG) (ss.getD i noS))[j]?) ∧ ∀ i,i < l.length → OwnN w B (ss.getD i noS) (l.getD i noG).2.2
theorem GRow.below {w w':World} {B G n:Nat} {l:List Gn} (h:GRow w B G n l) (hb:Below w.heap.size w w'):GRow w' B G n l:=by
 obtain ⟨cs,h1,h2,ss,h3,h4,h5⟩:=h
 exact ⟨cs,(hb.block G (Array.getElem?_eq_some_iff.1 h1).1).trans h1,h2,ss,h3,h4,fun i hi => (h5 i hi).below hb⟩
theorem GRow.lies {w:World} {B G n:Nat} {l:List Gn} (h:GRow w B G n l):GLies w (some ⟨G,0,none⟩) l:=by
 obtain ⟨cs,h1,h2,ss,h3,h4,h5⟩:=h
 refine .inr ⟨G,0,rfl,fun i hi => ?_⟩
 obtain ⟨a',c',e,q3,q⟩:=(h5 i hi).lies
 have hc:∀ j,j < 3 → w.cell? ⟨G,i * 3 + j,none⟩ = (gCells (l.getD i noG) (ss.getD i noS))[j]?:=fun j hj => by
  rw [Lib.cell_of_heap h1];exact h4 i j hi hj
 rw [Nat.zero_add]
 refine ⟨hc 0 (by omega),hc 1 (by omega),a',c',?_,q3,q⟩
 rw [hc 2 (by omega),← e]
 rfl
theorem gset_three {w:World} {G k:Nat} {cs:Array Value} {T:TypeId} {x y z:Value} (h:w.heap[G]? = some (.cells cs T (0,0))) :
  (((w.setCell ⟨G,k,none⟩ x).setCell ⟨G,k + 1,none⟩ y).setCell ⟨G,k + 2,none⟩ z).heap[G]? = some (.cells (((cs.setIfInBounds k x).setIfInBounds (k + 1) y).setIfInBounds (k + 2) z) T (0,0)):=by
 simp [World.setCell,Array.getElem?_modify,h]
theorem GRow.put {w:World} {B G n k:Nat} {l:List Gn} {g:Gn} {s:Value} (h:GRow w B G n l) (hk:k = l.length) (hn:k < n) (ho:OwnN w B s g.2.2) :
  GRow (((w.setCell ⟨G,k * 3,none⟩ (.int .i64 g.1)).setCell ⟨G,k * 3 + 1,none⟩ (.string (strOf g.2.1))).setCell ⟨G,k * 3 + 2,none⟩ s) B G n (l ++ [g]):=by
 obtain ⟨cs,h1,h2,ss,h3,h4,h5⟩:=h
 have hs:=((But.set G (k * 3) w (.int .i64 g.1)).next (But.set G (k * 3 + 1) _ (.string (strOf g.2.1)))).next (But.set G (k * 3 + 2) _ s)
 refine ⟨_,gset_three h1,by simp [h2],ss ++ [s],by simp [h3],fun i j hi hj => ?_,fun i hi => ?_⟩
 ·by_cases hlt:i < l.length
  ·rw [getD_snoc_lt _ _ _ _ hlt,getD_snoc_lt _ _ _ _ (by omega),← h4 i j hlt hj]
   rw [Array.getElem?_setIfInBounds_ne (by omega),Array.getElem?_setIfInBounds_ne (by omega),Array.getElem?_setIfInBounds_ne (by omega)]
  ·rw [List.length_append,List.length_singleton] at hi
   obtain rfl:i = l.length:=by omega
   rw [getD_snoc_eq,← h3,getD_snoc_eq,h3,← hk]
   have hsz:k * 3 + 2 < cs.size:=by omega
   rcases (by omega:j = 0 ∨ j = 1 ∨ j = 2) with rfl | rfl | rfl
   ·rw [Array.getElem?_setIfInBounds_ne (by omega),Array.getElem?_setIfInBounds_ne (by omega),Nat.add_zero,Array.getElem?_setIfInBounds_self_of_lt (by omega)];rfl
   ·rw [Array.getElem?_setIfInBounds_ne (by omega),Array.getElem?_setIfInBounds_self_of_lt (by simp;omega)];rfl
   ·rw [Array.getElem?_setIfInBounds_self_of_lt (by simp;omega)];rfl
 ·by_cases hlt:i < l.length
  ·rw [getD_snoc_lt _ _ _ _ hlt,getD_snoc_lt _ _ _ _ (by omega)]
   obtain ⟨vs,q1,q2,q3⟩:=h5 i hlt
   exact ⟨vs,q1,own_apart q2 h1 (by decide) hs,fun i hi => own_apart (q3 i hi) h1 (by decide) hs⟩
  ·rw [List.length_append,List.length_singleton] at hi
   obtain rfl:i = l.length:=by omega
   rw [getD_snoc_eq,← h3,getD_snoc_eq]
   exact ho.apart h1 (by decide) (by decide) hs
theorem GRow.cell {w:World} {B G n:Nat} {l:List Gn} (h:GRow w B G n l) (j:Nat) (hj:j < n * 3):(∃ x,w.cell? ⟨G,j,none⟩ = some x) ∧ w.frozen? ⟨G,j,none⟩ = false:=by
 obtain ⟨cs,h1,h2,_⟩:=h
 exact ⟨⟨cs[j],by rw [Lib.cell_of_heap h1];exact Array.getElem?_eq_getElem (by omega)⟩,Lib.frozen_of_heap h1 j⟩
theorem Bld.below {B b:Nat} {l:List UInt8} {w w':World} (h:Bld B b l w) (hb:Below w.heap.size w w'):Bld B b l w':=by
 have key:∀ p,Lib.BuilderAt 118 5 B b p (Lib.byteCells l) w → Lib.BuilderAt 118 5 B b p (Lib.byteCells l) w':=fun p hq => by
  have hlt:=hq.lt
  obtain ⟨hB,v,hv,hown,hne⟩:=hq
  exact ⟨hB,v,(hb.block b hlt).trans hv,World.ownsRow.kept (row:=none) hown ⟨hb.os,hb.tape,hb.output,hb.size,fun k hk _ => hb.block k hk⟩ (Classical.em _),hne⟩
 exact h.elim (fun x => .inl (key _ x)) (fun x => .inr (key _ x))
theorem Bld.fresh (w:World):Bld w.heap.size w.heap.size [] (w.alloc (.cells #[.pointer none,.slice none 0 0] 118)):=Lib.fresh_isBuilder _ _ w
set_option maxRecDepth 100000 in
set_option maxHeartbeats 4000000 in
theorem exactG_core (a0 b0:Option Addr) (c d m:Nat) (l:List Gn) (w:World) (h1:GLies w a0 l) (h2:GLies w b0 l) (hn:m = l.length) (hm:m ≤ 1000000) (hq:∀ i,i < l.length → SmallN (l.getD i noG).2.2) :
  Calls Tryz.prog 22 #[.slice a0 m c,.slice b0 m d] w fun e w' => e = .returned (.bool true) ∧ Below w.heap.size w w':=by
 have H1:=Lib.hid h1
 have H2:=Lib.hid h2
 have HN:=Lib.hid hn
 have HQ:=Lib.hid hq
 clear h1 h2 hn hq
 go_enter Tryz.func22,Tryz.ntmps22
 go_wp2_with fail
 go_loopw [13] (fun i wr => ∃ k:Nat,k ≤ m ∧ i = .int .i64 k ∧ Below w.heap.size w wr) (fun i _ => m - (intOf i).toNat)
 case atStart => exact ⟨0,Nat.zero_le _,rfl,Below.refl _ _⟩
 case round =>
  obtain ⟨wz,hwz⟩:∃ wz,wz = wr:=⟨_,rfl⟩
  subst hwz
  obtain ⟨k,hk,rfl,hb⟩:=hrel
  have HB:=Lib.hid hb
  clear hb
  by_cases hlt:k < m
  ·have hd:decide ((k:Int) < (m:Int)) = true:=by simp;omega
   obtain ⟨b,o,rfl,hb,e0,e1,a1,c1,e2,hc1,hL1⟩:=(H1.out.below HB.out).at k (by rw [← HN.out];exact hlt)
   obtain ⟨b',o',rfl,hb',e0',e1',a1',c1',e2',hc1',hL1'⟩:=(H2.out.below HB.out).at k (by rw [← HN.out];exact hlt)
   have hs:=HQ.out k (by rw [← HN.out];exact hlt)
   generalize l.getD k noG = G at e0 e1 e2 hL1 hc1 e0' e1' e2' hL1' hc1' hs
   obtain ⟨q,t,n⟩:=G
   simp only at e0 e1 e2 hL1 hc1 e0' e1' e2' hL1' hc1' hs
   obtain ⟨N,hNn⟩:∃ N,N = n.length:=⟨_,rfl⟩
   rw [← hNn] at e2 e2'
   have HX:=Lib.hid (fun W (hb:Below wz.heap.size wz W) => exact_core a1 a1' c1 c1' N n W (hL1.below hb) (hL1'.below hb) hNn hs)
   clear hb hb' hL1 hL1' hc1 hc1' hs hNn
   have f1:∀ d os,_:=fun d os => Calls.regrown_of (HX.out (Sort.grow (redrawn wz d) os) (below_regrown wz d os))
   have g0:=cell_regrown e0
   have g1:=cell_regrown e1
   have g2:=cell_regrown e2
   have g0':=cell_regrown e0'
   have g1':=cell_regrown e1'
   have g2':=cell_regrown e2'
   clear e0 e1 e2 e0' e1' e2'
   go_wp2_with fail
   refine wp_region_quiet_below (by kernel_rfl) (by kernel_rfl) ?_
   repeat (go_big_quiet_step (with_reducible first | exact f1 _ _))
   refine wpQuiet_nil ?_
   intro _ hw'
   obtain ⟨⟨dq,osq⟩,hw''⟩:=hw'
   subst hw''
   have HBR:=Lib.hid (HB.out.trans ((below_regrown wz dq osq).mono HB.out.size))
   clear f1 g0 g1 g2 g0' g1' g2'
   go_wp2_with fail
   go_roundw
   case rel => exact ⟨k + 1,by omega,by go_num,HBR.out⟩
   case measure => simp [intOf];omega
  ·have hd:decide ((k:Int) < (m:Int)) = false:=by simp;omega
   obtain rfl:k = m:=by omega
   go_wp2_with fail
   go_ret
   exact ⟨rfl,HB.out⟩
theorem box_two (w:World) (x0 x1 x2 y0 y1 y2:Value) (T:TypeId) :
  ((w.alloc (.cells #[x0,x1,x2] T)).alloc (.cells #[y0,y1,y2] T)).cell? ⟨w.heap.size,0,none⟩ = some x0 ∧ ((w.alloc (.cells #[x0,x1,x2] T)).alloc (.cells #[y0,y1,y2] T)).cell? ⟨w.heap.size,1,none⟩ = some x1 ∧ ((w.alloc (.cells #[x0,x1,x2] T)).alloc (.cells #[y0,y1,y2] T)).cell? ⟨w.heap.size,2,none⟩ = some x2 ∧
  ((w.alloc (.cells #[x0,x1,x2] T)).alloc (.cells #[y0,y1,y2] T)).cell? ⟨w.heap.size + 1,0,none⟩ = some y0 ∧ ((w.alloc (.cells #[x0,x1,x2] T)).alloc (.cells #[y0,y1,y2] T)).cell? ⟨w.heap.size + 1,1,none⟩ = some y1 ∧ ((w.alloc (.cells #[x0,x1,x2] T)).alloc (.cells #[y0,y1,y2] T)).cell? ⟨w.heap.size + 1,2,none⟩ = some y2 ∧
  w.heap.size + 1 < ((w.alloc (.cells #[x0,x1,x2] T)).alloc (.cells #[y0,y1,y2] T)).heap.size:=by
 have h1:=heap_alloc_new (w.alloc (.cells #[x0,x1,x2] T)) (.cells #[y0,y1,y2] T)
 rw [show (w.alloc (.cells #[x0,x1,x2] T)).heap.size = w.heap.size + 1 by simp] at h1
 obtain ⟨f0,f1,f2,f3⟩:=three_facts h1
 obtain ⟨g0,g1,g2,g3⟩:=three_facts (heap_alloc_new w (.cells #[x0,x1,x2] T))
 exact ⟨(World.cell?_alloc_old _ _ _ (Nat.ne_of_lt g3)).trans g0,(World.cell?_alloc_old _ _ _ (Nat.ne_of_lt g3)).trans g1,(World.cell?_alloc_old _ _ _ (Nat.ne_of_lt g3)).trans g2,f0,f1,f2,f3⟩
theorem ShG.small {g:Gn} (h:ShG g):SmallN g.2.2:=ShN.small h.2
theorem madeN_small {n:Nm} (h:MadeN n):SmallN n:=small_of_sp (spN_of_made h) (by omega)
theorem encG_small {con:Bool} {k:Int} {t:List UInt8} {n:Nm} (ht:t.length ≤ 64) (hn:MadeN n):(encG con k t n).size ≤ 660:=by
 unfold encG
 split
 ·rename_i h
  split
  ·rename_i h4
   subst h4
   rw [chkG_dir] at h
   have hz:chkN n = 0:=by
    by_cases h0:t = []
    ·rwa [if_pos h0] at h
    ·rw [if_neg h0] at h;cases h
   have h1:=encV_le (spN_of_made hn)
   rw [show encV n = encN n by unfold encV;rw [if_pos hz]] at h1
   have h2:=wrapStr_le 164 (encN n).data.toList
   have e:(encN n).data.toList.length = (encN n).size:=rfl
   show (wrapStr 164 (encN n).data.toList).size ≤ 660
   omega
  ·have h2:=wrapStr_le (128 + k) (strOf t).data.toList
   have e:(strOf t).data.toList.length = t.length:=by rw [strOf_list]
   show (wrapStr (128 + k) (strOf t).data.toList).size ≤ 660
   omega
 ·exact Nat.zero_le _
theorem decG_small {con:Bool} {T:Int} {ct:ByteArray} (h:ct.size ≤ 150000):SmallN (decG con T ct).2.2.2:=by
 have h0:SmallN []:=⟨by decide,fun i hi => absurd hi (Nat.not_lt_zero _)⟩
 unfold decG
 split
 ·split <;> exact h0
 ·split
  ·split
   ·exact decN_small (by omega)
   ·exact h0
  ·exact h0
noncomputable def encL (a:At):List UInt8:=(encA a).data.toList
def leA (a b:At):Prop:=¬ encL b < encL a
def Srt (l:List At):Prop:=l.Pairwise leA
theorem leA.trans {a b c:At} (h:leA a b) (k:leA b c):leA a c:=List.not_lt.2 (List.le_trans (List.not_lt.1 h) (List.not_lt.1 k))
theorem encA_inj {a b:At} (ha:okA a) (hb:okA b) (h:encL a = encL b):a = b:=by
 have h1:encA a = encA b:=ext_list_t h
 obtain ⟨_,_,e1⟩:=read_one (b:=encA a) (c:=inA a) (by have:=inA_size ha;omega) rfl
 obtain ⟨_,_,e2⟩:=read_one (b:=encA b) (c:=inA b) (by have:=inA_size hb;omega) rfl
 have e3:inA a = inA b:=by rw [← e1,← e2,h1]
 have e4:=decA_elA ha
 have e5:=decA_elA hb
 have e6:elA a = elA b:=by unfold elA;rw [e3,h1]
 rw [e6,e5] at e4
 exact (Prod.mk.inj e4).2.symm
theorem sort_srt (r:List At):Srt (sortR r):=by
 have tr:∀ a b c:At,decide (encL a ≤ encL b) = true → decide (encL b ≤ encL c) = true → decide (encL a ≤ encL c) = true:=fun a b c h1 h2 => by simp only [decide_eq_true_eq] at *;exact List.le_trans h1 h2
 have tot:∀ a b:At,(decide (encL a ≤ encL b) || decide (encL b ≤ encL a)) = true:=fun a b => by simp only [Bool.or_eq_true,decide_eq_true_eq];exact List.le_total _ _
 exact (List.pairwise_mergeSort tr tot r).imp fun {a b} hh => List.not_lt.2 (of_decide_eq_true hh)
theorem sort_unique {D r:List At} (hs:Srt D) (hp:D.Perm r) (hok:∀ a ∈ r,okA a):D = sortR r:=by
 refine List.Perm.eq_of_pairwise (le:=leA) (fun a b ha hb h1 h2 => ?_) hs (sort_srt r) (hp.trans (sortR_perm r).symm)
 exact encA_inj (hok a (hp.mem_iff.1 ha)) (hok b ((sortR_perm r).mem_iff.1 hb)) (List.le_antisymm (List.not_lt.1 h1) (List.not_lt.1 h2))
/-! ### A row of attributes -/
def RowG (w:World) (g:Nat) (rest:List Value) (D:List At):Prop:=w.heap[g]? = some (.cells (atsCells D ++ rest).toArray 86 (0,0))
theorem RowG.lt {w:World} {g:Nat} {rest:List Value} {D:List At} (h:RowG w g rest D):g < w.heap.size:=(Array.getElem?_eq_some_iff.1 h).1
theorem RowG.below {w w':World} {g:Nat} {rest:List Value} {D:List At} (h:RowG w g rest D) (hb:Below w.heap.size w w'):RowG w' g rest D:=(hb.block g h.lt).trans h
theorem RowG.drew {w:World} {g:Nat} {rest:List Value} {D:List At} (h:RowG w g rest D):RowG w.drew g rest D:=h
theorem RowG.at {w:World} {g:Nat} {rest:List Value} {D:List At} (h:RowG w g rest D) (k:Nat) (hk:k < D.length) :
  w.cell? ⟨g,k * 3,none⟩ = some (.string (D.getD k noAt).1) ∧ w.cell? ⟨g,k * 3 + 1,none⟩ = some (.int .i64 (D.getD k noAt).2.1) ∧ w.cell? ⟨g,k * 3 + 2,none⟩ = some (.string (D.getD k noAt).2.2) ∧
   w.frozen? ⟨g,k * 3,none⟩ = false ∧ w.frozen? ⟨g,k * 3 + 1,none⟩ = false ∧ w.frozen? ⟨g,k * 3 + 2,none⟩ = false:=by
 have hc:∀ j,j < 3 → w.cell? ⟨g,k * 3 + j,none⟩ = (atCells (D.getD k noAt))[j]?:=fun j hj => by
  rw [Lib.cell_of_heap h,List.getElem?_toArray,List.getElem?_append_left (by rw [atsCells_length];omega)]
  exact ats_at D k hk j hj
 exact ⟨hc 0 (by omega),hc 1 (by omega),hc 2 (by omega),Lib.frozen_of_heap h _,Lib.frozen_of_heap h _,Lib.frozen_of_heap h _⟩
/-! ### The bytes of object identifiers and of escaped texts -/
/-! ### Keys -/
/-- A relative name without an error. -/
def okR (r:List At):Prop:=1 ≤ r.length ∧ (∀ a ∈ r,okA a) ∧ (r.map (·.1)).Nodup
/-! ### What is written -/
/-! ### What is read -/
open Go.RowKit Go.Sort
/-! ### shortOf -/
/-! ### Clone -/
def PreF (r:List At):Prop:=okR r ∧ r.length ≤ 4 ∧ ∀ x ∈ r,x.1.size ≤ 200000
theorem PreF.small {r:List At} (h:PreF r):SmallR r:=by
 refine ⟨Nat.le_trans h.2.1 (by omega),fun j hj => ?_⟩
 have hm:=getD_memS r j hj noAt
 exact ⟨Nat.le_trans (h.2.2 _ hm) (by omega),Nat.le_trans (h.1.2.1 _ hm).2.2.2 (by omega)⟩
theorem perm_take {L:List At} {m:Nat} (h:m < L.length):L.Perm (L.getD m noAt :: (L.take m ++ L.drop (m + 1))):=by
 have e:L = L.take m ++ L.getD m noAt :: L.drop (m + 1):=by
  rw [← dropD L m h noAt,List.take_append_drop]
 conv => lhs;rw [e]
 exact List.perm_middle
/-- What is left and what was taken. -/
def Picked (r D L:List At):Prop:=(D ++ L).Perm r ∧ Srt D ∧ ∀ d ∈ D,∀ x ∈ L,leA d x
theorem Picked.next {r D L:List At} (h:Picked r D L) {m:Nat} (hm:m < L.length) (hl:∀ i,i < L.length → leA (L.getD m noAt) (L.getD i noAt)):Picked r (D ++ [L.getD m noAt]) (L.take m ++ L.drop (m + 1)):=by
 obtain ⟨h1,h2,h3⟩:=h
 have hp:=perm_take hm
 have hmem:L.getD m noAt ∈ L:=getD_memS L m hm noAt
 have hin:∀ x ∈ L.take m ++ L.drop (m + 1),x ∈ L:=fun x hx => hp.mem_iff.2 (List.mem_cons_of_mem _ hx)
 refine ⟨?_,?_,fun d hd x hx => ?_⟩
 ·rw [List.append_assoc,List.singleton_append]
  exact (List.Perm.append_left D hp.symm).trans h1
 ·unfold Srt
  rw [List.pairwise_append]
  exact ⟨h2,List.pairwise_singleton _ _,fun a ha b hb => by rw [List.mem_singleton.1 hb];exact h3 a ha _ hmem⟩
 ·rcases List.mem_append.1 hd with hd | hd
  ·exact h3 d hd x (hin x hx)
  ·rw [List.mem_singleton.1 hd]
   obtain ⟨i,hi,e⟩:=List.getElem_of_mem (hin x hx)
   have:=hl i hi
   rwa [getD_mem hi _,e] at this
theorem Picked.done {r D:List At} (h:Picked r D []) (hok:∀ a ∈ r,okA a):D = sortR r:=sort_unique h.2.1 (by have:=h.1;rwa [List.append_nil] at this) hok
/-! ### The short types,the last one that fits -/
/-! ### Slices of a row of attributes -/
open Go.ChangeShapes Go.WideShapes Go.ChangeAt Go.RowKit Go.ChangeMaps Go.Deep
/-- A row of attributes of a call's own: its cells,and that they may be written. -/
theorem OwnA.open {w:World} {B:Nat} {v:Value} {l:List At} (h:OwnA w B v l) (h0:l ≠ []):∃ g c,v = .slice (some ⟨g,0,none⟩) l.length c ∧ B ≤ g ∧ g < w.heap.size ∧ (∀ j,w.frozen? ⟨g,j,none⟩ = false) ∧
  ∀ i,i < l.length → w.cell? ⟨g,i * 3,none⟩ = some (.string (l.getD i noAt).1) ∧ w.cell? ⟨g,i * 3 + 1,none⟩ = some (.int .i64 (l.getD i noAt).2.1) ∧ w.cell? ⟨g,i * 3 + 2,none⟩ = some (.string (l.getD i noAt).2.2):=by
 obtain ⟨a,c,hv,hc,hl⟩:=h.lies
 rcases h.2 with ⟨_,h1⟩ | ⟨g,cap,cur,hv',hB,hg,_⟩
 ·exact absurd (List.eq_nil_of_length_eq_zero h1) h0
 ·rw [hv] at hv'
  obtain ⟨rfl,rfl⟩:a = some ⟨g,0,none⟩ ∧ c = cap:=by simpa using hv'
  refine ⟨g,c,hv,hB,(Array.getElem?_eq_some_iff.1 hg).1,fun j => Lib.frozen_of_heap hg j,fun i hi => ?_⟩
  rcases hl with e | ⟨b,o,e,hh⟩
  ·exact absurd e h0
  ·obtain ⟨rfl,rfl⟩:g = b ∧ 0 = o:=by simpa using e
   simpa using hh i hi
/-! ### A parameter of type api.Attribute -/
theorem ALies.drop {w:World} {b o:Nat} {l:List At} (h:ALies w (some ⟨b,o,none⟩) l) (k:Nat):ALies w (some ⟨b,o + k * 3,none⟩) (l.drop k):=by
 rcases h with h | ⟨b',o',e,hc⟩
 ·exact .inl (by rw [h];simp)
 ·obtain ⟨rfl,rfl⟩:b = b' ∧ o = o':=by simpa using e
  refine .inr ⟨b,o + k * 3,rfl,fun i hi => ?_⟩
  rw [List.length_drop] at hi
  obtain ⟨c0,c1,c2⟩:=hc (k + i) (by omega)
  have e2:(l.drop k).getD i noAt = l.getD (k + i) noAt:=by rw [List.getD_eq_getElem?_getD,List.getD_eq_getElem?_getD,List.getElem?_drop]
  rw [e2,show o + k * 3 + i * 3 = o + (k + i) * 3 by omega]
  exact ⟨c0,c1,c2⟩
end Go.Proofs.YtbpdenfiifcfcaaGreatDoor
