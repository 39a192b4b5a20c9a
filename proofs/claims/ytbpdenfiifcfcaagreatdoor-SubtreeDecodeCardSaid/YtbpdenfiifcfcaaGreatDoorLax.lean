/-
  All contracts of package host at one place.
  The contracts of gname's isName, isBase, hasParts and Check: the first error of a general name.
  The contract of certpathmade's ShortName: what it says is short has few and short parts.
  General names in memory, and the contract of the generator's ShortNames.
  The contract of the laws' spelled: a name in another spelling, which matches the one handed in; of the memory that was there only the deck's block has changed.
  The contracts of the generators General and Base of general names.
  A field of a general name that a call has returned.
  The contract of the law's some: a general name of the generators, perhaps with a field of another one.
  A row of attributes grows by one that has just been made. Nothing is claimed of the program here.
  The contract of the reference's Dec: the decimal digits of a number.
  The contract of the law's function id: the text of a good list of numbers that is made of the given ones.
  The contract of oid.Decode: the object identifier with these contents, if there is one.
-/
import Derived.Test.YtbpdenfiifcfcaaGreatDoorLaw
import Derived.Test.YtbpdenfiifcfcaaGreatDoorLas
import Derived.Test.YtbpdenfiifcfcaaGreatDoorLah
import Derived.Test.YtbpdenfiifcfcaaGreatDoorLar
import Derived.Test.YtbpdenfiifcfcaaGreatDoorLai
import Derived.Test.YtbpdenfiifcfcaaGreatDoorLal
import Derived.Test.YtbpdenfiifcfcaaGreatDoorLac
import Derived.Laws.AppendOwnNone
import Derived.Deep.CutRange
import Derived.Deep.DeepCutAuto
import Derived.Test.YtbpdenfiifcfcaaGreatDoorLaa
import Derived.Test.YtbpdenfiifcfcaaGreatDoorLan
import Derived.Lib.ItoaLen
namespace Go.Proofs.YtbpdenfiifcfcaaGreatDoor
open Go.RowKit
set_option maxRecDepth 100000 in
set_option maxHeartbeats 2000000 in
theorem pisname_any (k:Int) (t:List UInt8) (ht:t.length ≤ 150000) (w:World) (hm:Mx w) :
  Calls Tryz.prog 108 #[.int .i64 ((kdOf k:Nat):Int),.string (strOf t)] w fun e w' => e = .returned (.bool (okT k false t)) ∧ Below w.heap.size w w':=by
 rcases kind_or k with rfl | rfl | rfl | rfl | hk
 ·have HC:=Lib.hid (pmail_any t ht w hm)
  rw [show ((kdOf 1:Nat):Int) = 0 from rfl,show okT 1 false t = mailB t from rfl]
  clear hm
  go_enter Tryz.func108,Tryz.ntmps108
  go_wp2_with (go_at_call 130;(with_reducible refine HC.out.mono ?_);rintro e w1 ⟨rfl,hb1⟩;have HB1:=Lib.hid hb1;clear hb1)
  go_ret
  exact ⟨rfl,HB1.out⟩
 ·have HC:=Lib.hid (ppat_any t ht w)
  rw [show ((kdOf 2:Nat):Int) = 1 from rfl,show okT 2 false t = patB t from rfl]
  clear hm
  go_enter Tryz.func108,Tryz.ntmps108
  go_wp2_with (go_at_call 131;(with_reducible refine HC.out.mono ?_);rintro e w1 ⟨rfl,hb1⟩;have HB1:=Lib.hid hb1;clear hb1)
  go_ret
  exact ⟨rfl,HB1.out⟩
 ·rw [show ((kdOf 4:Nat):Int) = 2 from rfl,show okT 4 false t = false from rfl]
  clear hm
  go_enter Tryz.func108,Tryz.ntmps108
  go_wp2_with fail
  go_ret
  exact ⟨rfl,Below.refl _ _⟩
 ·have HC:=Lib.hid (paddr_any t ht w)
  rw [show ((kdOf 7:Nat):Int) = 3 from rfl,show okT 7 false t = addrB t from rfl]
  clear hm
  go_enter Tryz.func108,Tryz.ntmps108
  go_wp2_with (go_at_call 132;(with_reducible refine HC.out.mono ?_);rintro e w1 ⟨rfl,hb1⟩;have HB1:=Lib.hid hb1;clear hb1)
  go_ret
  exact ⟨rfl,HB1.out⟩
 ·rw [kdOf_no hk,okT_no hk]
  rw [show (((4:Nat)):Int) = 4 from rfl]
  clear hm hk
  go_enter Tryz.func108,Tryz.ntmps108
  go_wp2_with fail
  go_ret
  exact ⟨rfl,Below.refl _ _⟩
set_option maxRecDepth 100000 in
set_option maxHeartbeats 2000000 in
theorem pisbase_any (k:Int) (t:List UInt8) (ht:t.length ≤ 150000) (w:World) (hm:Mx w) :
  Calls Tryz.prog 107 #[.int .i64 ((kdOf k:Nat):Int),.string (strOf t)] w fun e w' => e = .returned (.bool (okT k true t)) ∧ Below w.heap.size w w':=by
 rcases kind_or k with rfl | rfl | rfl | rfl | hk
 ·have HC:=Lib.hid (pmb_any t ht w hm)
  rw [show ((kdOf 1:Nat):Int) = 0 from rfl,show okT 1 true t = mailBaseB t from rfl]
  clear hm
  go_enter Tryz.func107,Tryz.ntmps107
  go_wp2_with (go_at_call 127;(with_reducible refine HC.out.mono ?_);rintro e w1 ⟨rfl,hb1⟩;have HB1:=Lib.hid hb1;clear hb1)
  go_ret
  exact ⟨rfl,HB1.out⟩
 ·have HC:=Lib.hid (pbase_any t ht w)
  rw [show ((kdOf 2:Nat):Int) = 1 from rfl,show okT 2 true t = baseB t from rfl]
  clear hm
  go_enter Tryz.func107,Tryz.ntmps107
  go_wp2_with (go_at_call 128;(with_reducible refine HC.out.mono ?_);rintro e w1 ⟨rfl,hb1⟩;have HB1:=Lib.hid hb1;clear hb1)
  go_ret
  exact ⟨rfl,HB1.out⟩
 ·rw [show ((kdOf 4:Nat):Int) = 2 from rfl,show okT 4 true t = false from rfl]
  clear hm
  go_enter Tryz.func107,Tryz.ntmps107
  go_wp2_with fail
  go_ret
  exact ⟨rfl,Below.refl _ _⟩
 ·have HC:=Lib.hid (prange_any t ht w)
  rw [show ((kdOf 7:Nat):Int) = 3 from rfl,show okT 7 true t = rangeB t from rfl]
  clear hm
  go_enter Tryz.func107,Tryz.ntmps107
  go_wp2_with (go_at_call 129;(with_reducible refine HC.out.mono ?_);rintro e w1 ⟨rfl,hb1⟩;have HB1:=Lib.hid hb1;clear hb1)
  go_ret
  exact ⟨rfl,HB1.out⟩
 ·rw [kdOf_no hk,okT_no hk]
  rw [show (((4:Nat)):Int) = 4 from rfl]
  clear hm hk
  go_enter Tryz.func107,Tryz.ntmps107
  go_wp2_with fail
  go_ret
  exact ⟨rfl,Below.refl _ _⟩
/-- Has a general name what its kind needs,and nothing else? -/
noncomputable def partsG (con:Bool) (k:Int) (t:List UInt8) (n:Nm):Bool:=if k = 4 then decide (t = []) else (decide (n = []) && okT k con t)
theorem chkN_nil:chkN [] = 0:=rfl
theorem chkG_parts (con:Bool) (k:Int) (t:List UInt8) (n:Nm):chkG con k t n = if partsG con k t n = true then chkN n else 14:=by
 by_cases h4:k = 4
 ·subst h4
  rw [chkG_dir]
  unfold partsG
  rw [if_pos rfl]
  by_cases h0:t = []
  ·rw [if_pos h0,if_pos (decide_eq_true h0)]
  ·rw [if_neg h0,if_neg (by rw [decide_eq_false h0];decide)]
 ·rw [chkG_not h4]
  unfold partsG
  rw [if_neg h4]
  by_cases hn:n = []
  ·subst hn
   rw [chkN_nil,decide_eq_true (rfl:([]:Nm) = []),Bool.true_and]
   by_cases ho:okT k con t = true
   ·rw [if_pos ⟨ho,rfl⟩,if_pos ho]
   ·rw [if_neg (fun q => ho q.1),if_neg ho]
  ·rw [if_neg (fun q => hn q.2),decide_eq_false hn,Bool.false_and,if_neg (by decide)]
theorem kdOf_not4 {k:Int} (h:k ≠ 4):(((kdOf k:Nat):Int) == 2) = false:=by
 rcases kind_or k with rfl | rfl | rfl | rfl | hk
 ·rfl
 ·rfl
 ·exact absurd rfl h
 ·rfl
 ·rw [kdOf_no hk];rfl
set_option maxRecDepth 100000 in
set_option maxHeartbeats 4000000 in
theorem parts_core (a0:Option Addr) (c m:Nat) (k:Int) (t:List UInt8) (n:Nm) (con:Bool) (w:World) (hn:m = n.length) (ht:t.length ≤ 150000) (hmk:Mk w) :
  Calls Tryz.prog 84 #[.agg #[.int .i64 k,.string (strOf t),.slice a0 m c],.bool con] w fun e w' => e = .returned (.bool (partsG con k t n)) ∧ Below w.heap.size w w':=by
 obtain ⟨W0,hW0⟩:∃ W0,W0 = w.alloc (.cells #[.int .i64 k,.string (strOf t),.slice a0 m c] 29):=⟨_,rfl⟩
 have hwr:w.alloc (.cells #[.int .i64 k,.string (strOf t),.slice a0 m c] 29) = W0:=hW0.symm
 have hb0:Below w.heap.size w W0:=by rw [hW0];exact belowNew w _
 have hq0:W0.heap[w.heap.size]? = some (.cells #[.int .i64 k,.string (strOf t),.slice a0 m c] 29 (0,0)):=by rw [hW0];exact heap_alloc_new w _
 obtain ⟨c0,c1,c2,l0⟩:=three_facts hq0
 have HB0:=Lib.hid hb0
 have HK:=Lib.hid (gkind_any k (strOf t) a0 m c W0 (hmk.below hb0).2)
 have HI1:=Lib.hid (fun W (hb:Below w.heap.size w W) => pisname_any k t ht W (hmk.below hb).1)
 have HI2:=Lib.hid (fun W (hb:Below w.heap.size w W) => pisbase_any k t ht W (hmk.below hb).1)
 have hnil:=nil_iff hn
 obtain ⟨E,hE⟩:∃ E,E = partsG con k t n:=⟨_,rfl⟩
 rw [← hE]
 clear hmk ht hn hW0 hb0 hq0
 by_cases h4:k = 4
 ·subst h4
  rw [show ((kdOf 4:Nat):Int) = 2 from rfl] at HK
  by_cases h0:t = []
  ·have HX:=Lib.hid (show E = true by rw [hE];unfold partsG;rw [if_pos rfl,decide_eq_true h0])
   obtain ⟨f1,f2⟩:=empty_is h0
   clear h0 hE hnil
   go_enter Tryz.func84,Tryz.ntmps84
   go_wp2_with (go_at_call 100;(with_reducible refine HK.out.mono ?_);rintro e w1 ⟨rfl,hb1⟩;have HB1:=Lib.hid (below_next HB0.out hb1);have d1:=(hb1.cell (p:=⟨w.heap.size,1,none⟩) l0).trans c1;have d2:=(hb1.cell (p:=⟨w.heap.size,2,none⟩) l0).trans c2;clear hb1)
   go_ret
   exact ⟨by rw [HX.out];rfl,HB1.out⟩
  ·have HX:=Lib.hid (show E = false by rw [hE];unfold partsG;rw [if_pos rfl,decide_eq_false h0])
   obtain ⟨f1,f2⟩:=empty_not h0
   clear h0 hE hnil
   go_enter Tryz.func84,Tryz.ntmps84
   go_wp2_with (go_at_call 100;(with_reducible refine HK.out.mono ?_);rintro e w1 ⟨rfl,hb1⟩;have HB1:=Lib.hid (below_next HB0.out hb1);have d1:=(hb1.cell (p:=⟨w.heap.size,1,none⟩) l0).trans c1;have d2:=(hb1.cell (p:=⟨w.heap.size,2,none⟩) l0).trans c2;clear hb1)
   go_ret
   exact ⟨by rw [HX.out];rfl,HB1.out⟩
 ·have hz2:=kdOf_not4 h4
  by_cases hm:m = 0
  ·have hd:decide ((0:Int) < (m:Int)) = false:=decide_eq_false (by omega)
   have hd2:decide (0 < m) = false:=decide_eq_false (by omega)
   have HX:=Lib.hid (show E = okT k con t by rw [hE];unfold partsG;rw [if_neg h4,decide_eq_true (hnil.2 hm),Bool.true_and])
   clear hm h4 hE hnil
   rw [HX.out]
   generalize ((kdOf k:Nat):Int) = z at HK HI1 HI2 hz2
   cases con
   ·skip
    go_enter Tryz.func84,Tryz.ntmps84
    go_wp2_with (first
     |(go_at_call 100;(with_reducible refine HK.out.mono ?_);rintro e w1 ⟨rfl,hb1⟩;have HB1:=Lib.hid (below_next HB0.out hb1);have d1:=(hb1.cell (p:=⟨w.heap.size,1,none⟩) l0).trans c1;have d2:=(hb1.cell (p:=⟨w.heap.size,2,none⟩) l0).trans c2;clear hb1)
     |(go_at_call 108;(with_reducible refine (HI1.out _ HB1.out).mono ?_);rintro e w2 ⟨rfl,hb2⟩;have HB2:=Lib.hid (below_next HB1.out hb2);clear hb2))
    go_ret
    exact ⟨rfl,HB2.out⟩
   ·skip
    go_enter Tryz.func84,Tryz.ntmps84
    go_wp2_with (first
     |(go_at_call 100;(with_reducible refine HK.out.mono ?_);rintro e w1 ⟨rfl,hb1⟩;have HB1:=Lib.hid (below_next HB0.out hb1);have d1:=(hb1.cell (p:=⟨w.heap.size,1,none⟩) l0).trans c1;have d2:=(hb1.cell (p:=⟨w.heap.size,2,none⟩) l0).trans c2;clear hb1)
     |(go_at_call 107;(with_reducible refine (HI2.out _ HB1.out).mono ?_);rintro e w2 ⟨rfl,hb2⟩;have HB2:=Lib.hid (below_next HB1.out hb2);clear hb2))
    go_ret
    exact ⟨rfl,HB2.out⟩
  ·have hd:decide ((0:Int) < (m:Int)) = true:=decide_eq_true (by omega)
   have hd2:decide (0 < m) = true:=decide_eq_true (by omega)
   have HX:=Lib.hid (show E = false by rw [hE];unfold partsG;rw [if_neg h4,decide_eq_false (fun q => hm (hnil.1 q)),Bool.false_and])
   clear hm h4 hE hnil
   generalize ((kdOf k:Nat):Int) = z at HK HI1 HI2 hz2
   go_enter Tryz.func84,Tryz.ntmps84
   go_wp2_with (go_at_call 100;(with_reducible refine HK.out.mono ?_);rintro e w1 ⟨rfl,hb1⟩;have HB1:=Lib.hid (below_next HB0.out hb1);have d1:=(hb1.cell (p:=⟨w.heap.size,1,none⟩) l0).trans c1;have d2:=(hb1.cell (p:=⟨w.heap.size,2,none⟩) l0).trans c2;clear hb1)
   go_ret
   exact ⟨by rw [HX.out];rfl,HB1.out⟩
set_option maxRecDepth 100000 in
set_option maxHeartbeats 4000000 in
theorem gchk_core (a0:Option Addr) (c m:Nat) (k:Int) (t:List UInt8) (n:Nm) (con:Bool) (w:World) (h:RLies w a0 n) (hn:m = n.length) (ht:t.length ≤ 150000) (hs:SmallN n) (hT:Tab w) (hmk:Mk w) :
  Calls Tryz.prog 55 #[.agg #[.int .i64 k,.string (strOf t),.slice a0 m c],.bool con] w fun e w' => e = .returned (.int .i64 ((chkG con k t n:Nat):Int)) ∧ Below w.heap.size w w':=by
 obtain ⟨W0,hW0⟩:∃ W0,W0 = w.alloc (.cells #[.int .i64 k,.string (strOf t),.slice a0 m c] 29):=⟨_,rfl⟩
 have hwr:w.alloc (.cells #[.int .i64 k,.string (strOf t),.slice a0 m c] 29) = W0:=hW0.symm
 have hb0:Below w.heap.size w W0:=by rw [hW0];exact belowNew w _
 have hq0:W0.heap[w.heap.size]? = some (.cells #[.int .i64 k,.string (strOf t),.slice a0 m c] 29 (0,0)):=by rw [hW0];exact heap_alloc_new w _
 obtain ⟨c0,c1,c2,l0⟩:=three_facts hq0
 have HB0:=Lib.hid hb0
 have HP:=Lib.hid (parts_core a0 c m k t n con W0 hn ht (hmk.below hb0))
 have HC:=Lib.hid (fun W (hb:Below w.heap.size w W) => chk_core a0 c m n W (h.below hb) hn hs (hT.below hb))
 have hE:=chkG_parts con k t n
 generalize chkG con k t n = E at hE ⊢
 clear hmk ht hn hW0 hb0 hq0 h hs hT
 cases hp:partsG con k t n with
 |true =>
  rw [hp] at HP
  rw [hp,if_pos rfl] at hE
  subst hE
  clear hp
  go_enter Tryz.func55,Tryz.ntmps55
  go_wp2_with (first
   |(go_at_call 84;(with_reducible refine HP.out.mono ?_);rintro e w1 ⟨rfl,hb1⟩;have HB1:=Lib.hid (below_next HB0.out hb1);have d1:=(hb1.cell (p:=⟨w.heap.size,1,none⟩) l0).trans c1;have d2:=(hb1.cell (p:=⟨w.heap.size,2,none⟩) l0).trans c2;clear hb1)
   |(go_at_call 85;(with_reducible refine (HC.out _ HB1.out).mono ?_);rintro e w2 ⟨rfl,hb2⟩;have HB2:=Lib.hid (below_next HB1.out hb2);clear hb2))
  go_ret
  exact ⟨rfl,HB2.out⟩
 |false =>
  rw [hp] at HP
  rw [hp,if_neg (by decide)] at hE
  subst hE
  clear hp
  go_enter Tryz.func55,Tryz.ntmps55
  go_wp2_with (go_at_call 84;(with_reducible refine HP.out.mono ?_);rintro e w1 ⟨rfl,hb1⟩;have HB1:=Lib.hid (below_next HB0.out hb1);clear hb1)
  go_ret
  exact ⟨rfl,HB1.out⟩
/-- A name of at most twelve relative names of at most eight attributes,each of at most 200 bytes. -/
def ShR (r:List At):Prop:=r.length ≤ 8 ∧ ∀ i,i < r.length → (r.getD i noAt).1.size ≤ 200 ∧ (r.getD i noAt).2.2.size ≤ 200
def ShN (n:Nm):Prop:=n.length ≤ 12 ∧ ∀ i,i < n.length → ShR (n.getD i [])
theorem ShN.small {n:Nm} (h:ShN n):SmallN n :=
 ⟨Nat.le_trans h.1 (by omega),fun i hi => ⟨Nat.le_trans (h.2 i hi).1 (by omega),fun j hj => ⟨Nat.le_trans ((h.2 i hi).2 j hj).1 (by omega),Nat.le_trans ((h.2 i hi).2 j hj).2 (by omega)⟩⟩⟩
abbrev Gn:=Int × List UInt8 × Nm
def noG:Gn:=(0,[],[])
/-- At the address lie the general names l. -/
def GLies (w:World) (a:Option Addr) (l:List Gn):Prop :=
 l = [] ∨ ∃ b o,a = some ⟨b,o,none⟩ ∧ ∀ i,i < l.length → w.cell? ⟨b,o + i * 3,none⟩ = some (.int .i64 (l.getD i noG).1) ∧ w.cell? ⟨b,o + i * 3 + 1,none⟩ = some (.string (strOf (l.getD i noG).2.1)) ∧
  ∃ a' c',w.cell? ⟨b,o + i * 3 + 2,none⟩ = some (.slice a' (l.getD i noG).2.2.length c') ∧ (l.getD i noG).2.2.length ≤ c' ∧ RLies w a' (l.getD i noG).2.2
theorem GLies.below {w w':World} {a:Option Addr} {l:List Gn} (h:GLies w a l) (hb:Below w.heap.size w w'):GLies w' a l:=by
 rcases h with h | ⟨b,o,h1,h2⟩
 ·exact .inl h
 ·refine .inr ⟨b,o,h1,fun i hi => ?_⟩
  obtain ⟨c0,c1,a',c',c2,c3,c4⟩:=h2 i hi
  exact ⟨(hb.cell (block_lt c0)).trans c0,(hb.cell (block_lt c1)).trans c1,a',c',(hb.cell (block_lt c2)).trans c2,c3,c4.below hb⟩
theorem GLies.at {w:World} {a:Option Addr} {l:List Gn} (h:GLies w a l) (k:Nat) (hk:k < l.length):∃ b o,a = some ⟨b,o,none⟩ ∧ b < w.heap.size ∧
  w.cell? ⟨b,o + k * 3,none⟩ = some (.int .i64 (l.getD k noG).1) ∧ w.cell? ⟨b,o + k * 3 + 1,none⟩ = some (.string (strOf (l.getD k noG).2.1)) ∧
  ∃ a' c',w.cell? ⟨b,o + k * 3 + 2,none⟩ = some (.slice a' (l.getD k noG).2.2.length c') ∧ (l.getD k noG).2.2.length ≤ c' ∧ RLies w a' (l.getD k noG).2.2:=by
 rcases h with h | ⟨b,o,h1,h2⟩
 ·rw [h] at hk;exact absurd hk (Nat.not_lt_zero _)
 ·obtain ⟨c0,c1,a',c',c2,c3,c4⟩:=h2 k hk
  exact ⟨b,o,h1,block_lt c0,c0,c1,a',c',c2,c3,c4⟩
/-- A row of one general name. -/
theorem glies_one {w:World} {g:Nat} {k:Int} {t:List UInt8} {n:Nm} {a:Option Addr} {c:Nat} {T:TypeId} (h:w.heap[g]? = some (.cells #[.int .i64 k,.string (strOf t),.slice a n.length c] T (0,0))) (hc:n.length ≤ c) (hr:RLies w a n):GLies w (some ⟨g,0,none⟩) [(k,t,n)]:=by
 obtain ⟨c0,c1,c2,_⟩:=three_facts h
 refine .inr ⟨g,0,rfl,fun i hi => ?_⟩
 obtain rfl:i = 0:=by simp at hi;omega
 exact ⟨c0,c1,a,c,c2,hc,hr⟩
/-- What a law takes of a general name that is handed in. -/
def ShG (g:Gn):Prop:=g.2.1.length ≤ 300 ∧ ShN g.2.2
/-- A name of at most three relative names of at most two attributes,each value of at most L bytes. -/
def SpR (L:Nat) (r:List At):Prop:=r.length ≤ 2 ∧ ∀ x ∈ r,x.1.size ≤ 100 ∧ x.2.2.size ≤ L
def SpN (L:Nat) (n:Nm):Prop:=n.length ≤ 3 ∧ ∀ r ∈ n,SpR L r
theorem next3 (p:Nat) (a:Option Addr) (cap:Nat) (zs:List Int) (k:Nat) (w:World) (h:DeckAt w p a cap zs k) (hk2:k < 30000) :
  Calls Tryz.prog 11 #[.pointer (some ⟨p,0,none⟩),.int .i64 3] w fun e w' => ∃ r k':Nat,r < 3 ∧ e = .returned (.int .i64 (r:Int)) ∧ DeckAt w' p a cap zs k' ∧ k' ≤ k + 1 ∧ But p w w' :=
 next_any p a cap zs k 3 w h hk2 (by omega) (by omega)
theorem getD_memS {α:Type} (l:List α) (i:Nat) (h:i < l.length) (d:α):l.getD i d ∈ l:=by
 rw [List.getD_eq_getElem?_getD,List.getElem?_eq_getElem h]
 exact List.getElem_mem h
def genMail:List (List UInt8):=[[97,110,110,64,101,120,97,109,112,108,101,46,111,114,103],[65,78,78,64,101,120,97,109,112,108,101,46,111,114,103],[97,110,110,64,69,120,97,109,112,108,101,46,79,82,71],[98,46,99,64,109,97,105,108,46,101,120,97,109,112,108,101,46,111,114,103],[120,64,111,114,103],[97,39,98,64,97,46,98]]
def genDns:List (List UInt8):=[[101,120,97,109,112,108,101,46,111,114,103],[119,119,119,46,101,120,97,109,112,108,101,46,111,114,103],[87,87,87,46,69,120,97,109,112,108,101,46,111,114,103],[42,46,101,120,97,109,112,108,101,46,111,114,103],[97,46,98],[111,114,103],[109,121,101,120,97,109,112,108,101,46,111,114,103]]
def genAddr:List (List UInt8):=[[10,0,0,1],[10,1,2,3],[192,168,1,7],[32,1,13,184,0,0,0,0,0,0,0,0,0,0,0,1]]
def bseMail:List (List UInt8):=[[97,110,110,64,101,120,97,109,112,108,101,46,111,114,103],[101,120,97,109,112,108,101,46,111,114,103],[46,101,120,97,109,112,108,101,46,111,114,103],[69,88,65,77,80,76,69,46,111,114,103],[46,111,114,103],[111,114,103],[109,97,105,108,46,101,120,97,109,112,108,101,46,111,114,103]]
def bseDns:List (List UInt8):=[[101,120,97,109,112,108,101,46,111,114,103],[119,119,119,46,101,120,97,109,112,108,101,46,111,114,103],[],[69,120,97,109,112,108,101,46,79,82,71],[111,114,103],[98],[97,46,98]]
def bseAddr:List (List UInt8):=[[10,0,0,0,255,0,0,0],[10,1,0,0,255,255,0,0],[0,0,0,0,0,0,0,0],[10,1,2,3,255,255,255,255],[32,1,0,0,0,0,0,0,0,0,0,0,0,0,0,0,255,255,0,0,0,0,0,0,0,0,0,0,0,0,0,0]]
def GenOk (k:Int) (t:List UInt8) (n:Nm):Prop:=(k = 1 ∧ t ∈ genMail ∧ n = []) ∨ (k = 2 ∧ t ∈ genDns ∧ n = []) ∨ (k = 7 ∧ t ∈ genAddr ∧ n = []) ∨ (k = 4 ∧ t = [] ∧ MadeN n)
def BseOk (k:Int) (t:List UInt8) (n:Nm):Prop:=(k = 1 ∧ t ∈ bseMail ∧ n = []) ∨ (k = 2 ∧ t ∈ bseDns ∧ n = []) ∨ (k = 7 ∧ t ∈ bseAddr ∧ n = []) ∨ (k = 4 ∧ t = [] ∧ MadeN n)
theorem gnSize:(Tryz.prog.info? 29).map (·.size) = some 3:=by kernel_rfl
theorem gnRes1 {fn:Func} {p:Tmp} (h:fn.results = #[.cell p 29]) (tmps:Array Value) (w w0:World) (x y z:Value)
  (hp:tmps.getD p undef = .pointer (some ⟨w0.heap.size,0,none⟩)) (hg:w.heap[w0.heap.size]? = some (.cells #[x,y,z] 29 (0,0))) :
  (results fn tmps).run Tryz.prog w = .ok (.agg #[x,y,z]) w :=
 results_cell_row h tmps w w0.heap.size 29 #[x,y,z] (0,0) _ hp hg Tryz.underlying29 rfl gnSize
theorem row_lists (W:World) (R:List (List UInt8)) (k:Nat) (hk:k < R.length) :
  (W.alloc (.cells (R.map fun p => Value.string (strOf p)).toArray 9)).cell? ⟨W.heap.size,k,none⟩ = some (.string (strOf (R.getD k []))):=by
 rw [cell_of_row _ _ k _ _ _ (heap_alloc_new W _)]
 simp [hk]
theorem mem_lists {l:List (List UInt8)} {k:Nat} (h:k < l.length):l.getD k [] ∈ l:=by
 rw [List.getD_eq_getElem?_getD,List.getElem?_eq_getElem h]
 exact List.getElem_mem h
theorem next7 (p:Nat) (a:Option Addr) (cap:Nat) (zs:List Int) (k:Nat) (w:World) (h:DeckAt w p a cap zs k) (hk2:k < 30000) :
  Calls Tryz.prog 11 #[.pointer (some ⟨p,0,none⟩),.int .i64 7] w fun e w' => ∃ r k':Nat,r < 7 ∧ e = .returned (.int .i64 (r:Int)) ∧ DeckAt w' p a cap zs k' ∧ k' ≤ k + 1 ∧ But p w w' :=
 next_any p a cap zs k 7 w h hk2 (by omega) (by omega)
set_option maxRecDepth 100000 in
set_option maxHeartbeats 4000000 in
theorem base_any_g (p:Nat) (a:Option Addr) (cap:Nat) (zs:List Int) (k:Nat) (w:World) (h:DeckAt w p a cap zs k) (hk:k ≤ 800) :
  Calls Tryz.prog 13 #[.pointer (some ⟨p,0,none⟩)] w fun e w' => ∃ (q:Int) (t:List UInt8) (s:Value) (n:Nm) (k':Nat),BseOk q t n ∧ e = .returned (.agg #[.int .i64 q,.string (strOf t),s]) ∧ OwnN w' w.heap.size s n ∧ DeckAt w' p a cap zs k' ∧ k' ≤ k + 12 ∧ But p w w':=by
 obtain ⟨W1,hW1⟩:∃ W1,W1 = w.alloc (.cells #[.int .i64 0,.string ⟨#[]⟩,.slice none 0 0] 29):=⟨_,rfl⟩
 have hb1:Below w.heap.size w W1:=by rw [hW1];exact belowNew w _
 have hc1:W1.heap[w.heap.size]? = some (.cells #[.int .i64 0,.string ⟨#[]⟩,.slice none 0 0] 29 (0,0)):=by rw [hW1];exact heap_alloc_new w _
 have hp:=h.lt
 have HN4:=Lib.hid (next4 p a cap zs k W1 (h.below hb1) (by omega))
 have HB1:=Lib.hid (But.of (p:=p) hb1)
 have HC1:=Lib.hid hc1
 have l1:=(Array.getElem?_eq_some_iff.1 hc1).1
 have HK:=Lib.hid hk
 have HWE:=hW1.symm
 clear h hb1 hc1 hW1 hk
 go_enter Tryz.func13,Tryz.ntmps13
 go_upto_region 2 with (go_at_call 11;(with_reducible refine HN4.out.mono ?_);rintro e w2 ⟨r,k2,hr,rfl,hd2,hk2,hb2⟩;have HC2:=Lib.hid ((hb2.block w.heap.size l1 (by simp;omega)).trans HC1.out);have HD2:=Lib.hid hd2;have HK2:=Lib.hid (show k2 ≤ 801 ∧ k2 ≤ k + 1 by have:=HK.out;omega);have HB2:=Lib.hid (HB1.out.next hb2);clear hd2 hk2 hb2)
 clear HWE l1
 obtain rfl | rfl | rfl | rfl:r = 0 ∨ r = 1 ∨ r = 2 ∨ r = 3:=by omega
 ·have hlt2:=HD2.out.lt
  have HNX:=Lib.hid (next7 p a cap zs k2 (w2.alloc (.cells #[.string ⟨#[97,110,110,64,101,120,97,109,112,108,101,46,111,114,103]⟩,.string ⟨#[101,120,97,109,112,108,101,46,111,114,103]⟩,.string ⟨#[46,101,120,97,109,112,108,101,46,111,114,103]⟩,.string ⟨#[69,88,65,77,80,76,69,46,111,114,103]⟩,.string ⟨#[46,111,114,103]⟩,.string ⟨#[111,114,103]⟩,.string ⟨#[109,97,105,108,46,101,120,97,109,112,108,101,46,111,114,103]⟩] 9)) (HD2.out.below (belowNew w2 _)) (by have:=HK2.out;omega))
  have HRW:=Lib.hid (fun r (hr:r < 7) => show (w2.alloc (.cells #[.string ⟨#[97,110,110,64,101,120,97,109,112,108,101,46,111,114,103]⟩,.string ⟨#[101,120,97,109,112,108,101,46,111,114,103]⟩,.string ⟨#[46,101,120,97,109,112,108,101,46,111,114,103]⟩,.string ⟨#[69,88,65,77,80,76,69,46,111,114,103]⟩,.string ⟨#[46,111,114,103]⟩,.string ⟨#[111,114,103]⟩,.string ⟨#[109,97,105,108,46,101,120,97,109,112,108,101,46,111,114,103]⟩] 9)).cell? ⟨w2.heap.size,r,none⟩ = some (.string (strOf (bseMail.getD r []))) from row_lists w2 bseMail r hr)
  have HC3:=Lib.hid (show (w2.alloc (.cells #[.string ⟨#[97,110,110,64,101,120,97,109,112,108,101,46,111,114,103]⟩,.string ⟨#[101,120,97,109,112,108,101,46,111,114,103]⟩,.string ⟨#[46,101,120,97,109,112,108,101,46,111,114,103]⟩,.string ⟨#[69,88,65,77,80,76,69,46,111,114,103]⟩,.string ⟨#[46,111,114,103]⟩,.string ⟨#[111,114,103]⟩,.string ⟨#[109,97,105,108,46,101,120,97,109,112,108,101,46,111,114,103]⟩] 9)).heap[w.heap.size]? = some (.cells #[.int .i64 0,.string ⟨#[]⟩,.slice none 0 0] 29 (0,0)) from ((belowNew w2 _).block _ (Array.getElem?_eq_some_iff.1 HC2.out).1).trans HC2.out)
  have HB3:=Lib.hid (HB2.out.next (But.of (p:=p) (belowNew w2 (.cells #[.string ⟨#[97,110,110,64,101,120,97,109,112,108,101,46,111,114,103]⟩,.string ⟨#[101,120,97,109,112,108,101,46,111,114,103]⟩,.string ⟨#[46,101,120,97,109,112,108,101,46,111,114,103]⟩,.string ⟨#[69,88,65,77,80,76,69,46,111,114,103]⟩,.string ⟨#[46,111,114,103]⟩,.string ⟨#[111,114,103]⟩,.string ⟨#[109,97,105,108,46,101,120,97,109,112,108,101,46,111,114,103]⟩] 9))))
  go_wp2_with (go_at_call 11;(with_reducible refine HNX.out.mono ?_);rintro e w4 ⟨r,k4,hr4,rfl,hd4,hk4,hb4⟩;have hcr:=(cell_same (hb4.block w2.heap.size (by simp) (by simp;omega)) r).trans (HRW.out r hr4);have hc4:=(hb4.block w.heap.size (Array.getElem?_eq_some_iff.1 HC3.out).1 (by simp;omega)).trans HC3.out;obtain ⟨c0,c1,c2,f0,f1,f2,hlt⟩:=at_facts hc4;have hm4:=mem_lists (l:=bseMail) (k:=r) hr4;generalize bseMail.getD r [] = T at hcr hm4;have HM4:=Lib.hid hm4;have HD4:=Lib.hid hd4;have HK4:=Lib.hid hk4;have HC4:=Lib.hid hc4;have HB4:=Lib.hid (HB3.out.next hb4);clear hm4 hd4 hk4 hc4 hb4)
  have hs:=((But.set w.heap.size 0 w4 (.int .i64 1)).next (But.set w.heap.size 1 _ (.string (strOf T)))).next (But.set w.heap.size 2 _ (.slice none 0 0))
  exact bodyPost_ret (gnRes1 rfl _ _ w _ _ _ rfl (at_set HC4.out)) rfl ⟨1,T,_,[],k4,.inl ⟨rfl,HM4.out,rfl⟩,rfl,OwnN.nil _ _,HD4.out.grown hs (fun j e => by obtain rfl:=Option.some.inj e;exact hp),by have:=HK4.out;have:=HK2.out;omega,HB4.out.fresh hs (Nat.le_refl _)⟩
 ·have hlt2:=HD2.out.lt
  have HNX:=Lib.hid (next7 p a cap zs k2 (w2.alloc (.cells #[.string ⟨#[101,120,97,109,112,108,101,46,111,114,103]⟩,.string ⟨#[119,119,119,46,101,120,97,109,112,108,101,46,111,114,103]⟩,.string ⟨#[]⟩,.string ⟨#[69,120,97,109,112,108,101,46,79,82,71]⟩,.string ⟨#[111,114,103]⟩,.string ⟨#[98]⟩,.string ⟨#[97,46,98]⟩] 9)) (HD2.out.below (belowNew w2 _)) (by have:=HK2.out;omega))
  have HRW:=Lib.hid (fun r (hr:r < 7) => show (w2.alloc (.cells #[.string ⟨#[101,120,97,109,112,108,101,46,111,114,103]⟩,.string ⟨#[119,119,119,46,101,120,97,109,112,108,101,46,111,114,103]⟩,.string ⟨#[]⟩,.string ⟨#[69,120,97,109,112,108,101,46,79,82,71]⟩,.string ⟨#[111,114,103]⟩,.string ⟨#[98]⟩,.string ⟨#[97,46,98]⟩] 9)).cell? ⟨w2.heap.size,r,none⟩ = some (.string (strOf (bseDns.getD r []))) from row_lists w2 bseDns r hr)
  have HC3:=Lib.hid (show (w2.alloc (.cells #[.string ⟨#[101,120,97,109,112,108,101,46,111,114,103]⟩,.string ⟨#[119,119,119,46,101,120,97,109,112,108,101,46,111,114,103]⟩,.string ⟨#[]⟩,.string ⟨#[69,120,97,109,112,108,101,46,79,82,71]⟩,.string ⟨#[111,114,103]⟩,.string ⟨#[98]⟩,.string ⟨#[97,46,98]⟩] 9)).heap[w.heap.size]? = some (.cells #[.int .i64 0,.string ⟨#[]⟩,.slice none 0 0] 29 (0,0)) from ((belowNew w2 _).block _ (Array.getElem?_eq_some_iff.1 HC2.out).1).trans HC2.out)
  have HB3:=Lib.hid (HB2.out.next (But.of (p:=p) (belowNew w2 (.cells #[.string ⟨#[101,120,97,109,112,108,101,46,111,114,103]⟩,.string ⟨#[119,119,119,46,101,120,97,109,112,108,101,46,111,114,103]⟩,.string ⟨#[]⟩,.string ⟨#[69,120,97,109,112,108,101,46,79,82,71]⟩,.string ⟨#[111,114,103]⟩,.string ⟨#[98]⟩,.string ⟨#[97,46,98]⟩] 9))))
  go_wp2_with (go_at_call 11;(with_reducible refine HNX.out.mono ?_);rintro e w4 ⟨r,k4,hr4,rfl,hd4,hk4,hb4⟩;have hcr:=(cell_same (hb4.block w2.heap.size (by simp) (by simp;omega)) r).trans (HRW.out r hr4);have hc4:=(hb4.block w.heap.size (Array.getElem?_eq_some_iff.1 HC3.out).1 (by simp;omega)).trans HC3.out;obtain ⟨c0,c1,c2,f0,f1,f2,hlt⟩:=at_facts hc4;have hm4:=mem_lists (l:=bseDns) (k:=r) hr4;generalize bseDns.getD r [] = T at hcr hm4;have HM4:=Lib.hid hm4;have HD4:=Lib.hid hd4;have HK4:=Lib.hid hk4;have HC4:=Lib.hid hc4;have HB4:=Lib.hid (HB3.out.next hb4);clear hm4 hd4 hk4 hc4 hb4)
  have hs:=((But.set w.heap.size 0 w4 (.int .i64 2)).next (But.set w.heap.size 1 _ (.string (strOf T)))).next (But.set w.heap.size 2 _ (.slice none 0 0))
  exact bodyPost_ret (gnRes1 rfl _ _ w _ _ _ rfl (at_set HC4.out)) rfl ⟨2,T,_,[],k4,.inr (.inl ⟨rfl,HM4.out,rfl⟩),rfl,OwnN.nil _ _,HD4.out.grown hs (fun j e => by obtain rfl:=Option.some.inj e;exact hp),by have:=HK4.out;have:=HK2.out;omega,HB4.out.fresh hs (Nat.le_refl _)⟩
 ·have hlt2:=HD2.out.lt
  have HNX:=Lib.hid (next5 p a cap zs k2 (w2.alloc (.cells #[.string ⟨#[10,0,0,0,255,0,0,0]⟩,.string ⟨#[10,1,0,0,255,255,0,0]⟩,.string ⟨#[0,0,0,0,0,0,0,0]⟩,.string ⟨#[10,1,2,3,255,255,255,255]⟩,.string ⟨#[32,1,0,0,0,0,0,0,0,0,0,0,0,0,0,0,255,255,0,0,0,0,0,0,0,0,0,0,0,0,0,0]⟩] 9)) (HD2.out.below (belowNew w2 _)) (by have:=HK2.out;omega))
  have HRW:=Lib.hid (fun r (hr:r < 5) => show (w2.alloc (.cells #[.string ⟨#[10,0,0,0,255,0,0,0]⟩,.string ⟨#[10,1,0,0,255,255,0,0]⟩,.string ⟨#[0,0,0,0,0,0,0,0]⟩,.string ⟨#[10,1,2,3,255,255,255,255]⟩,.string ⟨#[32,1,0,0,0,0,0,0,0,0,0,0,0,0,0,0,255,255,0,0,0,0,0,0,0,0,0,0,0,0,0,0]⟩] 9)).cell? ⟨w2.heap.size,r,none⟩ = some (.string (strOf (bseAddr.getD r []))) from row_lists w2 bseAddr r hr)
  have HC3:=Lib.hid (show (w2.alloc (.cells #[.string ⟨#[10,0,0,0,255,0,0,0]⟩,.string ⟨#[10,1,0,0,255,255,0,0]⟩,.string ⟨#[0,0,0,0,0,0,0,0]⟩,.string ⟨#[10,1,2,3,255,255,255,255]⟩,.string ⟨#[32,1,0,0,0,0,0,0,0,0,0,0,0,0,0,0,255,255,0,0,0,0,0,0,0,0,0,0,0,0,0,0]⟩] 9)).heap[w.heap.size]? = some (.cells #[.int .i64 0,.string ⟨#[]⟩,.slice none 0 0] 29 (0,0)) from ((belowNew w2 _).block _ (Array.getElem?_eq_some_iff.1 HC2.out).1).trans HC2.out)
  have HB3:=Lib.hid (HB2.out.next (But.of (p:=p) (belowNew w2 (.cells #[.string ⟨#[10,0,0,0,255,0,0,0]⟩,.string ⟨#[10,1,0,0,255,255,0,0]⟩,.string ⟨#[0,0,0,0,0,0,0,0]⟩,.string ⟨#[10,1,2,3,255,255,255,255]⟩,.string ⟨#[32,1,0,0,0,0,0,0,0,0,0,0,0,0,0,0,255,255,0,0,0,0,0,0,0,0,0,0,0,0,0,0]⟩] 9))))
  go_wp2_with (go_at_call 11;(with_reducible refine HNX.out.mono ?_);rintro e w4 ⟨r,k4,hr4,rfl,hd4,hk4,hb4⟩;have hcr:=(cell_same (hb4.block w2.heap.size (by simp) (by simp;omega)) r).trans (HRW.out r hr4);have hc4:=(hb4.block w.heap.size (Array.getElem?_eq_some_iff.1 HC3.out).1 (by simp;omega)).trans HC3.out;obtain ⟨c0,c1,c2,f0,f1,f2,hlt⟩:=at_facts hc4;have hm4:=mem_lists (l:=bseAddr) (k:=r) hr4;generalize bseAddr.getD r [] = T at hcr hm4;have HM4:=Lib.hid hm4;have HD4:=Lib.hid hd4;have HK4:=Lib.hid hk4;have HC4:=Lib.hid hc4;have HB4:=Lib.hid (HB3.out.next hb4);clear hm4 hd4 hk4 hc4 hb4)
  have hs:=((But.set w.heap.size 0 w4 (.int .i64 7)).next (But.set w.heap.size 1 _ (.string (strOf T)))).next (But.set w.heap.size 2 _ (.slice none 0 0))
  exact bodyPost_ret (gnRes1 rfl _ _ w _ _ _ rfl (at_set HC4.out)) rfl ⟨7,T,_,[],k4,.inr (.inr (.inl ⟨rfl,HM4.out,rfl⟩)),rfl,OwnN.nil _ _,HD4.out.grown hs (fun j e => by obtain rfl:=Option.some.inj e;exact hp),by have:=HK4.out;have:=HK2.out;omega,HB4.out.fresh hs (Nat.le_refl _)⟩
 ·have hlt2:=HD2.out.lt
  have l2:=(Array.getElem?_eq_some_iff.1 HC2.out).1
  have HNX:=Lib.hid (name_any p a cap zs k2 w2 HD2.out (by have:=HK2.out;omega))
  go_wp2_with (go_at_call 27;(with_reducible refine HNX.out.mono ?_);rintro e w4 ⟨v,n,k4,hn,rfl,⟨s,rfl,hso⟩,hd4,hk4,hb4⟩;obtain ⟨aq,cq,rfl,hcs,_⟩:=hso.lies;clear hcs;have hc4:=(hb4.block w.heap.size l2 (by simp;omega)).trans HC2.out;obtain ⟨c0,c1,c2,f0,f1,f2,hlt⟩:=at_facts hc4;have HM4:=Lib.hid hn;have HS:=Lib.hid hso;have HD4:=Lib.hid hd4;have HK4:=Lib.hid hk4;have HC4:=Lib.hid hc4;have HB4:=Lib.hid (HB2.out.next hb4);clear hn hso hd4 hk4 hc4 hb4)
  have hs:=((But.set w.heap.size 0 w4 (.int .i64 4)).next (But.set w.heap.size 1 _ (.string ⟨#[]⟩))).next (But.set w.heap.size 2 _ (.slice aq n.length cq))
  exact bodyPost_ret (gnRes1 rfl _ _ w _ _ _ rfl (at_set HC4.out)) rfl ⟨4,[],_,n,k4,.inr (.inr (.inr ⟨rfl,rfl,HM4.out⟩)),rfl,(HS.out.but hs l2).base (Nat.le_of_lt l2),HD4.out.grown hs (fun j e => by obtain rfl:=Option.some.inj e;exact hp),by have:=HK4.out;have:=HK2.out;omega,HB4.out.fresh hs (Nat.le_refl _)⟩
theorem gen_len {q:Int} {t:List UInt8} {n:Nm} (h:GenOk q t n):t.length ≤ 64 ∧ MadeN n:=by
 have m0:MadeN []:=⟨by decide,fun r hr => by cases hr⟩
 rcases h with ⟨_,h,rfl⟩ | ⟨_,h,rfl⟩ | ⟨_,h,rfl⟩ | ⟨_,rfl,h⟩
 ·exact ⟨(show ∀ t ∈ genMail,t.length ≤ 64 by decide) t h,m0⟩
 ·exact ⟨(show ∀ t ∈ genDns,t.length ≤ 64 by decide) t h,m0⟩
 ·exact ⟨(show ∀ t ∈ genAddr,t.length ≤ 64 by decide) t h,m0⟩
 ·exact ⟨by decide,h⟩
theorem bse_len {q:Int} {t:List UInt8} {n:Nm} (h:BseOk q t n):t.length ≤ 64 ∧ MadeN n:=by
 have m0:MadeN []:=⟨by decide,fun r hr => by cases hr⟩
 rcases h with ⟨_,h,rfl⟩ | ⟨_,h,rfl⟩ | ⟨_,h,rfl⟩ | ⟨_,rfl,h⟩
 ·exact ⟨(show ∀ t ∈ bseMail,t.length ≤ 64 by decide) t h,m0⟩
 ·exact ⟨(show ∀ t ∈ bseDns,t.length ≤ 64 by decide) t h,m0⟩
 ·exact ⟨(show ∀ t ∈ bseAddr,t.length ≤ 64 by decide) t h,m0⟩
 ·exact ⟨by decide,h⟩
theorem gset2 {w:World} {g:Nat} {x y z a:Value} {t:TypeId} (h:w.heap[g]? = some (.cells #[x,y,z] t (0,0))):(w.setCell ⟨g,2,none⟩ a).heap[g]? = some (.cells #[x,y,a] t (0,0)):=by
 simp [World.setCell,Array.getElem?_modify,h]
/-- A change of one block that is of another type leaves a name as it was. -/
theorem own_apart {w w':World} {B k n g:Nat} {e T:TypeId} {v:Value} {xs:List Value} {cs:Array Value} {f:Nat × Nat} (h:w.ownsRow B e k v n xs) (hc:w.heap[g]? = some (.cells cs T f)) (hT:T ≠ e) (hg:But g w w'):w'.ownsRow B e k v n xs:=by
 refine World.ownsRow.kept h hg ?_
 rcases h.2 with ⟨hv,_⟩ | ⟨b,cap,cur,hv,_,hb,_⟩
 ·exact .inl (by rw [hv];rfl)
 ·refine .inr (fun e1 => ?_)
  rw [hv] at e1
  simp [Value.ownBlock] at e1
  subst e1
  rw [hc] at hb
  simp at hb
  exact hT hb.2.1
theorem OwnN.apart {w w':World} {B g:Nat} {T:TypeId} {v:Value} {n:Nm} {cs:Array Value} {f:Nat × Nat} (h:OwnN w B v n) (hc:w.heap[g]? = some (.cells cs T f)) (h1:T ≠ 86) (h2:T ≠ 84) (hg:But g w w'):OwnN w' B v n:=by
 obtain ⟨vs,q1,q2,q3⟩:=h
 exact ⟨vs,q1,own_apart q2 hc h2 hg,fun i hi => own_apart (q3 i hi) hc h1 hg⟩
theorem at_news1 (w1:World) (E:At):∀ j u,(atCells E)[j]? = some u → (w1.alloc (.cells #[.string E.1,.int .i64 E.2.1,.string E.2.2] 86)).cell? ((⟨w1.heap.size,0,none⟩:Addr).add j) = some u:=by
 intro j u h
 exact news_row w1 #[.string E.1,.int .i64 E.2.1,.string E.2.2] 86 j u (by simpa [atCells] using h)
theorem ats_round1 {w wr w1 w2:World} {B:Nat} {v v':Value} {D:List At} {e:At} {Y:Obj} (hB:w.heap.size ≤ B) (hown:OwnA wr B v D) (hb:Below w.heap.size w wr) (hb1:Below wr.heap.size wr w1)
  (hown2:w2.ownsRow B 86 3 v' (D.length + 1) (atsCells D ++ atCells e)) (hgr2:(w1.alloc Y).grownBy w2 v.ownBlock):OwnA w2 B v' (D ++ [e]) ∧ Below w.heap.size w w2:=by
 have h1:=hb.size
 have h2:=hb1.size
 refine ⟨?_,?_⟩
 ·unfold OwnA
  rw [List.length_append,atsCells_snoc];exact hown2
 ·exact ((hb.trans (hb1.mono h1)).alloc (by omega) Y).grown hgr2 (by simp;omega) (fun k e => Nat.le_trans hB (World.ownsRow.lt hown k e).1)
theorem str_dig (d:UInt8) (w:World):(convert 65 9 (.slice (some ⟨w.heap.size,0,none⟩) 1 1)).run Tryz.prog (w.alloc (.cells #[.int .u8 ((d.toNat:Nat):Int)] 5)) = .ok (.string (strOf [d])) (w.alloc (.cells #[.int .u8 ((d.toNat:Nat):Int)] 5)) :=
 own_str (l:=[d]) ⟨rfl,.inr ⟨w.heap.size,1,_,rfl,Nat.le_refl _,heap_alloc_new w _,Nat.le_refl _,by decide,rfl,rfl⟩⟩
set_option maxRecDepth 100000 in
set_option maxHeartbeats 1000000 in
theorem dec_small (n:Nat) (h:n < 10) (w:World) :
  Calls Tryz.prog 162 #[.int .i64 (n:Int)] w fun e w' => e = .returned (.string (strOf (Lib.decDigits n))) ∧ Below w.heap.size w w':=by
 have d1:decide ((n:Int) < 10) = true:=by simp;omega
 obtain ⟨d,hd⟩:∃ d:UInt8,d = UInt8.ofNat (48 + n):=⟨_,rfl⟩
 have hdn:wrap64 (48 + (n:Int)) % 256 = ((d.toNat:Nat):Int):=by rw [hd];unfold wrap64;simp;omega
 have hs:=str_dig d
 have HD:=Lib.hid (show Lib.decDigits n = [d] by rw [Lib.decDigits_one h,hd])
 clear h hd
 go_enter Tryz.func162,Tryz.ntmps162
 go_wp2_with fail
 go_ret
 exact ⟨by rw [HD.out];rfl,belowNew _ _⟩
theorem conv_later (d:UInt8) (w w1:World) (hb:Below (w.alloc (.cells #[.int .u8 ((d.toNat:Nat):Int)] 5)).drew.heap.size (w.alloc (.cells #[.int .u8 ((d.toNat:Nat):Int)] 5)).drew w1) :
  (convert 65 9 (.slice (some ⟨w.heap.size,0,none⟩) 1 1)).run Tryz.prog w1 = .ok (.string (strOf [d])) w1 :=
 own_str (B:=w.heap.size) (l:=[d]) (own_below (w:=(w.alloc (.cells #[.int .u8 ((d.toNat:Nat):Int)] 5)).drew) (World.ownsRow.drew ⟨rfl,.inr ⟨w.heap.size,1,_,rfl,Nat.le_refl _,heap_alloc_new w _,Nat.le_refl _,by decide,rfl,rfl⟩⟩) hb)
theorem str_dig_drew (d:UInt8) (w:World):(convert 65 9 (.slice (some ⟨w.heap.size,0,none⟩) 1 1)).run Tryz.prog (w.alloc (.cells #[.int .u8 ((d.toNat:Nat):Int)] 5)).drew = .ok (.string (strOf [d])) (w.alloc (.cells #[.int .u8 ((d.toNat:Nat):Int)] 5)).drew :=
 own_str (B:=w.heap.size) (l:=[d]) (World.ownsRow.drew ⟨rfl,.inr ⟨w.heap.size,1,_,rfl,Nat.le_refl _,heap_alloc_new w _,Nat.le_refl _,by decide,rfl,rfl⟩⟩)
set_option maxRecDepth 100000 in
set_option maxHeartbeats 1000000 in
theorem dec_bound (k:Nat):∀ (n:Nat) (w:World),n < 10 ^ (k + 1) → n ≤ 9223372036854775807 →
  Calls Tryz.prog 162 #[.int .i64 (n:Int)] w fun e w' => e = .returned (.string (strOf (Lib.decDigits n))) ∧ Below w.heap.size w w':=by
 induction k with
 |zero => intro n w h _;exact dec_small n (by simpa using h) w
 |succ k ih =>
  intro n w h hn
  by_cases h10:n < 10
  ·exact dec_small n h10 w
  ·have d1:decide ((n:Int) < 10) = false:=by simp;omega
   obtain ⟨q,hq⟩:∃ q,q = n / 10:=⟨_,rfl⟩
   obtain ⟨d,hd⟩:∃ d:UInt8,d = UInt8.ofNat (48 + n % 10):=⟨_,rfl⟩
   have hqi:(n:Int) / 10 = (q:Int):=by rw [hq];omega
   have HIH:=Lib.hid (fun w => ih q w (by rw [hq];rw [Nat.pow_succ] at h;omega) (by omega))
   have hqw:IntKind.i64.wrap (q:Int) = (q:Int):=by rw [wrap_i64];omega
   have hdn:IntKind.u8.wrap (IntKind.i64.wrap (48 + (n:Int).tmod 10)) = ((d.toNat:Nat):Int):=by
    rw [hd,wrap_i64,Int.tmod_eq_emod_of_nonneg (by omega)]
    simp [IntKind.wrap,IntKind.bits,IntKind.signed]
    omega
   have hs:=str_dig_drew d
   have HD:=Lib.hid (show Lib.decDigits n = Lib.decDigits q ++ [d] by
    conv => lhs;rw [Lib.decDigits]
    rw [dif_neg h10,hq,hd])
   have hcat:∀ w,(Op.stringOp .add (strOf (Lib.decDigits q)) (strOf [d])).run Tryz.prog w = .ok (.string (strOf (Lib.decDigits n))) w:=fun w => by
    rw [run_string_add_sum w _ _ (by
     rw [strOf_size,strOf_size,Lib.decDigits_length]
     have:=Lib.nDigits_le20 q (by omega)
     simp;omega),str_cat,HD.out]
   clear hq hd ih h
   go_enter Tryz.func162,Tryz.ntmps162
   go_upto_region 3 with fail
   go_region_with (first
    |(go_at_call 162;(with_reducible refine (HIH.out _).mono ?_);rintro e w1 ⟨rfl,hb1⟩;have hs1:=conv_later d w w1 hb1;have HB1:=Lib.hid (show Below w.heap.size w w1 from (belowNew w _).drew.trans (hb1.mono (by simp)));clear hb1)
    |(go_at_call 162;(with_reducible refine (HIH.out _).mono ?_);rintro e w1 ⟨rfl,hb1⟩;have hs1:=str_dig d w1;have HB1:=Lib.hid (show Below w.heap.size w w1 from (Below.refl _ w).drew.trans (hb1.mono (by simp)));clear hb1))
   all_goals
    go_wp2_with fail
    go_ret
    first
    |exact ⟨rfl,HB1.out⟩
    |exact ⟨rfl,HB1.out.alloc HB1.out.size _⟩
theorem decno_any (n:Nat) (w:World) (hn:n ≤ 9223372036854775807) :
  Calls Tryz.prog 162 #[.int .i64 (n:Int)] w fun e w' => e = .returned (.string (strOf (Lib.decDigits n))) ∧ Below w.heap.size w w' :=
 dec_bound 18 n w (by omega) hn
/-- The numbers L can be read from the address a0 on. -/
def WLies (w:World) (a0:Option Addr) (L:List Nat):Prop :=
 L = [] ∨ ∃ b off,a0 = some ⟨b,off,none⟩ ∧ ∀ i,i < L.length → w.cell? ⟨b,off + i,none⟩ = some (.int .u32 ((L.getD i 0:Nat):Int))
theorem WLies.below {w w':World} {a0:Option Addr} {L:List Nat} (h:WLies w a0 L) (hb:Below w.heap.size w w'):WLies w' a0 L:=by
 rcases h with h | ⟨b,off,h1,h2⟩
 ·exact .inl h
 ·refine .inr ⟨b,off,h1,fun i hi => ?_⟩
  rw [← h2 i hi]
  exact hb.cell (World.block_lt_of_cell? _ _ (h2 i hi))
theorem WLies.take {w:World} {a0:Option Addr} {L:List Nat} (h:WLies w a0 L) (k:Nat):WLies w a0 (L.take k):=by
 rcases h with h | ⟨b,off,h1,h2⟩
 ·exact .inl (by rw [h];simp)
 ·refine .inr ⟨b,off,h1,fun i hi => ?_⟩
  rw [List.length_take] at hi
  rw [h2 i (by omega),List.getD_eq_getElem?_getD,List.getD_eq_getElem?_getD,List.getElem?_take_of_lt (by omega)]
theorem txt_len (a:List Nat) (h:∀ v ∈ a,v ≤ 2147483647):(txt a).length ≤ 11 * a.length:=by
 by_cases h0:a = []
 ·subst h0;simp [txt]
 ·have e:=congrArg List.length (txt_dot a h0)
  have key:∀ a:List Nat,(∀ v ∈ a,v ≤ 2147483647) → (cat fdot a).length ≤ 11 * a.length:=by
   intro a
   induction a with
   |nil => intro _;simp [cat]
   |cons v a ih =>
    intro h
    have h1:=dec_len 10 v (Nat.lt_of_le_of_lt (h v (by simp)) (by decide)) (by omega)
    have h2:=ih (fun x hx => h x (by simp [hx]))
    simp only [cat,fdot,List.length_append,List.length_cons,List.length_nil];omega
  have:=key a h
  rw [List.length_append] at e
  simp at e;omega
theorem add_str (a b:List UInt8) (h:a.length + b.length ≤ 9223372036854775807) (w:World):(Op.stringOp .add (strOf a) (strOf b)).run Tryz.prog w = .ok (.string (strOf (a ++ b))) w:=by
 rw [run_string_add_sum w _ _ (by rw [strOf_size,strOf_size];exact h),str_cat]
theorem add_dot (a:List UInt8) (h:a.length ≤ 1000) (w:World):(Op.stringOp .add (strOf a) ⟨#[46]⟩).run Tryz.prog w = .ok (.string (strOf (a ++ [46]))) w:=add_str a [46] (by simp;omega) w
theorem dot_add (a:List UInt8) (h:a.length ≤ 1000) (w:World):(Op.stringOp .add ⟨#[46]⟩ (strOf a)).run Tryz.prog w = .ok (.string (strOf (46 :: a))) w:=add_str [46] a (by simp;omega) w
def oidVal (a:List Nat):Value:=.tuple #[.string (strOf (txt a)),.int .i64 0]
def OwnS (w:World) (B:Nat) (v:Value) (ss:List ByteArray):Prop:=w.ownsRow B 9 1 v ss.length (ss.map Value.string)
theorem strs_one (ss:List ByteArray):∀ v ∈ ss.map Value.string,v.oneCell' = true:=by
 intro v hv;obtain ⟨b,_,rfl⟩:=List.mem_map.1 hv;rfl
def decS (n:Nat):ByteArray:=strOf (Lib.decDigits n)
theorem owns_two (w:World) (x y:ByteArray):OwnS (w.alloc (.cells #[.string x,.string y] 9)) w.heap.size (.slice (some ⟨w.heap.size,0,none⟩) 2 2) [x,y] :=
 ⟨rfl,.inr ⟨w.heap.size,2,_,rfl,Nat.le_refl _,heap_alloc_new w _,Nat.le_refl _,by decide,rfl,rfl⟩⟩
theorem owns_form {w:World} {B:Nat} {v:Value} {ss:List ByteArray} (h:OwnS w B v ss) (h0:ss ≠ []) :
  ∃ g cp,v = .slice (some ⟨g,0,none⟩) ss.length cp ∧ g < w.heap.size ∧ ss.length ≤ cp ∧ ∀ (j:Nat) x,ss[j]? = some x → w.cell? ⟨g,0 + j,none⟩ = some (.string x):=by
 rcases h.2 with ⟨_,h1⟩ | ⟨g,cap,cur,rfl,hB,hg,hn,_,hcs,htk⟩
 ·exact absurd (List.eq_nil_of_length_eq_zero h1) h0
 ·refine ⟨g,cap,rfl,(Array.getElem?_eq_some_iff.1 hg).1,hn,fun j x hx => ?_⟩
  have hj:=(List.getElem?_eq_some_iff.1 hx).1
  rw [Nat.zero_add,cell_of_row w g j _ _ _ hg]
  have:(cur.toList.take (ss.length * 1))[j]? = some (.string ss[j]):=by rw [htk];simp [hj]
  rw [List.getElem?_take_of_lt (by omega)] at this
  rw [List.getElem?_eq_getElem hj] at hx
  rw [← Option.some.inj hx]
  simpa using this
theorem strs_round {w wr w2:World} {B:Nat} {v v':Value} {D:List ByteArray} {y:ByteArray} {X:Obj} (hB:w.heap.size ≤ B) (hown:OwnS wr B v D) (hb:Below w.heap.size w wr)
  (hown2:w2.ownsRow B 9 1 v' (D.length + 1) (D.map Value.string ++ [.string y])) (hgr2:(wr.alloc X).grownBy w2 v.ownBlock):OwnS w2 B v' (D ++ [y]) ∧ Below w.heap.size w w2:=by
 refine ⟨?_,?_⟩
 ·unfold OwnS
  rw [List.length_append,List.map_append];exact hown2
 ·exact (Below.alloc hb hb.size X).grown hgr2 (by simp;have:=hb.size;omega) (fun k e => Nat.le_trans hB (World.ownsRow.lt hown k e).1)
theorem nums_yes {c:ByteArray} {N:List Nat} (hg:GoodN N) (hN:c.data.toList = cat e128 N) (w:World) (hs:c.size ≤ 1099511627) :
  Calls Tryz.prog 253 #[.string c] w fun e w' => (∃ g cap,e = .returned (.tuple #[.slice (some ⟨g,0,none⟩) N.length cap,.bool true]) ∧ ILie w' g N ∧ N.length ≤ cap) ∧ Below w.heap.size w w':=by
 refine (nums_any c w hs).mono ?_
 rintro e w' ⟨h,hb⟩
 refine ⟨?_,hb⟩
 rcases h with ⟨M,g,cap,h1,h2,h3,h4,h5,h6⟩ | ⟨h1,_⟩
 ·obtain rfl:M = N:=code_inj e128_code e128_ne (h2.symm.trans hN)
  exact ⟨g,cap,h3,h4,h6⟩
 ·exact absurd (dec_iff hg hN) (h1 _)
theorem nums_no {c:ByteArray} (h:∀ a,¬ Dec c.data.toList a) (w:World) (hs:c.size ≤ 1099511627) :
  Calls Tryz.prog 253 #[.string c] w fun e w' => (∃ v,e = .returned (.tuple #[v,.bool false])) ∧ Below w.heap.size w w':=by
 refine (nums_any c w hs).mono ?_
 rintro e w' ⟨h',hb⟩
 refine ⟨?_,hb⟩
 rcases h' with ⟨M,g,cap,h1,h2,_⟩ | ⟨_,h2⟩
 ·exact absurd (dec_iff h1 h2) (h _)
 ·exact h2
theorem itoaS (n:Nat) (w:World) (hn:n ≤ 9223372036854775807) (ht:Pow10 w) :
  Calls Tryz.prog 254 #[.int .i64 (n:Int)] w fun e w' => e = .returned (.string (decS n)) ∧ Below w.heap.size w w':=itoa_any n w hn ht
set_option maxRecDepth 100000 in
set_option maxHeartbeats 1000000 in
theorem decode_no {c:ByteArray} (h:∀ a,¬ Dec c.data.toList a) (w:World) (hs:c.size ≤ 1099511627) :
  Calls Tryz.prog 247 #[.string c] w fun e w' => e = .returned noVal ∧ Below w.heap.size w w':=by
 have HH:=Lib.hid h
 clear h
 go_enter Tryz.func247,Tryz.ntmps247
 go_wp2_with (go_at_call 253;(with_reducible refine (nums_no HH.out _ hs).mono ?_);rintro e w1 ⟨⟨v,rfl⟩,hb1⟩;have HB1:=Lib.hid hb1;clear hb1)
 go_ret2
 exact ⟨rfl,HB1.out⟩
theorem join_dec (a:List Nat):Lib.join ((a.map decS).map (·.data.toList)) [46] = txt a:=by
 rw [← join_txt,List.map_map]
 congr 1
set_option maxRecDepth 100000 in
set_option maxHeartbeats 2000000 in
theorem decode_yes {c:ByteArray} {N:List Nat} (hg:GoodN N) (hN:c.data.toList = cat e128 N) (w:World) (hs:c.size ≤ 1099511627) (ht:Pow10 w) :
  Calls Tryz.prog 247 #[.string c] w fun e w' => e = .returned (oidVal (arcsN N)) ∧ Below w.heap.size w w':=by
 obtain ⟨i0,hi,hz0,hz1,hz2⟩:=info_parts strInfo
 have HG:=Lib.hid hg
 have HN:=Lib.hid hN
 have HT:=Lib.hid ht
 obtain ⟨m,M,rfl⟩:∃ m M,N = m :: M:=by
  cases N with
  |nil => exact absurd hg.1 (by simp)
  |cons m M => exact ⟨m,M,rfl⟩
 have hM:M.length ≤ 10:=by have:=hg.2.1;simp at this;omega
 have hm:m ≤ 2147483727:=by simpa using hg.2.2.1
 have HMM:=Lib.hid (show ∀ v ∈ M,v ≤ 2147483647 from by simpa using hg.2.2.2)
 obtain ⟨q,hq⟩:∃ q,q = m / 40:=⟨_,rfl⟩
 have hqi:(m:Int) / 40 = (q:Int):=by omega
 obtain ⟨f,hf⟩:∃ f,f = min q 2:=⟨_,rfl⟩
 have hfi:min (q:Int) 2 = (f:Int):=by omega
 have hfb:f ≤ 2:=by omega
 have hf40:40 * f ≤ m:=by omega
 obtain ⟨z,hz⟩:∃ z,z = m - 40 * f:=⟨_,rfl⟩
 have hzi:(m:Int) - 40 * (f:Int) = (z:Int):=by omega
 have hzb:z ≤ 2147483727:=by omega
 have HAR:=Lib.hid (show ∀ k,(arcsN (m :: M.take k)).map decS = [decS f,decS z] ++ (M.take k).map decS from fun k => by rw [hz,hf,hq];simp [arcsN])
 clear hq hf hz hg hN ht hf40
 go_enter Tryz.func247,Tryz.ntmps247
 go_upto_region 5 with (go_at_call 253;(with_reducible refine (nums_yes HG.out HN.out _ hs).mono ?_);rintro e w1 ⟨⟨g,cap,rfl,hl,hcp⟩,hb1⟩;have HB1:=Lib.hid hb1;have HL:=Lib.hid hl;have hc0:=hl.cell 0 (by simp);simp only [List.length_cons] at hcp;simp only [List.getD_cons_zero] at hc0;clear hb1 hl)
 have hwr2:IntKind.i64.wrap (40 * (f:Int)) = 40 * (f:Int):=by rw [wrap_i64];omega
 have hwr3:IntKind.i64.wrap (z:Int) = (z:Int):=by rw [wrap_i64];omega
 have HB1D:=Lib.hid (show Below w.heap.size w w1.drew from Below.drew HB1.out)
 have HT1:=Lib.hid (HT.out.below HB1D.out)
 have BF:=Lib.hid (show f ≤ 9223372036854775807 by omega)
 have BZ:=Lib.hid (show z ≤ 9223372036854775807 by omega)
 go_region_with (first
  |(go_at_call 254;(with_reducible refine (itoaS f _ BF.out HT1.out).mono ?_);rintro e w2 ⟨rfl,hb2⟩;have HB2:=Lib.hid (below_next HB1D.out hb2);have HT2:=Lib.hid (HT.out.below HB2.out);have HL2:=Lib.hid (HL.out.below ((Below.refl _ w1).drew.trans hb2));have hc2:=HL2.out.cell 0 (by simp);simp only [List.getD_cons_zero] at hc2;clear hb2)
  |(go_at_call 254;(with_reducible refine (itoaS z _ BZ.out HT2.out).mono ?_);rintro e w3 ⟨rfl,hb3⟩;have HB3:=Lib.hid (below_next HB2.out hb3);have HL3:=Lib.hid (HL2.out.below hb3);clear hb3))
 all_goals
  have HO3:=Lib.hid (owns_two w3 (decS f) (decS z))
  have HB4:=Lib.hid (belowNew w3 (.cells #[.string (decS f),.string (decS z)] 9))
  clear hwr2 hwr3 hc0 hc2
  go_wp2_with fail
 all_goals
  go_loopw [7,35] (fun u i wr => ∃ (k:Nat) (D:List ByteArray),k ≤ M.length ∧ i = .int .i64 (k:Int) ∧ D = (arcsN (m :: M.take k)).map decS ∧ D.length = k + 2 ∧ OwnS wr w3.heap.size u D ∧ Below w3.heap.size w3 wr) (fun _ i _ => M.length - (intOf i).toNat)
  case atStart => exact ⟨0,_,by omega,rfl,rfl,by rw [HAR.out];rfl,by rw [HAR.out];exact HO3.out,HB4.out⟩
  case round =>
   obtain ⟨k,D,hk,rfl,hD,hDl,ho,hb⟩:=hrel
   have HB:=Lib.hid hb
   have HO:=Lib.hid ho
   have HD:=Lib.hid hD
   clear hb ho hD
   by_cases hlt:k < M.length
   ·have dk:decide ((k:Int) < (M.length:Int)) = true:=by simp;omega
    have hcx:wr.cell? ⟨g,1 + k,none⟩ = some (.int .i64 ((M.getD k 0:Nat):Int)):=by
     have h1:=(HL3.out.below HB.out).2 (k + 1) (by simp;omega)
     rw [Nat.add_comm 1 k,h1]
     simp
    have hxb:M.getD k 0 ≤ 2147483647:=by
     rw [List.getD_eq_getElem?_getD,List.getElem?_eq_getElem hlt]
     exact HMM.out _ (by simp)
    have HN2:=Lib.hid (show D ++ [decS (M.getD k 0)] = (arcsN (m :: M.take (k + 1))).map decS by
     rw [HD.out,HAR.out,HAR.out,List.append_assoc,List.take_add_one,List.getD_eq_getElem?_getD,List.getElem?_eq_getElem hlt,List.map_append]
     rfl)
    generalize M.getD k 0 = x at hcx hxb HN2
    have BX:=Lib.hid (show x ≤ 9223372036854775807 by omega)
    have HTR:=Lib.hid (HT.out.below (below_next HB3.out HB.out))
    go_wp2_with (first
     |(go_at_call 254;(with_reducible refine (itoaS x _ BX.out HTR.out).mono ?_);rintro e w5 ⟨rfl,hb5⟩;have HO5:=Lib.hid (own_below HO.out hb5);have HB5:=Lib.hid (below_next HB.out hb5);clear hb5)
     |(at_builtin;(refine wpList_append_own _ rfl (.tmp 39) (.tmp 42) 46 rfl w3.heap.size 9 i0 (.string ⟨#[]⟩) 1 16 Tryz.underlying46 hi hz0 hz1 hz2 rfl (by decide) _ D.length (D.map Value.string) rfl (HO5.out.alloc _) ⟨w5.heap.size,0,none⟩ 1 1 [.string (decS x)] rfl rfl (news_row w5 #[.string (decS x)] 9) (strs_one [decS x]) (by unfold maxLen;omega) (by omega) (by have:=HB5.out.size;simp;omega) ?_);intro v' w6 hown2 hgr2 _;obtain ⟨P1,P2⟩:=strs_round (Nat.le_refl _) HO5.out HB5.out hown2 hgr2;have HP1:=Lib.hid P1;have HP2:=Lib.hid P2;clear hown2 hgr2 P1 P2))
    all_goals
     go_roundw
     case rel => exact ⟨k + 1,D ++ [decS x],by omega,by go_num,HN2.out,by simp;omega,HP1.out,HP2.out⟩
     case measure => simp [intOf];omega
   ·obtain rfl:k = M.length:=by omega
    have dk:decide ((M.length:Int) < (M.length:Int)) = false:=by simp
    obtain ⟨h,cp,rfl,hh1,hh2,hh3⟩:=owns_form HO.out (fun e => by rw [e] at hDl;simp at hDl)
    have HDD:=Lib.hid (show D = (arcsN (m :: M)).map decS by rw [HD.out,List.take_of_length_le (Nat.le_refl _)])
    have HJ:=Lib.hid (show Lib.join (D.map (·.data.toList)) [46] = txt (arcsN (m :: M)) by rw [HDD.out,join_dec])
    have hjl:(Lib.join (D.map (·.data.toList)) [46]).length ≤ 140737488355328:=by
     rw [HJ.out]
     refine Nat.le_trans (txt_len _ (goodN_arcs HG.out).1.2.2.1) ?_
     have:=(goodN_arcs HG.out).1.2.1
     omega
    have HJL:=Lib.hid hjl
    have hDb:D.length ≤ 12:=by omega
    have HH3:=Lib.hid hh3
    clear hjl hh3 hlt hDl hk
    go_wp2_with (go_at_call 171;(with_reducible refine (join_any h 0 cp D ⟨#[46]⟩ _ HH3.out hh1 (by omega) hh2 HJL.out).mono ?_);rintro e w5 ⟨rfl,hb5⟩;have HB5:=Lib.hid (below_next HB.out hb5);clear hb5)
    go_ret2
    refine ⟨?_,below_next HB3.out HB5.out⟩
    show _ = Ending.returned (oidVal (arcsN (m :: M)))
    rw [oidVal,← HJ.out]
    rfl
end Go.Proofs.YtbpdenfiifcfcaaGreatDoor
