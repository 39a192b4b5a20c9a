/-
  General names of the generators: what they are encoded and written as is read as them. Nothing is claimed of the program here.
  Ranges of addresses: each is an address under a mask of some bits; what lies within two ranges makes them nested; within is passed on. Nothing is claimed of the program here.
  Constraints on names as lists: what Permits, Reduce and PermitsReduced answer; that what lies within two bases makes them nested, that bases that are the same have the same names, and that a reduced state permits what the state permits. Nothing is claimed of the program here.
  Constraints on names in memory: a row of pairs of rows of general names; and one name after the other. Nothing is claimed of the program here.
  Encodings of constraints on names: what Check, Encode and Decode of package subtree answer, and that the constraints of the generator are decoded as they were encoded, apart from the order of attributes. Nothing is claimed of the program here.
  The contract of divide of package subtree: the elements of which a sequence consists.
  The contract of decodeSubtree of package subtree: the base of one subtree.
  The contracts of the reference's In, limits and Permits.
  The contract of convert of package subtree over elements: the bases of the subtrees of a part.
  How long the parts are that Decode of package subtree returns. Nothing is claimed of the program here.
  The contract of cutPart of package subtree: the bases of a part, if the elements begin with it, and the elements behind it.
-/
import Derived.Test.YtbpdenfiifcfcaaGreatDoorLbf
import Derived.Test.YtbpdenfiifcfcaaGreatDoorLad
import Derived.Test.YtbpdenfiifcfcaaGreatDoorLaj
import Derived.Test.YtbpdenfiifcfcaaGreatDoorLax
import Derived.Test.YtbpdenfiifcfcaaGreatDoorLba
import Derived.Test.YtbpdenfiifcfcaaGreatDoorLao
import Derived.Test.YtbpdenfiifcfcaaGreatDoorLbe
import Derived.Test.YtbpdenfiifcfcaaGreatDoorLay
namespace Go.Proofs.YtbpdenfiifcfcaaGreatDoor
open Go.RowKit
/-- A general name of a generator: no constraint,or one. -/
def OkC (con:Bool) (k:Int) (t:List UInt8) (n:Nm):Prop:=if con = true then BseOk k t n else GenOk k t n
set_option maxRecDepth 100000 in
theorem okC_parts {con:Bool} {k:Int} {t:List UInt8} {n:Nm} (h:OkC con k t n):((k = 1 ∨ k = 2 ∨ k = 7) ∧ okT k con t = true ∧ n = [] ∧ t.length ≤ 64) ∨ (k = 4 ∧ t = [] ∧ MadeN n):=by
 unfold OkC at h
 cases con with
 |false =>
  rw [if_neg (by decide)] at h
  have hl:=(gen_len h).1
  rcases h with ⟨rfl,h,rfl⟩ | ⟨rfl,h,rfl⟩ | ⟨rfl,h,rfl⟩ | ⟨rfl,rfl,h⟩
  ·exact .inl ⟨.inl rfl,(show ∀ t ∈ genMail,mailB t = true by decide +kernel) t h,rfl,hl⟩
  ·exact .inl ⟨.inr (.inl rfl),(show ∀ t ∈ genDns,patB t = true by decide +kernel) t h,rfl,hl⟩
  ·exact .inl ⟨.inr (.inr rfl),(show ∀ t ∈ genAddr,addrB t = true by decide +kernel) t h,rfl,hl⟩
  ·exact .inr ⟨rfl,rfl,h⟩
 |true =>
  rw [if_pos rfl] at h
  have hl:=(bse_len h).1
  rcases h with ⟨rfl,h,rfl⟩ | ⟨rfl,h,rfl⟩ | ⟨rfl,h,rfl⟩ | ⟨rfl,rfl,h⟩
  ·exact .inl ⟨.inl rfl,(show ∀ t ∈ bseMail,mailBaseB t = true by decide +kernel) t h,rfl,hl⟩
  ·exact .inl ⟨.inr (.inl rfl),(show ∀ t ∈ bseDns,baseB t = true by decide +kernel) t h,rfl,hl⟩
  ·exact .inl ⟨.inr (.inr rfl),(show ∀ t ∈ bseAddr,rangeB t = true by decide +kernel) t h,rfl,hl⟩
  ·exact .inr ⟨rfl,rfl,h⟩
theorem okC_len {con:Bool} {k:Int} {t:List UInt8} {n:Nm} (h:OkC con k t n):t.length ≤ 64 ∧ MadeN n:=by
 rcases okC_parts h with ⟨_,_,rfl,hl⟩ | ⟨_,rfl,hn⟩
 ·exact ⟨hl,by decide,fun r hr => by cases hr⟩
 ·exact ⟨by decide,hn⟩
/-! ### Texts -/
/-! ### Lists -/
/-! ### Within,for every kind -/
theorem withinG_2 (t u:List UInt8) (n m:Nm):withinG 2 t n 2 u m = dnsWithinB t u:=by unfold withinG;rw [if_neg (by decide),if_neg (by decide),if_pos rfl]
/-! ### Bases that are the same -/
/-! ### States -/
abbrev GnS:=Int × List UInt8 × Nm
abbrev SubS:=List GnS × List GnS
noncomputable def wG (g b:GnS):Bool:=withinG g.1 g.2.1 g.2.2 b.1 b.2.1 b.2.2
noncomputable def inG (g:GnS) (l:List GnS):Bool:=l.any (wG g)
def limG (l:List GnS) (k:Int):Bool:=l.any (fun b => decide (b.1 = k))
noncomputable def perG (st:List SubS) (g:GnS):Bool:=st.all (fun s => !(inG g s.2 || limG s.1 g.1 && !inG g s.1))
abbrev Sub:=List Gn × List Gn
def noSub:Sub:=([],[])
/-- At the address lie the constraints l. -/
def SLies (w:World) (a:Option Addr) (l:List Sub):Prop :=
 l = [] ∨ ∃ b o,a = some ⟨b,o,none⟩ ∧ ∀ i,i < l.length → ∃ a1 c1 a2 c2,w.cell? ⟨b,o + i * 2,none⟩ = some (.slice a1 (l.getD i noSub).1.length c1) ∧ w.cell? ⟨b,o + i * 2 + 1,none⟩ = some (.slice a2 (l.getD i noSub).2.length c2) ∧
  ((l.getD i noSub).1.length ≤ c1 ∧ GLies w a1 (l.getD i noSub).1) ∧ (l.getD i noSub).2.length ≤ c2 ∧ GLies w a2 (l.getD i noSub).2
theorem SLies.below {w w':World} {a:Option Addr} {l:List Sub} (h:SLies w a l) (hb:Below w.heap.size w w'):SLies w' a l:=by
 rcases h with h | ⟨b,o,h1,h2⟩
 ·exact .inl h
 ·refine .inr ⟨b,o,h1,fun i hi => ?_⟩
  obtain ⟨a1,c1,a2,c2,e1,e2,⟨h3,h4⟩,h5,h6⟩:=h2 i hi
  exact ⟨a1,c1,a2,c2,(hb.cell (block_lt e1)).trans e1,(hb.cell (block_lt e2)).trans e2,⟨h3,h4.below hb⟩,h5,h6.below hb⟩
theorem SLies.at {w:World} {a:Option Addr} {l:List Sub} (h:SLies w a l) (k:Nat) (hk:k < l.length):∃ b o,a = some ⟨b,o,none⟩ ∧ b < w.heap.size ∧ ∃ a1 c1 a2 c2,w.cell? ⟨b,o + k * 2,none⟩ = some (.slice a1 (l.getD k noSub).1.length c1) ∧ w.cell? ⟨b,o + k * 2 + 1,none⟩ = some (.slice a2 (l.getD k noSub).2.length c2) ∧
  ((l.getD k noSub).1.length ≤ c1 ∧ GLies w a1 (l.getD k noSub).1) ∧ (l.getD k noSub).2.length ≤ c2 ∧ GLies w a2 (l.getD k noSub).2:=by
 rcases h with h | ⟨b,o,h1,h2⟩
 ·rw [h] at hk;exact absurd hk (Nat.not_lt_zero _)
 ·obtain ⟨a1,c1,a2,c2,e1,e2,h3,h4⟩:=h2 k hk
  exact ⟨b,o,h1,block_lt e1,a1,c1,a2,c2,e1,e2,h3,h4⟩
/-! ### One name after the other -/
theorem perG_step (g:Gn):∀ (l:List Sub) (k:Nat),k < l.length → perG (l.drop k) g = (!(inG g (l.getD k noSub).2 || limG (l.getD k noSub).1 g.1 && !inG g (l.getD k noSub).1) && perG (l.drop (k + 1)) g)
 |[],k,h => absurd h (Nat.not_lt_zero _)
 |b :: r,0,_ => rfl
 |b :: r,k + 1,h => by
  have:=perG_step g r k (by simpa using h)
  simpa using this
/-! ### What the generator makes -/
/-- Bounds under which the functions on general names are known. -/
def SmG (g:Gn):Prop:=g.2.1.length ≤ 150000 ∧ SmallN g.2.2
def SmL (l:List Gn):Prop:=∀ g ∈ l,SmG g
def SmS (L:List Sub):Prop:=∀ s ∈ L,SmL s.1 ∧ SmL s.2
theorem SmL.at {l:List Gn} (h:SmL l) {i:Nat} (hi:i < l.length):SmG (l.getD i noG):=by
 rw [List.getD_eq_getElem?_getD,List.getElem?_eq_getElem hi];exact h _ (List.getElem_mem hi)
theorem SmS.at {l:List Sub} (h:SmS l) {i:Nat} (hi:i < l.length):SmL (l.getD i noSub).1 ∧ SmL (l.getD i noSub).2:=by
 rw [List.getD_eq_getElem?_getD,List.getElem?_eq_getElem hi];exact h _ (List.getElem_mem hi)
def BsG (g:Gn):Prop:=BseOk g.1 g.2.1 g.2.2
/-- Constraints of the generator. -/
def GenB (s:Sub):Prop:=s.1.length ≤ 3 ∧ s.2.length ≤ 2 ∧ ¬ (s.1.length = 0 ∧ s.2.length = 0) ∧ (∀ g ∈ s.1,BsG g) ∧ ∀ g ∈ s.2,BsG g
noncomputable def eGt (g:Gn):ByteArray:=encG true g.1 g.2.1 g.2.2
noncomputable def xGt (g:Gn):Nat:=chkG true g.1 g.2.1 g.2.2
/-- The first error of a list of bases. -/
noncomputable def errT:List Gn → Nat
 |[] => 0
 |g :: r => if xGt g ≠ 0 then xGt g else errT r
noncomputable def chkS (s:Sub):Nat:=if s.1.length = 0 ∧ s.2.length = 0 then 7 else if 16 < s.1.length ∨ 16 < s.2.length then 2 else errT (s.1 ++ s.2)
noncomputable def treeB (g:Gn):ByteArray:=wr1 48 (eGt g)
noncomputable def treesB (l:List Gn):ByteArray:=⟨(cat_t (l.map treeB)).toArray⟩
noncomputable def fitB (T:Int) (x:ByteArray):ByteArray × Nat:=if x.size ≤ 131072 then (wr1 T x,0) else (⟨#[]⟩,2)
noncomputable def partB (T:Int) (l:List Gn):ByteArray × Nat:=if l.length = 0 then (⟨#[]⟩,0) else fitB T (treesB l)
noncomputable def encSub (s:Sub):ByteArray × Nat :=
 if chkS s ≠ 0 then (⟨#[]⟩,chkS s) else if (partB 160 s.1).2 ≠ 0 then (⟨#[]⟩,(partB 160 s.1).2) else if (partB 161 s.2).2 ≠ 0 then (⟨#[]⟩,(partB 161 s.2).2) else fitB 48 ⟨((partB 160 s.1).1.data.toList ++ (partB 161 s.2).1.data.toList).toArray⟩
/-! ### Decoding -/
noncomputable def decT1:List El → Nat × Gn
 |[] => (3,noG)
 |y :: r => if (decG true ((y.1:Nat):Int) y.2.1).1 ≠ 0 then ((decG true ((y.1:Nat):Int) y.2.1).1,noG) else if r ≠ [] then (4,noG) else (0,(decG true ((y.1:Nat):Int) y.2.1).2)
noncomputable def decTr (e:El):Nat × Gn:=if e.1 ≠ 48 then (5,noG) else if (lst e.2.1).2 ≠ 0 then ((lst e.2.1).2,noG) else decT1 (lst e.2.1).1
noncomputable def decTs:List El → Nat × List Gn
 |[] => (0,[])
 |e :: r => if (decTr e).1 ≠ 0 then ((decTr e).1,[]) else if (decTs r).1 ≠ 0 then ((decTs r).1,[]) else (0,(decTr e).2 :: (decTs r).2)
noncomputable def decPt (c:ByteArray):Nat × List Gn:=if (lst c).2 ≠ 0 then ((lst c).2,[]) else if (lst c).1.length = 0 then (7,[]) else decTs (lst c).1
noncomputable def mayP (T:Nat):List El → (Nat × List Gn) × List El
 |[] => ((0,[]),[])
 |x :: r => if x.1 = T then (decPt x.2.1,r) else ((0,[]),x :: r)
noncomputable def decF (L:List El):Nat × Sub :=
 if (mayP 160 L).1.1 ≠ 0 then ((mayP 160 L).1.1,([],[])) else if (mayP 161 (mayP 160 L).2).1.1 ≠ 0 then ((mayP 161 (mayP 160 L).2).1.1,([],[])) else if (mayP 161 (mayP 160 L).2).2 ≠ [] then (4,([],[]))
 else if chkS ((mayP 160 L).1.2,(mayP 161 (mayP 160 L).2).1.2) ≠ 0 then (chkS ((mayP 160 L).1.2,(mayP 161 (mayP 160 L).2).1.2),([],[])) else (0,((mayP 160 L).1.2,(mayP 161 (mayP 160 L).2).1.2))
noncomputable def decSub (b:ByteArray):Nat × Sub :=
 if oneErr b ≠ 0 then (oneErr b,([],[])) else if rdTag b ≠ 48 then (5,([],[])) else if (lst (rdContent b)).2 ≠ 0 then ((lst (rdContent b)).2,([],[])) else decF (lst (rdContent b)).1
/-! ### Back -/
def OkG (g:Gn):Prop:=OkC true g.1 g.2.1 g.2.2
theorem eGt_size {g:Gn} (h:OkG g):(eGt g).size ≤ 660:=encG_small (okC_len h).1 (okC_len h).2
theorem treeB_size {g:Gn} (h:OkG g):(treeB g).size ≤ 666:=by
 have h1:=wrapStr_le 48 (eGt g).data.toList
 have h2:=eGt_size h
 have h3:(eGt g).data.toList.length = (eGt g).size:=rfl
 show (wrapStr 48 (eGt g).data.toList).size ≤ 666
 omega
theorem catT_size:∀ (l:List Gn),(∀ g ∈ l,OkG g) → (cat_t (l.map treeB)).length ≤ 666 * l.length
 |[],_ => Nat.le_refl _
 |g :: r,h => by
  have h1:=catT_size r (fun x hx => h x (List.mem_cons_of_mem _ hx))
  have h2:=treeB_size (h g (by simp))
  have h3:(treeB g).data.toList.length = (treeB g).size:=rfl
  show ((treeB g).data.toList ++ cat_t (r.map treeB)).length ≤ 666 * (r.length + 1)
  rw [List.length_append]
  omega
def GenS (s:Sub):Prop:=s.1.length ≤ 16 ∧ s.2.length ≤ 16 ∧ ¬ (s.1.length = 0 ∧ s.2.length = 0) ∧ (∀ g ∈ s.1,OkG g) ∧ ∀ g ∈ s.2,OkG g
theorem opn_tag {x:El} {T:Nat} (h:x.1 ≠ T):opnE x T = 5 ∧ opnL x T = []:=⟨if_pos h,if_pos h⟩
theorem opn_ok {x:El} {T:Nat} (h:x.1 = T):opnE x T = (lst x.2.1).2 ∧ opnL x T = (lst x.2.1).1:=⟨if_neg (not_not_intro h),if_neg (not_not_intro h)⟩
set_option maxRecDepth 100000 in
set_option maxHeartbeats 4000000 in
theorem div_core (x:El) (w:World) (hx:x.2.1.size ≤ 1099511627776) :
  Calls Tryz.prog 65 #[elV x.1 x.2.1 x.2.2] w fun e w' => ∃ v,e = .returned (.tuple #[v,.int .i64 ((opnE x 48:Nat):Int)]) ∧ OwnE w' w.heap.size v (opnL x 48) ∧ Below w.heap.size w w':=by
 obtain ⟨t,ct,rw0⟩:=x
 unfold elV
 simp only at hx ⊢
 obtain ⟨W0,hW0⟩:∃ W0,W0 = w.alloc (.cells #[.int .i64 (t:Int),.string ct,.string rw0] 67):=⟨_,rfl⟩
 have hwr:=hW0.symm
 have hb0:Below w.heap.size w W0:=by rw [hW0];exact belowNew w _
 obtain ⟨c0,c1,c2,l0⟩:=el_facts (w:=W0) (g:=w.heap.size) (by rw [hW0];exact heap_alloc_new w _)
 have HB0:=Lib.hid hb0
 have HL:=Lib.hid (list_any ct W0 hx)
 by_cases ht:t = 48
 ·obtain ⟨o1,o2⟩:=opn_ok (x:=(t,ct,rw0)) (T:=48) ht
  rw [o1,o2]
  simp only
  have hq:((t:Int) != 48) = false:=by rw [ht];rfl
  generalize lst ct = L at HL ⊢
  obtain ⟨L1,L2⟩:=L
  simp only at HL ⊢
  clear hW0 hb0 hx ht o1 o2
  go_enter Tryz.func65,Tryz.ntmps65
  go_wp2_with (go_at_call 91;(with_reducible refine HL.out.mono ?_);rintro e w1 ⟨v,rfl,ho,hb1⟩;have HO:=Lib.hid ho;have HB1:=Lib.hid (below_next HB0.out hb1);clear hb1 ho)
  go_ret2
  exact ⟨v,rfl,own_base HO.out HB0.out.size,HB1.out⟩
 ·obtain ⟨o1,o2⟩:=opn_tag (x:=(t,ct,rw0)) (T:=48) ht
  rw [o1,o2]
  have hq:((t:Int) != 48) = true:=by simp;omega
  clear hW0 hb0 hx ht o1 o2 HL
  go_enter Tryz.func65,Tryz.ntmps65
  go_wp2_with fail
  go_ret2
  exact ⟨_,rfl,World.ownsRow_nil _ _ _ _,HB0.out⟩
/-- An error and a general name as decodeSubtree hands them back: beside an error the name says nothing. -/
def DRes (w:World) (G:Nat × Gn) (e:Ending) (w':World):Prop:=∃ (g:Gn) (s:Value),e = .returned (.tuple #[.agg #[.int .i64 g.1,.string (strOf g.2.1),s],.int .i64 ((G.1:Nat):Int)]) ∧ OwnN w' w.heap.size s g.2.2 ∧ Below w.heap.size w w' ∧ (G.1 = 0 → g = G.2)
theorem dres_of {w w':World} {E:Nat} {g:Gn} {G:Nat × Gn} {e:Ending} (h:GRes w (E,g) e w') (hE:E = G.1) (hg:G.1 = 0 → g = G.2):DRes w G e w':=by
 obtain ⟨s,h1,h2,h3⟩:=h
 subst hE
 exact ⟨g,s,h1,h2,h3,hg⟩
theorem decTr_opn (x:El):decTr x = if opnE x 48 ≠ 0 then (opnE x 48,noG) else decT1 (opnL x 48):=by
 unfold decTr
 by_cases h:x.1 = 48
 ·obtain ⟨o1,o2⟩:=opn_ok (x:=x) (T:=48) h
  rw [o1,o2,if_neg (not_not_intro h)]
 ·obtain ⟨o1,o2⟩:=opn_tag (x:=x) (T:=48) h
  rw [o1,if_pos h,if_pos (by decide)]
theorem opn_small {x:El} {n:Nat} (hx:x.2.1.size ≤ n):∀ y ∈ opnL x 48,y.2.1.size ≤ n:=by
 intro y hy
 unfold opnL at hy
 split at hy
 ·cases hy
 ·exact Nat.le_trans (lst_mem _ _ (Nat.le_refl _) y hy) hx
set_option maxRecDepth 100000 in
set_option maxHeartbeats 8000000 in
theorem dtree_core (x:El) (w:World) (hx:x.2.1.size ≤ 150000) (hT:Tab w) (hP:Pow10 w) (hmk:Mk w) :
  Calls Tryz.prog 93 #[elV x.1 x.2.1 x.2.2] w fun e w' => DRes w (decTr x) e w':=by
 have hsmall:=opn_small hx
 have hdec:=decTr_opn x
 obtain ⟨R,hR⟩:∃ R,R = decTr x:=⟨_,rfl⟩
 rw [← hR] at hdec ⊢
 obtain ⟨W0,hW0⟩:∃ W0,W0 = (w.alloc (.cells #[.int .i64 (x.1:Int),.string x.2.1,.string x.2.2] 67)).alloc (.cells #[.int .i64 0,.string ⟨#[]⟩,.slice none 0 0] 29):=⟨_,rfl⟩
 have hb0:Below w.heap.size w W0:=by rw [hW0];exact belowTwo w _ _
 obtain ⟨r,hr⟩:∃ r,r = w.heap.size + 1:=⟨_,rfl⟩
 have hqe:W0.heap[w.heap.size]? = some (.cells #[.int .i64 (x.1:Int),.string x.2.1,.string x.2.2] 67 (0,0)):=by
  rw [hW0];exact ((belowNew _ _).block _ (by simp)).trans (heap_alloc_new w _)
 have hqr:W0.heap[r]? = some (.cells #[.int .i64 0,.string ⟨#[]⟩,.slice none 0 0] 29 (0,0)):=by
  have h1:=heap_alloc_new (w.alloc (.cells #[.int .i64 (x.1:Int),.string x.2.1,.string x.2.2] 67)) (.cells #[.int .i64 0,.string ⟨#[]⟩,.slice none 0 0] 29)
  rw [show (w.alloc (.cells #[.int .i64 (x.1:Int),.string x.2.1,.string x.2.2] 67)).heap.size = r by rw [hr];simp] at h1
  rw [hW0];exact h1
 obtain ⟨c0,c1,c2,l0⟩:=three_facts hqe
 have HWR:=Lib.hid hW0.symm
 have HB0:=Lib.hid hb0
 have HQR:=Lib.hid hqr
 have hrr:w.heap.size ≤ r:=by omega
 have HRE:=Lib.hid hr
 have lr:r < W0.heap.size:=(Array.getElem?_eq_some_iff.1 hqr).1
 have HD:=Lib.hid (div_core x W0 (by omega))
 have HGD:=Lib.hid (fun (y:El) (hy:y ∈ opnL x 48) W (hb:Below w.heap.size w W) => gdec_core (y.1:Int) y.2.1 y.2.2 true W (hsmall y hy) (hT.below hb) (hP.below hb) (hmk.below hb))
 unfold elV at HD ⊢
 obtain ⟨E,hE⟩:∃ E,E = opnE x 48:=⟨_,rfl⟩
 obtain ⟨L,hL⟩:∃ L,L = opnL x 48:=⟨_,rfl⟩
 rw [← hE] at HD hdec
 rw [← hL] at HD HGD hdec
 have HDEC:=Lib.hid hdec
 obtain ⟨xt,xc,xr⟩:=x
 simp only at c0 c1 c2 HWR HD ⊢
 clear hW0 hb0 hqe hqr hr hR hT hP hmk hdec hE hL hx hsmall
 go_enter Tryz.func93,Tryz.ntmps93
 go_upto_region 1 with fail
 rw [HWR.out,← HRE.out]
 by_cases hz:E = 0
 ·subst hz
  cases L with
  |nil =>
   have HV:=Lib.hid (show R = (3,noG) from HDEC.out)
   go_wp2_with (go_at_call 65;(with_reducible refine HD.out.mono ?_);rintro e w1 ⟨v,rfl,ho,hb1⟩;obtain ⟨a1,k1,rfl,_,hea,_⟩:=ElAt.of ho;have HB1:=Lib.hid (below_next HB0.out hb1);have HR1:=Lib.hid ((hb1.block r lr).trans HQR.out);have HEA:=Lib.hid hea;clear ho hb1 hea;obtain ⟨v0,v1,v2,i0,i1,i2,lv⟩:=at_facts HR1.out)
   obtain ⟨q1,h9⟩:=gres_fin (E:=3) (k:=0) (u:=[]) (aq:=none) (cq:=0) (n:=[]) hrr HR1.out (OwnN.nil _ _) HB1.out HV.out
   exact bodyPost_ret (gnRes2 rfl _ _ r _ _ _ rfl q1) rfl (dres_of (g:=noG) (by rw [HV.out] at h9;exact h9) (by rw [HV.out]) (fun h => by rw [HV.out]))
  |cons y L =>
   obtain ⟨M,hM⟩:∃ M,M = (y :: L).length:=⟨_,rfl⟩
   have HML:=Lib.hid hM
   have hm0:((M:Int) == 0) = false:=by rw [hM];simp;omega
   have hm1:(0:Int) < (M:Int):=by rw [hM,List.length_cons];omega
   have hmz:0 < M:=by omega
   have HM1:=Lib.hid (show M = L.length + 1 from hM)
   obtain ⟨G,hG⟩:∃ G,G = decG true (y.1:Int) y.2.1:=⟨_,rfl⟩
   have HY:=Lib.hid (HGD.out y (by simp))
   rw [← hG] at HY
   have HV:=Lib.hid (show R = if G.1 ≠ 0 then (G.1,noG) else if L ≠ [] then (4,noG) else (0,G.2) by rw [hG];exact HDEC.out)
   obtain ⟨E1,q,u,n⟩:=G
   simp only at HV
   clear hM hG HGD HDEC
   go_upto_region 7 with (first
    |(go_at_call 65;(with_reducible refine HD.out.mono ?_);rintro e w1 ⟨v,rfl,ho,hb1⟩;obtain ⟨a1,k1,hv1,_,hea,_⟩:=ElAt.of ho;rw [← HML.out] at hv1;subst hv1;rcases hea with h | ⟨bb,oo,rfl,hc⟩;(· cases h);obtain ⟨y0,y1,y2⟩:=hc 0 (by simp);rw [Nat.zero_mul,Nat.add_zero] at y0 y1 y2;have y0':w1.cell? ⟨bb,oo,none⟩ = some (.int .i64 ((y.1:Nat):Int)):=y0;have y1':w1.cell? ⟨bb,oo + 1,none⟩ = some (.string y.2.1):=y1;have y2':w1.cell? ⟨bb,oo + 2,none⟩ = some (.string y.2.2):=y2;have HB1:=Lib.hid (below_next HB0.out hb1);have HR1:=Lib.hid ((hb1.block r lr).trans HQR.out);clear ho hb1 hc y0 y1 y2)
    |(go_at_call 115;(with_reducible refine (HY.out _ HB1.out).mono ?_);rintro e w2 ⟨s,rfl,hso,hb2⟩;obtain ⟨aq,cq,rfl,hcs,hrl⟩:=hso.lies;have HB2:=Lib.hid (below_next HB1.out hb2);have HR2:=Lib.hid ((hb2.block r (Array.getElem?_eq_some_iff.1 HR1.out).1).trans HR1.out);have HO2:=Lib.hid (hso.base HB1.out.size);clear hcs hrl hso hb2))
   obtain ⟨W3,hW3⟩:∃ W3,W3 = w2.alloc (.cells #[.int .i64 q,.string (strOf u),.slice aq n.length cq] 29):=⟨_,rfl⟩
   obtain ⟨g,hg⟩:∃ g,g = w2.heap.size:=⟨_,rfl⟩
   have hb3:Below w2.heap.size w2 W3:=by rw [hW3];exact belowNew w2 _
   have hq3:W3.heap[g]? = some (.cells #[.int .i64 q,.string (strOf u),.slice aq n.length cq] 29 (0,0)):=by rw [hW3,hg];exact heap_alloc_new w2 _
   rw [← hW3,← hg]
   have hr3:=(hb3.block r (Array.getElem?_eq_some_iff.1 HR2.out).1).trans HR2.out
   have hrg:r < g:=by rw [hg];exact (Array.getElem?_eq_some_iff.1 HR2.out).1
   obtain ⟨v0,v1,v2,i0,i1,i2,lv⟩:=at_facts hr3
   obtain ⟨g0,g1,g2,_,_,_,lg⟩:=at_facts hq3
   have HB3:=Lib.hid (below_next HB2.out hb3)
   have HR3:=Lib.hid hr3
   have HO3:=Lib.hid (HO2.out.below hb3)
   clear hW3 hg hb3 hq3 hr3 y0' y1' y2'
   by_cases hz:E1 = 0
   ·subst hz
    by_cases hL:L = []
    ·have hq:decide ((1:Int) < (M:Int)) = false:=by rw [HM1.out,hL];rfl
     have HV1:=Lib.hid (HV.out.trans ((if_neg (not_not_intro rfl)).trans (if_neg (not_not_intro hL))))
     clear hL
     go_wp2_with fail
     obtain ⟨q1,h9⟩:=gres_fin (E:=0) (k:=q) (u:=u) (aq:=aq) (cq:=cq) (n:=n) hrr HR3.out HO3.out HB3.out rfl
     exact bodyPost_ret (gnRes2 rfl _ _ r _ _ _ rfl q1) rfl (dres_of h9 (by rw [HV1.out]) (fun h => by rw [HV1.out]))
    ·have hq:decide ((1:Int) < (M:Int)) = true:=by
      have:0 < L.length:=List.length_pos_iff.2 hL
      rw [HM1.out];exact decide_eq_true (by omega)
     have HV1:=Lib.hid (HV.out.trans ((if_neg (not_not_intro rfl)).trans (if_pos hL)))
     clear hL
     go_wp2_with fail
     obtain ⟨q1,h9⟩:=gres_fin (E:=4) (k:=q) (u:=u) (aq:=aq) (cq:=cq) (n:=n) hrr HR3.out HO3.out HB3.out rfl
     exact bodyPost_ret (gnRes2 rfl _ _ r _ _ _ rfl q1) rfl (dres_of h9 (by rw [HV1.out]) (fun h => by rw [HV1.out] at h;cases h))
   ·have hz1:((E1:Int) == 0) = false:=by simp;omega
    have HV1:=Lib.hid (HV.out.trans (if_pos hz))
    have HZ:=Lib.hid hz
    clear hz
    go_wp2_with fail
    obtain ⟨q1,h9⟩:=gres_fin (E:=E1) (k:=q) (u:=u) (aq:=aq) (cq:=cq) (n:=n) hrr HR3.out HO3.out HB3.out rfl
    exact bodyPost_ret (gnRes2 rfl _ _ r _ _ _ rfl q1) rfl (dres_of h9 (by rw [HV1.out]) (fun h => absurd (by rw [HV1.out] at h;exact h) HZ.out))
 ·have hz1:=errno_ne hz
  have hz2:((E:Int) == 0) = false:=by simp;omega
  have HV:=Lib.hid (HDEC.out.trans (if_pos hz))
  clear hz
  go_wp2_with (go_at_call 65;(with_reducible refine HD.out.mono ?_);rintro e w1 ⟨v,rfl,ho,hb1⟩;obtain ⟨a1,k1,rfl,_,hea,_⟩:=ElAt.of ho;have HB1:=Lib.hid (below_next HB0.out hb1);have HR1:=Lib.hid ((hb1.block r lr).trans HQR.out);have HEA:=Lib.hid hea;clear ho hb1 hea;obtain ⟨v0,v1,v2,i0,i1,i2,lv⟩:=at_facts HR1.out)
  obtain ⟨q1,h9⟩:=gres_fin (E:=E) (k:=0) (u:=[]) (aq:=none) (cq:=0) (n:=[]) hrr HR1.out (OwnN.nil _ _) HB1.out HV.out
  exact bodyPost_ret (gnRes2 rfl _ _ r _ _ _ rfl q1) rfl (dres_of (g:=noG) (by rw [HV.out] at h9;exact h9) (by rw [HV.out]) (fun h => by rw [HV.out]))
theorem two_facts {w:World} {g:Nat} {x y:Value} {t:TypeId} (h:w.heap[g]? = some (.cells #[x,y] t (0,0))) :
  w.cell? ⟨g,0,none⟩ = some x ∧ w.cell? ⟨g,1,none⟩ = some y ∧ g < w.heap.size:=by
 refine ⟨?_,?_,(Array.getElem?_eq_some_iff.1 h).1⟩ <;> (rw [Lib.cell_of_heap h];rfl)
theorem heap_first (w:World) (o p:Obj):((w.alloc o).alloc p).heap[w.heap.size]? = (w.alloc o).heap[w.heap.size]?:=(belowNew (w.alloc o) p).block _ (by simp)
theorem heap_second (w:World) (o:Obj) (cs:Array Value) (T:TypeId):((w.alloc o).alloc (.cells cs T)).heap[w.heap.size + 1]? = some (.cells cs T (0,0)):=by
 have:=heap_alloc_new (w.alloc o) (.cells cs T)
 simpa using this
def noE0:El:=(0,⟨#[]⟩,⟨#[]⟩)
theorem decTs_all:∀ {l:List El},(∀ j,j < l.length → (decTr (l.getD j noE0)).1 = 0) → decTs l = (0,l.map fun e => (decTr e).2)
 |[],_ => rfl
 |e :: r,h => by
  have h0:(decTr e).1 = 0:=h 0 (by simp)
  have h1:=decTs_all (l:=r) (fun j hj => by simpa using h (j + 1) (by simpa using hj))
  show (if (decTr e).1 ≠ 0 then ((decTr e).1,[]) else if (decTs r).1 ≠ 0 then ((decTs r).1,[]) else (0,(decTr e).2 :: (decTs r).2)) = _
  rw [if_neg (not_not_intro h0),h1,if_neg (by simp)]
  rfl
theorem decTs_err:∀ {l:List El} {k:Nat},k < l.length → (∀ j,j < k → (decTr (l.getD j noE0)).1 = 0) → (decTr (l.getD k noE0)).1 ≠ 0 → decTs l = ((decTr (l.getD k noE0)).1,[])
 |[],k,h,_,_ => absurd h (Nat.not_lt_zero _)
 |e :: r,0,_,_,h => by
  show (if (decTr e).1 ≠ 0 then ((decTr e).1,[]) else if (decTs r).1 ≠ 0 then ((decTs r).1,[]) else (0,(decTr e).2 :: (decTs r).2)) = _
  rw [if_pos (show (decTr e).1 ≠ 0 from h)]
  rfl
 |e :: r,k + 1,hk,ha,h => by
  have h0:(decTr e).1 = 0:=ha 0 (by omega)
  have hh:(decTr (r.getD k noE0)).1 ≠ 0:=by simpa using h
  have h1:=decTs_err (l:=r) (k:=k) (by simpa using hk) (fun j hj => by simpa using ha (j + 1) (by omega)) hh
  show (if (decTr e).1 ≠ 0 then ((decTr e).1,[]) else if (decTs r).1 ≠ 0 then ((decTs r).1,[]) else (0,(decTr e).2 :: (decTs r).2)) = _
  rw [if_neg (not_not_intro h0),h1,if_pos hh]
  simp
theorem gns_make2 (n:Nat) (hn:n ≤ 1000000) (W:World):∃ cs:Array Value,cs.size = n * 3 ∧ (Instr.makeSlice 22 (.int .i64 (n:Int)) (.int .i64 (n:Int))).run Tryz.prog W = .ok (.slice (some ⟨W.heap.size,0,none⟩) n n) (W.alloc (.cells cs 29)):=by
 obtain ⟨i0,hi,hz0,hz1,hz2⟩:=info_parts gInfo
 have hr:=run_makeSlice (P:=Tryz.prog) W 22 29 i0 (.agg #[.int .i64 0,.string ⟨#[]⟩,.slice none 0 0]) Tryz.underlying22 hi hz0 .i64 .i64 (n:Int) (n:Int) (by omega) (Int.le_refl _) (by rw [hz1];simp;omega) (by rw [hz2];omega) (by omega)
 rw [hz1] at hr
 refine ⟨madeCells (Value.agg #[.int .i64 0,.string ⟨#[]⟩,.slice none 0 0]).cells (n * 3),by simp [madeCells],?_⟩
 rw [hr]
 simp
/-- The function numbered f decodes one subtree. -/
def DecsF (f:Nat) (w:World):Prop:=∀ (x:El) (W:World),Below w.heap.size w W → x.2.1.size ≤ 150000 → Calls Tryz.prog f #[elV x.1 x.2.1 x.2.2] W fun e w' => DRes W (decTr x) e w'
set_option maxRecDepth 100000 in
set_option maxHeartbeats 4000000 in
theorem convd_core (f:Nat) (eg:∀ args w,(callFunc f args).run Tryz.prog w = .ok (.enter f args) w) (a0:Option Addr) (c m:Nat) (l:List El) (w:World) (hf:DecsF f w) (h:ElAt w a0 l) (hm:m = l.length) (hmm:m ≤ 1000000) (hs:∀ j,j < l.length → (l.getD j noE0).2.1.size ≤ 150000) :
  Calls Tryz.prog 92 #[.slice a0 m c,.func (.func f) #[] #[]] w fun e w' => ∃ v,e = .returned (.tuple #[v,.int .i64 (((decTs l).1:Nat):Int)]) ∧ ((decTs l).1 = 0 → ∃ g,v = .slice (some ⟨g,0,none⟩) m m ∧ GRow w' w.heap.size g m (decTs l).2 ∧ w.heap.size ≤ g) ∧ ((decTs l).1 ≠ 0 → v = .slice none 0 0) ∧ Below w.heap.size w w':=by
 obtain ⟨cs,hcs,hmk⟩:=gns_make2 m (by omega) w
 obtain ⟨W0,hW0⟩:∃ W0,W0 = w.alloc (.cells cs 29):=⟨_,rfl⟩
 have hb0:Below w.heap.size w W0:=by rw [hW0];exact belowNew w _
 have hq0:GRow W0 w.heap.size w.heap.size m []:=⟨cs,by rw [hW0];exact heap_alloc_new w _,hcs,[],rfl,fun i j hi => absurd hi (Nat.not_lt_zero _),fun i hi => absurd hi (Nat.not_lt_zero _)⟩
 obtain ⟨g,hg⟩:∃ g,g = w.heap.size:=⟨_,rfl⟩
 have HWE:=Lib.hid hW0.symm
 have HB0:=Lib.hid hb0
 have HQ0:=Lib.hid (show GRow W0 w.heap.size g m [] by rw [hg];exact hq0)
 have HG:=Lib.hid hg
 have H1:=Lib.hid h
 have HN:=Lib.hid hm
 have HS:=Lib.hid hs
 have HF:=Lib.hid hf
 clear h hm hs hf hW0 hb0 hq0 hg hcs
 go_enter Tryz.func92,Tryz.ntmps92
 go_wp2_with fail
 rw [HWE.out,← HG.out]
 clear hmk
 go_loopw [15] (fun i wr => ∃ k:Nat,k ≤ m ∧ i = .int .i64 (k:Int) ∧ (∀ j,j < k → (decTr (l.getD j noE0)).1 = 0) ∧ GRow wr w.heap.size g m ((l.take k).map fun e => (decTr e).2) ∧ Below w.heap.size w wr) (fun i _ => m - (intOf i).toNat)
 case atStart => exact ⟨0,Nat.zero_le _,rfl,fun j hj => absurd hj (Nat.not_lt_zero _),HQ0.out,HB0.out⟩
 case round =>
  obtain ⟨wz,hwz⟩:∃ wz,wz = wr:=⟨_,rfl⟩
  subst hwz
  obtain ⟨k,hk,rfl,ha,hq,hb⟩:=hrel
  have HB:=Lib.hid hb
  have HQ:=Lib.hid hq
  have HA:=Lib.hid ha
  clear hb hq ha
  by_cases hlt:k < m
  ·have hd:decide ((k:Int) < (m:Int)) = true:=by simp;omega
   have hkl:k < l.length:=by rw [← HN.out];exact hlt
   have hki:(k:Int) < (m:Int):=by omega
   have hE:=H1.out
   rcases hE with h | ⟨b,o,rfl,hc⟩
   ·rw [h] at hkl;exact absurd hkl (Nat.not_lt_zero _)
   obtain ⟨e0,e1,e2⟩:=hc k hkl
   have f0:=(HB.out.cell (p:=⟨b,o + k * 3,none⟩) (block_lt e0)).trans e0
   have f1:=(HB.out.cell (p:=⟨b,o + k * 3 + 1,none⟩) (block_lt e0)).trans e1
   have f2:=(HB.out.cell (p:=⟨b,o + k * 3 + 2,none⟩) (block_lt e0)).trans e2
   have hsz:=HS.out k hkl
   have hst:(l.take (k + 1)).map (fun e => (decTr e).2) = (l.take k).map (fun e => (decTr e).2) ++ [(decTr (l.getD k noE0)).2]:=by rw [takeD l k hkl noE0];simp
   have hbad:=fun h => decTs_err (l:=l) (k:=k) hkl HA.out h
   have hgood:(decTr (l.getD k noE0)).1 = 0 → ∀ j,j < k + 1 → (decTr (l.getD j noE0)).1 = 0:=fun h j hj => by
    by_cases e:j = k
    ·rw [e];exact h
    ·exact HA.out j (by omega)
   obtain ⟨x,hx⟩:∃ x,x = l.getD k noE0:=⟨_,rfl⟩
   have hx0:l.getD k (0,⟨#[]⟩,⟨#[]⟩) = x:=hx.symm
   rw [hx0] at f0 f1 f2
   rw [← hx] at hsz hst hbad hgood
   obtain ⟨W2,hW2⟩:∃ W2,W2 = wz.alloc (.cells #[.int .i64 ((x.1:Nat):Int),.string x.2.1,.string x.2.2] 67):=⟨_,rfl⟩
   have hb2:Below wz.heap.size wz W2:=by rw [hW2];exact belowNew wz _
   obtain ⟨g0,g1,g2,_⟩:=three_facts (w:=W2) (g:=wz.heap.size) (by rw [hW2];exact heap_alloc_new wz _)
   have HB2:=Lib.hid (below_next HB.out hb2)
   have HQ2:=Lib.hid (HQ.out.below hb2)
   have HCH:=Lib.hid (HF.out x W2 HB2.out hsz)
   unfold elV at HCH
   obtain ⟨R,hR⟩:∃ R,R = decTr x:=⟨_,rfl⟩
   rw [← hR] at HCH hst hbad hgood
   obtain ⟨E,G⟩:=R
   simp only at hst hbad hgood
   have HST:=Lib.hid hst
   have HBAD:=Lib.hid hbad
   have HGOOD:=Lib.hid hgood
   have HLL:=Lib.hid (show k = ((l.take k).map fun e => (decTr e).2).length by rw [List.length_map,List.length_take,← HN.out];omega)
   have hWE:=hW2.symm
   clear e0 e1 e2 hc hsz hst hbad hgood hx hx0 hR hW2 hb2 hkl HQ
   by_cases hz:E = 0
   ·subst hz
    have HGD:=Lib.hid (HGOOD.out rfl)
    clear HGOOD HBAD
    go_wp2_with (go_at_fn f;refine HCH.out.mono ?_;rintro e w1 ⟨gg,s,rfl,ho,hb1,hG⟩;obtain ⟨aq,cq,rfl,_,_⟩:=ho.lies;obtain rfl:=hG rfl;have HQ1:=Lib.hid (HQ2.out.below hb1);have HO1:=Lib.hid (ho.base HB2.out.size);have HB1:=Lib.hid (below_next HB2.out hb1);obtain ⟨⟨z0,hz0⟩,hf0⟩:=HQ1.out.cell (k * 3) (by omega);obtain ⟨⟨z1,hz1⟩,hf1⟩:=HQ1.out.cell (k * 3 + 1) (by omega);obtain ⟨⟨z2,hz2⟩,hf2⟩:=HQ1.out.cell (k * 3 + 2) (by omega);clear ho hb1 hG)
    go_roundw
    case rel => exact ⟨k + 1,by omega,by go_num,HGD.out,by rw [HST.out];exact HQ1.out.put HLL.out hlt HO1.out,((HB1.out.setCell (p:=⟨g,k * 3,none⟩) (by rw [HG.out];exact Nat.le_refl _) _).setCell (p:=⟨g,k * 3 + 1,none⟩) (by rw [HG.out];exact Nat.le_refl _) _).setCell (p:=⟨g,k * 3 + 2,none⟩) (by rw [HG.out];exact Nat.le_refl _) _⟩
    case measure => simp [intOf];omega
   ·have hzz:=errno_ne hz
    have HZ:=Lib.hid (HBAD.out hz)
    have HNZ:=Lib.hid hz
    clear hz
    go_wp2_with (go_at_fn f;refine HCH.out.mono ?_;rintro e w1 ⟨gg,s,rfl,ho,hb1,hG⟩;obtain ⟨aq,cq,rfl,_,_⟩:=ho.lies;have HQ1:=Lib.hid (HQ2.out.below hb1);have HB1:=Lib.hid (below_next HB2.out hb1);obtain ⟨⟨z0,hz0⟩,hf0⟩:=HQ1.out.cell (k * 3) (by omega);obtain ⟨⟨z1,hz1⟩,hf1⟩:=HQ1.out.cell (k * 3 + 1) (by omega);obtain ⟨⟨z2,hz2⟩,hf2⟩:=HQ1.out.cell (k * 3 + 2) (by omega);clear ho hb1 hG)
    go_ret2
    exact ⟨_,by rw [HZ.out];rfl,fun h => absurd (by rw [HZ.out] at h;exact h) HNZ.out,fun _ => rfl,((HB1.out.setCell (p:=⟨g,k * 3,none⟩) (by rw [HG.out];exact Nat.le_refl _) _).setCell (p:=⟨g,k * 3 + 1,none⟩) (by rw [HG.out];exact Nat.le_refl _) _).setCell (p:=⟨g,k * 3 + 2,none⟩) (by rw [HG.out];exact Nat.le_refl _) _⟩
  ·have hd:decide ((k:Int) < (m:Int)) = false:=by simp;omega
   have HE:=Lib.hid (decTs_all (l:=l) (fun j hj => HA.out j (by rw [← HN.out] at hj;omega)))
   have HR:=Lib.hid (show GRow wz w.heap.size g m (l.map fun e => (decTr e).2) by have:=HQ.out;rwa [List.take_of_length_le (by rw [← HN.out];omega)] at this)
   go_wp2_with fail
   go_ret2
   exact ⟨_,by rw [HE.out];rfl,fun _ => ⟨g,rfl,by rw [HE.out];exact HR.out,by rw [HG.out];exact Nat.le_refl _⟩,fun h => absurd (by rw [HE.out]) h,HB.out⟩
theorem smG_no:SmG noG:=⟨Nat.zero_le _,by decide,fun i hi => absurd hi (Nat.not_lt_zero _)⟩
theorem decG_txz {con:Bool} {T:Int} {ct:ByteArray} (h:ct.size ≤ 150000):(decG con T ct).2.2.1.length ≤ 150000:=by
 have e:ct.data.toList.length = ct.size:=rfl
 unfold decG
 split
 ·split
  ·show ct.data.toList.length ≤ _;omega
  ·exact Nat.zero_le _
 ·split
  ·split <;> exact Nat.zero_le _
  ·exact Nat.zero_le _
theorem decT1_small:∀ {l:List El},(∀ e ∈ l,e.2.1.size ≤ 150000) → SmG (decT1 l).2
 |[],_ => smG_no
 |y :: r,h => by
  have hy:=h y (by simp)
  by_cases h1:(decG true ((y.1:Nat):Int) y.2.1).1 = 0
  ·by_cases h2:r = []
   ·rw [show decT1 (y :: r) = (0,(decG true ((y.1:Nat):Int) y.2.1).2) from (if_neg (not_not_intro h1)).trans (if_neg (not_not_intro h2))]
    exact ⟨decG_txz hy,decG_small hy⟩
   ·rw [show decT1 (y :: r) = (4,noG) from (if_neg (not_not_intro h1)).trans (if_pos h2)]
    exact smG_no
  ·rw [show decT1 (y :: r) = ((decG true ((y.1:Nat):Int) y.2.1).1,noG) from if_pos h1]
   exact smG_no
theorem decTr_small {x:El} (hx:x.2.1.size ≤ 150000):SmG (decTr x).2:=by
 rw [decTr_opn]
 split
 ·exact smG_no
 ·exact decT1_small (opn_small hx)
theorem decTs_small:∀ {l:List El},(∀ e ∈ l,e.2.1.size ≤ 150000) → SmL (decTs l).2
 |[],_ => fun _ hg => by cases hg
 |e :: r,h => by
  have h1:=decTs_small (l:=r) (fun x hx => h x (List.mem_cons_of_mem _ hx))
  show SmL (if (decTr e).1 ≠ 0 then ((decTr e).1,[]) else if (decTs r).1 ≠ 0 then ((decTs r).1,[]) else (0,(decTr e).2 :: (decTs r).2)).2
  split
  ·exact fun _ hg => by cases hg
  ·split
   ·exact fun _ hg => by cases hg
   ·intro g hg
    rcases List.mem_cons.1 hg with rfl | hg
    ·exact decTr_small (h e (by simp))
    ·exact h1 g hg
theorem decTs_len:∀ {l:List El},(decTs l).1 = 0 → (decTs l).2.length = l.length
 |[],_ => rfl
 |e :: r,h => by
  have h2:(if (decTr e).1 ≠ 0 then ((decTr e).1,[]) else if (decTs r).1 ≠ 0 then ((decTs r).1,[]) else (0,(decTr e).2 :: (decTs r).2)).1 = 0:=h
  show (if (decTr e).1 ≠ 0 then ((decTr e).1,[]) else if (decTs r).1 ≠ 0 then ((decTs r).1,[]) else (0,(decTr e).2 :: (decTs r).2)).2.length = r.length + 1
  split at h2
  ·rename_i h3;exact absurd h2 h3
  ·rename_i h3
   split at h2
   ·rename_i h4;exact absurd h2 h4
   ·rename_i h4
    rw [if_neg h3,if_neg h4,List.length_cons,decTs_len (l:=r) (by omega)]
theorem decTs_le (l:List El):(decTs l).2.length ≤ l.length:=by
 by_cases h:(decTs l).1 = 0
 ·rw [decTs_len h];exact Nat.le_refl _
 ·cases l with
  |nil => exact Nat.le_refl _
  |cons e r =>
   have h2:¬ (if (decTr e).1 ≠ 0 then ((decTr e).1,[]) else if (decTs r).1 ≠ 0 then ((decTs r).1,[]) else (0,(decTr e).2 :: (decTs r).2)).1 = 0:=h
   show (if (decTr e).1 ≠ 0 then ((decTr e).1,[]) else if (decTs r).1 ≠ 0 then ((decTs r).1,[]) else (0,(decTr e).2 :: (decTs r).2)).2.length ≤ _
   split
   ·exact Nat.zero_le _
   ·rename_i h3
    rw [if_neg h3] at h2
    split
    ·exact Nat.zero_le _
    ·rename_i h4
     rw [if_neg h4] at h2
     exact absurd rfl h2
theorem decPt_small {c:ByteArray} (h:c.size ≤ 150000):SmL (decPt c).2 ∧ (decPt c).2.length ≤ 150000:=by
 unfold decPt
 split
 ·exact ⟨fun _ hg => (by cases hg),Nat.zero_le _⟩
 ·split
  ·exact ⟨fun _ hg => (by cases hg),Nat.zero_le _⟩
  ·exact ⟨decTs_small fun e he => Nat.le_trans (lst_mem _ c (Nat.le_refl _) e he) h,Nat.le_trans (decTs_le _) (lst_length c _ h)⟩
theorem mayP_small {T:Nat}:∀ {L:List El},(∀ e ∈ L,e.2.1.size ≤ 150000) → (SmL (mayP T L).1.2 ∧ (mayP T L).1.2.length ≤ 150000) ∧ ∀ e ∈ (mayP T L).2,e.2.1.size ≤ 150000
 |[],_ => ⟨⟨fun _ hg => (by cases hg),Nat.zero_le _⟩,fun _ hg => (by cases hg)⟩
 |x :: r,h => by
  show (SmL (if x.1 = T then (decPt x.2.1,r) else ((0,[]),x :: r)).1.2 ∧ (if x.1 = T then (decPt x.2.1,r) else ((0,[]),x :: r)).1.2.length ≤ 150000) ∧ ∀ e ∈ (if x.1 = T then (decPt x.2.1,r) else ((0,[]),x :: r)).2,e.2.1.size ≤ 150000
  split
  ·exact ⟨decPt_small (h x (by simp)),fun e he => h e (List.mem_cons_of_mem _ he)⟩
  ·exact ⟨⟨fun _ hg => (by cases hg),Nat.zero_le _⟩,h⟩
/-- General names in a row made by one make,or none. -/
def LieG (w:World) (a:Option Addr) (n:Nat) (l:List Gn):Prop:=l = [] ∨ ∃ g B,a = some ⟨g,0,none⟩ ∧ GRow w B g n l
theorem LieG.nil (w:World) (a:Option Addr) (n:Nat):LieG w a n []:=.inl rfl
theorem LieG.below {w w':World} {a:Option Addr} {n:Nat} {l:List Gn} (h:LieG w a n l) (hb:Below w.heap.size w w'):LieG w' a n l:=by
 rcases h with h | ⟨g,B,h1,h2⟩
 ·exact .inl h
 ·exact .inr ⟨g,B,h1,h2.below hb⟩
theorem LieG.lies {w:World} {a:Option Addr} {n:Nat} {l:List Gn} (h:LieG w a n l):GLies w a l:=by
 rcases h with h | ⟨g,B,rfl,h2⟩
 ·exact .inl h
 ·exact h2.lies
theorem GRow.apart {w w':World} {B G n g:Nat} {l:List Gn} {T:TypeId} {cs:Array Value} {f:Nat × Nat} (h:GRow w B G n l) (hc:w.heap[g]? = some (.cells cs T f)) (h0:T ≠ 29) (h1:T ≠ 86) (h2:T ≠ 84) (hg:But g w w'):GRow w' B G n l:=by
 obtain ⟨ds,q1,q2,ss,q3,q4,q5⟩:=h
 have hne:G ≠ g:=fun e => by
  subst e
  rw [q1] at hc
  obtain ⟨_,rfl,_⟩:ds = cs ∧ 29 = T ∧ (0,0) = f:=by simpa using hc
  exact h0 rfl
 exact ⟨ds,(hg.block G (Array.getElem?_eq_some_iff.1 q1).1 (by simpa using hne)).trans q1,q2,ss,q3,q4,fun i hi => (q5 i hi).apart hc h1 h2 hg⟩
theorem LieG.apart {w w':World} {a:Option Addr} {n g:Nat} {l:List Gn} {T:TypeId} {cs:Array Value} {f:Nat × Nat} (h:LieG w a n l) (hc:w.heap[g]? = some (.cells cs T f)) (h0:T ≠ 29) (h1:T ≠ 86) (h2:T ≠ 84) (hg:But g w w'):LieG w' a n l:=by
 rcases h with h | ⟨G,B,e,h3⟩
 ·exact .inl h
 ·exact .inr ⟨G,B,e,h3.apart hc h0 h1 h2 hg⟩
/-- What cutPart hands back: beside an error the lists say nothing. -/
def CRes (w:World) (R:(Nat × List Gn) × List El) (e:Ending) (w':World):Prop :=
 ∃ (a1 a2:Option Addr) (n1 c1 n2 c2:Nat),e = .returned (.tuple #[.slice a1 n1 c1,.slice a2 n2 c2,.int .i64 ((R.1.1:Nat):Int)]) ∧ (R.1.1 = 0 → (n1 = R.1.2.length ∧ n1 ≤ c1 ∧ (a1 = none → c1 = 0) ∧ LieG w' a1 n1 R.1.2) ∧ n2 = R.2.length ∧ n2 ≤ c2 ∧ ElAt w' a2 R.2) ∧ Below w.heap.size w w'
theorem decsF_ok (w:World) (hT:Tab w) (hP:Pow10 w) (hmk:Mk w):DecsF 93 w:=fun x W hb hx => dtree_core x W hx (hT.below hb) (hP.below hb) (hmk.below hb)
theorem mayP_no {T:Nat} {x:El} {r:List El} (h:x.1 ≠ T):mayP T (x :: r) = ((0,[]),x :: r):=if_neg h
theorem mayP_yes {T:Nat} {x:El} {r:List El} (h:x.1 = T):mayP T (x :: r) = (decPt x.2.1,r):=if_pos h
theorem decPt_err {c:ByteArray} (h:(lst c).2 ≠ 0):decPt c = ((lst c).2,[]):=by unfold decPt;rw [if_pos h]
theorem decPt_none {c:ByteArray} (h:(lst c).2 = 0) (h0:(lst c).1.length = 0):decPt c = (7,[]):=by unfold decPt;rw [if_neg (not_not_intro h),if_pos h0]
theorem decPt_go {c:ByteArray} (h:(lst c).2 = 0) (h0:(lst c).1.length ≠ 0):decPt c = decTs (lst c).1:=by unfold decPt;rw [if_neg (not_not_intro h),if_neg h0]
theorem elAt_tail {w:World} {b o:Nat} {x:El} {r:List El} {a1:Option Addr} (hc:∀ k,k < (x :: r).length → w.cell? ⟨b,o + k * 3,none⟩ = some (.int .i64 ((((x :: r).getD k (0,⟨#[]⟩,⟨#[]⟩)).1:Nat):Int)) ∧ w.cell? ⟨b,o + k * 3 + 1,none⟩ = some (.string ((x :: r).getD k (0,⟨#[]⟩,⟨#[]⟩)).2.1) ∧ w.cell? ⟨b,o + k * 3 + 2,none⟩ = some (.string ((x :: r).getD k (0,⟨#[]⟩,⟨#[]⟩)).2.2))
  (h1:1 < (x :: r).length → a1 = some ⟨b,o + 3,none⟩):ElAt w a1 r:=by
 cases r with
 |nil => exact .inl rfl
 |cons y r =>
  refine .inr ⟨b,o + 3,h1 (by simp),fun k hk => ?_⟩
  obtain ⟨e0,e1,e2⟩:=hc (k + 1) (by simpa using hk)
  rw [show o + (k + 1) * 3 = o + 3 + k * 3 by omega] at e0 e1 e2
  exact ⟨e0,e1,e2⟩
set_option maxRecDepth 100000 in
set_option maxHeartbeats 4000000 in
theorem cut_core (T:Nat) (a0:Option Addr) (c m:Nat) (L:List El) (w:World) (h:ElAt w a0 L) (hm:m = L.length) (hmc:m ≤ c) (hs:∀ e ∈ L,e.2.1.size ≤ 150000) (hT:Tab w) (hP:Pow10 w) (hmk:Mk w) :
  Calls Tryz.prog 66 #[.slice a0 m c,.int .i64 ((T:Nat):Int)] w fun e w' => CRes w (mayP T L) e w':=by
 cases L with
 |nil =>
  obtain rfl:m = 0:=hm
  clear h hs hT hP hmk
  go_enter Tryz.func66,Tryz.ntmps66
  go_wp2_with fail
  go_ret3
  exact ⟨none,a0,0,0,0,c,rfl,fun _ => ⟨⟨rfl,Nat.le_refl _,fun _ => rfl,.inl rfl⟩,rfl,hmc,.inl rfl⟩,Below.refl _ _⟩
 |cons x r =>
  rcases h with h | ⟨b,o,rfl,hc⟩
  ·cases h
  have hx0:=hs x (by simp)
  have hm0:((m:Int) == 0) = false:=by rw [hm];simp;omega
  have hmi:(0:Int) < (m:Int):=by rw [hm,List.length_cons];omega
  have hmz:0 < m:=by omega
  obtain ⟨y0,y1,y2⟩:=hc 0 (by simp)
  rw [Nat.zero_mul,Nat.add_zero] at y0 y1 y2
  have y0':w.cell? ⟨b,o,none⟩ = some (.int .i64 ((x.1:Nat):Int)):=y0
  have y1':w.cell? ⟨b,o + 1,none⟩ = some (.string x.2.1):=y1
  clear y0 y1 y2
  by_cases hx:x.1 = T
  case neg =>
   rw [mayP_no hx]
   have hq:((x.1:Int) != (T:Int)) = true:=by simp;omega
   have HC:=Lib.hid hc
   have HM:=Lib.hid hm
   clear hc hm hs hT hP hmk hx hx0
   go_enter Tryz.func66,Tryz.ntmps66
   go_wp2_with fail
   go_ret3
   exact ⟨none,some ⟨b,o,none⟩,0,0,m,c,rfl,fun _ => ⟨⟨rfl,Nat.le_refl _,fun _ => rfl,.inl rfl⟩,HM.out,hmc,.inr ⟨b,o,rfl,HC.out⟩⟩,Below.refl _ _⟩
  case pos =>
   rw [mayP_yes hx]
   have hq:((x.1:Int) != (T:Int)) = false:=by rw [hx];simp
   have HL:=Lib.hid (list_any x.2.1 w (by omega))
   have HMM:=Lib.hid (fun e (he:e ∈ (lst x.2.1).1) => Nat.le_trans (lst_mem _ x.2.1 (Nat.le_refl _) e he) hx0)
   have HLE:=Lib.hid (lst_length x.2.1 _ hx0)
   have HCV:=Lib.hid (fun W (hb:Below w.heap.size w W) a c m l => convd_core 93 (enters_of Tryz.func93 (by kernel_rfl) rfl) a c m l W (decsF_ok W (hT.below hb) (hP.below hb) (hmk.below hb)))
   have HC:=Lib.hid hc
   have HM:=Lib.hid hm
   have HP1:=Lib.hid (fun h => decPt_err (c:=x.2.1) h)
   have HP2:=Lib.hid (fun h h0 => decPt_none (c:=x.2.1) h h0)
   have HP3:=Lib.hid (fun h h0 => decPt_go (c:=x.2.1) h h0)
   obtain ⟨R,hR⟩:∃ R,R = decPt x.2.1:=⟨_,rfl⟩
   rw [← hR] at HP1 HP2 HP3 ⊢
   obtain ⟨xt,xc,xr⟩:=x
   simp only at HL HMM HLE HP1 HP2 HP3 y0' y1' hq
   generalize lst xc = LE at HL HMM HLE HP1 HP2 HP3
   obtain ⟨l,er⟩:=LE
   simp only at HL HMM HLE HP1 HP2 HP3
   obtain ⟨n,hn⟩:∃ n,n = l.length:=⟨_,rfl⟩
   have HN:=Lib.hid hn
   obtain ⟨a1,hsl,ha1⟩:∃ a1,(∀ W,(Instr.slice 70 (.slice (some ⟨b,o,none⟩) m c) (some (.int .i64 1)) none none).run Tryz.prog W = .ok (.slice a1 (m - 1) (c - 1)) W) ∧ (1 < m → a1 = some ⟨b,o + 3,none⟩):=by
    refine ⟨if c - 1 = 0 then some ⟨b,o,none⟩ else some ⟨b,o + 3,none⟩,fun W => ?_,fun h => if_neg (by omega)⟩
    obtain ⟨a1,e,_⟩:=slice_tail2 (some ⟨b,o,none⟩) m c (by omega) hmc W
    rw [e]
    rfl
   have HTL:=Lib.hid (show m - 1 = r.length ∧ m - 1 ≤ c - 1 ∧ ∀ W,Below w.heap.size w W → ElAt W a1 r from ⟨by rw [hm];simp,by omega,fun W hb => (elAt_tail hc (by rw [← hm];exact ha1)).below hb⟩)
   obtain ⟨m',hm'⟩:∃ m',m' = m - 1:=⟨_,rfl⟩
   obtain ⟨c',hc'⟩:∃ c',c' = c - 1:=⟨_,rfl⟩
   rw [← hm',← hc'] at hsl HTL
   clear hc hm hs hT hP hmk hx hx0 hR hn ha1 hm' hc'
   by_cases her:er = 0
   ·subst her
    by_cases h0:n = 0
    ·have d0:((n:Int) == 0) = true:=beq_iff_eq.2 (by omega)
     have d1:(n == 0) = true:=beq_iff_eq.2 h0
     have HV:=Lib.hid (HP2.out rfl (by rw [← HN.out];exact h0))
     clear h0 HP1 HP2 HP3 HCV
     go_enter Tryz.func66,Tryz.ntmps66
     go_wp2_with (go_at_call 91;(with_reducible refine HL.out.mono ?_);rintro e w1 ⟨v,rfl,ho,hb1⟩;obtain ⟨a5,k5,hv5,hk5,hea,_⟩:=ElAt.of ho;rw [← HN.out] at hv5;subst hv5;have HB1:=Lib.hid hb1;clear ho hb1 hea hk5)
     go_ret3
     exact ⟨none,none,0,0,0,0,by rw [HV.out];rfl,fun h => absurd (show (7:Nat) = 0 from by rw [HV.out] at h;exact h) (by decide),HB1.out⟩
    ·have d0:((n:Int) == 0) = false:=beq_eq_false_iff_ne.2 (by omega)
     have d1:(n == 0) = false:=beq_eq_false_iff_ne.2 h0
     have HV:=Lib.hid (HP3.out rfl (by rw [← HN.out];exact h0))
     have HLEN:=Lib.hid (fun h => decTs_len (l:=l) h)
     have HCL:=Lib.hid (fun W (hb:Below w.heap.size w W) a k (h:ElAt W a l) => HCV.out W hb a k n l h HN.out (by have:=HLE.out;have:=HN.out;omega) (fun j hj => HMM.out _ (by
      rw [List.getD_eq_getElem?_getD,List.getElem?_eq_getElem hj];exact List.getElem_mem _)))
     generalize decTs l = D at HV HLEN HCL
     obtain ⟨E,G⟩:=D
     simp only at HLEN HCL
     clear h0 HP1 HP2 HP3 HCV
     by_cases hE:E = 0
     ·subst hE
      go_enter Tryz.func66,Tryz.ntmps66
      go_wp2_with (first
       |(go_at_call 91;(with_reducible refine HL.out.mono ?_);rintro e w1 ⟨v,rfl,ho,hb1⟩;obtain ⟨a5,k5,hv5,hk5,hea,_⟩:=ElAt.of ho;rw [← HN.out] at hv5;subst hv5;have HB1:=Lib.hid hb1;have HEA:=Lib.hid hea;clear ho hb1 hea hk5)
       |(go_at_call 92;(with_reducible refine (HCL.out _ HB1.out _ _ HEA.out).mono ?_);rintro e w2 ⟨v2,rfl,hg2,_,hb2⟩;obtain ⟨g,rfl,hgr,_⟩:=hg2 (by trivial);have HB2:=Lib.hid (below_next HB1.out hb2);have HGR:=Lib.hid hgr;clear hb2 hgr hg2))
      go_region
      go_wp2_with fail
      go_ret3
      exact ⟨some ⟨g,0,none⟩,a1,n,n,m',c',by rw [HV.out];rfl,fun _ => ⟨⟨by rw [HV.out,HN.out];exact (HLEN.out (by trivial)).symm,Nat.le_refl _,fun h => (by cases h),by rw [HV.out];exact .inr ⟨g,_,rfl,HGR.out.below (Below.refl _ _).drew⟩⟩,HTL.out.1,HTL.out.2.1,HTL.out.2.2 _ HB2.out.drew⟩,HB2.out.drew⟩
     ·have HNE:=Lib.hid hE
      go_enter Tryz.func66,Tryz.ntmps66
      go_wp2_with (first
       |(go_at_call 91;(with_reducible refine HL.out.mono ?_);rintro e w1 ⟨v,rfl,ho,hb1⟩;obtain ⟨a5,k5,hv5,hk5,hea,_⟩:=ElAt.of ho;rw [← HN.out] at hv5;subst hv5;have HB1:=Lib.hid hb1;have HEA:=Lib.hid hea;clear ho hb1 hea hk5)
       |(go_at_call 92;(with_reducible refine (HCL.out _ HB1.out _ _ HEA.out).mono ?_);rintro e w2 ⟨v2,rfl,_,hg2,hb2⟩;obtain rfl:=hg2 HNE.out;have HB2:=Lib.hid (below_next HB1.out hb2);clear hb2 hg2))
      go_region
      go_wp2_with fail
      go_ret3
      exact ⟨none,a1,0,0,m',c',by rw [HV.out];rfl,fun h => absurd (by rw [HV.out] at h;exact h) HNE.out,HB2.out.drew⟩
   ·have hz1:=errno_ne her
    have hz2:((er:Int) == 0) = false:=by simp;omega
    have HV:=Lib.hid (HP1.out her)
    have HNE:=Lib.hid her
    clear her HP1 HP2 HP3 HCV
    go_enter Tryz.func66,Tryz.ntmps66
    go_wp2_with (go_at_call 91;(with_reducible refine HL.out.mono ?_);rintro e w1 ⟨v,rfl,ho,hb1⟩;obtain ⟨a5,k5,hv5,hk5,hea,_⟩:=ElAt.of ho;rw [← HN.out] at hv5;subst hv5;have HB1:=Lib.hid hb1;clear ho hb1 hea hk5)
    go_ret3
    exact ⟨none,none,0,0,0,0,by rw [HV.out];rfl,fun h => absurd (by rw [HV.out] at h;exact h) HNE.out,HB1.out⟩
end Go.Proofs.YtbpdenfiifcfcaaGreatDoor
