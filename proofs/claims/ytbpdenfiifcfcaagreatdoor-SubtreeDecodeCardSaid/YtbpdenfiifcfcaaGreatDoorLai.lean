/-
  The contract of maps.Equal at the maps of foldedSet, and of matchRelative: whether two relative names match.
  The contract of matchRelative: whether two relative names match.
  The contracts of slices.EqualFunc at relative names, of Match and of Within.
  The contracts of the reference's has and matchRDN: whether a relative name has an attribute that matches; whether two relative names match.
  The contracts of the reference's WithinName and MatchName.
  The contract of the reference's ExactName at equal names.
  The table of short types and the contracts of typeOf and kindOf.
  The contract of text.Unescape: the string whose escaped form is the given one, if there is one; nothing that was there before the call has changed.
  What a text denotes as a name, as a function of the text; the contracts of kindOf and parseAttribute.
  The contract of parseAttribute: the attribute that a text denotes, if it denotes one.
  The contract of parseRelative: the relative name that a text denotes, if it denotes one.
  The contract of parseName: the name that a text denotes, if it denotes one.
  The contracts of the reference's Split and short: the pieces of a text; the short types and their object identifiers.
  The contract of the reference's Split: the pieces of a text.
  The contracts of the reference's alike and ends: two texts that differ in case only; a text that ends with another one.
-/
import Derived.Test.YtbpdenfiifcfcaaGreatDoorLah
import Derived.Lib.QuietBelow
import Derived.BigQuiet
import Derived.Test.YtbpdenfiifcfcaaGreatDoorLad
import Derived.Test.YtbpdenfiifcfcaaGreatDoorLab
import Derived.Test.YtbpdenfiifcfcaaGreatDoorLaf
import Derived.Test.YtbpdenfiifcfcaaGreatDoorLac
import Derived.Test.YtbpdenfiifcfcaaGreatDoorLag
namespace Go.Proofs.YtbpdenfiifcfcaaGreatDoor
open Go.RowKit Go.Maps
theorem fK_key (p:ByteArray × ByteArray):WideAt.IsKeyLit (fK p):=by unfold fK;trivial
theorem keys_of (l:List At):∀ x ∈ l.map (fun a => fK (fa a)),WideAt.IsKeyLit x:=by
 intro x hx
 obtain ⟨a,_,rfl⟩:=List.mem_map.1 hx
 exact fK_key _
theorem fK_inj {p q:ByteArray × ByteArray} (h1:p.1.size ≤ maxLen) (h2:p.2.size ≤ maxLen) (k1:q.1.size ≤ maxLen) (k2:q.2.size ≤ maxLen) (h:fK p = fK q):p = q:=by
 have:=fLaw.inj (fKey p h1 h2) (h ▸ fKey q k1 k2)
 unfold fV at this
 simp at this
 exact Prod.ext this.1 this.2
theorem atKey_fold (kl:Lit):∀ (acc:List Lit) (m:DataW Unit),IsMap m → (∀ x ∈ acc,WideAt.IsKeyLit x) → (∀ z,m.atKey kl z = sU ∨ m.atKey kl z = z) → ∀ z,(acc.foldl (fun m x => m.put x sU) m).atKey kl z = sU ∨ (acc.foldl (fun m x => m.put x sU) m).atKey kl z = z
 |[],_,_,_,h => h
 |x :: r,m,hm,hk,h => by
  rw [List.foldl_cons]
  refine atKey_fold kl r _ (hm.put x sU) (fun y hy => hk y (by simp [hy])) (fun z => ?_)
  by_cases e:kl = x
  ·subst e
   exact .inl (atKey_put_same hm (hk kl (by simp)) sU z)
  ·rw [atKey_put_other e]
   exact h z
theorem atKey_setD (l:List At) (kl:Lit) (z:DataW Unit):(setD l).atKey kl z = sU ∨ (setD l).atKey kl z = z :=
 atKey_fold kl _ _ isMap_empty (keys_of l) (fun _ => .inr rfl) z
theorem has_setD (l:List At) (k:Lit):has (setD (H:=Unit) l) k = (l.map fun a => fK (fa a)).any (fun x => x.sameKey k):=has_setOf _ _ _ (keys_of l)
theorem peb_inv {P:Program} {e:TypeId} (he:P.underlying e = some .bool) {v:Value} {y:DataW Unit × List MemPlace} (h:plainElem P e v = some y):∃ c:Bool,v = .bool c ∧ y = (.lit (.bool c),[]):=by
 unfold plainElem at h
 rw [he] at h
 cases v <;> simp at h
 exact ⟨_,rfl,h.symm⟩
theorem rb_inv {v:Value} {y:DataW Unit × List MemPlace} (h:Rb v = some y):∃ c:Bool,v = .bool c ∧ y = (.lit (.bool c),[]):=peb_inv Tryz.underlying4 h
theorem came_true {l:List At} {kl:Lit} {c:Bool} (h:∀ zd:DataW Unit,(setD l).atKey kl zd = .lit (.bool c)):c = true:=by
 rcases atKey_setD l kl .nil with e | e
 ·rw [h .nil] at e
  unfold sU at e
  simpa using e
 ·rw [h .nil] at e;cases e
theorem look_true {l:List At} {kl:Lit} {zd:DataW Unit} {v:Value} {ps:List MemPlace} (hh:has (setD (H:=Unit) l) kl = true) (h:Rb v = some ((setD l).atKey kl zd,ps)):v = .bool true:=by
 have e:(setD l).atKey kl zd = sU:=by
  rw [atKey_indep hh zd sU]
  rcases atKey_setD l kl sU with e | e <;> exact e
 obtain ⟨c,rfl,h2⟩:=rb_inv h
 rw [e] at h2
 have:=congrArg Prod.fst h2
 unfold sU at this
 simp at this
 rw [this]
theorem lits_str {P:Program} {s:TypeId} (hs:P.underlying s = some .string) {d:Nat} {x:Value} {L:List Lit} (h:P.keyLits (d + 1) s [x] = some L):∃ a,x = .string a:=by
 unfold Program.keyLits at h
 rw [hs] at h
 cases x <;> simp at h
 exact ⟨_,rfl⟩
theorem lits_two {P:Program} {t s:TypeId} {f0 f1:Field} (hu:P.underlying t = some (.struct #[f0,f1])) (o0:f0.offset = 0) (o1:f1.offset = 1) (t0:f0.type = s) (t1:f1.type = s) (hs:P.underlying s = some .string) (c1:P.cellsOf s = 1) (c2:P.cellsOf t = 2)
  {d:Nat} {l:List Value} {L:List Lit} (h:P.keyLits (d + 2) t l = some L):∃ a b,l = [.string a,.string b]:=by
 unfold Program.keyLits at h
 rw [hu] at h
 simp only [] at h
 split at h
 ·rename_i hc
  have hl:l.length = 2:=by rw [hc.1,c2]
  match l,hl with
  |[x,y],_ =>
   cases h0:P.keyLits (d + 1) s [x] with
   |none => simp [o0,o1,t0,t1,c1,h0] at h
   |some L0 =>
    cases h1:P.keyLits (d + 1) s [y] with
    |none => simp [o0,o1,t0,t1,c1,h0,h1] at h
    |some L1 =>
     obtain ⟨a,rfl⟩:=lits_str hs h0
     obtain ⟨b,rfl⟩:=lits_str hs h1
     exact ⟨a,b,rfl⟩
 ·cases h
set_option maxRecDepth 100000 in
/-- A key's shape. -/
theorem key_shape {key:Value} {kl:Lit} (h:keyOf Tryz.prog 183 key = some kl):∃ p:ByteArray × ByteArray,key = .agg #[.string p.1,.string p.2]:=by
 obtain ⟨xs,L,rfl,h2,_⟩:=keyOf_top (by kernel_rfl) h
 have c1:Tryz.prog.cellsOf 9 = 1:=by kernel_rfl
 have c2:Tryz.prog.cellsOf 183 = 2:=by kernel_rfl
 have hsz:1 < Tryz.prog.types.size:=by decide +kernel
 obtain ⟨d,hd⟩:∃ d,Tryz.prog.types.size + 1 = d + 2:=⟨Tryz.prog.types.size - 1,by omega⟩
 rw [hd] at h2
 obtain ⟨a,b,hx⟩:=lits_two Tryz.underlying183 rfl rfl rfl rfl Tryz.underlying9 c1 c2 h2
 refine ⟨(a,b),?_⟩
 congr 1
 exact Array.toList_inj.1 hx
def tt (_ _:DataW Unit):Bool:=true
theorem zeroB (w:World):(zeroValue 4).run Tryz.prog w = .ok (.bool false) w:=by kernel_rfl
theorem rb_false:Rb (.bool false) = some (.lit (.bool false),[]):=plainElem_bool Tryz.underlying4 false
/-- The step of the range over such a set: an entry's element is true. -/
theorem wpList_next_set {ops:Array Oper} {rest:List Oper} {o:Oper} {a:Act} {Q:Exit → Act → World → Prop} (w:World) (hg:o.guard = none) (it:Operand) (hop:o.op = Op.next it false) (b r n:Nat) (D:DataW Unit) (left:Lit → Bool) (cnt:Nat)
  (htrue:∀ (kl:Lit) (c:Bool),(∀ zd:DataW Unit,D.atKey kl zd = .lit (.bool c)) → c = true)
  (hit:a.eval it = .pointer (some ⟨r,0,none⟩)) (h:w.ranges Tryz.prog 183 Rb b r n D left cnt)
  (hDone:cnt = 0 → (∀ kl,left kl = false) → wpList Tryz.prog ops Q rest (a.put o.dst (.tuple #[.bool false])) w)
  (hMore:∀ (xa xb:ByteArray) (kl:Lit) (w':World) (cnt':Nat),keyOf Tryz.prog 183 (.agg #[.string xa,.string xb]) = some kl → (∀ zd,D.atKey kl zd = .lit (.bool true)) → w'.ranges Tryz.prog 183 Rb b r n D (fun z => left z && !z.sameKey kl) cnt' → cnt' < cnt →
   w.grownBy w' (some r) → (Instr.entry (.pointer (some ⟨r,0,none⟩))).run Tryz.prog w' = .ok (.tuple #[.agg #[.string xa,.string xb],.bool true]) w' → wpList Tryz.prog ops Q rest (a.put o.dst (.tuple #[.bool true,.agg #[.string xa,.string xb],.bool true])) w') :
  wpList Tryz.prog ops Q (o :: rest) a w :=
 wpList_next_ranges w hg it hop 183 fLaw Rb (fun (p:ByteArray × ByteArray) => Value.agg #[.string p.1,.string p.2]) Value.bool (fun _ _ hk => key_shape hk) (fun _ _ hv => by obtain ⟨c,rfl,_⟩:=rb_inv hv;exact ⟨c,rfl⟩) b r n D left cnt hit h hDone
  (fun x c kl y w' cnt' hkey _ hv hat hrg hlt hgr _ hen => by
   obtain ⟨c',e,rfl⟩:=rb_inv hv
   obtain rfl:c = c':=by simpa using e
   obtain rfl:c = true:=htrue kl c hat
   exact hMore x.1 x.2 kl w' cnt' hkey hat hrg hlt hgr hen)
set_option maxHeartbeats 4000000 in
set_option maxRecDepth 100000 in
theorem meq_any (b1 b2 n1 n2:Nat) (l1 l2:List At) (w:World) (h1:w.ownsMap Tryz.prog 183 Rb b1 n1 (setD l1)) (h2:w.ownsMap Tryz.prog 183 Rb b2 n2 (setD l2)) :
  Calls Tryz.prog 166 #[.map (some b1),.map (some b2)] w
   fun e w' => e = .returned (.bool (Lib.equalFuncD tt (setD l1) (setD l2))) ∧ Below w.heap.size w w':=by
 have l1':=fun ty => h1.len (t:=181) Tryz.underlying181 ty
 have l2':=fun ty => h2.len (t:=181) Tryz.underlying181 ty
 have HAT1:=Lib.hid (fun (kl:Lit) (c:Bool) (h:∀ zd:DataW Unit,(setD l1).atKey kl zd = .lit (.bool c)) => came_true h)
 have HLT2:=Lib.hid (fun (kl:Lit) (zd:DataW Unit) (v:Value) (ps:List MemPlace) (hh:has (setD (H:=Unit) l2) kl = true) (h:Rb v = some ((setD l2).atKey kl zd,ps)) => look_true hh h)
 generalize (setD l1:DataW Unit) = D1 at h1 l1' HAT1 ⊢
 generalize (setD l2:DataW Unit) = D2 at h2 l2' HLT2 ⊢
 obtain ⟨es1,rfl,hap,hkeys⟩:=h1.entries fLaw
 have hb2:=h2.lt
 generalize hres:Lib.equalFuncD tt (.map es1) D2 = res
 have RES:=Lib.hid (show Lib.equalFuncD tt (.map es1) D2 = res from hres)
 clear hres
 by_cases hsz:Maps.size (.map es1:DataW Unit) = Maps.size D2
 ·go_enter Tryz.func166,Tryz.ntmps166
  go_wp2_with (first
   |(at_range;refine wpList_range_own _ rfl _ 181 rfl 183 4 fLaw Tryz.underlying181 Rb b1 n1 _ rfl h1 ?_;intro w0 hrg0 hg0 hs0)
   |go_in)
  go_frame
  go_loopw [16] (fun _ wr => ∃ (left:Lit → Bool) (cnt:Nat),wr.ranges Tryz.prog 183 Rb b1 w.heap.size n1 (.map es1) left cnt ∧ wr.ownsMap Tryz.prog 183 Rb b2 n2 D2 ∧ w.grownBy wr none ∧ Hid (GoodAt tt es1 D2 left))
   (fun _ wr => wr.rangeLeft b1 w.heap.size)
  case atStart => exact ⟨_,_,hrg0,h2.kept hg0 (by simp),hg0,good_start hkeys D2⟩
  case round =>
   obtain ⟨left,cnt,hrg,h2r,hgw,G⟩:=hrel
   go_wp2_with (first
    |(at_next;refine wpList_next_set _ rfl _ rfl b1 w.heap.size n1 _ _ _ HAT1.out rfl hrg ?_ ?_)
    |go_in)
   ·intro _ hl0
    go_wp2
    go_ret
    exact ⟨by rw [← RES.out,all_good G.out hl0 hsz];rfl,only_below hgw⟩
   ·intro xa xb kl w1 cnt1 hkey hat hrg1 hlt hg1 hen
    have hgw1:w.grownBy w1 none:=hgw.andThen hg1 (fun j hj => by cases hj;exact Or.inl (Nat.le_refl _))
    have h2w1:=h2r.kept hg1 (fun e => by have:=Option.some.inj e;omega)
    have HAT:=Lib.hid (show ∀ zd,(DataW.map es1).atKey kl zd = .lit (.bool true) from hat)
    have HKEY:=Lib.hid (show keyOf Tryz.prog 183 (.agg #[.string xa,.string xb]) = some kl from hkey)
    have hrgA:=Lib.hid (hrg1.alloc (.cells #[.string xa,.string xb] 183))
    have h2A:=Lib.hid (h2w1.alloc (.cells #[.string xa,.string xb] 183))
    have hgwA:=Lib.hid (hgw1.andThen (World.grownBy_alloc w1 (.cells #[.string xa,.string xb] 183) none) (fun j hj => by cases hj))
    clear hat hkey hrg1 h2w1 hgw1 hg1
    cases hh:Maps.has D2 kl
    ·have hbad:Lib.goodD tt D2 (kl,.lit (.bool true)) = false:=by unfold Lib.goodD;rw [hh];rfl
     go_wp2_with (first
      |(at_lookup;refine wpList_lookup_own_ok _ rfl _ _ 181 rfl 183 4 fLaw Tryz.underlying181 Rb (zeroB _) _ _ rb_false b2 n2 D2 rfl h2A.out _ kl rfl HKEY.out ?_;intro v2 ps2 hv2;rw [hh];go_frame)
      |go_in)
     go_ret
     exact ⟨by rw [← RES.out,bad_false hap hkeys HAT.out hbad];rfl,only_below hgwA.out⟩
    ·have hgood:Lib.goodD tt D2 (kl,.lit (.bool true)) = true:=by unfold Lib.goodD;rw [hh];rfl
     go_wp2_with (first
      |(at_lookup;refine wpList_lookup_own_ok _ rfl _ _ 181 rfl 183 4 fLaw Tryz.underlying181 Rb (zeroB _) _ _ rb_false b2 n2 D2 rfl h2A.out _ kl rfl HKEY.out ?_;intro v2 ps2 hv2;rw [hh];obtain rfl:=HLT2.out kl _ v2 ps2 hh hv2;go_frame)
      |go_in)
     go_roundw
     case rel => exact ⟨_,cnt1,hrgA.out,h2A.out,hgwA.out,good_step hap hkeys HAT.out G.out hgood⟩
     case measure => rw [hrgA.out.left_eq,hrg.left_eq];exact hlt
 ·have hne:¬ ((Maps.size (.map es1:DataW Unit):Int) = (Maps.size D2:Int)):=fun e => hsz (by exact_mod_cast e)
  go_enter Tryz.func166,Tryz.ntmps166
  go_wp2
  go_ret
  exact ⟨by rw [← RES.out,sizes_false hsz];rfl,Below.refl _ _⟩
theorem sub_len {K2:List Lit}:∀ {K1:List Lit},K1.Pairwise (· ≠ ·) → (∀ x ∈ K1,x ∈ K2) → ∃ R,K2.Perm (K1 ++ R):=by
 intro K1
 induction K1 generalizing K2 with
 |nil => intro _ _;exact ⟨K2,List.Perm.refl _⟩
 |cons x K1 ih =>
  intro h hs
  obtain ⟨h1,h2⟩:=List.pairwise_cons.1 h
  obtain ⟨a,b,rfl⟩:=List.append_of_mem (hs x (by simp))
  obtain ⟨R,hR⟩:=ih (K2:=a ++ b) h2 (fun y hy => by
   have h3:=hs y (by simp [hy])
   simp only [List.mem_append,List.mem_cons] at h3 ⊢
   rcases h3 with h3 | h3 | h3
   ·exact .inl h3
   ·exact absurd h3.symm (h1 y hy)
   ·exact .inr h3)
  exact ⟨R,List.perm_middle.trans (hR.cons x)⟩
def keysD:DataW Unit → List Lit
 |.map es => es.map (·.1)
 |_ => []
/-- Two sets are held to be equal just where they have the same keys. -/
theorem equal_iff {D1 D2:DataW Unit} (h1:Tidy D1) (h2:Tidy D2) (k1:∀ k ∈ keysD D1,WideAt.IsKeyLit k) (k2:∀ k ∈ keysD D2,WideAt.IsKeyLit k) :
  Lib.equalFuncD tt D1 D2 = true ↔ ∀ k,has D1 k = true ↔ has D2 k = true:=by
 obtain ⟨e1,rfl,p1⟩:=h1
 obtain ⟨e2,rfl,p2⟩:=h2
 have q1:(e1.map (·.1)).Pairwise (· ≠ ·):=by rw [List.pairwise_map];exact p1
 have q2:(e2.map (·.1)).Pairwise (· ≠ ·):=by rw [List.pairwise_map];exact p2
 have m1:∀ k,has (DataW.map e1:DataW Unit) k = true ↔ k ∈ e1.map (·.1):=by
  intro k
  constructor
  ·intro h
   obtain ⟨p,hp,hs⟩:=List.any_eq_true.1 (show e1.any (fun p => p.1.sameKey k) = true from h)
   exact List.mem_map.2 ⟨p,hp,WideAt.sameKey_eq hs⟩
  ·intro h
   have hk:=k1 k h
   obtain ⟨p,hp,rfl⟩:=List.mem_map.1 h
   exact List.any_eq_true.2 ⟨p,hp,WideAt.sameKey_self hk⟩
 have m2:∀ k,has (DataW.map e2:DataW Unit) k = true ↔ k ∈ e2.map (·.1):=by
  intro k
  constructor
  ·intro h
   obtain ⟨p,hp,hs⟩:=List.any_eq_true.1 (show e2.any (fun p => p.1.sameKey k) = true from h)
   exact List.mem_map.2 ⟨p,hp,WideAt.sameKey_eq hs⟩
  ·intro h
   have hk:=k2 k h
   obtain ⟨p,hp,rfl⟩:=List.mem_map.1 h
   exact List.any_eq_true.2 ⟨p,hp,WideAt.sameKey_self hk⟩
 have hall:Lib.equalFuncD tt (.map e1) (.map e2:DataW Unit) = true ↔ e1.length = e2.length ∧ ∀ k ∈ e1.map (·.1),k ∈ e2.map (·.1):=by
  unfold Lib.equalFuncD
  rw [Bool.and_eq_true,decide_eq_true_iff]
  refine and_congr (by simp [Maps.size]) ?_
  show e1.all (Lib.goodD tt (.map e2)) = true ↔ _
  rw [List.all_eq_true]
  constructor
  ·intro h k hk
   obtain ⟨p,hp,rfl⟩:=List.mem_map.1 hk
   have:=h p hp
   unfold Lib.goodD tt at this
   rw [Bool.and_true] at this
   exact (m2 _).1 this
  ·intro h p hp
   unfold Lib.goodD tt
   rw [Bool.and_true]
   exact (m2 _).2 (h p.1 (List.mem_map.2 ⟨p,hp,rfl⟩))
 rw [hall]
 constructor
 ·rintro ⟨hl,hs⟩ k
  rw [m1,m2]
  refine ⟨hs k,fun hk => ?_⟩
  obtain ⟨R,hR⟩:=sub_len q1 hs
  have:=hR.length_eq
  rw [List.length_append,List.length_map,List.length_map] at this
  obtain rfl:R = []:=List.eq_nil_of_length_eq_zero (by omega)
  rw [List.append_nil] at hR
  exact hR.mem_iff.1 hk
 ·intro h
  have s1:∀ k ∈ e1.map (·.1),k ∈ e2.map (·.1):=fun k hk => (m2 k).1 ((h k).1 ((m1 k).2 hk))
  have s2:∀ k ∈ e2.map (·.1),k ∈ e1.map (·.1):=fun k hk => (m1 k).1 ((h k).2 ((m2 k).2 hk))
  obtain ⟨R,hR⟩:=sub_len q1 s1
  obtain ⟨S,hS⟩:=sub_len q2 s2
  have e3:=hR.length_eq
  have e4:=hS.length_eq
  rw [List.length_append,List.length_map,List.length_map] at e3 e4
  exact ⟨by omega,s1⟩
theorem tidy_set (l:List At):Tidy (setD (H:=Unit) l):=tidy_setOf _ _ (keys_of l)
theorem keys_fold:∀ (acc:List Lit) (es:List (Lit × DataW Unit)),(∀ x ∈ acc,WideAt.IsKeyLit x) → (∀ p ∈ es,WideAt.IsKeyLit p.1) → ∃ es',acc.foldl (fun m x => m.put x sU) (DataW.map es) = .map es' ∧ ∀ p ∈ es',WideAt.IsKeyLit p.1
 |[],es,_,h => ⟨es,rfl,h⟩
 |x :: r,es,hk,h => by
  rw [List.foldl_cons]
  refine keys_fold r (DataW.insert (x,sU) (es.filter fun p => !p.1.sameKey x)) (fun y hy => hk y (by simp [hy])) (fun p hp => ?_)
  rcases Go.ChangeMaps.mem_insert_iff.1 hp with rfl | hp
  ·exact hk _ (by simp)
  ·exact h p (List.mem_filter.1 hp).1
theorem keysD_set (l:List At):∀ k ∈ keysD (setD l),WideAt.IsKeyLit k:=by
 intro k hk
 obtain ⟨es,he,hp⟩:=keys_fold _ [] (keys_of l) (fun p hp => by simp at hp)
 have he2:setD (H:=Unit) l = .map es:=he
 rw [he2] at hk
 obtain ⟨p,hp2,rfl⟩:=List.mem_map.1 (show k ∈ es.map (·.1) from hk)
 exact hp p hp2
theorem small_mem {r:List At} (h:SmallR r) {x:At} (hx:x ∈ r):SmallA x:=by
 obtain ⟨i,hi,rfl⟩:=List.mem_iff_getElem.1 hx
 have:=h.2 i hi
 rwa [List.getD_eq_getElem?_getD,List.getElem?_eq_getElem hi] at this
theorem has_mem (l:List At) (k:Lit):has (setD (H:=Unit) l) k = true ↔ ∃ x ∈ l,fK (fa x) = k:=by
 rw [has_setD,List.any_eq_true]
 constructor
 ·rintro ⟨y,hy,hs⟩
  obtain ⟨x,hx,rfl⟩:=List.mem_map.1 hy
  exact ⟨x,hx,WideAt.sameKey_eq hs⟩
 ·rintro ⟨x,hx,rfl⟩
  exact ⟨_,List.mem_map.2 ⟨x,hx,rfl⟩,WideAt.sameKey_self (fK_key _)⟩
theorem fa_size {x:At} (h:SmallA x):(fa x).1.size ≤ maxLen ∧ (fa x).2.size ≤ maxLen:=by
 have h1:=h.1
 have h2:=Nat.le_trans (foldS_size x.2.2) h.2
 unfold maxLen fa
 exact ⟨by show x.1.size ≤ _;omega,by show (foldS x.2.2).size ≤ _;omega⟩
theorem matchR_iff {r s:List At} (hr:SmallR r) (hs:SmallR s) (hl:r.length = s.length):Lib.equalFuncD tt (setD r) (setD s) = decide (MatchR r s):=by
 rw [Bool.eq_iff_iff,decide_eq_true_iff,equal_iff (tidy_set r) (tidy_set s) (keysD_set r) (keysD_set s)]
 constructor
 ·intro h
  refine ⟨hl,fun x hx => ?_,fun y hy => ?_⟩
  ·obtain ⟨y,hy,e⟩:=(has_mem s _).1 ((h (fK (fa x))).1 ((has_mem r _).2 ⟨x,hx,rfl⟩))
   obtain ⟨b1,b2⟩:=fa_size (small_mem hr hx)
   obtain ⟨b3,b4⟩:=fa_size (small_mem hs hy)
   exact ⟨y,hy,fK_inj b3 b4 b1 b2 e⟩
  ·obtain ⟨x,hx,e⟩:=(has_mem r _).1 ((h (fK (fa y))).2 ((has_mem s _).2 ⟨y,hy,rfl⟩))
   obtain ⟨b1,b2⟩:=fa_size (small_mem hr hx)
   obtain ⟨b3,b4⟩:=fa_size (small_mem hs hy)
   exact ⟨x,hx,fK_inj b1 b2 b3 b4 e⟩
 ·intro h k
  rw [has_mem,has_mem]
  constructor
  ·rintro ⟨x,hx,rfl⟩
   obtain ⟨y,hy,e⟩:=h.2.1 x hx
   exact ⟨y,hy,by rw [e]⟩
  ·rintro ⟨y,hy,rfl⟩
   obtain ⟨x,hx,e⟩:=h.2.2 y hy
   exact ⟨x,hx,by rw [e]⟩
set_option maxRecDepth 100000 in
set_option maxHeartbeats 4000000 in
theorem mrel_any (a0 b0:Option Addr) (c d n m:Nat) (r s:List At) (w:World) (h1:ALies w a0 r) (h2:ALies w b0 s) (hn:n = r.length) (hm:m = s.length) (hr:SmallR r) (hs:SmallR s) :
  Calls Tryz.prog 144 #[.slice a0 n c,.slice b0 m d] w fun e w' => e = .returned (.bool (decide (MatchR r s))) ∧ Below w.heap.size w w':=by
 by_cases hl:n = m
 ·have HF:=Lib.hid (matchR_iff hr hs (by omega))
  obtain ⟨v,hv⟩:∃ v,v = decide (MatchR r s):=⟨_,rfl⟩
  rw [← hv] at HF ⊢
  have HS1:=Lib.hid (fset_any a0 c n r w h1 hn hr)
  have HS2:=Lib.hid (fun W (hb:Below w.heap.size w W) => fset_any b0 d m s W (h2.below hb) hm hs)
  have hd:((n:Int) == (m:Int)) = true:=beq_iff_eq.2 (by omega)
  clear h1 h2 hn hm hr hs hv hl
  go_enter Tryz.func144,Tryz.ntmps144
  go_wp2_with (first
   |(go_at_call 167;(with_reducible refine HS1.out.mono ?_);rintro e w1 ⟨rfl,ho1,hb1⟩;have HO1:=Lib.hid ho1;have HB1:=Lib.hid hb1;clear ho1 hb1)
   |(go_at_call 167;(with_reducible refine (HS2.out _ HB1.out).mono ?_);rintro e w2 ⟨rfl,ho2,hb2⟩;have HO2:=Lib.hid ho2;have HO1:=Lib.hid (HO1.out.kept (Below.only hb2) (by simp));have HB2:=Lib.hid (below_next HB1.out hb2);clear ho2 hb2)
   |(go_at_call 166;(with_reducible refine (meq_any _ _ _ _ r s _ HO1.out HO2.out).mono ?_);rw [HF.out];rintro e w3 ⟨rfl,hb3⟩;have HB3:=Lib.hid (below_next HB2.out hb3);clear hb3))
  go_ret
  exact ⟨rfl,HB3.out⟩
 ·have e:decide (MatchR r s) = false:=decide_eq_false (fun h => hl (by rw [hn,hm];exact h.1))
  have hd:((n:Int) == (m:Int)) = false:=beq_eq_false_iff_ne.2 (by omega)
  rw [e]
  clear h1 h2 hn hm hr hs hl e
  go_enter Tryz.func144,Tryz.ntmps144
  go_wp2_with fail
  go_ret
  exact ⟨rfl,Below.refl _ _⟩
open Go.RowKit
set_option maxRecDepth 100000 in
set_option maxHeartbeats 4000000 in
theorem eqf_any (a0 b0:Option Addr) (c d n m:Nat) (r s:Nm) (w:World) (h1:RLies w a0 r) (h2:RLies w b0 s) (hn:n = r.length) (hm:m = s.length) (hr:SmallN r) (hs:SmallN s) :
  Calls Tryz.prog 143 #[.slice a0 n c,.slice b0 m d,.func (.func 144) #[] #[]] w
   fun e w' => e = .returned (.bool (decide (MatchN r s))) ∧ Below w.heap.size w w':=by
 by_cases hl:n = m
 ·subst hl
  have hL:n ≤ 1000000:=by rw [hn];exact hr.1
  have H1:=Lib.hid h1
  have H2:=Lib.hid h2
  have HN:=Lib.hid hn
  have HM:=Lib.hid hm
  have HR:=Lib.hid hr
  have HS:=Lib.hid hs
  obtain ⟨v,hv⟩:∃ v,v = decide (MatchN r s):=⟨_,rfl⟩
  have HV:=Lib.hid hv
  rw [← hv]
  clear h1 h2 hn hm hr hs hv
  go_enter Tryz.func143,Tryz.ntmps143
  go_wp2_with fail
  go_loopw [17] (fun i wr => ∃ k:Nat,k ≤ n ∧ i = .int .i64 k ∧ (∀ j,j < k → MatchR (r.getD j []) (s.getD j [])) ∧ Below w.heap.size w wr) (fun i _ => n - (intOf i).toNat)
  case atStart => exact ⟨0,Nat.zero_le _,rfl,fun j hj => absurd hj (Nat.not_lt_zero _),Below.refl _ _⟩
  case round =>
   obtain ⟨k,hk,rfl,hA,hb⟩:=hrel
   have HB:=Lib.hid hb
   have HA:=Lib.hid hA
   clear hb hA
   by_cases hlt:k < n
   ·have hd:decide ((k:Int) < (n:Int)) = true:=by simp;omega
    obtain ⟨b,o,rfl,hb,a1,c1,e1,_,hL1⟩:=H1.out.at k (by rw [← HN.out];exact hlt)
    have f1:wr.cell? ⟨b,o + k,none⟩ = _:=(HB.out.cell (p:=⟨b,o + k,none⟩) hb).trans e1
    obtain ⟨b',o',rfl,hb',a2,c2,e2,_,hL2⟩:=H2.out.at k (by rw [← HM.out];exact hlt)
    have f2:wr.cell? ⟨b',o' + k,none⟩ = _:=(HB.out.cell (p:=⟨b',o' + k,none⟩) hb').trans e2
    have hs1:=HR.out.2 k (by rw [← HN.out];exact hlt)
    have hs2:=HS.out.2 k (by rw [← HM.out];exact hlt)
    obtain ⟨x,hx⟩:∃ x,x = r.getD k []:=⟨_,rfl⟩
    obtain ⟨y,hy⟩:∃ y,y = s.getD k []:=⟨_,rfl⟩
    rw [← hx] at f1 hs1 hL1
    rw [← hy] at f2 hs2 hL2
    obtain ⟨p,hp⟩:∃ p,p = x.length:=⟨_,rfl⟩
    obtain ⟨q,hq⟩:∃ q,q = y.length:=⟨_,rfl⟩
    rw [← hp] at f1
    rw [← hq] at f2
    have HMR:=Lib.hid (mrel_any a1 a2 c1 c2 p q x y wr (hL1.below HB.out) (hL2.below HB.out) hp hq hs1 hs2)
    have HX:=Lib.hid hx
    have HY:=Lib.hid hy
    clear e1 e2 hb hb' hs1 hs2 hL1 hL2 hx hy hp hq
    by_cases hmm:MatchR x y
    ·rw [decide_eq_true hmm] at HMR
     have HF:=Lib.hid (show ∀ j,j < k + 1 → MatchR (r.getD j []) (s.getD j []) from fun j hj => by
      by_cases e:j = k
      ·rw [e,← HX.out,← HY.out];exact hmm
      ·exact HA.out j (by omega))
     clear hmm
     go_wp2_with (go_at_call 144;(with_reducible refine HMR.out.mono ?_);rintro e w1 ⟨rfl,hb1⟩;have HB1:=Lib.hid (below_next HB.out hb1);clear hb1)
     go_roundw
     case rel => exact ⟨k + 1,by omega,by go_num,HF.out,HB1.out⟩
     case measure => simp [intOf];omega
    ·rw [decide_eq_false hmm] at HMR
     have HF:=Lib.hid (show v = false by rw [HV.out];exact decide_eq_false (fun h => hmm (by rw [HX.out,HY.out];exact h.2 k (by rw [← HN.out];exact hlt))))
     clear hmm
     go_wp2_with (go_at_call 144;(with_reducible refine HMR.out.mono ?_);rintro e w1 ⟨rfl,hb1⟩;have HB1:=Lib.hid (below_next HB.out hb1);clear hb1)
     go_ret
     exact ⟨by rw [HF.out];rfl,HB1.out⟩
   ·have hd:decide ((k:Int) < (n:Int)) = false:=by simp;omega
    have HF:=Lib.hid (show v = true by rw [HV.out];exact decide_eq_true ⟨by rw [← HN.out,← HM.out],fun j hj => HA.out j (by rw [← HN.out] at hj;omega)⟩)
    go_wp2_with fail
    go_ret
    exact ⟨by rw [HF.out];rfl,HB.out⟩
 ·have e:decide (MatchN r s) = false:=decide_eq_false (fun h => hl (by rw [hn,hm];exact h.1))
  have hd:((n:Int) != (m:Int)) = true:=by simp;omega
  rw [e]
  clear h1 h2 hn hm hr hs hl e
  go_enter Tryz.func143,Tryz.ntmps143
  go_wp2_with fail
  go_ret
  exact ⟨rfl,Below.refl _ _⟩
theorem belowTwo (w:World) (o p:Obj):Below w.heap.size w ((w.alloc o).alloc p):=below_next (belowNew w o) (belowNew _ p)
theorem slice_head (a0:Option Addr) (n c m:Nat) (hm:m ≤ c) (W:World):(Instr.slice 25 (.slice a0 n c) none (some (.int .i64 (m:Int))) none).run Tryz.prog W = .ok (.slice a0 m c) W:=by
 have ha:∀ a:Addr,a.add 0 = a:=fun a => by obtain ⟨b,o,s⟩:=a;cases s <;> simp [Addr.add]
 have hc:(0:Int) ≤ (m:Int) ∧ (m:Int) ≤ (c:Int):=by omega
 simp [Instr.slice,run_underlying Tryz.underlying25,Instr.sliceBounds,Instr.sliceBound,asIntOf,Result.andThen,hc]
 rw [if_pos hm]
 show Result.ok (Value.slice (if c = 0 then a0 else Option.map (fun x => x.add 0) a0) m c) W = _
 have he:Option.map (fun x:Addr => x.add 0) a0 = a0:=by cases a0 <;> simp [ha]
 rw [he,ite_self]
set_option maxRecDepth 100000 in
set_option maxHeartbeats 8000000 in
theorem within_core (a0 b0:Option Addr) (c d n m:Nat) (r s:Nm) (w:World) (h1:RLies w a0 r) (h2:RLies w b0 s) (hn:n = r.length) (hm:m = s.length) (hc:n ≤ c) (hr:SmallN r) (hs:SmallN s) :
  Calls Tryz.prog 120 #[.agg #[.slice a0 n c],.agg #[.slice b0 m d]] w fun e w' => e = .returned (.bool (decide (WithinN r s))) ∧ Below w.heap.size w w':=by
 obtain ⟨W,hW⟩:∃ W,W = (w.alloc (.cells #[.slice a0 n c] 27)).alloc (.cells #[.slice b0 m d] 27):=⟨_,rfl⟩
 have hwr:(w.alloc (.cells #[.slice a0 n c] 27)).alloc (.cells #[.slice b0 m d] 27) = W:=hW.symm
 have hb:Below w.heap.size w W:=by rw [hW];exact belowTwo w _ _
 have k0:W.cell? ⟨w.heap.size,0,none⟩ = some (.slice a0 n c):=by
  rw [hW,World.cell?_alloc_old _ _ _ (by simp),cell_of_row _ _ 0 _ _ _ (heap_alloc_new w _)];rfl
 have k1:W.cell? ⟨w.heap.size + 1,0,none⟩ = some (.slice b0 m d):=by
  rw [hW]
  have:=cell_of_row (w:=(w.alloc (.cells #[.slice a0 n c] 27)).alloc (.cells #[.slice b0 m d] 27)) (w.heap.size + 1) 0 #[.slice b0 m d] 27 (0,0) (by have:=heap_alloc_new (w.alloc (.cells #[.slice a0 n c] 27)) (.cells #[.slice b0 m d] 27);simpa using this)
  rw [this];rfl
 have HB:=Lib.hid hb
 by_cases hl:m ≤ n
 ·have HE:=Lib.hid (fun V (hb:Below w.heap.size w V) => eqf_any a0 b0 c d m m (r.take m) s V ((h1.below hb).take m) (h2.below hb) (by rw [List.length_take];omega) hm (by
   refine ⟨by rw [List.length_take];have:=hr.1;omega,fun i hi => ?_⟩
   rw [List.length_take] at hi
   rw [getD_take _ _ _ (by omega)]
   exact hr.2 i (by omega)) hs)
  obtain ⟨v,hv⟩:∃ v,v = decide (WithinN r s):=⟨_,rfl⟩
  have hv2:decide (MatchN (r.take m) s) = v:=by rw [hv,decide_eq_decide,within_take r s (by omega),hm]
  rw [← hv]
  rw [hv2] at HE
  have hd:decide ((m:Int) ≤ (n:Int)) = true:=by simp;omega
  have hsl:=slice_head a0 n c m (by omega)
  have hms:m ≤ 1000000:=by rw [hm];exact hs.1
  clear h1 h2 hn hm hr hs hv hv2 hc hW hb
  go_enter Tryz.func120,Tryz.ntmps120
  go_wp2_with fail
  have c0:=cell_regrown k0
  have c1:=cell_regrown k1
  have cE:∀ d' os,Calls Tryz.prog 143 #[.slice a0 m c,.slice b0 m d,.func (.func 144) #[] #[]] (Sort.grow (redrawn W d') os)
    fun e w'' => e = .returned (.bool v) ∧ ∃ p:Regrown,w'' = Sort.grow (redrawn W p.d) p.os:=fun d' os => Calls.regrown_of (HE.out _ (HB.out.trans ((below_regrown W d' os).mono HB.out.size)))
  refine wp_region_quiet_below (by kernel_rfl) (by kernel_rfl) ?_
  repeat (go_big_quiet_step (with_reducible exact cE _ _))
  refine wpQuiet_nil ?_
  intro _ hw'
  obtain ⟨⟨dq,osq⟩,hw''⟩:=hw'
  subst hw''
  clear k0 k1 c0 c1 cE
  have HBZ:=Lib.hid (HB.out.trans ((below_regrown W dq osq).mono HB.out.size))
  go_wp2_with fail
  go_ret
  exact ⟨rfl,HBZ.out⟩
 ·have e:decide (WithinN r s) = false:=decide_eq_false (fun h => hl (by rw [hn,hm];exact h.1))
  have hd:decide ((m:Int) ≤ (n:Int)) = false:=by simp;omega
  rw [e]
  clear h1 h2 hn hm hr hs hc hW hb e
  go_enter Tryz.func120,Tryz.ntmps120
  go_wp2_with fail
  have c0:=cell_regrown k0
  have c1:=cell_regrown k1
  refine wp_region_quiet_below (by kernel_rfl) (by kernel_rfl) ?_
  repeat (go_big_quiet_step (fail))
  refine wpQuiet_nil ?_
  intro _ hw'
  obtain ⟨⟨dq,osq⟩,hw''⟩:=hw'
  subst hw''
  clear k0 k1 c0 c1
  have HBZ:=Lib.hid (HB.out.trans ((below_regrown W dq osq).mono HB.out.size))
  go_wp2_with fail
  go_ret
  exact ⟨rfl,HBZ.out⟩
/-! ### matchRDN -/
set_option maxRecDepth 100000 in
set_option maxHeartbeats 4000000 in
theorem exact_core (a0 b0:Option Addr) (c d n:Nat) (r:Nm) (w:World) (h1:RLies w a0 r) (h2:RLies w b0 r) (hn:n = r.length) (hr:SmallN r) :
  Calls Tryz.prog 43 #[.agg #[.slice a0 n c],.agg #[.slice b0 n d]] w fun e w' => e = .returned (.bool true) ∧ Below w.heap.size w w':=by
 obtain ⟨W,hW⟩:∃ W,W = (w.alloc (.cells #[.slice a0 n c] 27)).alloc (.cells #[.slice b0 n d] 27):=⟨_,rfl⟩
 have hwr:(w.alloc (.cells #[.slice a0 n c] 27)).alloc (.cells #[.slice b0 n d] 27) = W:=hW.symm
 have hb:Below w.heap.size w W:=by rw [hW];exact belowTwo w _ _
 have k0:W.cell? ⟨w.heap.size,0,none⟩ = some (.slice a0 n c):=by
  rw [hW,World.cell?_alloc_old _ _ _ (by simp),cell_of_row _ _ 0 _ _ _ (heap_alloc_new w _)];rfl
 have k1:W.cell? ⟨w.heap.size + 1,0,none⟩ = some (.slice b0 n d):=by
  rw [hW]
  have:=cell_of_row (w:=(w.alloc (.cells #[.slice a0 n c] 27)).alloc (.cells #[.slice b0 n d] 27)) (w.heap.size + 1) 0 #[.slice b0 n d] 27 (0,0) (by have:=heap_alloc_new (w.alloc (.cells #[.slice a0 n c] 27)) (.cells #[.slice b0 n d] 27);simpa using this)
  rw [this];rfl
 have HB:=Lib.hid hb
 have H1:=Lib.hid (h1.below hb)
 have H2:=Lib.hid (h2.below hb)
 have HN:=Lib.hid hn
 have HR:=Lib.hid hr
 have hns:n ≤ 1000000:=by rw [hn];exact hr.1
 have hd0:((n:Int) != (n:Int)) = false:=by simp
 clear h1 h2 hn hr hW hb
 go_enter Tryz.func43,Tryz.ntmps43
 go_wp2_with fail
 have K0:=Lib.hid k0
 have K1:=Lib.hid k1
 obtain ⟨g,hg⟩:∃ g,g = w.heap.size:=⟨_,rfl⟩
 have HG:=Lib.hid hg
 rw [← hg] at K0 K1 ⊢
 clear hwr k0 k1 hd0 hg
 go_loopw [17] (fun i wr => ∃ k:Nat,k ≤ n ∧ i = .int .i64 k ∧ Below W.heap.size W wr) (fun i _ => n - (intOf i).toNat)
 case atStart => exact ⟨0,Nat.zero_le _,rfl,Below.refl _ _⟩
 case round =>
  obtain ⟨wo,hwo⟩:∃ wo,wo = wr:=⟨_,rfl⟩
  subst hwo
  obtain ⟨k,hk,rfl,hb⟩:=hrel
  have HBR:=Lib.hid hb
  clear hb
  by_cases hlt:k < n
  ·have hd:decide ((k:Int) < (n:Int)) = true:=by simp;omega
   obtain ⟨b,o,rfl,hb,a1,c1,e1,_,hL1⟩:=H1.out.at k (by rw [← HN.out];exact hlt)
   have f1:wo.cell? ⟨b,o + k,none⟩ = _:=(HBR.out.cell (p:=⟨b,o + k,none⟩) hb).trans e1
   obtain ⟨b',o',rfl,hb',a2,c2,e2,_,hL2⟩:=H2.out.at k (by rw [← HN.out];exact hlt)
   have f2:wo.cell? ⟨b',o' + k,none⟩ = _:=(HBR.out.cell (p:=⟨b',o' + k,none⟩) hb').trans e2
   have q0:=(HBR.out.cell (p:=⟨g,0,none⟩) (block_lt K0.out)).trans K0.out
   have q1:=(HBR.out.cell (p:=⟨g + 1,0,none⟩) (block_lt K1.out)).trans K1.out
   have hs1:=HR.out.2 k (by rw [← HN.out];exact hlt)
   obtain ⟨x,hx⟩:∃ x,x = r.getD k []:=⟨_,rfl⟩
   rw [← hx] at f1 f2 hs1 hL1 hL2
   obtain ⟨p,hp⟩:∃ p,p = x.length:=⟨_,rfl⟩
   rw [← hp] at f1 f2
   have hpz:p ≤ 1000000:=by rw [hp];exact hs1.1
   have HL1:=Lib.hid hL1
   have HL2:=Lib.hid hL2
   have HP:=Lib.hid hp
   have HF1:=Lib.hid e1
   have HF2:=Lib.hid e2
   have hdp:((p:Int) != (p:Int)) = false:=by simp
   rw [← hx] at HF1 HF2
   rw [← hp] at HF1 HF2
   clear e1 e2 hb hb' hs1 hL1 hL2 hx hp
   go_wp2_with fail
   go_region
   go_wp2_with fail
   clear q0 q1 f1 f2 hdp
   have HBD:=Lib.hid (HBR.out.trans ((Below.refl wo.heap.size wo).drew.mono HBR.out.size))
   go_loopw [39] (fun i ws => ∃ j:Nat,j ≤ p ∧ i = .int .i64 j ∧ Below W.heap.size W ws) (fun i _ => p - (intOf i).toNat)
   case atStart => exact ⟨0,Nat.zero_le _,rfl,HBD.out⟩
   case round =>
    obtain ⟨ws,hws⟩:∃ ws,ws = wr:=⟨_,rfl⟩
    subst hws
    obtain ⟨j,hj,rfl,hb⟩:=hrel
    have HBS:=Lib.hid hb
    clear hb
    by_cases hjl:j < p
    ·have hdj:decide ((j:Int) < (p:Int)) = true:=by simp;omega
     have q0:=(HBS.out.cell (p:=⟨g,0,none⟩) (block_lt K0.out)).trans K0.out
     have q1:=(HBS.out.cell (p:=⟨g + 1,0,none⟩) (block_lt K1.out)).trans K1.out
     have f1:=(HBS.out.cell (p:=⟨b,o + k,none⟩) (block_lt HF1.out)).trans HF1.out
     have f2:=(HBS.out.cell (p:=⟨b',o' + k,none⟩) (block_lt HF2.out)).trans HF2.out
     obtain ⟨b3,o3,rfl,h3,m0,m1,m2⟩:=HL1.out.at j (by rw [← HP.out];exact hjl)
     obtain ⟨b4,o4,rfl,h4,n0,n1,n2⟩:=HL2.out.at j (by rw [← HP.out];exact hjl)
     generalize x.getD j noAt = y at m0 m1 m2 n0 n1 n2
     obtain ⟨t,kd,v⟩:=y
     have l0:ws.cell? ⟨b3,o3 + j * 3,none⟩ = some (.string t):=(HBS.out.cell (p:=⟨b3,o3 + j * 3,none⟩) h3).trans m0
     have l1:ws.cell? ⟨b3,o3 + j * 3 + 1,none⟩ = some (.int .i64 kd):=(HBS.out.cell (p:=⟨b3,o3 + j * 3 + 1,none⟩) h3).trans m1
     have l2:ws.cell? ⟨b3,o3 + j * 3 + 2,none⟩ = some (.string v):=(HBS.out.cell (p:=⟨b3,o3 + j * 3 + 2,none⟩) h3).trans m2
     have r0:ws.cell? ⟨b4,o4 + j * 3,none⟩ = some (.string t):=(HBS.out.cell (p:=⟨b4,o4 + j * 3,none⟩) h4).trans n0
     have r1:ws.cell? ⟨b4,o4 + j * 3 + 1,none⟩ = some (.int .i64 kd):=(HBS.out.cell (p:=⟨b4,o4 + j * 3 + 1,none⟩) h4).trans n1
     have r2:ws.cell? ⟨b4,o4 + j * 3 + 2,none⟩ = some (.string v):=(HBS.out.cell (p:=⟨b4,o4 + j * 3 + 2,none⟩) h4).trans n2
     clear m0 m1 m2 n0 n1 n2 h3 h4
     go_wp2_with fail
     go_region
     go_wp2_with fail
     go_roundw
     case rel => exact ⟨j + 1,by omega,by go_num,HBS.out.trans ((Below.refl ws.heap.size ws).drew.mono HBS.out.size)⟩
     case measure => simp [intOf];omega
    ·have hdj:decide ((j:Int) < (p:Int)) = false:=by simp;omega
     go_wp2_with fail
     go_roundw
     case rel => exact ⟨k + 1,by omega,by go_num,HBS.out⟩
     case measure => simp [intOf];omega
  ·have hd:decide ((k:Int) < (n:Int)) = false:=by simp;omega
   go_wp2_with fail
   go_ret
   exact ⟨rfl,below_next HB.out HBR.out⟩
theorem at_facts {w:World} {g:Nat} {x y z:Value} {t:TypeId} (h:w.heap[g]? = some (.cells #[x,y,z] t (0,0))) :
  w.cell? ⟨g,0,none⟩ = some x ∧ w.cell? ⟨g,1,none⟩ = some y ∧ w.cell? ⟨g,2,none⟩ = some z ∧ w.frozen? ⟨g,0,none⟩ = false ∧ w.frozen? ⟨g,1,none⟩ = false ∧ w.frozen? ⟨g,2,none⟩ = false ∧ g < w.heap.size:=by
 refine ⟨?_,?_,?_,Lib.frozen_of_heap h 0,Lib.frozen_of_heap h 1,Lib.frozen_of_heap h 2,(Array.getElem?_eq_some_iff.1 h).1⟩
 ·rw [Lib.cell_of_heap h];rfl
 ·rw [Lib.cell_of_heap h];rfl
 ·rw [Lib.cell_of_heap h];rfl
theorem at_set {w:World} {g:Nat} {x y z a b c:Value} {t:TypeId} (h:w.heap[g]? = some (.cells #[x,y,z] t (0,0))) :
  (((w.setCell ⟨g,0,none⟩ a).setCell ⟨g,1,none⟩ b).setCell ⟨g,2,none⟩ c).heap[g]? = some (.cells #[a,b,c] t (0,0)):=by
 simp [World.setCell,Array.getElem?_modify,h]
theorem at_below {B:Nat} {w0 w:World} {g:Nat} {a b c:Value} (h:Below B w0 w) (hg:B ≤ g):Below B w0 (((w.setCell ⟨g,0,none⟩ a).setCell ⟨g,1,none⟩ b).setCell ⟨g,2,none⟩ c) :=
 ((h.setCell (p:=⟨g,0,none⟩) hg _).setCell (p:=⟨g,1,none⟩) hg _).setCell (p:=⟨g,2,none⟩) hg _
theorem atSize:(Tryz.prog.info? 86).map (·.size) = some 3:=by kernel_rfl
theorem one_facts {w:World} {g:Nat} {x:Value} {t:TypeId} (h:w.heap[g]? = some (.cells #[x] t (0,0))):w.cell? ⟨g,0,none⟩ = some x ∧ w.frozen? ⟨g,0,none⟩ = false ∧ g < w.heap.size:=by
 refine ⟨?_,Lib.frozen_of_heap h 0,(Array.getElem?_eq_some_iff.1 h).1⟩
 rw [Lib.cell_of_heap h];rfl
theorem one_set {w:World} {g:Nat} {x a:Value} {t:TypeId} (h:w.heap[g]? = some (.cells #[x] t (0,0))):(w.setCell ⟨g,0,none⟩ a).heap[g]? = some (.cells #[a] t (0,0)):=by
 simp [World.setCell,Array.getElem?_modify,h]
theorem nmSize:(Tryz.prog.info? 27).map (·.size) = some 1:=by kernel_rfl
theorem nmRes {fn:Func} {p u:Tmp} (h:fn.results = #[.cell p 27,.tmp u]) (tmps:Array Value) (w w0:World) (x:Value)
  (hp:tmps.getD p undef = .pointer (some ⟨w0.heap.size,0,none⟩)) (hg:w.heap[w0.heap.size]? = some (.cells #[x] 27 (0,0))) :
  (results fn tmps).run Tryz.prog w = .ok (.tuple #[.agg #[x],tmps.getD u undef]) w :=
 results_cell_row2 h tmps w w0.heap.size 27 #[x] (0,0) _ hp hg Tryz.underlying27 rfl nmSize
theorem rdInfo:(Tryz.prog.info? 84).map (fun i => (i.zero,i.size,i.bytes)) = some (some (.slice none 0 0),1,24):=by kernel_rfl
theorem row_news (w1:World) (v:Value) (T:TypeId):∀ j u,[v][j]? = some u → (w1.alloc (.cells #[v] T)).cell? ((⟨w1.heap.size,0,none⟩:Addr).add j) = some u:=by
 intro j u h
 exact news_row w1 #[v] T j u (by simpa using h)
theorem one_one (a:Option Addr) (n c:Nat):∀ u ∈ [Value.slice a n c],u.oneCell' = true:=by
 intro u hu
 obtain rfl:u = _:=by simpa using hu
 rfl
/-- The box of a name stays while its row grows. -/
theorem more_box {wr w1 w2:World} {p B n k:Nat} {x v:Value} {T e:TypeId} {xs:List Value} {Y:Obj} (h:w1.heap[p]? = some (.cells #[x] T (0,0))) (hp:p < B) (ho:wr.ownsRow B e k v n xs) (hg:(w1.alloc Y).grownBy w2 v.ownBlock):w2.heap[p]? = some (.cells #[x] T (0,0)):=by
 have hl:p < w1.heap.size:=(Array.getElem?_eq_some_iff.1 h).1
 refine (hg.block p (by simp;omega) (fun e => ?_)).trans (((belowNew w1 Y).block p hl).trans h)
 have:=(World.ownsRow.lt ho p e.symm).1
 omega
/-- The slice value v,of memory from block B on,holds the texts ss. -/
def OwnT (w:World) (B:Nat) (v:Value) (ss:List ByteArray):Prop:=w.ownsRow B 9 1 v ss.length (ss.map Value.string)
theorem OwnT.cells {w:World} {B N:Nat} {v:Value} {ss:List ByteArray} (h:OwnT w B v ss) (hN:N = ss.length) (h0:ss ≠ []) :
  ∃ g cp,v = .slice (some ⟨g,0,none⟩) N cp ∧ g < w.heap.size ∧ B ≤ g ∧ N ≤ cp ∧ ∀ j,j < N → w.cell? ⟨g,j,none⟩ = some (.string (ss.getD j ⟨#[]⟩)):=by
 subst hN
 rcases h.2 with ⟨_,h1⟩ | ⟨g,cap,cur,rfl,hB,hg,hn,_,hcs,htk⟩
 ·exact absurd (List.eq_nil_of_length_eq_zero h1) h0
 ·refine ⟨g,cap,rfl,(Array.getElem?_eq_some_iff.1 hg).1,hB,hn,fun j hj => ?_⟩
  rw [cell_of_row w g j _ _ _ hg]
  have:(cur.toList.take (ss.length * 1))[j]? = some (.string ss[j]):=by rw [htk];simp [hj]
  rw [List.getElem?_take_of_lt (by omega)] at this
  rw [List.getD_eq_getElem?_getD,List.getElem?_eq_getElem hj]
  simpa using this
theorem strT_round {w wr w2:World} {B:Nat} {v v':Value} {D:List ByteArray} {y:ByteArray} {X:Obj} (hB:w.heap.size ≤ B) (hown:OwnT wr B v D) (hb:Below w.heap.size w wr)
  (hown2:w2.ownsRow B 9 1 v' (D.length + 1) (D.map Value.string ++ [.string y])) (hgr2:(wr.alloc X).grownBy w2 v.ownBlock):OwnT w2 B v' (D ++ [y]) ∧ Below w.heap.size w w2:=by
 refine ⟨?_,?_⟩
 ·unfold OwnT
  rw [List.length_append,List.map_append];exact hown2
 ·exact (Below.alloc hb hb.size X).grown hgr2 (by simp;have:=hb.size;omega) (fun k e => Nat.le_trans hB (World.ownsRow.lt hown k e).1)
theorem str_one (d:ByteArray):∀ u ∈ [Value.string d],u.oneCell' = true:=by
 intro u hu
 obtain rfl:u = _:=by simpa using hu
 rfl
abbrev dl (s:ByteArray):List UInt8:=s.data.toList
theorem map_dl_inj {a b:List ByteArray} (h:a.map dl = b.map dl):a = b:=by
 induction a generalizing b with
 |nil => cases b with
  |nil => rfl
  |cons y t => simp at h
 |cons x r ih => cases b with
  |nil => simp at h
  |cons y t =>
   rw [List.map_cons,List.map_cons] at h
   injection h with h1 h2
   rw [list_inj h1,ih h2]
theorem take_all_drop {L:List UInt8} {a i:Nat} (h:i = L.length):(L.take i).drop a = L.drop a:=by rw [h,List.take_length]
set_option maxRecDepth 100000 in
set_option maxHeartbeats 4000000 in
theorem rsplit_any (s:ByteArray) (cc:UInt8) (n:Nat) (hcn:n = cc.toNat) (w:World) (hs:s.size ≤ 150000) :
  Calls Tryz.prog 88 #[.string s,.int .u8 (n:Int)] w fun e w' => (∃ v,e = .returned v ∧ OwnT w' w.heap.size v (pcsS cc s)) ∧ Below w.heap.size w w':=by
 obtain ⟨i0,hi,hz0,hz1,hz2⟩:=info_parts strInfo
 have HCN:=Lib.hid hcn
 obtain ⟨L,hL⟩:∃ L,L = s.data.toList:=⟨_,rfl⟩
 have HL:=Lib.hid hL
 have HSP:=Lib.hid (pcsS_spl cc s)
 rw [← hL] at HSP
 have HLL:=Lib.hid (show L.length = s.size by rw [hL];rfl)
 clear hcn hL
 go_enter Tryz.func88,Tryz.ntmps88
 go_wp2_with fail
 go_loopw [5,6,7] (fun v t u wr => ∃ (i a:Nat) (P:List ByteArray),u = .int .i64 (i:Int) ∧ t = .int .i64 (a:Int) ∧ i ≤ s.size + 1 ∧ P.length ≤ i ∧ OwnT wr w.heap.size v P ∧ Below w.heap.size w wr ∧
   ((a ≤ i ∧ i ≤ s.size ∧ cc ∉ (L.take i).drop a ∧ ∀ qs,Spl cc (L.drop a) qs → Spl cc L (P.map dl ++ qs)) ∨ (i = s.size + 1 ∧ Spl cc L (P.map dl)))) (fun _ _ u _ => s.size + 1 - (intOf u).toNat)
 case atStart => exact ⟨0,0,[],rfl,rfl,Nat.zero_le _,Nat.zero_le _,World.ownsRow_nil _ _ _ _,Below.refl _ _,.inl ⟨Nat.le_refl _,Nat.zero_le _,by simp,fun qs h => by simpa using h⟩⟩
 case round =>
  obtain ⟨i,a,P,rfl,rfl,hi1,hPl,ho,hb,hcase⟩:=hrel
  have HO:=Lib.hid ho
  have HB:=Lib.hid hb
  clear ho hb
  rcases hcase with ⟨ha,his,hno,hq⟩ | ⟨hie,hq⟩
  ·have d1:decide ((i:Int) ≤ (s.size:Int)) = true:=by simp;omega
   have HNO:=Lib.hid hno
   have HQ:=Lib.hid hq
   clear hno hq
   by_cases hbyte:i < s.size ∧ u8at s i ≠ n
   ·obtain ⟨hlt,hne⟩:=hbyte
    have d2:((i:Int) == (s.size:Int)) = false:=by simp;omega
    have hix:=fun w => run_index_u8 (P:=Tryz.prog) Tryz.underlying9 s i hlt (i:Int) rfl w
    obtain ⟨c,hc,hcn⟩:=u8at_list s i hlt
    rw [← HL.out] at hc
    have HNX:=Lib.hid (show cc ∉ (L.take (i + 1)).drop a by
     rw [part_snoc ha hc]
     intro hm
     rcases List.mem_append.1 hm with hm | hm
     ·exact HNO.out hm
     ·exact hne (by rw [hcn,HCN.out,List.mem_singleton.1 hm]))
    generalize u8at s i = m at hix hne
    have d3:((m:Int) == (n:Int)) = false:=by simp;omega
    clear hc hcn
    go_wp2_with fail
    go_roundw
    case rel => exact ⟨i + 1,a,P,by go_num,rfl,by omega,by omega,HO.out,HB.out,.inl ⟨by omega,by omega,HNX.out,HQ.out⟩⟩
    case measure => first | (simp [intOf];done) | (simp [intOf];omega)
   ·have hor:(i = s.size) ∨ (i < s.size ∧ u8at s i = n):=by
     rcases Nat.lt_or_ge i s.size with h | h
     ·exact .inr ⟨h,Classical.byContradiction fun e => hbyte ⟨h,e⟩⟩
     ·left;omega
    clear hbyte
    rcases hor with hie | ⟨hlt,hbn⟩
    ·subst hie
     have hsl:∀ w,(Instr.slice 9 (.string s) (some (.int .i64 (a:Int))) (some (.int .i64 (s.size:Int))) none).run Tryz.prog w = .ok (.string (s.extract a s.size)) w:=fun w => by
      have:=run_slice_string (P:=Tryz.prog) w 9 s .i64 .i64 (a:Int) (s.size:Int) Tryz.underlying9 (by omega) (by omega) (by omega)
      simpa using this
     have HEX:=Lib.hid (show dl (s.extract a s.size) = (L.take s.size).drop a by
      show (s.extract a s.size).data.toList = _
      rw [HL.out,ByteArray.data_extract,Array.toList_extract,List.extract_eq_take_drop,← List.drop_take])
     generalize s.extract a s.size = d at hsl HEX
     have d2:((s.size:Int) == (s.size:Int)) = true:=by simp
     have HFIN:=Lib.hid (show Spl cc L ((P ++ [d]).map dl) by
      rw [List.map_append,List.map_singleton,HEX.out,take_all_drop HLL.out.symm]
      exact HQ.out _ (spl_one (by have:=HNO.out;rwa [take_all_drop HLL.out.symm] at this)))
     go_wp2_with (at_builtin;(refine wpList_append_own _ rfl (.tmp 25) (.tmp 30) 46 rfl w.heap.size 9 i0 (.string ByteArray.empty) 1 16 Tryz.underlying46 hi hz0 hz1 hz2 rfl (by decide) _ P.length (P.map Value.string) rfl (World.ownsRow.alloc HO.out _) ⟨wr.heap.size,0,none⟩ 1 1 [.string d] rfl rfl (row_news wr _ _) (str_one _) (by unfold maxLen;omega) (by omega) (by have:=HB.out.size;simp;omega) ?_);intro v' w2 hown2 hgr2 _;obtain ⟨P1,P2⟩:=strT_round (Nat.le_refl _) HO.out HB.out hown2 hgr2;have HP1:=Lib.hid P1;have HP2:=Lib.hid P2;clear hown2 hgr2 P1 P2)
     go_roundw
     case rel => exact ⟨s.size + 1,s.size + 1,P ++ [d],by go_num,by go_num,Nat.le_refl _,by simp;omega,HP1.out,HP2.out,.inr ⟨rfl,HFIN.out⟩⟩
     case measure => first | (simp [intOf];done) | (simp [intOf];omega)
    ·have d2:((i:Int) == (s.size:Int)) = false:=by simp;omega
     have hsl:∀ w,(Instr.slice 9 (.string s) (some (.int .i64 (a:Int))) (some (.int .i64 (i:Int))) none).run Tryz.prog w = .ok (.string (s.extract a i)) w:=fun w => by
      have:=run_slice_string (P:=Tryz.prog) w 9 s .i64 .i64 (a:Int) (i:Int) Tryz.underlying9 (by omega) (by omega) (by omega)
      simpa using this
     have HEX:=Lib.hid (show dl (s.extract a i) = (L.take i).drop a by
      show (s.extract a i).data.toList = _
      rw [HL.out,ByteArray.data_extract,Array.toList_extract,List.extract_eq_take_drop,← List.drop_take])
     generalize s.extract a i = d at hsl HEX
     have hix:∀ w,(Instr.index 9 (.string s) (.int .i64 (i:Int))).run Tryz.prog w = .ok (.int .u8 (n:Int)) w:=fun w => by
      have:=run_index_u8 (P:=Tryz.prog) Tryz.underlying9 s i hlt (i:Int) rfl w
      rw [hbn] at this;exact this
     obtain ⟨c,hc,hcn⟩:=u8at_list s i hlt
     rw [← HL.out] at hc
     have hcc:c = cc:=UInt8.toNat_inj.1 (by rw [← hcn,hbn,HCN.out])
     rw [hcc] at hc
     have d3:((n:Int) == (n:Int)) = true:=by simp
     have HFIN:=Lib.hid (show ∀ qs,Spl cc (L.drop (i + 1)) qs → Spl cc L ((P ++ [d]).map dl ++ qs) from fun qs h => by
      have h2:=spl_cons HNO.out h
      have e:L.drop a = (L.take i).drop a ++ cc :: L.drop (i + 1):=by
       have hi':i < L.length:=(List.getElem?_eq_some_iff.1 hc).1
       conv => lhs;rw [at_split L i cc hc]
       rw [List.drop_append_of_le_length (by simp;omega)]
      rw [← e] at h2
      have h3:=HQ.out _ h2
      rw [List.map_append,List.map_singleton,HEX.out,List.append_assoc]
      exact h3)
     clear hc hcn hcc hbn
     go_wp2_with (at_builtin;(refine wpList_append_own _ rfl (.tmp 25) (.tmp 30) 46 rfl w.heap.size 9 i0 (.string ByteArray.empty) 1 16 Tryz.underlying46 hi hz0 hz1 hz2 rfl (by decide) _ P.length (P.map Value.string) rfl (World.ownsRow.alloc HO.out _) ⟨wr.heap.size,0,none⟩ 1 1 [.string d] rfl rfl (row_news wr _ _) (str_one _) (by unfold maxLen;omega) (by omega) (by have:=HB.out.size;simp;omega) ?_);intro v' w2 hown2 hgr2 _;obtain ⟨P1,P2⟩:=strT_round (Nat.le_refl _) HO.out HB.out hown2 hgr2;have HP1:=Lib.hid P1;have HP2:=Lib.hid P2;clear hown2 hgr2 P1 P2)
     go_roundw
     case rel => exact ⟨i + 1,i + 1,P ++ [d],by go_num,by go_num,by omega,by simp;omega,HP1.out,HP2.out,.inl ⟨by omega,by omega,by rw [List.drop_eq_nil_of_le (by simp;omega)];simp,HFIN.out⟩⟩
     case measure => first | (simp [intOf];done) | (simp [intOf];omega)
  ·have d1:decide ((i:Int) ≤ (s.size:Int)) = false:=by simp;omega
   have HF:=Lib.hid (show P = pcsS cc s from map_dl_inj (spl_inj hq HSP.out))
   clear hq
   go_wp2_with fail
   go_ret
   exact ⟨⟨_,rfl,by rw [← HF.out];exact HO.out⟩,HB.out⟩
theorem ext_list_h (r:ByteArray) (i j:Nat):(r.extract i j).data.toList = (r.data.toList.drop i).take (j - i):=by
 rw [ByteArray.data_extract,Array.toList_extract,List.extract_eq_take_drop]
theorem slice_tail_h (s:ByteArray) (i:Nat) (hi:i ≤ s.size) (a:Int) (ha:a = (i:Int)) (w:World) :
  (Instr.slice 9 (.string s) (some (.int .i64 a)) none none).run Tryz.prog w = .ok (.string (strOf (s.data.toList.drop i))) w:=by
 subst ha
 have:=run_slice_string_from_if (P:=Tryz.prog) w 9 s .i64 (i:Int) Tryz.underlying9
 rw [this,if_pos ⟨by omega,by omega⟩]
 have e:(s.extract i s.size).data.toList = s.data.toList.drop i:=by
  rw [ext_list_h]
  exact List.take_of_length_le (by rw [List.length_drop];exact Nat.le_refl _)
 rw [← strOf_of e]
 congr 3
theorem tail_of (L:List UInt8) (i:Nat) (hi:i ≤ L.length) (a:Int) (ha:a = (i:Int)) (w:World) :
  (Instr.slice 9 (.string (strOf L)) (some (.int .i64 a)) none none).run Tryz.prog w = .ok (.string (strOf (L.drop i))) w:=slice_tail_h (strOf L) i hi a ha w
theorem head_of (L:List UInt8) (i:Nat) (hi:i ≤ L.length) (a:Int) (ha:a = (i:Int)) (w:World) :
  (Instr.slice 9 (.string (strOf L)) none (some (.int .i64 a)) none).run Tryz.prog w = .ok (.string (strOf (L.take i))) w:=by
 subst ha
 have:=run_slice_string_to_if (P:=Tryz.prog) w 9 (strOf L) .i64 (i:Int) Tryz.underlying9
 rw [this,if_pos ⟨by omega,by rw [strOf_size];omega⟩]
 have e:((strOf L).extract 0 i).data.toList = L.take i:=by
  rw [ext_list_h,strOf_list,List.drop_zero,Nat.sub_zero]
 rw [← strOf_of e]
 congr 3
end Go.Proofs.YtbpdenfiifcfcaaGreatDoor
