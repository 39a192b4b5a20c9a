/-
  The contract of maps.Equal at the maps of foldedSet, and of matchRelative: whether two relative names match.
-/
import Derived.Test.YtofadgmnjckpcaaGreatDoorUaf
namespace Go.Proofs.YtofadgmnjckpcaaGreatDoor
open Go.RowKit Go.Maps

theorem fK_key (p : ByteArray × ByteArray) : WideAt.IsKeyLit (fK p) := by unfold fK; trivial
theorem keys_of (l : List At) : ∀ x ∈ l.map (fun a => fK (fa a)), WideAt.IsKeyLit x := by
  intro x hx
  obtain ⟨a, _, rfl⟩ := List.mem_map.1 hx
  exact fK_key _
theorem fK_inj {p q : ByteArray × ByteArray} (h1 : p.1.size ≤ maxLen) (h2 : p.2.size ≤ maxLen) (k1 : q.1.size ≤ maxLen) (k2 : q.2.size ≤ maxLen) (h : fK p = fK q) : p = q := by
  have := fLaw.inj (fKey p h1 h2) (h ▸ fKey q k1 k2)
  unfold fV at this
  simp at this
  exact Prod.ext this.1 this.2
theorem atKey_fold (kl : Lit) : ∀ (acc : List Lit) (m : DataW Unit), IsMap m → (∀ x ∈ acc, WideAt.IsKeyLit x) → (∀ z, m.atKey kl z = sU ∨ m.atKey kl z = z) → ∀ z, (acc.foldl (fun m x => m.put x sU) m).atKey kl z = sU ∨ (acc.foldl (fun m x => m.put x sU) m).atKey kl z = z
  | [], _, _, _, h => h
  | x :: r, m, hm, hk, h => by
    rw [List.foldl_cons]
    refine atKey_fold kl r _ (hm.put x sU) (fun y hy => hk y (by simp [hy])) (fun z => ?_)
    by_cases e : kl = x
    · subst e
      exact .inl (atKey_put_same hm (hk kl (by simp)) sU z)
    · rw [atKey_put_other e]
      exact h z
theorem atKey_setD (l : List At) (kl : Lit) (z : DataW Unit) : (setD l).atKey kl z = sU ∨ (setD l).atKey kl z = z :=
  atKey_fold kl _ _ isMap_empty (keys_of l) (fun _ => .inr rfl) z
theorem has_setD (l : List At) (k : Lit) : has (setD (H := Unit) l) k = (l.map fun a => fK (fa a)).any (fun x => x.sameKey k) := has_setOf _ _ _ (keys_of l)
theorem peb_inv {P : Program} {e : TypeId} (he : P.underlying e = some .bool) {v : Value} {y : DataW Unit × List MemPlace} (h : plainElem P e v = some y) : ∃ c : Bool, v = .bool c ∧ y = (.lit (.bool c), []) := by
  unfold plainElem at h
  rw [he] at h
  cases v <;> simp at h
  exact ⟨_, rfl, h.symm⟩
theorem rb_inv {v : Value} {y : DataW Unit × List MemPlace} (h : Rb v = some y) : ∃ c : Bool, v = .bool c ∧ y = (.lit (.bool c), []) := peb_inv Tryz.underlying4 h
theorem came_true {l : List At} {kl : Lit} {c : Bool} (h : ∀ zd : DataW Unit, (setD l).atKey kl zd = .lit (.bool c)) : c = true := by
  rcases atKey_setD l kl .nil with e | e
  · rw [h .nil] at e
    unfold sU at e
    simpa using e
  · rw [h .nil] at e; cases e
theorem look_true {l : List At} {kl : Lit} {zd : DataW Unit} {v : Value} {ps : List MemPlace} (hh : has (setD (H := Unit) l) kl = true) (h : Rb v = some ((setD l).atKey kl zd, ps)) : v = .bool true := by
  have e : (setD l).atKey kl zd = sU := by
    rw [atKey_indep hh zd sU]
    rcases atKey_setD l kl sU with e | e <;> exact e
  obtain ⟨c, rfl, h2⟩ := rb_inv h
  rw [e] at h2
  have := congrArg Prod.fst h2
  unfold sU at this
  simp at this
  rw [this]
theorem lits_str {P : Program} {s : TypeId} (hs : P.underlying s = some .string) {d : Nat} {x : Value} {L : List Lit} (h : P.keyLits (d + 1) s [x] = some L) : ∃ a, x = .string a := by
  unfold Program.keyLits at h
  rw [hs] at h
  cases x <;> simp at h
  exact ⟨_, rfl⟩
theorem lits_two {P : Program} {t s : TypeId} {f0 f1 : Field} (hu : P.underlying t = some (.struct #[f0, f1])) (o0 : f0.offset = 0) (o1 : f1.offset = 1) (t0 : f0.type = s) (t1 : f1.type = s) (hs : P.underlying s = some .string) (c1 : P.cellsOf s = 1) (c2 : P.cellsOf t = 2)
    {d : Nat} {l : List Value} {L : List Lit} (h : P.keyLits (d + 2) t l = some L) : ∃ a b, l = [.string a, .string b] := by
  unfold Program.keyLits at h
  rw [hu] at h
  simp only [] at h
  split at h
  · rename_i hc
    have hl : l.length = 2 := by rw [hc.1, c2]
    match l, hl with
    | [x, y], _ =>
      cases h0 : P.keyLits (d + 1) s [x] with
      | none => simp [o0, o1, t0, t1, c1, h0] at h
      | some L0 =>
        cases h1 : P.keyLits (d + 1) s [y] with
        | none => simp [o0, o1, t0, t1, c1, h0, h1] at h
        | some L1 =>
          obtain ⟨a, rfl⟩ := lits_str hs h0
          obtain ⟨b, rfl⟩ := lits_str hs h1
          exact ⟨a, b, rfl⟩
  · cases h
set_option maxRecDepth 100000 in
/-- A key's shape. -/
theorem key_shape {key : Value} {kl : Lit} (h : keyOf Tryz.prog 117 key = some kl) : ∃ p : ByteArray × ByteArray, key = .agg #[.string p.1, .string p.2] := by
  obtain ⟨xs, L, rfl, h2, _⟩ := keyOf_top (by kernel_rfl) h
  have c1 : Tryz.prog.cellsOf 9 = 1 := by kernel_rfl
  have c2 : Tryz.prog.cellsOf 117 = 2 := by kernel_rfl
  have hsz : 1 < Tryz.prog.types.size := by decide +kernel
  obtain ⟨d, hd⟩ : ∃ d, Tryz.prog.types.size + 1 = d + 2 := ⟨Tryz.prog.types.size - 1, by omega⟩
  rw [hd] at h2
  obtain ⟨a, b, hx⟩ := lits_two Tryz.underlying117 rfl rfl rfl rfl Tryz.underlying9 c1 c2 h2
  refine ⟨(a, b), ?_⟩
  congr 1
  exact Array.toList_inj.1 hx
def tt (_ _ : DataW Unit) : Bool := true
theorem zeroB (w : World) : (zeroValue 4).run Tryz.prog w = .ok (.bool false) w := by kernel_rfl
theorem rb_false : Rb (.bool false) = some (.lit (.bool false), []) := plainElem_bool Tryz.underlying4 false

/-- The step of the range over such a set: an entry's element is true. -/
theorem wpList_next_set {ops : Array Oper} {rest : List Oper} {o : Oper} {a : Act} {Q : Exit → Act → World → Prop} (w : World) (hg : o.guard = none) (it : Operand) (hop : o.op = Op.next it false) (b r n : Nat) (D : DataW Unit) (left : Lit → Bool) (cnt : Nat)
    (htrue : ∀ (kl : Lit) (c : Bool), (∀ zd : DataW Unit, D.atKey kl zd = .lit (.bool c)) → c = true)
    (hit : a.eval it = .pointer (some ⟨r, 0, none⟩)) (h : w.ranges Tryz.prog 117 Rb b r n D left cnt)
    (hDone : cnt = 0 → (∀ kl, left kl = false) → wpList Tryz.prog ops Q rest (a.put o.dst (.tuple #[.bool false])) w)
    (hMore : ∀ (xa xb : ByteArray) (kl : Lit) (w' : World) (cnt' : Nat), keyOf Tryz.prog 117 (.agg #[.string xa, .string xb]) = some kl → (∀ zd, D.atKey kl zd = .lit (.bool true)) → w'.ranges Tryz.prog 117 Rb b r n D (fun z => left z && !z.sameKey kl) cnt' → cnt' < cnt →
      w.grownBy w' (some r) → (Instr.entry (.pointer (some ⟨r, 0, none⟩))).run Tryz.prog w' = .ok (.tuple #[.agg #[.string xa, .string xb], .bool true]) w' → wpList Tryz.prog ops Q rest (a.put o.dst (.tuple #[.bool true, .agg #[.string xa, .string xb], .bool true])) w') :
    wpList Tryz.prog ops Q (o :: rest) a w :=
  wpList_next_ranges w hg it hop 117 fLaw Rb (fun (p : ByteArray × ByteArray) => Value.agg #[.string p.1, .string p.2]) Value.bool (fun _ _ hk => key_shape hk) (fun _ _ hv => by obtain ⟨c, rfl, _⟩ := rb_inv hv; exact ⟨c, rfl⟩) b r n D left cnt hit h hDone
    (fun x c kl y w' cnt' hkey _ hv hat hrg hlt hgr _ hen => by
      obtain ⟨c', e, rfl⟩ := rb_inv hv
      obtain rfl : c = c' := by simpa using e
      obtain rfl : c = true := htrue kl c hat
      exact hMore x.1 x.2 kl w' cnt' hkey hat hrg hlt hgr hen)
set_option maxHeartbeats 4000000 in
set_option maxRecDepth 100000 in
theorem meq_any (b1 b2 n1 n2 : Nat) (l1 l2 : List At) (w : World) (h1 : w.ownsMap Tryz.prog 117 Rb b1 n1 (setD l1)) (h2 : w.ownsMap Tryz.prog 117 Rb b2 n2 (setD l2)) :
    Calls Tryz.prog 115 #[.map (some b1), .map (some b2)] w
      fun e w' => e = .returned (.bool (Lib.equalFuncD tt (setD l1) (setD l2))) ∧ Below w.heap.size w w' := by
  have l1' := fun ty => h1.len (t := 115) Tryz.underlying115 ty
  have l2' := fun ty => h2.len (t := 115) Tryz.underlying115 ty
  have HAT1 := Lib.hid (fun (kl : Lit) (c : Bool) (h : ∀ zd : DataW Unit, (setD l1).atKey kl zd = .lit (.bool c)) => came_true h)
  have HLT2 := Lib.hid (fun (kl : Lit) (zd : DataW Unit) (v : Value) (ps : List MemPlace) (hh : has (setD (H := Unit) l2) kl = true) (h : Rb v = some ((setD l2).atKey kl zd, ps)) => look_true hh h)
  generalize (setD l1 : DataW Unit) = D1 at h1 l1' HAT1 ⊢
  generalize (setD l2 : DataW Unit) = D2 at h2 l2' HLT2 ⊢
  obtain ⟨es1, rfl, hap, hkeys⟩ := h1.entries fLaw
  have hb2 := h2.lt
  generalize hres : Lib.equalFuncD tt (.map es1) D2 = res
  have RES := Lib.hid (show Lib.equalFuncD tt (.map es1) D2 = res from hres)
  clear hres
  by_cases hsz : Maps.size (.map es1 : DataW Unit) = Maps.size D2
  · go_enter Tryz.func115, Tryz.ntmps115
    go_wp2_with (first
      | (at_range; refine wpList_range_own _ rfl _ 115 rfl 117 4 fLaw Tryz.underlying115 Rb b1 n1 _ rfl h1 ?_; intro w0 hrg0 hg0 hs0)
      | go_in)
    go_frame
    go_loopw [16] (fun _ wr => ∃ (left : Lit → Bool) (cnt : Nat), wr.ranges Tryz.prog 117 Rb b1 w.heap.size n1 (.map es1) left cnt ∧ wr.ownsMap Tryz.prog 117 Rb b2 n2 D2 ∧ w.grownBy wr none ∧ Hid (GoodAt tt es1 D2 left))
      (fun _ wr => wr.rangeLeft b1 w.heap.size)
    case atStart => exact ⟨_, _, hrg0, h2.kept hg0 (by simp), hg0, good_start hkeys D2⟩
    case round =>
      obtain ⟨left, cnt, hrg, h2r, hgw, G⟩ := hrel
      go_wp2_with (first
        | (at_next; refine wpList_next_set _ rfl _ rfl b1 w.heap.size n1 _ _ _ HAT1.out rfl hrg ?_ ?_)
        | go_in)
      · intro _ hl0
        go_wp2
        go_ret
        exact ⟨by rw [← RES.out, all_good G.out hl0 hsz]; rfl, only_below hgw⟩
      · intro xa xb kl w1 cnt1 hkey hat hrg1 hlt hg1 hen
        have hgw1 : w.grownBy w1 none := hgw.andThen hg1 (fun j hj => by cases hj; exact Or.inl (Nat.le_refl _))
        have h2w1 := h2r.kept hg1 (fun e => by have := Option.some.inj e; omega)
        have HAT := Lib.hid (show ∀ zd, (DataW.map es1).atKey kl zd = .lit (.bool true) from hat)
        have HKEY := Lib.hid (show keyOf Tryz.prog 117 (.agg #[.string xa, .string xb]) = some kl from hkey)
        have hrgA := Lib.hid (hrg1.alloc (.cells #[.string xa, .string xb] 117))
        have h2A := Lib.hid (h2w1.alloc (.cells #[.string xa, .string xb] 117))
        have hgwA := Lib.hid (hgw1.andThen (World.grownBy_alloc w1 (.cells #[.string xa, .string xb] 117) none) (fun j hj => by cases hj))
        clear hat hkey hrg1 h2w1 hgw1 hg1
        cases hh : Maps.has D2 kl
        · have hbad : Lib.goodD tt D2 (kl, .lit (.bool true)) = false := by unfold Lib.goodD; rw [hh]; rfl
          go_wp2_with (first
            | (at_lookup; refine wpList_lookup_own_ok _ rfl _ _ 115 rfl 117 4 fLaw Tryz.underlying115 Rb (zeroB _) _ _ rb_false b2 n2 D2 rfl h2A.out _ kl rfl HKEY.out ?_; intro v2 ps2 hv2; rw [hh]; go_frame)
            | go_in)
          go_ret
          exact ⟨by rw [← RES.out, bad_false hap hkeys HAT.out hbad]; rfl, only_below hgwA.out⟩
        · have hgood : Lib.goodD tt D2 (kl, .lit (.bool true)) = true := by unfold Lib.goodD; rw [hh]; rfl
          go_wp2_with (first
            | (at_lookup; refine wpList_lookup_own_ok _ rfl _ _ 115 rfl 117 4 fLaw Tryz.underlying115 Rb (zeroB _) _ _ rb_false b2 n2 D2 rfl h2A.out _ kl rfl HKEY.out ?_; intro v2 ps2 hv2; rw [hh]; obtain rfl := HLT2.out kl _ v2 ps2 hh hv2; go_frame)
            | go_in)
          go_roundw
          case rel => exact ⟨_, cnt1, hrgA.out, h2A.out, hgwA.out, good_step hap hkeys HAT.out G.out hgood⟩
          case measure => rw [hrgA.out.left_eq, hrg.left_eq]; exact hlt
  · have hne : ¬ ((Maps.size (.map es1 : DataW Unit) : Int) = (Maps.size D2 : Int)) := fun e => hsz (by exact_mod_cast e)
    go_enter Tryz.func115, Tryz.ntmps115
    go_wp2
    go_ret
    exact ⟨by rw [← RES.out, sizes_false hsz]; rfl, Below.refl _ _⟩
end Go.Proofs.YtofadgmnjckpcaaGreatDoor
