/-
  The contract of parseRelative: the relative name that a text denotes, if it denotes one.
  The contract of parseName: the name that a text denotes, if it denotes one.
-/
import Derived.Test.YtfpfgdbfigdooaaGreatDoorEak
import Derived.Test.YtfpfgdbfigdooaaGreatDoorEai
namespace Go.Proofs.YtfpfgdbfigdooaaGreatDoor
open Go.RowKit

/-- All answers, if there are all. -/
def allO {β γ : Type} (f : β → Option γ) : List β → Option (List γ)
  | [] => some []
  | x :: r => match f x with
    | none => none
    | some y => match allO f r with
      | none => none
      | some l => some (y :: l)
theorem allO_step {β γ : Type} {f : β → Option γ} {l : List β} {k : Nat} {d : β} (h : k < l.length) {y : γ} (hy : f (l.getD k d) = some y) (D : List γ) :
    (allO f (l.drop k)).map (D ++ ·) = (allO f (l.drop (k + 1))).map ((D ++ [y]) ++ ·) := by
  rw [dropD l k h d]
  show Option.map _ (match f (l.getD k d) with | none => none | some y => match allO f (l.drop (k + 1)) with | none => none | some l => some (y :: l)) = _
  rw [hy]
  cases allO f (l.drop (k + 1)) with
  | none => rfl
  | some t => simp
theorem allO_bad {β γ : Type} {f : β → Option γ} {l : List β} {k : Nat} {d : β} (h : k < l.length) (hy : f (l.getD k d) = none) : allO f (l.drop k) = none := by
  rw [dropD l k h d]
  show (match f (l.getD k d) with | none => none | some y => match allO f (l.drop (k + 1)) with | none => none | some l => some (y :: l)) = _
  rw [hy]
theorem allO_end {β γ : Type} {f : β → Option γ} {l : List β} {k : Nat} (h : l.length ≤ k) (D : List γ) : (allO f (l.drop k)).map (D ++ ·) = some D := by
  rw [List.drop_eq_nil_of_le h]; simp [allO]
theorem allO_start {β γ : Type} (f : β → Option γ) (l : List β) : allO f l = (allO f (l.drop 0)).map ([] ++ ·) := by
  rw [List.drop_zero]
  cases allO f l <;> simp
/-- The relative name that a text denotes. -/
noncomputable def prsR (x : ByteArray) : Option (List At) := allO prsA (pcsS 43 x)
theorem pieces_size (c : UInt8) (s : ByteArray) (k : Nat) (hk : k < (pcsS c s).length) : ((pcsS c s).getD k ⟨#[]⟩).size ≤ s.size := by
  have h := (pcsS_spl c s).2.1
  have hm : ((pcsS c s).getD k ⟨#[]⟩).data.toList ∈ (pcsS c s).map (·.data.toList) := by
    refine List.mem_map.2 ⟨_, ?_, rfl⟩
    rw [List.getD_eq_getElem?_getD, List.getElem?_eq_getElem hk]
    exact List.getElem_mem hk
  have key : ∀ (ps : List (List UInt8)) (p : List UInt8), p ∈ ps → p.length ≤ (Lib.join ps [c]).length := by
    intro ps
    induction ps with
    | nil => intro p hp; simp at hp
    | cons q r ih =>
      intro p hp
      cases r with
      | nil =>
        rw [Lib.join_one]
        obtain rfl : p = q := by simpa using hp
        exact Nat.le_refl _
      | cons q' r' =>
        rw [join_two, List.length_append, List.length_cons]
        rcases List.mem_cons.1 hp with rfl | hp
        · omega
        · have := ih p hp; omega
  have := key _ _ hm
  rw [h] at this
  exact this
theorem ats_news (w1 : World) (X : Obj) (e : At) (cs : Array Value) (hcs : cs = (atCells e).toArray) :
    ∀ j u, (atCells e)[j]? = some u → ((w1.alloc X).alloc (.cells cs 27)).cell? ((⟨w1.heap.size + 1, 0, none⟩ : Addr).add j) = some u := by
  intro j u h
  have := news_row (w1.alloc X) cs 27 j u (by rw [hcs]; simpa using h)
  simpa using this
theorem ats_round {w wr w1 w2 : World} {B : Nat} {v v' : Value} {D : List At} {e : At} {X Y : Obj} (hB : w.heap.size ≤ B) (hown : OwnA wr B v D) (hb : Below w.heap.size w wr) (hb1 : Below wr.heap.size wr w1)
    (hown2 : w2.ownsRow B 27 3 v' (D.length + 1) (atsCells D ++ atCells e)) (hgr2 : ((w1.alloc X).alloc Y).grownBy w2 v.ownBlock) : OwnA w2 B v' (D ++ [e]) ∧ Below w.heap.size w w2 := by
  have h1 := hb.size
  have h2 := hb1.size
  refine ⟨?_, ?_⟩
  · unfold OwnA
    rw [List.length_append, atsCells_snoc]; exact hown2
  · exact (((hb.trans (hb1.mono h1)).alloc (by omega) X).alloc (by simp; omega) Y).grown hgr2 (by simp; omega) (fun k e => Nat.le_trans hB (World.ownsRow.lt hown k e).1)

set_option maxRecDepth 100000 in
set_option maxHeartbeats 4000000 in
theorem prsR_any (x : ByteArray) (w : World) (hx : x.size ≤ 100000) (hT : Tab w) (hS : ShT w) :
    Calls Tryz.prog 88 #[.string x] w fun e w' => ∃ v ok, e = .returned (.tuple #[v, .bool ok]) ∧ (ok = false ∧ v = .slice none 0 0 ∧ prsR x = none ∨ ok = true ∧ ∃ r, prsR x = some r ∧ OwnA w' w.heap.size v r) ∧ Below w.heap.size w w' := by
  obtain ⟨i0, hi, hz0, hz1, hz2⟩ := info_parts atInfo
  obtain ⟨R, hR⟩ : ∃ R, R = prsR x := ⟨_, rfl⟩
  have HSP := split_c x 43 w (by omega)
  have hcell := pcs_cell 43 x w
  have hpl := pcsS_len 43 x
  have hcl := count_le x 43
  have hps := pieces_size 43 x
  obtain ⟨W0, hW0⟩ : ∃ W0, W0 = w.alloc (.cells ((pcsS 43 x).map Value.string).toArray 9) := ⟨_, rfl⟩
  rw [← hW0] at HSP hcell
  have hz : W0.heap.size = w.heap.size + 1 := by rw [hW0]; simp
  have hb0 : Below w.heap.size w W0 := by rw [hW0]; exact belowNew w _
  unfold prsR at hR
  rw [show prsR x = R by rw [hR]; rfl]
  obtain ⟨ps, hps0⟩ : ∃ ps, ps = pcsS 43 x := ⟨_, rfl⟩
  rw [← hps0] at HSP hcell hpl hps hR
  obtain ⟨n, hn⟩ : ∃ n, n = ps.length := ⟨_, rfl⟩
  rw [← hn] at HSP hcell hps hpl
  have hnn : n ≤ 100001 := by omega
  have HSPL := Lib.hid HSP
  have HCELL := Lib.hid hcell
  have HPS := Lib.hid hps
  have HN := Lib.hid hn
  have HR := Lib.hid hR
  have HX := Lib.hid hx
  have HZ := Lib.hid hz
  have HB0 := Lib.hid hb0
  have HT := Lib.hid (hT.below hb0)
  have HS := Lib.hid (hS.below hb0)
  clear HSP hcell hps hpl hn hR hx hz hb0 hT hS hcl hW0 hps0
  go_enter Tryz.func88, Tryz.ntmps88
  go_wp2_with (go_at_call 87; (with_reducible refine HSPL.out.mono ?_); rintro e w1 ⟨rfl, hw⟩; rw [hw]; clear hw w1)
  go_loopw [4, 12] (fun v i wr => ∃ (k : Nat) (D : List At), k ≤ n ∧ D.length = k ∧ i = .int .i64 k ∧ R = (allO prsA (ps.drop k)).map (D ++ ·) ∧ OwnA wr W0.heap.size v D ∧ Below W0.heap.size W0 wr) (fun _ i _ => n - (intOf i).toNat)
  case atStart => exact ⟨0, [], Nat.zero_le _, rfl, rfl, by rw [HR.out]; exact allO_start _ _, OwnA.nil _ _, Below.refl _ _⟩
  case round =>
    obtain ⟨k, D, hk, hDk, rfl, hA, hown, hb⟩ := hrel
    have HB := Lib.hid hb
    have HA := Lib.hid hA
    have HO := Lib.hid hown
    have HDK := Lib.hid hDk
    clear hb hA hown hDk
    by_cases hlt : k < n
    · have hd : decide ((k : Int) < (n : Int)) = true := by simp; omega
      have c0 : wr.cell? ⟨w.heap.size, k, none⟩ = some (.string (ps.getD k ⟨#[]⟩)) := (HB.out.cell (p := ⟨w.heap.size, k, none⟩) (by have := HZ.out; show w.heap.size < _; omega)).trans (HCELL.out k hlt)
      have hsz := HPS.out k hlt
      obtain ⟨s, hs⟩ : ∃ s, s = ps.getD k ⟨#[]⟩ := ⟨_, rfl⟩
      rw [← hs] at c0 hsz
      have hP := (prsA_any s wr (by have := HX.out; omega) (HT.out.below HB.out) (HS.out.below HB.out))
      cases hp : prsA s with
      | none =>
        rw [hp] at hP
        simp only [atO] at hP
        have HP := Lib.hid hP
        have HF := Lib.hid (show R = none by rw [HA.out, allO_bad (d := ⟨#[]⟩) (by rw [← HN.out]; exact hlt) (by rw [← hs]; exact hp)]; rfl)
        clear hs hsz hp hP
        go_wp2_with (go_at_call 129; (with_reducible refine HP.out.mono ?_); rintro e w1 ⟨rfl, hb1⟩; have HB1 := Lib.hid (below_next HB.out hb1); clear hb1)
        go_ret2
        exact ⟨_, _, rfl, .inl ⟨rfl, rfl, HF.out⟩, below_next HB0.out (below_next HB1.out (belowNew _ _))⟩
      | some y =>
        rw [hp] at hP
        have HST := Lib.hid (show R = (allO prsA (ps.drop (k + 1))).map ((D ++ [y]) ++ ·) by rw [HA.out, allO_step (d := ⟨#[]⟩) (by rw [← HN.out]; exact hlt) (by rw [← hs]; exact hp)])
        obtain ⟨t, kd, v⟩ := y
        simp only [atO, atV] at hP
        have HP := Lib.hid hP
        clear hs hsz hp hP
        go_wp2_with (first | (go_at_call 129; (with_reducible refine HP.out.mono ?_); rintro e w1 ⟨rfl, hb1⟩; have HB1 := Lib.hid hb1; clear hb1) | (at_builtin; (refine wpList_append_own _ rfl (.tmp 23) (.tmp 25) 33 rfl W0.heap.size 27 i0 (.agg #[.string ⟨#[]⟩, .int .i64 0, .string ⟨#[]⟩]) 3 40 Tryz.underlying33 hi hz0 hz1 hz2 rfl (by decide) _ D.length (atsCells D) rfl (((own_below HO.out HB1.out).alloc _).alloc _) ⟨w1.heap.size + 1, 0, none⟩ 1 1 (atCells (t, kd, v)) rfl rfl (ats_news w1 _ (t, kd, v) _ rfl) (atCells_one _) (by have := HDK.out; unfold maxLen; omega) (by have := HDK.out; omega) (by have := HB.out.size; have := HB1.out.size; simp; omega) ?_); intro v' w2 hown2 hgr2 _; obtain ⟨P1, P2⟩ := ats_round (Nat.le_refl _) HO.out HB.out HB1.out hown2 hgr2; have HP1 := Lib.hid P1; have HP2 := Lib.hid P2; clear hown2 hgr2 P1 P2))
        go_roundw
        case rel => exact ⟨k + 1, D ++ [(t, kd, v)], by omega, by rw [List.length_append, HDK.out]; rfl, by go_num, HST.out, HP1.out, HP2.out⟩
        case measure => simp [intOf]; omega
    · have hd : decide ((k : Int) < (n : Int)) = false := by simp; omega
      have HF := Lib.hid (show R = some D by rw [HA.out]; exact allO_end (by rw [← HN.out]; omega) D)
      go_wp2_with fail
      go_ret2
      exact ⟨_, _, rfl, .inr ⟨rfl, D, HF.out, HO.out.base (by have := HZ.out; omega)⟩, below_next HB0.out HB.out⟩
end Go.Proofs.YtfpfgdbfigdooaaGreatDoor
namespace Go.Proofs.YtfpfgdbfigdooaaGreatDoor
open Go.RowKit

theorem prsR_none {x : ByteArray} (h : prsR x = none) (w : World) (hx : x.size ≤ 100000) (hT : Tab w) (hS : ShT w) :
    Calls Tryz.prog 88 #[.string x] w fun e w' => e = .returned (.tuple #[.slice none 0 0, .bool false]) ∧ Below w.heap.size w w' := by
  refine (prsR_any x w hx hT hS).mono ?_
  rintro e w' ⟨v, ok, rfl, (⟨rfl, rfl, _⟩ | ⟨_, r, hr, _⟩), hb⟩
  · exact ⟨rfl, hb⟩
  · rw [h] at hr; cases hr
theorem prsR_some {x : ByteArray} {r : List At} (h : prsR x = some r) (w : World) (hx : x.size ≤ 100000) (hT : Tab w) (hS : ShT w) :
    Calls Tryz.prog 88 #[.string x] w fun e w' => ∃ a c, e = .returned (.tuple #[.slice a r.length c, .bool true]) ∧ OwnA w' w.heap.size (.slice a r.length c) r ∧ Below w.heap.size w w' := by
  refine (prsR_any x w hx hT hS).mono ?_
  rintro e w' ⟨v, ok, rfl, (⟨_, _, hr⟩ | ⟨rfl, r', hr, ho⟩), hb⟩
  · rw [h] at hr; cases hr
  · rw [h] at hr
    obtain rfl := Option.some.inj hr
    obtain ⟨a, c, rfl, _⟩ := ho.lies
    exact ⟨a, c, rfl, ho, hb⟩
theorem one_facts {w : World} {g : Nat} {x : Value} {t : TypeId} (h : w.heap[g]? = some (.cells #[x] t (0, 0))) : w.cell? ⟨g, 0, none⟩ = some x ∧ w.frozen? ⟨g, 0, none⟩ = false ∧ g < w.heap.size := by
  refine ⟨?_, Lib.frozen_of_heap h 0, (Array.getElem?_eq_some_iff.1 h).1⟩
  rw [Lib.cell_of_heap h]; rfl
theorem one_set {w : World} {g : Nat} {x a : Value} {t : TypeId} (h : w.heap[g]? = some (.cells #[x] t (0, 0))) : (w.setCell ⟨g, 0, none⟩ a).heap[g]? = some (.cells #[a] t (0, 0)) := by
  simp [World.setCell, Array.getElem?_modify, h]
theorem nmSize : (Tryz.prog.info? 24).map (·.size) = some 1 := by kernel_rfl
theorem nmRes {fn : Func} {p u : Tmp} (h : fn.results = #[.cell p 24, .tmp u]) (tmps : Array Value) (w w0 : World) (x : Value)
    (hp : tmps.getD p undef = .pointer (some ⟨w0.heap.size, 0, none⟩)) (hg : w.heap[w0.heap.size]? = some (.cells #[x] 24 (0, 0))) :
    (results fn tmps).run Tryz.prog w = .ok (.tuple #[.agg #[x], tmps.getD u undef]) w :=
  results_cell_row2 h tmps w w0.heap.size 24 #[x] (0, 0) _ hp hg Tryz.underlying24 rfl nmSize
theorem rdInfo : (Tryz.prog.info? 33).map (fun i => (i.zero, i.size, i.bytes)) = some (some (.slice none 0 0), 1, 24) := by kernel_rfl
/-- The name that a text denotes. -/
noncomputable def prsN (x : ByteArray) : Option Nm := if x.size = 0 then some [] else allO prsR (pcsS 44 x)
theorem row_news (w1 : World) (v : Value) (T : TypeId) : ∀ j u, [v][j]? = some u → (w1.alloc (.cells #[v] T)).cell? ((⟨w1.heap.size, 0, none⟩ : Addr).add j) = some u := by
  intro j u h
  exact news_row w1 #[v] T j u (by simpa using h)

theorem one_one (a : Option Addr) (n c : Nat) : ∀ u ∈ [Value.slice a n c], u.oneCell' = true := by
  intro u hu
  obtain rfl : u = _ := by simpa using hu
  rfl
/-- The box of a name stays while its row grows. -/
theorem more_box {wr w1 w2 : World} {p B n k : Nat} {x v : Value} {T e : TypeId} {xs : List Value} {Y : Obj} (h : w1.heap[p]? = some (.cells #[x] T (0, 0))) (hp : p < B) (ho : wr.ownsRow B e k v n xs) (hg : (w1.alloc Y).grownBy w2 v.ownBlock) : w2.heap[p]? = some (.cells #[x] T (0, 0)) := by
  have hl : p < w1.heap.size := (Array.getElem?_eq_some_iff.1 h).1
  refine (hg.block p (by simp; omega) (fun e => ?_)).trans (((belowNew w1 Y).block p hl).trans h)
  have := (World.ownsRow.lt ho p e.symm).1
  omega
theorem more_but {W0 wr w1 w2 : World} {p n k : Nat} {v : Value} {e : TypeId} {xs : List Value} {Y : Obj} (hb : But p W0 wr) (hb1 : Below wr.heap.size wr w1) (ho : wr.ownsRow W0.heap.size e k v n xs) (hg : (w1.alloc Y).grownBy w2 v.ownBlock) : But p W0 w2 :=
  World.grownBy.andThen ((hb.next (But.of hb1)).alloc Y) hg (fun j e => .inl (World.ownsRow.lt ho j e).1)
/-- The world with two blocks of a name and one of pieces. -/
theorem three_blocks {w Wb W0 : World} {v u : Value} {T : TypeId} {o : Obj} (hWb : Wb = (w.alloc (.cells #[v] T)).alloc (.cells #[u] T)) (hW0 : W0 = Wb.alloc o) :
    W0.heap.size = w.heap.size + 3 ∧ W0.heap[w.heap.size]? = some (.cells #[v] T (0, 0)) ∧ W0.heap[w.heap.size + 1]? = some (.cells #[u] T (0, 0)) ∧ Below w.heap.size w W0 ∧ Wb.heap.size = w.heap.size + 2 := by
  have h1 := heap_alloc_new w (.cells #[v] T)
  have h2 := heap_alloc_new (w.alloc (.cells #[v] T)) (.cells #[u] T)
  have z1 : (w.alloc (.cells #[v] T)).heap.size = w.heap.size + 1 := by simp
  have z2 : Wb.heap.size = w.heap.size + 2 := by rw [hWb]; simp
  rw [z1] at h2
  have b1 := belowNew (w.alloc (.cells #[v] T)) (.cells #[u] T)
  have b2 := belowNew Wb o
  rw [← hWb] at b1 h2
  rw [← hW0] at b2
  refine ⟨by rw [hW0]; simp [z2], (b2.block _ (by omega)).trans ((b1.block _ (by omega)).trans h1), (b2.block _ (by omega)).trans h2, below_next (belowNew w _) (below_next b1 b2), z2⟩

set_option maxRecDepth 100000 in
set_option maxHeartbeats 4000000 in
theorem prsN_any (x : ByteArray) (w : World) (hx : x.size ≤ 100000) (hT : Tab w) (hS : ShT w) :
    Calls Tryz.prog 56 #[.string x] w fun e w' => ∃ v, e = .returned (.tuple #[v, .bool (prsN x).isSome]) ∧ OwnV w' w.heap.size v ((prsN x).getD []) ∧ Below w.heap.size w w' := by
  by_cases h0 : x.size = 0
  · obtain rfl := empty_of_size h0
    have e : prsN ⟨#[]⟩ = some [] := if_pos rfl
    rw [e]
    clear hT hS hx
    go_enter Tryz.func56, Tryz.ntmps56
    go_wp2_with fail
    exact bodyPost_ret (nmRes rfl _ _ w _ rfl (heap_alloc_new w _)) rfl ⟨_, rfl, ⟨_, rfl, OwnN.nil _ _⟩, belowNew w _⟩
  obtain ⟨i0, hi, hz0, hz1, hz2⟩ := info_parts rdInfo
  have he := nonempty_list h0
  obtain ⟨R, hR⟩ : ∃ R, R = prsN x := ⟨_, rfl⟩
  rw [← hR]
  have hR2 : R = allO prsR (pcsS 44 x) := by rw [hR]; exact if_neg h0
  obtain ⟨Wb, hWb⟩ : ∃ Wb, Wb = (w.alloc (.cells #[.slice none 0 0] 24)).alloc (.cells #[.slice none 0 0] 24) := ⟨_, rfl⟩
  have hwr : (w.alloc (.cells #[.slice none 0 0] 24)).alloc (.cells #[.slice none 0 0] 24) = Wb := hWb.symm
  have HSP := split_c x 44 Wb (by omega)
  have hcell := pcs_cell 44 x Wb
  have hpl := pcsS_len 44 x
  have hcl := count_le x 44
  have hps := pieces_size 44 x
  obtain ⟨W0, hW0⟩ : ∃ W0, W0 = Wb.alloc (.cells ((pcsS 44 x).map Value.string).toArray 9) := ⟨_, rfl⟩
  rw [← hW0] at HSP hcell
  obtain ⟨hz, hq0, hq1, hb0, hzb⟩ := three_blocks hWb hW0
  rw [hzb] at HSP hcell
  obtain ⟨ps, hps0⟩ : ∃ ps, ps = pcsS 44 x := ⟨_, rfl⟩
  rw [← hps0] at HSP hcell hpl hps hR2
  obtain ⟨n, hn⟩ : ∃ n, n = ps.length := ⟨_, rfl⟩
  rw [← hn] at HSP hcell hps hpl
  have hnn : n ≤ 100001 := by omega
  obtain ⟨p, hp⟩ : ∃ p, p = w.heap.size + 1 := ⟨_, rfl⟩
  have hp2 : w.heap.size + 2 = p + 1 := by omega
  rw [← hp] at hq1
  rw [hp2] at HSP hcell
  have HSPL := Lib.hid HSP
  have HCELL := Lib.hid hcell
  have HPS := Lib.hid hps
  have HN := Lib.hid hn
  have HR := Lib.hid hR2
  have HX := Lib.hid hx
  have HZ := Lib.hid (show W0.heap.size = p + 2 by omega)
  have HP := Lib.hid hp
  have HB0 := Lib.hid hb0
  have HQ0 := Lib.hid hq0
  have HQ1 := Lib.hid hq1
  have HT := Lib.hid hT
  have HTG := Lib.hid hT.lt
  have HSG := Lib.hid hS.lt
  have HSW := Lib.hid hS
  clear HSP hcell hps hpl hn hR hR2 hx hz hb0 hT hS hcl hW0 hps0 hq0 hq1 h0 hWb
  have hp3 : w.heap.size + 1 = p := hp.symm
  clear hp
  go_enter Tryz.func56, Tryz.ntmps56
  go_wp2_with (go_at_call 87; (with_reducible refine HSPL.out.mono ?_); rintro e w1 ⟨rfl, hw⟩; rw [hw]; clear hw w1)
  go_loopw [15] (fun i wr => ∃ (k : Nat) (D : Nm) (v : Value), k ≤ n ∧ D.length = k ∧ i = .int .i64 k ∧ R = (allO prsR (ps.drop k)).map (D ++ ·) ∧ wr.heap[p]? = some (.cells #[v] 24 (0, 0)) ∧ OwnN wr W0.heap.size v D ∧ But p W0 wr) (fun i _ => n - (intOf i).toNat)
  case atStart => exact ⟨0, [], _, Nat.zero_le _, rfl, rfl, by rw [HR.out]; exact allO_start _ _, HQ1.out, OwnN.nil _ _, But.refl _ _⟩
  case round =>
    obtain ⟨k, D, v, hk, hDk, rfl, hA, hbx, hown, hb⟩ := hrel
    have HB := Lib.hid hb
    have HA := Lib.hid hA
    have HO := Lib.hid hown
    have HDK := Lib.hid hDk
    have HBX := Lib.hid hbx
    have HBL := Lib.hid (show Below w.heap.size w wr from HB0.out.trans ((hb.below (by have := HZ.out; omega)).mono (by have := HP.out; omega)))
    have HR0 := Lib.hid (show wr.heap[w.heap.size]? = some (.cells #[.slice none 0 0] 24 (0, 0)) from (hb.block _ (by have := HZ.out; have := HP.out; omega) (by have := HP.out; simp; omega)).trans HQ0.out)
    clear hb hA hown hDk hbx
    by_cases hlt : k < n
    · have hd : decide ((k : Int) < (n : Int)) = true := by simp; omega
      have c0 : wr.cell? ⟨p + 1, k, none⟩ = some (.string (ps.getD k ⟨#[]⟩)) := by
        have h1 := HCELL.out k hlt
        exact HB.out.cell h1 (by simp)
      have hsz := HPS.out k hlt
      obtain ⟨s, hs⟩ : ∃ s, s = ps.getD k ⟨#[]⟩ := ⟨_, rfl⟩
      rw [← hs] at c0 hsz
      have HTR := Lib.hid (HT.out.below HBL.out)
      have HSR := Lib.hid (HSW.out.below HBL.out)
      have HSZ := Lib.hid (show s.size ≤ 100000 by have := HX.out; omega)
      obtain ⟨av, cv, rfl, hcv, _⟩ := HO.out.lies
      cases hp : prsR s with
      | none =>
        have HPR := Lib.hid (prsR_none hp wr HSZ.out HTR.out HSR.out)
        have HF := Lib.hid (show R = none by rw [HA.out, allO_bad (d := ⟨#[]⟩) (by rw [← HN.out]; exact hlt) (by rw [← hs]; exact hp)]; rfl)
        clear hs hsz hp
        go_wp2_with (go_at_call 88; (with_reducible refine HPR.out.mono ?_); rintro e w1 ⟨rfl, hb1⟩; have HB1 := Lib.hid (below_next HBL.out hb1); have hq := (hb1.block _ (one_facts HR0.out).2.2).trans HR0.out; have HQ := Lib.hid hq; obtain ⟨r0, g0, hlt0⟩ := one_facts hq; clear hb1 hq)
        rw [HF.out]
        exact bodyPost_ret (nmRes rfl _ _ w _ rfl (one_set HQ.out)) rfl ⟨_, rfl, ⟨_, rfl, OwnN.nil _ _⟩, HB1.out.setCell (p := ⟨w.heap.size, 0, none⟩) (Nat.le_refl _) _⟩
      | some r =>
        have HPR := Lib.hid (prsR_some hp wr HSZ.out HTR.out HSR.out)
        have HST := Lib.hid (show R = (allO prsR (ps.drop (k + 1))).map ((D ++ [r]) ++ ·) by rw [HA.out, allO_step (d := ⟨#[]⟩) (by rw [← HN.out]; exact hlt) (by rw [← hs]; exact hp)])
        clear hs hsz hp
        obtain ⟨vs, hv1, hv2, hv3⟩ := HO.out
        have HV1 := Lib.hid hv1
        have HV2 := Lib.hid hv2
        have HV3 := Lib.hid hv3
        clear hv1 hv2 hv3
        go_wp2_with (first
          | (go_at_call 88; (with_reducible refine HPR.out.mono ?_); rintro e w1 ⟨a1, c1, rfl, ho1, hb1⟩; have HB1 := Lib.hid hb1; have HO1 := Lib.hid ho1; have hq := (hb1.block _ (one_facts HBX.out).2.2).trans HBX.out; have HQ := Lib.hid hq; obtain ⟨r0, g0, hlt0⟩ := one_facts hq; clear hb1 hq ho1)
          | (at_builtin; (refine wpList_append_own _ rfl (.tmp 28) (.tmp 30) 22 rfl W0.heap.size 33 i0 (.slice none 0 0) 1 24 Tryz.underlying22 hi hz0 hz1 hz2 rfl (by decide) _ D.length vs rfl ((own_below HV2.out HB1.out).alloc _) ⟨w1.heap.size, 0, none⟩ 1 1 [.slice a1 r.length c1] rfl rfl (row_news w1 _ _) (one_one _ _ _) (by have := HDK.out; unfold maxLen; omega) (by have := HDK.out; omega) (by have := HB.out.size; have := HB1.out.size; simp; omega) ?_); intro v' w2 hown2 hgr2 _; have hq2 := more_box HQ.out (by have := HZ.out; omega) HV2.out hgr2; have P1 := OwnN.snoc HV1.out ((own_below HV2.out HB1.out).alloc _) (fun i hi => ((HV3.out i hi).below HB1.out).below (belowNew w1 _)) ((HO1.out.base (Nat.le_trans (show W0.heap.size ≤ wr.heap.size from HB.out.size) (Nat.le_refl _))).below (belowNew w1 _)) hgr2 hown2; have P2 := more_but HB.out HB1.out HV2.out hgr2; obtain ⟨s0, t0, hltq⟩ := one_facts hq2; obtain ⟨av2, cv2, hv2', _, _⟩ := P1.lies; rw [List.length_append, List.length_singleton] at hv2'; rw [hv2'] at P1 ⊢; have HP1 := Lib.hid P1; have HP2 := Lib.hid P2; have HQ2 := Lib.hid hq2; clear hq2 P1 P2 hown2 hgr2 hv2'))
        go_roundw
        case rel => exact ⟨k + 1, D ++ [r], _, by omega, by rw [List.length_append, HDK.out]; rfl, by go_num, HST.out, one_set HQ2.out, HP1.out.but (p := p) (But.set p 0 _ _) (show p < W0.heap.size by rw [HZ.out]; omega), HP2.out.next (But.set _ _ _ _)⟩
        case measure => simp [intOf]; omega
    · have hd : decide ((k : Int) < (n : Int)) = false := by simp; omega
      have HF := Lib.hid (show R = some D by rw [HA.out]; exact allO_end (by rw [← HN.out]; omega) D)
      obtain ⟨av, cv, rfl, hcv, _⟩ := HO.out.lies
      obtain ⟨c0, f0, hltp⟩ := one_facts HBX.out
      obtain ⟨r0, g0, hlt0⟩ := one_facts HR0.out
      go_wp2_with fail
      rw [HF.out]
      exact bodyPost_ret (nmRes rfl _ _ w _ rfl (one_set HR0.out)) rfl ⟨_, rfl, ⟨_, rfl, (HO.out.but (p := w.heap.size) (But.set _ _ _ _) (by have := HZ.out; have := HP.out; omega)).base (by have := HZ.out; have := HP.out; omega)⟩, HBL.out.setCell (p := ⟨w.heap.size, 0, none⟩) (Nat.le_refl _) _⟩
end Go.Proofs.YtfpfgdbfigdooaaGreatDoor
