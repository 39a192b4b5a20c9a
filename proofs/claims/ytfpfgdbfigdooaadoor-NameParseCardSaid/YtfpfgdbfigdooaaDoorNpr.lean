/-
  The contract of parseRelative: the relative name that a text denotes, if it denotes one.
-/
import Derived.Test.YtfpfgdbfigdooaaDoorNpa
import Derived.Test.YtfpfgdbfigdooaaDoorMaq
namespace Go.Proofs.YtfpfgdbfigdooaaDoor
open Go.RowKit

/-- All answers, if there are all. -/
def allO {β γ : Type} (f : β → Option γ) : List β → Option (List γ)
  | [] => some []
  | x :: r => match f x with
    | none => none
    | some y => match allO f r with
      | none => none
      | some l => some (y :: l)
theorem allO_step {β γ : Type} {f : β → Option γ} {l : List β} {k : Nat} {d : β} (h : k < l.length) {y : γ} (hy : f (l.getD k d) = some y) (D : List γ) :
    (allO f (l.drop k)).map (D ++ ·) = (allO f (l.drop (k + 1))).map ((D ++ [y]) ++ ·) := by
  rw [dropD l k h d]
  show Option.map _ (match f (l.getD k d) with | none => none | some y => match allO f (l.drop (k + 1)) with | none => none | some l => some (y :: l)) = _
  rw [hy]
  cases allO f (l.drop (k + 1)) with
  | none => rfl
  | some t => simp
theorem allO_bad {β γ : Type} {f : β → Option γ} {l : List β} {k : Nat} {d : β} (h : k < l.length) (hy : f (l.getD k d) = none) : allO f (l.drop k) = none := by
  rw [dropD l k h d]
  show (match f (l.getD k d) with | none => none | some y => match allO f (l.drop (k + 1)) with | none => none | some l => some (y :: l)) = _
  rw [hy]
theorem allO_end {β γ : Type} {f : β → Option γ} {l : List β} {k : Nat} (h : l.length ≤ k) (D : List γ) : (allO f (l.drop k)).map (D ++ ·) = some D := by
  rw [List.drop_eq_nil_of_le h]; simp [allO]
theorem allO_start {β γ : Type} (f : β → Option γ) (l : List β) : allO f l = (allO f (l.drop 0)).map ([] ++ ·) := by
  rw [List.drop_zero]
  cases allO f l <;> simp
/-- The relative name that a text denotes. -/
noncomputable def prsR (x : ByteArray) : Option (List At) := allO prsA (pcsS 43 x)
theorem pieces_size (c : UInt8) (s : ByteArray) (k : Nat) (hk : k < (pcsS c s).length) : ((pcsS c s).getD k ⟨#[]⟩).size ≤ s.size := by
  have h := (pcsS_spl c s).2.1
  have hm : ((pcsS c s).getD k ⟨#[]⟩).data.toList ∈ (pcsS c s).map (·.data.toList) := by
    refine List.mem_map.2 ⟨_, ?_, rfl⟩
    rw [List.getD_eq_getElem?_getD, List.getElem?_eq_getElem hk]
    exact List.getElem_mem hk
  have key : ∀ (ps : List (List UInt8)) (p : List UInt8), p ∈ ps → p.length ≤ (Lib.join ps [c]).length := by
    intro ps
    induction ps with
    | nil => intro p hp; simp at hp
    | cons q r ih =>
      intro p hp
      cases r with
      | nil =>
        rw [Lib.join_one]
        obtain rfl : p = q := by simpa using hp
        exact Nat.le_refl _
      | cons q' r' =>
        rw [join_two, List.length_append, List.length_cons]
        rcases List.mem_cons.1 hp with rfl | hp
        · omega
        · have := ih p hp; omega
  have := key _ _ hm
  rw [h] at this
  exact this
theorem ats_news (w1 : World) (X : Obj) (e : At) (cs : Array Value) (hcs : cs = (atCells e).toArray) :
    ∀ j u, (atCells e)[j]? = some u → ((w1.alloc X).alloc (.cells cs 26)).cell? ((⟨w1.heap.size + 1, 0, none⟩ : Addr).add j) = some u := by
  intro j u h
  have := news_row (w1.alloc X) cs 26 j u (by rw [hcs]; simpa using h)
  simpa using this
theorem ats_round {w wr w1 w2 : World} {B : Nat} {v v' : Value} {D : List At} {e : At} {X Y : Obj} (hB : w.heap.size ≤ B) (hown : OwnA wr B v D) (hb : Below w.heap.size w wr) (hb1 : Below wr.heap.size wr w1)
    (hown2 : w2.ownsRow B 26 3 v' (D.length + 1) (atsCells D ++ atCells e)) (hgr2 : ((w1.alloc X).alloc Y).grownBy w2 v.ownBlock) : OwnA w2 B v' (D ++ [e]) ∧ Below w.heap.size w w2 := by
  have h1 := hb.size
  have h2 := hb1.size
  refine ⟨?_, ?_⟩
  · unfold OwnA
    rw [List.length_append, atsCells_snoc]; exact hown2
  · exact (((hb.trans (hb1.mono h1)).alloc (by omega) X).alloc (by simp; omega) Y).grown hgr2 (by simp; omega) (fun k e => Nat.le_trans hB (World.ownsRow.lt hown k e).1)

set_option maxRecDepth 100000 in
set_option maxHeartbeats 4000000 in
theorem prsR_any (x : ByteArray) (w : World) (hx : x.size ≤ 100000) (hT : Tab w) (hS : ShT w) :
    Calls Tryd.prog 41 #[.string x] w fun e w' => ∃ v ok, e = .returned (.tuple #[v, .bool ok]) ∧ (ok = false ∧ v = .slice none 0 0 ∧ prsR x = none ∨ ok = true ∧ ∃ r, prsR x = some r ∧ OwnA w' w.heap.size v r) ∧ Below w.heap.size w w' := by
  obtain ⟨i0, hi, hz0, hz1, hz2⟩ := info_parts atInfo
  obtain ⟨R, hR⟩ : ∃ R, R = prsR x := ⟨_, rfl⟩
  have HSP := split_c x 43 w (by omega)
  have hcell := pcs_cell 43 x w
  have hpl := pcsS_len 43 x
  have hcl := count_le x 43
  have hps := pieces_size 43 x
  obtain ⟨W0, hW0⟩ : ∃ W0, W0 = w.alloc (.cells ((pcsS 43 x).map Value.string).toArray 9) := ⟨_, rfl⟩
  rw [← hW0] at HSP hcell
  have hz : W0.heap.size = w.heap.size + 1 := by rw [hW0]; simp
  have hb0 : Below w.heap.size w W0 := by rw [hW0]; exact belowNew w _
  unfold prsR at hR
  rw [show prsR x = R by rw [hR]; rfl]
  obtain ⟨ps, hps0⟩ : ∃ ps, ps = pcsS 43 x := ⟨_, rfl⟩
  rw [← hps0] at HSP hcell hpl hps hR
  obtain ⟨n, hn⟩ : ∃ n, n = ps.length := ⟨_, rfl⟩
  rw [← hn] at HSP hcell hps hpl
  have hnn : n ≤ 100001 := by omega
  have HSPL := Lib.hid HSP
  have HCELL := Lib.hid hcell
  have HPS := Lib.hid hps
  have HN := Lib.hid hn
  have HR := Lib.hid hR
  have HX := Lib.hid hx
  have HZ := Lib.hid hz
  have HB0 := Lib.hid hb0
  have HT := Lib.hid (hT.below hb0)
  have HS := Lib.hid (hS.below hb0)
  clear HSP hcell hps hpl hn hR hx hz hb0 hT hS hcl hW0 hps0
  go_enter Tryd.func41, Tryd.ntmps41
  go_wp2_with (go_at_call 40; (with_reducible refine HSPL.out.mono ?_); rintro e w1 ⟨rfl, hw⟩; rw [hw]; clear hw w1)
  go_loopw [4, 12] (fun v i wr => ∃ (k : Nat) (D : List At), k ≤ n ∧ D.length = k ∧ i = .int .i64 k ∧ R = (allO prsA (ps.drop k)).map (D ++ ·) ∧ OwnA wr W0.heap.size v D ∧ Below W0.heap.size W0 wr) (fun _ i _ => n - (intOf i).toNat)
  case atStart => exact ⟨0, [], Nat.zero_le _, rfl, rfl, by rw [HR.out]; exact allO_start _ _, OwnA.nil _ _, Below.refl _ _⟩
  case round =>
    obtain ⟨k, D, hk, hDk, rfl, hA, hown, hb⟩ := hrel
    have HB := Lib.hid hb
    have HA := Lib.hid hA
    have HO := Lib.hid hown
    have HDK := Lib.hid hDk
    clear hb hA hown hDk
    by_cases hlt : k < n
    · have hd : decide ((k : Int) < (n : Int)) = true := by simp; omega
      have c0 : wr.cell? ⟨w.heap.size, k, none⟩ = some (.string (ps.getD k ⟨#[]⟩)) := (HB.out.cell (p := ⟨w.heap.size, k, none⟩) (by have := HZ.out; show w.heap.size < _; omega)).trans (HCELL.out k hlt)
      have hsz := HPS.out k hlt
      obtain ⟨s, hs⟩ : ∃ s, s = ps.getD k ⟨#[]⟩ := ⟨_, rfl⟩
      rw [← hs] at c0 hsz
      have hP := (prsA_any s wr (by have := HX.out; omega) (HT.out.below HB.out) (HS.out.below HB.out))
      cases hp : prsA s with
      | none =>
        rw [hp] at hP
        simp only [atO] at hP
        have HP := Lib.hid hP
        have HF := Lib.hid (show R = none by rw [HA.out, allO_bad (d := ⟨#[]⟩) (by rw [← HN.out]; exact hlt) (by rw [← hs]; exact hp)]; rfl)
        clear hs hsz hp hP
        go_wp2_with (go_at_call 55; (with_reducible refine HP.out.mono ?_); rintro e w1 ⟨rfl, hb1⟩; have HB1 := Lib.hid (below_next HB.out hb1); clear hb1)
        go_ret2
        exact ⟨_, _, rfl, .inl ⟨rfl, rfl, HF.out⟩, below_next HB0.out (below_next HB1.out (belowNew _ _))⟩
      | some y =>
        rw [hp] at hP
        have HST := Lib.hid (show R = (allO prsA (ps.drop (k + 1))).map ((D ++ [y]) ++ ·) by rw [HA.out, allO_step (d := ⟨#[]⟩) (by rw [← HN.out]; exact hlt) (by rw [← hs]; exact hp)])
        obtain ⟨t, kd, v⟩ := y
        simp only [atO, atV] at hP
        have HP := Lib.hid hP
        clear hs hsz hp hP
        go_wp2_with (first | (go_at_call 55; (with_reducible refine HP.out.mono ?_); rintro e w1 ⟨rfl, hb1⟩; have HB1 := Lib.hid hb1; clear hb1) | (at_builtin; (refine wpList_append_own _ rfl (.tmp 23) (.tmp 25) 27 rfl W0.heap.size 26 i0 (.agg #[.string ⟨#[]⟩, .int .i64 0, .string ⟨#[]⟩]) 3 40 Tryd.underlying27 hi hz0 hz1 hz2 rfl (by decide) _ D.length (atsCells D) rfl (((own_below HO.out HB1.out).alloc _).alloc _) ⟨w1.heap.size + 1, 0, none⟩ 1 1 (atCells (t, kd, v)) rfl rfl (ats_news w1 _ (t, kd, v) _ rfl) (atCells_one _) (by have := HDK.out; unfold maxLen; omega) (by have := HDK.out; omega) (by have := HB.out.size; have := HB1.out.size; simp; omega) ?_); intro v' w2 hown2 hgr2 _; obtain ⟨P1, P2⟩ := ats_round (Nat.le_refl _) HO.out HB.out HB1.out hown2 hgr2; have HP1 := Lib.hid P1; have HP2 := Lib.hid P2; clear hown2 hgr2 P1 P2))
        go_roundw
        case rel => exact ⟨k + 1, D ++ [(t, kd, v)], by omega, by rw [List.length_append, HDK.out]; rfl, by go_num, HST.out, HP1.out, HP2.out⟩
        case measure => simp [intOf]; omega
    · have hd : decide ((k : Int) < (n : Int)) = false := by simp; omega
      have HF := Lib.hid (show R = some D by rw [HA.out]; exact allO_end (by rw [← HN.out]; omega) D)
      go_wp2_with fail
      go_ret2
      exact ⟨_, _, rfl, .inr ⟨rfl, D, HF.out, HO.out.base (by have := HZ.out; omega)⟩, below_next HB0.out HB.out⟩
end Go.Proofs.YtfpfgdbfigdooaaDoor
