/-
  The contract of text.Unescape: the string whose escaped form is the given one, if there is one; nothing that was there before the call has changed.
  What a text denotes as a name, as a function of the text; the contracts of kindOf and parseAttribute.
  The contract of parseAttribute: the attribute that a text denotes, if it denotes one.
-/
import Derived.Test.YtfpfgdbfigdooaaGreatDoorCae
import Derived.Test.YtfpfgdbfigdooaaGreatDoorCaq
namespace Go.Proofs.YtfpfgdbfigdooaaGreatDoor
open Go.RowKit

theorem escL_ge (l : List UInt8) : l.length ≤ (escL l).length := by
  induction l with
  | nil => exact Nat.le_refl _
  | cons d D ih =>
    have := escB_len1 d
    rw [escL_cons, List.length_append, List.length_cons]; omega

set_option maxRecDepth 100000 in
set_option maxHeartbeats 4000000 in
theorem une_any (s : ByteArray) (w : World) (hn : s.size ≤ 1099511627776) :
    Calls Tryz.prog 170 #[.string s] w fun e w' => ∃ u ok, e = .returned (.tuple #[.string u, .bool ok]) ∧ Une s.data.toList u ok ∧ Below w.heap.size w w' := by
  obtain ⟨i0, hi, hz0, hz1, hz2⟩ := info_parts byteInfo
  have HSL := Lib.hid (show s.data.toList.length = s.size from rfl)
  go_enter Tryz.func170, Tryz.ntmps170
  go_wp2_with (at_make; refine wpList_make_own _ rfl _ _ 61 rfl w.heap.size 5 i0 (.int .u8 0) 1 Tryz.underlying61 hi hz0 hz1 .i64 .i64 (s.size : Int) s.size rfl rfl (by omega) (by rw [hz2]; omega) (by unfold maxLen; omega) (Nat.le_refl _) ?_; intro w1 hown1 hgr1; have HO1 := Lib.hid hown1; have HG1 := Lib.hid hgr1; clear hown1 hgr1)
  go_loopw [4, 5] (fun v i wr => ∃ (k : Nat) (D : List UInt8), k ≤ s.size ∧ i = .int .i64 k ∧ escL D = s.data.toList.take k ∧ OwnB 5 wr w.heap.size v D ∧ Below w.heap.size w wr) (fun _ i _ => s.size - (intOf i).toNat)
  case atStart => exact ⟨0, [], Nat.zero_le _, rfl, rfl, HO1.out, (Below.refl _ _).grown HG1.out (Nat.le_refl _) (fun _ e => by cases e)⟩
  case round =>
    obtain ⟨k, D, hk, rfl, hD, hown, hb⟩ := hrel
    have HO := Lib.hid hown
    have HB := Lib.hid hb
    have hsb := hb.size
    have hDl : D.length ≤ k := by
      have h1 := escL_ge D
      rw [hD, take_len s hk] at h1
      exact h1
    have HD := Lib.hid hD
    clear hown hb hD
    by_cases hlt : k < s.size
    · have hd : decide ((k : Int) < (s.size : Int)) = true := by simp; omega
      obtain ⟨c, hc, hcn⟩ := u8at_list s k hlt
      have hix := fun w => run_index_u8 (P := Tryz.prog) Tryz.underlying9 s k hlt (k : Int) rfl w
      rw [hcn] at hix
      have HC := Lib.hid hc
      clear hc hcn
      cases hp : plainB c with
      | true =>
        have h92 : ¬ c = 92 := fun e => by rw [e, plain_92] at hp; cases hp
        have h92n : ¬ c.toNat = 92 := fun h => h92 (UInt8.toNat_inj.1 h)
        have hq : (((c.toNat : Nat) : Int) == 92) = false := by simp; omega
        have HP := Lib.hid (fun w => isplain_is hp w)
        have HN := Lib.hid (show escL (D ++ [c]) = s.data.toList.take (k + 1) by rw [take_snoc HC.out, escL_snoc, escB_plain hp, HD.out])
        clear hp h92 h92n
        go_wp2_with fail
        go_quiet (first | (go_at_call 113; with_reducible refine Calls.quiet_of_same (HP.out _)))
        go_wp2_with (at_builtin; (refine wpList_append_own _ rfl (.tmp 38) (.tmp 40) 61 rfl w.heap.size 5 i0 (.int .u8 0) 1 1 Tryz.underlying61 hi hz0 hz1 hz2 rfl (by decide) _ _ _ rfl ((HO.out.drawn _).alloc _) ⟨wr.heap.size, 0, none⟩ 1 1 [bcell c] rfl rfl (news_row (wr.drewN _) #[bcell c] 5) (bcells_one [c]) (by unfold maxLen; omega) (by omega) (by simp; omega) ?_); intro v' w2 hown2 hgr2 _; obtain ⟨P1, P2⟩ := out_round (HO.out.drawn _) (Below.drawn HB.out _) hown2 hgr2; have HP1 := Lib.hid P1; have HP2 := Lib.hid P2; clear hown2 hgr2 P1 P2)
        go_roundw
        case rel => exact ⟨k + 1, D ++ [c], by omega, by go_num, HN.out, HP1.out, HP2.out⟩
        case measure => simp [intOf]; omega
      | false =>
        have HP := Lib.hid (fun w => isplain_is hp w)
        by_cases h92 : c = 92
        · have hq : (((c.toNat : Nat) : Int) == 92) = true := by rw [h92]; rfl
          have hk1 : k + 1 ≤ s.size := by omega
          have hsl := fun w => slice_tail s (k + 1) hk1 ((k : Int) + 1) (by omega) w
          have hl : (s.data.toList.drop (k + 1)).length ≤ 1099511627776 := by rw [List.length_drop, HSL.out]; omega
          have HC92 := Lib.hid (show s.data.toList[k]? = some 92 by rw [HC.out, h92])
          have HL := Lib.hid hl
          clear hl hp h92
          cases he : escd (s.data.toList.drop (k + 1)) with
          | none =>
            have HE := Lib.hid (fun w => escaped_no he w HL.out)
            have HN := Lib.hid (une_bad92 HD.out HC92.out he)
            generalize s.data.toList.drop (k + 1) = r at hsl HE
            clear he
            go_wp2_with fail
            go_quiet (first | (go_at_call 113; with_reducible refine Calls.quiet_of_same (HP.out _)))
            go_wp2_with (go_at_call 192; (with_reducible refine (HE.out _).mono ?_); rintro e w2 ⟨⟨y, rfl⟩, hb2⟩; have HB2 := Lib.hid (below_next (Below.drawn HB.out _) hb2); clear hb2)
            go_ret2
            exact ⟨_, _, rfl, .inr ⟨rfl, rfl, HN.out⟩, HB2.out⟩
          | some y =>
            have HE := Lib.hid (fun w => escaped_yes he w HL.out)
            have h2 := escd_some he
            have hk3 : k + 3 ≤ s.size := by
              have := h2.1
              rw [List.length_drop, HSL.out] at this
              omega
            have HN := Lib.hid (show escL (D ++ [y]) = s.data.toList.take (k + 3) by
              rw [escL_snoc, h2.2, HD.out, show k + 3 = k + (1 + 2) by omega, List.take_add]
              congr 1
              rw [drop_cons HC92.out, show 1 + 2 = 2 + 1 by omega, List.take_succ_cons])
            generalize s.data.toList.drop (k + 1) = r at hsl HE
            clear he h2
            go_wp2_with fail
            go_quiet (first | (go_at_call 113; with_reducible refine Calls.quiet_of_same (HP.out _)))
            go_wp2_with (first
              | (go_at_call 192; (with_reducible refine (HE.out _).mono ?_); rintro e w3 ⟨rfl, hb2⟩; have HB2 := Lib.hid (below_next (Below.drawn HB.out _) hb2); have HO2 := Lib.hid (own_below (OwnB.drawn HO.out _) hb2); have hs3 := HB2.out.size; clear hb2)
              | (at_builtin; (refine wpList_append_own _ rfl (.tmp 38) (.tmp 40) 61 rfl w.heap.size 5 i0 (.int .u8 0) 1 1 Tryz.underlying61 hi hz0 hz1 hz2 rfl (by decide) _ _ _ rfl (HO2.out.alloc _) ⟨w3.heap.size, 0, none⟩ 1 1 [bcell y] rfl rfl (news_row w3 #[bcell y] 5) (bcells_one [y]) (by unfold maxLen; omega) (by omega) (by simp; omega) ?_); intro v' w2 hown2 hgr2 _; obtain ⟨P1, P2⟩ := out_round HO2.out HB2.out hown2 hgr2; have HP1 := Lib.hid P1; have HP2 := Lib.hid P2; clear hown2 hgr2 P1 P2))
            go_roundw
            case rel => exact ⟨k + 3, D ++ [y], hk3, by go_num, HN.out, HP1.out, HP2.out⟩
            case measure => simp [intOf]; omega
        · have h92n : ¬ c.toNat = 92 := fun h => h92 (UInt8.toNat_inj.1 h)
          have hq : (((c.toNat : Nat) : Int) == 92) = false := by simp; omega
          have HN := Lib.hid (une_bad HD.out HC.out h92 hp)
          clear hp h92 h92n
          go_wp2_with fail
          go_quiet (first | (go_at_call 113; with_reducible refine Calls.quiet_of_same (HP.out _)))
          go_wp2_with fail
          go_ret2
          exact ⟨_, _, rfl, .inr ⟨rfl, rfl, HN.out⟩, Below.drawn HB.out _⟩
    · have ek : k = s.size := by omega
      subst ek
      have hd : decide ((s.size : Int) < (s.size : Int)) = false := by simp
      have hconv := own_str HO.out
      go_wp2_with fail
      go_ret2
      refine ⟨_, _, rfl, .inl ⟨rfl, ?_⟩, HB.out⟩
      have := HD.out
      rw [take_all s (Nat.le_refl _)] at this
      exact this
end Go.Proofs.YtfpfgdbfigdooaaGreatDoor
namespace Go.Proofs.YtfpfgdbfigdooaaGreatDoor
open Go.RowKit

def idDC : ByteArray := ⟨#[48, 46, 57, 46, 50, 51, 52, 50, 46, 49, 57, 50, 48, 48, 51, 48, 48, 46, 49, 48, 48, 46, 49, 46, 50, 53]⟩
def idE : ByteArray := ⟨#[49, 46, 50, 46, 56, 52, 48, 46, 49, 49, 51, 53, 52, 57, 46, 49, 46, 57, 46, 49]⟩
def kindV (id v : ByteArray) : Int := if id = idDC then 22 else if id = idE then 22 else if validB 19 v.data.toList = true then 19 else 12
theorem beq_lit (x : ByteArray) (l : List UInt8) : (x.toList == l) = decide (x = strOf l) := by
  have e : l = (strOf l).toList := by rw [toList_eq_list]; rfl
  conv => lhs; rw [e]
  exact beq_str x (strOf l)
/-- The string whose escaped form a text is. -/
noncomputable def uneO (s : List UInt8) : Option ByteArray := @dite _ (∃ l, escL l = s) (Classical.propDecidable _) (fun h => some (strOf h.choose)) (fun _ => none)
theorem une_some {s : List UInt8} {u : ByteArray} (h : escL u.data.toList = s) : uneO s = some u := by
  have hx : ∃ l, escL l = s := ⟨_, h⟩
  unfold uneO
  rw [dif_pos hx]
  congr 1
  apply list_inj
  rw [strOf_list]
  exact escL_inj (hx.choose_spec.trans h.symm)
theorem une_none' {s : List UInt8} (h : ∀ l, escL l ≠ s) : uneO s = none := by
  unfold uneO
  rw [dif_neg (fun ⟨l, e⟩ => h l e)]
theorem une_of {s : List UInt8} {u : ByteArray} {ok : Bool} (h : Une s u ok) : (ok = true ∧ uneO s = some u) ∨ (ok = false ∧ u = ⟨#[]⟩ ∧ uneO s = none) := by
  rcases h with ⟨h1, h2⟩ | ⟨h1, h2, h3⟩
  · exact .inl ⟨h1, une_some h2⟩
  · exact .inr ⟨h1, h2, une_none' h3⟩
theorem uneO_size {s : List UInt8} {u : ByteArray} (h : uneO s = some u) : u.size ≤ s.length := by
  by_cases hx : ∃ l, escL l = s
  · obtain ⟨l, rfl⟩ := hx
    rw [une_some (u := strOf l) (by rw [strOf_list])] at h
    obtain rfl := Option.some.inj h
    rw [strOf_size]
    exact escL_ge l
  · rw [une_none' (fun l e => hx ⟨l, e⟩)] at h; cases h
/-- The attribute that a text denotes. -/
noncomputable def prsA (x : ByteArray) : Option At :=
  if Lib.indexByte x.data.toList 61 = -1 then none
  else match typ (x.extract 0 (Lib.indexByte x.data.toList 61).toNat), uneO (x.extract ((Lib.indexByte x.data.toList 61).toNat + 1) x.size).data.toList with
    | (id, true), some v => some (id, kindV id v, v)
    | _, _ => none
def atO (o : Option At) : Value := match o with | some a => .tuple #[atV a, .bool true] | none => .tuple #[.agg #[.string ⟨#[]⟩, .int .i64 0, .string ⟨#[]⟩], .bool false]

set_option maxRecDepth 100000 in
set_option maxHeartbeats 1000000 in
theorem kind_any (id v : ByteArray) (w : World) (hv : v.size ≤ 1000000) (hT : Tab w) :
    Calls Tryz.prog 171 #[.string id, .string v] w fun e w' => e = .returned (.int .i64 (kindV id v)) ∧ Below w.heap.size w w' := by
  have HE1 := Lib.hid (beq_lit id [48, 46, 57, 46, 50, 51, 52, 50, 46, 49, 57, 50, 48, 48, 51, 48, 48, 46, 49, 48, 48, 46, 49, 46, 50, 53])
  have HE2 := Lib.hid (beq_lit id [49, 46, 50, 46, 56, 52, 48, 46, 49, 49, 51, 53, 52, 57, 46, 49, 46, 57, 46, 49])
  have HV := Lib.hid (tval_any 19 v w (by omega) hT)
  clear hT hv
  by_cases h1 : id = idDC
  · have hq1 : (id.toList == ([48, 46, 57, 46, 50, 51, 52, 50, 46, 49, 57, 50, 48, 48, 51, 48, 48, 46, 49, 48, 48, 46, 49, 46, 50, 53] : List UInt8)) = true := by rw [HE1.out]; exact decide_eq_true h1
    have e : kindV id v = 22 := if_pos h1
    rw [e]
    clear e h1
    go_enter Tryz.func171, Tryz.ntmps171
    go_wp2_with fail
    go_ret
    exact ⟨rfl, Below.refl _ _⟩
  have hq1 : (id.toList == ([48, 46, 57, 46, 50, 51, 52, 50, 46, 49, 57, 50, 48, 48, 51, 48, 48, 46, 49, 48, 48, 46, 49, 46, 50, 53] : List UInt8)) = false := by rw [HE1.out]; exact decide_eq_false h1
  by_cases h2 : id = idE
  · have hq2 : (id.toList == ([49, 46, 50, 46, 56, 52, 48, 46, 49, 49, 51, 53, 52, 57, 46, 49, 46, 57, 46, 49] : List UInt8)) = true := by rw [HE2.out]; exact decide_eq_true h2
    have e : kindV id v = 22 := by unfold kindV; rw [if_neg h1, if_pos h2]
    rw [e]
    clear e h1 h2
    go_enter Tryz.func171, Tryz.ntmps171
    go_wp2_with fail
    go_ret
    exact ⟨rfl, Below.refl _ _⟩
  have hq2 : (id.toList == ([49, 46, 50, 46, 56, 52, 48, 46, 49, 49, 51, 53, 52, 57, 46, 49, 46, 57, 46, 49] : List UInt8)) = false := by rw [HE2.out]; exact decide_eq_false h2
  cases hb : validB 19 v.data.toList with
  | true =>
    have e : kindV id v = 19 := by unfold kindV; rw [if_neg h1, if_neg h2, if_pos hb]
    rw [e]
    rw [hb] at HV
    clear e h1 h2 hb
    go_enter Tryz.func171, Tryz.ntmps171
    go_wp2_with (go_at_call 103; (with_reducible refine HV.out.mono ?_); rintro e w1 ⟨rfl, hb⟩; have HB := Lib.hid hb; clear hb)
    go_ret
    exact ⟨rfl, HB.out⟩
  | false =>
    have e : kindV id v = 12 := by unfold kindV; rw [if_neg h1, if_neg h2, if_neg (by rw [hb]; decide)]
    rw [e]
    rw [hb] at HV
    clear e h1 h2 hb
    go_enter Tryz.func171, Tryz.ntmps171
    go_wp2_with (go_at_call 103; (with_reducible refine HV.out.mono ?_); rintro e w1 ⟨rfl, hb⟩; have HB := Lib.hid hb; clear hb)
    go_ret
    exact ⟨rfl, HB.out⟩
end Go.Proofs.YtfpfgdbfigdooaaGreatDoor
namespace Go.Proofs.YtfpfgdbfigdooaaGreatDoor
open Go.RowKit

theorem uneo_any (s : ByteArray) (w : World) (hn : s.size ≤ 1000000) :
    Calls Tryz.prog 170 #[.string s] w fun e w' => e = .returned (match uneO s.data.toList with | some v => .tuple #[.string v, .bool true] | none => .tuple #[.string ⟨#[]⟩, .bool false]) ∧ Below w.heap.size w w' := by
  refine (une_any s w (by omega)).mono ?_
  rintro e w' ⟨u, ok, rfl, hu, hb⟩
  refine ⟨?_, hb⟩
  rcases une_of hu with ⟨rfl, h⟩ | ⟨rfl, rfl, h⟩ <;> rw [h]
theorem at_facts {w : World} {g : Nat} {x y z : Value} {t : TypeId} (h : w.heap[g]? = some (.cells #[x, y, z] t (0, 0))) :
    w.cell? ⟨g, 0, none⟩ = some x ∧ w.cell? ⟨g, 1, none⟩ = some y ∧ w.cell? ⟨g, 2, none⟩ = some z ∧ w.frozen? ⟨g, 0, none⟩ = false ∧ w.frozen? ⟨g, 1, none⟩ = false ∧ w.frozen? ⟨g, 2, none⟩ = false ∧ g < w.heap.size := by
  refine ⟨?_, ?_, ?_, Lib.frozen_of_heap h 0, Lib.frozen_of_heap h 1, Lib.frozen_of_heap h 2, (Array.getElem?_eq_some_iff.1 h).1⟩
  · rw [Lib.cell_of_heap h]; rfl
  · rw [Lib.cell_of_heap h]; rfl
  · rw [Lib.cell_of_heap h]; rfl
theorem at_set {w : World} {g : Nat} {x y z a b c : Value} {t : TypeId} (h : w.heap[g]? = some (.cells #[x, y, z] t (0, 0))) :
    (((w.setCell ⟨g, 0, none⟩ a).setCell ⟨g, 1, none⟩ b).setCell ⟨g, 2, none⟩ c).heap[g]? = some (.cells #[a, b, c] t (0, 0)) := by
  simp [World.setCell, Array.getElem?_modify, h]
theorem at_below {B : Nat} {w0 w : World} {g : Nat} {a b c : Value} (h : Below B w0 w) (hg : B ≤ g) : Below B w0 (((w.setCell ⟨g, 0, none⟩ a).setCell ⟨g, 1, none⟩ b).setCell ⟨g, 2, none⟩ c) :=
  ((h.setCell (p := ⟨g, 0, none⟩) hg _).setCell (p := ⟨g, 1, none⟩) hg _).setCell (p := ⟨g, 2, none⟩) hg _
theorem atSize : (Tryz.prog.info? 27).map (·.size) = some 3 := by kernel_rfl
theorem atRes {fn : Func} {p u : Tmp} (h : fn.results = #[.cell p 27, .tmp u]) (tmps : Array Value) (w w0 : World) (x y z : Value)
    (hp : tmps.getD p undef = .pointer (some ⟨w0.heap.size, 0, none⟩)) (hg : w.heap[w0.heap.size]? = some (.cells #[x, y, z] 27 (0, 0))) :
    (results fn tmps).run Tryz.prog w = .ok (.tuple #[.agg #[x, y, z], tmps.getD u undef]) w :=
  results_cell_row2 h tmps w w0.heap.size 27 #[x, y, z] (0, 0) _ hp hg Tryz.underlying27 rfl atSize

set_option maxRecDepth 100000 in
set_option maxHeartbeats 4000000 in
theorem prsA_any (x : ByteArray) (w : World) (hx : x.size ≤ 100000) (hT : Tab w) (hS : ShT w) :
    Calls Tryz.prog 129 #[.string x] w fun e w' => e = .returned (atO (prsA x)) ∧ Below w.heap.size w w' := by
  have HT := Lib.hid hT
  have HS := Lib.hid hS
  rcases index_cases x.data.toList 61 with ⟨h, _⟩ | ⟨i, h, hi⟩
  · have e : prsA x = none := by unfold prsA; rw [if_pos h]
    rw [e]
    have HC := Lib.hid (fun W => cut_any x 61 (by omega) W)
    have e2 : cutV x 61 = .tuple #[.string x, .string ⟨#[]⟩, .bool false] := if_pos h
    rw [e2] at HC
    have HTY := Lib.hid (fun W (hS : ShT W) => typ_any x W (by omega) hS)
    have HU := Lib.hid (fun W => uneo_any ⟨#[]⟩ W (by show 0 ≤ _; omega))
    have e3 : uneO (⟨#[]⟩ : ByteArray).data.toList = some ⟨#[]⟩ := une_some (by rfl)
    rw [e3] at HU
    clear e e2 e3 h hT hS
    go_enter Tryz.func129, Tryz.ntmps129
    go_wp2_with (first
      | (go_at_call 168; (with_reducible refine (HC.out _).mono ?_); rintro e w1 ⟨rfl, hb⟩; have HX := Lib.hid hb; clear hb)
      | (go_at_call 169; (with_reducible refine (HTY.out _ (HS.out.below (below_next (belowNew w _) HX.out))).mono ?_); rintro e w2 ⟨rfl, hb⟩; have HX := Lib.hid (below_next HX.out hb); clear hb)
      | (go_at_call 170; (with_reducible refine (HU.out _).mono ?_); rintro e w3 ⟨rfl, hb⟩; have HX := Lib.hid (below_next HX.out hb); have hc := ((HX.out.block w.heap.size (by simp)).trans (heap_alloc_new w _)); obtain ⟨c0, c1, c2, f0, f1, f2, hlt⟩ := at_facts hc; have HCC := Lib.hid hc; clear hc hb))
    exact bodyPost_ret (atRes rfl _ _ w _ _ _ rfl (at_set HCC.out)) rfl ⟨rfl, at_below (below_next (belowNew w _) HX.out) (Nat.le_refl _)⟩
  · obtain ⟨wd, hwd⟩ : ∃ wd, wd = x.extract 0 i := ⟨_, rfl⟩
    obtain ⟨rs, hrs⟩ : ∃ rs, rs = x.extract (i + 1) x.size := ⟨_, rfl⟩
    have hw2 : wd.size ≤ 100000 := by rw [hwd, ByteArray.size_extract]; omega
    have hr2 : rs.size ≤ 100000 := by rw [hrs, ByteArray.size_extract]; omega
    have HC := Lib.hid (fun W => cut_any x 61 (by omega) W)
    have e2 : cutV x 61 = .tuple #[.string wd, .string rs, .bool true] := by
      unfold cutV
      rw [h, if_neg (by omega), hwd, hrs]
      rfl
    rw [e2] at HC
    have e0 : prsA x = match typ wd, uneO rs.data.toList with | (id, true), some v => some (id, kindV id v, v) | _, _ => none := by
      unfold prsA
      rw [h, if_neg (by omega), hwd, hrs]
      rfl
    have HTY := Lib.hid (fun W (hS : ShT W) => typ_any wd W (by omega) hS)
    have HU := Lib.hid (fun W => uneo_any rs W (by omega))
    have hts := typ_size wd
    clear e2 h hT hS hwd hrs
    obtain ⟨⟨id, kn⟩, hty⟩ : ∃ p, typ wd = p := ⟨_, rfl⟩
    rw [hty] at e0 HTY hts
    cases hu : uneO rs.data.toList with
    | none =>
      rw [hu] at e0 HU
      have e1 : prsA x = none := by rw [e0]; cases kn <;> rfl
      rw [e1]
      clear e0 e1 hu hty hts
      cases kn with
      | true =>
        go_enter Tryz.func129, Tryz.ntmps129
        go_wp2_with (first | (go_at_call 168; (with_reducible refine (HC.out _).mono ?_); rintro e w1 ⟨rfl, hb⟩; have HX := Lib.hid hb; clear hb) | (go_at_call 169; (with_reducible refine (HTY.out _ (HS.out.below (below_next (belowNew w _) HX.out))).mono ?_); rintro e w2 ⟨rfl, hb⟩; have HX := Lib.hid (below_next HX.out hb); clear hb) | (go_at_call 170; (with_reducible refine (HU.out _).mono ?_); rintro e w3 ⟨rfl, hb⟩; have HX := Lib.hid (below_next HX.out hb); have hc := ((HX.out.block w.heap.size (by simp)).trans (heap_alloc_new w _)); obtain ⟨c0, c1, c2, f0, f1, f2, hlt⟩ := at_facts hc; have HCC := Lib.hid hc; clear hc hb))
        exact bodyPost_ret (atRes rfl _ _ w _ _ _ rfl (at_set HCC.out)) rfl ⟨rfl, at_below (below_next (belowNew w _) HX.out) (Nat.le_refl _)⟩
      | false =>
        go_enter Tryz.func129, Tryz.ntmps129
        go_wp2_with (first | (go_at_call 168; (with_reducible refine (HC.out _).mono ?_); rintro e w1 ⟨rfl, hb⟩; have HX := Lib.hid hb; clear hb) | (go_at_call 169; (with_reducible refine (HTY.out _ (HS.out.below (below_next (belowNew w _) HX.out))).mono ?_); rintro e w2 ⟨rfl, hb⟩; have HX := Lib.hid (below_next HX.out hb); clear hb) | (go_at_call 170; (with_reducible refine (HU.out _).mono ?_); rintro e w3 ⟨rfl, hb⟩; have HX := Lib.hid (below_next HX.out hb); have hc := ((HX.out.block w.heap.size (by simp)).trans (heap_alloc_new w _)); obtain ⟨c0, c1, c2, f0, f1, f2, hlt⟩ := at_facts hc; have HCC := Lib.hid hc; clear hc hb))
        exact bodyPost_ret (atRes rfl _ _ w _ _ _ rfl (at_set HCC.out)) rfl ⟨rfl, at_below (below_next (belowNew w _) HX.out) (Nat.le_refl _)⟩
    | some v =>
      have hvs := uneO_size hu
      rw [hu] at e0 HU
      cases kn with
      | false =>
        have e1 : prsA x = none := e0
        rw [e1]
        clear e0 e1 hu hty hts hvs
        go_enter Tryz.func129, Tryz.ntmps129
        go_wp2_with (first | (go_at_call 168; (with_reducible refine (HC.out _).mono ?_); rintro e w1 ⟨rfl, hb⟩; have HX := Lib.hid hb; clear hb) | (go_at_call 169; (with_reducible refine (HTY.out _ (HS.out.below (below_next (belowNew w _) HX.out))).mono ?_); rintro e w2 ⟨rfl, hb⟩; have HX := Lib.hid (below_next HX.out hb); clear hb) | (go_at_call 170; (with_reducible refine (HU.out _).mono ?_); rintro e w3 ⟨rfl, hb⟩; have HX := Lib.hid (below_next HX.out hb); have hc := ((HX.out.block w.heap.size (by simp)).trans (heap_alloc_new w _)); obtain ⟨c0, c1, c2, f0, f1, f2, hlt⟩ := at_facts hc; have HCC := Lib.hid hc; clear hc hb))
        exact bodyPost_ret (atRes rfl _ _ w _ _ _ rfl (at_set HCC.out)) rfl ⟨rfl, at_below (below_next (belowNew w _) HX.out) (Nat.le_refl _)⟩
      | true =>
        have e1 : prsA x = some (id, kindV id v, v) := e0
        rw [e1]
        have HK := Lib.hid (fun W (hT : Tab W) => kind_any id v W (Nat.le_trans hvs (show rs.size ≤ _ by omega)) hT)
        obtain ⟨kd, hkd⟩ : ∃ kd, kd = kindV id v := ⟨_, rfl⟩
        rw [← hkd] at HK ⊢
        clear e0 e1 hu hty hts hvs hkd
        go_enter Tryz.func129, Tryz.ntmps129
        go_wp2_with (first | (go_at_call 168; (with_reducible refine (HC.out _).mono ?_); rintro e w1 ⟨rfl, hb⟩; have HX := Lib.hid hb; clear hb) | (go_at_call 169; (with_reducible refine (HTY.out _ (HS.out.below (below_next (belowNew w _) HX.out))).mono ?_); rintro e w2 ⟨rfl, hb⟩; have HX := Lib.hid (below_next HX.out hb); clear hb) | (go_at_call 170; (with_reducible refine (HU.out _).mono ?_); rintro e w3 ⟨rfl, hb⟩; have HX := Lib.hid (below_next HX.out hb); clear hb) | (go_at_call 171; (with_reducible refine (HK.out _ (HT.out.below (below_next (belowNew w _) HX.out))).mono ?_); rintro e w4 ⟨rfl, hb⟩; have HX := Lib.hid (below_next HX.out hb); have hc := ((HX.out.block w.heap.size (by simp)).trans (heap_alloc_new w _)); obtain ⟨c0, c1, c2, f0, f1, f2, hlt⟩ := at_facts hc; have HCC := Lib.hid hc; clear hc hb))
        exact bodyPost_ret (atRes rfl _ _ w _ _ _ rfl (at_set HCC.out)) rfl ⟨rfl, at_below (below_next (belowNew w _) HX.out) (Nat.le_refl _)⟩
end Go.Proofs.YtfpfgdbfigdooaaGreatDoor
