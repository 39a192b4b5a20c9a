/-
  The contract of text.Unescape: the string whose escaped form is the given one, if there is one; nothing that was there before the call has changed.
  What a text denotes as a name, as a function of the text; the contracts of kindOf and parseAttribute.
  The contract of parseAttribute: the attribute that a text denotes, if it denotes one.
  The contract of certpathmade's attribute: one of twelve attributes; of the memory that was there only the deck's block has changed.
  The contract of foldedSet: a map whose keys are the pairs of type and folded value of a relative name's attributes.
-/
import Derived.Test.YtfpfgdbfigdooaaGreatDoorEac
import Derived.Test.YtfpfgdbfigdooaaGreatDoorEaj
import Derived.Test.YtfpfgdbfigdooaaGreatDoorEai
import Derived.Maps.OwnSet
import Derived.Maps.RangeWalk
import Derived.Maps.Ext
import Derived.Lib.SlMapEqual
import Derived.DeepKeys4
import Derived.ProofKit
import Derived.Laws.IdiomRangeMap
namespace Go.Proofs.YtfpfgdbfigdooaaGreatDoor
open Go.RowKit

theorem escL_ge (l : List UInt8) : l.length ≤ (escL l).length := by
  induction l with
  | nil => exact Nat.le_refl _
  | cons d D ih =>
    have := escB_len1 d
    rw [escL_cons, List.length_append, List.length_cons]; omega

set_option maxRecDepth 100000 in
set_option maxHeartbeats 4000000 in
theorem une_any (s : ByteArray) (w : World) (hn : s.size ≤ 1099511627776) :
    Calls Tryz.prog 170 #[.string s] w fun e w' => ∃ u ok, e = .returned (.tuple #[.string u, .bool ok]) ∧ Une s.data.toList u ok ∧ Below w.heap.size w w' := by
  obtain ⟨i0, hi, hz0, hz1, hz2⟩ := info_parts byteInfo
  have HSL := Lib.hid (show s.data.toList.length = s.size from rfl)
  go_enter Tryz.func170, Tryz.ntmps170
  go_wp2_with (at_make; refine wpList_make_own _ rfl _ _ 61 rfl w.heap.size 5 i0 (.int .u8 0) 1 Tryz.underlying61 hi hz0 hz1 .i64 .i64 (s.size : Int) s.size rfl rfl (by omega) (by rw [hz2]; omega) (by unfold maxLen; omega) (Nat.le_refl _) ?_; intro w1 hown1 hgr1; have HO1 := Lib.hid hown1; have HG1 := Lib.hid hgr1; clear hown1 hgr1)
  go_loopw [4, 5] (fun v i wr => ∃ (k : Nat) (D : List UInt8), k ≤ s.size ∧ i = .int .i64 k ∧ escL D = s.data.toList.take k ∧ OwnB 5 wr w.heap.size v D ∧ Below w.heap.size w wr) (fun _ i _ => s.size - (intOf i).toNat)
  case atStart => exact ⟨0, [], Nat.zero_le _, rfl, rfl, HO1.out, (Below.refl _ _).grown HG1.out (Nat.le_refl _) (fun _ e => by cases e)⟩
  case round =>
    obtain ⟨k, D, hk, rfl, hD, hown, hb⟩ := hrel
    have HO := Lib.hid hown
    have HB := Lib.hid hb
    have hsb := hb.size
    have hDl : D.length ≤ k := by
      have h1 := escL_ge D
      rw [hD, take_len s hk] at h1
      exact h1
    have HD := Lib.hid hD
    clear hown hb hD
    by_cases hlt : k < s.size
    · have hd : decide ((k : Int) < (s.size : Int)) = true := by simp; omega
      obtain ⟨c, hc, hcn⟩ := u8at_list s k hlt
      have hix := fun w => run_index_u8 (P := Tryz.prog) Tryz.underlying9 s k hlt (k : Int) rfl w
      rw [hcn] at hix
      have HC := Lib.hid hc
      clear hc hcn
      cases hp : plainB c with
      | true =>
        have h92 : ¬ c = 92 := fun e => by rw [e, plain_92] at hp; cases hp
        have h92n : ¬ c.toNat = 92 := fun h => h92 (UInt8.toNat_inj.1 h)
        have hq : (((c.toNat : Nat) : Int) == 92) = false := by simp; omega
        have HP := Lib.hid (fun w => isplain_is hp w)
        have HN := Lib.hid (show escL (D ++ [c]) = s.data.toList.take (k + 1) by rw [take_snoc HC.out, escL_snoc, escB_plain hp, HD.out])
        clear hp h92 h92n
        go_wp2_with fail
        go_quiet (first | (go_at_call 113; with_reducible refine Calls.quiet_of_same (HP.out _)))
        go_wp2_with (at_builtin; (refine wpList_append_own _ rfl (.tmp 38) (.tmp 40) 61 rfl w.heap.size 5 i0 (.int .u8 0) 1 1 Tryz.underlying61 hi hz0 hz1 hz2 rfl (by decide) _ _ _ rfl ((HO.out.drawn _).alloc _) ⟨wr.heap.size, 0, none⟩ 1 1 [bcell c] rfl rfl (news_row (wr.drewN _) #[bcell c] 5) (bcells_one [c]) (by unfold maxLen; omega) (by omega) (by simp; omega) ?_); intro v' w2 hown2 hgr2 _; obtain ⟨P1, P2⟩ := out_round (HO.out.drawn _) (Below.drawn HB.out _) hown2 hgr2; have HP1 := Lib.hid P1; have HP2 := Lib.hid P2; clear hown2 hgr2 P1 P2)
        go_roundw
        case rel => exact ⟨k + 1, D ++ [c], by omega, by go_num, HN.out, HP1.out, HP2.out⟩
        case measure => simp [intOf]; omega
      | false =>
        have HP := Lib.hid (fun w => isplain_is hp w)
        by_cases h92 : c = 92
        · have hq : (((c.toNat : Nat) : Int) == 92) = true := by rw [h92]; rfl
          have hk1 : k + 1 ≤ s.size := by omega
          have hsl := fun w => slice_tail s (k + 1) hk1 ((k : Int) + 1) (by omega) w
          have hl : (s.data.toList.drop (k + 1)).length ≤ 1099511627776 := by rw [List.length_drop, HSL.out]; omega
          have HC92 := Lib.hid (show s.data.toList[k]? = some 92 by rw [HC.out, h92])
          have HL := Lib.hid hl
          clear hl hp h92
          cases he : escd (s.data.toList.drop (k + 1)) with
          | none =>
            have HE := Lib.hid (fun w => escaped_no he w HL.out)
            have HN := Lib.hid (une_bad92 HD.out HC92.out he)
            generalize s.data.toList.drop (k + 1) = r at hsl HE
            clear he
            go_wp2_with fail
            go_quiet (first | (go_at_call 113; with_reducible refine Calls.quiet_of_same (HP.out _)))
            go_wp2_with (go_at_call 192; (with_reducible refine (HE.out _).mono ?_); rintro e w2 ⟨⟨y, rfl⟩, hb2⟩; have HB2 := Lib.hid (below_next (Below.drawn HB.out _) hb2); clear hb2)
            go_ret2
            exact ⟨_, _, rfl, .inr ⟨rfl, rfl, HN.out⟩, HB2.out⟩
          | some y =>
            have HE := Lib.hid (fun w => escaped_yes he w HL.out)
            have h2 := escd_some he
            have hk3 : k + 3 ≤ s.size := by
              have := h2.1
              rw [List.length_drop, HSL.out] at this
              omega
            have HN := Lib.hid (show escL (D ++ [y]) = s.data.toList.take (k + 3) by
              rw [escL_snoc, h2.2, HD.out, show k + 3 = k + (1 + 2) by omega, List.take_add]
              congr 1
              rw [drop_cons HC92.out, show 1 + 2 = 2 + 1 by omega, List.take_succ_cons])
            generalize s.data.toList.drop (k + 1) = r at hsl HE
            clear he h2
            go_wp2_with fail
            go_quiet (first | (go_at_call 113; with_reducible refine Calls.quiet_of_same (HP.out _)))
            go_wp2_with (first
              | (go_at_call 192; (with_reducible refine (HE.out _).mono ?_); rintro e w3 ⟨rfl, hb2⟩; have HB2 := Lib.hid (below_next (Below.drawn HB.out _) hb2); have HO2 := Lib.hid (own_below (OwnB.drawn HO.out _) hb2); have hs3 := HB2.out.size; clear hb2)
              | (at_builtin; (refine wpList_append_own _ rfl (.tmp 38) (.tmp 40) 61 rfl w.heap.size 5 i0 (.int .u8 0) 1 1 Tryz.underlying61 hi hz0 hz1 hz2 rfl (by decide) _ _ _ rfl (HO2.out.alloc _) ⟨w3.heap.size, 0, none⟩ 1 1 [bcell y] rfl rfl (news_row w3 #[bcell y] 5) (bcells_one [y]) (by unfold maxLen; omega) (by omega) (by simp; omega) ?_); intro v' w2 hown2 hgr2 _; obtain ⟨P1, P2⟩ := out_round HO2.out HB2.out hown2 hgr2; have HP1 := Lib.hid P1; have HP2 := Lib.hid P2; clear hown2 hgr2 P1 P2))
            go_roundw
            case rel => exact ⟨k + 3, D ++ [y], hk3, by go_num, HN.out, HP1.out, HP2.out⟩
            case measure => simp [intOf]; omega
        · have h92n : ¬ c.toNat = 92 := fun h => h92 (UInt8.toNat_inj.1 h)
          have hq : (((c.toNat : Nat) : Int) == 92) = false := by simp; omega
          have HN := Lib.hid (une_bad HD.out HC.out h92 hp)
          clear hp h92 h92n
          go_wp2_with fail
          go_quiet (first | (go_at_call 113; with_reducible refine Calls.quiet_of_same (HP.out _)))
          go_wp2_with fail
          go_ret2
          exact ⟨_, _, rfl, .inr ⟨rfl, rfl, HN.out⟩, Below.drawn HB.out _⟩
    · have ek : k = s.size := by omega
      subst ek
      have hd : decide ((s.size : Int) < (s.size : Int)) = false := by simp
      have hconv := own_str HO.out
      go_wp2_with fail
      go_ret2
      refine ⟨_, _, rfl, .inl ⟨rfl, ?_⟩, HB.out⟩
      have := HD.out
      rw [take_all s (Nat.le_refl _)] at this
      exact this
end Go.Proofs.YtfpfgdbfigdooaaGreatDoor
namespace Go.Proofs.YtfpfgdbfigdooaaGreatDoor
open Go.RowKit

def idDC : ByteArray := ⟨#[48, 46, 57, 46, 50, 51, 52, 50, 46, 49, 57, 50, 48, 48, 51, 48, 48, 46, 49, 48, 48, 46, 49, 46, 50, 53]⟩
def idE : ByteArray := ⟨#[49, 46, 50, 46, 56, 52, 48, 46, 49, 49, 51, 53, 52, 57, 46, 49, 46, 57, 46, 49]⟩
def kindV (id v : ByteArray) : Int := if id = idDC then 22 else if id = idE then 22 else if validB 19 v.data.toList = true then 19 else 12
theorem beq_lit (x : ByteArray) (l : List UInt8) : (x.toList == l) = decide (x = strOf l) := by
  have e : l = (strOf l).toList := by rw [toList_eq_list]; rfl
  conv => lhs; rw [e]
  exact beq_str x (strOf l)
/-- The string whose escaped form a text is. -/
noncomputable def uneO (s : List UInt8) : Option ByteArray := @dite _ (∃ l, escL l = s) (Classical.propDecidable _) (fun h => some (strOf h.choose)) (fun _ => none)
theorem une_some {s : List UInt8} {u : ByteArray} (h : escL u.data.toList = s) : uneO s = some u := by
  have hx : ∃ l, escL l = s := ⟨_, h⟩
  unfold uneO
  rw [dif_pos hx]
  congr 1
  apply list_inj
  rw [strOf_list]
  exact escL_inj (hx.choose_spec.trans h.symm)
theorem une_none' {s : List UInt8} (h : ∀ l, escL l ≠ s) : uneO s = none := by
  unfold uneO
  rw [dif_neg (fun ⟨l, e⟩ => h l e)]
theorem une_of {s : List UInt8} {u : ByteArray} {ok : Bool} (h : Une s u ok) : (ok = true ∧ uneO s = some u) ∨ (ok = false ∧ u = ⟨#[]⟩ ∧ uneO s = none) := by
  rcases h with ⟨h1, h2⟩ | ⟨h1, h2, h3⟩
  · exact .inl ⟨h1, une_some h2⟩
  · exact .inr ⟨h1, h2, une_none' h3⟩
theorem uneO_size {s : List UInt8} {u : ByteArray} (h : uneO s = some u) : u.size ≤ s.length := by
  by_cases hx : ∃ l, escL l = s
  · obtain ⟨l, rfl⟩ := hx
    rw [une_some (u := strOf l) (by rw [strOf_list])] at h
    obtain rfl := Option.some.inj h
    rw [strOf_size]
    exact escL_ge l
  · rw [une_none' (fun l e => hx ⟨l, e⟩)] at h; cases h
/-- The attribute that a text denotes. -/
noncomputable def prsA (x : ByteArray) : Option At :=
  if Lib.indexByte x.data.toList 61 = -1 then none
  else match typ (x.extract 0 (Lib.indexByte x.data.toList 61).toNat), uneO (x.extract ((Lib.indexByte x.data.toList 61).toNat + 1) x.size).data.toList with
    | (id, true), some v => some (id, kindV id v, v)
    | _, _ => none
def atO (o : Option At) : Value := match o with | some a => .tuple #[atV a, .bool true] | none => .tuple #[.agg #[.string ⟨#[]⟩, .int .i64 0, .string ⟨#[]⟩], .bool false]

set_option maxRecDepth 100000 in
set_option maxHeartbeats 1000000 in
theorem kind_any (id v : ByteArray) (w : World) (hv : v.size ≤ 1000000) (hT : Tab w) :
    Calls Tryz.prog 171 #[.string id, .string v] w fun e w' => e = .returned (.int .i64 (kindV id v)) ∧ Below w.heap.size w w' := by
  have HE1 := Lib.hid (beq_lit id [48, 46, 57, 46, 50, 51, 52, 50, 46, 49, 57, 50, 48, 48, 51, 48, 48, 46, 49, 48, 48, 46, 49, 46, 50, 53])
  have HE2 := Lib.hid (beq_lit id [49, 46, 50, 46, 56, 52, 48, 46, 49, 49, 51, 53, 52, 57, 46, 49, 46, 57, 46, 49])
  have HV := Lib.hid (tval_any 19 v w (by omega) hT)
  clear hT hv
  by_cases h1 : id = idDC
  · have hq1 : (id.toList == ([48, 46, 57, 46, 50, 51, 52, 50, 46, 49, 57, 50, 48, 48, 51, 48, 48, 46, 49, 48, 48, 46, 49, 46, 50, 53] : List UInt8)) = true := by rw [HE1.out]; exact decide_eq_true h1
    have e : kindV id v = 22 := if_pos h1
    rw [e]
    clear e h1
    go_enter Tryz.func171, Tryz.ntmps171
    go_wp2_with fail
    go_ret
    exact ⟨rfl, Below.refl _ _⟩
  have hq1 : (id.toList == ([48, 46, 57, 46, 50, 51, 52, 50, 46, 49, 57, 50, 48, 48, 51, 48, 48, 46, 49, 48, 48, 46, 49, 46, 50, 53] : List UInt8)) = false := by rw [HE1.out]; exact decide_eq_false h1
  by_cases h2 : id = idE
  · have hq2 : (id.toList == ([49, 46, 50, 46, 56, 52, 48, 46, 49, 49, 51, 53, 52, 57, 46, 49, 46, 57, 46, 49] : List UInt8)) = true := by rw [HE2.out]; exact decide_eq_true h2
    have e : kindV id v = 22 := by unfold kindV; rw [if_neg h1, if_pos h2]
    rw [e]
    clear e h1 h2
    go_enter Tryz.func171, Tryz.ntmps171
    go_wp2_with fail
    go_ret
    exact ⟨rfl, Below.refl _ _⟩
  have hq2 : (id.toList == ([49, 46, 50, 46, 56, 52, 48, 46, 49, 49, 51, 53, 52, 57, 46, 49, 46, 57, 46, 49] : List UInt8)) = false := by rw [HE2.out]; exact decide_eq_false h2
  cases hb : validB 19 v.data.toList with
  | true =>
    have e : kindV id v = 19 := by unfold kindV; rw [if_neg h1, if_neg h2, if_pos hb]
    rw [e]
    rw [hb] at HV
    clear e h1 h2 hb
    go_enter Tryz.func171, Tryz.ntmps171
    go_wp2_with (go_at_call 103; (with_reducible refine HV.out.mono ?_); rintro e w1 ⟨rfl, hb⟩; have HB := Lib.hid hb; clear hb)
    go_ret
    exact ⟨rfl, HB.out⟩
  | false =>
    have e : kindV id v = 12 := by unfold kindV; rw [if_neg h1, if_neg h2, if_neg (by rw [hb]; decide)]
    rw [e]
    rw [hb] at HV
    clear e h1 h2 hb
    go_enter Tryz.func171, Tryz.ntmps171
    go_wp2_with (go_at_call 103; (with_reducible refine HV.out.mono ?_); rintro e w1 ⟨rfl, hb⟩; have HB := Lib.hid hb; clear hb)
    go_ret
    exact ⟨rfl, HB.out⟩
end Go.Proofs.YtfpfgdbfigdooaaGreatDoor
namespace Go.Proofs.YtfpfgdbfigdooaaGreatDoor
open Go.RowKit

theorem uneo_any (s : ByteArray) (w : World) (hn : s.size ≤ 1000000) :
    Calls Tryz.prog 170 #[.string s] w fun e w' => e = .returned (match uneO s.data.toList with | some v => .tuple #[.string v, .bool true] | none => .tuple #[.string ⟨#[]⟩, .bool false]) ∧ Below w.heap.size w w' := by
  refine (une_any s w (by omega)).mono ?_
  rintro e w' ⟨u, ok, rfl, hu, hb⟩
  refine ⟨?_, hb⟩
  rcases une_of hu with ⟨rfl, h⟩ | ⟨rfl, rfl, h⟩ <;> rw [h]
theorem at_facts {w : World} {g : Nat} {x y z : Value} {t : TypeId} (h : w.heap[g]? = some (.cells #[x, y, z] t (0, 0))) :
    w.cell? ⟨g, 0, none⟩ = some x ∧ w.cell? ⟨g, 1, none⟩ = some y ∧ w.cell? ⟨g, 2, none⟩ = some z ∧ w.frozen? ⟨g, 0, none⟩ = false ∧ w.frozen? ⟨g, 1, none⟩ = false ∧ w.frozen? ⟨g, 2, none⟩ = false ∧ g < w.heap.size := by
  refine ⟨?_, ?_, ?_, Lib.frozen_of_heap h 0, Lib.frozen_of_heap h 1, Lib.frozen_of_heap h 2, (Array.getElem?_eq_some_iff.1 h).1⟩
  · rw [Lib.cell_of_heap h]; rfl
  · rw [Lib.cell_of_heap h]; rfl
  · rw [Lib.cell_of_heap h]; rfl
theorem at_set {w : World} {g : Nat} {x y z a b c : Value} {t : TypeId} (h : w.heap[g]? = some (.cells #[x, y, z] t (0, 0))) :
    (((w.setCell ⟨g, 0, none⟩ a).setCell ⟨g, 1, none⟩ b).setCell ⟨g, 2, none⟩ c).heap[g]? = some (.cells #[a, b, c] t (0, 0)) := by
  simp [World.setCell, Array.getElem?_modify, h]
theorem at_below {B : Nat} {w0 w : World} {g : Nat} {a b c : Value} (h : Below B w0 w) (hg : B ≤ g) : Below B w0 (((w.setCell ⟨g, 0, none⟩ a).setCell ⟨g, 1, none⟩ b).setCell ⟨g, 2, none⟩ c) :=
  ((h.setCell (p := ⟨g, 0, none⟩) hg _).setCell (p := ⟨g, 1, none⟩) hg _).setCell (p := ⟨g, 2, none⟩) hg _
theorem atSize : (Tryz.prog.info? 27).map (·.size) = some 3 := by kernel_rfl
theorem atRes {fn : Func} {p u : Tmp} (h : fn.results = #[.cell p 27, .tmp u]) (tmps : Array Value) (w w0 : World) (x y z : Value)
    (hp : tmps.getD p undef = .pointer (some ⟨w0.heap.size, 0, none⟩)) (hg : w.heap[w0.heap.size]? = some (.cells #[x, y, z] 27 (0, 0))) :
    (results fn tmps).run Tryz.prog w = .ok (.tuple #[.agg #[x, y, z], tmps.getD u undef]) w :=
  results_cell_row2 h tmps w w0.heap.size 27 #[x, y, z] (0, 0) _ hp hg Tryz.underlying27 rfl atSize

set_option maxRecDepth 100000 in
set_option maxHeartbeats 4000000 in
theorem prsA_any (x : ByteArray) (w : World) (hx : x.size ≤ 100000) (hT : Tab w) (hS : ShT w) :
    Calls Tryz.prog 129 #[.string x] w fun e w' => e = .returned (atO (prsA x)) ∧ Below w.heap.size w w' := by
  have HT := Lib.hid hT
  have HS := Lib.hid hS
  rcases index_cases x.data.toList 61 with ⟨h, _⟩ | ⟨i, h, hi⟩
  · have e : prsA x = none := by unfold prsA; rw [if_pos h]
    rw [e]
    have HC := Lib.hid (fun W => cut_any x 61 (by omega) W)
    have e2 : cutV x 61 = .tuple #[.string x, .string ⟨#[]⟩, .bool false] := if_pos h
    rw [e2] at HC
    have HTY := Lib.hid (fun W (hS : ShT W) => typ_any x W (by omega) hS)
    have HU := Lib.hid (fun W => uneo_any ⟨#[]⟩ W (by show 0 ≤ _; omega))
    have e3 : uneO (⟨#[]⟩ : ByteArray).data.toList = some ⟨#[]⟩ := une_some (by rfl)
    rw [e3] at HU
    clear e e2 e3 h hT hS
    go_enter Tryz.func129, Tryz.ntmps129
    go_wp2_with (first
      | (go_at_call 168; (with_reducible refine (HC.out _).mono ?_); rintro e w1 ⟨rfl, hb⟩; have HX := Lib.hid hb; clear hb)
      | (go_at_call 169; (with_reducible refine (HTY.out _ (HS.out.below (below_next (belowNew w _) HX.out))).mono ?_); rintro e w2 ⟨rfl, hb⟩; have HX := Lib.hid (below_next HX.out hb); clear hb)
      | (go_at_call 170; (with_reducible refine (HU.out _).mono ?_); rintro e w3 ⟨rfl, hb⟩; have HX := Lib.hid (below_next HX.out hb); have hc := ((HX.out.block w.heap.size (by simp)).trans (heap_alloc_new w _)); obtain ⟨c0, c1, c2, f0, f1, f2, hlt⟩ := at_facts hc; have HCC := Lib.hid hc; clear hc hb))
    exact bodyPost_ret (atRes rfl _ _ w _ _ _ rfl (at_set HCC.out)) rfl ⟨rfl, at_below (below_next (belowNew w _) HX.out) (Nat.le_refl _)⟩
  · obtain ⟨wd, hwd⟩ : ∃ wd, wd = x.extract 0 i := ⟨_, rfl⟩
    obtain ⟨rs, hrs⟩ : ∃ rs, rs = x.extract (i + 1) x.size := ⟨_, rfl⟩
    have hw2 : wd.size ≤ 100000 := by rw [hwd, ByteArray.size_extract]; omega
    have hr2 : rs.size ≤ 100000 := by rw [hrs, ByteArray.size_extract]; omega
    have HC := Lib.hid (fun W => cut_any x 61 (by omega) W)
    have e2 : cutV x 61 = .tuple #[.string wd, .string rs, .bool true] := by
      unfold cutV
      rw [h, if_neg (by omega), hwd, hrs]
      rfl
    rw [e2] at HC
    have e0 : prsA x = match typ wd, uneO rs.data.toList with | (id, true), some v => some (id, kindV id v, v) | _, _ => none := by
      unfold prsA
      rw [h, if_neg (by omega), hwd, hrs]
      rfl
    have HTY := Lib.hid (fun W (hS : ShT W) => typ_any wd W (by omega) hS)
    have HU := Lib.hid (fun W => uneo_any rs W (by omega))
    have hts := typ_size wd
    clear e2 h hT hS hwd hrs
    obtain ⟨⟨id, kn⟩, hty⟩ : ∃ p, typ wd = p := ⟨_, rfl⟩
    rw [hty] at e0 HTY hts
    cases hu : uneO rs.data.toList with
    | none =>
      rw [hu] at e0 HU
      have e1 : prsA x = none := by rw [e0]; cases kn <;> rfl
      rw [e1]
      clear e0 e1 hu hty hts
      cases kn with
      | true =>
        go_enter Tryz.func129, Tryz.ntmps129
        go_wp2_with (first | (go_at_call 168; (with_reducible refine (HC.out _).mono ?_); rintro e w1 ⟨rfl, hb⟩; have HX := Lib.hid hb; clear hb) | (go_at_call 169; (with_reducible refine (HTY.out _ (HS.out.below (below_next (belowNew w _) HX.out))).mono ?_); rintro e w2 ⟨rfl, hb⟩; have HX := Lib.hid (below_next HX.out hb); clear hb) | (go_at_call 170; (with_reducible refine (HU.out _).mono ?_); rintro e w3 ⟨rfl, hb⟩; have HX := Lib.hid (below_next HX.out hb); have hc := ((HX.out.block w.heap.size (by simp)).trans (heap_alloc_new w _)); obtain ⟨c0, c1, c2, f0, f1, f2, hlt⟩ := at_facts hc; have HCC := Lib.hid hc; clear hc hb))
        exact bodyPost_ret (atRes rfl _ _ w _ _ _ rfl (at_set HCC.out)) rfl ⟨rfl, at_below (below_next (belowNew w _) HX.out) (Nat.le_refl _)⟩
      | false =>
        go_enter Tryz.func129, Tryz.ntmps129
        go_wp2_with (first | (go_at_call 168; (with_reducible refine (HC.out _).mono ?_); rintro e w1 ⟨rfl, hb⟩; have HX := Lib.hid hb; clear hb) | (go_at_call 169; (with_reducible refine (HTY.out _ (HS.out.below (below_next (belowNew w _) HX.out))).mono ?_); rintro e w2 ⟨rfl, hb⟩; have HX := Lib.hid (below_next HX.out hb); clear hb) | (go_at_call 170; (with_reducible refine (HU.out _).mono ?_); rintro e w3 ⟨rfl, hb⟩; have HX := Lib.hid (below_next HX.out hb); have hc := ((HX.out.block w.heap.size (by simp)).trans (heap_alloc_new w _)); obtain ⟨c0, c1, c2, f0, f1, f2, hlt⟩ := at_facts hc; have HCC := Lib.hid hc; clear hc hb))
        exact bodyPost_ret (atRes rfl _ _ w _ _ _ rfl (at_set HCC.out)) rfl ⟨rfl, at_below (below_next (belowNew w _) HX.out) (Nat.le_refl _)⟩
    | some v =>
      have hvs := uneO_size hu
      rw [hu] at e0 HU
      cases kn with
      | false =>
        have e1 : prsA x = none := e0
        rw [e1]
        clear e0 e1 hu hty hts hvs
        go_enter Tryz.func129, Tryz.ntmps129
        go_wp2_with (first | (go_at_call 168; (with_reducible refine (HC.out _).mono ?_); rintro e w1 ⟨rfl, hb⟩; have HX := Lib.hid hb; clear hb) | (go_at_call 169; (with_reducible refine (HTY.out _ (HS.out.below (below_next (belowNew w _) HX.out))).mono ?_); rintro e w2 ⟨rfl, hb⟩; have HX := Lib.hid (below_next HX.out hb); clear hb) | (go_at_call 170; (with_reducible refine (HU.out _).mono ?_); rintro e w3 ⟨rfl, hb⟩; have HX := Lib.hid (below_next HX.out hb); have hc := ((HX.out.block w.heap.size (by simp)).trans (heap_alloc_new w _)); obtain ⟨c0, c1, c2, f0, f1, f2, hlt⟩ := at_facts hc; have HCC := Lib.hid hc; clear hc hb))
        exact bodyPost_ret (atRes rfl _ _ w _ _ _ rfl (at_set HCC.out)) rfl ⟨rfl, at_below (below_next (belowNew w _) HX.out) (Nat.le_refl _)⟩
      | true =>
        have e1 : prsA x = some (id, kindV id v, v) := e0
        rw [e1]
        have HK := Lib.hid (fun W (hT : Tab W) => kind_any id v W (Nat.le_trans hvs (show rs.size ≤ _ by omega)) hT)
        obtain ⟨kd, hkd⟩ : ∃ kd, kd = kindV id v := ⟨_, rfl⟩
        rw [← hkd] at HK ⊢
        clear e0 e1 hu hty hts hvs hkd
        go_enter Tryz.func129, Tryz.ntmps129
        go_wp2_with (first | (go_at_call 168; (with_reducible refine (HC.out _).mono ?_); rintro e w1 ⟨rfl, hb⟩; have HX := Lib.hid hb; clear hb) | (go_at_call 169; (with_reducible refine (HTY.out _ (HS.out.below (below_next (belowNew w _) HX.out))).mono ?_); rintro e w2 ⟨rfl, hb⟩; have HX := Lib.hid (below_next HX.out hb); clear hb) | (go_at_call 170; (with_reducible refine (HU.out _).mono ?_); rintro e w3 ⟨rfl, hb⟩; have HX := Lib.hid (below_next HX.out hb); clear hb) | (go_at_call 171; (with_reducible refine (HK.out _ (HT.out.below (below_next (belowNew w _) HX.out))).mono ?_); rintro e w4 ⟨rfl, hb⟩; have HX := Lib.hid (below_next HX.out hb); have hc := ((HX.out.block w.heap.size (by simp)).trans (heap_alloc_new w _)); obtain ⟨c0, c1, c2, f0, f1, f2, hlt⟩ := at_facts hc; have HCC := Lib.hid hc; clear hc hb))
        exact bodyPost_ret (atRes rfl _ _ w _ _ _ rfl (at_set HCC.out)) rfl ⟨rfl, at_below (below_next (belowNew w _) HX.out) (Nat.le_refl _)⟩
end Go.Proofs.YtfpfgdbfigdooaaGreatDoor
namespace Go.Proofs.YtfpfgdbfigdooaaGreatDoor
open Go.RowKit

/-- The twelve attributes of the generator. -/
def madeL : List At := [(⟨#[50, 46, 53, 46, 52, 46, 51]⟩, 12, ⟨#[65, 110, 110]⟩), (⟨#[50, 46, 53, 46, 52, 46, 51]⟩, 19, ⟨#[32, 97, 110, 110]⟩), (⟨#[50, 46, 53, 46, 52, 46, 51]⟩, 12, ⟨#[103, 114, 195, 182, 195, 159, 101]⟩), (⟨#[50, 46, 53, 46, 52, 46, 54]⟩, 19, ⟨#[85, 83]⟩), (⟨#[50, 46, 53, 46, 52, 46, 49, 48]⟩, 19, ⟨#[69, 120, 97, 109, 112, 108, 101, 32, 32, 67, 111, 114, 112]⟩), (⟨#[50, 46, 53, 46, 52, 46, 49, 48]⟩, 12, ⟨#[101, 120, 97, 109, 112, 108, 101, 32, 99, 111, 114, 112]⟩), (⟨#[50, 46, 53, 46, 52, 46, 49, 49]⟩, 22, ⟨#[97, 44, 98, 43, 99, 61, 100, 92, 101]⟩), (⟨#[48, 46, 57, 46, 50, 51, 52, 50, 46, 49, 57, 50, 48, 48, 51, 48, 48, 46, 49, 48, 48, 46, 49, 46, 50, 53]⟩, 22, ⟨#[111, 114, 103]⟩), (⟨#[49, 46, 50, 46, 56, 52, 48, 46, 49, 49, 51, 53, 52, 57, 46, 49, 46, 57, 46, 49]⟩, 22, ⟨#[97, 110, 110, 64, 101, 120, 97, 109, 112, 108, 101, 46, 111, 114, 103]⟩), (⟨#[49, 46, 50, 46, 56, 52, 48, 46, 49, 49, 51, 53, 52, 57, 46, 49, 46, 57, 46, 49]⟩, 22, ⟨#[110, 111, 32, 97, 100, 100, 114, 101, 115, 115]⟩), (⟨#[50, 46, 53, 46, 52, 46, 57, 57]⟩, 19, ⟨#[120]⟩), (⟨#[50, 46, 53, 46, 52, 46, 55]⟩, 12, ⟨#[76]⟩)]
theorem made_cells : atsCells madeL = (.string ⟨#[50, 46, 53, 46, 52, 46, 51]⟩ :: .int .i64 12 :: .string ⟨#[65, 110, 110]⟩ :: .string ⟨#[50, 46, 53, 46, 52, 46, 51]⟩ :: .int .i64 19 :: .string ⟨#[32, 97, 110, 110]⟩ :: .string ⟨#[50, 46, 53, 46, 52, 46, 51]⟩ :: .int .i64 12 :: .string ⟨#[103, 114, 195, 182, 195, 159, 101]⟩ :: .string ⟨#[50, 46, 53, 46, 52, 46, 54]⟩ :: .int .i64 19 :: .string ⟨#[85, 83]⟩ :: .string ⟨#[50, 46, 53, 46, 52, 46, 49, 48]⟩ :: .int .i64 19 :: .string ⟨#[69, 120, 97, 109, 112, 108, 101, 32, 32, 67, 111, 114, 112]⟩ :: .string ⟨#[50, 46, 53, 46, 52, 46, 49, 48]⟩ :: .int .i64 12 :: .string ⟨#[101, 120, 97, 109, 112, 108, 101, 32, 99, 111, 114, 112]⟩ :: .string ⟨#[50, 46, 53, 46, 52, 46, 49, 49]⟩ :: .int .i64 22 :: .string ⟨#[97, 44, 98, 43, 99, 61, 100, 92, 101]⟩ :: .string ⟨#[48, 46, 57, 46, 50, 51, 52, 50, 46, 49, 57, 50, 48, 48, 51, 48, 48, 46, 49, 48, 48, 46, 49, 46, 50, 53]⟩ :: .int .i64 22 :: .string ⟨#[111, 114, 103]⟩ :: .string ⟨#[49, 46, 50, 46, 56, 52, 48, 46, 49, 49, 51, 53, 52, 57, 46, 49, 46, 57, 46, 49]⟩ :: .int .i64 22 :: .string ⟨#[97, 110, 110, 64, 101, 120, 97, 109, 112, 108, 101, 46, 111, 114, 103]⟩ :: .string ⟨#[49, 46, 50, 46, 56, 52, 48, 46, 49, 49, 51, 53, 52, 57, 46, 49, 46, 57, 46, 49]⟩ :: .int .i64 22 :: .string ⟨#[110, 111, 32, 97, 100, 100, 114, 101, 115, 115]⟩ :: .string ⟨#[50, 46, 53, 46, 52, 46, 57, 57]⟩ :: .int .i64 19 :: .string ⟨#[120]⟩ :: .string ⟨#[50, 46, 53, 46, 52, 46, 55]⟩ :: .int .i64 12 :: .string ⟨#[76]⟩ :: [] : List Value) := rfl
theorem made_own (w : World) (B : Nat) (hB : B ≤ w.heap.size) : OwnA (w.alloc (.cells ((.string ⟨#[50, 46, 53, 46, 52, 46, 51]⟩ :: .int .i64 12 :: .string ⟨#[65, 110, 110]⟩ :: .string ⟨#[50, 46, 53, 46, 52, 46, 51]⟩ :: .int .i64 19 :: .string ⟨#[32, 97, 110, 110]⟩ :: .string ⟨#[50, 46, 53, 46, 52, 46, 51]⟩ :: .int .i64 12 :: .string ⟨#[103, 114, 195, 182, 195, 159, 101]⟩ :: .string ⟨#[50, 46, 53, 46, 52, 46, 54]⟩ :: .int .i64 19 :: .string ⟨#[85, 83]⟩ :: .string ⟨#[50, 46, 53, 46, 52, 46, 49, 48]⟩ :: .int .i64 19 :: .string ⟨#[69, 120, 97, 109, 112, 108, 101, 32, 32, 67, 111, 114, 112]⟩ :: .string ⟨#[50, 46, 53, 46, 52, 46, 49, 48]⟩ :: .int .i64 12 :: .string ⟨#[101, 120, 97, 109, 112, 108, 101, 32, 99, 111, 114, 112]⟩ :: .string ⟨#[50, 46, 53, 46, 52, 46, 49, 49]⟩ :: .int .i64 22 :: .string ⟨#[97, 44, 98, 43, 99, 61, 100, 92, 101]⟩ :: .string ⟨#[48, 46, 57, 46, 50, 51, 52, 50, 46, 49, 57, 50, 48, 48, 51, 48, 48, 46, 49, 48, 48, 46, 49, 46, 50, 53]⟩ :: .int .i64 22 :: .string ⟨#[111, 114, 103]⟩ :: .string ⟨#[49, 46, 50, 46, 56, 52, 48, 46, 49, 49, 51, 53, 52, 57, 46, 49, 46, 57, 46, 49]⟩ :: .int .i64 22 :: .string ⟨#[97, 110, 110, 64, 101, 120, 97, 109, 112, 108, 101, 46, 111, 114, 103]⟩ :: .string ⟨#[49, 46, 50, 46, 56, 52, 48, 46, 49, 49, 51, 53, 52, 57, 46, 49, 46, 57, 46, 49]⟩ :: .int .i64 22 :: .string ⟨#[110, 111, 32, 97, 100, 100, 114, 101, 115, 115]⟩ :: .string ⟨#[50, 46, 53, 46, 52, 46, 57, 57]⟩ :: .int .i64 19 :: .string ⟨#[120]⟩ :: .string ⟨#[50, 46, 53, 46, 52, 46, 55]⟩ :: .int .i64 12 :: .string ⟨#[76]⟩ :: [] : List Value).toArray) 27)) B (.slice (some ⟨w.heap.size, 0, none⟩) 12 12) madeL := by
  have h := World.ownsRow_lit (base := B) (e := 27) (size := 3) w ((.string ⟨#[50, 46, 53, 46, 52, 46, 51]⟩ :: .int .i64 12 :: .string ⟨#[65, 110, 110]⟩ :: .string ⟨#[50, 46, 53, 46, 52, 46, 51]⟩ :: .int .i64 19 :: .string ⟨#[32, 97, 110, 110]⟩ :: .string ⟨#[50, 46, 53, 46, 52, 46, 51]⟩ :: .int .i64 12 :: .string ⟨#[103, 114, 195, 182, 195, 159, 101]⟩ :: .string ⟨#[50, 46, 53, 46, 52, 46, 54]⟩ :: .int .i64 19 :: .string ⟨#[85, 83]⟩ :: .string ⟨#[50, 46, 53, 46, 52, 46, 49, 48]⟩ :: .int .i64 19 :: .string ⟨#[69, 120, 97, 109, 112, 108, 101, 32, 32, 67, 111, 114, 112]⟩ :: .string ⟨#[50, 46, 53, 46, 52, 46, 49, 48]⟩ :: .int .i64 12 :: .string ⟨#[101, 120, 97, 109, 112, 108, 101, 32, 99, 111, 114, 112]⟩ :: .string ⟨#[50, 46, 53, 46, 52, 46, 49, 49]⟩ :: .int .i64 22 :: .string ⟨#[97, 44, 98, 43, 99, 61, 100, 92, 101]⟩ :: .string ⟨#[48, 46, 57, 46, 50, 51, 52, 50, 46, 49, 57, 50, 48, 48, 51, 48, 48, 46, 49, 48, 48, 46, 49, 46, 50, 53]⟩ :: .int .i64 22 :: .string ⟨#[111, 114, 103]⟩ :: .string ⟨#[49, 46, 50, 46, 56, 52, 48, 46, 49, 49, 51, 53, 52, 57, 46, 49, 46, 57, 46, 49]⟩ :: .int .i64 22 :: .string ⟨#[97, 110, 110, 64, 101, 120, 97, 109, 112, 108, 101, 46, 111, 114, 103]⟩ :: .string ⟨#[49, 46, 50, 46, 56, 52, 48, 46, 49, 49, 51, 53, 52, 57, 46, 49, 46, 57, 46, 49]⟩ :: .int .i64 22 :: .string ⟨#[110, 111, 32, 97, 100, 100, 114, 101, 115, 115]⟩ :: .string ⟨#[50, 46, 53, 46, 52, 46, 57, 57]⟩ :: .int .i64 19 :: .string ⟨#[120]⟩ :: .string ⟨#[50, 46, 53, 46, 52, 46, 55]⟩ :: .int .i64 12 :: .string ⟨#[76]⟩ :: [] : List Value).toArray) 12 hB (by unfold maxLen; omega) rfl
  unfold OwnA
  rw [made_cells]
  exact h
theorem atRes1 {fn : Func} {p : Tmp} (h : fn.results = #[.cell p 27]) (tmps : Array Value) (w w0 : World) (x y z : Value)
    (hp : tmps.getD p undef = .pointer (some ⟨w0.heap.size, 0, none⟩)) (hg : w.heap[w0.heap.size]? = some (.cells #[x, y, z] 27 (0, 0))) :
    (results fn tmps).run Tryz.prog w = .ok (.agg #[x, y, z]) w :=
  results_cell_row h tmps w w0.heap.size 27 #[x, y, z] (0, 0) _ hp hg Tryz.underlying27 rfl atSize

theorem belowTwo' (w : World) (o p : Obj) : Below w.heap.size w ((w.alloc o).alloc p) := below_next (belowNew w o) (belowNew _ p)
theorem But.fresh {p g : Nat} {a b c : World} (h : But p a b) (k : But g b c) (hg : a.heap.size ≤ g) : But p a c := World.grownBy.andThen h k (fun j e => .inl (by obtain rfl := Option.some.inj e; exact hg))
theorem cell_same {w w' : World} {b : Nat} (h : w'.heap[b]? = w.heap[b]?) (o : Nat) : w'.cell? ⟨b, o, none⟩ = w.cell? ⟨b, o, none⟩ := by
  simp only [World.cell?, h]
set_option maxRecDepth 100000 in
set_option maxHeartbeats 4000000 in
theorem attr_any (p : Nat) (a : Option Addr) (cap : Nat) (zs : List Int) (k : Nat) (w : World) (h : DeckAt w p a cap zs k) (hk : k < 1000) :
    Calls Tryz.prog 31 #[.pointer (some ⟨p, 0, none⟩)] w fun e w' => ∃ r k' : Nat, r < 12 ∧ e = .returned (atV (madeL.getD r noAt)) ∧ DeckAt w' p a cap zs k' ∧ k' ≤ k + 1 ∧ But p w w' := by
  obtain ⟨W1, hW1⟩ : ∃ W1, W1 = w.alloc (.cells #[.string ⟨#[]⟩, .int .i64 0, .string ⟨#[]⟩] 27) := ⟨_, rfl⟩
  obtain ⟨W2, hW2⟩ : ∃ W2, W2 = W1.alloc (.cells ((.string ⟨#[50, 46, 53, 46, 52, 46, 51]⟩ :: .int .i64 12 :: .string ⟨#[65, 110, 110]⟩ :: .string ⟨#[50, 46, 53, 46, 52, 46, 51]⟩ :: .int .i64 19 :: .string ⟨#[32, 97, 110, 110]⟩ :: .string ⟨#[50, 46, 53, 46, 52, 46, 51]⟩ :: .int .i64 12 :: .string ⟨#[103, 114, 195, 182, 195, 159, 101]⟩ :: .string ⟨#[50, 46, 53, 46, 52, 46, 54]⟩ :: .int .i64 19 :: .string ⟨#[85, 83]⟩ :: .string ⟨#[50, 46, 53, 46, 52, 46, 49, 48]⟩ :: .int .i64 19 :: .string ⟨#[69, 120, 97, 109, 112, 108, 101, 32, 32, 67, 111, 114, 112]⟩ :: .string ⟨#[50, 46, 53, 46, 52, 46, 49, 48]⟩ :: .int .i64 12 :: .string ⟨#[101, 120, 97, 109, 112, 108, 101, 32, 99, 111, 114, 112]⟩ :: .string ⟨#[50, 46, 53, 46, 52, 46, 49, 49]⟩ :: .int .i64 22 :: .string ⟨#[97, 44, 98, 43, 99, 61, 100, 92, 101]⟩ :: .string ⟨#[48, 46, 57, 46, 50, 51, 52, 50, 46, 49, 57, 50, 48, 48, 51, 48, 48, 46, 49, 48, 48, 46, 49, 46, 50, 53]⟩ :: .int .i64 22 :: .string ⟨#[111, 114, 103]⟩ :: .string ⟨#[49, 46, 50, 46, 56, 52, 48, 46, 49, 49, 51, 53, 52, 57, 46, 49, 46, 57, 46, 49]⟩ :: .int .i64 22 :: .string ⟨#[97, 110, 110, 64, 101, 120, 97, 109, 112, 108, 101, 46, 111, 114, 103]⟩ :: .string ⟨#[49, 46, 50, 46, 56, 52, 48, 46, 49, 49, 51, 53, 52, 57, 46, 49, 46, 57, 46, 49]⟩ :: .int .i64 22 :: .string ⟨#[110, 111, 32, 97, 100, 100, 114, 101, 115, 115]⟩ :: .string ⟨#[50, 46, 53, 46, 52, 46, 57, 57]⟩ :: .int .i64 19 :: .string ⟨#[120]⟩ :: .string ⟨#[50, 46, 53, 46, 52, 46, 55]⟩ :: .int .i64 12 :: .string ⟨#[76]⟩ :: [] : List Value).toArray) 27) := ⟨_, rfl⟩
  have hz : W1.heap.size = w.heap.size + 1 := by rw [hW1]; simp
  have hb : Below w.heap.size w W2 := by rw [hW2, hW1]; exact belowTwo' w _ _
  have hl : ALies W2 (some ⟨w.heap.size + 1, 0, none⟩) madeL := by
    obtain ⟨a1, c1, e1, _, e2⟩ := (made_own W1 0 (Nat.zero_le _)).lies
    rw [hz] at e1
    obtain ⟨rfl, _⟩ : some ⟨w.heap.size + 1, 0, none⟩ = a1 ∧ 12 = c1 := by simpa [madeL] using e1
    rw [hW2]; exact e2
  have hc : W2.heap[w.heap.size]? = some (.cells #[.string ⟨#[]⟩, .int .i64 0, .string ⟨#[]⟩] 27 (0, 0)) := by
    rw [hW2]
    refine ((belowNew W1 _).block _ (by rw [hz]; omega)).trans ?_
    rw [hW1]; exact heap_alloc_new w _
  have hp := h.lt
  have HN := Lib.hid (next_any p a cap zs k 12 W2 (h.below hb) hk (by omega) (by omega))
  have HL := Lib.hid hl
  have HC := Lib.hid hc
  have HB := Lib.hid hb
  rw [hW2, hW1, show ((12 : Nat) : Int) = (12 : Int) from rfl] at HN
  have HW := Lib.hid hW2
  rw [hW1] at HW
  clear h hl hc hb hz hW2 hW1
  go_enter Tryz.func31, Tryz.ntmps31
  go_wp2_with (go_at_call 12; (with_reducible refine HN.out.mono ?_); rintro e w3 ⟨r, k', hr, rfl, hd, hk', hb3⟩; rw [← HW.out] at hb3; have hc3 := (hb3.block w.heap.size (Array.getElem?_eq_some_iff.1 HC.out).1 (by simp; omega)).trans HC.out; obtain ⟨b, o, e0, _, q0, q1, q2⟩ := HL.out.at r hr; obtain ⟨rfl, rfl⟩ : w.heap.size + 1 = b ∧ 0 = o := (by simpa using e0); rw [Nat.zero_add] at q0 q1 q2; have g0 := (hb3.block _ (block_lt q0) (by simp; omega)); have d0 := (cell_same g0 _).trans q0; have d1 := (cell_same g0 _).trans q1; have d2 := (cell_same g0 _).trans q2; obtain ⟨c0, c1, c2, f0, f1, f2, hlt⟩ := at_facts hc3; generalize hE : madeL.getD r noAt = E at d0 d1 d2; have HE := Lib.hid hE; have HD := Lib.hid hd; have HK := Lib.hid hk'; have HB3 := Lib.hid hb3; have HC3 := Lib.hid hc3; have HR := Lib.hid hr; clear hE hd hk' hb3 hc3 q0 q1 q2 e0 g0)
  have hs := ((But.set w.heap.size 0 w3 (.string E.1)).next (But.set w.heap.size 1 _ (.int .i64 E.2.1))).next (But.set w.heap.size 2 _ (.string E.2.2))
  exact bodyPost_ret (atRes1 rfl _ _ w _ _ _ rfl (at_set HC3.out)) rfl ⟨r, k', HR.out, by rw [HE.out]; rfl, HD.out.grown hs (fun j e => by obtain rfl := Option.some.inj e; exact hp), HK.out, ((But.of HB.out).next HB3.out).fresh hs (Nat.le_refl _)⟩
end Go.Proofs.YtfpfgdbfigdooaaGreatDoor
namespace Go.Proofs.YtfpfgdbfigdooaaGreatDoor
open Go.RowKit Go.Maps

theorem laidOut : laidOutB Tryz.prog = true := by kernel_rfl
theorem fLaw : Keyed Tryz.prog 113 := Keyed.of_law (deep_law_laid laidOut (m := 2) (by omega) (by decide +kernel) (by kernel_rfl) (by kernel_rfl))
/-- A pair as a value and as a key. -/
def fV (p : ByteArray × ByteArray) : Value := .agg #[.string p.1, .string p.2]
def fK (p : ByteArray × ByteArray) : Lit := .string (keyBytes [.string p.1.data.toList, .string p.2.data.toList])
theorem fLits (d : Nat) (a b : ByteArray) (h1 : a.size ≤ maxLen) (h2 : b.size ≤ maxLen) : Tryz.prog.keyLits (d + 2) 113 [.string a, .string b] = some [.string a.data.toList, .string b.data.toList] := by
  have c1 : Tryz.prog.cellsOf 9 = 1 := by kernel_rfl
  have c2 : Tryz.prog.cellsOf 113 = 2 := by kernel_rfl
  simp [Program.keyLits, Tryz.underlying113, Tryz.underlying9, c1, c2, h1, h2]
theorem fKey (p : ByteArray × ByteArray) (h1 : p.1.size ≤ maxLen) (h2 : p.2.size ≤ maxLen) : keyOf Tryz.prog 113 (fV p) = some (fK p) := by
  have hk : Tryz.prog.keyType 113 = true := by kernel_rfl
  have c2 : Tryz.prog.cellsOf 113 = 2 := by kernel_rfl
  have hf : (fV p).formed Tryz.prog 113 = true := by simp [Value.formed, fV, Tryz.underlying113, c2]
  have hsz : 1 < Tryz.prog.types.size := by decide +kernel
  obtain ⟨d, hd⟩ : ∃ d, Tryz.prog.types.size + 1 = d + 2 := ⟨Tryz.prog.types.size - 1, by omega⟩
  unfold keyOf
  rw [Tryz.underlying113]
  show (if (Tryz.prog.keyType 113 && (fV p).formed Tryz.prog 113) = true then (Tryz.prog.keyLits (Tryz.prog.types.size + 1) 113 (fV p).cells.toList).map (fun ls => Lit.string (keyBytes ls)) else none) = _
  rw [if_pos (by rw [hk, hf]; rfl), hd]
  show ((Tryz.prog.keyLits (d + 2) 113 [.string p.1, .string p.2]).map (fun ls => Lit.string (keyBytes ls))) = _
  rw [fLits d _ _ h1 h2]
  rfl
def sU {H : Type} : DataW H := .lit (.bool true)
/-- What foldedSet's map reads as. -/
def setD {H : Type} (l : List At) : DataW H := setOf sU (l.map fun a => fK (fa a))
noncomputable def Rb : Value → Option (DataW Unit × List MemPlace) := plainElem Tryz.prog 4
theorem rb_true : Rb (.bool true) = some (sU, []) := by
  show plainElem Tryz.prog 4 (.bool true) = _
  unfold plainElem
  rw [Tryz.underlying4]; rfl
theorem setD_snoc (l : List At) (a : At) : setD (H := Unit) (l ++ [a]) = (setD l).put (fK (fa a)) sU := by
  unfold setD
  rw [List.map_append, List.map_singleton, setOf_snoc]

theorem make_hint (n : Int) (w : World) : (Instr.makeMap 111 (some (.int .i64 n))).run Tryz.prog w = .ok (.map (some w.heap.size)) (w.alloc (.map #[] 0)) := by
  simp [Instr.makeMap, run_underlying Tryz.underlying111, asInt, asIntOf, Result.andThen]
/-- One key more. -/
theorem set_more {W : World} {B k : Nat} {D : DataW Unit} (h : W.ownsMap Tryz.prog 113 Rb B k D) (hk : k ≤ 1000000) (t f : ByteArray) (h1 : t.size ≤ 1000000) (h2 : f.size ≤ 1000000) :
    ∃ w2, (Instr.mapUpdate 111 (.map (some B)) (.agg #[.string t, .string f]) (.bool true)).run Tryz.prog W = .ok () w2 ∧ w2.ownsMap Tryz.prog 113 Rb B (k + 1) (D.put (fK (t, f)) sU) ∧ W.grownBy w2 (some B) :=
  h.update fLaw Tryz.underlying111 (by unfold maxLen; omega) (fKey (t, f) (by show t.size ≤ _; unfold maxLen; omega) (by show f.size ≤ _; unfold maxLen; omega)) rb_true
set_option maxRecDepth 100000 in
set_option maxHeartbeats 4000000 in
theorem fset_any (a0 : Option Addr) (c n : Nat) (l : List At) (w : World) (h : ALies w a0 l) (hn : n = l.length) (hs : SmallR l) :
    Calls Tryz.prog 90 #[.slice a0 n c] w fun e w' => e = .returned (.map (some w.heap.size)) ∧ w'.ownsMap Tryz.prog 113 Rb w.heap.size n (setD l) ∧ Below w.heap.size w w' := by
  have hL : n ≤ 1000000 := by rw [hn]; exact hs.1
  have H1 := Lib.hid h
  have HN := Lib.hid hn
  have HS := Lib.hid hs
  have hmm := make_hint
  clear h hn hs
  go_enter Tryz.func90, Tryz.ntmps90
  go_wp2_with fail
  go_loopw [11] (fun i wr => ∃ k : Nat, k ≤ n ∧ i = .int .i64 k ∧ wr.ownsMap Tryz.prog 113 Rb w.heap.size k (setD (l.take k)) ∧ Below w.heap.size w wr) (fun i _ => n - (intOf i).toNat)
  case atStart => exact ⟨0, Nat.zero_le _, rfl, World.ownsMap_made _ _ _ _, belowNew w _⟩
  case round =>
    obtain ⟨k, hk, rfl, hA, hb⟩ := hrel
    have HB := Lib.hid hb
    have HA := Lib.hid hA
    clear hb hA
    by_cases hlt : k < n
    · have hd : decide ((k : Int) < (n : Int)) = true := by simp; omega
      obtain ⟨b, o, rfl, hb, c0, c1, c2⟩ := H1.out.at k (by rw [← HN.out]; exact hlt)
      have a0 : wr.cell? ⟨b, o + k * 3, none⟩ = _ := (HB.out.cell (p := ⟨b, o + k * 3, none⟩) hb).trans c0
      have a1 : wr.cell? ⟨b, o + k * 3 + 1, none⟩ = _ := (HB.out.cell (p := ⟨b, o + k * 3 + 1, none⟩) hb).trans c1
      have a2 : wr.cell? ⟨b, o + k * 3 + 2, none⟩ = _ := (HB.out.cell (p := ⟨b, o + k * 3 + 2, none⟩) hb).trans c2
      have HT := Lib.hid (takeD l k (by rw [← HN.out]; exact hlt) noAt)
      have hsm := HS.out.2 k (by rw [← HN.out]; exact hlt)
      generalize l.getD k noAt = y at a0 a1 a2 HT hsm
      obtain ⟨t, kd, v⟩ := y
      have HM1 := Lib.hid hsm.1
      have HM2 := Lib.hid hsm.2
      clear c0 c1 c2 hb hsm
      go_wp2_with fail
      obtain ⟨f, hf⟩ : ∃ f, f = foldS v := ⟨_, rfl⟩
      have HFZ := Lib.hid (show f.size ≤ 1000000 by rw [hf]; exact Nat.le_trans (foldS_size v) HM2.out)
      have HTZ := Lib.hid (show t.size ≤ 1000000 from HM1.out)
      have HKZ := Lib.hid (show k ≤ 1000000 by omega)
      have HFO := Lib.hid (fun W => foldS_any v W (Nat.le_trans (show v.size ≤ 1000000 from HM2.out) (by omega)))
      rw [← hf] at HFO
      have HST := Lib.hid (show setD (H := Unit) (l.take (k + 1)) = (setD (l.take k)).put (fK (t, f)) sU by rw [HT.out, setD_snoc, hf]; rfl)
      have HBA := Lib.hid (show Below w.heap.size w (wr.alloc (.cells #[.string t, .int .i64 kd, .string v] 27)) from below_next HB.out (belowNew wr _))
      have HUP := Lib.hid (fun W1 (hb1 : Below (wr.alloc (.cells #[.string t, .int .i64 kd, .string v] 27)).drew.heap.size (wr.alloc (.cells #[.string t, .int .i64 kd, .string v] 27)).drew W1) => set_more (((HA.out.alloc (.cells #[.string t, .int .i64 kd, .string v] 27)).drew).kept (Below.only hb1) (by simp)) HKZ.out t f HTZ.out HFZ.out)
      have HG0 := Lib.hid (fun W1 (hb1 : Below (wr.alloc (.cells #[.string t, .int .i64 kd, .string v] 27)).drew.heap.size (wr.alloc (.cells #[.string t, .int .i64 kd, .string v] 27)).drew W1) => (hb1.cell (p := ⟨wr.heap.size, 0, none⟩) (block_lt (box_cell wr (.string t) (.int .i64 kd) (.string v) 27))).trans (box_cell wr (.string t) (.int .i64 kd) (.string v) 27))
      clear hf
      go_region_with (go_at_call 50; (with_reducible refine (HFO.out _).mono ?_); rintro e w1 ⟨rfl, hb1⟩; obtain ⟨w2, hrun, hown2, hg2⟩ := HUP.out _ hb1; have g0 := HG0.out _ hb1; have HB1 := Lib.hid (below_next HBA.out.drew hb1); have HO := Lib.hid hown2; have HG := Lib.hid hg2; clear hb1 hown2 hg2)
      all_goals
        go_wp2_with fail
        go_roundw
        case rel => exact ⟨k + 1, by omega, by go_num, by rw [HST.out]; exact HO.out, HB1.out.grown HG.out HB1.out.size (fun j e => by cases e; exact Nat.le_refl _)⟩
        case measure => simp [intOf]; omega
    · have hd : decide ((k : Int) < (n : Int)) = false := by simp; omega
      have HF := Lib.hid (show l.take k = l by rw [List.take_of_length_le (by rw [← HN.out]; omega)])
      go_wp2_with fail
      go_ret
      exact ⟨rfl, by have := HA.out; rw [HF.out] at this; exact this.mono hk, HB.out⟩
end Go.Proofs.YtfpfgdbfigdooaaGreatDoor
