/-
  What a text denotes as a name, as a function of the text; the contracts of kindOf and parseAttribute.
-/
import Derived.Test.YtfpfgdbfigdooaaDoorNtyp
import Derived.Test.YtfpfgdbfigdooaaDoorNcut
import Derived.Test.YtfpfgdbfigdooaaDoorXunesc
namespace Go.Proofs.YtfpfgdbfigdooaaDoor
open Go.RowKit

def idDC : ByteArray := ⟨#[48, 46, 57, 46, 50, 51, 52, 50, 46, 49, 57, 50, 48, 48, 51, 48, 48, 46, 49, 48, 48, 46, 49, 46, 50, 53]⟩
def idE : ByteArray := ⟨#[49, 46, 50, 46, 56, 52, 48, 46, 49, 49, 51, 53, 52, 57, 46, 49, 46, 57, 46, 49]⟩
def kindV (id v : ByteArray) : Int := if id = idDC then 22 else if id = idE then 22 else if validB 19 v.data.toList = true then 19 else 12
theorem beq_lit (x : ByteArray) (l : List UInt8) : (x.toList == l) = decide (x = strOf l) := by
  have e : l = (strOf l).toList := by rw [toList_eq_list]; rfl
  conv => lhs; rw [e]
  exact beq_str x (strOf l)
/-- The string whose escaped form a text is. -/
noncomputable def uneO (s : List UInt8) : Option ByteArray := @dite _ (∃ l, escL l = s) (Classical.propDecidable _) (fun h => some (strOf h.choose)) (fun _ => none)
theorem une_some {s : List UInt8} {u : ByteArray} (h : escL u.data.toList = s) : uneO s = some u := by
  have hx : ∃ l, escL l = s := ⟨_, h⟩
  unfold uneO
  rw [dif_pos hx]
  congr 1
  apply list_inj
  rw [strOf_list]
  exact escL_inj (hx.choose_spec.trans h.symm)
theorem une_none' {s : List UInt8} (h : ∀ l, escL l ≠ s) : uneO s = none := by
  unfold uneO
  rw [dif_neg (fun ⟨l, e⟩ => h l e)]
theorem une_of {s : List UInt8} {u : ByteArray} {ok : Bool} (h : Une s u ok) : (ok = true ∧ uneO s = some u) ∨ (ok = false ∧ u = ⟨#[]⟩ ∧ uneO s = none) := by
  rcases h with ⟨h1, h2⟩ | ⟨h1, h2, h3⟩
  · exact .inl ⟨h1, une_some h2⟩
  · exact .inr ⟨h1, h2, une_none' h3⟩
theorem uneO_size {s : List UInt8} {u : ByteArray} (h : uneO s = some u) : u.size ≤ s.length := by
  by_cases hx : ∃ l, escL l = s
  · obtain ⟨l, rfl⟩ := hx
    rw [une_some (u := strOf l) (by rw [strOf_list])] at h
    obtain rfl := Option.some.inj h
    rw [strOf_size]
    exact escL_ge l
  · rw [une_none' (fun l e => hx ⟨l, e⟩)] at h; cases h
/-- The attribute that a text denotes. -/
noncomputable def prsA (x : ByteArray) : Option At :=
  if Lib.indexByte x.data.toList 61 = -1 then none
  else match typ (x.extract 0 (Lib.indexByte x.data.toList 61).toNat), uneO (x.extract ((Lib.indexByte x.data.toList 61).toNat + 1) x.size).data.toList with
    | (id, true), some v => some (id, kindV id v, v)
    | _, _ => none
def atO (o : Option At) : Value := match o with | some a => .tuple #[atV a, .bool true] | none => .tuple #[.agg #[.string ⟨#[]⟩, .int .i64 0, .string ⟨#[]⟩], .bool false]

set_option maxRecDepth 100000 in
set_option maxHeartbeats 1000000 in
theorem kind_any (id v : ByteArray) (w : World) (hv : v.size ≤ 1000000) (hT : Tab w) :
    Calls Tryd.prog 74 #[.string id, .string v] w fun e w' => e = .returned (.int .i64 (kindV id v)) ∧ Below w.heap.size w w' := by
  have HE1 := Lib.hid (beq_lit id [48, 46, 57, 46, 50, 51, 52, 50, 46, 49, 57, 50, 48, 48, 51, 48, 48, 46, 49, 48, 48, 46, 49, 46, 50, 53])
  have HE2 := Lib.hid (beq_lit id [49, 46, 50, 46, 56, 52, 48, 46, 49, 49, 51, 53, 52, 57, 46, 49, 46, 57, 46, 49])
  have HV := Lib.hid (tval_any 19 v w (by omega) hT)
  clear hT hv
  by_cases h1 : id = idDC
  · have hq1 : (id.toList == ([48, 46, 57, 46, 50, 51, 52, 50, 46, 49, 57, 50, 48, 48, 51, 48, 48, 46, 49, 48, 48, 46, 49, 46, 50, 53] : List UInt8)) = true := by rw [HE1.out]; exact decide_eq_true h1
    have e : kindV id v = 22 := if_pos h1
    rw [e]
    clear e h1
    go_enter Tryd.func74, Tryd.ntmps74
    go_wp2_with fail
    go_ret
    exact ⟨rfl, Below.refl _ _⟩
  have hq1 : (id.toList == ([48, 46, 57, 46, 50, 51, 52, 50, 46, 49, 57, 50, 48, 48, 51, 48, 48, 46, 49, 48, 48, 46, 49, 46, 50, 53] : List UInt8)) = false := by rw [HE1.out]; exact decide_eq_false h1
  by_cases h2 : id = idE
  · have hq2 : (id.toList == ([49, 46, 50, 46, 56, 52, 48, 46, 49, 49, 51, 53, 52, 57, 46, 49, 46, 57, 46, 49] : List UInt8)) = true := by rw [HE2.out]; exact decide_eq_true h2
    have e : kindV id v = 22 := by unfold kindV; rw [if_neg h1, if_pos h2]
    rw [e]
    clear e h1 h2
    go_enter Tryd.func74, Tryd.ntmps74
    go_wp2_with fail
    go_ret
    exact ⟨rfl, Below.refl _ _⟩
  have hq2 : (id.toList == ([49, 46, 50, 46, 56, 52, 48, 46, 49, 49, 51, 53, 52, 57, 46, 49, 46, 57, 46, 49] : List UInt8)) = false := by rw [HE2.out]; exact decide_eq_false h2
  cases hb : validB 19 v.data.toList with
  | true =>
    have e : kindV id v = 19 := by unfold kindV; rw [if_neg h1, if_neg h2, if_pos hb]
    rw [e]
    rw [hb] at HV
    clear e h1 h2 hb
    go_enter Tryd.func74, Tryd.ntmps74
    go_wp2_with (go_at_call 50; (with_reducible refine HV.out.mono ?_); rintro e w1 ⟨rfl, hb⟩; have HB := Lib.hid hb; clear hb)
    go_ret
    exact ⟨rfl, HB.out⟩
  | false =>
    have e : kindV id v = 12 := by unfold kindV; rw [if_neg h1, if_neg h2, if_neg (by rw [hb]; decide)]
    rw [e]
    rw [hb] at HV
    clear e h1 h2 hb
    go_enter Tryd.func74, Tryd.ntmps74
    go_wp2_with (go_at_call 50; (with_reducible refine HV.out.mono ?_); rintro e w1 ⟨rfl, hb⟩; have HB := Lib.hid hb; clear hb)
    go_ret
    exact ⟨rfl, HB.out⟩
end Go.Proofs.YtfpfgdbfigdooaaDoor
