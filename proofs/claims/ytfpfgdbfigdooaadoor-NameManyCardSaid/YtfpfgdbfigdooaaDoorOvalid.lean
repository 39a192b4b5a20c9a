/-
  The contracts of oid.Valid and of the reference's ValidOID.
-/
import Derived.Test.YtfpfgdbfigdooaaDoorOrarcs
namespace Go.Proofs.YtfpfgdbfigdooaaDoor
open Go.RowKit

/-- What a call that found the numbers a answers. -/
def Found (a : List Nat) (B : Nat) (w' : World) (e : Ending) : Prop := ∃ g cap, e = .returned (.tuple #[.slice (some ⟨g, 0, none⟩) a.length cap, .bool true]) ∧ ILie w' g a ∧ B ≤ g ∧ a.length ≤ cap
theorem found_of {l : List UInt8} {a : List Nat} (h : Oid l a) {B : Nat} {w' : World} {e : Ending} (k : Arcsd l B w' e) : Found a B w' e := by
  rcases k with ⟨b, g, cap, h1, h2, h3, h4, h5⟩ | ⟨h1, _⟩
  · obtain rfl := oid_one h h1
    exact ⟨g, cap, h2, h3, h4, h5⟩
  · exact absurd h (h1 a)
theorem lost_of {l : List UInt8} (h : ∀ a, ¬ Oid l a) {B : Nat} {w' : World} {e : Ending} (k : Arcsd l B w' e) : e = .returned (.tuple #[.slice none 0 0, .bool false]) := by
  rcases k with ⟨b, g, cap, h1, _⟩ | ⟨_, h2⟩
  · exact absurd h1 (h b)
  · exact h2
theorem arcs_yes {s : ByteArray} {a : List Nat} (h : Oid s.data.toList a) (w : World) (hs : s.size ≤ 1099511627) :
    Calls Tryd.prog 59 #[.string s] w fun e w' => Found a w.heap.size w' e ∧ Below w.heap.size w w' :=
  (arcsOf_any s w hs).mono fun _ _ ⟨h1, h2⟩ => ⟨found_of h h1, h2⟩
theorem arcs_no {s : ByteArray} (h : ∀ a, ¬ Oid s.data.toList a) (w : World) (hs : s.size ≤ 1099511627) :
    Calls Tryd.prog 59 #[.string s] w fun e w' => e = .returned (.tuple #[.slice none 0 0, .bool false]) ∧ Below w.heap.size w w' :=
  (arcsOf_any s w hs).mono fun _ _ ⟨h1, h2⟩ => ⟨lost_of h h1, h2⟩
theorem rarcs_yes {s : ByteArray} {a : List Nat} (h : Oid s.data.toList a) (w : World) (hs : s.size ≤ 1099511627) :
    Calls Tryd.prog 44 #[.string s] w fun e w' => Found a w.heap.size w' e ∧ Below w.heap.size w w' :=
  (rarcs_any s w hs).mono fun _ _ ⟨h1, h2⟩ => ⟨found_of h h1, h2⟩
theorem rarcs_no {s : ByteArray} (h : ∀ a, ¬ Oid s.data.toList a) (w : World) (hs : s.size ≤ 1099511627) :
    Calls Tryd.prog 44 #[.string s] w fun e w' => e = .returned (.tuple #[.slice none 0 0, .bool false]) ∧ Below w.heap.size w w' :=
  (rarcs_any s w hs).mono fun _ _ ⟨h1, h2⟩ => ⟨lost_of h h1, h2⟩

theorem valid_yes {s : ByteArray} {a : List Nat} (h : Oid s.data.toList a) (w : World) (hs : s.size ≤ 1099511627) :
    Calls Tryd.prog 49 #[.string s] w fun e w' => e = .returned (.bool true) ∧ Below w.heap.size w w' := by
  go_enter Tryd.func49, Tryd.ntmps49
  go_wp2_with (go_at_call 59; (with_reducible refine (arcs_yes h _ hs).mono ?_); rintro e w1 ⟨⟨g, cap, rfl, hl, hg, hcp⟩, hb1⟩; have HB1 := Lib.hid hb1; clear hb1 hl hg hcp)
  go_ret
  exact ⟨rfl, HB1.out⟩
theorem valid_no {s : ByteArray} (h : ∀ a, ¬ Oid s.data.toList a) (w : World) (hs : s.size ≤ 1099511627) :
    Calls Tryd.prog 49 #[.string s] w fun e w' => e = .returned (.bool false) ∧ Below w.heap.size w w' := by
  have HH := Lib.hid h
  clear h
  go_enter Tryd.func49, Tryd.ntmps49
  go_wp2_with (go_at_call 59; (with_reducible refine (arcs_no HH.out _ hs).mono ?_); rintro e w1 ⟨rfl, hb1⟩; have HB1 := Lib.hid hb1; clear hb1)
  go_ret
  exact ⟨rfl, HB1.out⟩
theorem rvalid_yes {s : ByteArray} {a : List Nat} (h : Oid s.data.toList a) (w : World) (hs : s.size ≤ 1099511627) :
    Calls Tryd.prog 34 #[.string s] w fun e w' => e = .returned (.bool true) ∧ Below w.heap.size w w' := by
  go_enter Tryd.func34, Tryd.ntmps34
  go_wp2_with (go_at_call 44; (with_reducible refine (rarcs_yes h _ hs).mono ?_); rintro e w1 ⟨⟨g, cap, rfl, hl, hg, hcp⟩, hb1⟩; have HB1 := Lib.hid hb1; clear hb1 hl hg hcp)
  go_ret
  exact ⟨rfl, HB1.out⟩
theorem rvalid_no {s : ByteArray} (h : ∀ a, ¬ Oid s.data.toList a) (w : World) (hs : s.size ≤ 1099511627) :
    Calls Tryd.prog 34 #[.string s] w fun e w' => e = .returned (.bool false) ∧ Below w.heap.size w w' := by
  have HH := Lib.hid h
  clear h
  go_enter Tryd.func34, Tryd.ntmps34
  go_wp2_with (go_at_call 44; (with_reducible refine (rarcs_no HH.out _ hs).mono ?_); rintro e w1 ⟨rfl, hb1⟩; have HB1 := Lib.hid hb1; clear hb1)
  go_ret
  exact ⟨rfl, HB1.out⟩
/-- Whether a text is an object identifier. -/
theorem oid_or (l : List UInt8) : (∃ a, Oid l a) ∨ ∀ a, ¬ Oid l a := (Classical.em _).imp id fun h a k => h ⟨a, k⟩
theorem valid_any (s : ByteArray) (w : World) (hs : s.size ≤ 1099511627) :
    Calls Tryd.prog 49 #[.string s] w fun e w' => ∃ ok, e = .returned (.bool ok) ∧ (ok = true ∧ (∃ a, Oid s.data.toList a) ∨ ok = false ∧ ∀ a, ¬ Oid s.data.toList a) ∧ Below w.heap.size w w' := by
  rcases oid_or s.data.toList with ⟨a, h⟩ | h
  · exact (valid_yes h w hs).mono fun _ _ ⟨h1, h2⟩ => ⟨true, h1, .inl ⟨rfl, a, h⟩, h2⟩
  · exact (valid_no h w hs).mono fun _ _ ⟨h1, h2⟩ => ⟨false, h1, .inr ⟨rfl, h⟩, h2⟩
end Go.Proofs.YtfpfgdbfigdooaaDoor
