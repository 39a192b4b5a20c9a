/-
  The contract of the law package's sanity check: the two examples of the chapter hold.
-/
import Derived.Test.YtoickijglahipaaDoorHsum
import Derived.Test.YtoickijglahipaaDoorHex
namespace Go.Proofs.YtoickijglahipaaDoor
open Go.RowKit

theorem _root_.Go.RowKit.Below.next {a w w' : World} (h : Below a.heap.size a w) (k : Below w.heap.size w w') : Below a.heap.size a w' := h.trans (k.mono h.size)

def hexStr (s : ByteArray) : ByteArray := ⟨(hexL s.data.toList).toArray⟩
theorem hexStr_any (s : ByteArray) (w : World) (hn : s.size ≤ 1099511627776) :
    Calls Tryd.prog 14 #[.string s] w fun e w' => e = .returned (.string (hexStr s)) ∧ Below w.heap.size w w' := hex_any s w hn
theorem hsumStr_any (v : Value) (ss : List ByteArray) (w : World) (hv : Reads w v ss) (hn : ss.length < 4611686018427387904) (hK : Holds w 0 kWords) (hm : (cat ss).length < 2305843009213693952) :
    Calls Tryd.prog 10 #[v] w fun e w' => e = .returned (.string (shaStr (cat ss))) ∧ Below w.heap.size w w' := hsum_any v ss w hv hn hK hm
theorem reads_nil (w : World) : Reads w (.slice none 0 0) [] := ⟨none, 0, rfl, Or.inl rfl⟩
theorem reads_row (W : World) (ss : List ByteArray) (E : TypeId) : Reads (W.alloc (.cells (ss.map Value.string).toArray E)) (.slice (some ⟨W.heap.size, 0, none⟩) ss.length ss.length) ss :=
  ⟨_, _, rfl, Or.inr ⟨W.heap.size, 0, rfl, fun i hi => by
    rw [Nat.zero_add, cell_of_row _ _ _ _ _ _ (heap_alloc_new W _)]
    simp [hi]⟩⟩
def exEmpty : ByteArray := shaStr []
def exAbc : ByteArray := shortStr [97, 98, 99]
set_option maxRecDepth 100000 in
theorem ex1 : ((hexStr exEmpty).data.toList == [101, 51, 98, 48, 99, 52, 52, 50, 57, 56, 102, 99, 49, 99, 49, 52, 57, 97, 102, 98, 102, 52, 99, 56, 57, 57, 54, 102, 98, 57, 50, 52, 50, 55, 97, 101, 52, 49, 101, 52, 54, 52, 57, 98, 57, 51, 52, 99, 97, 52, 57, 53, 57, 57, 49, 98, 55, 56, 53, 50, 98, 56, 53, 53]) = true := by kernel_rfl
set_option maxRecDepth 100000 in
theorem ex2 : ((hexStr exAbc).data.toList == [98, 97, 55, 56, 49, 54, 98, 102, 56, 102, 48, 49, 99, 102, 101, 97, 52, 49, 52, 49, 52, 48, 100, 101, 53, 100, 97, 101, 50, 50, 50, 51]) = true := by kernel_rfl

set_option maxRecDepth 100000 in
set_option maxHeartbeats 1000000 in
theorem awake_any (w : World) (hK : Holds w 0 kWords) :
    Calls Tryd.prog 9 #[] w fun e w' => e = .returned (.bool true) ∧ Below w.heap.size w w' := by
  have h1 : ((hexStr exEmpty).toList == [101, 51, 98, 48, 99, 52, 52, 50, 57, 56, 102, 99, 49, 99, 49, 52, 57, 97, 102, 98, 102, 52, 99, 56, 57, 57, 54, 102, 98, 57, 50, 52, 50, 55, 97, 101, 52, 49, 101, 52, 54, 52, 57, 98, 57, 51, 52, 99, 97, 52, 57, 53, 57, 57, 49, 98, 55, 56, 53, 50, 98, 56, 53, 53]) = true := by rw [Lib.toList_data]; exact ex1
  have h2 : ((hexStr exAbc).toList == [98, 97, 55, 56, 49, 54, 98, 102, 56, 102, 48, 49, 99, 102, 101, 97, 52, 49, 52, 49, 52, 48, 100, 101, 53, 100, 97, 101, 50, 50, 50, 51]) = true := by rw [Lib.toList_data]; exact ex2
  have s1 : exEmpty.size = 32 := shaStr_size _
  have s2 : exAbc.size ≤ 1099511627776 := by
    show ((sha [97, 98, 99]).take 16).toArray.size ≤ _
    rw [List.size_toArray, List.length_take]; omega
  have HK := Lib.hid hK
  have S1 := Lib.hid s1
  have S2 := Lib.hid s2
  clear hK s1 s2
  go_enter Tryd.func9, Tryd.ntmps9
  go_wp2_with (first | (go_at_call 10; refine (hsumStr_any _ [] _ (reads_nil _) (by decide) HK.out (by decide)).mono ?_; rintro e w1 ⟨he, hb1⟩; obtain rfl : e = .returned (.string exEmpty) := he; have HB1 := Lib.hid hb1; clear hb1) | (go_at_call 14; (with_reducible refine (hexStr_any exEmpty _ (by rw [S1.out]; omega)).mono ?_); rintro e w2 ⟨rfl, hb2⟩; have HB2 := Lib.hid hb2; clear hb2) | (go_at_call 12; refine (short_any _ [⟨#[97]⟩, ⟨#[98, 99]⟩] _ (reads_row _ [⟨#[97]⟩, ⟨#[98, 99]⟩] 9) (by decide) (((HK.out.old HB1.out).old HB2.out).old ((Below.refl _ _).alloc (Nat.le_refl _) _)) (by decide)).mono ?_; rintro e w3 ⟨he, hb3⟩; obtain rfl : e = .returned (.string exAbc) := he; have HB3 := Lib.hid hb3; clear hb3) | (go_at_call 14; (with_reducible refine (hexStr_any exAbc _ S2.out).mono ?_); rintro e w4 ⟨rfl, hb4⟩; have HB4 := Lib.hid hb4; clear hb4))
  go_ret
  exact ⟨rfl, (((HB1.out.next HB2.out).alloc (HB1.out.next HB2.out).size _).next HB3.out).next HB4.out⟩
end Go.Proofs.YtoickijglahipaaDoor
