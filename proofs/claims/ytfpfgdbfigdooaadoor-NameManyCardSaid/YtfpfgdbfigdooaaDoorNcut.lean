/-
  The contracts of strings.Split and strings.Cut at a point of one byte, off the shelf.
-/
import Derived.Test.YtfpfgdbfigdooaaDoorNspl
import Derived.Test.YtfpfgdbfigdooaaDoorObase
import Derived.Lib.SplitLaws
import Derived.Lib.CutLaws
namespace Go.Proofs.YtfpfgdbfigdooaaDoor
open Go.RowKit

/-- The pieces of a text between the bytes c. -/
def pcsS (c : UInt8) (s : ByteArray) : List ByteArray := Lib.splitB ⟨#[c]⟩ 0 (Lib.countB s ⟨#[c]⟩) s
theorem pcsS_spl (c : UInt8) (s : ByteArray) : Spl c s.data.toList ((pcsS c s).map (·.data.toList)) := split_pieces c s
theorem pcsS_len (c : UInt8) (s : ByteArray) : (pcsS c s).length = Lib.countB s ⟨#[c]⟩ + 1 := Lib.splitB_all ⟨#[c]⟩ (by show 1 ≤ 1; omega) 0 _ s rfl
theorem index_byte (x : ByteArray) (c : UInt8) (w : World) :
    Calls Tryd.prog 83 #[.string x, .string ⟨#[c]⟩] w fun e w' => e = .returned (.int .i64 (Lib.indexByte x.data.toList c)) ∧ w' = w :=
  Any.stringslite_Index_one lays219 x c w
theorem sindex_byte (x : ByteArray) (c : UInt8) (w : World) :
    Calls Tryd.prog 70 #[.string x, .string ⟨#[c]⟩] w fun e w' => e = .returned (.int .i64 (Lib.indexB x ⟨#[c]⟩)) ∧ w' = w := by
  have c1 := Any.stringslite_Index_one lays219 x c w
  rw [← Lib.index_one] at c1
  go_enter Tryd.func70, Tryd.ntmps70
  go_wp2_with (go_at_call 83; refine c1.mono ?_; rintro e w' ⟨rfl, hw⟩; rw [hw])
  go_ret
  exact ⟨rfl, rfl⟩
theorem count_byte (x : ByteArray) (c : UInt8) (w : World) :
    Calls Tryd.prog 69 #[.string x, .string ⟨#[c]⟩] w fun e w' => e = .returned (.int .i64 (Lib.countB x ⟨#[c]⟩)) ∧ w' = w := by
  refine (Any.strings_Count_one lays138 x c w).mono fun e w' ⟨he, hw⟩ => ⟨?_, hw⟩
  rw [he]
  show _ = Ending.returned (Value.int .i64 ((Lib.count x.data.toList [c] : Nat) : Int))
  rw [Lib.count_one]
  rfl
theorem count_le (s : ByteArray) (c : UInt8) : Lib.countB s ⟨#[c]⟩ ≤ s.size := Lib.countB_le ⟨#[c]⟩ (by show 1 ≤ 1; omega) s.size s (Nat.le_refl _)
theorem gensplit_c (s : ByteArray) (c : UInt8) (w : World) (hs : s.size < 4294967281) :
    Calls Tryd.prog 54 #[.string s, .string ⟨#[c]⟩, .int .i64 0, .int .i64 (-1)] w fun e w' =>
      e = .returned (.slice (some ⟨w.heap.size, 0, none⟩) (pcsS c s).length (pcsS c s).length) ∧ w' = w.alloc (.cells ((pcsS c s).map Value.string).toArray 9) := by
  have hle := count_le s c
  have c1 := Any.strings_genSplit_core lays221 (by kernel_rfl) s ⟨#[c]⟩ 0 (-1) (Lib.countB s ⟨#[c]⟩ + 1) w hs (by show 1 ≤ 1; omega) (by omega)
    (fun x d _ => sindex_byte x c _) (count_byte s c w) (by decide) (by decide) (by rw [if_pos (by decide)]; omega)
  have e2 : Lib.cellsOf (pcsS c s) (Lib.countB s ⟨#[c]⟩ + 1) = ((pcsS c s).map Value.string).toArray := by rw [← pcsS_len]; exact Lib.cellsOf_full _
  rw [Nat.add_sub_cancel] at c1
  refine c1.mono fun e w' ⟨h1, h2⟩ => ⟨?_, ?_⟩
  · rw [h1]
    show Ending.returned (.slice _ (pcsS c s).length (Lib.countB s ⟨#[c]⟩ + 1)) = _
    rw [← pcsS_len]
  · rw [h2]
    show w.alloc (.cells (Lib.cellsOf (pcsS c s) (Lib.countB s ⟨#[c]⟩ + 1)) _) = _
    rw [e2]; rfl
theorem split_c (s : ByteArray) (c : UInt8) (w : World) (hs : s.size < 4294967281) :
    Calls Tryd.prog 40 #[.string s, .string ⟨#[c]⟩] w fun e w' =>
      e = .returned (.slice (some ⟨w.heap.size, 0, none⟩) (pcsS c s).length (pcsS c s).length) ∧ w' = w.alloc (.cells ((pcsS c s).map Value.string).toArray 9) := by
  have h := gensplit_c s c w hs
  go_enter Tryd.func40, Tryd.ntmps40
  go_wp2_with (go_at_call 54; refine h.mono ?_; rintro e w' ⟨rfl, hw⟩; rw [hw])
  go_ret
  exact ⟨rfl, rfl⟩
theorem pcs_cell (c : UInt8) (s : ByteArray) (W : World) (k : Nat) (hk : k < (pcsS c s).length) : (W.alloc (.cells ((pcsS c s).map Value.string).toArray 9)).cell? ⟨W.heap.size, k, none⟩ = some (.string ((pcsS c s).getD k ⟨#[]⟩)) := row_strs W _ k hk

set_option maxRecDepth 100000 in
set_option maxHeartbeats 1000000 in
theorem cut_hit (s : ByteArray) (c : UInt8) (i : Nat) (h : Lib.indexByte s.data.toList c = i) (hi : i < s.size) (hs : s.size ≤ 1000000) (w : World) :
    Calls Tryd.prog 84 #[.string s, .string ⟨#[c]⟩] w fun e w' => e = .returned (.tuple #[.string (s.extract 0 i), .string (s.extract (i + 1) s.size), .bool true]) ∧ Below w.heap.size w w' := by
  have hx := fun w => index_byte s c w
  rw [h] at hx
  have HX := Lib.hid hx
  have c1 : (0 : Int) ≤ (i : Int) := by omega
  have c2 : (i : Int) ≤ (s.size : Int) := by omega
  have c3 : (i : Int) + 1 ≤ (s.size : Int) := by omega
  have d0 : decide ((0 : Int) ≤ (i : Int)) = true := by simp
  clear hx h
  go_enter Tryd.func84, Tryd.ntmps84
  go_wp2_with (go_at_call 83; (with_reducible refine (HX.out _).mono ?_); rintro e w1 ⟨rfl, rfl⟩)
  go_region_o
  go_wp2
  go_ret3
  exact ⟨rfl, (Below.refl _ _).drew⟩
set_option maxRecDepth 100000 in
set_option maxHeartbeats 1000000 in
theorem cut_miss (s : ByteArray) (c : UInt8) (h : Lib.indexByte s.data.toList c = -1) (w : World) :
    Calls Tryd.prog 84 #[.string s, .string ⟨#[c]⟩] w fun e w' => e = .returned (.tuple #[.string s, .string ⟨#[]⟩, .bool false]) ∧ Below w.heap.size w w' := by
  have hx := fun w => index_byte s c w
  rw [h] at hx
  have HX := Lib.hid hx
  clear hx h
  go_enter Tryd.func84, Tryd.ntmps84
  go_wp2_with (go_at_call 83; (with_reducible refine (HX.out _).mono ?_); rintro e w1 ⟨rfl, rfl⟩)
  go_ret3
  exact ⟨rfl, Below.refl _ _⟩
/-- What Cut answers. -/
def cutV (s : ByteArray) (c : UInt8) : Value :=
  if Lib.indexByte s.data.toList c = -1 then .tuple #[.string s, .string ⟨#[]⟩, .bool false]
  else .tuple #[.string (s.extract 0 (Lib.indexByte s.data.toList c).toNat), .string (s.extract ((Lib.indexByte s.data.toList c).toNat + 1) s.size), .bool true]
set_option maxRecDepth 100000 in
theorem cut_any (s : ByteArray) (c : UInt8) (hs : s.size ≤ 1000000) (w : World) :
    Calls Tryd.prog 71 #[.string s, .string ⟨#[c]⟩] w fun e w' => e = .returned (cutV s c) ∧ Below w.heap.size w w' := by
  rcases index_cases s.data.toList c with ⟨h, _⟩ | ⟨i, h, hi⟩
  · have e : cutV s c = .tuple #[.string s, .string ⟨#[]⟩, .bool false] := if_pos h
    rw [e]
    have HC := Lib.hid (cut_miss s c h w)
    clear e h
    go_enter Tryd.func71, Tryd.ntmps71
    go_wp2_with (go_at_call 84; (with_reducible refine HC.out.mono ?_); rintro e w1 ⟨rfl, hb⟩; have HB := Lib.hid hb; clear hb)
    go_ret3
    exact ⟨rfl, HB.out⟩
  · have e : cutV s c = .tuple #[.string (s.extract 0 i), .string (s.extract (i + 1) s.size), .bool true] := by
      unfold cutV
      rw [h, if_neg (by omega)]
      rfl
    rw [e]
    have HC := Lib.hid (cut_hit s c i h hi hs w)
    clear e h
    go_enter Tryd.func71, Tryd.ntmps71
    go_wp2_with (go_at_call 84; (with_reducible refine HC.out.mono ?_); rintro e w1 ⟨rfl, hb⟩; have HB := Lib.hid hb; clear hb)
    go_ret3
    exact ⟨rfl, HB.out⟩
end Go.Proofs.YtfpfgdbfigdooaaDoor
