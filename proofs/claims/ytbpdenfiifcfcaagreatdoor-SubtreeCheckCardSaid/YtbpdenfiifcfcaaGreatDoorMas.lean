/-
  The contracts of slices.Clone, slices.Sort, strings.Join and strings.Compare at strings: the library's theorems, laid at the program's own numbers. Nothing is claimed of the program beyond its bodies.
  The contract of tlv.Order: the strings in ascending order, one after the other; nothing that was there before the call has changed.
  The contracts of tlv.Ascending and of the reference's Ascending: whether no element's Raw is less than the one before it.
-/
import Derived.Test.YtbpdenfiifcfcaaGreatDoorMaa
import Derived.Shelf.Strings.Builder1
import Derived.Shelf.Strings.Builder2
import Derived.Shelf.Strings.OnBuilder
import Derived.Shelf.Small.Strs
import Derived.Shelf.Sort.Plain
import Derived.Ground.Names2Prog
import Derived.Shelf.Slices.Clone
import Derived.Shelf.Slices.In.SortNone
import Derived.Sort.OwnSorted
import Derived.Test.YtbpdenfiifcfcaaGreatDoorChecked
import Derived.Test.YtbpdenfiifcfcaaGreatDoorMao
import Derived.Lib.Join
import Derived.Test.YtbpdenfiifcfcaaGreatDoorMaq
namespace Go.Proofs.YtbpdenfiifcfcaaGreatDoor
open Go.Shelf Go.RowKit

def lays190_ren : Go.Shelf.Ren := ⟨fun | 190 => 170 | 125 => 195 | 258 => 194 | 128 => 224 | 129 => 225 | 302 => 215 | 303 => 216 | 304 => 217 | 305 => 218 | 306 => 219 | 307 => 220 | 308 => 221 | 309 => 222 | 310 => 223 | 333 => 233 | 329 => 234 | 330 => 235 | 334 => 236 | 335 => 237 | 336 => 238 | 344 => 248 | n => n, fun | 31 => 46 | 9 => 9 | 3 => 3 | 46 => 127 | 0 => 0 | 51 => 232 | 53 => 234 | 4 => 4 | 183 => 226 | 182 => 225 | 131 => 113 | 5 => 5 | 218 => 243 | 222 => 247 | 228 => 254 | 229 => 255 | n => n, fun | n => n⟩
theorem lays190 : Go.Proofs.Lays.n190 Tryz.prog lays190_ren := {
  mixed := by kernel_rfl
  f125 := Tryz.func195.trans (congrArg some (by kernel_rfl))
  f128 := Tryz.func224.trans (congrArg some (by kernel_rfl))
  f129 := Tryz.func225.trans (congrArg some (by kernel_rfl))
  f190 := Tryz.func170.trans (congrArg some (by kernel_rfl))
  f258 := Tryz.func194.trans (congrArg some (by kernel_rfl))
  f302 := Tryz.func215.trans (congrArg some (by kernel_rfl))
  f303 := Tryz.func216.trans (congrArg some (by kernel_rfl))
  f304 := Tryz.func217.trans (congrArg some (by kernel_rfl))
  f305 := Tryz.func218.trans (congrArg some (by kernel_rfl))
  f306 := Tryz.func219.trans (congrArg some (by kernel_rfl))
  f307 := Tryz.func220.trans (congrArg some (by kernel_rfl))
  f308 := Tryz.func221.trans (congrArg some (by kernel_rfl))
  f309 := Tryz.func222.trans (congrArg some (by kernel_rfl))
  f310 := Tryz.func223.trans (congrArg some (by kernel_rfl))
  f329 := Tryz.func234.trans (congrArg some (by kernel_rfl))
  f330 := Tryz.func235.trans (congrArg some (by kernel_rfl))
  f333 := Tryz.func233.trans (congrArg some (by kernel_rfl))
  f334 := Tryz.func236.trans (congrArg some (by kernel_rfl))
  f335 := Tryz.func237.trans (congrArg some (by kernel_rfl))
  f336 := Tryz.func238.trans (congrArg some (by kernel_rfl))
  f344 := Tryz.func248.trans (congrArg some (by kernel_rfl))
  t0 := Tryz.underlying0
  a0 := Tryz.isAgg0
  z0 := Tryz.sizeOf0
  v0 := Tryz.zeroValue0
  t3 := Tryz.underlying3
  a3 := Tryz.isAgg3
  z3 := Tryz.sizeOf3
  v3 := Tryz.zeroValue3
  t4 := Tryz.underlying4
  a4 := Tryz.isAgg4
  z4 := Tryz.sizeOf4
  v4 := Tryz.zeroValue4
  t5 := Tryz.underlying5
  a5 := Tryz.isAgg5
  z5 := Tryz.sizeOf5
  v5 := Tryz.zeroValue5
  t9 := Tryz.underlying9
  a9 := Tryz.isAgg9
  z9 := Tryz.sizeOf9
  v9 := Tryz.zeroValue9
  t31 := Tryz.underlying46
  a31 := Tryz.isAgg46
  z31 := Tryz.sizeOf46
  v31 := Tryz.zeroValue46
  t46 := Tryz.underlying127
  a46 := Tryz.isAgg127
  z46 := Tryz.sizeOf127
  v46 := Tryz.zeroValue127
  t51 := Tryz.underlying232
  a51 := Tryz.isAgg232
  z51 := Tryz.sizeOf232
  v51 := Tryz.zeroValue232
  t53 := Tryz.underlying234
  a53 := Tryz.isAgg234
  z53 := Tryz.sizeOf234
  v53 := Tryz.zeroValue234
  t131 := Tryz.underlying113
  a131 := Tryz.isAgg113
  z131 := Tryz.sizeOf113
  v131 := Tryz.zeroValue113
  t182 := Tryz.underlying225
  a182 := Tryz.isAgg225
  z182 := Tryz.sizeOf225
  v182 := Tryz.zeroValue225
  t183 := Tryz.underlying226
  a183 := Tryz.isAgg226
  z183 := Tryz.sizeOf226
  v183 := Tryz.zeroValue226
  t218 := Tryz.underlying243
  a218 := Tryz.isAgg243
  z218 := Tryz.sizeOf243
  v218 := Tryz.zeroValue243
  t222 := Tryz.underlying247
  a222 := Tryz.isAgg247
  z222 := Tryz.sizeOf247
  v222 := Tryz.zeroValue247
  t228 := Tryz.underlying254
  a228 := Tryz.isAgg254
  z228 := Tryz.sizeOf254
  v228 := Tryz.zeroValue254
  t229 := Tryz.underlying255
  a229 := Tryz.isAgg255
  z229 := Tryz.sizeOf255
  v229 := Tryz.zeroValue255 }
def laysNm216_ren : Go.Shelf.Ren := ⟨fun | 16 => 169 | n => n, fun | 24 => 46 | 9 => 9 | 4 => 4 | n => n, fun | n => n⟩
theorem laysNm216 : Go.Proofs.Lays2.n16 Tryz.prog laysNm216_ren := {
  mixed := by kernel_rfl
  f16 := Tryz.func169.trans (congrArg some (by kernel_rfl))
  t4 := Tryz.underlying4
  a4 := Tryz.isAgg4
  z4 := Tryz.sizeOf4
  v4 := Tryz.zeroValue4
  t9 := Tryz.underlying9
  a9 := Tryz.isAgg9
  z9 := Tryz.sizeOf9
  v9 := Tryz.zeroValue9
  t24 := Tryz.underlying46
  a24 := Tryz.isAgg46
  z24 := Tryz.sizeOf46
  v24 := Tryz.zeroValue46
  i9 := by kernel_rfl }

theorem join_none (a : Option Addr) (c : Nat) (sep : ByteArray) (w : World) :
    Calls Tryz.prog 171 #[.slice a 0 c, .string sep] w fun e w' => e = .returned (.string ⟨#[]⟩) ∧ w' = w := Any.strings_Join_none lays156 Builder_Extra_156 a c sep w
theorem clone_any (b off n c : Nat) (zs : List ByteArray) (w : World) (hz : n ≤ zs.length) (hbig : n * 16 ≤ 140737488355328) (hc : ∀ j, j < zs.length → w.cell? ⟨b, off + j, none⟩ = some (.string (zs.getD j ByteArray.empty))) :
    Calls Tryz.prog 169 #[.slice (some ⟨b, off, none⟩) n c] w fun e w' => ∃ v', e = .returned v' ∧ w'.ownsRow w.heap.size 9 1 v' n ((zs.take n).map (Value.string)) ∧ v' ≠ .slice none 0 0 ∧ Below w.heap.size w w' := Any.slices_Clone_string laysNm216 b off n c zs w hz hbig hc
theorem clone_nil (n c : Nat) (w : World) :
    Calls Tryz.prog 169 #[.slice none n c] w fun e w' => e = .returned (.slice none 0 0) ∧ w' = w := Any.slices_Clone_string_nil laysNm216 n c w
theorem clone_zero (a : Addr) (c : Nat) (w : World) :
    Calls Tryz.prog 169 #[.slice (some a) 0 c] w fun e w' => ∃ v', e = .returned v' ∧ w'.ownsRow w.heap.size 9 1 v' 0 [] ∧ v' ≠ .slice none 0 0 ∧ Below w.heap.size w w' := Any.slices_Clone_string_zero laysNm216 a c w
open Go.Sort in
theorem sort_any (blk off cap : Nat) (ss : List (List UInt8)) (w : World) (hH : Go.Sort.Holds encStr w blk off ss.toArray) (hblk : blk < w.heap.size) (hsz : ss.length < 4611686018427387904) :
    Calls Tryz.prog 170 #[.slice (some ⟨blk, off, none⟩) ss.length cap] w fun e w' =>
      e = .returned (.tuple #[]) ∧ ∃ n os, w' = grow (putRow encStr (Sort.ahead w n) blk off (ss.mergeSort fun x y => decide (x ≤ y)).toArray) os := Any.slices_Sort_string lays190 blk off cap ss w hH hblk hsz
theorem sort_none (p : Option Addr) (cap : Nat) (w : World) :
    Calls Tryz.prog 170 #[.slice p 0 cap] w fun e w' => e = .returned (.tuple #[]) ∧ w' = w := Any.slices_Sort_string_none lays190 p cap w
end Go.Proofs.YtbpdenfiifcfcaaGreatDoor
namespace Go.Proofs.YtbpdenfiifcfcaaGreatDoor
open Go.RowKit

/-- Byte strings in ascending order. -/
def ordL (L : List (List UInt8)) : List (List UInt8) := L.mergeSort fun x y => decide (x ≤ y)
def lists (ss : List ByteArray) : List (List UInt8) := ss.map fun s => s.data.toList
theorem join_flat (L : List (List UInt8)) : Lib.join L [] = L.flatten := by
  unfold Lib.join
  induction L with
  | nil => rfl
  | cons a r ih =>
    cases r with
    | nil => simp [List.intercalate, List.intersperse]
    | cons b t => simp only [List.intercalate, List.intersperse, List.flatten_cons, List.nil_append] at ih ⊢; rw [ih]
theorem flat_cat (ss : List ByteArray) : (lists ss).flatten = cat_t ss := by simp [lists, cat_t, List.flatMap]
theorem ordL_length (L : List (List UInt8)) : (ordL L).length = L.length := by simp [ordL]
theorem ordL_perm (L : List (List UInt8)) : (ordL L).Perm L := List.mergeSort_perm L _
theorem ordL_flat_length (L : List (List UInt8)) : (ordL L).flatten.length = L.flatten.length := by
  rw [List.length_flatten, List.length_flatten]
  exact ((ordL_perm L).map List.length).sum_nat
theorem strOf_back (L : List (List UInt8)) : (L.map strOf).map (·.data.toList) = L := by
  induction L with
  | nil => rfl
  | cons a r ih => simp only [List.map_cons] at ih ⊢; rw [ih]; simp [strOf]
theorem encStr_strings (ss : List ByteArray) : ss.map Value.string = (lists ss).map encStr := by
  simp [lists, encStr]

set_option maxRecDepth 100000 in
set_option maxHeartbeats 1000000 in
theorem order_none (a : Option Addr) (c : Nat) (w : World) :
    Calls Tryz.prog 148 #[.slice a 0 c] w fun e w' => e = .returned (.string ⟨#[]⟩) ∧ Below w.heap.size w w' := by
  cases a with
  | none =>
    go_enter Tryz.func148, Tryz.ntmps148
    go_wp2_with (first | (go_at_call 169; (with_reducible refine (clone_nil 0 c _).mono ?_); rintro e w1 ⟨rfl, rfl⟩) | (go_at_call 170; (with_reducible refine (sort_none none 0 _).mono ?_); rintro e w1 ⟨rfl, rfl⟩) | (go_at_call 171; (with_reducible refine (join_none none 0 ⟨#[]⟩ _).mono ?_); rintro e w1 ⟨rfl, rfl⟩))
    go_ret
    exact ⟨rfl, Below.refl _ _⟩
  | some a =>
    go_enter Tryz.func148, Tryz.ntmps148
    go_wp2_with (first | (go_at_call 169; (with_reducible refine (clone_zero a c _).mono ?_); rintro e w1 ⟨v, rfl, ho, hne, hb⟩; have HB := Lib.hid hb; obtain ⟨p, k, rfl⟩ : ∃ p k, v = .slice p 0 k := (by rcases ho.2 with ⟨h, _⟩ | ⟨g, k, cur, h, _⟩ <;> exact ⟨_, _, h⟩); clear ho hne hb) | (go_at_call 170; (with_reducible refine (sort_none p k _).mono ?_); rintro e w2 ⟨rfl, rfl⟩) | (go_at_call 171; (with_reducible refine (join_none p k ⟨#[]⟩ _).mono ?_); rintro e w3 ⟨rfl, rfl⟩))
    go_ret
    exact ⟨rfl, HB.out⟩

set_option maxRecDepth 100000 in
set_option maxHeartbeats 1000000 in
theorem order_some (b o c : Nat) (ss : List ByteArray) (w : World) (hc : ∀ i, i < ss.length → w.cell? ⟨b, o + i, none⟩ = some (.string (ss.getD i ByteArray.empty))) (hn : ss.length ≤ 1000) (hm : (cat_t ss).length ≤ 1099511627776) :
    Calls Tryz.prog 148 #[.slice (some ⟨b, o, none⟩) ss.length c] w fun e w' => e = .returned (.string ⟨(ordL (lists ss)).flatten.toArray⟩) ∧ Below w.heap.size w w' := by
  obtain ⟨n, hln⟩ : ∃ n, n = ss.length := ⟨_, rfl⟩
  obtain ⟨O, hO⟩ : ∃ O, O = ordL (lists ss) := ⟨_, rfl⟩
  have hOl : O.length = n := by rw [hO, ordL_length, hln]; simp [lists]
  have HC := Lib.hid (clone_any b o n c ss w (by omega) (by omega) hc)
  have HJ := Lib.hid (show (Lib.join ((O.map strOf).map (·.data.toList)) []).length ≤ 140737488355328 by
    rw [strOf_back, join_flat, hO, ordL_flat_length, flat_cat]; omega)
  have HJ2 := Lib.hid (show Lib.join ((O.map strOf).map (·.data.toList)) [] = (ordL (lists ss)).flatten by
    rw [strOf_back, join_flat, hO])
  rw [← hln]
  have HLN := Lib.hid hln
  have HO := Lib.hid hO
  have HOL := Lib.hid hOl
  have HN := Lib.hid hn
  clear hln hc hm hO hOl hn
  go_enter Tryz.func148, Tryz.ntmps148
  go_wp2_with (go_at_call 169; (with_reducible refine HC.out.mono ?_); rintro e w1 ⟨v, rfl, ho, hne, hb⟩; have HB := Lib.hid hb; have HW := Lib.hid ho; have HNE := Lib.hid hne; clear ho hne hb)
  obtain ⟨g, cap, cur, hv, hg, hblk, h1, h2, h3, h4⟩ : ∃ g cap cur, v = .slice (some ⟨g, 0, none⟩) n cap ∧ w.heap.size ≤ g ∧ w1.heap[g]? = some (.cells cur 9 (0, 0)) ∧ n ≤ cap ∧ cap ≤ maxLen ∧ cur.size = cap * 1 ∧ cur.toList.take (n * 1) = (ss.take n).map Value.string := by
    rcases HW.out.2 with ⟨h, _⟩ | h
    · exact absurd h HNE.out
    · exact h
  subst hv
  have HG := Lib.hid hblk
  have hcur : cur.toList.take (lists ss).length = (lists ss).map encStr := by
    have e : (lists ss).length = n := by rw [HLN.out]; simp [lists]
    rw [e, ← encStr_strings, ← Nat.mul_one n, h4, HLN.out, List.take_length]
  have hln2 : (lists ss).length = n := by rw [HLN.out]; simp [lists]
  have hsort := sort_any g 0 cap (lists ss) w1 (holds_of_block hblk hcur) (Array.getElem?_eq_some_iff.1 hblk).1 (by have := HN.out; have := HLN.out; omega)
  rw [hln2] at hsort
  have HSO := Lib.hid hsort
  have H1 := Lib.hid h1
  have H2 := Lib.hid h2
  have H3 := Lib.hid h3
  have HGG := Lib.hid hg
  have HL2 := Lib.hid hln2
  clear hsort hblk hcur h1 h2 h3 h4 hg hln2 HC
  go_wp2_with (go_at_call 170; (with_reducible refine HSO.out.mono ?_); rintro e w2 ⟨rfl, m, os, hw2⟩; have HW2 := Lib.hid hw2; clear hw2)
  have ho2 : w2.ownsRow w.heap.size 9 1 (.slice (some ⟨g, 0, none⟩) n cap) n (O.map encStr) := by
    rw [HW2.out, HO.out]
    have := ownsRow_sorted (n := m) (os := os) (ts := ordL (lists ss)) (ss := lists ss) (by rw [ordL_length]) HGG.out HG.out (by rw [HL2.out]; exact H1.out) H2.out H3.out
    rwa [HL2.out] at this
  have hgr : w1.grownBy w2 (some g) := by rw [HW2.out]; exact grownBy_sorted _
  have hb2 : Below w.heap.size w w2 := HB.out.grown hgr HB.out.size (fun k e => by obtain rfl := Option.some.inj e; exact HGG.out)
  have hglt : g < w2.heap.size := (World.ownsRow.lt ho2 g rfl).2
  have hj := join_any g 0 cap (O.map strOf) ⟨#[]⟩ w2 (fun j x hx => by
    rw [Nat.zero_add]
    have hjl : j < (O.map strOf).length := (List.getElem?_eq_some_iff.1 hx).1
    rw [World.ownsRow.cellAt ho2 j (by simp at hjl; have := HOL.out; omega)]
    have he : O.map encStr = (O.map strOf).map Value.string := by simp [strOf, encStr]
    rw [he, List.getElem?_map, hx]
    rfl) hglt (by simp; have := HOL.out; have := HN.out; have := HLN.out; omega) (by simp; have := HOL.out; have := H1.out; omega) HJ.out
  have e3 : (O.map strOf).length = n := by simp; exact HOL.out
  rw [e3] at hj
  have HJN := Lib.hid hj
  have HB2 := Lib.hid hb2
  clear hj hb2 hgr ho2 hglt e3
  go_wp2_with (go_at_call 171; (with_reducible refine HJN.out.mono ?_); rintro e w3 ⟨he, hb3⟩; obtain rfl : e = .returned (.string ⟨(ordL (lists ss)).flatten.toArray⟩) := (by rw [he]; exact congrArg (fun l => Ending.returned (.string ⟨List.toArray l⟩)) HJ2.out); have HB3 := Lib.hid hb3; clear hb3 he)
  go_ret
  exact ⟨rfl, HB2.out.trans (HB3.out.mono HB2.out.size)⟩

theorem order_any (v : Value) (ss : List ByteArray) (w : World) (hv : Reads w v ss) (hn : ss.length ≤ 1000) (hm : (cat_t ss).length ≤ 1099511627776) :
    Calls Tryz.prog 148 #[v] w fun e w' => e = .returned (.string ⟨(ordL (lists ss)).flatten.toArray⟩) ∧ Below w.heap.size w w' := by
  obtain ⟨a, c, rfl, h⟩ := hv
  by_cases h0 : ss = []
  · subst h0
    have e : (ordL (lists [])).flatten = [] := by simp [ordL, lists]
    rw [e]
    exact order_none a c w
  · rcases h with h | ⟨b, o, rfl, hc⟩
    · exact absurd h h0
    · exact order_some b o c ss w hc hn hm
end Go.Proofs.YtbpdenfiifcfcaaGreatDoor
namespace Go.Proofs.YtbpdenfiifcfcaaGreatDoor
open Go.RowKit

/-- The bytes of the i-th element. -/
def rawAt (l : List El) (i : Nat) : List UInt8 := (l.getD i (0, ⟨#[]⟩, ⟨#[]⟩)).2.2.data.toList
theorem bl_iff : ∀ x y : List UInt8, Op.bytesLess x y = true ↔ x < y
  | _, [] => by simp [Op.bytesLess]
  | [], _ :: _ => by simp [Op.bytesLess]
  | a :: x, b :: y => by
    rw [List.cons_lt_cons_iff, ← bl_iff x y]
    simp [Op.bytesLess]
/-- At the address lie the elements l. -/
def EAt (w : World) (a : Option Addr) (l : List El) : Prop := ∀ k (h : k < l.length), ∃ g, a = some ⟨g, 0, none⟩ ∧ ∀ j, j < 3 → w.cell? ⟨g, k * 3 + j, none⟩ = (elCells l[k])[j]?
theorem EAt.of {w : World} {B : Nat} {v : Value} {l : List El} (h : OwnE w B v l) : ∃ a c, v = .slice a l.length c ∧ EAt w a l := by
  have h' := own_base_t h
  rcases h.2 with ⟨hv, h0⟩ | ⟨g, cap, cur, hv, _⟩
  · exact ⟨none, 0, by rw [hv, h0], fun k hk => by omega⟩
  · rw [hv] at h'
    exact ⟨_, cap, hv, fun k hk => ⟨g, rfl, fun j hj => els_cell h' k hk j hj⟩⟩
theorem EAt.two {w wr : World} {a : Option Addr} {l : List El} (h : EAt w a l) (hb : Below w.heap.size w wr) (k : Nat) (hk1 : 1 ≤ k) (hk : k < l.length) :
    ∃ (g : Nat) (t c t' c' : Value) (x y : ByteArray), a = some ⟨g, 0, none⟩ ∧ wr.cell? ⟨g, k * 3, none⟩ = some t ∧ wr.cell? ⟨g, k * 3 + 1, none⟩ = some c ∧ wr.cell? ⟨g, k * 3 + 2, none⟩ = some (.string x) ∧
      wr.cell? ⟨g, (k - 1) * 3, none⟩ = some t' ∧ wr.cell? ⟨g, (k - 1) * 3 + 1, none⟩ = some c' ∧ wr.cell? ⟨g, (k - 1) * 3 + 2, none⟩ = some (.string y) ∧ rawAt l k = x.data.toList ∧ rawAt l (k - 1) = y.data.toList := by
  obtain ⟨g, rfl, h1⟩ := h k hk
  obtain ⟨g', e, h2⟩ := h (k - 1) (by omega)
  obtain rfl : g = g' := by simpa using e
  have hg : g < w.heap.size := block_lt_of_cell (a := ⟨g, k * 3 + 0, none⟩) (h1 0 (by omega))
  have o1 : ∀ j, j < 3 → wr.cell? ⟨g, k * 3 + j, none⟩ = (elCells l[k])[j]? := fun j hj => (hb.cell (p := ⟨g, k * 3 + j, none⟩) hg).trans (h1 j hj)
  have o2 : ∀ j, j < 3 → wr.cell? ⟨g, (k - 1) * 3 + j, none⟩ = (elCells (l[k - 1]'(by omega)))[j]? := fun j hj => (hb.cell (p := ⟨g, (k - 1) * 3 + j, none⟩) hg).trans (h2 j hj)
  exact ⟨g, _, _, _, _, _, _, rfl, o1 0 (by omega), o1 1 (by omega), o1 2 (by omega), o2 0 (by omega), o2 1 (by omega), o2 2 (by omega),
    by unfold rawAt; rw [List.getD_eq_getElem?_getD, List.getElem?_eq_getElem hk]; rfl, by unfold rawAt; rw [List.getD_eq_getElem?_getD, List.getElem?_eq_getElem (by omega)]; rfl⟩

end Go.Proofs.YtbpdenfiifcfcaaGreatDoor
