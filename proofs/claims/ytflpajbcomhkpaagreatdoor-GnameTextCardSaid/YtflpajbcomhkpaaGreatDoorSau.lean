/-
  The contracts of slices.Clone, slices.Sort, strings.Join and strings.Compare at strings: the library's theorems, laid at the program's own numbers. Nothing is claimed of the program beyond its bodies.
  The contract of tlv.Order: the strings in ascending order, one after the other; nothing that was there before the call has changed.
-/
import Derived.Test.YtflpajbcomhkpaaGreatDoorSaa
import Derived.Shelf.Strings.Builder1
import Derived.Shelf.Strings.Builder2
import Derived.Shelf.Strings.OnBuilder
import Derived.Shelf.Small.Strs
import Derived.Shelf.Sort.Plain
import Derived.Ground.Names2Prog
import Derived.Shelf.Slices.Clone
import Derived.Shelf.Slices.In.SortNone
import Derived.Sort.OwnSorted
import Derived.Test.YtflpajbcomhkpaaGreatDoorChecked
import Derived.Test.YtflpajbcomhkpaaGreatDoorSaq
import Derived.Lib.Join
namespace Go.Proofs.YtflpajbcomhkpaaGreatDoor
open Go.Shelf Go.RowKit

def lays106_ren : Go.Shelf.Ren := ⟨fun | 106 => 170 | 213 => 205 | 265 => 247 | n => n, fun | 9 => 9 | 3 => 3 | n => n, fun | n => n⟩
theorem lays106 : Go.Proofs.Lays.n106 Tryz.prog lays106_ren := {
  mixed := by kernel_rfl
  f106 := Tryz.func170.trans (congrArg some (by kernel_rfl))
  f213 := Tryz.func205.trans (congrArg some (by kernel_rfl))
  f265 := Tryz.func247.trans (congrArg some (by kernel_rfl))
  t3 := Tryz.underlying3
  a3 := Tryz.isAgg3
  z3 := Tryz.sizeOf3
  v3 := Tryz.zeroValue3
  t9 := Tryz.underlying9
  a9 := Tryz.isAgg9
  z9 := Tryz.sizeOf9
  v9 := Tryz.zeroValue9 }
def lays190_ren : Go.Shelf.Ren := ⟨fun | 190 => 180 | 125 => 204 | 258 => 211 | 128 => 245 | 129 => 246 | 302 => 255 | 303 => 256 | 304 => 257 | 305 => 258 | 306 => 259 | 307 => 260 | 308 => 261 | 309 => 262 | 310 => 263 | 333 => 280 | 329 => 274 | 330 => 275 | 334 => 281 | 335 => 282 | 336 => 283 | 344 => 287 | n => n, fun | 31 => 51 | 9 => 9 | 3 => 3 | 46 => 135 | 0 => 0 | 51 => 226 | 53 => 228 | 4 => 4 | 183 => 220 | 182 => 219 | 131 => 126 | 5 => 5 | 218 => 250 | 222 => 254 | 228 => 260 | 229 => 261 | n => n, fun | n => n⟩
theorem lays190 : Go.Proofs.Lays.n190 Tryz.prog lays190_ren := {
  mixed := by kernel_rfl
  f125 := Tryz.func204.trans (congrArg some (by kernel_rfl))
  f128 := Tryz.func245.trans (congrArg some (by kernel_rfl))
  f129 := Tryz.func246.trans (congrArg some (by kernel_rfl))
  f190 := Tryz.func180.trans (congrArg some (by kernel_rfl))
  f258 := Tryz.func211.trans (congrArg some (by kernel_rfl))
  f302 := Tryz.func255.trans (congrArg some (by kernel_rfl))
  f303 := Tryz.func256.trans (congrArg some (by kernel_rfl))
  f304 := Tryz.func257.trans (congrArg some (by kernel_rfl))
  f305 := Tryz.func258.trans (congrArg some (by kernel_rfl))
  f306 := Tryz.func259.trans (congrArg some (by kernel_rfl))
  f307 := Tryz.func260.trans (congrArg some (by kernel_rfl))
  f308 := Tryz.func261.trans (congrArg some (by kernel_rfl))
  f309 := Tryz.func262.trans (congrArg some (by kernel_rfl))
  f310 := Tryz.func263.trans (congrArg some (by kernel_rfl))
  f329 := Tryz.func274.trans (congrArg some (by kernel_rfl))
  f330 := Tryz.func275.trans (congrArg some (by kernel_rfl))
  f333 := Tryz.func280.trans (congrArg some (by kernel_rfl))
  f334 := Tryz.func281.trans (congrArg some (by kernel_rfl))
  f335 := Tryz.func282.trans (congrArg some (by kernel_rfl))
  f336 := Tryz.func283.trans (congrArg some (by kernel_rfl))
  f344 := Tryz.func287.trans (congrArg some (by kernel_rfl))
  t0 := Tryz.underlying0
  a0 := Tryz.isAgg0
  z0 := Tryz.sizeOf0
  v0 := Tryz.zeroValue0
  t3 := Tryz.underlying3
  a3 := Tryz.isAgg3
  z3 := Tryz.sizeOf3
  v3 := Tryz.zeroValue3
  t4 := Tryz.underlying4
  a4 := Tryz.isAgg4
  z4 := Tryz.sizeOf4
  v4 := Tryz.zeroValue4
  t5 := Tryz.underlying5
  a5 := Tryz.isAgg5
  z5 := Tryz.sizeOf5
  v5 := Tryz.zeroValue5
  t9 := Tryz.underlying9
  a9 := Tryz.isAgg9
  z9 := Tryz.sizeOf9
  v9 := Tryz.zeroValue9
  t31 := Tryz.underlying51
  a31 := Tryz.isAgg51
  z31 := Tryz.sizeOf51
  v31 := Tryz.zeroValue51
  t46 := Tryz.underlying135
  a46 := Tryz.isAgg135
  z46 := Tryz.sizeOf135
  v46 := Tryz.zeroValue135
  t51 := Tryz.underlying226
  a51 := Tryz.isAgg226
  z51 := Tryz.sizeOf226
  v51 := Tryz.zeroValue226
  t53 := Tryz.underlying228
  a53 := Tryz.isAgg228
  z53 := Tryz.sizeOf228
  v53 := Tryz.zeroValue228
  t131 := Tryz.underlying126
  a131 := Tryz.isAgg126
  z131 := Tryz.sizeOf126
  v131 := Tryz.zeroValue126
  t182 := Tryz.underlying219
  a182 := Tryz.isAgg219
  z182 := Tryz.sizeOf219
  v182 := Tryz.zeroValue219
  t183 := Tryz.underlying220
  a183 := Tryz.isAgg220
  z183 := Tryz.sizeOf220
  v183 := Tryz.zeroValue220
  t218 := Tryz.underlying250
  a218 := Tryz.isAgg250
  z218 := Tryz.sizeOf250
  v218 := Tryz.zeroValue250
  t222 := Tryz.underlying254
  a222 := Tryz.isAgg254
  z222 := Tryz.sizeOf254
  v222 := Tryz.zeroValue254
  t228 := Tryz.underlying260
  a228 := Tryz.isAgg260
  z228 := Tryz.sizeOf260
  v228 := Tryz.zeroValue260
  t229 := Tryz.underlying261
  a229 := Tryz.isAgg261
  z229 := Tryz.sizeOf261
  v229 := Tryz.zeroValue261 }
def laysNm216_ren : Go.Shelf.Ren := ⟨fun | 16 => 179 | n => n, fun | 24 => 51 | 9 => 9 | 4 => 4 | n => n, fun | n => n⟩
theorem laysNm216 : Go.Proofs.Lays2.n16 Tryz.prog laysNm216_ren := {
  mixed := by kernel_rfl
  f16 := Tryz.func179.trans (congrArg some (by kernel_rfl))
  t4 := Tryz.underlying4
  a4 := Tryz.isAgg4
  z4 := Tryz.sizeOf4
  v4 := Tryz.zeroValue4
  t9 := Tryz.underlying9
  a9 := Tryz.isAgg9
  z9 := Tryz.sizeOf9
  v9 := Tryz.zeroValue9
  t24 := Tryz.underlying51
  a24 := Tryz.isAgg51
  z24 := Tryz.sizeOf51
  v24 := Tryz.zeroValue51
  i9 := by kernel_rfl }

theorem join_none (a : Option Addr) (c : Nat) (sep : ByteArray) (w : World) :
    Calls Tryz.prog 166 #[.slice a 0 c, .string sep] w fun e w' => e = .returned (.string ⟨#[]⟩) ∧ w' = w := Any.strings_Join_none lays156 Builder_Extra_156 a c sep w
theorem compare_any (a b : ByteArray) (w : World) :
    Calls Tryz.prog 170 #[.string a, .string b] w fun e w' => e = .returned (.int .i64 (Lib.compareBytes a.data.toList b.data.toList)) ∧ w' = w := Any.strings_Compare lays106 a b w
theorem clone_any (b off n c : Nat) (zs : List ByteArray) (w : World) (hz : n ≤ zs.length) (hbig : n * 16 ≤ 140737488355328) (hc : ∀ j, j < zs.length → w.cell? ⟨b, off + j, none⟩ = some (.string (zs.getD j ByteArray.empty))) :
    Calls Tryz.prog 179 #[.slice (some ⟨b, off, none⟩) n c] w fun e w' => ∃ v', e = .returned v' ∧ w'.ownsRow w.heap.size 9 1 v' n ((zs.take n).map (Value.string)) ∧ v' ≠ .slice none 0 0 ∧ Below w.heap.size w w' := Any.slices_Clone_string laysNm216 b off n c zs w hz hbig hc
theorem clone_nil (n c : Nat) (w : World) :
    Calls Tryz.prog 179 #[.slice none n c] w fun e w' => e = .returned (.slice none 0 0) ∧ w' = w := Any.slices_Clone_string_nil laysNm216 n c w
theorem clone_zero (a : Addr) (c : Nat) (w : World) :
    Calls Tryz.prog 179 #[.slice (some a) 0 c] w fun e w' => ∃ v', e = .returned v' ∧ w'.ownsRow w.heap.size 9 1 v' 0 [] ∧ v' ≠ .slice none 0 0 ∧ Below w.heap.size w w' := Any.slices_Clone_string_zero laysNm216 a c w
open Go.Sort in
theorem sort_any (blk off cap : Nat) (ss : List (List UInt8)) (w : World) (hH : Go.Sort.Holds encStr w blk off ss.toArray) (hblk : blk < w.heap.size) (hsz : ss.length < 4611686018427387904) :
    Calls Tryz.prog 180 #[.slice (some ⟨blk, off, none⟩) ss.length cap] w fun e w' =>
      e = .returned (.tuple #[]) ∧ ∃ n os, w' = grow (putRow encStr (Sort.ahead w n) blk off (ss.mergeSort fun x y => decide (x ≤ y)).toArray) os := Any.slices_Sort_string lays190 blk off cap ss w hH hblk hsz
theorem sort_none (p : Option Addr) (cap : Nat) (w : World) :
    Calls Tryz.prog 180 #[.slice p 0 cap] w fun e w' => e = .returned (.tuple #[]) ∧ w' = w := Any.slices_Sort_string_none lays190 p cap w
end Go.Proofs.YtflpajbcomhkpaaGreatDoor
namespace Go.Proofs.YtflpajbcomhkpaaGreatDoor
open Go.RowKit

/-- Byte strings in ascending order. -/
def ordL (L : List (List UInt8)) : List (List UInt8) := L.mergeSort fun x y => decide (x ≤ y)
def lists (ss : List ByteArray) : List (List UInt8) := ss.map fun s => s.data.toList
theorem join_flat (L : List (List UInt8)) : Lib.join L [] = L.flatten := by
  unfold Lib.join
  induction L with
  | nil => rfl
  | cons a r ih =>
    cases r with
    | nil => simp [List.intercalate, List.intersperse]
    | cons b t => simp only [List.intercalate, List.intersperse, List.flatten_cons, List.nil_append] at ih ⊢; rw [ih]
theorem flat_cat (ss : List ByteArray) : (lists ss).flatten = cat_t ss := by simp [lists, cat_t, List.flatMap]
theorem ordL_length (L : List (List UInt8)) : (ordL L).length = L.length := by simp [ordL]
theorem ordL_perm (L : List (List UInt8)) : (ordL L).Perm L := List.mergeSort_perm L _
theorem ordL_flat_length (L : List (List UInt8)) : (ordL L).flatten.length = L.flatten.length := by
  rw [List.length_flatten, List.length_flatten]
  exact ((ordL_perm L).map List.length).sum_nat
theorem strOf_back (L : List (List UInt8)) : (L.map strOf).map (·.data.toList) = L := by
  induction L with
  | nil => rfl
  | cons a r ih => simp only [List.map_cons] at ih ⊢; rw [ih]; simp [strOf]
theorem encStr_strings (ss : List ByteArray) : ss.map Value.string = (lists ss).map encStr := by
  simp [lists, encStr]

set_option maxRecDepth 100000 in
set_option maxHeartbeats 1000000 in
theorem order_none (a : Option Addr) (c : Nat) (w : World) :
    Calls Tryz.prog 143 #[.slice a 0 c] w fun e w' => e = .returned (.string ⟨#[]⟩) ∧ Below w.heap.size w w' := by
  cases a with
  | none =>
    go_enter Tryz.func143, Tryz.ntmps143
    go_wp2_with (first | (go_at_call 179; (with_reducible refine (clone_nil 0 c _).mono ?_); rintro e w1 ⟨rfl, rfl⟩) | (go_at_call 180; (with_reducible refine (sort_none none 0 _).mono ?_); rintro e w1 ⟨rfl, rfl⟩) | (go_at_call 166; (with_reducible refine (join_none none 0 ⟨#[]⟩ _).mono ?_); rintro e w1 ⟨rfl, rfl⟩))
    go_ret
    exact ⟨rfl, Below.refl _ _⟩
  | some a =>
    go_enter Tryz.func143, Tryz.ntmps143
    go_wp2_with (first | (go_at_call 179; (with_reducible refine (clone_zero a c _).mono ?_); rintro e w1 ⟨v, rfl, ho, hne, hb⟩; have HB := Lib.hid hb; obtain ⟨p, k, rfl⟩ : ∃ p k, v = .slice p 0 k := (by rcases ho.2 with ⟨h, _⟩ | ⟨g, k, cur, h, _⟩ <;> exact ⟨_, _, h⟩); clear ho hne hb) | (go_at_call 180; (with_reducible refine (sort_none p k _).mono ?_); rintro e w2 ⟨rfl, rfl⟩) | (go_at_call 166; (with_reducible refine (join_none p k ⟨#[]⟩ _).mono ?_); rintro e w3 ⟨rfl, rfl⟩))
    go_ret
    exact ⟨rfl, HB.out⟩

set_option maxRecDepth 100000 in
set_option maxHeartbeats 1000000 in
theorem order_some (b o c : Nat) (ss : List ByteArray) (w : World) (hc : ∀ i, i < ss.length → w.cell? ⟨b, o + i, none⟩ = some (.string (ss.getD i ByteArray.empty))) (hn : ss.length ≤ 1000) (hm : (cat_t ss).length ≤ 1099511627776) :
    Calls Tryz.prog 143 #[.slice (some ⟨b, o, none⟩) ss.length c] w fun e w' => e = .returned (.string ⟨(ordL (lists ss)).flatten.toArray⟩) ∧ Below w.heap.size w w' := by
  obtain ⟨n, hln⟩ : ∃ n, n = ss.length := ⟨_, rfl⟩
  obtain ⟨O, hO⟩ : ∃ O, O = ordL (lists ss) := ⟨_, rfl⟩
  have hOl : O.length = n := by rw [hO, ordL_length, hln]; simp [lists]
  have HC := Lib.hid (clone_any b o n c ss w (by omega) (by omega) hc)
  have HJ := Lib.hid (show (Lib.join ((O.map strOf).map (·.data.toList)) []).length ≤ 140737488355328 by
    rw [strOf_back, join_flat, hO, ordL_flat_length, flat_cat]; omega)
  have HJ2 := Lib.hid (show Lib.join ((O.map strOf).map (·.data.toList)) [] = (ordL (lists ss)).flatten by
    rw [strOf_back, join_flat, hO])
  rw [← hln]
  have HLN := Lib.hid hln
  have HO := Lib.hid hO
  have HOL := Lib.hid hOl
  have HN := Lib.hid hn
  clear hln hc hm hO hOl hn
  go_enter Tryz.func143, Tryz.ntmps143
  go_wp2_with (go_at_call 179; (with_reducible refine HC.out.mono ?_); rintro e w1 ⟨v, rfl, ho, hne, hb⟩; have HB := Lib.hid hb; have HW := Lib.hid ho; have HNE := Lib.hid hne; clear ho hne hb)
  obtain ⟨g, cap, cur, hv, hg, hblk, h1, h2, h3, h4⟩ : ∃ g cap cur, v = .slice (some ⟨g, 0, none⟩) n cap ∧ w.heap.size ≤ g ∧ w1.heap[g]? = some (.cells cur 9 (0, 0)) ∧ n ≤ cap ∧ cap ≤ maxLen ∧ cur.size = cap * 1 ∧ cur.toList.take (n * 1) = (ss.take n).map Value.string := by
    rcases HW.out.2 with ⟨h, _⟩ | h
    · exact absurd h HNE.out
    · exact h
  subst hv
  have HG := Lib.hid hblk
  have hcur : cur.toList.take (lists ss).length = (lists ss).map encStr := by
    have e : (lists ss).length = n := by rw [HLN.out]; simp [lists]
    rw [e, ← encStr_strings, ← Nat.mul_one n, h4, HLN.out, List.take_length]
  have hln2 : (lists ss).length = n := by rw [HLN.out]; simp [lists]
  have hsort := sort_any g 0 cap (lists ss) w1 (holds_of_block hblk hcur) (Array.getElem?_eq_some_iff.1 hblk).1 (by have := HN.out; have := HLN.out; omega)
  rw [hln2] at hsort
  have HSO := Lib.hid hsort
  have H1 := Lib.hid h1
  have H2 := Lib.hid h2
  have H3 := Lib.hid h3
  have HGG := Lib.hid hg
  have HL2 := Lib.hid hln2
  clear hsort hblk hcur h1 h2 h3 h4 hg hln2 HC
  go_wp2_with (go_at_call 180; (with_reducible refine HSO.out.mono ?_); rintro e w2 ⟨rfl, m, os, hw2⟩; have HW2 := Lib.hid hw2; clear hw2)
  have ho2 : w2.ownsRow w.heap.size 9 1 (.slice (some ⟨g, 0, none⟩) n cap) n (O.map encStr) := by
    rw [HW2.out, HO.out]
    have := ownsRow_sorted (n := m) (os := os) (ts := ordL (lists ss)) (ss := lists ss) (by rw [ordL_length]) HGG.out HG.out (by rw [HL2.out]; exact H1.out) H2.out H3.out
    rwa [HL2.out] at this
  have hgr : w1.grownBy w2 (some g) := by rw [HW2.out]; exact grownBy_sorted _
  have hb2 : Below w.heap.size w w2 := HB.out.grown hgr HB.out.size (fun k e => by obtain rfl := Option.some.inj e; exact HGG.out)
  have hglt : g < w2.heap.size := (World.ownsRow.lt ho2 g rfl).2
  have hj := join_any g 0 cap (O.map strOf) ⟨#[]⟩ w2 (fun j x hx => by
    rw [Nat.zero_add]
    have hjl : j < (O.map strOf).length := (List.getElem?_eq_some_iff.1 hx).1
    rw [World.ownsRow.cellAt ho2 j (by simp at hjl; have := HOL.out; omega)]
    have he : O.map encStr = (O.map strOf).map Value.string := by simp [strOf, encStr]
    rw [he, List.getElem?_map, hx]
    rfl) hglt (by simp; have := HOL.out; have := HN.out; have := HLN.out; omega) (by simp; have := HOL.out; have := H1.out; omega) HJ.out
  have e3 : (O.map strOf).length = n := by simp; exact HOL.out
  rw [e3] at hj
  have HJN := Lib.hid hj
  have HB2 := Lib.hid hb2
  clear hj hb2 hgr ho2 hglt e3
  go_wp2_with (go_at_call 166; (with_reducible refine HJN.out.mono ?_); rintro e w3 ⟨he, hb3⟩; obtain rfl : e = .returned (.string ⟨(ordL (lists ss)).flatten.toArray⟩) := (by rw [he]; exact congrArg (fun l => Ending.returned (.string ⟨List.toArray l⟩)) HJ2.out); have HB3 := Lib.hid hb3; clear hb3 he)
  go_ret
  exact ⟨rfl, HB2.out.trans (HB3.out.mono HB2.out.size)⟩

theorem order_any (v : Value) (ss : List ByteArray) (w : World) (hv : Reads w v ss) (hn : ss.length ≤ 1000) (hm : (cat_t ss).length ≤ 1099511627776) :
    Calls Tryz.prog 143 #[v] w fun e w' => e = .returned (.string ⟨(ordL (lists ss)).flatten.toArray⟩) ∧ Below w.heap.size w w' := by
  obtain ⟨a, c, rfl, h⟩ := hv
  by_cases h0 : ss = []
  · subst h0
    have e : (ordL (lists [])).flatten = [] := by simp [ordL, lists]
    rw [e]
    exact order_none a c w
  · rcases h with h | ⟨b, o, rfl, hc⟩
    · exact absurd h h0
    · exact order_some b o c ss w hc hn hm
end Go.Proofs.YtflpajbcomhkpaaGreatDoor
