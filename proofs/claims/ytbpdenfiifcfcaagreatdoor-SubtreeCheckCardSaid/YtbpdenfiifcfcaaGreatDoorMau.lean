/-
  The encodings of attributes, relative names and names; the contracts of the program's and the reference's wrap, OID and encodeAttribute.
  The contracts of encodeAttribute, and of the reference's OID.
  The contracts of encodeRelative and Encode.
  The contract of Encode: the element of a name, or the error of Check.
  The contract of the reference's CheckName: the same first error.
-/
import Derived.Test.YtbpdenfiifcfcaaGreatDoorMao
import Derived.Test.YtbpdenfiifcfcaaGreatDoorMan
import Derived.Test.YtbpdenfiifcfcaaGreatDoorMap
import Derived.Test.YtbpdenfiifcfcaaGreatDoorMar
import Derived.Test.YtbpdenfiifcfcaaGreatDoorMat
import Derived.Test.YtbpdenfiifcfcaaGreatDoorMaq
import Derived.Test.YtbpdenfiifcfcaaGreatDoorMah
import Derived.Deep.RegionHeld3
import Derived.Test.YtbpdenfiifcfcaaGreatDoorMai
namespace Go.Proofs.YtbpdenfiifcfcaaGreatDoor
open Go.RowKit

/-- The contents of the element of an object identifier. -/
noncomputable def oidS (s : ByteArray) : ByteArray := @dite _ (∃ a, Oid s.data.toList a) (Classical.propDecidable _) (fun h => strOf (enc h.choose)) (fun _ => ⟨#[]⟩)
theorem oidS_yes {s : ByteArray} {a : List Nat} (h : Oid s.data.toList a) : oidS s = strOf (enc a) := by
  have hx : ∃ a, Oid s.data.toList a := ⟨a, h⟩
  unfold oidS
  rw [dif_pos hx, oid_one hx.choose_spec h]
theorem oidS_no {s : ByteArray} (h : ∀ a, ¬ Oid s.data.toList a) : oidS s = ⟨#[]⟩ := by
  unfold oidS
  rw [dif_neg (fun ⟨a, k⟩ => h a k)]
/-- The element with the identifier octet T and the contents x. -/
def wr1 (T : Int) (x : ByteArray) : ByteArray := wrapStr T x.data.toList
def wr2 (T : Int) (x y : ByteArray) : ByteArray := wrapStr T (x.data.toList ++ y.data.toList)
noncomputable def encA (a : At) : ByteArray := wr2 48 (wr1 6 (oidS a.1)) (wr1 a.2.1 a.2.2)
noncomputable def encR (r : List At) : ByteArray := wr1 49 ⟨(ordL (lists (r.map encA))).flatten.toArray⟩
noncomputable def encN (n : Nm) : ByteArray := wrapStr 48 (cat_t (n.map encR))

/-! ### Slices of one and of two strings -/
theorem reads_one {w : World} {g : Nat} {x : ByteArray} (h : w.cell? ⟨g, 0, none⟩ = some (.string x)) : Reads w (.slice (some ⟨g, 0, none⟩) 1 1) [x] := by
  refine ⟨_, 1, rfl, .inr ⟨g, 0, rfl, fun i hi => ?_⟩⟩
  obtain rfl : i = 0 := by simpa using hi
  exact h
theorem reads_two {w : World} {g : Nat} {x y : ByteArray} (h : w.cell? ⟨g, 0, none⟩ = some (.string x)) (k : w.cell? ⟨g, 1, none⟩ = some (.string y)) : Reads w (.slice (some ⟨g, 0, none⟩) 2 2) [x, y] := by
  refine ⟨_, 2, rfl, .inr ⟨g, 0, rfl, fun i hi => ?_⟩⟩
  rcases (by simp at hi; omega : i = 0 ∨ i = 1) with rfl | rfl
  · exact h
  · exact k
theorem cat_one (x : ByteArray) : cat_t [x] = x.data.toList := by simp [cat_t]
theorem cat_two (x y : ByteArray) : cat_t [x, y] = x.data.toList ++ y.data.toList := by simp [cat_t]

/-! ### wrap -/
set_option maxRecDepth 100000 in
set_option maxHeartbeats 1000000 in
theorem dwrap_any (T : Int) (a : Option Addr) (n c : Nat) (ss : List ByteArray) (w : World) (hv : Reads w (.slice a n c) ss) (hn : ss.length < 4611686018427387904) :
    Calls Tryz.prog 123 #[.int .i64 T, .slice a n c] w fun e w' => e = .returned (.string (wrapStr T (cat_t ss))) ∧ Below w.heap.size w w' := by
  have HW := wrap_any T _ ss w hv hn
  unfold wrapVal at HW
  have H := Lib.hid HW
  clear HW hv hn
  go_enter Tryz.func123, Tryz.ntmps123
  go_wp2_with (go_at_call 52; (with_reducible refine H.out.mono ?_); rintro e w1 ⟨rfl, hb⟩; have HB := Lib.hid hb; clear hb)
  go_ret
  exact ⟨rfl, HB.out⟩
set_option maxRecDepth 100000 in
set_option maxHeartbeats 1000000 in
theorem rwrapd_any (T : Int) (a : Option Addr) (n c : Nat) (ss : List ByteArray) (w : World) (hv : Reads w (.slice a n c) ss) (hn : ss.length < 4611686018427387904) (hb : (cat_t ss).length ≤ 1099511627776) :
    Calls Tryz.prog 37 #[.int .i64 T, .slice a n c] w fun e w' => e = .returned (.string (wrapStr T (cat_t ss))) ∧ Below w.heap.size w w' := by
  have HW := rwrap_any T _ ss w hv hn hb
  unfold wrapVal at HW
  have H := Lib.hid HW
  clear HW hv hn hb
  go_enter Tryz.func37, Tryz.ntmps37
  go_wp2_with (go_at_call 54; (with_reducible refine H.out.mono ?_); rintro e w1 ⟨rfl, hb⟩; have HB := Lib.hid hb; clear hb)
  go_ret
  exact ⟨rfl, HB.out⟩
theorem dw1 (T : Int) (g : Nat) (x : ByteArray) (w : World) (h : w.cell? ⟨g, 0, none⟩ = some (.string x)) :
    Calls Tryz.prog 123 #[.int .i64 T, .slice (some ⟨g, 0, none⟩) 1 1] w fun e w' => e = .returned (.string (wr1 T x)) ∧ Below w.heap.size w w' := by
  have := dwrap_any T _ _ _ _ w (reads_one h) (by simp)
  rwa [cat_one] at this
theorem dw2 (T : Int) (g : Nat) (x y : ByteArray) (w : World) (h : w.cell? ⟨g, 0, none⟩ = some (.string x)) (k : w.cell? ⟨g, 1, none⟩ = some (.string y)) :
    Calls Tryz.prog 123 #[.int .i64 T, .slice (some ⟨g, 0, none⟩) 2 2] w fun e w' => e = .returned (.string (wr2 T x y)) ∧ Below w.heap.size w w' := by
  have := dwrap_any T _ _ _ _ w (reads_two h k) (by simp)
  rwa [cat_two] at this
theorem rw1 (T : Int) (g : Nat) (x : ByteArray) (w : World) (h : w.cell? ⟨g, 0, none⟩ = some (.string x)) (hx : x.size ≤ 1099511627776) :
    Calls Tryz.prog 37 #[.int .i64 T, .slice (some ⟨g, 0, none⟩) 1 1] w fun e w' => e = .returned (.string (wr1 T x)) ∧ Below w.heap.size w w' := by
  have := rwrapd_any T _ _ _ _ w (reads_one h) (by simp) (by rw [cat_one]; exact hx)
  rwa [cat_one] at this
theorem rw2 (T : Int) (g : Nat) (x y : ByteArray) (w : World) (h : w.cell? ⟨g, 0, none⟩ = some (.string x)) (k : w.cell? ⟨g, 1, none⟩ = some (.string y)) (hx : x.size + y.size ≤ 1099511627776) :
    Calls Tryz.prog 37 #[.int .i64 T, .slice (some ⟨g, 0, none⟩) 2 2] w fun e w' => e = .returned (.string (wr2 T x y)) ∧ Below w.heap.size w w' := by
  have := rwrapd_any T _ _ _ _ w (reads_two h k) (by simp) (by rw [cat_two, List.length_append]; exact hx)
  rwa [cat_two] at this
theorem wrapStr_size (T : Int) (c : List UInt8) : (wrapStr T c).size ≤ 131080 := by
  unfold wrapStr
  split
  · rename_i h
    have hl : c.length ≤ 131072 := by
      unfold wrapErr at h
      split at h
      · cases h
      · split at h
        · cases h
        · omega
    show (wrapL T.toNat c).length ≤ _
    unfold wrapL
    rw [List.length_cons, List.length_append, lenO_length]
    have := lsz_le c.length
    omega
  · show 0 ≤ _; omega

/-! ### The contents of an object identifier -/
theorem denc_any (s : ByteArray) (w : World) (hs : s.size ≤ 1099511627) :
    Calls Tryz.prog 168 #[.string s] w fun e w' => (∃ er : Int, e = .returned (.tuple #[.string (oidS s), .int .i64 er])) ∧ Below w.heap.size w w' := by
  rcases oid_or s.data.toList with ⟨a, h⟩ | h
  · exact (enc_yes h w hs).mono fun e w' ⟨he, hb⟩ => ⟨⟨0, by rw [he, oidS_yes h]; rfl⟩, hb⟩
  · exact (enc_no h w hs).mono fun e w' ⟨he, hb⟩ => ⟨⟨11, by rw [he, oidS_no h]; rfl⟩, hb⟩
theorem renc_any' (s : ByteArray) (w : World) (hs : s.size ≤ 1099511627) :
    Calls Tryz.prog 149 #[.string s] w fun e w' => (∃ er : Int, e = .returned (.tuple #[.string (oidS s), .int .i64 er])) ∧ Below w.heap.size w w' := by
  rcases oid_or s.data.toList with ⟨a, h⟩ | h
  · exact (renc_yes h w hs).mono fun e w' ⟨he, hb⟩ => ⟨⟨0, by rw [he, oidS_yes h]; rfl⟩, hb⟩
  · exact (renc_no h w hs).mono fun e w' ⟨he, hb⟩ => ⟨⟨11, by rw [he, oidS_no h]; rfl⟩, hb⟩
end Go.Proofs.YtbpdenfiifcfcaaGreatDoor
namespace Go.Proofs.YtbpdenfiifcfcaaGreatDoor
open Go.RowKit

theorem bx1 (V : World) (x : ByteArray) (T : TypeId) : (V.alloc (.cells #[.string x] T)).cell? ⟨V.heap.size, 0, none⟩ = some (.string x) := (one_facts (heap_alloc_new V _)).1
theorem bx1d (V : World) (x : ByteArray) (T : TypeId) : (V.alloc (.cells #[.string x] T)).drew.cell? ⟨V.heap.size, 0, none⟩ = some (.string x) := bx1 V x T
theorem bx2 (V : World) (x : ByteArray) (T : TypeId) (o : Obj) : ((V.alloc (.cells #[.string x] T)).alloc o).cell? ⟨V.heap.size, 0, none⟩ = some (.string x) := ((belowNew _ o).cell (p := ⟨V.heap.size, 0, none⟩) (by simp)).trans (bx1 V x T)
theorem bx2d (V : World) (x : ByteArray) (T : TypeId) (o : Obj) : ((V.alloc (.cells #[.string x] T)).alloc o).drew.cell? ⟨V.heap.size, 0, none⟩ = some (.string x) := bx2 V x T o
theorem bx3 (V : World) (x : ByteArray) (T : TypeId) (o : Obj) : ((V.alloc o).alloc (.cells #[.string x] T)).cell? ⟨V.heap.size + 1, 0, none⟩ = some (.string x) := by
  simp
theorem bx3d (V : World) (x : ByteArray) (T : TypeId) (o : Obj) : ((V.alloc o).alloc (.cells #[.string x] T)).drew.cell? ⟨V.heap.size + 1, 0, none⟩ = some (.string x) := bx3 V x T o
theorem by0 (V : World) (x y : ByteArray) (T : TypeId) : (V.alloc (.cells #[.string x, .string y] T)).cell? ⟨V.heap.size, 0, none⟩ = some (.string x) := by
  rw [cell_of_row _ _ 0 _ _ _ (heap_alloc_new V _)]; rfl
theorem by1 (V : World) (x y : ByteArray) (T : TypeId) : (V.alloc (.cells #[.string x, .string y] T)).cell? ⟨V.heap.size, 1, none⟩ = some (.string y) := by
  rw [cell_of_row _ _ 1 _ _ _ (heap_alloc_new V _)]; rfl

theorem by0d (V : World) (x y : ByteArray) (T : TypeId) : (V.alloc (.cells #[.string x, .string y] T)).drew.cell? ⟨V.heap.size, 0, none⟩ = some (.string x) := by0 V x y T
theorem by1d (V : World) (x y : ByteArray) (T : TypeId) : (V.alloc (.cells #[.string x, .string y] T)).drew.cell? ⟨V.heap.size, 1, none⟩ = some (.string y) := by1 V x y T
theorem cat128_len : ∀ (N : List Nat), (∀ v ∈ N, v < 34359738368) → (cat e128 N).length ≤ 5 * N.length
  | [], _ => by simp [cat]
  | x :: r, h => by
    have h1 := e128_len x (h x List.mem_cons_self)
    have h2 := cat128_len r (fun v hv => h v (List.mem_cons_of_mem _ hv))
    simp only [cat, List.length_append, List.length_cons]
    omega
theorem enc_len {l : List UInt8} {a : List Nat} (h : Oid l a) : (enc a).length ≤ 55 := by
  obtain ⟨h1, h2, h3, h4⟩ := (good_nums h.1).1
  have h5 := cat128_len (numsOf a) (fun v hv => by
    generalize numsOf a = N at hv h3 h4
    cases N with
    | nil => cases hv
    | cons x r =>
      rcases List.mem_cons.1 hv with rfl | hv
      · have : v ≤ 2147483727 := h3
        omega
      · have := h4 v hv
        omega)
  show (cat e128 (numsOf a)).length ≤ 55
  omega
theorem oidS_size (s : ByteArray) : (oidS s).size ≤ 55 := by
  rcases oid_or s.data.toList with ⟨a, h⟩ | h
  · rw [oidS_yes h, strOf_size]; exact enc_len h
  · rw [oidS_no h]; show 0 ≤ _; omega
set_option maxRecDepth 100000 in
set_option maxHeartbeats 1000000 in
theorem roid_any (s : ByteArray) (w : World) (hs : s.size ≤ 1099511627) :
    Calls Tryz.prog 126 #[.string s] w fun e w' => e = .returned (.string (wr1 6 (oidS s))) ∧ Below w.heap.size w w' := by
  have H := Lib.hid (fun W => renc_any' s W hs)
  have HZ := Lib.hid (show (oidS s).size ≤ 1099511627776 from Nat.le_trans (oidS_size s) (by omega))
  obtain ⟨c, hc⟩ : ∃ c, c = oidS s := ⟨_, rfl⟩
  rw [← hc] at H HZ ⊢
  have HC := Lib.hid (fun g W h => rw1 6 g c W h HZ.out)
  clear hc hs
  go_enter Tryz.func126, Tryz.ntmps126
  go_wp2_with (first
    | (go_at_call 149; (with_reducible refine (H.out _).mono ?_); rintro e w1 ⟨⟨er, rfl⟩, hb⟩; have HB := Lib.hid hb; clear hb)
    | (go_at_call 37; (with_reducible refine (HC.out _ _ (bx1 _ _ _)).mono ?_); rintro e w2 ⟨rfl, hb⟩; have HB2 := Lib.hid (below_next HB.out (below_next (belowNew _ _) hb)); clear hb))
  go_ret
  exact ⟨rfl, HB2.out⟩

set_option maxRecDepth 100000 in
set_option maxHeartbeats 8000000 in
theorem enca_any (a : At) (w : World) (hs : a.1.size ≤ 1099511627) :
    Calls Tryz.prog 147 #[atV a] w fun e w' => e = .returned (.string (encA a)) ∧ Below w.heap.size w w' := by
  obtain ⟨t, kd, v⟩ := a
  have H := Lib.hid (fun W => denc_any t W hs)
  unfold encA atV
  simp only
  obtain ⟨c, hc⟩ : ∃ c, c = oidS t := ⟨_, rfl⟩
  rw [← hc] at H ⊢
  obtain ⟨e1, he1⟩ : ∃ e1, e1 = wr1 6 c := ⟨_, rfl⟩
  obtain ⟨e2, he2⟩ : ∃ e2, e2 = wr1 kd v := ⟨_, rfl⟩
  have H1 := Lib.hid (fun g W h => dw1 6 g c W h)
  have H2 := Lib.hid (fun g W h => dw1 kd g v W h)
  rw [← he1] at H1
  rw [← he2] at H2
  rw [← he1, ← he2]
  have H3 := Lib.hid (fun g W h k => dw2 48 g e1 e2 W h k)
  have HZ := Lib.hid (belowNew w (.cells #[.string t, .int .i64 kd, .string v] 86))
  have HW := Lib.hid (at_facts (heap_alloc_new w (.cells #[.string t, .int .i64 kd, .string v] 86)))
  clear hc he1 he2 hs
  go_enter Tryz.func147, Tryz.ntmps147
  go_wp2_with (go_at_call 168; (with_reducible refine (H.out _).mono ?_); rintro e w1 ⟨⟨er, rfl⟩, hb⟩; have HB := Lib.hid hb; clear hb)
  obtain ⟨g, hg⟩ : ∃ g, g = w.heap.size := ⟨_, rfl⟩
  obtain ⟨c0, c1, c2, _, _, _, hlt⟩ := HW.out
  have d1 : w1.cell? ⟨g, 1, none⟩ = some (.int .i64 kd) := by rw [hg]; exact (HB.out.cell (p := ⟨w.heap.size, 1, none⟩) hlt).trans c1
  have d2 : w1.cell? ⟨g, 2, none⟩ = some (.string v) := by rw [hg]; exact (HB.out.cell (p := ⟨w.heap.size, 2, none⟩) hlt).trans c2
  have hltg : g < w1.heap.size := block_lt d1
  have HB1 := Lib.hid (below_next HZ.out HB.out)
  have HG := Lib.hid hg
  rw [← hg]
  clear c0 c1 c2 hlt hg HW HB HZ
  go_region_held3 (fun w' => w'.cell? ⟨g, 1, none⟩ = some (.int .i64 kd) ∧ w'.cell? ⟨g, 2, none⟩ = some (.string v)) (first | exact ⟨by assumption, by assumption⟩ | go_keep)
    (first
      | (go_at_call 123; (with_reducible refine (H1.out _ _ (by first | exact bx1 _ _ _ | exact bx1d _ _ _ | exact bx2 _ _ _ _ | exact bx2d _ _ _ _ | exact bx3 _ _ _ _ | exact bx3d _ _ _ _ | assumption)).mono ?_); rintro e x1 ⟨rfl, hb⟩; have hx : Below w1.heap.size w1 x1 := (by first | exact below_next (belowNew w1 _).drew hb | exact below_next (belowTwo w1 _ _).drew hb | exact below_next (belowNew w1 _) hb | exact below_next (belowTwo w1 _ _) hb | exact below_next HX2.out hb | exact below_next (below_next HX2.out (belowNew x2 _)) hb); have d1' := (hx.cell (p := ⟨g, 1, none⟩) hltg).trans d1; have d2' := (hx.cell (p := ⟨g, 2, none⟩) hltg).trans d2; (try (have rv := (hb.cell (p := ⟨w1.heap.size, 0, none⟩) (by simp <;> omega)).trans (bx2d w1 v 9 _))); (try (have rv := (hb.cell (p := ⟨w1.heap.size + 1, 0, none⟩) (by simp <;> omega)).trans (bx3d w1 v 9 _))); have HX1 := Lib.hid hx; clear hb hx)
      | (go_at_call 123; (with_reducible refine (H2.out _ _ (by first | exact bx1 _ _ _ | exact bx1d _ _ _ | exact bx2 _ _ _ _ | exact bx2d _ _ _ _ | exact bx3 _ _ _ _ | exact bx3d _ _ _ _ | assumption)).mono ?_); rintro e x2 ⟨rfl, hb⟩; have hx : Below w1.heap.size w1 x2 := (by first | exact below_next (belowNew w1 _).drew hb | exact below_next (belowTwo w1 _ _).drew hb | exact below_next (belowNew w1 _) hb | exact below_next (belowTwo w1 _ _) hb | exact below_next HX1.out hb | exact below_next (below_next HX1.out (belowNew x1 _)) hb); have d1' := (hx.cell (p := ⟨g, 1, none⟩) hltg).trans d1; have d2' := (hx.cell (p := ⟨g, 2, none⟩) hltg).trans d2; (try (have rv := (hb.cell (p := ⟨w1.heap.size, 0, none⟩) (by simp <;> omega)).trans (bx2d w1 c 9 _))); (try (have rv := (hb.cell (p := ⟨w1.heap.size + 1, 0, none⟩) (by simp <;> omega)).trans (bx3d w1 c 9 _))); have HX2 := Lib.hid hx; clear hb hx)
      | (go_at_call 123; (with_reducible refine (H3.out _ _ (by first | exact by0 _ _ _ _ | exact by0d _ _ _ _) (by first | exact by1 _ _ _ _ | exact by1d _ _ _ _)).mono ?_); rintro e x3 ⟨rfl, hb⟩; have hx : Below w1.heap.size w1 x3 := (by first | exact below_next (below_next HX1.out (belowNew x1 _)) hb | exact below_next (below_next HX2.out (belowNew x2 _)) hb); have d1' := (hx.cell (p := ⟨g, 1, none⟩) hltg).trans d1; have d2' := (hx.cell (p := ⟨g, 2, none⟩) hltg).trans d2; have HX3 := Lib.hid hx; clear hb hx))
  all_goals go_wp2_with fail
  all_goals go_ret
  all_goals exact ⟨rfl, below_next HB1.out HX3.out⟩
end Go.Proofs.YtbpdenfiifcfcaaGreatDoor
namespace Go.Proofs.YtbpdenfiifcfcaaGreatDoor
open Go.RowKit

/-- A row of n strings, the first of which are those of L. -/
def rowT (n : Nat) (L : List ByteArray) : Array Value := (L.map Value.string ++ List.replicate (n - L.length) (Value.string ⟨#[]⟩)).toArray
theorem rowT_size (n : Nat) (L : List ByteArray) (h : L.length ≤ n) : (rowT n L).size = n := by
  simp [rowT]; omega
theorem rowT_snoc (n : Nat) (L : List ByteArray) (s : ByteArray) (k : Nat) (hk : k = L.length) (h : k < n) : (rowT n L).setIfInBounds k (.string s) = rowT n (L ++ [s]) := by
  subst hk
  apply Array.ext
  · rw [Array.size_setIfInBounds, rowT_size n L (by omega), rowT_size n _ (by simp; omega)]
  · intro i h1 h2
    rw [Array.size_setIfInBounds, rowT_size n L (by omega)] at h1
    by_cases hi : L.length = i
    · subst hi
      rw [Array.getElem_setIfInBounds_self]
      simp [rowT]
    · rw [Array.getElem_setIfInBounds_ne (by rw [rowT_size n L (by omega)]; exact h1) hi]
      simp only [rowT, List.getElem_toArray]
      rcases Nat.lt_or_ge i L.length with hl | hl
      · rw [List.getElem_append_left (by simpa using hl), List.getElem_append_left (by simp; omega)]
        simp [hl]
      · rw [List.getElem_append_right (by simpa using hl), List.getElem_append_right (by simp; omega)]
        simp
theorem rowT_nil (n : Nat) : rowT n [] = (List.replicate n (Value.string ⟨#[]⟩)).toArray := by simp [rowT]
theorem rowT_all (n : Nat) (L : List ByteArray) (h : L.length = n) : rowT n L = (L.map Value.string).toArray := by simp [rowT, h]
theorem rowT_at (n : Nat) (L : List ByteArray) (h : L.length ≤ n) (i : Nat) (hi : i < n) : ∃ v, (rowT n L)[i]? = some v :=
  ⟨_, Array.getElem?_eq_getElem (by rw [rowT_size n L h]; exact hi)⟩
theorem strInfo2 : (Tryz.prog.info? 9).map (fun i => (i.zero, i.size, i.bytes)) = some (some (.string ⟨#[]⟩), 1, 16) := by kernel_rfl
theorem strs_make (n : Nat) (hn : n ≤ 1000000) (W : World) : (Instr.makeSlice 46 (.int .i64 (n : Int)) (.int .i64 (n : Int))).run Tryz.prog W = .ok (.slice (some ⟨W.heap.size, 0, none⟩) n n) (W.alloc (.cells (rowT n []) 9)) := by
  obtain ⟨i0, hi, hz0, hz1, hz2⟩ := info_parts strInfo2
  have hr := run_makeSlice (P := Tryz.prog) W 46 9 i0 (.string ⟨#[]⟩) Tryz.underlying46 hi hz0 .i64 .i64 (n : Int) (n : Int) (by omega) (Int.le_refl _) (by rw [hz1]; simp; omega) (by rw [hz2]; omega) (by omega)
  rw [hr]
  have e2 : madeCells (Value.string ⟨#[]⟩).cells ((n : Int).toNat * i0.size) = rowT n [] := by
    rw [hz1, rowT_nil]
    apply Array.ext
    · simp [madeCells, Value.cells]
    · intro i h1 h2
      simp [madeCells, Value.cells, Nat.mod_one]
  rw [e2]
  simp
theorem row_put {w : World} {g n k : Nat} {L : List ByteArray} {s : ByteArray} {T : TypeId} (h : w.heap[g]? = some (.cells (rowT n L) T (0, 0))) (hk : k = L.length) (hn : k < n) :
    (w.setCell ⟨g, k, none⟩ (.string s)).heap[g]? = some (.cells (rowT n (L ++ [s])) T (0, 0)) := by
  rw [← rowT_snoc n L s k hk hn]
  simp [World.setCell, Array.getElem?_modify, h]
theorem row_reads {w : World} {g n : Nat} {L : List ByteArray} {T : TypeId} (h : w.heap[g]? = some (.cells (rowT n L) T (0, 0))) (hl : L.length = n) : Reads w (.slice (some ⟨g, 0, none⟩) n n) L := by
  refine ⟨_, n, by rw [hl], .inr ⟨g, 0, rfl, fun i hi => ?_⟩⟩
  rw [Lib.cell_of_heap h, rowT_all n L hl]
  simp only [Nat.zero_add, List.getElem?_toArray, List.getElem?_map]
  rw [List.getElem?_eq_getElem hi, List.getD_eq_getElem?_getD, List.getElem?_eq_getElem hi]
  rfl
theorem cat_len : ∀ (ss : List ByteArray), (∀ s ∈ ss, s.size ≤ 131080) → (cat_t ss).length ≤ 131080 * ss.length
  | [], _ => by simp [cat_t]
  | s :: r, h => by
    have h1 : s.data.toList.length ≤ 131080 := h s List.mem_cons_self
    have h2 := cat_len r (fun x hx => h x (List.mem_cons_of_mem _ hx))
    have e : cat_t (s :: r) = s.data.toList ++ cat_t r := by simp [cat_t]
    rw [e, List.length_append, List.length_cons]
    omega
theorem encA_size (a : At) : (encA a).size ≤ 131080 := wrapStr_size _ _
theorem encR_size (r : List At) : (encR r).size ≤ 131080 := wrapStr_size _ _
theorem encs_cat (r : List At) (n : Nat) (h : r.length = n) (hn : n ≤ 1000) : (cat_t (r.map encA)).length ≤ 1099511627776 := by
  have := cat_len (r.map encA) (fun s hs => by obtain ⟨a, _, rfl⟩ := List.mem_map.1 hs; exact encA_size a)
  rw [List.length_map] at this
  omega

set_option maxRecDepth 100000 in
set_option maxHeartbeats 4000000 in
theorem encrel_any (a0 : Option Addr) (c n : Nat) (l : List At) (w : World) (h : ALies w a0 l) (hn : n = l.length) (hs : SmallR l) (hl : n ≤ 1000) :
    Calls Tryz.prog 122 #[.slice a0 n c] w fun e w' => e = .returned (.string (encR l)) ∧ Below w.heap.size w w' := by
  have hmk := strs_make n (by omega)
  obtain ⟨W0, hW0⟩ : ∃ W0, W0 = w.alloc (.cells (rowT n []) 9) := ⟨_, rfl⟩
  have hb0 : Below w.heap.size w W0 := by rw [hW0]; exact belowNew w _
  have hq0 : W0.heap[w.heap.size]? = some (.cells (rowT n []) 9 (0, 0)) := by rw [hW0]; exact heap_alloc_new w _
  obtain ⟨g, hg⟩ : ∃ g, g = w.heap.size := ⟨_, rfl⟩
  have HWE := Lib.hid hW0.symm
  have HB0 := Lib.hid hb0
  rw [← hg] at hq0
  have HQ0 := Lib.hid hq0
  have HG := Lib.hid hg
  have H1 := Lib.hid h
  have HN := Lib.hid hn
  have HS := Lib.hid hs
  obtain ⟨oo, hoo⟩ : ∃ oo, oo = (⟨(ordL (lists (l.map encA))).flatten.toArray⟩ : ByteArray) := ⟨_, rfl⟩
  have HOR := Lib.hid (fun v W (hv : Reads W v (l.map encA)) => order_any v (l.map encA) W hv (by rw [List.length_map]; omega) (encs_cat l n hn.symm hl))
  unfold encR
  rw [← hoo] at HOR ⊢
  clear h hn hs hW0 hb0 hq0 hg hoo
  go_enter Tryz.func122, Tryz.ntmps122
  go_wp2_with fail
  rw [HWE.out, ← HG.out]
  clear hmk
  go_loopw [11] (fun i wr => ∃ k : Nat, k ≤ n ∧ i = .int .i64 (k : Int) ∧ wr.heap[g]? = some (.cells (rowT n ((l.take k).map encA)) 9 (0, 0)) ∧ Below w.heap.size w wr) (fun i _ => n - (intOf i).toNat)
  case atStart => exact ⟨0, Nat.zero_le _, rfl, HQ0.out, HB0.out⟩
  case round =>
    obtain ⟨k, hk, rfl, hq, hb⟩ := hrel
    have HB := Lib.hid hb
    have HQ := Lib.hid hq
    clear hb hq
    by_cases hlt : k < n
    · have hd : decide ((k : Int) < (n : Int)) = true := by simp; omega
      obtain ⟨b, o, rfl, hb, c0, c1, c2⟩ := H1.out.at k (by rw [← HN.out]; exact hlt)
      have a0 : wr.cell? ⟨b, o + k * 3, none⟩ = _ := (HB.out.cell (p := ⟨b, o + k * 3, none⟩) hb).trans c0
      have a1 : wr.cell? ⟨b, o + k * 3 + 1, none⟩ = _ := (HB.out.cell (p := ⟨b, o + k * 3 + 1, none⟩) hb).trans c1
      have a2 : wr.cell? ⟨b, o + k * 3 + 2, none⟩ = _ := (HB.out.cell (p := ⟨b, o + k * 3 + 2, none⟩) hb).trans c2
      have hst : (l.take (k + 1)).map encA = (l.take k).map encA ++ [encA (l.getD k noAt)] := by rw [takeD l k (by rw [← HN.out]; exact hlt) noAt]; simp
      have hsm := HS.out.2 k (by rw [← HN.out]; exact hlt)
      generalize l.getD k noAt = y at a0 a1 a2 hst hsm
      obtain ⟨t, kd, v⟩ := y
      have HEN := Lib.hid (fun W => enca_any (t, kd, v) W (Nat.le_trans hsm.1 (by omega)))
      unfold atV at HEN
      simp only at HEN
      obtain ⟨s, hs⟩ : ∃ s, s = encA (t, kd, v) := ⟨_, rfl⟩
      rw [← hs] at HEN hst
      have HST := Lib.hid hst
      have hll : k = ((l.take k).map encA).length := by rw [List.length_map, List.length_take, ← HN.out]; omega
      have HLL := Lib.hid hll
      have hgl : g < wr.heap.size := (Array.getElem?_eq_some_iff.1 HQ.out).1
      clear c0 c1 c2 hb hsm hs hst hll
      go_wp2_with (go_at_call 147; (with_reducible refine (HEN.out _).mono ?_); rintro e w1 ⟨rfl, hb1⟩; have hq1 := (hb1.block g (by simp; omega)).trans (((belowNew wr _).block g hgl).trans HQ.out); have HQ1 := Lib.hid hq1; have HB1 := Lib.hid (below_next HB.out (below_next (belowNew wr _) hb1)); obtain ⟨cv, hcv⟩ := rowT_at n ((l.take k).map encA) (by have := HLL.out; omega) k hlt; have hcell : w1.cell? ⟨g, k, none⟩ = some cv := (by rw [Lib.cell_of_heap hq1]; exact hcv); have hfz : w1.frozen? ⟨g, k, none⟩ = false := Lib.frozen_of_heap hq1 k; clear hb1 hq1 hcv)
      go_roundw
      case rel => exact ⟨k + 1, by omega, by go_num, by rw [HST.out]; exact row_put HQ1.out HLL.out hlt, HB1.out.setCell (p := ⟨g, k, none⟩) (by rw [HG.out]; exact Nat.le_refl _) _⟩
      case measure => simp [intOf]; omega
    · have hd : decide ((k : Int) < (n : Int)) = false := by simp; omega
      have hR := row_reads HQ.out (by rw [List.length_map, List.length_take, ← HN.out]; omega)
      rw [List.take_of_length_le (by rw [← HN.out]; omega)] at hR
      have HR := Lib.hid hR
      have H1w := Lib.hid (fun g x W h => dw1 49 g x W h)
      clear hR
      go_wp2_with (first
        | (go_at_call 148; (with_reducible refine (HOR.out _ _ HR.out).mono ?_); rintro e w1 ⟨rfl, hb1⟩; have HB1 := Lib.hid (below_next HB.out hb1); clear hb1)
        | (go_at_call 123; (with_reducible refine (H1w.out _ _ _ (bx1 _ _ _)).mono ?_); rintro e w2 ⟨rfl, hb2⟩; have HB2 := Lib.hid (below_next HB1.out (below_next (belowNew _ _) hb2)); clear hb2))
      go_ret
      exact ⟨rfl, HB2.out⟩
end Go.Proofs.YtbpdenfiifcfcaaGreatDoor
namespace Go.Proofs.YtbpdenfiifcfcaaGreatDoor
open Go.RowKit

theorem chkRs_zero : ∀ {n : Nm}, chkRs n = 0 → ∀ i, i < n.length → chkR (n.getD i []) = 0
  | [], _, i, hi => absurd hi (Nat.not_lt_zero _)
  | r :: n, h, i, hi => by
    unfold chkRs at h
    by_cases hr : chkR r = 0
    · rw [if_pos hr] at h
      cases i with
      | zero => exact hr
      | succ i => exact chkRs_zero h i (by simpa using hi)
    · rw [if_neg hr] at h
      exact absurd h hr
theorem chkN_zero {n : Nm} (h : chkN n = 0) : n.length ≤ 8 ∧ ∀ i, i < n.length → chkR (n.getD i []) = 0 := by
  unfold chkN at h
  split at h
  · cases h
  · exact ⟨by omega, chkRs_zero h⟩
theorem chkR_zero {r : List At} (h : chkR r = 0) : 1 ≤ r.length ∧ r.length ≤ 4 ∧ chkL [] r = 0 := by
  unfold chkR at h
  split at h
  · cases h
  · split at h
    · cases h
    · exact ⟨by omega, by omega, h⟩
/-- What Encode answers. -/
noncomputable def encV (n : Nm) : ByteArray := if chkN n = 0 then encN n else ⟨#[]⟩
set_option maxRecDepth 100000 in
set_option maxHeartbeats 4000000 in
theorem encode_core (a0 : Option Addr) (c m : Nat) (n : Nm) (w : World) (h : RLies w a0 n) (hn : m = n.length) (hs : SmallN n) (hT : Tab w) :
    Calls Tryz.prog 101 #[.agg #[.slice a0 m c]] w fun e w' => e = .returned (.tuple #[.string (encV n), .int .i64 ((chkN n : Nat) : Int)]) ∧ Below w.heap.size w w' := by
  obtain ⟨W0, hW0⟩ : ∃ W0, W0 = w.alloc (.cells #[.slice a0 m c] 27) := ⟨_, rfl⟩
  have hwr : w.alloc (.cells #[.slice a0 m c] 27) = W0 := hW0.symm
  have hb0 : Below w.heap.size w W0 := by rw [hW0]; exact belowNew w _
  have hq0 : W0.heap[w.heap.size]? = some (.cells #[.slice a0 m c] 27 (0, 0)) := by rw [hW0]; exact heap_alloc_new w _
  have hz0 : W0.heap.size = w.heap.size + 1 := by rw [hW0]; simp
  have HC := Lib.hid (chk_core a0 c m n W0 (h.below hb0) hn hs (hT.below hb0))
  obtain ⟨E, hE⟩ : ∃ E, E = chkN n := ⟨_, rfl⟩
  obtain ⟨V, hV⟩ : ∃ V, V = encV n := ⟨_, rfl⟩
  rw [← hE] at HC ⊢
  rw [← hV]
  have HB0 := Lib.hid hb0
  have HQ0 := Lib.hid hq0
  obtain ⟨c0, f0, l0⟩ := one_facts hq0
  by_cases hz : E = 0
  · have hch := chkN_zero (hE.symm.trans hz)
    have HV := Lib.hid (show V = wrapStr 48 (cat_t (n.map encR)) by rw [hV]; unfold encV; rw [← hE, if_pos hz]; rfl)
    have H1 := Lib.hid h
    have HN := Lib.hid hn
    have HS := Lib.hid hs
    have HCH := Lib.hid hch.2
    have hm8 : m ≤ 8 := by rw [hn]; exact hch.1
    have hmk := strs_make m (by omega)
    have HDW := Lib.hid (fun g W (hv : Reads W (.slice (some ⟨g, 0, none⟩) m m) (n.map encR)) => dwrap_any 48 _ m m (n.map encR) W hv (by rw [List.length_map, ← hn]; omega))
    subst hz
    clear hE hV hn hs hch h hT hW0 hb0 hq0
    go_enter Tryz.func101, Tryz.ntmps101
    go_wp2_with (go_at_call 85; (with_reducible refine HC.out.mono ?_); rintro e w1 ⟨rfl, hb1⟩; have HB1 := Lib.hid (below_next HB0.out hb1); have hq1 := (hb1.block w.heap.size l0).trans HQ0.out; have HQ1 := Lib.hid hq1; obtain ⟨c1, f1, l1⟩ := one_facts hq1; clear hb1 hq1)
    obtain ⟨W2, hW2⟩ : ∃ W2, W2 = w1.alloc (.cells (rowT m []) 9) := ⟨_, rfl⟩
    have hb2 : Below w1.heap.size w1 W2 := by rw [hW2]; exact belowNew w1 _
    have hq2 : W2.heap[w1.heap.size]? = some (.cells (rowT m []) 9 (0, 0)) := by rw [hW2]; exact heap_alloc_new w1 _
    rw [← hW2]
    obtain ⟨g, hg⟩ : ∃ g, g = w1.heap.size := ⟨_, rfl⟩
    rw [← hg] at hq2 ⊢
    have HB2 := Lib.hid (below_next HB1.out hb2)
    have HQ2 := Lib.hid hq2
    have hwg : w.heap.size ≤ g := by rw [hg]; exact HB1.out.size
    clear hmk hb2 hq2 hW2 hg c0 f0 l0 c1 f1 l1 hwr
    go_loopw [20] (fun i wr => ∃ k : Nat, k ≤ m ∧ i = .int .i64 (k : Int) ∧ wr.heap[g]? = some (.cells (rowT m ((n.take k).map encR)) 9 (0, 0)) ∧ Below w.heap.size w wr) (fun i _ => m - (intOf i).toNat)
    case atStart => exact ⟨0, Nat.zero_le _, rfl, HQ2.out, HB2.out⟩
    case round =>
      obtain ⟨k, hk, rfl, hq, hb⟩ := hrel
      have HB := Lib.hid hb
      have HQ := Lib.hid hq
      clear hb hq
      by_cases hlt : k < m
      · have hd : decide ((k : Int) < (m : Int)) = true := by simp; omega
        obtain ⟨b, o, rfl, hb, a', c', e0, hc', hL⟩ := H1.out.at k (by rw [← HN.out]; exact hlt)
        have a0 : wr.cell? ⟨b, o + k, none⟩ = _ := (HB.out.cell (p := ⟨b, o + k, none⟩) hb).trans e0
        have hst : (n.take (k + 1)).map encR = (n.take k).map encR ++ [encR (n.getD k [])] := by rw [takeD n k (by rw [← HN.out]; exact hlt) []]; simp
        have hsm := HS.out.2 k (by rw [← HN.out]; exact hlt)
        have hrz := (chkR_zero (HCH.out k (by rw [← HN.out]; exact hlt))).2.1
        generalize n.getD k [] = r at a0 hst hsm hc' hL hrz
        obtain ⟨q, hqq⟩ : ∃ q, q = r.length := ⟨_, rfl⟩
        rw [← hqq] at a0 hc'
        have HEN := Lib.hid (encrel_any a' c' q r wr (hL.below HB.out) hqq hsm (by omega))
        obtain ⟨s, hs⟩ : ∃ s, s = encR r := ⟨_, rfl⟩
        rw [← hs] at HEN hst
        have HST := Lib.hid hst
        have HLL := Lib.hid (show k = ((n.take k).map encR).length by rw [List.length_map, List.length_take, ← HN.out]; omega)
        have hgl : g < wr.heap.size := (Array.getElem?_eq_some_iff.1 HQ.out).1
        clear e0 hb hsm hs hst hrz hqq hL hc'
        go_wp2_with (go_at_call 122; (with_reducible refine HEN.out.mono ?_); rintro e w3 ⟨rfl, hb3⟩; have hq3 := (hb3.block g hgl).trans HQ.out; have HQ3 := Lib.hid hq3; have HB3 := Lib.hid (below_next HB.out hb3); obtain ⟨cv, hcv⟩ := rowT_at m ((n.take k).map encR) (by have := HLL.out; omega) k hlt; have hcell : w3.cell? ⟨g, k, none⟩ = some cv := (by rw [Lib.cell_of_heap hq3]; exact hcv); have hfz : w3.frozen? ⟨g, k, none⟩ = false := Lib.frozen_of_heap hq3 k; clear hb3 hq3 hcv)
        go_roundw
        case rel => exact ⟨k + 1, by omega, by go_num, by rw [HST.out]; exact row_put HQ3.out HLL.out hlt, HB3.out.setCell (p := ⟨g, k, none⟩) hwg _⟩
        case measure => simp [intOf]; omega
      · have hd : decide ((k : Int) < (m : Int)) = false := by simp; omega
        have hR := row_reads HQ.out (by rw [List.length_map, List.length_take, ← HN.out]; omega)
        rw [List.take_of_length_le (by rw [← HN.out]; omega)] at hR
        have HR := Lib.hid (HDW.out _ _ hR)
        rw [← HV.out] at HR
        clear hR
        go_wp2_with (go_at_call 123; (with_reducible refine HR.out.mono ?_); rintro e w1 ⟨rfl, hb1⟩; have HB1 := Lib.hid (below_next HB.out hb1); clear hb1)
        go_ret2
        exact ⟨rfl, HB1.out⟩
  · have hz1 := errno_ne hz
    have HV := Lib.hid (show V = ⟨#[]⟩ by rw [hV]; unfold encV; rw [← hE, if_neg hz])
    clear hE hV hn hs h hT hW0 hb0 hq0
    rw [HV.out]
    go_enter Tryz.func101, Tryz.ntmps101
    go_wp2_with (go_at_call 85; (with_reducible refine HC.out.mono ?_); rintro e w1 ⟨rfl, hb1⟩; have HB1 := Lib.hid (below_next HB0.out hb1); clear hb1)
    go_ret2
    exact ⟨rfl, HB1.out⟩
end Go.Proofs.YtbpdenfiifcfcaaGreatDoor
namespace Go.Proofs.YtbpdenfiifcfcaaGreatDoor
open Go.RowKit

set_option maxRecDepth 100000 in
set_option maxHeartbeats 4000000 in
theorem rchk_core (a0 : Option Addr) (c m : Nat) (n : Nm) (w : World) (h : RLies w a0 n) (hn : m = n.length) (hs : SmallN n) :
    Calls Tryz.prog 62 #[.agg #[.slice a0 m c]] w fun e w' => e = .returned (.int .i64 ((chkN n : Nat) : Int)) ∧ Below w.heap.size w w' := by
  by_cases h4 : 8 < m
  · have e : chkN n = 2 := by unfold chkN; rw [if_pos (by omega)]
    have d4 : decide ((8 : Int) < (m : Int)) = true := by simp; omega
    rw [e]
    clear e hn h hs h4
    go_enter Tryz.func62, Tryz.ntmps62
    go_wp2_with fail
    go_ret
    exact ⟨rfl, belowNew w _⟩
  have d4 : decide ((8 : Int) < (m : Int)) = false := by simp; omega
  have e : chkN n = chkRs n := by unfold chkN; rw [if_neg (by omega)]
  rw [e]
  have hL : m ≤ 1000000 := by omega
  obtain ⟨E, hE⟩ : ∃ E, E = chkRs n := ⟨_, rfl⟩
  rw [← hE]
  have HE := Lib.hid hE
  have H1 := Lib.hid h
  have HN := Lib.hid hn
  have HS := Lib.hid hs
  clear h hn hs e hE h4
  go_enter Tryz.func62, Tryz.ntmps62
  go_wp2_with fail
  go_loopw [13] (fun i wr => ∃ k : Nat, k ≤ m ∧ i = .int .i64 k ∧ E = chkRs (n.drop k) ∧ Below w.heap.size w wr) (fun i _ => m - (intOf i).toNat)
  case atStart => exact ⟨0, Nat.zero_le _, rfl, by rw [List.drop_zero]; exact HE.out, belowNew w _⟩
  case round =>
    obtain ⟨k, hk, rfl, hA, hb⟩ := hrel
    have HB := Lib.hid hb
    have HA := Lib.hid hA
    clear hb hA
    by_cases hlt : k < m
    · have hd : decide ((k : Int) < (m : Int)) = true := by simp; omega
      obtain ⟨b, o, rfl, hb, a', c', c0, hc', hL2⟩ := H1.out.at k (by rw [← HN.out]; exact hlt)
      have a0 : wr.cell? ⟨b, o + k, none⟩ = _ := (HB.out.cell (p := ⟨b, o + k, none⟩) hb).trans c0
      have HST := Lib.hid (chkRs_step n k (by rw [← HN.out]; exact hlt))
      have hsm := HS.out.2 k (by rw [← HN.out]; exact hlt)
      generalize n.getD k [] = r at a0 HST hsm hc' hL2
      obtain ⟨q, hq⟩ : ∃ q, q = r.length := ⟨_, rfl⟩
      rw [← hq] at a0 hc'
      have HCK := Lib.hid (rchkL_any a' c' q r wr (hL2.below HB.out) hq hsm)
      by_cases hq0 : q = 0
      · have e : chkR r = 14 := by unfold chkR; rw [if_pos (by omega)]
        have HF := Lib.hid (show E = 14 by rw [HA.out, HST.out, e]; rfl)
        have dq : ((q : Int) == 0) = true := beq_iff_eq.2 (by omega)
        clear c0 hb hsm hq hL2 hc' HCK e hq0 HST
        go_wp2_with fail
        go_ret
        exact ⟨by rw [HF.out]; rfl, HB.out⟩
      have dq : ((q : Int) == 0) = false := beq_eq_false_iff_ne.2 (by omega)
      by_cases hq4 : 4 < q
      · have e : chkR r = 2 := by unfold chkR; rw [if_neg (by omega), if_pos (by omega)]
        have HF := Lib.hid (show E = 2 by rw [HA.out, HST.out, e]; rfl)
        have dq4 : decide ((4 : Int) < (q : Int)) = true := by simp; omega
        clear c0 hb hsm hq hL2 hc' HCK e hq0 HST hq4
        go_wp2_with fail
        go_ret
        exact ⟨by rw [HF.out]; rfl, HB.out⟩
      have dq4 : decide ((4 : Int) < (q : Int)) = false := by simp; omega
      have e : chkR r = chkL [] r := by unfold chkR; rw [if_neg (by omega), if_neg (by omega)]
      obtain ⟨Z, hZ⟩ : ∃ Z, Z = chkL [] r := ⟨_, rfl⟩
      rw [← hZ] at e HCK
      rw [e] at HST
      clear c0 hb hsm hZ hq hL2 hc' hq0 hq4 e
      by_cases hz : Z = 0
      · subst hz
        have HF := Lib.hid (show E = chkRs (n.drop (k + 1)) by rw [HA.out, HST.out, if_pos rfl])
        go_wp2_with (go_at_call 89; (with_reducible refine HCK.out.mono ?_); rintro e w1 ⟨rfl, hb1⟩; have HB1 := Lib.hid (below_next HB.out hb1); clear hb1)
        go_roundw
        case rel => exact ⟨k + 1, by omega, by go_num, HF.out, HB1.out⟩
        case measure => simp [intOf]; omega
      · have HF := Lib.hid (show E = Z by rw [HA.out, HST.out, if_neg hz])
        have hz1 := errno_ne hz
        go_wp2_with (go_at_call 89; (with_reducible refine HCK.out.mono ?_); rintro e w1 ⟨rfl, hb1⟩; have HB1 := Lib.hid (below_next HB.out hb1); clear hb1)
        go_ret
        exact ⟨by rw [HF.out]; rfl, HB1.out⟩
    · have hd : decide ((k : Int) < (m : Int)) = false := by simp; omega
      have HF := Lib.hid (show E = 0 by rw [HA.out, chkRs_end _ _ (by rw [← HN.out]; omega)])
      go_wp2_with fail
      go_ret
      exact ⟨by rw [HF.out]; rfl, HB.out⟩
end Go.Proofs.YtbpdenfiifcfcaaGreatDoor
