/-
  The encodings of attributes, relative names and names; the contracts of the program's and the reference's wrap, OID and encodeAttribute.
  The contracts of encodeAttribute, and of the reference's OID.
-/
import Derived.Test.YtfpfgdbfigdooaaGreatDoorCaw
import Derived.Test.YtfpfgdbfigdooaaGreatDoorCas
import Derived.Test.YtfpfgdbfigdooaaGreatDoorCbe
import Derived.Test.YtfpfgdbfigdooaaGreatDoorCbk
import Derived.Test.YtfpfgdbfigdooaaGreatDoorCbl
import Derived.Test.YtfpfgdbfigdooaaGreatDoorCbo
import Derived.Test.YtfpfgdbfigdooaaGreatDoorCbb
import Derived.Test.YtfpfgdbfigdooaaGreatDoorCap
import Derived.Deep.RegionHeld3
namespace Go.Proofs.YtfpfgdbfigdooaaGreatDoor
open Go.RowKit

/-- The contents of the element of an object identifier. -/
noncomputable def oidS (s : ByteArray) : ByteArray := @dite _ (∃ a, Oid s.data.toList a) (Classical.propDecidable _) (fun h => strOf (enc h.choose)) (fun _ => ⟨#[]⟩)
theorem oidS_yes {s : ByteArray} {a : List Nat} (h : Oid s.data.toList a) : oidS s = strOf (enc a) := by
  have hx : ∃ a, Oid s.data.toList a := ⟨a, h⟩
  unfold oidS
  rw [dif_pos hx, oid_one hx.choose_spec h]
theorem oidS_no {s : ByteArray} (h : ∀ a, ¬ Oid s.data.toList a) : oidS s = ⟨#[]⟩ := by
  unfold oidS
  rw [dif_neg (fun ⟨a, k⟩ => h a k)]
/-- The element with the identifier octet T and the contents x. -/
def wr1 (T : Int) (x : ByteArray) : ByteArray := wrapStr T x.data.toList
def wr2 (T : Int) (x y : ByteArray) : ByteArray := wrapStr T (x.data.toList ++ y.data.toList)
noncomputable def encA (a : At) : ByteArray := wr2 48 (wr1 6 (oidS a.1)) (wr1 a.2.1 a.2.2)
noncomputable def encR (r : List At) : ByteArray := wr1 49 ⟨(ordL (lists (r.map encA))).flatten.toArray⟩
noncomputable def encN (n : Nm) : ByteArray := wrapStr 48 (cat_t (n.map encR))

/-! ### Slices of one and of two strings -/
theorem reads_one {w : World} {g : Nat} {x : ByteArray} (h : w.cell? ⟨g, 0, none⟩ = some (.string x)) : Reads w (.slice (some ⟨g, 0, none⟩) 1 1) [x] := by
  refine ⟨_, 1, rfl, .inr ⟨g, 0, rfl, fun i hi => ?_⟩⟩
  obtain rfl : i = 0 := by simpa using hi
  exact h
theorem reads_two {w : World} {g : Nat} {x y : ByteArray} (h : w.cell? ⟨g, 0, none⟩ = some (.string x)) (k : w.cell? ⟨g, 1, none⟩ = some (.string y)) : Reads w (.slice (some ⟨g, 0, none⟩) 2 2) [x, y] := by
  refine ⟨_, 2, rfl, .inr ⟨g, 0, rfl, fun i hi => ?_⟩⟩
  rcases (by simp at hi; omega : i = 0 ∨ i = 1) with rfl | rfl
  · exact h
  · exact k
theorem cat_one (x : ByteArray) : cat_t [x] = x.data.toList := by simp [cat_t]
theorem cat_two (x y : ByteArray) : cat_t [x, y] = x.data.toList ++ y.data.toList := by simp [cat_t]

/-! ### wrap -/
set_option maxRecDepth 100000 in
set_option maxHeartbeats 1000000 in
theorem dwrap_any (T : Int) (a : Option Addr) (n c : Nat) (ss : List ByteArray) (w : World) (hv : Reads w (.slice a n c) ss) (hn : ss.length < 4611686018427387904) :
    Calls Tryz.prog 33 #[.int .i64 T, .slice a n c] w fun e w' => e = .returned (.string (wrapStr T (cat_t ss))) ∧ Below w.heap.size w w' := by
  have HW := wrap_any T _ ss w hv hn
  unfold wrapVal at HW
  have H := Lib.hid HW
  clear HW hv hn
  go_enter Tryz.func33, Tryz.ntmps33
  go_wp2_with (go_at_call 61; (with_reducible refine H.out.mono ?_); rintro e w1 ⟨rfl, hb⟩; have HB := Lib.hid hb; clear hb)
  go_ret
  exact ⟨rfl, HB.out⟩
set_option maxRecDepth 100000 in
set_option maxHeartbeats 1000000 in
theorem rwrapd_any (T : Int) (a : Option Addr) (n c : Nat) (ss : List ByteArray) (w : World) (hv : Reads w (.slice a n c) ss) (hn : ss.length < 4611686018427387904) (hb : (cat_t ss).length ≤ 1099511627776) :
    Calls Tryz.prog 34 #[.int .i64 T, .slice a n c] w fun e w' => e = .returned (.string (wrapStr T (cat_t ss))) ∧ Below w.heap.size w w' := by
  have HW := rwrap_any T _ ss w hv hn hb
  unfold wrapVal at HW
  have H := Lib.hid HW
  clear HW hv hn hb
  go_enter Tryz.func34, Tryz.ntmps34
  go_wp2_with (go_at_call 62; (with_reducible refine H.out.mono ?_); rintro e w1 ⟨rfl, hb⟩; have HB := Lib.hid hb; clear hb)
  go_ret
  exact ⟨rfl, HB.out⟩
theorem dw1 (T : Int) (g : Nat) (x : ByteArray) (w : World) (h : w.cell? ⟨g, 0, none⟩ = some (.string x)) :
    Calls Tryz.prog 33 #[.int .i64 T, .slice (some ⟨g, 0, none⟩) 1 1] w fun e w' => e = .returned (.string (wr1 T x)) ∧ Below w.heap.size w w' := by
  have := dwrap_any T _ _ _ _ w (reads_one h) (by simp)
  rwa [cat_one] at this
theorem dw2 (T : Int) (g : Nat) (x y : ByteArray) (w : World) (h : w.cell? ⟨g, 0, none⟩ = some (.string x)) (k : w.cell? ⟨g, 1, none⟩ = some (.string y)) :
    Calls Tryz.prog 33 #[.int .i64 T, .slice (some ⟨g, 0, none⟩) 2 2] w fun e w' => e = .returned (.string (wr2 T x y)) ∧ Below w.heap.size w w' := by
  have := dwrap_any T _ _ _ _ w (reads_two h k) (by simp)
  rwa [cat_two] at this
theorem rw1 (T : Int) (g : Nat) (x : ByteArray) (w : World) (h : w.cell? ⟨g, 0, none⟩ = some (.string x)) (hx : x.size ≤ 1099511627776) :
    Calls Tryz.prog 34 #[.int .i64 T, .slice (some ⟨g, 0, none⟩) 1 1] w fun e w' => e = .returned (.string (wr1 T x)) ∧ Below w.heap.size w w' := by
  have := rwrapd_any T _ _ _ _ w (reads_one h) (by simp) (by rw [cat_one]; exact hx)
  rwa [cat_one] at this
theorem rw2 (T : Int) (g : Nat) (x y : ByteArray) (w : World) (h : w.cell? ⟨g, 0, none⟩ = some (.string x)) (k : w.cell? ⟨g, 1, none⟩ = some (.string y)) (hx : x.size + y.size ≤ 1099511627776) :
    Calls Tryz.prog 34 #[.int .i64 T, .slice (some ⟨g, 0, none⟩) 2 2] w fun e w' => e = .returned (.string (wr2 T x y)) ∧ Below w.heap.size w w' := by
  have := rwrapd_any T _ _ _ _ w (reads_two h k) (by simp) (by rw [cat_two, List.length_append]; exact hx)
  rwa [cat_two] at this
theorem wrapStr_size (T : Int) (c : List UInt8) : (wrapStr T c).size ≤ 131080 := by
  unfold wrapStr
  split
  · rename_i h
    have hl : c.length ≤ 131072 := by
      unfold wrapErr at h
      split at h
      · cases h
      · split at h
        · cases h
        · omega
    show (wrapL T.toNat c).length ≤ _
    unfold wrapL
    rw [List.length_cons, List.length_append, lenO_length]
    have := lsz_le c.length
    omega
  · show 0 ≤ _; omega

/-! ### The contents of an object identifier -/
theorem denc_any (s : ByteArray) (w : World) (hs : s.size ≤ 1099511627) :
    Calls Tryz.prog 91 #[.string s] w fun e w' => (∃ er : Int, e = .returned (.tuple #[.string (oidS s), .int .i64 er])) ∧ Below w.heap.size w w' := by
  rcases oid_or s.data.toList with ⟨a, h⟩ | h
  · exact (enc_yes h w hs).mono fun e w' ⟨he, hb⟩ => ⟨⟨0, by rw [he, oidS_yes h]; rfl⟩, hb⟩
  · exact (enc_no h w hs).mono fun e w' ⟨he, hb⟩ => ⟨⟨11, by rw [he, oidS_no h]; rfl⟩, hb⟩
theorem renc_any' (s : ByteArray) (w : World) (hs : s.size ≤ 1099511627) :
    Calls Tryz.prog 100 #[.string s] w fun e w' => (∃ er : Int, e = .returned (.tuple #[.string (oidS s), .int .i64 er])) ∧ Below w.heap.size w w' := by
  rcases oid_or s.data.toList with ⟨a, h⟩ | h
  · exact (renc_yes h w hs).mono fun e w' ⟨he, hb⟩ => ⟨⟨0, by rw [he, oidS_yes h]; rfl⟩, hb⟩
  · exact (renc_no h w hs).mono fun e w' ⟨he, hb⟩ => ⟨⟨11, by rw [he, oidS_no h]; rfl⟩, hb⟩
end Go.Proofs.YtfpfgdbfigdooaaGreatDoor
namespace Go.Proofs.YtfpfgdbfigdooaaGreatDoor
open Go.RowKit

theorem bx1 (V : World) (x : ByteArray) (T : TypeId) : (V.alloc (.cells #[.string x] T)).cell? ⟨V.heap.size, 0, none⟩ = some (.string x) := (one_facts (heap_alloc_new V _)).1
theorem bx1d (V : World) (x : ByteArray) (T : TypeId) : (V.alloc (.cells #[.string x] T)).drew.cell? ⟨V.heap.size, 0, none⟩ = some (.string x) := bx1 V x T
theorem bx2 (V : World) (x : ByteArray) (T : TypeId) (o : Obj) : ((V.alloc (.cells #[.string x] T)).alloc o).cell? ⟨V.heap.size, 0, none⟩ = some (.string x) := ((belowNew _ o).cell (p := ⟨V.heap.size, 0, none⟩) (by simp)).trans (bx1 V x T)
theorem bx2d (V : World) (x : ByteArray) (T : TypeId) (o : Obj) : ((V.alloc (.cells #[.string x] T)).alloc o).drew.cell? ⟨V.heap.size, 0, none⟩ = some (.string x) := bx2 V x T o
theorem bx3 (V : World) (x : ByteArray) (T : TypeId) (o : Obj) : ((V.alloc o).alloc (.cells #[.string x] T)).cell? ⟨V.heap.size + 1, 0, none⟩ = some (.string x) := by
  simp
theorem bx3d (V : World) (x : ByteArray) (T : TypeId) (o : Obj) : ((V.alloc o).alloc (.cells #[.string x] T)).drew.cell? ⟨V.heap.size + 1, 0, none⟩ = some (.string x) := bx3 V x T o
theorem by0 (V : World) (x y : ByteArray) (T : TypeId) : (V.alloc (.cells #[.string x, .string y] T)).cell? ⟨V.heap.size, 0, none⟩ = some (.string x) := by
  rw [cell_of_row _ _ 0 _ _ _ (heap_alloc_new V _)]; rfl
theorem by1 (V : World) (x y : ByteArray) (T : TypeId) : (V.alloc (.cells #[.string x, .string y] T)).cell? ⟨V.heap.size, 1, none⟩ = some (.string y) := by
  rw [cell_of_row _ _ 1 _ _ _ (heap_alloc_new V _)]; rfl

theorem by0d (V : World) (x y : ByteArray) (T : TypeId) : (V.alloc (.cells #[.string x, .string y] T)).drew.cell? ⟨V.heap.size, 0, none⟩ = some (.string x) := by0 V x y T
theorem by1d (V : World) (x y : ByteArray) (T : TypeId) : (V.alloc (.cells #[.string x, .string y] T)).drew.cell? ⟨V.heap.size, 1, none⟩ = some (.string y) := by1 V x y T
theorem cat128_len : ∀ (N : List Nat), (∀ v ∈ N, v < 34359738368) → (cat e128 N).length ≤ 5 * N.length
  | [], _ => by simp [cat]
  | x :: r, h => by
    have h1 := e128_len x (h x List.mem_cons_self)
    have h2 := cat128_len r (fun v hv => h v (List.mem_cons_of_mem _ hv))
    simp only [cat, List.length_append, List.length_cons]
    omega
theorem enc_len {l : List UInt8} {a : List Nat} (h : Oid l a) : (enc a).length ≤ 55 := by
  obtain ⟨h1, h2, h3, h4⟩ := (good_nums h.1).1
  have h5 := cat128_len (numsOf a) (fun v hv => by
    generalize numsOf a = N at hv h3 h4
    cases N with
    | nil => cases hv
    | cons x r =>
      rcases List.mem_cons.1 hv with rfl | hv
      · have : v ≤ 2147483727 := h3
        omega
      · have := h4 v hv
        omega)
  show (cat e128 (numsOf a)).length ≤ 55
  omega
theorem oidS_size (s : ByteArray) : (oidS s).size ≤ 55 := by
  rcases oid_or s.data.toList with ⟨a, h⟩ | h
  · rw [oidS_yes h, strOf_size]; exact enc_len h
  · rw [oidS_no h]; show 0 ≤ _; omega
set_option maxRecDepth 100000 in
set_option maxHeartbeats 1000000 in
theorem roid_any (s : ByteArray) (w : World) (hs : s.size ≤ 1099511627) :
    Calls Tryz.prog 63 #[.string s] w fun e w' => e = .returned (.string (wr1 6 (oidS s))) ∧ Below w.heap.size w w' := by
  have H := Lib.hid (fun W => renc_any' s W hs)
  have HZ := Lib.hid (show (oidS s).size ≤ 1099511627776 from Nat.le_trans (oidS_size s) (by omega))
  obtain ⟨c, hc⟩ : ∃ c, c = oidS s := ⟨_, rfl⟩
  rw [← hc] at H HZ ⊢
  have HC := Lib.hid (fun g W h => rw1 6 g c W h HZ.out)
  clear hc hs
  go_enter Tryz.func63, Tryz.ntmps63
  go_wp2_with (first
    | (go_at_call 100; (with_reducible refine (H.out _).mono ?_); rintro e w1 ⟨⟨er, rfl⟩, hb⟩; have HB := Lib.hid hb; clear hb)
    | (go_at_call 34; (with_reducible refine (HC.out _ _ (bx1 _ _ _)).mono ?_); rintro e w2 ⟨rfl, hb⟩; have HB2 := Lib.hid (below_next HB.out (below_next (belowNew _ _) hb)); clear hb))
  go_ret
  exact ⟨rfl, HB2.out⟩

set_option maxRecDepth 100000 in
set_option maxHeartbeats 8000000 in
theorem enca_any (a : At) (w : World) (hs : a.1.size ≤ 1099511627) :
    Calls Tryz.prog 59 #[atV a] w fun e w' => e = .returned (.string (encA a)) ∧ Below w.heap.size w w' := by
  obtain ⟨t, kd, v⟩ := a
  have H := Lib.hid (fun W => denc_any t W hs)
  unfold encA atV
  simp only
  obtain ⟨c, hc⟩ : ∃ c, c = oidS t := ⟨_, rfl⟩
  rw [← hc] at H ⊢
  obtain ⟨e1, he1⟩ : ∃ e1, e1 = wr1 6 c := ⟨_, rfl⟩
  obtain ⟨e2, he2⟩ : ∃ e2, e2 = wr1 kd v := ⟨_, rfl⟩
  have H1 := Lib.hid (fun g W h => dw1 6 g c W h)
  have H2 := Lib.hid (fun g W h => dw1 kd g v W h)
  rw [← he1] at H1
  rw [← he2] at H2
  rw [← he1, ← he2]
  have H3 := Lib.hid (fun g W h k => dw2 48 g e1 e2 W h k)
  have HZ := Lib.hid (belowNew w (.cells #[.string t, .int .i64 kd, .string v] 27))
  have HW := Lib.hid (at_facts (heap_alloc_new w (.cells #[.string t, .int .i64 kd, .string v] 27)))
  clear hc he1 he2 hs
  go_enter Tryz.func59, Tryz.ntmps59
  go_wp2_with (go_at_call 91; (with_reducible refine (H.out _).mono ?_); rintro e w1 ⟨⟨er, rfl⟩, hb⟩; have HB := Lib.hid hb; clear hb)
  obtain ⟨g, hg⟩ : ∃ g, g = w.heap.size := ⟨_, rfl⟩
  obtain ⟨c0, c1, c2, _, _, _, hlt⟩ := HW.out
  have d1 : w1.cell? ⟨g, 1, none⟩ = some (.int .i64 kd) := by rw [hg]; exact (HB.out.cell (p := ⟨w.heap.size, 1, none⟩) hlt).trans c1
  have d2 : w1.cell? ⟨g, 2, none⟩ = some (.string v) := by rw [hg]; exact (HB.out.cell (p := ⟨w.heap.size, 2, none⟩) hlt).trans c2
  have hltg : g < w1.heap.size := block_lt d1
  have HB1 := Lib.hid (below_next HZ.out HB.out)
  have HG := Lib.hid hg
  rw [← hg]
  clear c0 c1 c2 hlt hg HW HB HZ
  go_region_held3 (fun w' => w'.cell? ⟨g, 1, none⟩ = some (.int .i64 kd) ∧ w'.cell? ⟨g, 2, none⟩ = some (.string v)) (first | exact ⟨by assumption, by assumption⟩ | go_keep)
    (first
      | (go_at_call 33; (with_reducible refine (H1.out _ _ (by first | exact bx1 _ _ _ | exact bx1d _ _ _ | exact bx2 _ _ _ _ | exact bx2d _ _ _ _ | exact bx3 _ _ _ _ | exact bx3d _ _ _ _ | assumption)).mono ?_); rintro e x1 ⟨rfl, hb⟩; have hx : Below w1.heap.size w1 x1 := (by first | exact below_next (belowNew w1 _).drew hb | exact below_next (belowTwo w1 _ _).drew hb | exact below_next (belowNew w1 _) hb | exact below_next (belowTwo w1 _ _) hb | exact below_next HX2.out hb | exact below_next (below_next HX2.out (belowNew x2 _)) hb); have d1' := (hx.cell (p := ⟨g, 1, none⟩) hltg).trans d1; have d2' := (hx.cell (p := ⟨g, 2, none⟩) hltg).trans d2; (try (have rv := (hb.cell (p := ⟨w1.heap.size, 0, none⟩) (by simp <;> omega)).trans (bx2d w1 v 9 _))); (try (have rv := (hb.cell (p := ⟨w1.heap.size + 1, 0, none⟩) (by simp <;> omega)).trans (bx3d w1 v 9 _))); have HX1 := Lib.hid hx; clear hb hx)
      | (go_at_call 33; (with_reducible refine (H2.out _ _ (by first | exact bx1 _ _ _ | exact bx1d _ _ _ | exact bx2 _ _ _ _ | exact bx2d _ _ _ _ | exact bx3 _ _ _ _ | exact bx3d _ _ _ _ | assumption)).mono ?_); rintro e x2 ⟨rfl, hb⟩; have hx : Below w1.heap.size w1 x2 := (by first | exact below_next (belowNew w1 _).drew hb | exact below_next (belowTwo w1 _ _).drew hb | exact below_next (belowNew w1 _) hb | exact below_next (belowTwo w1 _ _) hb | exact below_next HX1.out hb | exact below_next (below_next HX1.out (belowNew x1 _)) hb); have d1' := (hx.cell (p := ⟨g, 1, none⟩) hltg).trans d1; have d2' := (hx.cell (p := ⟨g, 2, none⟩) hltg).trans d2; (try (have rv := (hb.cell (p := ⟨w1.heap.size, 0, none⟩) (by simp <;> omega)).trans (bx2d w1 c 9 _))); (try (have rv := (hb.cell (p := ⟨w1.heap.size + 1, 0, none⟩) (by simp <;> omega)).trans (bx3d w1 c 9 _))); have HX2 := Lib.hid hx; clear hb hx)
      | (go_at_call 33; (with_reducible refine (H3.out _ _ (by first | exact by0 _ _ _ _ | exact by0d _ _ _ _) (by first | exact by1 _ _ _ _ | exact by1d _ _ _ _)).mono ?_); rintro e x3 ⟨rfl, hb⟩; have hx : Below w1.heap.size w1 x3 := (by first | exact below_next (below_next HX1.out (belowNew x1 _)) hb | exact below_next (below_next HX2.out (belowNew x2 _)) hb); have d1' := (hx.cell (p := ⟨g, 1, none⟩) hltg).trans d1; have d2' := (hx.cell (p := ⟨g, 2, none⟩) hltg).trans d2; have HX3 := Lib.hid hx; clear hb hx))
  all_goals go_wp2_with fail
  all_goals go_ret
  all_goals exact ⟨rfl, below_next HB1.out HX3.out⟩
end Go.Proofs.YtfpfgdbfigdooaaGreatDoor
