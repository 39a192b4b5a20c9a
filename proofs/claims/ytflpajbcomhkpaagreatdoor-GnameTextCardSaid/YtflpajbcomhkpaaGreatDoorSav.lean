/-
  The contracts of tlv.Ascending and of the reference's Ascending: whether no element's Raw is less than the one before it.
  The contract of the reference's Order: the strings in ascending order, one after the other; nothing that was there before the call has changed.
  The encodings of attributes, relative names and names; the contracts of the program's and the reference's wrap, OID and encodeAttribute.
  The contracts of encodeAttribute, and of the reference's OID.
  The contracts of encodeRelative and Encode.
-/
import Derived.Test.YtflpajbcomhkpaaGreatDoorSau
import Derived.Test.YtflpajbcomhkpaaGreatDoorSas
import Derived.Laws.Cover1
import Derived.Test.YtflpajbcomhkpaaGreatDoorSaq
import Derived.Test.YtflpajbcomhkpaaGreatDoorSap
import Derived.Test.YtflpajbcomhkpaaGreatDoorSar
import Derived.Test.YtflpajbcomhkpaaGreatDoorSat
import Derived.Test.YtflpajbcomhkpaaGreatDoorSaj
import Derived.Deep.RegionHeld3
import Derived.Test.YtflpajbcomhkpaaGreatDoorSak
namespace Go.Proofs.YtflpajbcomhkpaaGreatDoor
open Go.RowKit

/-- The bytes of the i-th element. -/
def rawAt (l : List El) (i : Nat) : List UInt8 := (l.getD i (0, ⟨#[]⟩, ⟨#[]⟩)).2.2.data.toList
theorem bl_iff : ∀ x y : List UInt8, Op.bytesLess x y = true ↔ x < y
  | _, [] => by simp [Op.bytesLess]
  | [], _ :: _ => by simp [Op.bytesLess]
  | a :: x, b :: y => by
    rw [List.cons_lt_cons_iff, ← bl_iff x y]
    simp [Op.bytesLess]
theorem cb_iff : ∀ x y : List UInt8, Lib.compareBytes x y < 0 ↔ x < y
  | [], [] => by simp [Lib.compareBytes]
  | [], _ :: _ => by simp [Lib.compareBytes]
  | _ :: _, [] => by simp [Lib.compareBytes]
  | a :: x, b :: y => by
    rw [List.cons_lt_cons_iff, ← cb_iff x y]
    rw [show Lib.compareBytes (a :: x) (b :: y) = if a < b then -1 else if b < a then 1 else Lib.compareBytes x y from rfl]
    by_cases h1 : a < b
    · simp [h1]
    · by_cases h2 : b < a
      · rw [if_neg h1, if_pos h2]
        have : ¬ a = b := fun e => by rw [e] at h2; exact absurd h2 (UInt8.lt_irrefl b)
        simp [h1, this]
      · rw [if_neg h1, if_neg h2]
        have : a = b := UInt8.le_antisymm (UInt8.not_lt.1 h2) (UInt8.not_lt.1 h1)
        simp [this]
/-- At the address lie the elements l. -/
def EAt (w : World) (a : Option Addr) (l : List El) : Prop := ∀ k (h : k < l.length), ∃ g, a = some ⟨g, 0, none⟩ ∧ ∀ j, j < 3 → w.cell? ⟨g, k * 3 + j, none⟩ = (elCells l[k])[j]?
theorem EAt.of {w : World} {B : Nat} {v : Value} {l : List El} (h : OwnE w B v l) : ∃ a c, v = .slice a l.length c ∧ EAt w a l := by
  have h' := own_base_t h
  rcases h.2 with ⟨hv, h0⟩ | ⟨g, cap, cur, hv, _⟩
  · exact ⟨none, 0, by rw [hv, h0], fun k hk => by omega⟩
  · rw [hv] at h'
    exact ⟨_, cap, hv, fun k hk => ⟨g, rfl, fun j hj => els_cell h' k hk j hj⟩⟩
theorem EAt.two {w wr : World} {a : Option Addr} {l : List El} (h : EAt w a l) (hb : Below w.heap.size w wr) (k : Nat) (hk1 : 1 ≤ k) (hk : k < l.length) :
    ∃ (g : Nat) (t c t' c' : Value) (x y : ByteArray), a = some ⟨g, 0, none⟩ ∧ wr.cell? ⟨g, k * 3, none⟩ = some t ∧ wr.cell? ⟨g, k * 3 + 1, none⟩ = some c ∧ wr.cell? ⟨g, k * 3 + 2, none⟩ = some (.string x) ∧
      wr.cell? ⟨g, (k - 1) * 3, none⟩ = some t' ∧ wr.cell? ⟨g, (k - 1) * 3 + 1, none⟩ = some c' ∧ wr.cell? ⟨g, (k - 1) * 3 + 2, none⟩ = some (.string y) ∧ rawAt l k = x.data.toList ∧ rawAt l (k - 1) = y.data.toList := by
  obtain ⟨g, rfl, h1⟩ := h k hk
  obtain ⟨g', e, h2⟩ := h (k - 1) (by omega)
  obtain rfl : g = g' := by simpa using e
  have hg : g < w.heap.size := block_lt_of_cell (a := ⟨g, k * 3 + 0, none⟩) (h1 0 (by omega))
  have o1 : ∀ j, j < 3 → wr.cell? ⟨g, k * 3 + j, none⟩ = (elCells l[k])[j]? := fun j hj => (hb.cell (p := ⟨g, k * 3 + j, none⟩) hg).trans (h1 j hj)
  have o2 : ∀ j, j < 3 → wr.cell? ⟨g, (k - 1) * 3 + j, none⟩ = (elCells (l[k - 1]'(by omega)))[j]? := fun j hj => (hb.cell (p := ⟨g, (k - 1) * 3 + j, none⟩) hg).trans (h2 j hj)
  exact ⟨g, _, _, _, _, _, _, rfl, o1 0 (by omega), o1 1 (by omega), o1 2 (by omega), o2 0 (by omega), o2 1 (by omega), o2 2 (by omega),
    by unfold rawAt; rw [List.getD_eq_getElem?_getD, List.getElem?_eq_getElem hk]; rfl, by unfold rawAt; rw [List.getD_eq_getElem?_getD, List.getElem?_eq_getElem (by omega)]; rfl⟩

end Go.Proofs.YtflpajbcomhkpaaGreatDoor
namespace Go.Proofs.YtflpajbcomhkpaaGreatDoor
open Go.RowKit

/-- The slice value v, of memory from block B on, holds the strings D. -/
def OwnS_t (w : World) (B : Nat) (v : Value) (D : List ByteArray) : Prop := w.ownsRow B 9 1 v D.length (D.map Value.string)
theorem OwnS_t.lies {w : World} {B : Nat} {v : Value} {D : List ByteArray} (h : OwnS_t w B v D) : ∃ a c, v = .slice a D.length c ∧ Lies w a D := by
  rcases h.2 with ⟨hv, h0⟩ | ⟨g, cap, cur, hv, _⟩
  · exact ⟨none, 0, by rw [hv, h0], .inl (List.eq_nil_of_length_eq_zero h0)⟩
  · have h' := h
    rw [hv] at h'
    refine ⟨_, cap, hv, .inr ⟨g, 0, rfl, fun i hi => ?_⟩⟩
    rw [Nat.zero_add, World.ownsRow.cellAt h' i (by omega)]
    simp [hi]
end Go.Proofs.YtflpajbcomhkpaaGreatDoor
namespace Go.Proofs.YtflpajbcomhkpaaGreatDoor
open Go.RowKit

/-- The contents of the element of an object identifier. -/
noncomputable def oidS (s : ByteArray) : ByteArray := @dite _ (∃ a, Oid s.data.toList a) (Classical.propDecidable _) (fun h => strOf (enc h.choose)) (fun _ => ⟨#[]⟩)
theorem oidS_yes {s : ByteArray} {a : List Nat} (h : Oid s.data.toList a) : oidS s = strOf (enc a) := by
  have hx : ∃ a, Oid s.data.toList a := ⟨a, h⟩
  unfold oidS
  rw [dif_pos hx, oid_one hx.choose_spec h]
theorem oidS_no {s : ByteArray} (h : ∀ a, ¬ Oid s.data.toList a) : oidS s = ⟨#[]⟩ := by
  unfold oidS
  rw [dif_neg (fun ⟨a, k⟩ => h a k)]
/-- The element with the identifier octet T and the contents x. -/
def wr1 (T : Int) (x : ByteArray) : ByteArray := wrapStr T x.data.toList
def wr2 (T : Int) (x y : ByteArray) : ByteArray := wrapStr T (x.data.toList ++ y.data.toList)
noncomputable def encA (a : At) : ByteArray := wr2 48 (wr1 6 (oidS a.1)) (wr1 a.2.1 a.2.2)
noncomputable def encR (r : List At) : ByteArray := wr1 49 ⟨(ordL (lists (r.map encA))).flatten.toArray⟩
noncomputable def encN (n : Nm) : ByteArray := wrapStr 48 (cat_t (n.map encR))

/-! ### Slices of one and of two strings -/
theorem reads_one {w : World} {g : Nat} {x : ByteArray} (h : w.cell? ⟨g, 0, none⟩ = some (.string x)) : Reads w (.slice (some ⟨g, 0, none⟩) 1 1) [x] := by
  refine ⟨_, 1, rfl, .inr ⟨g, 0, rfl, fun i hi => ?_⟩⟩
  obtain rfl : i = 0 := by simpa using hi
  exact h
theorem reads_two {w : World} {g : Nat} {x y : ByteArray} (h : w.cell? ⟨g, 0, none⟩ = some (.string x)) (k : w.cell? ⟨g, 1, none⟩ = some (.string y)) : Reads w (.slice (some ⟨g, 0, none⟩) 2 2) [x, y] := by
  refine ⟨_, 2, rfl, .inr ⟨g, 0, rfl, fun i hi => ?_⟩⟩
  rcases (by simp at hi; omega : i = 0 ∨ i = 1) with rfl | rfl
  · exact h
  · exact k
theorem cat_one (x : ByteArray) : cat_t [x] = x.data.toList := by simp [cat_t]
theorem cat_two (x y : ByteArray) : cat_t [x, y] = x.data.toList ++ y.data.toList := by simp [cat_t]

/-! ### wrap -/
set_option maxRecDepth 100000 in
set_option maxHeartbeats 1000000 in
theorem dwrap_any (T : Int) (a : Option Addr) (n c : Nat) (ss : List ByteArray) (w : World) (hv : Reads w (.slice a n c) ss) (hn : ss.length < 4611686018427387904) :
    Calls Tryz.prog 103 #[.int .i64 T, .slice a n c] w fun e w' => e = .returned (.string (wrapStr T (cat_t ss))) ∧ Below w.heap.size w w' := by
  have HW := wrap_any T _ ss w hv hn
  unfold wrapVal at HW
  have H := Lib.hid HW
  clear HW hv hn
  go_enter Tryz.func103, Tryz.ntmps103
  go_wp2_with (go_at_call 62; (with_reducible refine H.out.mono ?_); rintro e w1 ⟨rfl, hb⟩; have HB := Lib.hid hb; clear hb)
  go_ret
  exact ⟨rfl, HB.out⟩
set_option maxRecDepth 100000 in
set_option maxHeartbeats 1000000 in
theorem rwrapd_any (T : Int) (a : Option Addr) (n c : Nat) (ss : List ByteArray) (w : World) (hv : Reads w (.slice a n c) ss) (hn : ss.length < 4611686018427387904) (hb : (cat_t ss).length ≤ 1099511627776) :
    Calls Tryz.prog 37 #[.int .i64 T, .slice a n c] w fun e w' => e = .returned (.string (wrapStr T (cat_t ss))) ∧ Below w.heap.size w w' := by
  have HW := rwrap_any T _ ss w hv hn hb
  unfold wrapVal at HW
  have H := Lib.hid HW
  clear HW hv hn hb
  go_enter Tryz.func37, Tryz.ntmps37
  go_wp2_with (go_at_call 79; (with_reducible refine H.out.mono ?_); rintro e w1 ⟨rfl, hb⟩; have HB := Lib.hid hb; clear hb)
  go_ret
  exact ⟨rfl, HB.out⟩
theorem dw1 (T : Int) (g : Nat) (x : ByteArray) (w : World) (h : w.cell? ⟨g, 0, none⟩ = some (.string x)) :
    Calls Tryz.prog 103 #[.int .i64 T, .slice (some ⟨g, 0, none⟩) 1 1] w fun e w' => e = .returned (.string (wr1 T x)) ∧ Below w.heap.size w w' := by
  have := dwrap_any T _ _ _ _ w (reads_one h) (by simp)
  rwa [cat_one] at this
theorem dw2 (T : Int) (g : Nat) (x y : ByteArray) (w : World) (h : w.cell? ⟨g, 0, none⟩ = some (.string x)) (k : w.cell? ⟨g, 1, none⟩ = some (.string y)) :
    Calls Tryz.prog 103 #[.int .i64 T, .slice (some ⟨g, 0, none⟩) 2 2] w fun e w' => e = .returned (.string (wr2 T x y)) ∧ Below w.heap.size w w' := by
  have := dwrap_any T _ _ _ _ w (reads_two h k) (by simp)
  rwa [cat_two] at this
theorem rw1 (T : Int) (g : Nat) (x : ByteArray) (w : World) (h : w.cell? ⟨g, 0, none⟩ = some (.string x)) (hx : x.size ≤ 1099511627776) :
    Calls Tryz.prog 37 #[.int .i64 T, .slice (some ⟨g, 0, none⟩) 1 1] w fun e w' => e = .returned (.string (wr1 T x)) ∧ Below w.heap.size w w' := by
  have := rwrapd_any T _ _ _ _ w (reads_one h) (by simp) (by rw [cat_one]; exact hx)
  rwa [cat_one] at this
theorem rw2 (T : Int) (g : Nat) (x y : ByteArray) (w : World) (h : w.cell? ⟨g, 0, none⟩ = some (.string x)) (k : w.cell? ⟨g, 1, none⟩ = some (.string y)) (hx : x.size + y.size ≤ 1099511627776) :
    Calls Tryz.prog 37 #[.int .i64 T, .slice (some ⟨g, 0, none⟩) 2 2] w fun e w' => e = .returned (.string (wr2 T x y)) ∧ Below w.heap.size w w' := by
  have := rwrapd_any T _ _ _ _ w (reads_two h k) (by simp) (by rw [cat_two, List.length_append]; exact hx)
  rwa [cat_two] at this
theorem wrapStr_size (T : Int) (c : List UInt8) : (wrapStr T c).size ≤ 131080 := by
  unfold wrapStr
  split
  · rename_i h
    have hl : c.length ≤ 131072 := by
      unfold wrapErr at h
      split at h
      · cases h
      · split at h
        · cases h
        · omega
    show (wrapL T.toNat c).length ≤ _
    unfold wrapL
    rw [List.length_cons, List.length_append, lenO_length]
    have := lsz_le c.length
    omega
  · show 0 ≤ _; omega

/-! ### The contents of an object identifier -/
theorem denc_any (s : ByteArray) (w : World) (hs : s.size ≤ 1099511627) :
    Calls Tryz.prog 178 #[.string s] w fun e w' => (∃ er : Int, e = .returned (.tuple #[.string (oidS s), .int .i64 er])) ∧ Below w.heap.size w w' := by
  rcases oid_or s.data.toList with ⟨a, h⟩ | h
  · exact (enc_yes h w hs).mono fun e w' ⟨he, hb⟩ => ⟨⟨0, by rw [he, oidS_yes h]; rfl⟩, hb⟩
  · exact (enc_no h w hs).mono fun e w' ⟨he, hb⟩ => ⟨⟨11, by rw [he, oidS_no h]; rfl⟩, hb⟩
theorem renc_any' (s : ByteArray) (w : World) (hs : s.size ≤ 1099511627) :
    Calls Tryz.prog 157 #[.string s] w fun e w' => (∃ er : Int, e = .returned (.tuple #[.string (oidS s), .int .i64 er])) ∧ Below w.heap.size w w' := by
  rcases oid_or s.data.toList with ⟨a, h⟩ | h
  · exact (renc_yes h w hs).mono fun e w' ⟨he, hb⟩ => ⟨⟨0, by rw [he, oidS_yes h]; rfl⟩, hb⟩
  · exact (renc_no h w hs).mono fun e w' ⟨he, hb⟩ => ⟨⟨11, by rw [he, oidS_no h]; rfl⟩, hb⟩
end Go.Proofs.YtflpajbcomhkpaaGreatDoor
namespace Go.Proofs.YtflpajbcomhkpaaGreatDoor
open Go.RowKit

theorem bx1 (V : World) (x : ByteArray) (T : TypeId) : (V.alloc (.cells #[.string x] T)).cell? ⟨V.heap.size, 0, none⟩ = some (.string x) := (one_facts (heap_alloc_new V _)).1
theorem bx1d (V : World) (x : ByteArray) (T : TypeId) : (V.alloc (.cells #[.string x] T)).drew.cell? ⟨V.heap.size, 0, none⟩ = some (.string x) := bx1 V x T
theorem bx2 (V : World) (x : ByteArray) (T : TypeId) (o : Obj) : ((V.alloc (.cells #[.string x] T)).alloc o).cell? ⟨V.heap.size, 0, none⟩ = some (.string x) := ((belowNew _ o).cell (p := ⟨V.heap.size, 0, none⟩) (by simp)).trans (bx1 V x T)
theorem bx2d (V : World) (x : ByteArray) (T : TypeId) (o : Obj) : ((V.alloc (.cells #[.string x] T)).alloc o).drew.cell? ⟨V.heap.size, 0, none⟩ = some (.string x) := bx2 V x T o
theorem bx3 (V : World) (x : ByteArray) (T : TypeId) (o : Obj) : ((V.alloc o).alloc (.cells #[.string x] T)).cell? ⟨V.heap.size + 1, 0, none⟩ = some (.string x) := by
  simp
theorem bx3d (V : World) (x : ByteArray) (T : TypeId) (o : Obj) : ((V.alloc o).alloc (.cells #[.string x] T)).drew.cell? ⟨V.heap.size + 1, 0, none⟩ = some (.string x) := bx3 V x T o
theorem by0 (V : World) (x y : ByteArray) (T : TypeId) : (V.alloc (.cells #[.string x, .string y] T)).cell? ⟨V.heap.size, 0, none⟩ = some (.string x) := by
  rw [cell_of_row _ _ 0 _ _ _ (heap_alloc_new V _)]; rfl
theorem by1 (V : World) (x y : ByteArray) (T : TypeId) : (V.alloc (.cells #[.string x, .string y] T)).cell? ⟨V.heap.size, 1, none⟩ = some (.string y) := by
  rw [cell_of_row _ _ 1 _ _ _ (heap_alloc_new V _)]; rfl

theorem by0d (V : World) (x y : ByteArray) (T : TypeId) : (V.alloc (.cells #[.string x, .string y] T)).drew.cell? ⟨V.heap.size, 0, none⟩ = some (.string x) := by0 V x y T
theorem by1d (V : World) (x y : ByteArray) (T : TypeId) : (V.alloc (.cells #[.string x, .string y] T)).drew.cell? ⟨V.heap.size, 1, none⟩ = some (.string y) := by1 V x y T
theorem cat128_len : ∀ (N : List Nat), (∀ v ∈ N, v < 34359738368) → (cat e128 N).length ≤ 5 * N.length
  | [], _ => by simp [cat]
  | x :: r, h => by
    have h1 := e128_len x (h x List.mem_cons_self)
    have h2 := cat128_len r (fun v hv => h v (List.mem_cons_of_mem _ hv))
    simp only [cat, List.length_append, List.length_cons]
    omega
theorem enc_len {l : List UInt8} {a : List Nat} (h : Oid l a) : (enc a).length ≤ 55 := by
  obtain ⟨h1, h2, h3, h4⟩ := (good_nums h.1).1
  have h5 := cat128_len (numsOf a) (fun v hv => by
    generalize numsOf a = N at hv h3 h4
    cases N with
    | nil => cases hv
    | cons x r =>
      rcases List.mem_cons.1 hv with rfl | hv
      · have : v ≤ 2147483727 := h3
        omega
      · have := h4 v hv
        omega)
  show (cat e128 (numsOf a)).length ≤ 55
  omega
theorem oidS_size (s : ByteArray) : (oidS s).size ≤ 55 := by
  rcases oid_or s.data.toList with ⟨a, h⟩ | h
  · rw [oidS_yes h, strOf_size]; exact enc_len h
  · rw [oidS_no h]; show 0 ≤ _; omega
set_option maxRecDepth 100000 in
set_option maxHeartbeats 1000000 in
theorem roid_any (s : ByteArray) (w : World) (hs : s.size ≤ 1099511627) :
    Calls Tryz.prog 121 #[.string s] w fun e w' => e = .returned (.string (wr1 6 (oidS s))) ∧ Below w.heap.size w w' := by
  have H := Lib.hid (fun W => renc_any' s W hs)
  have HZ := Lib.hid (show (oidS s).size ≤ 1099511627776 from Nat.le_trans (oidS_size s) (by omega))
  obtain ⟨c, hc⟩ : ∃ c, c = oidS s := ⟨_, rfl⟩
  rw [← hc] at H HZ ⊢
  have HC := Lib.hid (fun g W h => rw1 6 g c W h HZ.out)
  clear hc hs
  go_enter Tryz.func121, Tryz.ntmps121
  go_wp2_with (first
    | (go_at_call 157; (with_reducible refine (H.out _).mono ?_); rintro e w1 ⟨⟨er, rfl⟩, hb⟩; have HB := Lib.hid hb; clear hb)
    | (go_at_call 37; (with_reducible refine (HC.out _ _ (bx1 _ _ _)).mono ?_); rintro e w2 ⟨rfl, hb⟩; have HB2 := Lib.hid (below_next HB.out (below_next (belowNew _ _) hb)); clear hb))
  go_ret
  exact ⟨rfl, HB2.out⟩

set_option maxRecDepth 100000 in
set_option maxHeartbeats 8000000 in
theorem enca_any (a : At) (w : World) (hs : a.1.size ≤ 1099511627) :
    Calls Tryz.prog 142 #[atV a] w fun e w' => e = .returned (.string (encA a)) ∧ Below w.heap.size w w' := by
  obtain ⟨t, kd, v⟩ := a
  have H := Lib.hid (fun W => denc_any t W hs)
  unfold encA atV
  simp only
  obtain ⟨c, hc⟩ : ∃ c, c = oidS t := ⟨_, rfl⟩
  rw [← hc] at H ⊢
  obtain ⟨e1, he1⟩ : ∃ e1, e1 = wr1 6 c := ⟨_, rfl⟩
  obtain ⟨e2, he2⟩ : ∃ e2, e2 = wr1 kd v := ⟨_, rfl⟩
  have H1 := Lib.hid (fun g W h => dw1 6 g c W h)
  have H2 := Lib.hid (fun g W h => dw1 kd g v W h)
  rw [← he1] at H1
  rw [← he2] at H2
  rw [← he1, ← he2]
  have H3 := Lib.hid (fun g W h k => dw2 48 g e1 e2 W h k)
  have HZ := Lib.hid (belowNew w (.cells #[.string t, .int .i64 kd, .string v] 103))
  have HW := Lib.hid (at_facts (heap_alloc_new w (.cells #[.string t, .int .i64 kd, .string v] 103)))
  clear hc he1 he2 hs
  go_enter Tryz.func142, Tryz.ntmps142
  go_wp2_with (go_at_call 178; (with_reducible refine (H.out _).mono ?_); rintro e w1 ⟨⟨er, rfl⟩, hb⟩; have HB := Lib.hid hb; clear hb)
  obtain ⟨g, hg⟩ : ∃ g, g = w.heap.size := ⟨_, rfl⟩
  obtain ⟨c0, c1, c2, _, _, _, hlt⟩ := HW.out
  have d1 : w1.cell? ⟨g, 1, none⟩ = some (.int .i64 kd) := by rw [hg]; exact (HB.out.cell (p := ⟨w.heap.size, 1, none⟩) hlt).trans c1
  have d2 : w1.cell? ⟨g, 2, none⟩ = some (.string v) := by rw [hg]; exact (HB.out.cell (p := ⟨w.heap.size, 2, none⟩) hlt).trans c2
  have hltg : g < w1.heap.size := block_lt d1
  have HB1 := Lib.hid (below_next HZ.out HB.out)
  have HG := Lib.hid hg
  rw [← hg]
  clear c0 c1 c2 hlt hg HW HB HZ
  go_region_held3 (fun w' => w'.cell? ⟨g, 1, none⟩ = some (.int .i64 kd) ∧ w'.cell? ⟨g, 2, none⟩ = some (.string v)) (first | exact ⟨by assumption, by assumption⟩ | go_keep)
    (first
      | (go_at_call 103; (with_reducible refine (H1.out _ _ (by first | exact bx1 _ _ _ | exact bx1d _ _ _ | exact bx2 _ _ _ _ | exact bx2d _ _ _ _ | exact bx3 _ _ _ _ | exact bx3d _ _ _ _ | assumption)).mono ?_); rintro e x1 ⟨rfl, hb⟩; have hx : Below w1.heap.size w1 x1 := (by first | exact below_next (belowNew w1 _).drew hb | exact below_next (belowTwo w1 _ _).drew hb | exact below_next (belowNew w1 _) hb | exact below_next (belowTwo w1 _ _) hb | exact below_next HX2.out hb | exact below_next (below_next HX2.out (belowNew x2 _)) hb); have d1' := (hx.cell (p := ⟨g, 1, none⟩) hltg).trans d1; have d2' := (hx.cell (p := ⟨g, 2, none⟩) hltg).trans d2; (try (have rv := (hb.cell (p := ⟨w1.heap.size, 0, none⟩) (by simp <;> omega)).trans (bx2d w1 v 9 _))); (try (have rv := (hb.cell (p := ⟨w1.heap.size + 1, 0, none⟩) (by simp <;> omega)).trans (bx3d w1 v 9 _))); have HX1 := Lib.hid hx; clear hb hx)
      | (go_at_call 103; (with_reducible refine (H2.out _ _ (by first | exact bx1 _ _ _ | exact bx1d _ _ _ | exact bx2 _ _ _ _ | exact bx2d _ _ _ _ | exact bx3 _ _ _ _ | exact bx3d _ _ _ _ | assumption)).mono ?_); rintro e x2 ⟨rfl, hb⟩; have hx : Below w1.heap.size w1 x2 := (by first | exact below_next (belowNew w1 _).drew hb | exact below_next (belowTwo w1 _ _).drew hb | exact below_next (belowNew w1 _) hb | exact below_next (belowTwo w1 _ _) hb | exact below_next HX1.out hb | exact below_next (below_next HX1.out (belowNew x1 _)) hb); have d1' := (hx.cell (p := ⟨g, 1, none⟩) hltg).trans d1; have d2' := (hx.cell (p := ⟨g, 2, none⟩) hltg).trans d2; (try (have rv := (hb.cell (p := ⟨w1.heap.size, 0, none⟩) (by simp <;> omega)).trans (bx2d w1 c 9 _))); (try (have rv := (hb.cell (p := ⟨w1.heap.size + 1, 0, none⟩) (by simp <;> omega)).trans (bx3d w1 c 9 _))); have HX2 := Lib.hid hx; clear hb hx)
      | (go_at_call 103; (with_reducible refine (H3.out _ _ (by first | exact by0 _ _ _ _ | exact by0d _ _ _ _) (by first | exact by1 _ _ _ _ | exact by1d _ _ _ _)).mono ?_); rintro e x3 ⟨rfl, hb⟩; have hx : Below w1.heap.size w1 x3 := (by first | exact below_next (below_next HX1.out (belowNew x1 _)) hb | exact below_next (below_next HX2.out (belowNew x2 _)) hb); have d1' := (hx.cell (p := ⟨g, 1, none⟩) hltg).trans d1; have d2' := (hx.cell (p := ⟨g, 2, none⟩) hltg).trans d2; have HX3 := Lib.hid hx; clear hb hx))
  all_goals go_wp2_with fail
  all_goals go_ret
  all_goals exact ⟨rfl, below_next HB1.out HX3.out⟩
end Go.Proofs.YtflpajbcomhkpaaGreatDoor
namespace Go.Proofs.YtflpajbcomhkpaaGreatDoor
open Go.RowKit

/-- A row of n strings, the first of which are those of L. -/
def rowT (n : Nat) (L : List ByteArray) : Array Value := (L.map Value.string ++ List.replicate (n - L.length) (Value.string ⟨#[]⟩)).toArray
theorem rowT_size (n : Nat) (L : List ByteArray) (h : L.length ≤ n) : (rowT n L).size = n := by
  simp [rowT]; omega
theorem rowT_snoc (n : Nat) (L : List ByteArray) (s : ByteArray) (k : Nat) (hk : k = L.length) (h : k < n) : (rowT n L).setIfInBounds k (.string s) = rowT n (L ++ [s]) := by
  subst hk
  apply Array.ext
  · rw [Array.size_setIfInBounds, rowT_size n L (by omega), rowT_size n _ (by simp; omega)]
  · intro i h1 h2
    rw [Array.size_setIfInBounds, rowT_size n L (by omega)] at h1
    by_cases hi : L.length = i
    · subst hi
      rw [Array.getElem_setIfInBounds_self]
      simp [rowT]
    · rw [Array.getElem_setIfInBounds_ne (by rw [rowT_size n L (by omega)]; exact h1) hi]
      simp only [rowT, List.getElem_toArray]
      rcases Nat.lt_or_ge i L.length with hl | hl
      · rw [List.getElem_append_left (by simpa using hl), List.getElem_append_left (by simp; omega)]
        simp [hl]
      · rw [List.getElem_append_right (by simpa using hl), List.getElem_append_right (by simp; omega)]
        simp
theorem rowT_nil (n : Nat) : rowT n [] = (List.replicate n (Value.string ⟨#[]⟩)).toArray := by simp [rowT]
theorem rowT_all (n : Nat) (L : List ByteArray) (h : L.length = n) : rowT n L = (L.map Value.string).toArray := by simp [rowT, h]
theorem rowT_at (n : Nat) (L : List ByteArray) (h : L.length ≤ n) (i : Nat) (hi : i < n) : ∃ v, (rowT n L)[i]? = some v :=
  ⟨_, Array.getElem?_eq_getElem (by rw [rowT_size n L h]; exact hi)⟩
theorem strInfo2 : (Tryz.prog.info? 9).map (fun i => (i.zero, i.size, i.bytes)) = some (some (.string ⟨#[]⟩), 1, 16) := by kernel_rfl
theorem strs_make (n : Nat) (hn : n ≤ 1000000) (W : World) : (Instr.makeSlice 51 (.int .i64 (n : Int)) (.int .i64 (n : Int))).run Tryz.prog W = .ok (.slice (some ⟨W.heap.size, 0, none⟩) n n) (W.alloc (.cells (rowT n []) 9)) := by
  obtain ⟨i0, hi, hz0, hz1, hz2⟩ := info_parts strInfo2
  have hr := run_makeSlice (P := Tryz.prog) W 51 9 i0 (.string ⟨#[]⟩) Tryz.underlying51 hi hz0 .i64 .i64 (n : Int) (n : Int) (by omega) (Int.le_refl _) (by rw [hz1]; simp; omega) (by rw [hz2]; omega) (by omega)
  rw [hr]
  have e2 : madeCells (Value.string ⟨#[]⟩).cells ((n : Int).toNat * i0.size) = rowT n [] := by
    rw [hz1, rowT_nil]
    apply Array.ext
    · simp [madeCells, Value.cells]
    · intro i h1 h2
      simp [madeCells, Value.cells, Nat.mod_one]
  rw [e2]
  simp
theorem row_put {w : World} {g n k : Nat} {L : List ByteArray} {s : ByteArray} {T : TypeId} (h : w.heap[g]? = some (.cells (rowT n L) T (0, 0))) (hk : k = L.length) (hn : k < n) :
    (w.setCell ⟨g, k, none⟩ (.string s)).heap[g]? = some (.cells (rowT n (L ++ [s])) T (0, 0)) := by
  rw [← rowT_snoc n L s k hk hn]
  simp [World.setCell, Array.getElem?_modify, h]
theorem row_reads {w : World} {g n : Nat} {L : List ByteArray} {T : TypeId} (h : w.heap[g]? = some (.cells (rowT n L) T (0, 0))) (hl : L.length = n) : Reads w (.slice (some ⟨g, 0, none⟩) n n) L := by
  refine ⟨_, n, by rw [hl], .inr ⟨g, 0, rfl, fun i hi => ?_⟩⟩
  rw [Lib.cell_of_heap h, rowT_all n L hl]
  simp only [Nat.zero_add, List.getElem?_toArray, List.getElem?_map]
  rw [List.getElem?_eq_getElem hi, List.getD_eq_getElem?_getD, List.getElem?_eq_getElem hi]
  rfl
theorem cat_len : ∀ (ss : List ByteArray), (∀ s ∈ ss, s.size ≤ 131080) → (cat_t ss).length ≤ 131080 * ss.length
  | [], _ => by simp [cat_t]
  | s :: r, h => by
    have h1 : s.data.toList.length ≤ 131080 := h s List.mem_cons_self
    have h2 := cat_len r (fun x hx => h x (List.mem_cons_of_mem _ hx))
    have e : cat_t (s :: r) = s.data.toList ++ cat_t r := by simp [cat_t]
    rw [e, List.length_append, List.length_cons]
    omega
theorem encA_size (a : At) : (encA a).size ≤ 131080 := wrapStr_size _ _
theorem encs_cat (r : List At) (n : Nat) (h : r.length = n) (hn : n ≤ 1000) : (cat_t (r.map encA)).length ≤ 1099511627776 := by
  have := cat_len (r.map encA) (fun s hs => by obtain ⟨a, _, rfl⟩ := List.mem_map.1 hs; exact encA_size a)
  rw [List.length_map] at this
  omega

set_option maxRecDepth 100000 in
set_option maxHeartbeats 4000000 in
theorem encrel_any (a0 : Option Addr) (c n : Nat) (l : List At) (w : World) (h : ALies w a0 l) (hn : n = l.length) (hs : SmallR l) (hl : n ≤ 1000) :
    Calls Tryz.prog 102 #[.slice a0 n c] w fun e w' => e = .returned (.string (encR l)) ∧ Below w.heap.size w w' := by
  have hmk := strs_make n (by omega)
  obtain ⟨W0, hW0⟩ : ∃ W0, W0 = w.alloc (.cells (rowT n []) 9) := ⟨_, rfl⟩
  have hb0 : Below w.heap.size w W0 := by rw [hW0]; exact belowNew w _
  have hq0 : W0.heap[w.heap.size]? = some (.cells (rowT n []) 9 (0, 0)) := by rw [hW0]; exact heap_alloc_new w _
  obtain ⟨g, hg⟩ : ∃ g, g = w.heap.size := ⟨_, rfl⟩
  have HWE := Lib.hid hW0.symm
  have HB0 := Lib.hid hb0
  rw [← hg] at hq0
  have HQ0 := Lib.hid hq0
  have HG := Lib.hid hg
  have H1 := Lib.hid h
  have HN := Lib.hid hn
  have HS := Lib.hid hs
  obtain ⟨oo, hoo⟩ : ∃ oo, oo = (⟨(ordL (lists (l.map encA))).flatten.toArray⟩ : ByteArray) := ⟨_, rfl⟩
  have HOR := Lib.hid (fun v W (hv : Reads W v (l.map encA)) => order_any v (l.map encA) W hv (by rw [List.length_map]; omega) (encs_cat l n hn.symm hl))
  unfold encR
  rw [← hoo] at HOR ⊢
  clear h hn hs hW0 hb0 hq0 hg hoo
  go_enter Tryz.func102, Tryz.ntmps102
  go_wp2_with fail
  rw [HWE.out, ← HG.out]
  clear hmk
  go_loopw [11] (fun i wr => ∃ k : Nat, k ≤ n ∧ i = .int .i64 (k : Int) ∧ wr.heap[g]? = some (.cells (rowT n ((l.take k).map encA)) 9 (0, 0)) ∧ Below w.heap.size w wr) (fun i _ => n - (intOf i).toNat)
  case atStart => exact ⟨0, Nat.zero_le _, rfl, HQ0.out, HB0.out⟩
  case round =>
    obtain ⟨k, hk, rfl, hq, hb⟩ := hrel
    have HB := Lib.hid hb
    have HQ := Lib.hid hq
    clear hb hq
    by_cases hlt : k < n
    · have hd : decide ((k : Int) < (n : Int)) = true := by simp; omega
      obtain ⟨b, o, rfl, hb, c0, c1, c2⟩ := H1.out.at k (by rw [← HN.out]; exact hlt)
      have a0 : wr.cell? ⟨b, o + k * 3, none⟩ = _ := (HB.out.cell (p := ⟨b, o + k * 3, none⟩) hb).trans c0
      have a1 : wr.cell? ⟨b, o + k * 3 + 1, none⟩ = _ := (HB.out.cell (p := ⟨b, o + k * 3 + 1, none⟩) hb).trans c1
      have a2 : wr.cell? ⟨b, o + k * 3 + 2, none⟩ = _ := (HB.out.cell (p := ⟨b, o + k * 3 + 2, none⟩) hb).trans c2
      have hst : (l.take (k + 1)).map encA = (l.take k).map encA ++ [encA (l.getD k noAt)] := by rw [takeD l k (by rw [← HN.out]; exact hlt) noAt]; simp
      have hsm := HS.out.2 k (by rw [← HN.out]; exact hlt)
      generalize l.getD k noAt = y at a0 a1 a2 hst hsm
      obtain ⟨t, kd, v⟩ := y
      have HEN := Lib.hid (fun W => enca_any (t, kd, v) W (Nat.le_trans hsm.1 (by omega)))
      unfold atV at HEN
      simp only at HEN
      obtain ⟨s, hs⟩ : ∃ s, s = encA (t, kd, v) := ⟨_, rfl⟩
      rw [← hs] at HEN hst
      have HST := Lib.hid hst
      have hll : k = ((l.take k).map encA).length := by rw [List.length_map, List.length_take, ← HN.out]; omega
      have HLL := Lib.hid hll
      have hgl : g < wr.heap.size := (Array.getElem?_eq_some_iff.1 HQ.out).1
      clear c0 c1 c2 hb hsm hs hst hll
      go_wp2_with (go_at_call 142; (with_reducible refine (HEN.out _).mono ?_); rintro e w1 ⟨rfl, hb1⟩; have hq1 := (hb1.block g (by simp; omega)).trans (((belowNew wr _).block g hgl).trans HQ.out); have HQ1 := Lib.hid hq1; have HB1 := Lib.hid (below_next HB.out (below_next (belowNew wr _) hb1)); obtain ⟨cv, hcv⟩ := rowT_at n ((l.take k).map encA) (by have := HLL.out; omega) k hlt; have hcell : w1.cell? ⟨g, k, none⟩ = some cv := (by rw [Lib.cell_of_heap hq1]; exact hcv); have hfz : w1.frozen? ⟨g, k, none⟩ = false := Lib.frozen_of_heap hq1 k; clear hb1 hq1 hcv)
      go_roundw
      case rel => exact ⟨k + 1, by omega, by go_num, by rw [HST.out]; exact row_put HQ1.out HLL.out hlt, HB1.out.setCell (p := ⟨g, k, none⟩) (by rw [HG.out]; exact Nat.le_refl _) _⟩
      case measure => simp [intOf]; omega
    · have hd : decide ((k : Int) < (n : Int)) = false := by simp; omega
      have hR := row_reads HQ.out (by rw [List.length_map, List.length_take, ← HN.out]; omega)
      rw [List.take_of_length_le (by rw [← HN.out]; omega)] at hR
      have HR := Lib.hid hR
      have H1w := Lib.hid (fun g x W h => dw1 49 g x W h)
      clear hR
      go_wp2_with (first
        | (go_at_call 143; (with_reducible refine (HOR.out _ _ HR.out).mono ?_); rintro e w1 ⟨rfl, hb1⟩; have HB1 := Lib.hid (below_next HB.out hb1); clear hb1)
        | (go_at_call 103; (with_reducible refine (H1w.out _ _ _ (bx1 _ _ _)).mono ?_); rintro e w2 ⟨rfl, hb2⟩; have HB2 := Lib.hid (below_next HB1.out (below_next (belowNew _ _) hb2)); clear hb2))
      go_ret
      exact ⟨rfl, HB2.out⟩
end Go.Proofs.YtflpajbcomhkpaaGreatDoor
