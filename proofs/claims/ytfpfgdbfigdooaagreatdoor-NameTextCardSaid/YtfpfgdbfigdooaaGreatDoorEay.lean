/-
  The encodings of attributes, relative names and names; the contracts of the program's and the reference's wrap, OID and encodeAttribute.
  The contracts of certpathmade's New and Next: a deck in a block of the caller's own; a number from 0 to n - 1.
  The contract of certpathmade's Damage: a string that is at most one byte longer; nothing below the deck has changed.
  The contracts of certpathmade's Damage and replaced, with the deck kept.
  The contracts of encodeAttribute, and of the reference's OID.
  The contract of certpathmade's replaced.
  The contracts of encodeRelative and Encode.
-/
import Derived.Test.YtfpfgdbfigdooaaGreatDoorEan
import Derived.Test.YtfpfgdbfigdooaaGreatDoorEak
import Derived.Test.YtfpfgdbfigdooaaGreatDoorEar
import Derived.Test.YtfpfgdbfigdooaaGreatDoorEav
import Derived.Test.YtfpfgdbfigdooaaGreatDoorEax
import Derived.Test.YtfpfgdbfigdooaaGreatDoorEaq
import Derived.Test.YtfpfgdbfigdooaaGreatDoorEai
import Derived.Test.YtfpfgdbfigdooaaGreatDoorEat
import Derived.Deep.RegionHeld3
import Derived.Test.YtfpfgdbfigdooaaGreatDoorEaj
namespace Go.Proofs.YtfpfgdbfigdooaaGreatDoor
open Go.RowKit

/-- The contents of the element of an object identifier. -/
noncomputable def oidS (s : ByteArray) : ByteArray := @dite _ (∃ a, Oid s.data.toList a) (Classical.propDecidable _) (fun h => strOf (enc h.choose)) (fun _ => ⟨#[]⟩)
theorem oidS_yes {s : ByteArray} {a : List Nat} (h : Oid s.data.toList a) : oidS s = strOf (enc a) := by
  have hx : ∃ a, Oid s.data.toList a := ⟨a, h⟩
  unfold oidS
  rw [dif_pos hx, oid_one hx.choose_spec h]
theorem oidS_no {s : ByteArray} (h : ∀ a, ¬ Oid s.data.toList a) : oidS s = ⟨#[]⟩ := by
  unfold oidS
  rw [dif_neg (fun ⟨a, k⟩ => h a k)]
/-- The element with the identifier octet T and the contents x. -/
def wr1 (T : Int) (x : ByteArray) : ByteArray := wrapStr T x.data.toList
def wr2 (T : Int) (x y : ByteArray) : ByteArray := wrapStr T (x.data.toList ++ y.data.toList)
noncomputable def encA (a : At) : ByteArray := wr2 48 (wr1 6 (oidS a.1)) (wr1 a.2.1 a.2.2)
noncomputable def encR (r : List At) : ByteArray := wr1 49 ⟨(ordL (lists (r.map encA))).flatten.toArray⟩
noncomputable def encN (n : Nm) : ByteArray := wrapStr 48 (cat_t (n.map encR))

/-! ### Slices of one and of two strings -/
theorem reads_one {w : World} {g : Nat} {x : ByteArray} (h : w.cell? ⟨g, 0, none⟩ = some (.string x)) : Reads w (.slice (some ⟨g, 0, none⟩) 1 1) [x] := by
  refine ⟨_, 1, rfl, .inr ⟨g, 0, rfl, fun i hi => ?_⟩⟩
  obtain rfl : i = 0 := by simpa using hi
  exact h
theorem reads_two {w : World} {g : Nat} {x y : ByteArray} (h : w.cell? ⟨g, 0, none⟩ = some (.string x)) (k : w.cell? ⟨g, 1, none⟩ = some (.string y)) : Reads w (.slice (some ⟨g, 0, none⟩) 2 2) [x, y] := by
  refine ⟨_, 2, rfl, .inr ⟨g, 0, rfl, fun i hi => ?_⟩⟩
  rcases (by simp at hi; omega : i = 0 ∨ i = 1) with rfl | rfl
  · exact h
  · exact k
theorem cat_one (x : ByteArray) : cat_t [x] = x.data.toList := by simp [cat_t]
theorem cat_two (x y : ByteArray) : cat_t [x, y] = x.data.toList ++ y.data.toList := by simp [cat_t]

/-! ### wrap -/
set_option maxRecDepth 100000 in
set_option maxHeartbeats 1000000 in
theorem dwrap_any (T : Int) (a : Option Addr) (n c : Nat) (ss : List ByteArray) (w : World) (hv : Reads w (.slice a n c) ss) (hn : ss.length < 4611686018427387904) :
    Calls Tryz.prog 33 #[.int .i64 T, .slice a n c] w fun e w' => e = .returned (.string (wrapStr T (cat_t ss))) ∧ Below w.heap.size w w' := by
  have HW := wrap_any T _ ss w hv hn
  unfold wrapVal at HW
  have H := Lib.hid HW
  clear HW hv hn
  go_enter Tryz.func33, Tryz.ntmps33
  go_wp2_with (go_at_call 61; (with_reducible refine H.out.mono ?_); rintro e w1 ⟨rfl, hb⟩; have HB := Lib.hid hb; clear hb)
  go_ret
  exact ⟨rfl, HB.out⟩
set_option maxRecDepth 100000 in
set_option maxHeartbeats 1000000 in
theorem rwrapd_any (T : Int) (a : Option Addr) (n c : Nat) (ss : List ByteArray) (w : World) (hv : Reads w (.slice a n c) ss) (hn : ss.length < 4611686018427387904) (hb : (cat_t ss).length ≤ 1099511627776) :
    Calls Tryz.prog 34 #[.int .i64 T, .slice a n c] w fun e w' => e = .returned (.string (wrapStr T (cat_t ss))) ∧ Below w.heap.size w w' := by
  have HW := rwrap_any T _ ss w hv hn hb
  unfold wrapVal at HW
  have H := Lib.hid HW
  clear HW hv hn hb
  go_enter Tryz.func34, Tryz.ntmps34
  go_wp2_with (go_at_call 62; (with_reducible refine H.out.mono ?_); rintro e w1 ⟨rfl, hb⟩; have HB := Lib.hid hb; clear hb)
  go_ret
  exact ⟨rfl, HB.out⟩
theorem dw1 (T : Int) (g : Nat) (x : ByteArray) (w : World) (h : w.cell? ⟨g, 0, none⟩ = some (.string x)) :
    Calls Tryz.prog 33 #[.int .i64 T, .slice (some ⟨g, 0, none⟩) 1 1] w fun e w' => e = .returned (.string (wr1 T x)) ∧ Below w.heap.size w w' := by
  have := dwrap_any T _ _ _ _ w (reads_one h) (by simp)
  rwa [cat_one] at this
theorem dw2 (T : Int) (g : Nat) (x y : ByteArray) (w : World) (h : w.cell? ⟨g, 0, none⟩ = some (.string x)) (k : w.cell? ⟨g, 1, none⟩ = some (.string y)) :
    Calls Tryz.prog 33 #[.int .i64 T, .slice (some ⟨g, 0, none⟩) 2 2] w fun e w' => e = .returned (.string (wr2 T x y)) ∧ Below w.heap.size w w' := by
  have := dwrap_any T _ _ _ _ w (reads_two h k) (by simp)
  rwa [cat_two] at this
theorem rw1 (T : Int) (g : Nat) (x : ByteArray) (w : World) (h : w.cell? ⟨g, 0, none⟩ = some (.string x)) (hx : x.size ≤ 1099511627776) :
    Calls Tryz.prog 34 #[.int .i64 T, .slice (some ⟨g, 0, none⟩) 1 1] w fun e w' => e = .returned (.string (wr1 T x)) ∧ Below w.heap.size w w' := by
  have := rwrapd_any T _ _ _ _ w (reads_one h) (by simp) (by rw [cat_one]; exact hx)
  rwa [cat_one] at this
theorem rw2 (T : Int) (g : Nat) (x y : ByteArray) (w : World) (h : w.cell? ⟨g, 0, none⟩ = some (.string x)) (k : w.cell? ⟨g, 1, none⟩ = some (.string y)) (hx : x.size + y.size ≤ 1099511627776) :
    Calls Tryz.prog 34 #[.int .i64 T, .slice (some ⟨g, 0, none⟩) 2 2] w fun e w' => e = .returned (.string (wr2 T x y)) ∧ Below w.heap.size w w' := by
  have := rwrapd_any T _ _ _ _ w (reads_two h k) (by simp) (by rw [cat_two, List.length_append]; exact hx)
  rwa [cat_two] at this
theorem wrapStr_size (T : Int) (c : List UInt8) : (wrapStr T c).size ≤ 131080 := by
  unfold wrapStr
  split
  · rename_i h
    have hl : c.length ≤ 131072 := by
      unfold wrapErr at h
      split at h
      · cases h
      · split at h
        · cases h
        · omega
    show (wrapL T.toNat c).length ≤ _
    unfold wrapL
    rw [List.length_cons, List.length_append, lenO_length]
    have := lsz_le c.length
    omega
  · show 0 ≤ _; omega

/-! ### The contents of an object identifier -/
theorem denc_any (s : ByteArray) (w : World) (hs : s.size ≤ 1099511627) :
    Calls Tryz.prog 91 #[.string s] w fun e w' => (∃ er : Int, e = .returned (.tuple #[.string (oidS s), .int .i64 er])) ∧ Below w.heap.size w w' := by
  rcases oid_or s.data.toList with ⟨a, h⟩ | h
  · exact (enc_yes h w hs).mono fun e w' ⟨he, hb⟩ => ⟨⟨0, by rw [he, oidS_yes h]; rfl⟩, hb⟩
  · exact (enc_no h w hs).mono fun e w' ⟨he, hb⟩ => ⟨⟨11, by rw [he, oidS_no h]; rfl⟩, hb⟩
theorem renc_any' (s : ByteArray) (w : World) (hs : s.size ≤ 1099511627) :
    Calls Tryz.prog 100 #[.string s] w fun e w' => (∃ er : Int, e = .returned (.tuple #[.string (oidS s), .int .i64 er])) ∧ Below w.heap.size w w' := by
  rcases oid_or s.data.toList with ⟨a, h⟩ | h
  · exact (renc_yes h w hs).mono fun e w' ⟨he, hb⟩ => ⟨⟨0, by rw [he, oidS_yes h]; rfl⟩, hb⟩
  · exact (renc_no h w hs).mono fun e w' ⟨he, hb⟩ => ⟨⟨11, by rw [he, oidS_no h]; rfl⟩, hb⟩
end Go.Proofs.YtfpfgdbfigdooaaGreatDoor
namespace Go.Proofs.YtfpfgdbfigdooaaGreatDoor
open Go.RowKit

set_option maxRecDepth 100000 in
set_option maxHeartbeats 1000000 in
theorem next_end_t (p : Nat) (a : Option Addr) (cap : Nat) (zs : List Int) (k : Nat) (N : Nat) (w : World) (h : DeckAt w p a cap zs k) (hk : zs.length ≤ k) :
    Calls Tryz.prog 12 #[.pointer (some ⟨p, 0, none⟩), .int .i64 (N : Int)] w fun e w' => e = .returned (.int .i64 0) ∧ DeckAt w' p a cap zs k ∧ Below p w w' := by
  have HD := Lib.hid h
  obtain ⟨h1, _, _, _, h4⟩ := h
  obtain ⟨n, hn⟩ : ∃ n, n = zs.length := ⟨_, rfl⟩
  rw [← hn] at h1 hk h4
  have c0 : w.cell? ⟨p, 0, none⟩ = some (.slice a n cap) := by rw [Lib.cell_of_heap h1]; rfl
  have c1 : w.cell? ⟨p, 1, none⟩ = some (.int .i64 (k : Int)) := by rw [Lib.cell_of_heap h1]; rfl
  have d0 : decide ((n : Int) ≤ (k : Int)) = true := by simp; omega
  clear h1 hn
  go_enter Tryz.func12, Tryz.ntmps12
  go_wp2_with fail
  go_region
  go_wp2_with fail
  go_ret
  exact ⟨rfl, HD.out, (Below.refl _ _).drew⟩
set_option maxRecDepth 100000 in
set_option maxHeartbeats 1000000 in
theorem next_more_t (p : Nat) (a : Option Addr) (cap : Nat) (zs : List Int) (k : Nat) (N : Nat) (w : World) (h : DeckAt w p a cap zs k) (hk : k < zs.length) (hk2 : k < 1000) (hN : 0 < N) (hN2 : N ≤ 1099511627776) :
    Calls Tryz.prog 12 #[.pointer (some ⟨p, 0, none⟩), .int .i64 (N : Int)] w fun e w' => (∃ r : Nat, r < N ∧ e = .returned (.int .i64 (r : Int))) ∧ DeckAt w' p a cap zs (k + 1) ∧ Below p w w' := by
  have HD := Lib.hid h
  obtain ⟨h1, h2, h3, _, h4⟩ := h
  obtain ⟨b, o, ha, hc⟩ := h2.at k hk
  have hbp := h3 _ ha (fun e => by rw [e] at hk; exact absurd hk (Nat.not_lt_zero _))
  subst ha
  generalize zs.getD k 0 = z at hc
  obtain ⟨x, y, r, e1, x1, x2, e2, y1, y2, e3, hr⟩ := next_num z N hN hN2
  obtain ⟨n, hn⟩ : ∃ n, n = zs.length := ⟨_, rfl⟩
  rw [← hn] at h1 hk h4
  have c0 : w.cell? ⟨p, 0, none⟩ = some (.slice (some ⟨b, o, none⟩) n cap) := by rw [Lib.cell_of_heap h1]; rfl
  have c1 : w.cell? ⟨p, 1, none⟩ = some (.int .i64 (k : Int)) := by rw [Lib.cell_of_heap h1]; rfl
  have f1 : w.frozen? ⟨p, 1, none⟩ = false := Lib.frozen_of_heap h1 1
  have hne : b ≠ p := by simp at hbp; omega
  have d0 : decide ((n : Int) ≤ (k : Int)) = false := by simp; omega
  have HR := Lib.hid hr
  clear h1 hn h2 h3 hr hbp
  go_enter Tryz.func12, Tryz.ntmps12
  go_wp2_with fail
  go_region
  go_wp2_with fail
  go_region
  go_wp2_with fail
  go_ret
  exact ⟨⟨r, HR.out, rfl⟩, deck_set HD.out hk2, ((Below.refl p w).setCell (p := ⟨p, 1, none⟩) (Nat.le_refl _) _).drew.drew⟩

theorem next_any_t (p : Nat) (a : Option Addr) (cap : Nat) (zs : List Int) (k : Nat) (N : Nat) (w : World) (h : DeckAt w p a cap zs k) (hk2 : k < 1000) (hN : 0 < N) (hN2 : N ≤ 1099511627776) :
    Calls Tryz.prog 12 #[.pointer (some ⟨p, 0, none⟩), .int .i64 (N : Int)] w fun e w' => ∃ r k' : Nat, r < N ∧ e = .returned (.int .i64 (r : Int)) ∧ DeckAt w' p a cap zs k' ∧ k' ≤ k + 1 ∧ Below p w w' := by
  by_cases hk : k < zs.length
  · exact (next_more_t p a cap zs k N w h hk hk2 hN hN2).mono fun e w' hh => by
      obtain ⟨⟨r, hr, he⟩, h1, h2⟩ := hh
      exact ⟨r, k + 1, hr, he, h1, Nat.le_refl _, h2⟩
  · exact (next_end_t p a cap zs k N w h (by omega)).mono fun e w' hh => ⟨0, k, hN, by rw [hh.1]; rfl, hh.2.1, by omega, hh.2.2⟩

end Go.Proofs.YtfpfgdbfigdooaaGreatDoor
namespace Go.Proofs.YtfpfgdbfigdooaaGreatDoor
open Go.RowKit

theorem deck_alloc {w : World} {p : Nat} {a : Option Addr} {cap : Nat} {zs : List Int} {k : Nat} (h : DeckAt w p a cap zs k) (o : Obj) : DeckAt (w.alloc o) p a cap zs k := by
  obtain ⟨h1, h2, h3, h5, h4⟩ := h
  have hp : p < w.heap.size := (Array.getElem?_eq_some_iff.1 h1).1
  exact ⟨heap_keep h1 o, h2.below ((Below.refl p w).alloc (by omega) o) h3, h3, h5, h4⟩
theorem next_int (p : Nat) (a : Option Addr) (cap : Nat) (zs : List Int) (k : Nat) (N : Nat) (M : Int) (w : World) (h : DeckAt w p a cap zs k) (hk2 : k < 1000) (hN : 0 < N) (hN2 : N ≤ 1099511627776) (hM : M = (N : Int)) :
    Calls Tryz.prog 12 #[.pointer (some ⟨p, 0, none⟩), .int .i64 M] w fun e w' => ∃ r k' : Nat, r < N ∧ e = .returned (.int .i64 (r : Int)) ∧ DeckAt w' p a cap zs k' ∧ k' ≤ k + 1 ∧ Below p w w' := by
  rw [hM]
  exact next_any_t p a cap zs k N w h hk2 hN hN2

theorem below_any {p : Nat} {w w1 w2 w3 : World} {o : Obj} (h1 : Below p w w1) (h2 : Below p w1 w2) (h3 : Below p (w2.alloc o) w3) (hp : p ≤ w2.heap.size) : Below p w w3 :=
  ((h1.trans h2).alloc hp o).trans h3
set_option maxRecDepth 100000 in
set_option maxHeartbeats 2000000 in
theorem damage_any (p : Nat) (a : Option Addr) (cap : Nat) (zs : List Int) (k : Nat) (s : ByteArray) (w : World) (h : DeckAt w p a cap zs k) (hk : k ≤ 900) (h0 : s.size ≠ 0) (hs : s.size ≤ 1099511627000) :
    Calls Tryz.prog 18 #[.pointer (some ⟨p, 0, none⟩), .string s] w fun e w' => ∃ u : ByteArray, e = .returned (.string u) ∧ u.size ≤ s.size + 1 ∧ Below p w w' := by
  have he := nonempty_list h0
  have HD := Lib.hid h
  have HK := Lib.hid hk
  have HP := Lib.hid (show 0 < s.size by omega)
  have HS := Lib.hid hs
  clear h hk h0
  go_enter Tryz.func18, Tryz.ntmps18
  go_wp2_with (first | (go_at_call 12; (with_reducible refine (next_int p a cap zs k s.size (s.size : Int) _ HD.out (by have := HK.out; omega) HP.out (by have := HS.out; omega) rfl).mono ?_); rintro e w1 ⟨r1, k1, hr1, rfl, hd1, hk1, hb1⟩; have HD1 := Lib.hid hd1; have HK1 := Lib.hid hk1; have HB1 := Lib.hid hb1; clear hd1 hk1 hb1) | (go_at_call 12; (with_reducible refine (next_int p a cap zs k1 256 256 _ HD1.out (by have := HK.out; have := HK1.out; omega) (by omega) (by omega) rfl).mono ?_); rintro e w2 ⟨r2, k2, hr2, rfl, hd2, hk2, hb2⟩; have HD2 := Lib.hid hd2; have HK2 := Lib.hid hk2; have HB2 := Lib.hid hb2; clear hd2 hk2 hb2; obtain ⟨y, rfl⟩ : ∃ y : UInt8, r2 = y.toNat := ⟨UInt8.ofNat r2, by simp; omega⟩; have hymod : ((y.toNat : Nat) : Int) % 256 = ((y.toNat : Nat) : Int) := (by omega); have hcv := row_conv w2 w2.heap.size 1 rfl [y] rfl #[.int .u8 ((y.toNat : Nat) : Int)] rfl; obtain ⟨C, hC⟩ : ∃ C : ByteArray, C = ⟨[y].toArray⟩ := ⟨_, rfl⟩; rw [← hC] at hcv; have hC1 : C.size = 1 := (by rw [hC]; rfl); clear hC) | (go_at_call 12; (with_reducible refine (next_int p a cap zs k2 5 5 _ (deck_alloc HD2.out _) (by have := HK.out; have := HK1.out; have := HK2.out; omega) (by omega) (by omega) rfl).mono ?_); rintro e w3 ⟨r3, k3, hr3, rfl, hd3, hk3, hb3⟩; have HB3 := Lib.hid hb3; clear hd3 hk3 hb3))
  · have hs := HS.out
    have q1 : (s.extract 0 r1).size = r1 := by rw [ByteArray.size_extract]; omega
    have q2 : (s.extract (r1 + 1) s.size).size = s.size - (r1 + 1) := by rw [ByteArray.size_extract]; omega
    have q3 : (s.extract 0 r1 ++ C).size = r1 + 1 := by rw [ByteArray.size_append, q1, hC1]
    have HB := Lib.hid (below_any HB1.out HB2.out HB3.out (Nat.le_of_lt (Array.getElem?_eq_some_iff.1 HD2.out.1).1))
    go_region
    go_wp2_with fail
    go_ret
    exact ⟨_, rfl, by rw [ByteArray.size_append, q3, q2]; omega, HB.out.drew⟩
  · have hs := HS.out
    have q1 : (s.extract 0 r1).size = r1 := by rw [ByteArray.size_extract]; omega
    have q2 : (s.extract r1 s.size).size = s.size - r1 := by rw [ByteArray.size_extract]; omega
    have q3 : (s.extract 0 r1 ++ C).size = r1 + 1 := by rw [ByteArray.size_append, q1, hC1]
    have HB := Lib.hid (below_any HB1.out HB2.out HB3.out (Nat.le_of_lt (Array.getElem?_eq_some_iff.1 HD2.out.1).1))
    go_region
    go_wp2_with fail
    go_ret
    exact ⟨_, rfl, by rw [ByteArray.size_append, q3, q2]; omega, HB.out.drew⟩
  · have hs := HS.out
    have q1 : (s.extract 0 r1).size = r1 := by rw [ByteArray.size_extract]; omega
    have q2 : (s.extract (r1 + 1) s.size).size = s.size - (r1 + 1) := by rw [ByteArray.size_extract]; omega
    have HB := Lib.hid (below_any HB1.out HB2.out HB3.out (Nat.le_of_lt (Array.getElem?_eq_some_iff.1 HD2.out.1).1))
    go_region
    go_wp2_with fail
    go_ret
    exact ⟨_, rfl, by rw [ByteArray.size_append, q1, q2]; omega, HB.out.drew⟩
  · go_ret
    exact ⟨_, rfl, by rw [ByteArray.size_extract]; omega, below_any HB1.out HB2.out HB3.out (Nat.le_of_lt (Array.getElem?_eq_some_iff.1 HD2.out.1).1)⟩
  · go_ret
    exact ⟨_, rfl, by omega, below_any HB1.out HB2.out HB3.out (Nat.le_of_lt (Array.getElem?_eq_some_iff.1 HD2.out.1).1)⟩
end Go.Proofs.YtfpfgdbfigdooaaGreatDoor
namespace Go.Proofs.YtfpfgdbfigdooaaGreatDoor
open Go.RowKit

theorem next_intN (p : Nat) (a : Option Addr) (cap : Nat) (zs : List Int) (k : Nat) (N : Nat) (M : Int) (w : World) (h : DeckAt w p a cap zs k) (hk2 : k < 1000) (hN : 0 < N) (hN2 : N ≤ 1099511627776) (hM : M = (N : Int)) :
    Calls Tryz.prog 12 #[.pointer (some ⟨p, 0, none⟩), .int .i64 M] w fun e w' => ∃ r k' : Nat, r < N ∧ e = .returned (.int .i64 (r : Int)) ∧ DeckAt w' p a cap zs k' ∧ k' ≤ k + 1 ∧ But p w w' := by
  rw [hM]
  exact next_any p a cap zs k N w h hk2 hN hN2
theorem but_any {p : Nat} {w w1 w2 w3 : World} {o : Obj} (h1 : But p w w1) (h2 : But p w1 w2) (h3 : But p (w2.alloc o) w3) : But p w w3 :=
  ((h1.next h2).next (But.of (belowNew w2 o))).next h3
theorem but_drew {p : Nat} {w w' : World} (h : But p w w') : But p w w'.drew := h.next (But.of (Below.refl _ w').drew)
set_option maxRecDepth 100000 in
set_option maxHeartbeats 2000000 in
theorem damage_but (p : Nat) (a : Option Addr) (cap : Nat) (zs : List Int) (k : Nat) (s : ByteArray) (w : World) (h : DeckAt w p a cap zs k) (hk : k ≤ 990) (h0 : s.size ≠ 0) (hs : s.size ≤ 1099511627000) :
    Calls Tryz.prog 18 #[.pointer (some ⟨p, 0, none⟩), .string s] w fun e w' => ∃ (u : ByteArray) (k' : Nat), e = .returned (.string u) ∧ u.size ≤ s.size + 1 ∧ DeckAt w' p a cap zs k' ∧ k' ≤ k + 3 ∧ But p w w' := by
  have he := nonempty_list h0
  have HD := Lib.hid h
  have HK := Lib.hid hk
  have HP := Lib.hid (show 0 < s.size by omega)
  have HS := Lib.hid hs
  clear h hk h0
  go_enter Tryz.func18, Tryz.ntmps18
  go_wp2_with (first | (go_at_call 12; (with_reducible refine (next_intN p a cap zs k s.size (s.size : Int) _ HD.out (by have := HK.out; omega) HP.out (by have := HS.out; omega) rfl).mono ?_); rintro e w1 ⟨r1, k1, hr1, rfl, hd1, hk1, hb1⟩; have HD1 := Lib.hid hd1; have HK1 := Lib.hid hk1; have HB1 := Lib.hid hb1; clear hd1 hk1 hb1) | (go_at_call 12; (with_reducible refine (next_intN p a cap zs k1 256 256 _ HD1.out (by have := HK.out; have := HK1.out; omega) (by omega) (by omega) rfl).mono ?_); rintro e w2 ⟨r2, k2, hr2, rfl, hd2, hk2, hb2⟩; have HD2 := Lib.hid hd2; have HK2 := Lib.hid hk2; have HB2 := Lib.hid hb2; clear hd2 hk2 hb2; obtain ⟨y, rfl⟩ : ∃ y : UInt8, r2 = y.toNat := ⟨UInt8.ofNat r2, by simp; omega⟩; have hymod : ((y.toNat : Nat) : Int) % 256 = ((y.toNat : Nat) : Int) := (by omega); have hcv := row_conv w2 w2.heap.size 1 rfl [y] rfl #[.int .u8 ((y.toNat : Nat) : Int)] rfl; obtain ⟨C, hC⟩ : ∃ C : ByteArray, C = ⟨[y].toArray⟩ := ⟨_, rfl⟩; rw [← hC] at hcv; have hC1 : C.size = 1 := (by rw [hC]; rfl); clear hC) | (go_at_call 12; (with_reducible refine (next_intN p a cap zs k2 5 5 _ (deck_alloc HD2.out _) (by have := HK.out; have := HK1.out; have := HK2.out; omega) (by omega) (by omega) rfl).mono ?_); rintro e w3 ⟨r3, k3, hr3, rfl, hd3, hk3, hb3⟩; have HD3 := Lib.hid hd3; have HKK := Lib.hid (show k3 ≤ k + 3 by have := HK1.out; have := HK2.out; omega); have HB3 := Lib.hid (but_any HB1.out HB2.out hb3); clear hb3 hd3 hk3))
  · have q1 : (s.extract 0 r1).size = r1 := by rw [ByteArray.size_extract]; omega
    have q2 : (s.extract (r1 + 1) s.size).size = s.size - (r1 + 1) := by rw [ByteArray.size_extract]; omega
    have q3 : (s.extract 0 r1 ++ C).size = r1 + 1 := by rw [ByteArray.size_append, q1, hC1]
    have hs := HS.out
    go_region
    go_wp2_with fail
    go_ret
    exact ⟨_, _, rfl, by rw [ByteArray.size_append, q3, q2]; omega, deck_up HD3.out, HKK.out, but_drew HB3.out⟩
  · have q1 : (s.extract 0 r1).size = r1 := by rw [ByteArray.size_extract]; omega
    have q2 : (s.extract r1 s.size).size = s.size - r1 := by rw [ByteArray.size_extract]; omega
    have q3 : (s.extract 0 r1 ++ C).size = r1 + 1 := by rw [ByteArray.size_append, q1, hC1]
    have hs := HS.out
    go_region
    go_wp2_with fail
    go_ret
    exact ⟨_, _, rfl, by rw [ByteArray.size_append, q3, q2]; omega, deck_up HD3.out, HKK.out, but_drew HB3.out⟩
  · have q1 : (s.extract 0 r1).size = r1 := by rw [ByteArray.size_extract]; omega
    have q2 : (s.extract (r1 + 1) s.size).size = s.size - (r1 + 1) := by rw [ByteArray.size_extract]; omega
    have hs := HS.out
    go_region
    go_wp2_with fail
    go_ret
    exact ⟨_, _, rfl, by rw [ByteArray.size_append, q1, q2]; omega, deck_up HD3.out, HKK.out, but_drew HB3.out⟩
  · have hs := HS.out
    go_ret
    exact ⟨_, _, rfl, by rw [ByteArray.size_extract]; omega, HD3.out, HKK.out, HB3.out⟩
  · go_ret
    exact ⟨_, _, rfl, by omega, HD3.out, HKK.out, HB3.out⟩
end Go.Proofs.YtfpfgdbfigdooaaGreatDoor
namespace Go.Proofs.YtfpfgdbfigdooaaGreatDoor
open Go.RowKit

theorem bx1 (V : World) (x : ByteArray) (T : TypeId) : (V.alloc (.cells #[.string x] T)).cell? ⟨V.heap.size, 0, none⟩ = some (.string x) := (one_facts (heap_alloc_new V _)).1
theorem bx1d (V : World) (x : ByteArray) (T : TypeId) : (V.alloc (.cells #[.string x] T)).drew.cell? ⟨V.heap.size, 0, none⟩ = some (.string x) := bx1 V x T
theorem bx2 (V : World) (x : ByteArray) (T : TypeId) (o : Obj) : ((V.alloc (.cells #[.string x] T)).alloc o).cell? ⟨V.heap.size, 0, none⟩ = some (.string x) := ((belowNew _ o).cell (p := ⟨V.heap.size, 0, none⟩) (by simp)).trans (bx1 V x T)
theorem bx2d (V : World) (x : ByteArray) (T : TypeId) (o : Obj) : ((V.alloc (.cells #[.string x] T)).alloc o).drew.cell? ⟨V.heap.size, 0, none⟩ = some (.string x) := bx2 V x T o
theorem bx3 (V : World) (x : ByteArray) (T : TypeId) (o : Obj) : ((V.alloc o).alloc (.cells #[.string x] T)).cell? ⟨V.heap.size + 1, 0, none⟩ = some (.string x) := by
  simp
theorem bx3d (V : World) (x : ByteArray) (T : TypeId) (o : Obj) : ((V.alloc o).alloc (.cells #[.string x] T)).drew.cell? ⟨V.heap.size + 1, 0, none⟩ = some (.string x) := bx3 V x T o
theorem by0 (V : World) (x y : ByteArray) (T : TypeId) : (V.alloc (.cells #[.string x, .string y] T)).cell? ⟨V.heap.size, 0, none⟩ = some (.string x) := by
  rw [cell_of_row _ _ 0 _ _ _ (heap_alloc_new V _)]; rfl
theorem by1 (V : World) (x y : ByteArray) (T : TypeId) : (V.alloc (.cells #[.string x, .string y] T)).cell? ⟨V.heap.size, 1, none⟩ = some (.string y) := by
  rw [cell_of_row _ _ 1 _ _ _ (heap_alloc_new V _)]; rfl

theorem by0d (V : World) (x y : ByteArray) (T : TypeId) : (V.alloc (.cells #[.string x, .string y] T)).drew.cell? ⟨V.heap.size, 0, none⟩ = some (.string x) := by0 V x y T
theorem by1d (V : World) (x y : ByteArray) (T : TypeId) : (V.alloc (.cells #[.string x, .string y] T)).drew.cell? ⟨V.heap.size, 1, none⟩ = some (.string y) := by1 V x y T
theorem cat128_len : ∀ (N : List Nat), (∀ v ∈ N, v < 34359738368) → (cat e128 N).length ≤ 5 * N.length
  | [], _ => by simp [cat]
  | x :: r, h => by
    have h1 := e128_len x (h x List.mem_cons_self)
    have h2 := cat128_len r (fun v hv => h v (List.mem_cons_of_mem _ hv))
    simp only [cat, List.length_append, List.length_cons]
    omega
theorem enc_len {l : List UInt8} {a : List Nat} (h : Oid l a) : (enc a).length ≤ 55 := by
  obtain ⟨h1, h2, h3, h4⟩ := (good_nums h.1).1
  have h5 := cat128_len (numsOf a) (fun v hv => by
    generalize numsOf a = N at hv h3 h4
    cases N with
    | nil => cases hv
    | cons x r =>
      rcases List.mem_cons.1 hv with rfl | hv
      · have : v ≤ 2147483727 := h3
        omega
      · have := h4 v hv
        omega)
  show (cat e128 (numsOf a)).length ≤ 55
  omega
theorem oidS_size (s : ByteArray) : (oidS s).size ≤ 55 := by
  rcases oid_or s.data.toList with ⟨a, h⟩ | h
  · rw [oidS_yes h, strOf_size]; exact enc_len h
  · rw [oidS_no h]; show 0 ≤ _; omega
set_option maxRecDepth 100000 in
set_option maxHeartbeats 1000000 in
theorem roid_any (s : ByteArray) (w : World) (hs : s.size ≤ 1099511627) :
    Calls Tryz.prog 63 #[.string s] w fun e w' => e = .returned (.string (wr1 6 (oidS s))) ∧ Below w.heap.size w w' := by
  have H := Lib.hid (fun W => renc_any' s W hs)
  have HZ := Lib.hid (show (oidS s).size ≤ 1099511627776 from Nat.le_trans (oidS_size s) (by omega))
  obtain ⟨c, hc⟩ : ∃ c, c = oidS s := ⟨_, rfl⟩
  rw [← hc] at H HZ ⊢
  have HC := Lib.hid (fun g W h => rw1 6 g c W h HZ.out)
  clear hc hs
  go_enter Tryz.func63, Tryz.ntmps63
  go_wp2_with (first
    | (go_at_call 100; (with_reducible refine (H.out _).mono ?_); rintro e w1 ⟨⟨er, rfl⟩, hb⟩; have HB := Lib.hid hb; clear hb)
    | (go_at_call 34; (with_reducible refine (HC.out _ _ (bx1 _ _ _)).mono ?_); rintro e w2 ⟨rfl, hb⟩; have HB2 := Lib.hid (below_next HB.out (below_next (belowNew _ _) hb)); clear hb))
  go_ret
  exact ⟨rfl, HB2.out⟩

set_option maxRecDepth 100000 in
set_option maxHeartbeats 8000000 in
theorem enca_any (a : At) (w : World) (hs : a.1.size ≤ 1099511627) :
    Calls Tryz.prog 59 #[atV a] w fun e w' => e = .returned (.string (encA a)) ∧ Below w.heap.size w w' := by
  obtain ⟨t, kd, v⟩ := a
  have H := Lib.hid (fun W => denc_any t W hs)
  unfold encA atV
  simp only
  obtain ⟨c, hc⟩ : ∃ c, c = oidS t := ⟨_, rfl⟩
  rw [← hc] at H ⊢
  obtain ⟨e1, he1⟩ : ∃ e1, e1 = wr1 6 c := ⟨_, rfl⟩
  obtain ⟨e2, he2⟩ : ∃ e2, e2 = wr1 kd v := ⟨_, rfl⟩
  have H1 := Lib.hid (fun g W h => dw1 6 g c W h)
  have H2 := Lib.hid (fun g W h => dw1 kd g v W h)
  rw [← he1] at H1
  rw [← he2] at H2
  rw [← he1, ← he2]
  have H3 := Lib.hid (fun g W h k => dw2 48 g e1 e2 W h k)
  have HZ := Lib.hid (belowNew w (.cells #[.string t, .int .i64 kd, .string v] 27))
  have HW := Lib.hid (at_facts (heap_alloc_new w (.cells #[.string t, .int .i64 kd, .string v] 27)))
  clear hc he1 he2 hs
  go_enter Tryz.func59, Tryz.ntmps59
  go_wp2_with (go_at_call 91; (with_reducible refine (H.out _).mono ?_); rintro e w1 ⟨⟨er, rfl⟩, hb⟩; have HB := Lib.hid hb; clear hb)
  obtain ⟨g, hg⟩ : ∃ g, g = w.heap.size := ⟨_, rfl⟩
  obtain ⟨c0, c1, c2, _, _, _, hlt⟩ := HW.out
  have d1 : w1.cell? ⟨g, 1, none⟩ = some (.int .i64 kd) := by rw [hg]; exact (HB.out.cell (p := ⟨w.heap.size, 1, none⟩) hlt).trans c1
  have d2 : w1.cell? ⟨g, 2, none⟩ = some (.string v) := by rw [hg]; exact (HB.out.cell (p := ⟨w.heap.size, 2, none⟩) hlt).trans c2
  have hltg : g < w1.heap.size := block_lt d1
  have HB1 := Lib.hid (below_next HZ.out HB.out)
  have HG := Lib.hid hg
  rw [← hg]
  clear c0 c1 c2 hlt hg HW HB HZ
  go_region_held3 (fun w' => w'.cell? ⟨g, 1, none⟩ = some (.int .i64 kd) ∧ w'.cell? ⟨g, 2, none⟩ = some (.string v)) (first | exact ⟨by assumption, by assumption⟩ | go_keep)
    (first
      | (go_at_call 33; (with_reducible refine (H1.out _ _ (by first | exact bx1 _ _ _ | exact bx1d _ _ _ | exact bx2 _ _ _ _ | exact bx2d _ _ _ _ | exact bx3 _ _ _ _ | exact bx3d _ _ _ _ | assumption)).mono ?_); rintro e x1 ⟨rfl, hb⟩; have hx : Below w1.heap.size w1 x1 := (by first | exact below_next (belowNew w1 _).drew hb | exact below_next (belowTwo w1 _ _).drew hb | exact below_next (belowNew w1 _) hb | exact below_next (belowTwo w1 _ _) hb | exact below_next HX2.out hb | exact below_next (below_next HX2.out (belowNew x2 _)) hb); have d1' := (hx.cell (p := ⟨g, 1, none⟩) hltg).trans d1; have d2' := (hx.cell (p := ⟨g, 2, none⟩) hltg).trans d2; (try (have rv := (hb.cell (p := ⟨w1.heap.size, 0, none⟩) (by simp <;> omega)).trans (bx2d w1 v 9 _))); (try (have rv := (hb.cell (p := ⟨w1.heap.size + 1, 0, none⟩) (by simp <;> omega)).trans (bx3d w1 v 9 _))); have HX1 := Lib.hid hx; clear hb hx)
      | (go_at_call 33; (with_reducible refine (H2.out _ _ (by first | exact bx1 _ _ _ | exact bx1d _ _ _ | exact bx2 _ _ _ _ | exact bx2d _ _ _ _ | exact bx3 _ _ _ _ | exact bx3d _ _ _ _ | assumption)).mono ?_); rintro e x2 ⟨rfl, hb⟩; have hx : Below w1.heap.size w1 x2 := (by first | exact below_next (belowNew w1 _).drew hb | exact below_next (belowTwo w1 _ _).drew hb | exact below_next (belowNew w1 _) hb | exact below_next (belowTwo w1 _ _) hb | exact below_next HX1.out hb | exact below_next (below_next HX1.out (belowNew x1 _)) hb); have d1' := (hx.cell (p := ⟨g, 1, none⟩) hltg).trans d1; have d2' := (hx.cell (p := ⟨g, 2, none⟩) hltg).trans d2; (try (have rv := (hb.cell (p := ⟨w1.heap.size, 0, none⟩) (by simp <;> omega)).trans (bx2d w1 c 9 _))); (try (have rv := (hb.cell (p := ⟨w1.heap.size + 1, 0, none⟩) (by simp <;> omega)).trans (bx3d w1 c 9 _))); have HX2 := Lib.hid hx; clear hb hx)
      | (go_at_call 33; (with_reducible refine (H3.out _ _ (by first | exact by0 _ _ _ _ | exact by0d _ _ _ _) (by first | exact by1 _ _ _ _ | exact by1d _ _ _ _)).mono ?_); rintro e x3 ⟨rfl, hb⟩; have hx : Below w1.heap.size w1 x3 := (by first | exact below_next (below_next HX1.out (belowNew x1 _)) hb | exact below_next (below_next HX2.out (belowNew x2 _)) hb); have d1' := (hx.cell (p := ⟨g, 1, none⟩) hltg).trans d1; have d2' := (hx.cell (p := ⟨g, 2, none⟩) hltg).trans d2; have HX3 := Lib.hid hx; clear hb hx))
  all_goals go_wp2_with fail
  all_goals go_ret
  all_goals exact ⟨rfl, below_next HB1.out HX3.out⟩
end Go.Proofs.YtfpfgdbfigdooaaGreatDoor
namespace Go.Proofs.YtfpfgdbfigdooaaGreatDoor
open Go.RowKit

theorem wr1_size (T : Int) (x : ByteArray) : (wr1 T x).size ≤ 131080 := wrapStr_size _ _
set_option maxRecDepth 100000 in
set_option maxHeartbeats 2000000 in
theorem replaced_any (p : Nat) (a : Option Addr) (cap : Nat) (zs : List Int) (k : Nat) (s : ByteArray) (w : World) (h : DeckAt w p a cap zs k) (hk : k ≤ 980) (hs : s.size ≤ 1000000) :
    Calls Tryz.prog 40 #[.pointer (some ⟨p, 0, none⟩), .string s] w fun e w' => ∃ (u : ByteArray) (k' : Nat), e = .returned (.string u) ∧ u.size ≤ s.size + 131080 ∧ DeckAt w' p a cap zs k' ∧ k' ≤ k + 4 ∧ But p w w' := by
  have HD := Lib.hid h
  have HK := Lib.hid hk
  have HS := Lib.hid hs
  by_cases h2 : s.size < 2
  · have hd : decide ((s.size : Int) < 2) = true := by simp; omega
    clear h hk hs
    go_enter Tryz.func40, Tryz.ntmps40
    go_wp2_with fail
    go_ret
    exact ⟨_, _, rfl, by omega, HD.out, by omega, But.refl _ _⟩
  have hd : decide ((s.size : Int) < 2) = false := by simp; omega
  have he := nonempty_list (show s.size ≠ 0 by omega)
  obtain ⟨c, hc⟩ : ∃ c, c = s.extract 2 s.size := ⟨_, rfl⟩
  have hsl : ∀ w, (Instr.slice 9 (.string s) (some (.int .i64 2)) none none).run Tryz.prog w = .ok (.string c) w := fun w => by
    have := run_slice_string_from_if (P := Tryz.prog) w 9 s .i64 2 Tryz.underlying9
    rw [this, if_pos ⟨by omega, by omega⟩, hc]
    rfl
  have hixx := fun w => run_index_u8 (P := Tryz.prog) Tryz.underlying9 s 0 (by omega) 0 rfl w
  have HCZ := Lib.hid (show c.size ≤ 1099511627776 by rw [hc, ByteArray.size_extract]; omega)
  generalize u8at s 0 = cc at hixx
  have HDM := Lib.hid (fun k w h hk => damage_but p a cap zs k s w h hk (by omega) (by omega))
  have HW1 := Lib.hid (fun T g W h => rw1 T g c W h HCZ.out)
  have HW0 := Lib.hid (fun T g W h => rw1 T g ⟨#[]⟩ W h (Nat.zero_le _))
  clear h hk hs hc h2
  go_enter Tryz.func40, Tryz.ntmps40
  go_wp2_with (first
    | (go_at_call 12; (with_reducible refine (next_intN p a cap zs k 6 6 _ HD.out (by have := HK.out; omega) (by omega) (by omega) rfl).mono ?_); rintro e w1 ⟨r1, k1, hr1, rfl, hd1, hk1, hb1⟩; have HD1 := Lib.hid hd1; have HK1 := Lib.hid hk1; have HB1 := Lib.hid hb1; clear hd1 hk1 hb1)
    | (go_at_call 12; (with_reducible refine (next_intN p a cap zs k1 31 31 _ HD1.out (by have := HK.out; have := HK1.out; omega) (by omega) (by omega) rfl).mono ?_); rintro e w2 ⟨r2, k2, hr2, rfl, hd2, hk2, hb2⟩; have HD2 := Lib.hid hd2; have HK2 := Lib.hid hk2; have HB2 := Lib.hid hb2; clear hd2 hk2 hb2)
    | (go_at_call 12; (with_reducible refine (next_intN p a cap zs k1 256 256 _ HD1.out (by have := HK.out; have := HK1.out; omega) (by omega) (by omega) rfl).mono ?_); rintro e w2 ⟨r2, k2, hr2, rfl, hd2, hk2, hb2⟩; have HD2 := Lib.hid hd2; have HK2 := Lib.hid hk2; have HB2 := Lib.hid hb2; clear hd2 hk2 hb2; obtain ⟨y, rfl⟩ : ∃ y : UInt8, r2 = y.toNat := ⟨UInt8.ofNat r2, by simp; omega⟩; have hymod : ((y.toNat : Nat) : Int) % 256 = ((y.toNat : Nat) : Int) := (by omega); have hcv := row_conv w2 w2.heap.size 1 rfl [y] rfl #[.int .u8 ((y.toNat : Nat) : Int)] rfl; obtain ⟨C, hC⟩ : ∃ C : ByteArray, C = ⟨[y].toArray⟩ := ⟨_, rfl⟩; rw [← hC] at hcv; have hC1 : C.size = 1 := (by rw [hC]; rfl); clear hC)
    | (go_at_call 34; (with_reducible refine (HW1.out _ _ _ (bx1 _ _ _)).mono ?_); rintro e w5 ⟨rfl, hb5⟩; have HB5 := Lib.hid hb5; clear hb5)
    | (go_at_call 34; (with_reducible refine (HW0.out _ _ _ (bx1 _ _ _)).mono ?_); rintro e w5 ⟨rfl, hb5⟩; have HB5 := Lib.hid hb5; clear hb5)
    | (go_at_call 18; (with_reducible refine (HDM.out k1 _ HD1.out (by have := HK.out; have := HK1.out; omega)).mono ?_); rintro e w5 ⟨u, k5, rfl, hu, hd5, hk5, hb5⟩; have HD5 := Lib.hid hd5; have HB5 := Lib.hid hb5; clear hb5 hd5))
  · go_ret
    exact ⟨_, _, rfl, Nat.le_trans (wr1_size _ _) (by omega), (HD2.out.below (belowNew _ _)).below HB5.out, by have := HK1.out; have := HK2.out; omega, ((HB1.out.next HB2.out).next (But.of (belowNew _ _))).next (But.of HB5.out)⟩
  · go_ret
    exact ⟨_, _, rfl, Nat.le_trans (wr1_size _ _) (by omega), (HD1.out.below (belowNew _ _)).below HB5.out, by have := HK1.out; omega, (HB1.out.next (But.of (belowNew _ _))).next (But.of HB5.out)⟩
  · go_ret
    exact ⟨_, _, rfl, Nat.le_trans (wr1_size _ _) (by omega), (HD1.out.below (belowNew _ _)).below HB5.out, by have := HK1.out; omega, (HB1.out.next (But.of (belowNew _ _))).next (But.of HB5.out)⟩
  · go_ret
    refine ⟨_, _, rfl, ?_, HD2.out.below (belowNew _ _), by have := HK1.out; have := HK2.out; omega, (HB1.out.next HB2.out).next (But.of (belowNew _ _))⟩
    rw [ByteArray.size_append, hC1]
    exact Nat.le_trans (show 3 ≤ 131080 by omega) (by omega)
  · go_ret
    exact ⟨_, _, rfl, Nat.le_trans (show 2 ≤ 131080 by omega) (by omega), HD1.out, by have := HK1.out; omega, HB1.out⟩
  · go_ret
    exact ⟨_, _, rfl, by omega, HD5.out, by have := HK1.out; omega, HB1.out.next HB5.out⟩
end Go.Proofs.YtfpfgdbfigdooaaGreatDoor
namespace Go.Proofs.YtfpfgdbfigdooaaGreatDoor
open Go.RowKit

/-- A row of n strings, the first of which are those of L. -/
def rowT (n : Nat) (L : List ByteArray) : Array Value := (L.map Value.string ++ List.replicate (n - L.length) (Value.string ⟨#[]⟩)).toArray
theorem rowT_size (n : Nat) (L : List ByteArray) (h : L.length ≤ n) : (rowT n L).size = n := by
  simp [rowT]; omega
theorem rowT_snoc (n : Nat) (L : List ByteArray) (s : ByteArray) (k : Nat) (hk : k = L.length) (h : k < n) : (rowT n L).setIfInBounds k (.string s) = rowT n (L ++ [s]) := by
  subst hk
  apply Array.ext
  · rw [Array.size_setIfInBounds, rowT_size n L (by omega), rowT_size n _ (by simp; omega)]
  · intro i h1 h2
    rw [Array.size_setIfInBounds, rowT_size n L (by omega)] at h1
    by_cases hi : L.length = i
    · subst hi
      rw [Array.getElem_setIfInBounds_self]
      simp [rowT]
    · rw [Array.getElem_setIfInBounds_ne (by rw [rowT_size n L (by omega)]; exact h1) hi]
      simp only [rowT, List.getElem_toArray]
      rcases Nat.lt_or_ge i L.length with hl | hl
      · rw [List.getElem_append_left (by simpa using hl), List.getElem_append_left (by simp; omega)]
        simp [hl]
      · rw [List.getElem_append_right (by simpa using hl), List.getElem_append_right (by simp; omega)]
        simp
theorem rowT_nil (n : Nat) : rowT n [] = (List.replicate n (Value.string ⟨#[]⟩)).toArray := by simp [rowT]
theorem rowT_all (n : Nat) (L : List ByteArray) (h : L.length = n) : rowT n L = (L.map Value.string).toArray := by simp [rowT, h]
theorem rowT_at (n : Nat) (L : List ByteArray) (h : L.length ≤ n) (i : Nat) (hi : i < n) : ∃ v, (rowT n L)[i]? = some v :=
  ⟨_, Array.getElem?_eq_getElem (by rw [rowT_size n L h]; exact hi)⟩
theorem strInfo2 : (Tryz.prog.info? 9).map (fun i => (i.zero, i.size, i.bytes)) = some (some (.string ⟨#[]⟩), 1, 16) := by kernel_rfl
theorem strs_make (n : Nat) (hn : n ≤ 1000000) (W : World) : (Instr.makeSlice 43 (.int .i64 (n : Int)) (.int .i64 (n : Int))).run Tryz.prog W = .ok (.slice (some ⟨W.heap.size, 0, none⟩) n n) (W.alloc (.cells (rowT n []) 9)) := by
  obtain ⟨i0, hi, hz0, hz1, hz2⟩ := info_parts strInfo2
  have hr := run_makeSlice (P := Tryz.prog) W 43 9 i0 (.string ⟨#[]⟩) Tryz.underlying43 hi hz0 .i64 .i64 (n : Int) (n : Int) (by omega) (Int.le_refl _) (by rw [hz1]; simp; omega) (by rw [hz2]; omega) (by omega)
  rw [hr]
  have e2 : madeCells (Value.string ⟨#[]⟩).cells ((n : Int).toNat * i0.size) = rowT n [] := by
    rw [hz1, rowT_nil]
    apply Array.ext
    · simp [madeCells, Value.cells]
    · intro i h1 h2
      simp [madeCells, Value.cells, Nat.mod_one]
  rw [e2]
  simp
theorem row_put {w : World} {g n k : Nat} {L : List ByteArray} {s : ByteArray} {T : TypeId} (h : w.heap[g]? = some (.cells (rowT n L) T (0, 0))) (hk : k = L.length) (hn : k < n) :
    (w.setCell ⟨g, k, none⟩ (.string s)).heap[g]? = some (.cells (rowT n (L ++ [s])) T (0, 0)) := by
  rw [← rowT_snoc n L s k hk hn]
  simp [World.setCell, Array.getElem?_modify, h]
theorem row_reads {w : World} {g n : Nat} {L : List ByteArray} {T : TypeId} (h : w.heap[g]? = some (.cells (rowT n L) T (0, 0))) (hl : L.length = n) : Reads w (.slice (some ⟨g, 0, none⟩) n n) L := by
  refine ⟨_, n, by rw [hl], .inr ⟨g, 0, rfl, fun i hi => ?_⟩⟩
  rw [Lib.cell_of_heap h, rowT_all n L hl]
  simp only [Nat.zero_add, List.getElem?_toArray, List.getElem?_map]
  rw [List.getElem?_eq_getElem hi, List.getD_eq_getElem?_getD, List.getElem?_eq_getElem hi]
  rfl
theorem cat_len : ∀ (ss : List ByteArray), (∀ s ∈ ss, s.size ≤ 131080) → (cat_t ss).length ≤ 131080 * ss.length
  | [], _ => by simp [cat_t]
  | s :: r, h => by
    have h1 : s.data.toList.length ≤ 131080 := h s List.mem_cons_self
    have h2 := cat_len r (fun x hx => h x (List.mem_cons_of_mem _ hx))
    have e : cat_t (s :: r) = s.data.toList ++ cat_t r := by simp [cat_t]
    rw [e, List.length_append, List.length_cons]
    omega
theorem encA_size (a : At) : (encA a).size ≤ 131080 := wrapStr_size _ _
theorem encR_size (r : List At) : (encR r).size ≤ 131080 := wrapStr_size _ _
theorem encs_cat (r : List At) (n : Nat) (h : r.length = n) (hn : n ≤ 1000) : (cat_t (r.map encA)).length ≤ 1099511627776 := by
  have := cat_len (r.map encA) (fun s hs => by obtain ⟨a, _, rfl⟩ := List.mem_map.1 hs; exact encA_size a)
  rw [List.length_map] at this
  omega

set_option maxRecDepth 100000 in
set_option maxHeartbeats 4000000 in
theorem encrel_any (a0 : Option Addr) (c n : Nat) (l : List At) (w : World) (h : ALies w a0 l) (hn : n = l.length) (hs : SmallR l) (hl : n ≤ 1000) :
    Calls Tryz.prog 32 #[.slice a0 n c] w fun e w' => e = .returned (.string (encR l)) ∧ Below w.heap.size w w' := by
  have hmk := strs_make n (by omega)
  obtain ⟨W0, hW0⟩ : ∃ W0, W0 = w.alloc (.cells (rowT n []) 9) := ⟨_, rfl⟩
  have hb0 : Below w.heap.size w W0 := by rw [hW0]; exact belowNew w _
  have hq0 : W0.heap[w.heap.size]? = some (.cells (rowT n []) 9 (0, 0)) := by rw [hW0]; exact heap_alloc_new w _
  obtain ⟨g, hg⟩ : ∃ g, g = w.heap.size := ⟨_, rfl⟩
  have HWE := Lib.hid hW0.symm
  have HB0 := Lib.hid hb0
  rw [← hg] at hq0
  have HQ0 := Lib.hid hq0
  have HG := Lib.hid hg
  have H1 := Lib.hid h
  have HN := Lib.hid hn
  have HS := Lib.hid hs
  obtain ⟨oo, hoo⟩ : ∃ oo, oo = (⟨(ordL (lists (l.map encA))).flatten.toArray⟩ : ByteArray) := ⟨_, rfl⟩
  have HOR := Lib.hid (fun v W (hv : Reads W v (l.map encA)) => order_any v (l.map encA) W hv (by rw [List.length_map]; omega) (encs_cat l n hn.symm hl))
  unfold encR
  rw [← hoo] at HOR ⊢
  clear h hn hs hW0 hb0 hq0 hg hoo
  go_enter Tryz.func32, Tryz.ntmps32
  go_wp2_with fail
  rw [HWE.out, ← HG.out]
  clear hmk
  go_loopw [11] (fun i wr => ∃ k : Nat, k ≤ n ∧ i = .int .i64 (k : Int) ∧ wr.heap[g]? = some (.cells (rowT n ((l.take k).map encA)) 9 (0, 0)) ∧ Below w.heap.size w wr) (fun i _ => n - (intOf i).toNat)
  case atStart => exact ⟨0, Nat.zero_le _, rfl, HQ0.out, HB0.out⟩
  case round =>
    obtain ⟨k, hk, rfl, hq, hb⟩ := hrel
    have HB := Lib.hid hb
    have HQ := Lib.hid hq
    clear hb hq
    by_cases hlt : k < n
    · have hd : decide ((k : Int) < (n : Int)) = true := by simp; omega
      obtain ⟨b, o, rfl, hb, c0, c1, c2⟩ := H1.out.at k (by rw [← HN.out]; exact hlt)
      have a0 : wr.cell? ⟨b, o + k * 3, none⟩ = _ := (HB.out.cell (p := ⟨b, o + k * 3, none⟩) hb).trans c0
      have a1 : wr.cell? ⟨b, o + k * 3 + 1, none⟩ = _ := (HB.out.cell (p := ⟨b, o + k * 3 + 1, none⟩) hb).trans c1
      have a2 : wr.cell? ⟨b, o + k * 3 + 2, none⟩ = _ := (HB.out.cell (p := ⟨b, o + k * 3 + 2, none⟩) hb).trans c2
      have hst : (l.take (k + 1)).map encA = (l.take k).map encA ++ [encA (l.getD k noAt)] := by rw [takeD l k (by rw [← HN.out]; exact hlt) noAt]; simp
      have hsm := HS.out.2 k (by rw [← HN.out]; exact hlt)
      generalize l.getD k noAt = y at a0 a1 a2 hst hsm
      obtain ⟨t, kd, v⟩ := y
      have HEN := Lib.hid (fun W => enca_any (t, kd, v) W (Nat.le_trans hsm.1 (by omega)))
      unfold atV at HEN
      simp only at HEN
      obtain ⟨s, hs⟩ : ∃ s, s = encA (t, kd, v) := ⟨_, rfl⟩
      rw [← hs] at HEN hst
      have HST := Lib.hid hst
      have hll : k = ((l.take k).map encA).length := by rw [List.length_map, List.length_take, ← HN.out]; omega
      have HLL := Lib.hid hll
      have hgl : g < wr.heap.size := (Array.getElem?_eq_some_iff.1 HQ.out).1
      clear c0 c1 c2 hb hsm hs hst hll
      go_wp2_with (go_at_call 59; (with_reducible refine (HEN.out _).mono ?_); rintro e w1 ⟨rfl, hb1⟩; have hq1 := (hb1.block g (by simp; omega)).trans (((belowNew wr _).block g hgl).trans HQ.out); have HQ1 := Lib.hid hq1; have HB1 := Lib.hid (below_next HB.out (below_next (belowNew wr _) hb1)); obtain ⟨cv, hcv⟩ := rowT_at n ((l.take k).map encA) (by have := HLL.out; omega) k hlt; have hcell : w1.cell? ⟨g, k, none⟩ = some cv := (by rw [Lib.cell_of_heap hq1]; exact hcv); have hfz : w1.frozen? ⟨g, k, none⟩ = false := Lib.frozen_of_heap hq1 k; clear hb1 hq1 hcv)
      go_roundw
      case rel => exact ⟨k + 1, by omega, by go_num, by rw [HST.out]; exact row_put HQ1.out HLL.out hlt, HB1.out.setCell (p := ⟨g, k, none⟩) (by rw [HG.out]; exact Nat.le_refl _) _⟩
      case measure => simp [intOf]; omega
    · have hd : decide ((k : Int) < (n : Int)) = false := by simp; omega
      have hR := row_reads HQ.out (by rw [List.length_map, List.length_take, ← HN.out]; omega)
      rw [List.take_of_length_le (by rw [← HN.out]; omega)] at hR
      have HR := Lib.hid hR
      have H1w := Lib.hid (fun g x W h => dw1 49 g x W h)
      clear hR
      go_wp2_with (first
        | (go_at_call 60; (with_reducible refine (HOR.out _ _ HR.out).mono ?_); rintro e w1 ⟨rfl, hb1⟩; have HB1 := Lib.hid (below_next HB.out hb1); clear hb1)
        | (go_at_call 33; (with_reducible refine (H1w.out _ _ _ (bx1 _ _ _)).mono ?_); rintro e w2 ⟨rfl, hb2⟩; have HB2 := Lib.hid (below_next HB1.out (below_next (belowNew _ _) hb2)); clear hb2))
      go_ret
      exact ⟨rfl, HB2.out⟩
end Go.Proofs.YtfpfgdbfigdooaaGreatDoor
