/-
  The contract of certpathmade's Damage: a string that is at most one byte longer; nothing below the deck has changed.
-/
import Derived.Test.YtgpockpfefjjkaaTdeck
import Derived.Test.YtgpockpfefjjkaaTrwrap
namespace Go.Proofs.Ytgpockpfefjjkaa
open Go.RowKit

theorem deck_alloc {w : World} {p : Nat} {a : Option Addr} {cap : Nat} {zs : List Int} {k : Nat} (h : DeckAt w p a cap zs k) (o : Obj) : DeckAt (w.alloc o) p a cap zs k := by
  obtain ⟨h1, h2, h3, h5, h4⟩ := h
  have hp : p < w.heap.size := (Array.getElem?_eq_some_iff.1 h1).1
  exact ⟨heap_keep h1 o, h2.below ((Below.refl p w).alloc (by omega) o) h3, h3, h5, h4⟩
theorem next_int (p : Nat) (a : Option Addr) (cap : Nat) (zs : List Int) (k : Nat) (N : Nat) (M : Int) (w : World) (h : DeckAt w p a cap zs k) (hk2 : k < 1000) (hN : 0 < N) (hN2 : N ≤ 1099511627776) (hM : M = (N : Int)) :
    Calls Try.prog 40 #[.pointer (some ⟨p, 0, none⟩), .int .i64 M] w fun e w' => ∃ r k' : Nat, r < N ∧ e = .returned (.int .i64 (r : Int)) ∧ DeckAt w' p a cap zs k' ∧ k' ≤ k + 1 ∧ Below p w w' := by
  rw [hM]
  exact next_any p a cap zs k N w h hk2 hN hN2

theorem below_any {p : Nat} {w w1 w2 w3 : World} {o : Obj} (h1 : Below p w w1) (h2 : Below p w1 w2) (h3 : Below p (w2.alloc o) w3) (hp : p ≤ w2.heap.size) : Below p w w3 :=
  ((h1.trans h2).alloc hp o).trans h3
set_option maxRecDepth 100000 in
set_option maxHeartbeats 2000000 in
theorem damage_any (p : Nat) (a : Option Addr) (cap : Nat) (zs : List Int) (k : Nat) (s : ByteArray) (w : World) (h : DeckAt w p a cap zs k) (hk : k ≤ 900) (h0 : s.size ≠ 0) (hs : s.size ≤ 1099511627000) :
    Calls Try.prog 16 #[.pointer (some ⟨p, 0, none⟩), .string s] w fun e w' => ∃ u : ByteArray, e = .returned (.string u) ∧ u.size ≤ s.size + 1 ∧ Below p w w' := by
  have he := nonempty_list h0
  have HD := Lib.hid h
  have HK := Lib.hid hk
  have HP := Lib.hid (show 0 < s.size by omega)
  have HS := Lib.hid hs
  clear h hk h0
  go_enter Try.func16, Try.ntmps16
  go_wp2_with (first | (go_at_call 40; (with_reducible refine (next_int p a cap zs k s.size (s.size : Int) _ HD.out (by have := HK.out; omega) HP.out (by have := HS.out; omega) rfl).mono ?_); rintro e w1 ⟨r1, k1, hr1, rfl, hd1, hk1, hb1⟩; have HD1 := Lib.hid hd1; have HK1 := Lib.hid hk1; have HB1 := Lib.hid hb1; clear hd1 hk1 hb1) | (go_at_call 40; (with_reducible refine (next_int p a cap zs k1 256 256 _ HD1.out (by have := HK.out; have := HK1.out; omega) (by omega) (by omega) rfl).mono ?_); rintro e w2 ⟨r2, k2, hr2, rfl, hd2, hk2, hb2⟩; have HD2 := Lib.hid hd2; have HK2 := Lib.hid hk2; have HB2 := Lib.hid hb2; clear hd2 hk2 hb2; obtain ⟨y, rfl⟩ : ∃ y : UInt8, r2 = y.toNat := ⟨UInt8.ofNat r2, by simp; omega⟩; have hymod : ((y.toNat : Nat) : Int) % 256 = ((y.toNat : Nat) : Int) := (by omega); have hcv := row_conv w2 w2.heap.size 1 rfl [y] rfl #[.int .u8 ((y.toNat : Nat) : Int)] rfl; obtain ⟨C, hC⟩ : ∃ C : ByteArray, C = ⟨[y].toArray⟩ := ⟨_, rfl⟩; rw [← hC] at hcv; have hC1 : C.size = 1 := (by rw [hC]; rfl); clear hC) | (go_at_call 40; (with_reducible refine (next_int p a cap zs k2 5 5 _ (deck_alloc HD2.out _) (by have := HK.out; have := HK1.out; have := HK2.out; omega) (by omega) (by omega) rfl).mono ?_); rintro e w3 ⟨r3, k3, hr3, rfl, hd3, hk3, hb3⟩; have HB3 := Lib.hid hb3; clear hd3 hk3 hb3))
  · have hs := HS.out
    have q1 : (s.extract 0 r1).size = r1 := by rw [ByteArray.size_extract]; omega
    have q2 : (s.extract (r1 + 1) s.size).size = s.size - (r1 + 1) := by rw [ByteArray.size_extract]; omega
    have q3 : (s.extract 0 r1 ++ C).size = r1 + 1 := by rw [ByteArray.size_append, q1, hC1]
    have HB := Lib.hid (below_any HB1.out HB2.out HB3.out (Nat.le_of_lt (Array.getElem?_eq_some_iff.1 HD2.out.1).1))
    go_region
    go_wp2_with fail
    go_ret
    exact ⟨_, rfl, by rw [ByteArray.size_append, q3, q2]; omega, HB.out.drew⟩
  · have hs := HS.out
    have q1 : (s.extract 0 r1).size = r1 := by rw [ByteArray.size_extract]; omega
    have q2 : (s.extract r1 s.size).size = s.size - r1 := by rw [ByteArray.size_extract]; omega
    have q3 : (s.extract 0 r1 ++ C).size = r1 + 1 := by rw [ByteArray.size_append, q1, hC1]
    have HB := Lib.hid (below_any HB1.out HB2.out HB3.out (Nat.le_of_lt (Array.getElem?_eq_some_iff.1 HD2.out.1).1))
    go_region
    go_wp2_with fail
    go_ret
    exact ⟨_, rfl, by rw [ByteArray.size_append, q3, q2]; omega, HB.out.drew⟩
  · have hs := HS.out
    have q1 : (s.extract 0 r1).size = r1 := by rw [ByteArray.size_extract]; omega
    have q2 : (s.extract (r1 + 1) s.size).size = s.size - (r1 + 1) := by rw [ByteArray.size_extract]; omega
    have HB := Lib.hid (below_any HB1.out HB2.out HB3.out (Nat.le_of_lt (Array.getElem?_eq_some_iff.1 HD2.out.1).1))
    go_region
    go_wp2_with fail
    go_ret
    exact ⟨_, rfl, by rw [ByteArray.size_append, q1, q2]; omega, HB.out.drew⟩
  · go_ret
    exact ⟨_, rfl, by rw [ByteArray.size_extract]; omega, below_any HB1.out HB2.out HB3.out (Nat.le_of_lt (Array.getElem?_eq_some_iff.1 HD2.out.1).1)⟩
  · go_ret
    exact ⟨_, rfl, by omega, below_any HB1.out HB2.out HB3.out (Nat.le_of_lt (Array.getElem?_eq_some_iff.1 HD2.out.1).1)⟩
end Go.Proofs.Ytgpockpfefjjkaa
