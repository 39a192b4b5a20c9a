/-
The contracts of certpathmade's New and Next: a deck in a block of the caller's own; a number from 0 to n - 1.
The contract of certpathmade's Damage: a string that is at most one byte longer; nothing below the deck has changed.
The contracts of certpathmade's Damage and replaced, with the deck kept.
The contract of certpathmade's replaced.
The contract of the reference's Dec: the decimal digits of a number.
The contract of the law's function id: the text of a good list of numbers that is made of the given ones.
The contract of oid.Decode: the object identifier with these contents, if there is one.
-/
import Derived.Test.YtfpfgdbfigdooaaGreatDoorCao
import Derived.Test.YtfpfgdbfigdooaaGreatDoorCbi
import Derived.Test.YtfpfgdbfigdooaaGreatDoorCbk
import Derived.Test.YtfpfgdbfigdooaaGreatDoorCbb
import Derived.Test.YtfpfgdbfigdooaaGreatDoorCbp
import Derived.Test.YtfpfgdbfigdooaaGreatDoorCas
import Derived.Test.YtfpfgdbfigdooaaGreatDoorCaa
import Derived.Lib.ItoaLen
import Derived.Test.YtfpfgdbfigdooaaGreatDoorCbh
namespace Go.Proofs.YtfpfgdbfigdooaaGreatDoor
open Go.RowKit

set_option maxRecDepth 100000 in
set_option maxHeartbeats 1000000 in
theorem next_end_t (p : Nat) (a : Option Addr) (cap : Nat) (zs : List Int) (k : Nat) (N : Nat) (w : World) (h : DeckAt w p a cap zs k) (hk : zs.length ≤ k) :
    Calls Tryz.prog 12 #[.pointer (some ⟨p, 0, none⟩), .int .i64 (N : Int)] w fun e w' => e = .returned (.int .i64 0) ∧ DeckAt w' p a cap zs k ∧ Below p w w' := by
  have HD := Lib.hid h
  obtain ⟨h1, _, _, _, h4⟩ := h
  obtain ⟨n, hn⟩ : ∃ n, n = zs.length := ⟨_, rfl⟩
  rw [← hn] at h1 hk h4
  have c0 : w.cell? ⟨p, 0, none⟩ = some (.slice a n cap) := by rw [Lib.cell_of_heap h1]; rfl
  have c1 : w.cell? ⟨p, 1, none⟩ = some (.int .i64 (k : Int)) := by rw [Lib.cell_of_heap h1]; rfl
  have d0 : decide ((n : Int) ≤ (k : Int)) = true := by simp; omega
  clear h1 hn
  go_enter Tryz.func12, Tryz.ntmps12
  go_wp2_with fail
  go_region
  go_wp2_with fail
  go_ret
  exact ⟨rfl, HD.out, (Below.refl _ _).drew⟩
set_option maxRecDepth 100000 in
set_option maxHeartbeats 1000000 in
theorem next_more_t (p : Nat) (a : Option Addr) (cap : Nat) (zs : List Int) (k : Nat) (N : Nat) (w : World) (h : DeckAt w p a cap zs k) (hk : k < zs.length) (hk2 : k < 1000) (hN : 0 < N) (hN2 : N ≤ 1099511627776) :
    Calls Tryz.prog 12 #[.pointer (some ⟨p, 0, none⟩), .int .i64 (N : Int)] w fun e w' => (∃ r : Nat, r < N ∧ e = .returned (.int .i64 (r : Int))) ∧ DeckAt w' p a cap zs (k + 1) ∧ Below p w w' := by
  have HD := Lib.hid h
  obtain ⟨h1, h2, h3, _, h4⟩ := h
  obtain ⟨b, o, ha, hc⟩ := h2.at k hk
  have hbp := h3 _ ha (fun e => by rw [e] at hk; exact absurd hk (Nat.not_lt_zero _))
  subst ha
  generalize zs.getD k 0 = z at hc
  obtain ⟨x, y, r, e1, x1, x2, e2, y1, y2, e3, hr⟩ := next_num z N hN hN2
  obtain ⟨n, hn⟩ : ∃ n, n = zs.length := ⟨_, rfl⟩
  rw [← hn] at h1 hk h4
  have c0 : w.cell? ⟨p, 0, none⟩ = some (.slice (some ⟨b, o, none⟩) n cap) := by rw [Lib.cell_of_heap h1]; rfl
  have c1 : w.cell? ⟨p, 1, none⟩ = some (.int .i64 (k : Int)) := by rw [Lib.cell_of_heap h1]; rfl
  have f1 : w.frozen? ⟨p, 1, none⟩ = false := Lib.frozen_of_heap h1 1
  have hne : b ≠ p := by simp at hbp; omega
  have d0 : decide ((n : Int) ≤ (k : Int)) = false := by simp; omega
  have HR := Lib.hid hr
  clear h1 hn h2 h3 hr hbp
  go_enter Tryz.func12, Tryz.ntmps12
  go_wp2_with fail
  go_region
  go_wp2_with fail
  go_region
  go_wp2_with fail
  go_ret
  exact ⟨⟨r, HR.out, rfl⟩, deck_set HD.out hk2, ((Below.refl p w).setCell (p := ⟨p, 1, none⟩) (Nat.le_refl _) _).drew.drew⟩

theorem next_any_t (p : Nat) (a : Option Addr) (cap : Nat) (zs : List Int) (k : Nat) (N : Nat) (w : World) (h : DeckAt w p a cap zs k) (hk2 : k < 1000) (hN : 0 < N) (hN2 : N ≤ 1099511627776) :
    Calls Tryz.prog 12 #[.pointer (some ⟨p, 0, none⟩), .int .i64 (N : Int)] w fun e w' => ∃ r k' : Nat, r < N ∧ e = .returned (.int .i64 (r : Int)) ∧ DeckAt w' p a cap zs k' ∧ k' ≤ k + 1 ∧ Below p w w' := by
  by_cases hk : k < zs.length
  · exact (next_more_t p a cap zs k N w h hk hk2 hN hN2).mono fun e w' hh => by
      obtain ⟨⟨r, hr, he⟩, h1, h2⟩ := hh
      exact ⟨r, k + 1, hr, he, h1, Nat.le_refl _, h2⟩
  · exact (next_end_t p a cap zs k N w h (by omega)).mono fun e w' hh => ⟨0, k, hN, by rw [hh.1]; rfl, hh.2.1, by omega, hh.2.2⟩

end Go.Proofs.YtfpfgdbfigdooaaGreatDoor
namespace Go.Proofs.YtfpfgdbfigdooaaGreatDoor
open Go.RowKit

theorem deck_alloc {w : World} {p : Nat} {a : Option Addr} {cap : Nat} {zs : List Int} {k : Nat} (h : DeckAt w p a cap zs k) (o : Obj) : DeckAt (w.alloc o) p a cap zs k := by
  obtain ⟨h1, h2, h3, h5, h4⟩ := h
  have hp : p < w.heap.size := (Array.getElem?_eq_some_iff.1 h1).1
  exact ⟨heap_keep h1 o, h2.below ((Below.refl p w).alloc (by omega) o) h3, h3, h5, h4⟩
theorem next_int (p : Nat) (a : Option Addr) (cap : Nat) (zs : List Int) (k : Nat) (N : Nat) (M : Int) (w : World) (h : DeckAt w p a cap zs k) (hk2 : k < 1000) (hN : 0 < N) (hN2 : N ≤ 1099511627776) (hM : M = (N : Int)) :
    Calls Tryz.prog 12 #[.pointer (some ⟨p, 0, none⟩), .int .i64 M] w fun e w' => ∃ r k' : Nat, r < N ∧ e = .returned (.int .i64 (r : Int)) ∧ DeckAt w' p a cap zs k' ∧ k' ≤ k + 1 ∧ Below p w w' := by
  rw [hM]
  exact next_any_t p a cap zs k N w h hk2 hN hN2

theorem below_any {p : Nat} {w w1 w2 w3 : World} {o : Obj} (h1 : Below p w w1) (h2 : Below p w1 w2) (h3 : Below p (w2.alloc o) w3) (hp : p ≤ w2.heap.size) : Below p w w3 :=
  ((h1.trans h2).alloc hp o).trans h3
set_option maxRecDepth 100000 in
set_option maxHeartbeats 2000000 in
theorem damage_any (p : Nat) (a : Option Addr) (cap : Nat) (zs : List Int) (k : Nat) (s : ByteArray) (w : World) (h : DeckAt w p a cap zs k) (hk : k ≤ 900) (h0 : s.size ≠ 0) (hs : s.size ≤ 1099511627000) :
    Calls Tryz.prog 18 #[.pointer (some ⟨p, 0, none⟩), .string s] w fun e w' => ∃ u : ByteArray, e = .returned (.string u) ∧ u.size ≤ s.size + 1 ∧ Below p w w' := by
  have he := nonempty_list h0
  have HD := Lib.hid h
  have HK := Lib.hid hk
  have HP := Lib.hid (show 0 < s.size by omega)
  have HS := Lib.hid hs
  clear h hk h0
  go_enter Tryz.func18, Tryz.ntmps18
  go_wp2_with (first | (go_at_call 12; (with_reducible refine (next_int p a cap zs k s.size (s.size : Int) _ HD.out (by have := HK.out; omega) HP.out (by have := HS.out; omega) rfl).mono ?_); rintro e w1 ⟨r1, k1, hr1, rfl, hd1, hk1, hb1⟩; have HD1 := Lib.hid hd1; have HK1 := Lib.hid hk1; have HB1 := Lib.hid hb1; clear hd1 hk1 hb1) | (go_at_call 12; (with_reducible refine (next_int p a cap zs k1 256 256 _ HD1.out (by have := HK.out; have := HK1.out; omega) (by omega) (by omega) rfl).mono ?_); rintro e w2 ⟨r2, k2, hr2, rfl, hd2, hk2, hb2⟩; have HD2 := Lib.hid hd2; have HK2 := Lib.hid hk2; have HB2 := Lib.hid hb2; clear hd2 hk2 hb2; obtain ⟨y, rfl⟩ : ∃ y : UInt8, r2 = y.toNat := ⟨UInt8.ofNat r2, by simp; omega⟩; have hymod : ((y.toNat : Nat) : Int) % 256 = ((y.toNat : Nat) : Int) := (by omega); have hcv := row_conv w2 w2.heap.size 1 rfl [y] rfl #[.int .u8 ((y.toNat : Nat) : Int)] rfl; obtain ⟨C, hC⟩ : ∃ C : ByteArray, C = ⟨[y].toArray⟩ := ⟨_, rfl⟩; rw [← hC] at hcv; have hC1 : C.size = 1 := (by rw [hC]; rfl); clear hC) | (go_at_call 12; (with_reducible refine (next_int p a cap zs k2 5 5 _ (deck_alloc HD2.out _) (by have := HK.out; have := HK1.out; have := HK2.out; omega) (by omega) (by omega) rfl).mono ?_); rintro e w3 ⟨r3, k3, hr3, rfl, hd3, hk3, hb3⟩; have HB3 := Lib.hid hb3; clear hd3 hk3 hb3))
  · have hs := HS.out
    have q1 : (s.extract 0 r1).size = r1 := by rw [ByteArray.size_extract]; omega
    have q2 : (s.extract (r1 + 1) s.size).size = s.size - (r1 + 1) := by rw [ByteArray.size_extract]; omega
    have q3 : (s.extract 0 r1 ++ C).size = r1 + 1 := by rw [ByteArray.size_append, q1, hC1]
    have HB := Lib.hid (below_any HB1.out HB2.out HB3.out (Nat.le_of_lt (Array.getElem?_eq_some_iff.1 HD2.out.1).1))
    go_region
    go_wp2_with fail
    go_ret
    exact ⟨_, rfl, by rw [ByteArray.size_append, q3, q2]; omega, HB.out.drew⟩
  · have hs := HS.out
    have q1 : (s.extract 0 r1).size = r1 := by rw [ByteArray.size_extract]; omega
    have q2 : (s.extract r1 s.size).size = s.size - r1 := by rw [ByteArray.size_extract]; omega
    have q3 : (s.extract 0 r1 ++ C).size = r1 + 1 := by rw [ByteArray.size_append, q1, hC1]
    have HB := Lib.hid (below_any HB1.out HB2.out HB3.out (Nat.le_of_lt (Array.getElem?_eq_some_iff.1 HD2.out.1).1))
    go_region
    go_wp2_with fail
    go_ret
    exact ⟨_, rfl, by rw [ByteArray.size_append, q3, q2]; omega, HB.out.drew⟩
  · have hs := HS.out
    have q1 : (s.extract 0 r1).size = r1 := by rw [ByteArray.size_extract]; omega
    have q2 : (s.extract (r1 + 1) s.size).size = s.size - (r1 + 1) := by rw [ByteArray.size_extract]; omega
    have HB := Lib.hid (below_any HB1.out HB2.out HB3.out (Nat.le_of_lt (Array.getElem?_eq_some_iff.1 HD2.out.1).1))
    go_region
    go_wp2_with fail
    go_ret
    exact ⟨_, rfl, by rw [ByteArray.size_append, q1, q2]; omega, HB.out.drew⟩
  · go_ret
    exact ⟨_, rfl, by rw [ByteArray.size_extract]; omega, below_any HB1.out HB2.out HB3.out (Nat.le_of_lt (Array.getElem?_eq_some_iff.1 HD2.out.1).1)⟩
  · go_ret
    exact ⟨_, rfl, by omega, below_any HB1.out HB2.out HB3.out (Nat.le_of_lt (Array.getElem?_eq_some_iff.1 HD2.out.1).1)⟩
end Go.Proofs.YtfpfgdbfigdooaaGreatDoor
namespace Go.Proofs.YtfpfgdbfigdooaaGreatDoor
open Go.RowKit

theorem next_intN (p : Nat) (a : Option Addr) (cap : Nat) (zs : List Int) (k : Nat) (N : Nat) (M : Int) (w : World) (h : DeckAt w p a cap zs k) (hk2 : k < 1000) (hN : 0 < N) (hN2 : N ≤ 1099511627776) (hM : M = (N : Int)) :
    Calls Tryz.prog 12 #[.pointer (some ⟨p, 0, none⟩), .int .i64 M] w fun e w' => ∃ r k' : Nat, r < N ∧ e = .returned (.int .i64 (r : Int)) ∧ DeckAt w' p a cap zs k' ∧ k' ≤ k + 1 ∧ But p w w' := by
  rw [hM]
  exact next_any p a cap zs k N w h hk2 hN hN2
theorem but_any {p : Nat} {w w1 w2 w3 : World} {o : Obj} (h1 : But p w w1) (h2 : But p w1 w2) (h3 : But p (w2.alloc o) w3) : But p w w3 :=
  ((h1.next h2).next (But.of (belowNew w2 o))).next h3
theorem but_drew {p : Nat} {w w' : World} (h : But p w w') : But p w w'.drew := h.next (But.of (Below.refl _ w').drew)
set_option maxRecDepth 100000 in
set_option maxHeartbeats 2000000 in
theorem damage_but (p : Nat) (a : Option Addr) (cap : Nat) (zs : List Int) (k : Nat) (s : ByteArray) (w : World) (h : DeckAt w p a cap zs k) (hk : k ≤ 990) (h0 : s.size ≠ 0) (hs : s.size ≤ 1099511627000) :
    Calls Tryz.prog 18 #[.pointer (some ⟨p, 0, none⟩), .string s] w fun e w' => ∃ (u : ByteArray) (k' : Nat), e = .returned (.string u) ∧ u.size ≤ s.size + 1 ∧ DeckAt w' p a cap zs k' ∧ k' ≤ k + 3 ∧ But p w w' := by
  have he := nonempty_list h0
  have HD := Lib.hid h
  have HK := Lib.hid hk
  have HP := Lib.hid (show 0 < s.size by omega)
  have HS := Lib.hid hs
  clear h hk h0
  go_enter Tryz.func18, Tryz.ntmps18
  go_wp2_with (first | (go_at_call 12; (with_reducible refine (next_intN p a cap zs k s.size (s.size : Int) _ HD.out (by have := HK.out; omega) HP.out (by have := HS.out; omega) rfl).mono ?_); rintro e w1 ⟨r1, k1, hr1, rfl, hd1, hk1, hb1⟩; have HD1 := Lib.hid hd1; have HK1 := Lib.hid hk1; have HB1 := Lib.hid hb1; clear hd1 hk1 hb1) | (go_at_call 12; (with_reducible refine (next_intN p a cap zs k1 256 256 _ HD1.out (by have := HK.out; have := HK1.out; omega) (by omega) (by omega) rfl).mono ?_); rintro e w2 ⟨r2, k2, hr2, rfl, hd2, hk2, hb2⟩; have HD2 := Lib.hid hd2; have HK2 := Lib.hid hk2; have HB2 := Lib.hid hb2; clear hd2 hk2 hb2; obtain ⟨y, rfl⟩ : ∃ y : UInt8, r2 = y.toNat := ⟨UInt8.ofNat r2, by simp; omega⟩; have hymod : ((y.toNat : Nat) : Int) % 256 = ((y.toNat : Nat) : Int) := (by omega); have hcv := row_conv w2 w2.heap.size 1 rfl [y] rfl #[.int .u8 ((y.toNat : Nat) : Int)] rfl; obtain ⟨C, hC⟩ : ∃ C : ByteArray, C = ⟨[y].toArray⟩ := ⟨_, rfl⟩; rw [← hC] at hcv; have hC1 : C.size = 1 := (by rw [hC]; rfl); clear hC) | (go_at_call 12; (with_reducible refine (next_intN p a cap zs k2 5 5 _ (deck_alloc HD2.out _) (by have := HK.out; have := HK1.out; have := HK2.out; omega) (by omega) (by omega) rfl).mono ?_); rintro e w3 ⟨r3, k3, hr3, rfl, hd3, hk3, hb3⟩; have HD3 := Lib.hid hd3; have HKK := Lib.hid (show k3 ≤ k + 3 by have := HK1.out; have := HK2.out; omega); have HB3 := Lib.hid (but_any HB1.out HB2.out hb3); clear hb3 hd3 hk3))
  · have q1 : (s.extract 0 r1).size = r1 := by rw [ByteArray.size_extract]; omega
    have q2 : (s.extract (r1 + 1) s.size).size = s.size - (r1 + 1) := by rw [ByteArray.size_extract]; omega
    have q3 : (s.extract 0 r1 ++ C).size = r1 + 1 := by rw [ByteArray.size_append, q1, hC1]
    have hs := HS.out
    go_region
    go_wp2_with fail
    go_ret
    exact ⟨_, _, rfl, by rw [ByteArray.size_append, q3, q2]; omega, deck_up HD3.out, HKK.out, but_drew HB3.out⟩
  · have q1 : (s.extract 0 r1).size = r1 := by rw [ByteArray.size_extract]; omega
    have q2 : (s.extract r1 s.size).size = s.size - r1 := by rw [ByteArray.size_extract]; omega
    have q3 : (s.extract 0 r1 ++ C).size = r1 + 1 := by rw [ByteArray.size_append, q1, hC1]
    have hs := HS.out
    go_region
    go_wp2_with fail
    go_ret
    exact ⟨_, _, rfl, by rw [ByteArray.size_append, q3, q2]; omega, deck_up HD3.out, HKK.out, but_drew HB3.out⟩
  · have q1 : (s.extract 0 r1).size = r1 := by rw [ByteArray.size_extract]; omega
    have q2 : (s.extract (r1 + 1) s.size).size = s.size - (r1 + 1) := by rw [ByteArray.size_extract]; omega
    have hs := HS.out
    go_region
    go_wp2_with fail
    go_ret
    exact ⟨_, _, rfl, by rw [ByteArray.size_append, q1, q2]; omega, deck_up HD3.out, HKK.out, but_drew HB3.out⟩
  · have hs := HS.out
    go_ret
    exact ⟨_, _, rfl, by rw [ByteArray.size_extract]; omega, HD3.out, HKK.out, HB3.out⟩
  · go_ret
    exact ⟨_, _, rfl, by omega, HD3.out, HKK.out, HB3.out⟩
end Go.Proofs.YtfpfgdbfigdooaaGreatDoor
namespace Go.Proofs.YtfpfgdbfigdooaaGreatDoor
open Go.RowKit

theorem wr1_size (T : Int) (x : ByteArray) : (wr1 T x).size ≤ 131080 := wrapStr_size _ _
set_option maxRecDepth 100000 in
set_option maxHeartbeats 2000000 in
theorem replaced_any (p : Nat) (a : Option Addr) (cap : Nat) (zs : List Int) (k : Nat) (s : ByteArray) (w : World) (h : DeckAt w p a cap zs k) (hk : k ≤ 980) (hs : s.size ≤ 1000000) :
    Calls Tryz.prog 40 #[.pointer (some ⟨p, 0, none⟩), .string s] w fun e w' => ∃ (u : ByteArray) (k' : Nat), e = .returned (.string u) ∧ u.size ≤ s.size + 131080 ∧ DeckAt w' p a cap zs k' ∧ k' ≤ k + 4 ∧ But p w w' := by
  have HD := Lib.hid h
  have HK := Lib.hid hk
  have HS := Lib.hid hs
  by_cases h2 : s.size < 2
  · have hd : decide ((s.size : Int) < 2) = true := by simp; omega
    clear h hk hs
    go_enter Tryz.func40, Tryz.ntmps40
    go_wp2_with fail
    go_ret
    exact ⟨_, _, rfl, by omega, HD.out, by omega, But.refl _ _⟩
  have hd : decide ((s.size : Int) < 2) = false := by simp; omega
  have he := nonempty_list (show s.size ≠ 0 by omega)
  obtain ⟨c, hc⟩ : ∃ c, c = s.extract 2 s.size := ⟨_, rfl⟩
  have hsl : ∀ w, (Instr.slice 9 (.string s) (some (.int .i64 2)) none none).run Tryz.prog w = .ok (.string c) w := fun w => by
    have := run_slice_string_from_if (P := Tryz.prog) w 9 s .i64 2 Tryz.underlying9
    rw [this, if_pos ⟨by omega, by omega⟩, hc]
    rfl
  have hixx := fun w => run_index_u8 (P := Tryz.prog) Tryz.underlying9 s 0 (by omega) 0 rfl w
  have HCZ := Lib.hid (show c.size ≤ 1099511627776 by rw [hc, ByteArray.size_extract]; omega)
  generalize u8at s 0 = cc at hixx
  have HDM := Lib.hid (fun k w h hk => damage_but p a cap zs k s w h hk (by omega) (by omega))
  have HW1 := Lib.hid (fun T g W h => rw1 T g c W h HCZ.out)
  have HW0 := Lib.hid (fun T g W h => rw1 T g ⟨#[]⟩ W h (Nat.zero_le _))
  clear h hk hs hc h2
  go_enter Tryz.func40, Tryz.ntmps40
  go_wp2_with (first
    | (go_at_call 12; (with_reducible refine (next_intN p a cap zs k 6 6 _ HD.out (by have := HK.out; omega) (by omega) (by omega) rfl).mono ?_); rintro e w1 ⟨r1, k1, hr1, rfl, hd1, hk1, hb1⟩; have HD1 := Lib.hid hd1; have HK1 := Lib.hid hk1; have HB1 := Lib.hid hb1; clear hd1 hk1 hb1)
    | (go_at_call 12; (with_reducible refine (next_intN p a cap zs k1 31 31 _ HD1.out (by have := HK.out; have := HK1.out; omega) (by omega) (by omega) rfl).mono ?_); rintro e w2 ⟨r2, k2, hr2, rfl, hd2, hk2, hb2⟩; have HD2 := Lib.hid hd2; have HK2 := Lib.hid hk2; have HB2 := Lib.hid hb2; clear hd2 hk2 hb2)
    | (go_at_call 12; (with_reducible refine (next_intN p a cap zs k1 256 256 _ HD1.out (by have := HK.out; have := HK1.out; omega) (by omega) (by omega) rfl).mono ?_); rintro e w2 ⟨r2, k2, hr2, rfl, hd2, hk2, hb2⟩; have HD2 := Lib.hid hd2; have HK2 := Lib.hid hk2; have HB2 := Lib.hid hb2; clear hd2 hk2 hb2; obtain ⟨y, rfl⟩ : ∃ y : UInt8, r2 = y.toNat := ⟨UInt8.ofNat r2, by simp; omega⟩; have hymod : ((y.toNat : Nat) : Int) % 256 = ((y.toNat : Nat) : Int) := (by omega); have hcv := row_conv w2 w2.heap.size 1 rfl [y] rfl #[.int .u8 ((y.toNat : Nat) : Int)] rfl; obtain ⟨C, hC⟩ : ∃ C : ByteArray, C = ⟨[y].toArray⟩ := ⟨_, rfl⟩; rw [← hC] at hcv; have hC1 : C.size = 1 := (by rw [hC]; rfl); clear hC)
    | (go_at_call 34; (with_reducible refine (HW1.out _ _ _ (bx1 _ _ _)).mono ?_); rintro e w5 ⟨rfl, hb5⟩; have HB5 := Lib.hid hb5; clear hb5)
    | (go_at_call 34; (with_reducible refine (HW0.out _ _ _ (bx1 _ _ _)).mono ?_); rintro e w5 ⟨rfl, hb5⟩; have HB5 := Lib.hid hb5; clear hb5)
    | (go_at_call 18; (with_reducible refine (HDM.out k1 _ HD1.out (by have := HK.out; have := HK1.out; omega)).mono ?_); rintro e w5 ⟨u, k5, rfl, hu, hd5, hk5, hb5⟩; have HD5 := Lib.hid hd5; have HB5 := Lib.hid hb5; clear hb5 hd5))
  · go_ret
    exact ⟨_, _, rfl, Nat.le_trans (wr1_size _ _) (by omega), (HD2.out.below (belowNew _ _)).below HB5.out, by have := HK1.out; have := HK2.out; omega, ((HB1.out.next HB2.out).next (But.of (belowNew _ _))).next (But.of HB5.out)⟩
  · go_ret
    exact ⟨_, _, rfl, Nat.le_trans (wr1_size _ _) (by omega), (HD1.out.below (belowNew _ _)).below HB5.out, by have := HK1.out; omega, (HB1.out.next (But.of (belowNew _ _))).next (But.of HB5.out)⟩
  · go_ret
    exact ⟨_, _, rfl, Nat.le_trans (wr1_size _ _) (by omega), (HD1.out.below (belowNew _ _)).below HB5.out, by have := HK1.out; omega, (HB1.out.next (But.of (belowNew _ _))).next (But.of HB5.out)⟩
  · go_ret
    refine ⟨_, _, rfl, ?_, HD2.out.below (belowNew _ _), by have := HK1.out; have := HK2.out; omega, (HB1.out.next HB2.out).next (But.of (belowNew _ _))⟩
    rw [ByteArray.size_append, hC1]
    exact Nat.le_trans (show 3 ≤ 131080 by omega) (by omega)
  · go_ret
    exact ⟨_, _, rfl, Nat.le_trans (show 2 ≤ 131080 by omega) (by omega), HD1.out, by have := HK1.out; omega, HB1.out⟩
  · go_ret
    exact ⟨_, _, rfl, by omega, HD5.out, by have := HK1.out; omega, HB1.out.next HB5.out⟩
end Go.Proofs.YtfpfgdbfigdooaaGreatDoor
namespace Go.Proofs.YtfpfgdbfigdooaaGreatDoor
open Go.RowKit

theorem str_dig (d : UInt8) (w : World) : (convert 61 9 (.slice (some ⟨w.heap.size, 0, none⟩) 1 1)).run Tryz.prog (w.alloc (.cells #[.int .u8 ((d.toNat : Nat) : Int)] 5)) = .ok (.string (strOf [d])) (w.alloc (.cells #[.int .u8 ((d.toNat : Nat) : Int)] 5)) :=
  own_str (l := [d]) ⟨rfl, .inr ⟨w.heap.size, 1, _, rfl, Nat.le_refl _, heap_alloc_new w _, Nat.le_refl _, by decide, rfl, rfl⟩⟩

set_option maxRecDepth 100000 in
set_option maxHeartbeats 1000000 in
theorem dec_small (n : Nat) (h : n < 10) (w : World) :
    Calls Tryz.prog 112 #[.int .i64 (n : Int)] w fun e w' => e = .returned (.string (strOf (Lib.decDigits n))) ∧ Below w.heap.size w w' := by
  have d1 : decide ((n : Int) < 10) = true := by simp; omega
  obtain ⟨d, hd⟩ : ∃ d : UInt8, d = UInt8.ofNat (48 + n) := ⟨_, rfl⟩
  have hdn : wrap64 (48 + (n : Int)) % 256 = ((d.toNat : Nat) : Int) := by rw [hd]; unfold wrap64; simp; omega
  have hs := str_dig d
  have HD := Lib.hid (show Lib.decDigits n = [d] by rw [Lib.decDigits_one h, hd])
  clear h hd
  go_enter Tryz.func112, Tryz.ntmps112
  go_wp2_with fail
  go_ret
  exact ⟨by rw [HD.out]; rfl, belowNew _ _⟩
theorem conv_later (d : UInt8) (w w1 : World) (hb : Below (w.alloc (.cells #[.int .u8 ((d.toNat : Nat) : Int)] 5)).drew.heap.size (w.alloc (.cells #[.int .u8 ((d.toNat : Nat) : Int)] 5)).drew w1) :
    (convert 61 9 (.slice (some ⟨w.heap.size, 0, none⟩) 1 1)).run Tryz.prog w1 = .ok (.string (strOf [d])) w1 :=
  own_str (B := w.heap.size) (l := [d]) (own_below (w := (w.alloc (.cells #[.int .u8 ((d.toNat : Nat) : Int)] 5)).drew) (World.ownsRow.drew ⟨rfl, .inr ⟨w.heap.size, 1, _, rfl, Nat.le_refl _, heap_alloc_new w _, Nat.le_refl _, by decide, rfl, rfl⟩⟩) hb)
theorem str_dig_drew (d : UInt8) (w : World) : (convert 61 9 (.slice (some ⟨w.heap.size, 0, none⟩) 1 1)).run Tryz.prog (w.alloc (.cells #[.int .u8 ((d.toNat : Nat) : Int)] 5)).drew = .ok (.string (strOf [d])) (w.alloc (.cells #[.int .u8 ((d.toNat : Nat) : Int)] 5)).drew :=
  own_str (B := w.heap.size) (l := [d]) (World.ownsRow.drew ⟨rfl, .inr ⟨w.heap.size, 1, _, rfl, Nat.le_refl _, heap_alloc_new w _, Nat.le_refl _, by decide, rfl, rfl⟩⟩)
set_option maxRecDepth 100000 in
set_option maxHeartbeats 1000000 in
theorem dec_bound (k : Nat) : ∀ (n : Nat) (w : World), n < 10 ^ (k + 1) → n ≤ 9223372036854775807 →
    Calls Tryz.prog 112 #[.int .i64 (n : Int)] w fun e w' => e = .returned (.string (strOf (Lib.decDigits n))) ∧ Below w.heap.size w w' := by
  induction k with
  | zero => intro n w h _; exact dec_small n (by simpa using h) w
  | succ k ih =>
    intro n w h hn
    by_cases h10 : n < 10
    · exact dec_small n h10 w
    · have d1 : decide ((n : Int) < 10) = false := by simp; omega
      obtain ⟨q, hq⟩ : ∃ q, q = n / 10 := ⟨_, rfl⟩
      obtain ⟨d, hd⟩ : ∃ d : UInt8, d = UInt8.ofNat (48 + n % 10) := ⟨_, rfl⟩
      have hqi : (n : Int) / 10 = (q : Int) := by rw [hq]; omega
      have HIH := Lib.hid (fun w => ih q w (by rw [hq]; rw [Nat.pow_succ] at h; omega) (by omega))
      have hqw : IntKind.i64.wrap (q : Int) = (q : Int) := by rw [wrap_i64]; omega
      have hdn : IntKind.u8.wrap (IntKind.i64.wrap (48 + (n : Int).tmod 10)) = ((d.toNat : Nat) : Int) := by
        rw [hd, wrap_i64, Int.tmod_eq_emod_of_nonneg (by omega)]
        simp [IntKind.wrap, IntKind.bits, IntKind.signed]
        omega
      have hs := str_dig_drew d
      have HD := Lib.hid (show Lib.decDigits n = Lib.decDigits q ++ [d] by
        conv => lhs; rw [Lib.decDigits]
        rw [dif_neg h10, hq, hd])
      have hcat : ∀ w, (Op.stringOp .add (strOf (Lib.decDigits q)) (strOf [d])).run Tryz.prog w = .ok (.string (strOf (Lib.decDigits n))) w := fun w => by
        rw [run_string_add_sum w _ _ (by
          rw [strOf_size, strOf_size, Lib.decDigits_length]
          have := Lib.nDigits_le20 q (by omega)
          simp; omega), str_cat, HD.out]
      clear hq hd ih h
      go_enter Tryz.func112, Tryz.ntmps112
      go_upto_region 3 with fail
      go_region_with (first
        | (go_at_call 112; (with_reducible refine (HIH.out _).mono ?_); rintro e w1 ⟨rfl, hb1⟩; have hs1 := conv_later d w w1 hb1; have HB1 := Lib.hid (show Below w.heap.size w w1 from (belowNew w _).drew.trans (hb1.mono (by simp))); clear hb1)
        | (go_at_call 112; (with_reducible refine (HIH.out _).mono ?_); rintro e w1 ⟨rfl, hb1⟩; have hs1 := str_dig d w1; have HB1 := Lib.hid (show Below w.heap.size w w1 from (Below.refl _ w).drew.trans (hb1.mono (by simp))); clear hb1))
      all_goals
        go_wp2_with fail
        go_ret
        first
        | exact ⟨rfl, HB1.out⟩
        | exact ⟨rfl, HB1.out.alloc HB1.out.size _⟩
theorem decno_any (n : Nat) (w : World) (hn : n ≤ 9223372036854775807) :
    Calls Tryz.prog 112 #[.int .i64 (n : Int)] w fun e w' => e = .returned (.string (strOf (Lib.decDigits n))) ∧ Below w.heap.size w w' :=
  dec_bound 18 n w (by omega) hn
end Go.Proofs.YtfpfgdbfigdooaaGreatDoor
namespace Go.Proofs.YtfpfgdbfigdooaaGreatDoor
open Go.RowKit

/-- The numbers L can be read from the address a0 on. -/
def WLies (w : World) (a0 : Option Addr) (L : List Nat) : Prop :=
  L = [] ∨ ∃ b off, a0 = some ⟨b, off, none⟩ ∧ ∀ i, i < L.length → w.cell? ⟨b, off + i, none⟩ = some (.int .u32 ((L.getD i 0 : Nat) : Int))
theorem WLies.below {w w' : World} {a0 : Option Addr} {L : List Nat} (h : WLies w a0 L) (hb : Below w.heap.size w w') : WLies w' a0 L := by
  rcases h with h | ⟨b, off, h1, h2⟩
  · exact .inl h
  · refine .inr ⟨b, off, h1, fun i hi => ?_⟩
    rw [← h2 i hi]
    exact hb.cell (World.block_lt_of_cell? _ _ (h2 i hi))
theorem WLies.take {w : World} {a0 : Option Addr} {L : List Nat} (h : WLies w a0 L) (k : Nat) : WLies w a0 (L.take k) := by
  rcases h with h | ⟨b, off, h1, h2⟩
  · exact .inl (by rw [h]; simp)
  · refine .inr ⟨b, off, h1, fun i hi => ?_⟩
    rw [List.length_take] at hi
    rw [h2 i (by omega), List.getD_eq_getElem?_getD, List.getD_eq_getElem?_getD, List.getElem?_take_of_lt (by omega)]
def idOne (y : Nat) : Nat := y / 2 ^ (y % 32) % 2147483648
def idHead : List Nat → List Nat
  | [] => [2, 999]
  | x :: _ => [x % 3, x / 3 % 40]
def idRest (L : List Nat) : List Nat := ((L.drop 1).take 7).map idOne
def idArcs (L : List Nat) : List Nat := idHead L ++ idRest L
theorem idHead_len (L : List Nat) : (idHead L).length = 2 := by cases L <;> rfl
theorem idRest_len (L : List Nat) : (idRest L).length = min 7 (L.length - 1) := by simp [idRest]
theorem idArcs_good (L : List Nat) : Good (idArcs L) := by
  refine ⟨by simp [idArcs, idHead_len], by simp [idArcs, idHead_len, idRest_len]; omega, ?_, ?_, ?_⟩
  · intro v hv
    rcases List.mem_append.1 hv with hv | hv
    · cases L with
      | nil => simp [idHead] at hv; omega
      | cons x r => simp [idHead] at hv; omega
    · obtain ⟨y, _, rfl⟩ := List.mem_map.1 hv
      unfold idOne; omega
  · cases L with
    | nil => simp [idArcs, idHead]
    | cons x r => simp [idArcs, idHead]; omega
  · cases L with
    | nil => simp [idArcs, idHead]
    | cons x r => simp [idArcs, idHead]; omega
theorem txt_len (a : List Nat) (h : ∀ v ∈ a, v ≤ 2147483647) : (txt a).length ≤ 11 * a.length := by
  by_cases h0 : a = []
  · subst h0; simp [txt]
  · have e := congrArg List.length (txt_dot a h0)
    have key : ∀ a : List Nat, (∀ v ∈ a, v ≤ 2147483647) → (cat fdot a).length ≤ 11 * a.length := by
      intro a
      induction a with
      | nil => intro _; simp [cat]
      | cons v a ih =>
        intro h
        have h1 := dec_len 10 v (Nat.lt_of_le_of_lt (h v (by simp)) (by decide)) (by omega)
        have h2 := ih (fun x hx => h x (by simp [hx]))
        simp only [cat, fdot, List.length_append, List.length_cons, List.length_nil]; omega
    have := key a h
    rw [List.length_append] at e
    simp at e; omega
theorem add_str (a b : List UInt8) (h : a.length + b.length ≤ 9223372036854775807) (w : World) : (Op.stringOp .add (strOf a) (strOf b)).run Tryz.prog w = .ok (.string (strOf (a ++ b))) w := by
  rw [run_string_add_sum w _ _ (by rw [strOf_size, strOf_size]; exact h), str_cat]
theorem and_max : ∀ v : Nat, v < 4294967296 → bits BinOp.and .i64 ((v : Nat) : Int) 2147483647 = ((v % 2147483648 : Nat) : Int) := by
  intro v hv
  show IntKind.i64.wrap ((BitVec.ofInt 64 (v : Int) &&& BitVec.ofInt 64 2147483647).toNat : Int) = _
  rw [BitVec.toNat_and, BitVec.toNat_ofInt, BitVec.toNat_ofInt, wrap_i64]
  have e1 : ((v : Int) % (2 ^ 64 : Nat)).toNat = v := by
    show ((v : Int) % (18446744073709551616 : Nat)).toNat = v
    omega
  have e2 : ((2147483647 : Int) % (2 ^ 64 : Nat)).toNat = 2 ^ 31 - 1 := by decide
  rw [e1, e2, Nat.and_two_pow_sub_one_eq_mod]
  show (((v % 2147483648 : Nat) : Int) + 9223372036854775808) % 18446744073709551616 - 9223372036854775808 = _
  omega

theorem add_dot (a : List UInt8) (h : a.length ≤ 1000) (w : World) : (Op.stringOp .add (strOf a) ⟨#[46]⟩).run Tryz.prog w = .ok (.string (strOf (a ++ [46]))) w := add_str a [46] (by simp; omega) w
theorem dot_add (a : List UInt8) (h : a.length ≤ 1000) (w : World) : (Op.stringOp .add ⟨#[46]⟩ (strOf a)).run Tryz.prog w = .ok (.string (strOf (46 :: a))) w := add_str [46] a (by simp; omega) w
theorem shr_32 (y : Nat) (hy : y < 4294967296) (w : World) : (Op.shift .shr .u32 (y : Int) .u32 ((y : Int).tmod 32)).run Tryz.prog w = .ok (.int .u32 ((y / 2 ^ (y % 32) : Nat) : Int)) w := by
  have e : (y : Int).tmod 32 = ((y % 32 : Nat) : Int) := by rw [Int.tmod_eq_emod_of_nonneg (by omega)]; omega
  rw [e, shift_shr .u32 .u32 (y : Int) ((y % 32 : Nat) : Int) (by omega) (by show ((y % 32 : Nat) : Int) ≤ 32; omega), Int.toNat_natCast]
  show Result.ok _ _ = _
  congr 2
theorem decno_2 (w : World) : Calls Tryz.prog 112 #[.int .i64 2] w fun e w' => e = .returned (.string (strOf (Lib.decDigits 2))) ∧ Below w.heap.size w w' := decno_any 2 w (by omega)
theorem decno_999 (w : World) : Calls Tryz.prog 112 #[.int .i64 999] w fun e w' => e = .returned (.string (strOf (Lib.decDigits 999))) ∧ Below w.heap.size w w' := decno_any 999 w (by omega)
theorem dec_le10 {v : Nat} (h : v ≤ 2147483647) : (Lib.decDigits v).length ≤ 10 := dec_len 10 v (Nat.lt_of_le_of_lt h (by decide)) (by omega)

end Go.Proofs.YtfpfgdbfigdooaaGreatDoor
namespace Go.Proofs.YtfpfgdbfigdooaaGreatDoor
open Go.RowKit

def oidVal (a : List Nat) : Value := .tuple #[.string (strOf (txt a)), .int .i64 0]
def OwnS (w : World) (B : Nat) (v : Value) (ss : List ByteArray) : Prop := w.ownsRow B 9 1 v ss.length (ss.map Value.string)
theorem strs_one (ss : List ByteArray) : ∀ v ∈ ss.map Value.string, v.oneCell' = true := by
  intro v hv; obtain ⟨b, _, rfl⟩ := List.mem_map.1 hv; rfl
def decS (n : Nat) : ByteArray := strOf (Lib.decDigits n)
theorem owns_two (w : World) (x y : ByteArray) : OwnS (w.alloc (.cells #[.string x, .string y] 9)) w.heap.size (.slice (some ⟨w.heap.size, 0, none⟩) 2 2) [x, y] :=
  ⟨rfl, .inr ⟨w.heap.size, 2, _, rfl, Nat.le_refl _, heap_alloc_new w _, Nat.le_refl _, by decide, rfl, rfl⟩⟩
theorem owns_form {w : World} {B : Nat} {v : Value} {ss : List ByteArray} (h : OwnS w B v ss) (h0 : ss ≠ []) :
    ∃ g cp, v = .slice (some ⟨g, 0, none⟩) ss.length cp ∧ g < w.heap.size ∧ ss.length ≤ cp ∧ ∀ (j : Nat) x, ss[j]? = some x → w.cell? ⟨g, 0 + j, none⟩ = some (.string x) := by
  rcases h.2 with ⟨_, h1⟩ | ⟨g, cap, cur, rfl, hB, hg, hn, _, hcs, htk⟩
  · exact absurd (List.eq_nil_of_length_eq_zero h1) h0
  · refine ⟨g, cap, rfl, (Array.getElem?_eq_some_iff.1 hg).1, hn, fun j x hx => ?_⟩
    have hj := (List.getElem?_eq_some_iff.1 hx).1
    rw [Nat.zero_add, cell_of_row w g j _ _ _ hg]
    have : (cur.toList.take (ss.length * 1))[j]? = some (.string ss[j]) := by rw [htk]; simp [hj]
    rw [List.getElem?_take_of_lt (by omega)] at this
    rw [List.getElem?_eq_getElem hj] at hx
    rw [← Option.some.inj hx]
    simpa using this
theorem strs_round {w wr w2 : World} {B : Nat} {v v' : Value} {D : List ByteArray} {y : ByteArray} {X : Obj} (hB : w.heap.size ≤ B) (hown : OwnS wr B v D) (hb : Below w.heap.size w wr)
    (hown2 : w2.ownsRow B 9 1 v' (D.length + 1) (D.map Value.string ++ [.string y])) (hgr2 : (wr.alloc X).grownBy w2 v.ownBlock) : OwnS w2 B v' (D ++ [y]) ∧ Below w.heap.size w w2 := by
  refine ⟨?_, ?_⟩
  · unfold OwnS
    rw [List.length_append, List.map_append]; exact hown2
  · exact (Below.alloc hb hb.size X).grown hgr2 (by simp; have := hb.size; omega) (fun k e => Nat.le_trans hB (World.ownsRow.lt hown k e).1)
theorem nums_yes {c : ByteArray} {N : List Nat} (hg : GoodN N) (hN : c.data.toList = cat e128 N) (w : World) (hs : c.size ≤ 1099511627) :
    Calls Tryz.prog 179 #[.string c] w fun e w' => (∃ g cap, e = .returned (.tuple #[.slice (some ⟨g, 0, none⟩) N.length cap, .bool true]) ∧ ILie w' g N ∧ N.length ≤ cap) ∧ Below w.heap.size w w' := by
  refine (nums_any c w hs).mono ?_
  rintro e w' ⟨h, hb⟩
  refine ⟨?_, hb⟩
  rcases h with ⟨M, g, cap, h1, h2, h3, h4, h5, h6⟩ | ⟨h1, _⟩
  · obtain rfl : M = N := code_inj e128_code e128_ne (h2.symm.trans hN)
    exact ⟨g, cap, h3, h4, h6⟩
  · exact absurd (dec_iff hg hN) (h1 _)
theorem nums_no {c : ByteArray} (h : ∀ a, ¬ Dec c.data.toList a) (w : World) (hs : c.size ≤ 1099511627) :
    Calls Tryz.prog 179 #[.string c] w fun e w' => (∃ v, e = .returned (.tuple #[v, .bool false])) ∧ Below w.heap.size w w' := by
  refine (nums_any c w hs).mono ?_
  rintro e w' ⟨h', hb⟩
  refine ⟨?_, hb⟩
  rcases h' with ⟨M, g, cap, h1, h2, _⟩ | ⟨_, h2⟩
  · exact absurd (dec_iff h1 h2) (h _)
  · exact h2
theorem itoaS (n : Nat) (w : World) (hn : n ≤ 9223372036854775807) (ht : Pow10 w) :
    Calls Tryz.prog 180 #[.int .i64 (n : Int)] w fun e w' => e = .returned (.string (decS n)) ∧ Below w.heap.size w w' := itoa_any n w hn ht

set_option maxRecDepth 100000 in
set_option maxHeartbeats 1000000 in
theorem decode_no {c : ByteArray} (h : ∀ a, ¬ Dec c.data.toList a) (w : World) (hs : c.size ≤ 1099511627) :
    Calls Tryz.prog 146 #[.string c] w fun e w' => e = .returned noVal ∧ Below w.heap.size w w' := by
  have HH := Lib.hid h
  clear h
  go_enter Tryz.func146, Tryz.ntmps146
  go_wp2_with (go_at_call 179; (with_reducible refine (nums_no HH.out _ hs).mono ?_); rintro e w1 ⟨⟨v, rfl⟩, hb1⟩; have HB1 := Lib.hid hb1; clear hb1)
  go_ret2
  exact ⟨rfl, HB1.out⟩

theorem arcs_len (m : Nat) (M : List Nat) (k : Nat) : ([min (m / 40) 2, m - 40 * min (m / 40) 2].map decS ++ (M.take k).map decS) = (arcsN (m :: M.take k)).map decS := by simp [arcsN]
theorem join_dec (a : List Nat) : Lib.join ((a.map decS).map (·.data.toList)) [46] = txt a := by
  rw [← join_txt, List.map_map]
  congr 1

set_option maxRecDepth 100000 in
set_option maxHeartbeats 2000000 in
theorem decode_yes {c : ByteArray} {N : List Nat} (hg : GoodN N) (hN : c.data.toList = cat e128 N) (w : World) (hs : c.size ≤ 1099511627) (ht : Pow10 w) :
    Calls Tryz.prog 146 #[.string c] w fun e w' => e = .returned (oidVal (arcsN N)) ∧ Below w.heap.size w w' := by
  obtain ⟨i0, hi, hz0, hz1, hz2⟩ := info_parts strInfo
  have HG := Lib.hid hg
  have HN := Lib.hid hN
  have HT := Lib.hid ht
  obtain ⟨m, M, rfl⟩ : ∃ m M, N = m :: M := by
    cases N with
    | nil => exact absurd hg.1 (by simp)
    | cons m M => exact ⟨m, M, rfl⟩
  have hM : M.length ≤ 10 := by have := hg.2.1; simp at this; omega
  have hm : m ≤ 2147483727 := by simpa using hg.2.2.1
  have HMM := Lib.hid (show ∀ v ∈ M, v ≤ 2147483647 from by simpa using hg.2.2.2)
  obtain ⟨q, hq⟩ : ∃ q, q = m / 40 := ⟨_, rfl⟩
  have hqi : (m : Int) / 40 = (q : Int) := by omega
  obtain ⟨f, hf⟩ : ∃ f, f = min q 2 := ⟨_, rfl⟩
  have hfi : min (q : Int) 2 = (f : Int) := by omega
  have hfb : f ≤ 2 := by omega
  have hf40 : 40 * f ≤ m := by omega
  obtain ⟨z, hz⟩ : ∃ z, z = m - 40 * f := ⟨_, rfl⟩
  have hzi : (m : Int) - 40 * (f : Int) = (z : Int) := by omega
  have hzb : z ≤ 2147483727 := by omega
  have HAR := Lib.hid (show ∀ k, (arcsN (m :: M.take k)).map decS = [decS f, decS z] ++ (M.take k).map decS from fun k => by rw [hz, hf, hq]; simp [arcsN])
  clear hq hf hz hg hN ht hf40
  go_enter Tryz.func146, Tryz.ntmps146
  go_upto_region 5 with (go_at_call 179; (with_reducible refine (nums_yes HG.out HN.out _ hs).mono ?_); rintro e w1 ⟨⟨g, cap, rfl, hl, hcp⟩, hb1⟩; have HB1 := Lib.hid hb1; have HL := Lib.hid hl; have hc0 := hl.cell 0 (by simp); simp only [List.length_cons] at hcp; simp only [List.getD_cons_zero] at hc0; clear hb1 hl)
  have hwr2 : IntKind.i64.wrap (40 * (f : Int)) = 40 * (f : Int) := by rw [wrap_i64]; omega
  have hwr3 : IntKind.i64.wrap (z : Int) = (z : Int) := by rw [wrap_i64]; omega
  have HB1D := Lib.hid (show Below w.heap.size w w1.drew from Below.drew HB1.out)
  have HT1 := Lib.hid (HT.out.below HB1D.out)
  have BF := Lib.hid (show f ≤ 9223372036854775807 by omega)
  have BZ := Lib.hid (show z ≤ 9223372036854775807 by omega)
  go_region_with (first
    | (go_at_call 180; (with_reducible refine (itoaS f _ BF.out HT1.out).mono ?_); rintro e w2 ⟨rfl, hb2⟩; have HB2 := Lib.hid (below_next HB1D.out hb2); have HT2 := Lib.hid (HT.out.below HB2.out); have HL2 := Lib.hid (HL.out.below ((Below.refl _ w1).drew.trans hb2)); have hc2 := HL2.out.cell 0 (by simp); simp only [List.getD_cons_zero] at hc2; clear hb2)
    | (go_at_call 180; (with_reducible refine (itoaS z _ BZ.out HT2.out).mono ?_); rintro e w3 ⟨rfl, hb3⟩; have HB3 := Lib.hid (below_next HB2.out hb3); have HL3 := Lib.hid (HL2.out.below hb3); clear hb3))
  all_goals
    have HO3 := Lib.hid (owns_two w3 (decS f) (decS z))
    have HB4 := Lib.hid (belowNew w3 (.cells #[.string (decS f), .string (decS z)] 9))
    clear hwr2 hwr3 hc0 hc2
    go_wp2_with fail
  all_goals
    go_loopw [7, 35] (fun u i wr => ∃ (k : Nat) (D : List ByteArray), k ≤ M.length ∧ i = .int .i64 (k : Int) ∧ D = (arcsN (m :: M.take k)).map decS ∧ D.length = k + 2 ∧ OwnS wr w3.heap.size u D ∧ Below w3.heap.size w3 wr) (fun _ i _ => M.length - (intOf i).toNat)
    case atStart => exact ⟨0, _, by omega, rfl, rfl, by rw [HAR.out]; rfl, by rw [HAR.out]; exact HO3.out, HB4.out⟩
    case round =>
      obtain ⟨k, D, hk, rfl, hD, hDl, ho, hb⟩ := hrel
      have HB := Lib.hid hb
      have HO := Lib.hid ho
      have HD := Lib.hid hD
      clear hb ho hD
      by_cases hlt : k < M.length
      · have dk : decide ((k : Int) < (M.length : Int)) = true := by simp; omega
        have hcx : wr.cell? ⟨g, 1 + k, none⟩ = some (.int .i64 ((M.getD k 0 : Nat) : Int)) := by
          have h1 := (HL3.out.below HB.out).2 (k + 1) (by simp; omega)
          rw [Nat.add_comm 1 k, h1]
          simp
        have hxb : M.getD k 0 ≤ 2147483647 := by
          rw [List.getD_eq_getElem?_getD, List.getElem?_eq_getElem hlt]
          exact HMM.out _ (by simp)
        have HN2 := Lib.hid (show D ++ [decS (M.getD k 0)] = (arcsN (m :: M.take (k + 1))).map decS by
          rw [HD.out, HAR.out, HAR.out, List.append_assoc, List.take_add_one, List.getD_eq_getElem?_getD, List.getElem?_eq_getElem hlt, List.map_append]
          rfl)
        generalize M.getD k 0 = x at hcx hxb HN2
        have BX := Lib.hid (show x ≤ 9223372036854775807 by omega)
        have HTR := Lib.hid (HT.out.below (below_next HB3.out HB.out))
        go_wp2_with (first
          | (go_at_call 180; (with_reducible refine (itoaS x _ BX.out HTR.out).mono ?_); rintro e w5 ⟨rfl, hb5⟩; have HO5 := Lib.hid (own_below HO.out hb5); have HB5 := Lib.hid (below_next HB.out hb5); clear hb5)
          | (at_builtin; (refine wpList_append_own _ rfl (.tmp 39) (.tmp 42) 43 rfl w3.heap.size 9 i0 (.string ⟨#[]⟩) 1 16 Tryz.underlying43 hi hz0 hz1 hz2 rfl (by decide) _ D.length (D.map Value.string) rfl (HO5.out.alloc _) ⟨w5.heap.size, 0, none⟩ 1 1 [.string (decS x)] rfl rfl (news_row w5 #[.string (decS x)] 9) (strs_one [decS x]) (by unfold maxLen; omega) (by omega) (by have := HB5.out.size; simp; omega) ?_); intro v' w6 hown2 hgr2 _; obtain ⟨P1, P2⟩ := strs_round (Nat.le_refl _) HO5.out HB5.out hown2 hgr2; have HP1 := Lib.hid P1; have HP2 := Lib.hid P2; clear hown2 hgr2 P1 P2))
        all_goals
          go_roundw
          case rel => exact ⟨k + 1, D ++ [decS x], by omega, by go_num, HN2.out, by simp; omega, HP1.out, HP2.out⟩
          case measure => simp [intOf]; omega
      · obtain rfl : k = M.length := by omega
        have dk : decide ((M.length : Int) < (M.length : Int)) = false := by simp
        obtain ⟨h, cp, rfl, hh1, hh2, hh3⟩ := owns_form HO.out (fun e => by rw [e] at hDl; simp at hDl)
        have HDD := Lib.hid (show D = (arcsN (m :: M)).map decS by rw [HD.out, List.take_of_length_le (Nat.le_refl _)])
        have HJ := Lib.hid (show Lib.join (D.map (·.data.toList)) [46] = txt (arcsN (m :: M)) by rw [HDD.out, join_dec])
        have hjl : (Lib.join (D.map (·.data.toList)) [46]).length ≤ 140737488355328 := by
          rw [HJ.out]
          refine Nat.le_trans (txt_len _ (goodN_arcs HG.out).1.2.2.1) ?_
          have := (goodN_arcs HG.out).1.2.1
          omega
        have HJL := Lib.hid hjl
        have hDb : D.length ≤ 12 := by omega
        have HH3 := Lib.hid hh3
        clear hjl hh3 hlt hDl hk
        go_wp2_with (go_at_call 74; (with_reducible refine (join_any h 0 cp D ⟨#[46]⟩ _ HH3.out hh1 (by omega) hh2 HJL.out).mono ?_); rintro e w5 ⟨rfl, hb5⟩; have HB5 := Lib.hid (below_next HB.out hb5); clear hb5)
        go_ret2
        refine ⟨?_, below_next HB3.out HB5.out⟩
        show _ = Ending.returned (oidVal (arcsN (m :: M)))
        rw [oidVal, ← HJ.out]
        rfl
end Go.Proofs.YtfpfgdbfigdooaaGreatDoor
