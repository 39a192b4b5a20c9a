/-
  The walk of the law PrimFlags: for every string and all numbers it returns true, and leaves all that was there as it was.
-/
import Derived.Test.YtkamoenjbllhjaaPflback
import Derived.Test.YtkamoenjbllhjaaPboollaw
namespace Go.Proofs.Ytkamoenjbllhjaa
open Go.RowKit

theorem own_two (w : World) (x y : UInt8) : OwnB 5 (w.alloc (.cells #[.int .u8 ((x.toNat : Nat) : Int), .int .u8 ((y.toNat : Nat) : Int)] 5)) w.heap.size (.slice (some ⟨w.heap.size, 0, none⟩) 2 2) [x, y] :=
  ⟨rfl, .inr ⟨w.heap.size, 2, _, rfl, Nat.le_refl _, heap_alloc_new w _, Nat.le_refl _, by decide, rfl, rfl⟩⟩
theorem own_three (w : World) (x y z : UInt8) : OwnB 5 (w.alloc (.cells #[.int .u8 ((x.toNat : Nat) : Int), .int .u8 ((y.toNat : Nat) : Int), .int .u8 ((z.toNat : Nat) : Int)] 5)) w.heap.size (.slice (some ⟨w.heap.size, 0, none⟩) 3 3) [x, y, z] :=
  ⟨rfl, .inr ⟨w.heap.size, 3, _, rfl, Nat.le_refl _, heap_alloc_new w _, Nat.le_refl _, by decide, rfl, rfl⟩⟩
theorem flags_form (c : ByteArray) : ∃ (v n : Nat), flagsVal c = .tuple #[.int .i64 ((v : Nat) : Int), .int .i64 ((n : Nat) : Int)] := ⟨_, _, rfl⟩
theorem pflags_form (m : Int) : ∃ (s : ByteArray) (n : Nat), putFlagsVal m = .tuple #[.string s, .int .i64 ((n : Nat) : Int)] := ⟨_, _, rfl⟩
theorem pflags_small {n : Nat} (h : n ≤ 65535) : putFlagsVal (n : Int) = .tuple #[.string (putFlagsStr (n : Int)), .int .i64 0] ∧ (putFlagsStr (n : Int)).size ≤ 3 := by
  have e : putFlagsErr (n : Int) = 0 := by unfold putFlagsErr; exact if_neg (by omega)
  refine ⟨by unfold putFlagsVal; rw [e]; rfl, ?_⟩
  have := blen_16 h
  unfold putFlagsStr
  rw [e, if_pos rfl, strOf_size, List.length_cons, putF_length, Int.toNat_natCast]
  omega

set_option maxRecDepth 100000 in
set_option maxHeartbeats 8000000 in
theorem flaglaw_core (c : ByteArray) (m : Int) (s f b : Nat) (x y z : UInt8) (w : World) (hs : s < 65536) (hf : f < 256) (_hb : b < 65536) (hx : x.toNat = f % 9) (hy : y.toNat = b / 256) (hz : z.toNat = b % 256) (hc : c.size ≤ 20) :
    Calls Try.prog 7 #[.string c, .int .i64 m, .int .u16 (s : Int), .int .u8 (f : Int), .int .u16 (b : Int)] w fun e w' => e = .returned (.bool true) ∧ Below w.heap.size w w' := by
  have dc : decide ((20 : Int) < (c.size : Int)) = false := by simp; omega
  have e1 : (f : Int) % 9 = ((x.toNat : Nat) : Int) := by omega
  have e2 : (b : Int) / 256 = ((y.toNat : Nat) : Int) := by omega
  have e3 : (b : Int) % 256 = ((z.toNat : Nat) : Int) := by omega
  have hxl := x.toNat_lt
  have hyl := y.toNat_lt
  have hzl := z.toNat_lt
  have hcv1 := own_str (own_three w x y z)
  have hcv2 := own_str (own_two (w.alloc (.cells #[.int .u8 ((x.toNat : Nat) : Int), .int .u8 ((y.toNat : Nat) : Int), .int .u8 ((z.toNat : Nat) : Int)] 5)) x z)
  rw [show (w.alloc (.cells #[.int .u8 ((x.toNat : Nat) : Int), .int .u8 ((y.toNat : Nat) : Int), .int .u8 ((z.toNat : Nat) : Int)] 5)).heap.size = w.heap.size + 1 by simp] at hcv2
  obtain ⟨L, hL⟩ : ∃ L : List ByteArray, L = [c, strOf [x, y, z], strOf [x, z]] := ⟨_, rfl⟩
  have hcell : ∀ k, k < 3 → (((w.alloc (.cells #[.int .u8 ((x.toNat : Nat) : Int), .int .u8 ((y.toNat : Nat) : Int), .int .u8 ((z.toNat : Nat) : Int)] 5)).alloc (.cells #[.int .u8 ((x.toNat : Nat) : Int), .int .u8 ((z.toNat : Nat) : Int)] 5)).alloc (.cells #[.string c, .string (strOf [x, y, z]), .string (strOf [x, z])] 9)).cell? ⟨w.heap.size + 1 + 1, k, none⟩ = some (.string (L.getD k ⟨#[]⟩)) ∧ (L.getD k ⟨#[]⟩).size ≤ 1099511627776 := by
    intro k hk
    rw [hL]
    have := row_strs ((w.alloc (.cells #[.int .u8 ((x.toNat : Nat) : Int), .int .u8 ((y.toNat : Nat) : Int), .int .u8 ((z.toNat : Nat) : Int)] 5)).alloc (.cells #[.int .u8 ((x.toNat : Nat) : Int), .int .u8 ((z.toNat : Nat) : Int)] 5)) [c, strOf [x, y, z], strOf [x, z]] k hk
    rw [show ((w.alloc (.cells #[.int .u8 ((x.toNat : Nat) : Int), .int .u8 ((y.toNat : Nat) : Int), .int .u8 ((z.toNat : Nat) : Int)] 5)).alloc (.cells #[.int .u8 ((x.toNat : Nat) : Int), .int .u8 ((z.toNat : Nat) : Int)] 5)).heap.size = w.heap.size + 1 + 1 by simp] at this
    refine ⟨this, ?_⟩
    rcases (by omega : k = 0 ∨ k = 1 ∨ k = 2) with rfl | rfl | rfl
    · exact Nat.le_trans hc (by decide)
    · exact (by decide : 3 ≤ 1099511627776)
    · exact (by decide : 2 ≤ 1099511627776)
  have HCL := Lib.hid hcell
  have HBA := Lib.hid (((belowNew w (.cells #[.int .u8 ((x.toNat : Nat) : Int), .int .u8 ((y.toNat : Nat) : Int), .int .u8 ((z.toNat : Nat) : Int)] 5)).alloc (by simp) (.cells #[.int .u8 ((x.toNat : Nat) : Int), .int .u8 ((z.toNat : Nat) : Int)] 5)).alloc (by simp; omega) (.cells #[.string c, .string (strOf [x, y, z]), .string (strOf [x, z])] 9))
  have HPM := Lib.hid (fun w => pflags_any m w)
  have HRM := Lib.hid (fun w => rpflags_any m w)
  obtain ⟨P, pe, hPV⟩ := pflags_form m
  rw [hPV] at HPM HRM
  obtain ⟨hsm1, hsm2⟩ := pflags_small (n := s) (by omega)
  have HPS := Lib.hid (fun w => pflags_any (s : Int) w)
  have HFS := Lib.hid (fun w => flags_any (putFlagsStr (s : Int)) w (by omega))
  rw [hsm1] at HPS
  rw [flags_put (by omega)] at HFS
  generalize putFlagsStr (s : Int) = S at HPS HFS
  clear hx hy hz hc hL hcell hPV hsm1 hsm2
  go_enter Try.func7, Try.ntmps7
  go_wp2_with fail
  clear e1 e2 e3
  go_loopw [47] (fun i wr => ∃ k : Nat, k ≤ 3 ∧ i = .int .i64 k ∧ Below w.heap.size w wr ∧ Below (w.heap.size + 1 + 1 + 1) (((w.alloc (.cells #[.int .u8 ((x.toNat : Nat) : Int), .int .u8 ((y.toNat : Nat) : Int), .int .u8 ((z.toNat : Nat) : Int)] 5)).alloc (.cells #[.int .u8 ((x.toNat : Nat) : Int), .int .u8 ((z.toNat : Nat) : Int)] 5)).alloc (.cells #[.string c, .string (strOf [x, y, z]), .string (strOf [x, z])] 9)) wr) (fun i _ => 3 - (intOf i).toNat)
  case atStart => exact ⟨0, by omega, rfl, HBA.out, Below.refl _ _⟩
  case round =>
    obtain ⟨k, hk, rfl, hb1, hb2⟩ := hrel
    have HB5 := Lib.hid hb1
    have HBO := Lib.hid hb2
    by_cases hlt : k < 3
    · have hd4 : decide ((k : Int) < 3) = true := by simp; omega
      obtain ⟨hcx0, hcx1⟩ := HCL.out k hlt
      have hcx := (hb2.cell (p := ⟨w.heap.size + 1 + 1, k, none⟩) (Nat.lt_succ_self _)).trans hcx0
      clear hb1 hb2 hcx0
      generalize L.getD k ⟨#[]⟩ = X at hcx hcx1
      obtain ⟨v, n, hV⟩ := flags_form X
      have HF := Lib.hid (fun w => flags_any X w hcx1)
      have HR := Lib.hid (fun w => rflags_any X w hcx1)
      rw [hV] at HF HR
      clear hV hcx1
      go_wp2_with (first | (go_at_call 22; (with_reducible refine (HF.out _).mono ?_); rintro e w4 ⟨rfl, hb4⟩; have HB6 := Lib.hid hb4; clear hb4) | (go_at_call 23; (with_reducible refine (HR.out _).mono ?_); rintro e w5 ⟨rfl, hb5⟩; have HB7 := Lib.hid (below_next HB6.out hb5); clear hb5))
      go_roundw
      case rel => exact ⟨k + 1, by omega, by go_num, below_next HB5.out HB7.out, HBO.out.trans (HB7.out.mono (by have := HBO.out.size; simp at this; omega))⟩
      case measure => simp [intOf]; omega
    · have ek : k = 3 := by omega
      subst ek
      clear hb1 hb2
      go_wp2_with (first | (go_at_call 24; (with_reducible refine (HPM.out _).mono ?_); rintro e w4 ⟨rfl, hb4⟩; have HB6 := Lib.hid (below_next HB5.out hb4); clear hb4) | (go_at_call 25; (with_reducible refine (HRM.out _).mono ?_); rintro e w5 ⟨rfl, hb5⟩; have HB7 := Lib.hid (below_next HB6.out hb5); clear hb5) | (go_at_call 24; (with_reducible refine (HPS.out _).mono ?_); rintro e w6 ⟨rfl, hb6⟩; have HB8 := Lib.hid (below_next HB7.out hb6); clear hb6) | (go_at_call 22; (with_reducible refine (HFS.out _).mono ?_); rintro e w7 ⟨rfl, hb7⟩; have HB9 := Lib.hid (below_next HB8.out hb7); clear hb7) | (go_at_call 9; (with_reducible refine (awake_any _).mono ?_); rintro e w8 ⟨rfl, hb8⟩; have HB10 := Lib.hid (below_next HB9.out hb8); clear hb8))
      go_ret
      exact ⟨by simp, HB10.out⟩
set_option maxRecDepth 100000 in
theorem flaglaw (c : ByteArray) (m : Int) (s f b : Nat) (w : World) (hs : s < 65536) (hf : f < 256) (hb : b < 65536) :
    Calls Try.prog 7 #[.string c, .int .i64 m, .int .u16 (s : Int), .int .u8 (f : Int), .int .u16 (b : Int)] w fun e w' => e = .returned (.bool true) ∧ Below w.heap.size w w' := by
  by_cases hc : 20 < c.size
  · have d : decide ((20 : Int) < (c.size : Int)) = true := by simp; omega
    clear hc
    go_enter Try.func7, Try.ntmps7
    go_wp2_with (go_at_call 9; (with_reducible refine (awake_any _).mono ?_); rintro e w1 ⟨rfl, hb1⟩; have HB1 := Lib.hid hb1; clear hb1)
    go_ret
    exact ⟨rfl, HB1.out⟩
  · exact flaglaw_core c m s f b (UInt8.ofNat (f % 9)) (UInt8.ofNat (b / 256)) (UInt8.ofNat (b % 256)) w hs hf hb (ofNat_toNat (by omega)) (ofNat_toNat (by omega)) (ofNat_toNat (by omega)) (by omega)
end Go.Proofs.Ytkamoenjbllhjaa
