/-
  All contracts of package host at one place.
  The contract of the law's function awake: the chapter's examples answer as written.
  The contracts of the law's functions pieces and dns: some text of at most so many bytes.
-/
import Derived.Test.YtoogfipmdkneoaaDoorJax
import Derived.Test.YtoogfipmdkneoaaDoorJai

namespace Go.Proofs.YtoogfipmdkneoaaDoor
open Go.RowKit

set_option maxRecDepth 100000 in
theorem aw_ex1 : dnsWithinB [77, 97, 105, 108, 46, 69, 120, 97, 109, 112, 108, 101, 46, 111, 114, 103] [101, 120, 97, 109, 112, 108, 101, 46, 111, 114, 103] = true := by decide +kernel
theorem aw_1 (w : World) : Calls Tryd.prog 26 #[.string ⟨#[77, 97, 105, 108, 46, 69, 120, 97, 109, 112, 108, 101, 46, 111, 114, 103]⟩, .string ⟨#[101, 120, 97, 109, 112, 108, 101, 46, 111, 114, 103]⟩] w fun e w' => e = .returned (.bool true) ∧ Below w.heap.size w w' := by
  have := pwithin_any [77, 97, 105, 108, 46, 69, 120, 97, 109, 112, 108, 101, 46, 111, 114, 103] [101, 120, 97, 109, 112, 108, 101, 46, 111, 114, 103] (by decide) (by decide) w
  rwa [aw_ex1] at this
set_option maxRecDepth 100000 in
theorem aw_ex2 : dnsWithinB [109, 121, 101, 120, 97, 109, 112, 108, 101, 46, 111, 114, 103] [101, 120, 97, 109, 112, 108, 101, 46, 111, 114, 103] = false := by decide +kernel
theorem aw_2 (w : World) : Calls Tryd.prog 26 #[.string ⟨#[109, 121, 101, 120, 97, 109, 112, 108, 101, 46, 111, 114, 103]⟩, .string ⟨#[101, 120, 97, 109, 112, 108, 101, 46, 111, 114, 103]⟩] w fun e w' => e = .returned (.bool false) ∧ Below w.heap.size w w' := by
  have := pwithin_any [109, 121, 101, 120, 97, 109, 112, 108, 101, 46, 111, 114, 103] [101, 120, 97, 109, 112, 108, 101, 46, 111, 114, 103] (by decide) (by decide) w
  rwa [aw_ex2] at this
set_option maxRecDepth 100000 in
theorem aw_ex3 : mailWithinB [97, 110, 110, 64, 101, 120, 97, 109, 112, 108, 101, 46, 111, 114, 103] [46, 101, 120, 97, 109, 112, 108, 101, 46, 111, 114, 103] = false := by decide +kernel
theorem aw_3 (w : World) (hm : Mx w) : Calls Tryd.prog 30 #[.string ⟨#[97, 110, 110, 64, 101, 120, 97, 109, 112, 108, 101, 46, 111, 114, 103]⟩, .string ⟨#[46, 101, 120, 97, 109, 112, 108, 101, 46, 111, 114, 103]⟩] w fun e w' => e = .returned (.bool false) ∧ Below w.heap.size w w' := by
  have := pmw_any [97, 110, 110, 64, 101, 120, 97, 109, 112, 108, 101, 46, 111, 114, 103] [46, 101, 120, 97, 109, 112, 108, 101, 46, 111, 114, 103] (by decide) (by decide) w hm
  rwa [aw_ex3] at this
set_option maxRecDepth 100000 in
theorem aw_ex4 : mailWithinB [97, 110, 110, 64, 101, 120, 97, 109, 112, 108, 101, 46, 111, 114, 103] [101, 120, 97, 109, 112, 108, 101, 46, 111, 114, 103] = true := by decide +kernel
theorem aw_4 (w : World) (hm : Mx w) : Calls Tryd.prog 30 #[.string ⟨#[97, 110, 110, 64, 101, 120, 97, 109, 112, 108, 101, 46, 111, 114, 103]⟩, .string ⟨#[101, 120, 97, 109, 112, 108, 101, 46, 111, 114, 103]⟩] w fun e w' => e = .returned (.bool true) ∧ Below w.heap.size w w' := by
  have := pmw_any [97, 110, 110, 64, 101, 120, 97, 109, 112, 108, 101, 46, 111, 114, 103] [101, 120, 97, 109, 112, 108, 101, 46, 111, 114, 103] (by decide) (by decide) w hm
  rwa [aw_ex4] at this

set_option maxRecDepth 100000 in
set_option maxHeartbeats 1000000 in
theorem hawake_any (w : World) (hm : Mx w) :
    Calls Tryd.prog 10 #[] w fun e w' => e = .returned (.bool true) ∧ Below w.heap.size w w' := by
  have HM := Lib.hid hm
  clear hm
  go_enter Tryd.func10, Tryd.ntmps10
  go_wp2_with (first
    | (go_at_call 26; (with_reducible refine (aw_1 _).mono ?_); rintro e w1 ⟨rfl, hb1⟩; have HB1 := Lib.hid hb1; clear hb1)
    | (go_at_call 26; (with_reducible refine (aw_2 _).mono ?_); rintro e w2 ⟨rfl, hb2⟩; have HB2 := Lib.hid (below_next HB1.out hb2); clear hb2)
    | (go_at_call 30; (with_reducible refine (aw_3 _ (HM.out.below HB2.out)).mono ?_); rintro e w3 ⟨rfl, hb3⟩; have HB3 := Lib.hid (below_next HB2.out hb3); clear hb3)
    | (go_at_call 30; (with_reducible refine (aw_4 _ (HM.out.below HB3.out)).mono ?_); rintro e w4 ⟨rfl, hb4⟩; have HB4 := Lib.hid (below_next HB3.out hb4); clear hb4))
  go_ret
  exact ⟨rfl, HB4.out⟩
end Go.Proofs.YtoogfipmdkneoaaDoor
namespace Go.Proofs.YtoogfipmdkneoaaDoor
open Go.RowKit

def hwords : List ByteArray := [⟨#[97]⟩, ⟨#[66]⟩, ⟨#[111, 114, 103]⟩, ⟨#[101, 120, 97, 109, 112, 108, 101]⟩, ⟨#[69, 88, 65, 77, 80, 76, 69]⟩, ⟨#[46]⟩, ⟨#[46]⟩, ⟨#[46]⟩, ⟨#[45]⟩, ⟨#[42]⟩, ⟨#[42, 46]⟩, ⟨#[64]⟩, ⟨#[64]⟩, ⟨#[97, 110, 110]⟩, ⟨#[97, 39, 98]⟩, ⟨#[123]⟩, ⟨#[48]⟩, ⟨#[120, 45, 121]⟩, ⟨#[46, 46]⟩, ⟨#[95]⟩, ⟨#[32]⟩, ⟨#[97, 98, 99, 100, 101, 102, 103, 104, 105, 106, 107, 108, 109, 110, 111, 112, 113, 114, 115, 116, 117, 118, 119, 120, 121, 122, 97, 98, 99, 100, 101, 102, 103, 104, 105, 106, 107, 108, 109, 110, 111, 112, 113, 114, 115, 116, 117, 118, 119, 120, 121, 122, 48, 49, 50, 51, 52, 53, 54, 55, 56, 57]⟩]
theorem hwords_size : ∀ k, k < 22 → (hwords.getD k ⟨#[]⟩).size ≤ 62 := by decide
def dwords : List ByteArray := [⟨#[97]⟩, ⟨#[98]⟩, ⟨#[65]⟩, ⟨#[111, 114, 103]⟩, ⟨#[120, 45, 121]⟩]
theorem dwords_size : ∀ k, k < 5 → (dwords.getD k ⟨#[]⟩).size ≤ 3 := by decide


set_option maxRecDepth 100000 in
set_option maxHeartbeats 2000000 in
theorem pieces_any (a0 : Option Addr) (l : List UInt8) (cap : Nat) (w : World) (hl : BLies w a0 l) (hlen : l.length ≤ 9223372036854775807) :
    Calls Tryd.prog 11 #[.slice a0 l.length cap] w fun e w' => ∃ s : List UInt8, e = .returned (.string (strOf s)) ∧ s.length ≤ 1488 ∧ Below w.heap.size w w' := by
  have HL := Lib.hid hl
  clear hl
  go_enter Tryd.func11, Tryd.ntmps11
  go_wp2_with fail
  go_loopw [3, 4] (fun u i wr => ∃ (k : Nat) (S : List UInt8), k ≤ 24 ∧ k ≤ l.length ∧ i = .int .i64 (k : Int) ∧ u = .string (strOf S) ∧ S.length ≤ 62 * k ∧ Below w.heap.size w wr) (fun _ i _ => 24 - (intOf i).toNat)
  case atStart => exact ⟨0, [], by omega, by omega, rfl, rfl, by simp, Below.refl _ _⟩
  case round =>
    obtain ⟨k, S, hk, hkl, rfl, rfl, hS, hb⟩ := hrel
    have HB := Lib.hid hb
    by_cases hlt : k < l.length ∧ k < 24
    · have g1 : decide ((k : Int) < (l.length : Int)) = true := by simp; omega
      have g2 : decide ((k : Int) < 24) = true := by simp; omega
      obtain ⟨h1, h2⟩ := hlt
      obtain ⟨b, off, rfl, hc⟩ := HL.out.resolve_left (fun e => by rw [e] at h1; simp at h1)
      have hcy : wr.cell? ⟨b, off + k, none⟩ = some (bcell l[k]) := by
        rw [← hc k h1]
        exact hb.cell (World.block_lt_of_cell? _ _ (hc k h1))
      rw [bcell] at hcy
      obtain ⟨x, hx⟩ : ∃ x, x = (l[k]).toNat := ⟨_, rfl⟩
      rw [← hx] at hcy
      have hx256 : x < 256 := by rw [hx]; exact (l[k]).toNat_lt
      obtain ⟨m, hm⟩ : ∃ m, m = x % 22 := ⟨_, rfl⟩
      have hmi : (x : Int) % 22 = (m : Int) := by omega
      have hmb : m < 22 := by omega
      have hcw : (wr.alloc (.cells #[.string ⟨#[97]⟩, .string ⟨#[66]⟩, .string ⟨#[111, 114, 103]⟩, .string ⟨#[101, 120, 97, 109, 112, 108, 101]⟩, .string ⟨#[69, 88, 65, 77, 80, 76, 69]⟩, .string ⟨#[46]⟩, .string ⟨#[46]⟩, .string ⟨#[46]⟩, .string ⟨#[45]⟩, .string ⟨#[42]⟩, .string ⟨#[42, 46]⟩, .string ⟨#[64]⟩, .string ⟨#[64]⟩, .string ⟨#[97, 110, 110]⟩, .string ⟨#[97, 39, 98]⟩, .string ⟨#[123]⟩, .string ⟨#[48]⟩, .string ⟨#[120, 45, 121]⟩, .string ⟨#[46, 46]⟩, .string ⟨#[95]⟩, .string ⟨#[32]⟩, .string ⟨#[97, 98, 99, 100, 101, 102, 103, 104, 105, 106, 107, 108, 109, 110, 111, 112, 113, 114, 115, 116, 117, 118, 119, 120, 121, 122, 97, 98, 99, 100, 101, 102, 103, 104, 105, 106, 107, 108, 109, 110, 111, 112, 113, 114, 115, 116, 117, 118, 119, 120, 121, 122, 48, 49, 50, 51, 52, 53, 54, 55, 56, 57]⟩] 9)).cell? ⟨wr.heap.size, m, none⟩ = some (.string (hwords.getD m ⟨#[]⟩)) := row_strs wr hwords m hmb
      have hcy2 : (wr.alloc (.cells #[.string ⟨#[97]⟩, .string ⟨#[66]⟩, .string ⟨#[111, 114, 103]⟩, .string ⟨#[101, 120, 97, 109, 112, 108, 101]⟩, .string ⟨#[69, 88, 65, 77, 80, 76, 69]⟩, .string ⟨#[46]⟩, .string ⟨#[46]⟩, .string ⟨#[46]⟩, .string ⟨#[45]⟩, .string ⟨#[42]⟩, .string ⟨#[42, 46]⟩, .string ⟨#[64]⟩, .string ⟨#[64]⟩, .string ⟨#[97, 110, 110]⟩, .string ⟨#[97, 39, 98]⟩, .string ⟨#[123]⟩, .string ⟨#[48]⟩, .string ⟨#[120, 45, 121]⟩, .string ⟨#[46, 46]⟩, .string ⟨#[95]⟩, .string ⟨#[32]⟩, .string ⟨#[97, 98, 99, 100, 101, 102, 103, 104, 105, 106, 107, 108, 109, 110, 111, 112, 113, 114, 115, 116, 117, 118, 119, 120, 121, 122, 97, 98, 99, 100, 101, 102, 103, 104, 105, 106, 107, 108, 109, 110, 111, 112, 113, 114, 115, 116, 117, 118, 119, 120, 121, 122, 48, 49, 50, 51, 52, 53, 54, 55, 56, 57]⟩] 9)).cell? ⟨b, off + k, none⟩ = some (.int .u8 ((x : Nat) : Int)) := by
        rw [(belowNew wr _).cell (World.block_lt_of_cell? _ _ hcy)]; exact hcy
      have hws := hwords_size m hmb
      generalize hwords.getD m ⟨#[]⟩ = X at hcw hws
      obtain ⟨c, rfl⟩ : ∃ c, X = strOf c := ⟨_, strOf_of rfl⟩
      rw [strOf_size] at hws
      have HBA := Lib.hid (show Below w.heap.size w (wr.alloc (.cells #[.string ⟨#[97]⟩, .string ⟨#[66]⟩, .string ⟨#[111, 114, 103]⟩, .string ⟨#[101, 120, 97, 109, 112, 108, 101]⟩, .string ⟨#[69, 88, 65, 77, 80, 76, 69]⟩, .string ⟨#[46]⟩, .string ⟨#[46]⟩, .string ⟨#[46]⟩, .string ⟨#[45]⟩, .string ⟨#[42]⟩, .string ⟨#[42, 46]⟩, .string ⟨#[64]⟩, .string ⟨#[64]⟩, .string ⟨#[97, 110, 110]⟩, .string ⟨#[97, 39, 98]⟩, .string ⟨#[123]⟩, .string ⟨#[48]⟩, .string ⟨#[120, 45, 121]⟩, .string ⟨#[46, 46]⟩, .string ⟨#[95]⟩, .string ⟨#[32]⟩, .string ⟨#[97, 98, 99, 100, 101, 102, 103, 104, 105, 106, 107, 108, 109, 110, 111, 112, 113, 114, 115, 116, 117, 118, 119, 120, 121, 122, 97, 98, 99, 100, 101, 102, 103, 104, 105, 106, 107, 108, 109, 110, 111, 112, 113, 114, 115, 116, 117, 118, 119, 120, 121, 122, 48, 49, 50, 51, 52, 53, 54, 55, 56, 57]⟩] 9)) from HB.out.alloc HB.out.size _)
      have hcat : ∀ w, (Op.stringOp .add (strOf S) (strOf c)).run Tryd.prog w = .ok (.string (strOf (S ++ c))) w := fun w => by
        have := cat_any (strOf S) (strOf c) (by rw [strOf_size, strOf_size]; omega) w
        rwa [str_cat] at this
      have HSX := Lib.hid (show (S ++ c).length ≤ 62 * (k + 1) by rw [List.length_append]; omega)
      clear hx hm hb hws hc
      go_wp2_with fail
      go_roundw
      case rel => exact ⟨k + 1, S ++ c, by omega, by omega, by go_num, rfl, HSX.out, HBA.out⟩
      case measure => simp [intOf]; omega
    · have hor : decide ((k : Int) < (l.length : Int)) = false ∧ ¬ k < l.length ∨ decide ((k : Int) < (l.length : Int)) = true ∧ k < l.length ∧ decide ((k : Int) < 24) = false := by
        by_cases h : k < l.length
        · right; exact ⟨by simp; omega, h, by simp; omega⟩
        · left; exact ⟨by simp; omega, h⟩
      have HS := Lib.hid (show S.length ≤ 1488 by omega)
      clear hlt hk hkl hS hb
      rcases hor with ⟨g1, g3⟩ | ⟨g1, g3, g2⟩
      all_goals
        go_wp2_with fail
        go_ret
        exact ⟨S, rfl, HS.out, HB.out⟩

set_option maxRecDepth 100000 in
set_option maxHeartbeats 2000000 in
theorem dns_any (a0 : Option Addr) (l : List UInt8) (cap : Nat) (w : World) (hl : BLies w a0 l) (hlen : l.length ≤ 9223372036854775807) :
    Calls Tryd.prog 12 #[.slice a0 l.length cap] w fun e w' => ∃ s : List UInt8, e = .returned (.string (strOf s)) ∧ s.length ≤ 16 ∧ Below w.heap.size w w' := by
  have HL := Lib.hid hl
  clear hl
  go_enter Tryd.func12, Tryd.ntmps12
  go_wp2_with fail
  go_loopw [3, 4] (fun u i wr => ∃ (k : Nat) (S : List UInt8), k ≤ 4 ∧ k ≤ l.length ∧ i = .int .i64 (k : Int) ∧ u = .string (strOf S) ∧ S.length ≤ 4 * k ∧ Below w.heap.size w wr) (fun _ i _ => 4 - (intOf i).toNat)
  case atStart => exact ⟨0, [], by omega, by omega, rfl, rfl, by simp, Below.refl _ _⟩
  case round =>
    obtain ⟨k, S, hk, hkl, rfl, rfl, hS, hb⟩ := hrel
    have HB := Lib.hid hb
    by_cases hlt : k < l.length ∧ k < 4
    · have g1 : decide ((k : Int) < (l.length : Int)) = true := by simp; omega
      have g2 : decide ((k : Int) < 4) = true := by simp; omega
      obtain ⟨h1, h2⟩ := hlt
      obtain ⟨b, off, rfl, hc⟩ := HL.out.resolve_left (fun e => by rw [e] at h1; simp at h1)
      have hcy : wr.cell? ⟨b, off + k, none⟩ = some (bcell l[k]) := by
        rw [← hc k h1]
        exact hb.cell (World.block_lt_of_cell? _ _ (hc k h1))
      rw [bcell] at hcy
      obtain ⟨x, hx⟩ : ∃ x, x = (l[k]).toNat := ⟨_, rfl⟩
      rw [← hx] at hcy
      have hx256 : x < 256 := by rw [hx]; exact (l[k]).toNat_lt
      obtain ⟨m, hm⟩ : ∃ m, m = x % 5 := ⟨_, rfl⟩
      have hmi : (x : Int) % 5 = (m : Int) := by omega
      have hmb : m < 5 := by omega
      have hcw : (wr.alloc (.cells #[.string ⟨#[97]⟩, .string ⟨#[98]⟩, .string ⟨#[65]⟩, .string ⟨#[111, 114, 103]⟩, .string ⟨#[120, 45, 121]⟩] 9)).cell? ⟨wr.heap.size, m, none⟩ = some (.string (dwords.getD m ⟨#[]⟩)) := row_strs wr dwords m hmb
      have hcy2 : (wr.alloc (.cells #[.string ⟨#[97]⟩, .string ⟨#[98]⟩, .string ⟨#[65]⟩, .string ⟨#[111, 114, 103]⟩, .string ⟨#[120, 45, 121]⟩] 9)).cell? ⟨b, off + k, none⟩ = some (.int .u8 ((x : Nat) : Int)) := by
        rw [(belowNew wr _).cell (World.block_lt_of_cell? _ _ hcy)]; exact hcy
      have hws := dwords_size m hmb
      generalize dwords.getD m ⟨#[]⟩ = X at hcw hws
      obtain ⟨c, rfl⟩ : ∃ c, X = strOf c := ⟨_, strOf_of rfl⟩
      rw [strOf_size] at hws
      have HBA := Lib.hid (show Below w.heap.size w (wr.alloc (.cells #[.string ⟨#[97]⟩, .string ⟨#[98]⟩, .string ⟨#[65]⟩, .string ⟨#[111, 114, 103]⟩, .string ⟨#[120, 45, 121]⟩] 9)) from HB.out.alloc HB.out.size _)
      by_cases h0 : S = []
      · obtain ⟨f1, f2⟩ := empty_is h0
        have HSX := Lib.hid (show c.length ≤ 4 * (k + 1) by omega)
        clear hx hm hb hws hc h0
        go_wp2_with fail
        go_roundw
        case rel => exact ⟨k + 1, c, by omega, by omega, by go_num, rfl, HSX.out, HBA.out⟩
        case measure => simp [intOf]; omega
      · obtain ⟨f1, f2⟩ := empty_not h0
        have hcat : ∀ w, (Op.stringOp .add (strOf c) ⟨#[46]⟩).run Tryd.prog w = .ok (.string (strOf (c ++ [46]))) w := fun w => by
          have := cat_any (strOf c) (strOf [46]) (by rw [strOf_size, strOf_size]; simp; omega) w
          rwa [str_cat] at this
        have hcat2 : ∀ w, (Op.stringOp .add (strOf (c ++ [46])) (strOf S)).run Tryd.prog w = .ok (.string (strOf ((c ++ [46]) ++ S))) w := fun w => by
          have := cat_any (strOf (c ++ [46])) (strOf S) (by rw [strOf_size, strOf_size]; simp; omega) w
          rwa [str_cat] at this
        have HSX := Lib.hid (show ((c ++ [46]) ++ S).length ≤ 4 * (k + 1) by rw [List.length_append, List.length_append]; simp; omega)
        clear hx hm hb hws hc h0
        generalize (c ++ [46]) ++ S = R at hcat2 HSX
        generalize c ++ [46] = Q at hcat hcat2
        go_wp2_with fail
        go_roundw
        case rel => exact ⟨k + 1, R, by omega, by omega, by go_num, rfl, HSX.out, HBA.out⟩
        case measure => simp [intOf]; omega
    · have hor : decide ((k : Int) < (l.length : Int)) = false ∧ ¬ k < l.length ∨ decide ((k : Int) < (l.length : Int)) = true ∧ k < l.length ∧ decide ((k : Int) < 4) = false := by
        by_cases h : k < l.length
        · right; exact ⟨by simp; omega, h, by simp; omega⟩
        · left; exact ⟨by simp; omega, h⟩
      have HS := Lib.hid (show S.length ≤ 16 by omega)
      clear hlt hk hkl hS hb
      rcases hor with ⟨g1, g3⟩ | ⟨g1, g3, g2⟩
      all_goals
        go_wp2_with fail
        go_ret
        exact ⟨S, rfl, HS.out, HB.out⟩

end Go.Proofs.YtoogfipmdkneoaaDoor
