/-
  The contract of the law's function pieces: some text of at most 330 bytes.
-/
import Derived.Test.YtapokiplmcfmoaaDoorOid
namespace Go.Proofs.YtapokiplmcfmoaaDoor
open Go.RowKit

/-- The bytes l can be read from the address a on. -/
def BLies (w : World) (a : Option Addr) (l : List UInt8) : Prop := l = [] ∨ ∃ b o, a = some ⟨b, o, none⟩ ∧ ∀ i (h : i < l.length), w.cell? ⟨b, o + i, none⟩ = some (bcell l[i])
theorem BLies.below {w w' : World} {a : Option Addr} {l : List UInt8} (h : BLies w a l) (hb : Below w.heap.size w w') : BLies w' a l := by
  rcases h with h | ⟨b, off, h1, h2⟩
  · exact .inl h
  · refine .inr ⟨b, off, h1, fun i hi => ?_⟩
    rw [← h2 i hi]
    exact hb.cell (World.block_lt_of_cell? _ _ (h2 i hi))
theorem row_strs (W : World) (l : List ByteArray) (k : Nat) (hk : k < l.length) : (W.alloc (.cells (l.map Value.string).toArray 9)).cell? ⟨W.heap.size, k, none⟩ = some (.string (l.getD k ⟨#[]⟩)) := by
  rw [cell_of_row _ _ k _ _ _ (heap_alloc_new W _)]
  simp [hk]
def words : List ByteArray := [⟨#[48]⟩, ⟨#[49]⟩, ⟨#[50]⟩, ⟨#[51, 57]⟩, ⟨#[52, 48]⟩, ⟨#[49, 50, 55]⟩, ⟨#[49, 50, 56]⟩, ⟨#[50, 49, 52, 55, 52, 56, 51, 54, 52, 55]⟩, ⟨#[50, 49, 52, 55, 52, 56, 51, 54, 52, 56]⟩, ⟨#[57, 57, 57, 57, 57, 57, 57, 57, 57, 57, 57]⟩, ⟨#[48, 48, 55]⟩, ⟨#[46]⟩, ⟨#[46]⟩, ⟨#[46]⟩, ⟨#[46]⟩, ⟨#[46, 53, 46]⟩, ⟨#[45]⟩, ⟨#[97]⟩, ⟨#[32]⟩]
theorem words_size : ∀ k, k < 19 → (words.getD k ⟨#[]⟩).size ≤ 11 := by decide

set_option maxRecDepth 100000 in
set_option maxHeartbeats 1000000 in
theorem pieces_any (a0 : Option Addr) (l : List UInt8) (cap : Nat) (w : World) (hl : BLies w a0 l) (hlen : l.length ≤ 9223372036854775807) :
    Calls Tryd.prog 9 #[.slice a0 l.length cap] w fun e w' => ∃ s : ByteArray, e = .returned (.string s) ∧ s.size ≤ 330 ∧ Below w.heap.size w w' := by
  have HL := Lib.hid hl
  clear hl
  go_enter Tryd.func9, Tryd.ntmps9
  go_wp2_with fail
  go_loopw [3, 4] (fun u i wr => ∃ (k : Nat) (S : ByteArray), k ≤ 30 ∧ k ≤ l.length ∧ i = .int .i64 (k : Int) ∧ u = .string S ∧ S.size ≤ 11 * k ∧ Below w.heap.size w wr) (fun _ i _ => 30 - (intOf i).toNat)
  case atStart => exact ⟨0, ⟨#[]⟩, by omega, by omega, rfl, rfl, by decide, Below.refl _ _⟩
  case round =>
    obtain ⟨k, S, hk, hkl, rfl, rfl, hS, hb⟩ := hrel
    have HB := Lib.hid hb
    by_cases hlt : k < l.length ∧ k < 30
    · have g1 : decide ((k : Int) < (l.length : Int)) = true := by simp; omega
      have g2 : decide ((k : Int) < 30) = true := by simp; omega
      obtain ⟨h1, h2⟩ := hlt
      obtain ⟨b, off, rfl, hc⟩ := HL.out.resolve_left (fun e => by rw [e] at h1; simp at h1)
      have hcy : wr.cell? ⟨b, off + k, none⟩ = some (bcell l[k]) := by
        rw [← hc k h1]
        exact hb.cell (World.block_lt_of_cell? _ _ (hc k h1))
      rw [bcell] at hcy
      obtain ⟨x, hx⟩ : ∃ x, x = (l[k]).toNat := ⟨_, rfl⟩
      rw [← hx] at hcy
      have hx256 : x < 256 := by rw [hx]; exact (l[k]).toNat_lt
      obtain ⟨m, hm⟩ : ∃ m, m = x % 19 := ⟨_, rfl⟩
      have hmi : (x : Int) % 19 = (m : Int) := by omega
      have hm19 : m < 19 := by omega
      have hcw : (wr.alloc (.cells #[.string ⟨#[48]⟩, .string ⟨#[49]⟩, .string ⟨#[50]⟩, .string ⟨#[51, 57]⟩, .string ⟨#[52, 48]⟩, .string ⟨#[49, 50, 55]⟩, .string ⟨#[49, 50, 56]⟩, .string ⟨#[50, 49, 52, 55, 52, 56, 51, 54, 52, 55]⟩, .string ⟨#[50, 49, 52, 55, 52, 56, 51, 54, 52, 56]⟩, .string ⟨#[57, 57, 57, 57, 57, 57, 57, 57, 57, 57, 57]⟩, .string ⟨#[48, 48, 55]⟩, .string ⟨#[46]⟩, .string ⟨#[46]⟩, .string ⟨#[46]⟩, .string ⟨#[46]⟩, .string ⟨#[46, 53, 46]⟩, .string ⟨#[45]⟩, .string ⟨#[97]⟩, .string ⟨#[32]⟩] 9)).cell? ⟨wr.heap.size, m, none⟩ = some (.string (words.getD m ⟨#[]⟩)) := row_strs wr words m hm19
      have hcy2 : (wr.alloc (.cells #[.string ⟨#[48]⟩, .string ⟨#[49]⟩, .string ⟨#[50]⟩, .string ⟨#[51, 57]⟩, .string ⟨#[52, 48]⟩, .string ⟨#[49, 50, 55]⟩, .string ⟨#[49, 50, 56]⟩, .string ⟨#[50, 49, 52, 55, 52, 56, 51, 54, 52, 55]⟩, .string ⟨#[50, 49, 52, 55, 52, 56, 51, 54, 52, 56]⟩, .string ⟨#[57, 57, 57, 57, 57, 57, 57, 57, 57, 57, 57]⟩, .string ⟨#[48, 48, 55]⟩, .string ⟨#[46]⟩, .string ⟨#[46]⟩, .string ⟨#[46]⟩, .string ⟨#[46]⟩, .string ⟨#[46, 53, 46]⟩, .string ⟨#[45]⟩, .string ⟨#[97]⟩, .string ⟨#[32]⟩] 9)).cell? ⟨b, off + k, none⟩ = some (.int .u8 (x : Int)) := by
        rw [(belowNew wr _).cell (World.block_lt_of_cell? _ _ hcy)]; exact hcy
      have hws := words_size m hm19
      generalize words.getD m ⟨#[]⟩ = X at hcw hws
      have hcat : ∀ w, (Op.stringOp .add S X).run Tryd.prog w = .ok (.string (S ++ X)) w := fun w => run_string_add_sum w S X (by omega)
      have HSX := Lib.hid (show (S ++ X).size ≤ 11 * (k + 1) by rw [ByteArray.size_append]; omega)
      have HBA := Lib.hid (show Below w.heap.size w (wr.alloc (.cells #[.string ⟨#[48]⟩, .string ⟨#[49]⟩, .string ⟨#[50]⟩, .string ⟨#[51, 57]⟩, .string ⟨#[52, 48]⟩, .string ⟨#[49, 50, 55]⟩, .string ⟨#[49, 50, 56]⟩, .string ⟨#[50, 49, 52, 55, 52, 56, 51, 54, 52, 55]⟩, .string ⟨#[50, 49, 52, 55, 52, 56, 51, 54, 52, 56]⟩, .string ⟨#[57, 57, 57, 57, 57, 57, 57, 57, 57, 57, 57]⟩, .string ⟨#[48, 48, 55]⟩, .string ⟨#[46]⟩, .string ⟨#[46]⟩, .string ⟨#[46]⟩, .string ⟨#[46]⟩, .string ⟨#[46, 53, 46]⟩, .string ⟨#[45]⟩, .string ⟨#[97]⟩, .string ⟨#[32]⟩] 9)) from hb.alloc hb.size _)
      clear hx hm hb hws hc
      go_wp2_with fail
      go_roundw
      case rel => exact ⟨k + 1, S ++ X, by omega, by omega, by go_num, rfl, HSX.out, HBA.out⟩
      case measure => simp [intOf]; omega
    · have hor : decide ((k : Int) < (l.length : Int)) = false ∧ ¬ k < l.length ∨ decide ((k : Int) < (l.length : Int)) = true ∧ k < l.length ∧ decide ((k : Int) < 30) = false := by
        by_cases h : k < l.length
        · right; exact ⟨by simp; omega, h, by simp; omega⟩
        · left; exact ⟨by simp; omega, h⟩
      have HS := Lib.hid (show S.size ≤ 330 by omega)
      clear hlt hk hkl hS hb
      rcases hor with ⟨g1, g3⟩ | ⟨g1, g3, g2⟩
      all_goals
        go_wp2_with fail
        go_ret
        exact ⟨S, rfl, HS.out, HB.out⟩
end Go.Proofs.YtapokiplmcfmoaaDoor
