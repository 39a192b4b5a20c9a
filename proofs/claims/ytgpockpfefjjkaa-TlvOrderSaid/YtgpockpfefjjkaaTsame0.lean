/-
  The contract of sameElements of certpathlaw02, of two slices that hold the same elements.
-/
import Derived.Test.YtgpockpfefjjkaaTcheck
namespace Go.Proofs.Ytgpockpfefjjkaa
open Go.RowKit

theorem own_base {w : World} {B : Nat} {v : Value} {l : List El} (h : OwnE w B v l) : OwnE w 0 v l := by
  refine ⟨h.1, ?_⟩
  rcases h.2 with h0 | ⟨g, cap, cur, hv, _, r⟩
  · exact .inl h0
  · exact .inr ⟨g, cap, cur, hv, Nat.zero_le _, r⟩
theorem els_cell {w : World} {g : Nat} {B cap : Nat} {l : List El} (h : OwnE w B (.slice (some ⟨g, 0, none⟩) l.length cap) l) (i : Nat) (hi : i < l.length) (j : Nat) (hj : j < 3) :
    w.cell? ⟨g, i * 3 + j, none⟩ = (elCells l[i])[j]? := by
  rw [World.ownsRow.cellAt h (i * 3 + j) (by omega)]
  clear h
  induction l generalizing i with
  | nil => exact absurd hi (Nat.not_lt_zero _)
  | cons e r ih =>
    have e0 : elsCells (e :: r) = elCells e ++ elsCells r := rfl
    have el : (elCells e).length = 3 := rfl
    rw [e0]
    cases i with
    | zero => rw [List.getElem?_append_left (by omega)]; simp
    | succ i =>
      rw [List.getElem?_append_right (by omega), el, show (i + 1) * 3 + j - 3 = i * 3 + j by omega, ih i (by simpa using hi)]
      rfl

set_option maxRecDepth 100000 in
set_option maxHeartbeats 1000000 in
theorem same_some (g1 c1 g2 c2 B : Nat) (l : List El) (w : World) (h1 : OwnE w B (.slice (some ⟨g1, 0, none⟩) l.length c1) l) (h2 : OwnE w B (.slice (some ⟨g2, 0, none⟩) l.length c2) l) (hL : l.length ≤ 1099511627776) :
    Calls Try.prog 30 #[.slice (some ⟨g1, 0, none⟩) l.length c1, .slice (some ⟨g2, 0, none⟩) l.length c2] w fun e w' => e = .returned (.bool true) ∧ Below w.heap.size w w' := by
  have H1 := Lib.hid h1
  have H2 := Lib.hid h2
  have HG1 := Lib.hid (World.ownsRow.lt h1 g1 rfl).2
  have HG2 := Lib.hid (World.ownsRow.lt h2 g2 rfl).2
  clear h1 h2
  go_enter Try.func30, Try.ntmps30
  go_wp2_with fail
  go_loopw [13] (fun i wr => ∃ k : Nat, k ≤ l.length ∧ i = .int .i64 k ∧ Below w.heap.size w wr) (fun i _ => l.length - (intOf i).toNat)
  case atStart => exact ⟨0, Nat.zero_le _, rfl, Below.refl _ _⟩
  case round =>
    obtain ⟨k, hk, rfl, hb⟩ := hrel
    have HB := Lib.hid hb
    clear hb
    by_cases hlt : k < l.length
    · have hd : decide ((k : Int) < (l.length : Int)) = true := by simp; omega
      obtain ⟨t, c, r, he⟩ : ∃ t c r, elCells l[k] = [.int .i64 ((t : Nat) : Int), .string c, .string r] := ⟨_, _, _, rfl⟩
      have E1 : ∀ j, j < 3 → wr.cell? ⟨g1, k * 3 + j, none⟩ = (elCells l[k])[j]? := fun j hj => by
        rw [HB.out.cell (p := ⟨g1, k * 3 + j, none⟩) HG1.out]; exact els_cell H1.out k hlt j hj
      have E2 : ∀ j, j < 3 → wr.cell? ⟨g2, k * 3 + j, none⟩ = (elCells l[k])[j]? := fun j hj => by
        rw [HB.out.cell (p := ⟨g2, k * 3 + j, none⟩) HG2.out]; exact els_cell H2.out k hlt j hj
      rw [he] at E1 E2
      have a0 : wr.cell? ⟨g1, k * 3, none⟩ = some (.int .i64 ((t : Nat) : Int)) := E1 0 (by omega)
      have a1 : wr.cell? ⟨g1, k * 3 + 1, none⟩ = some (.string c) := E1 1 (by omega)
      have a2 : wr.cell? ⟨g1, k * 3 + 2, none⟩ = some (.string r) := E1 2 (by omega)
      have b0 : wr.cell? ⟨g2, k * 3, none⟩ = some (.int .i64 ((t : Nat) : Int)) := E2 0 (by omega)
      have b1 : wr.cell? ⟨g2, k * 3 + 1, none⟩ = some (.string c) := E2 1 (by omega)
      have b2 : wr.cell? ⟨g2, k * 3 + 2, none⟩ = some (.string r) := E2 2 (by omega)
      clear E1 E2 he
      go_wp2_with fail
      go_region
      go_wp2_with fail
      go_roundw
      case rel => exact ⟨k + 1, by omega, by go_num, HB.out.drew⟩
      case measure => simp [intOf]; omega
    · have hd : decide ((k : Int) < (l.length : Int)) = false := by simp; omega
      go_wp2_with fail
      go_ret
      exact ⟨rfl, HB.out⟩

set_option maxRecDepth 100000 in
theorem same_empty (a1 a2 : Option Addr) (c1 c2 : Nat) (w : World) :
    Calls Try.prog 30 #[.slice a1 0 c1, .slice a2 0 c2] w fun e w' => e = .returned (.bool true) ∧ w' = w := by
  go_enter Try.func30, Try.ntmps30
  go_wp2_with fail
  go_loopw [13] (fun i wr => i = .int .i64 0 ∧ wr = w) (fun _ _ => 0)
  case atStart => exact ⟨rfl, rfl⟩
  case round =>
    obtain ⟨rfl, rfl⟩ := hrel
    go_wp2_with fail
    go_ret
    exact ⟨rfl, rfl⟩
theorem same_any (B1 B2 : Nat) (v1 v2 : Value) (l : List El) (w : World) (h1 : OwnE w B1 v1 l) (h2 : OwnE w B2 v2 l) (hL : l.length ≤ 1099511627776) :
    Calls Try.prog 30 #[v1, v2] w fun e w' => e = .returned (.bool true) ∧ Below w.heap.size w w' := by
  by_cases h0 : l.length = 0
  · have hs : ∀ {B v}, OwnE w B v l → ∃ a c, v = .slice a 0 c := fun {B v} h => by
      rcases h.2 with ⟨hv, _⟩ | ⟨g, cap, cur, hv, _⟩
      · exact ⟨_, _, hv⟩
      · exact ⟨_, _, by rw [hv, h0]⟩
    obtain ⟨a1, c1, rfl⟩ := hs h1
    obtain ⟨a2, c2, rfl⟩ := hs h2
    exact (same_empty a1 a2 c1 c2 w).mono fun e w' h => ⟨h.1, by rw [h.2]; exact Below.refl _ _⟩
  · have hs : ∀ {B v}, OwnE w B v l → ∃ g c, v = .slice (some ⟨g, 0, none⟩) l.length c := fun {B v} h => by
      rcases h.2 with ⟨_, h⟩ | ⟨g, cap, cur, hv, _⟩
      · exact absurd h h0
      · exact ⟨_, _, hv⟩
    obtain ⟨g1, c1, rfl⟩ := hs h1
    obtain ⟨g2, c2, rfl⟩ := hs h2
    exact same_some g1 c1 g2 c2 0 l w (own_base h1) (own_base h2) hL
end Go.Proofs.Ytgpockpfefjjkaa
