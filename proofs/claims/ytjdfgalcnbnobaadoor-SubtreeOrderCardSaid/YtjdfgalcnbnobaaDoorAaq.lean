/-
  The table of the kinds of general names, and the contracts of kindOf and taggedKind.
  What the laws over gname want of the program's functions, each said as a proposition; and that the law's awake then returns true.
  The contract of the laws' spelled: a name in another spelling, which matches the one handed in; of the memory that was there only the deck's block has changed.
-/
import Derived.Test.YtjdfgalcnbnobaaDoorAao
import Derived.Test.YtjdfgalcnbnobaaDoorAap
import Derived.Test.YtjdfgalcnbnobaaDoorAad
import Derived.Test.YtjdfgalcnbnobaaDoorAam
import Derived.Test.YtjdfgalcnbnobaaDoorAac
import Derived.Laws.AppendOwnNone
namespace Go.Proofs.YtjdfgalcnbnobaaDoor
open Go.RowKit

def kdN (k : Nat) : Int := [1, 2, 4, 7].getD k 0
def kdG (k : Nat) : Int := [129, 130, 164, 135].getD k 0
def kdW (k : Nat) : ByteArray := [⟨#[109, 97, 105, 108, 58]⟩, ⟨#[100, 110, 115, 58]⟩, ⟨#[100, 105, 114, 58]⟩, ⟨#[105, 112, 58]⟩].getD k ⟨#[]⟩
def kdArr : Array Value := #[.int .i64 1, .int .i64 129, .string ⟨#[109, 97, 105, 108, 58]⟩, .int .i64 2, .int .i64 130, .string ⟨#[100, 110, 115, 58]⟩, .int .i64 4, .int .i64 164, .string ⟨#[100, 105, 114, 58]⟩, .int .i64 7, .int .i64 135, .string ⟨#[105, 112, 58]⟩]
/-- The place of a kind in the table; 4 for none. -/
def kdOf (K : Int) : Nat := if K = 1 then 0 else if K = 2 then 1 else if K = 4 then 2 else if K = 7 then 3 else 4
/-- The table lies as the program's text lays it. -/
def KdT (w : World) : Prop := ∀ j, j < 12 → w.cell? ⟨0, j, none⟩ = kdArr[j]?
theorem KdT.lt {w : World} (h : KdT w) : 0 < w.heap.size := block_lt ((h 0 (by omega)).trans rfl)
theorem KdT.below {w w' : World} (h : KdT w) (hb : Below w.heap.size w w') : KdT w' := fun j hj => (hb.cell (p := ⟨0, j, none⟩) h.lt).trans (h j hj)
/-- What the functions of package gname read besides what they are handed. -/
def Mk (w : World) : Prop := Mx w ∧ KdT w
theorem Mk.below {w w' : World} (h : Mk w) (hb : Below w.heap.size w w') : Mk w' := ⟨h.1.below hb, h.2.below hb⟩
theorem KdT.cells {w : World} (h : KdT w) :
    w.cell? ⟨0, 0, none⟩ = some (.int .i64 1) ∧ w.cell? ⟨0, 1, none⟩ = some (.int .i64 129) ∧ w.cell? ⟨0, 2, none⟩ = some (.string ⟨#[109, 97, 105, 108, 58]⟩) ∧
    w.cell? ⟨0, 3, none⟩ = some (.int .i64 2) ∧ w.cell? ⟨0, 4, none⟩ = some (.int .i64 130) ∧ w.cell? ⟨0, 5, none⟩ = some (.string ⟨#[100, 110, 115, 58]⟩) ∧
    w.cell? ⟨0, 6, none⟩ = some (.int .i64 4) ∧ w.cell? ⟨0, 7, none⟩ = some (.int .i64 164) ∧ w.cell? ⟨0, 8, none⟩ = some (.string ⟨#[100, 105, 114, 58]⟩) ∧
    w.cell? ⟨0, 9, none⟩ = some (.int .i64 7) ∧ w.cell? ⟨0, 10, none⟩ = some (.int .i64 135) ∧ w.cell? ⟨0, 11, none⟩ = some (.string ⟨#[105, 112, 58]⟩) :=
  ⟨h 0 (by omega), h 1 (by omega), h 2 (by omega), h 3 (by omega), h 4 (by omega), h 5 (by omega), h 6 (by omega), h 7 (by omega), h 8 (by omega), h 9 (by omega), h 10 (by omega), h 11 (by omega)⟩
theorem index_kd (k : Nat) (hk : k < 4) (w : World) : (Instr.index 70 (.agg #[.int .i64 1, .int .i64 129, .string ⟨#[109, 97, 105, 108, 58]⟩, .int .i64 2, .int .i64 130, .string ⟨#[100, 110, 115, 58]⟩, .int .i64 4, .int .i64 164, .string ⟨#[100, 105, 114, 58]⟩, .int .i64 7, .int .i64 135, .string ⟨#[105, 112, 58]⟩]) (.int .i64 (k : Int))).run Tryd.prog w = .ok (.agg #[.int .i64 (kdN k), .int .i64 (kdG k), .string (kdW k)]) w := by
  rcases (by omega : k = 0 ∨ k = 1 ∨ k = 2 ∨ k = 3) with rfl | rfl | rfl | rfl <;> kernel_rfl
theorem kd_hit {K : Int} (k : Nat) (hk : k < 4) (h2 : kdN k = K) : kdOf K = k := by
  subst h2
  rcases (by omega : k = 0 ∨ k = 1 ∨ k = 2 ∨ k = 3) with rfl | rfl | rfl | rfl <;> decide
theorem kd_miss {K : Int} (h : ∀ j, j < 4 → kdN j ≠ K) : kdOf K = 4 := by
  unfold kdOf
  rw [if_neg (fun e => h 0 (by omega) e.symm), if_neg (fun e => h 1 (by omega) e.symm), if_neg (fun e => h 2 (by omega) e.symm), if_neg (fun e => h 3 (by omega) e.symm)]
theorem kdOf_no {K : Int} (h : K ≠ 1 ∧ K ≠ 2 ∧ K ≠ 4 ∧ K ≠ 7) : kdOf K = 4 := by
  unfold kdOf
  rw [if_neg h.1, if_neg h.2.1, if_neg h.2.2.1, if_neg h.2.2.2]

set_option maxRecDepth 100000 in
set_option maxHeartbeats 4000000 in
theorem gkind_any (K : Int) (s : ByteArray) (a : Option Addr) (m c : Nat) (w : World) (h : KdT w) :
    Calls Tryd.prog 29 #[.agg #[.int .i64 K, .string s, .slice a m c]] w fun e w' => e = .returned (.int .i64 ((kdOf K : Nat) : Int)) ∧ Below w.heap.size w w' := by
  obtain ⟨W0, hW0⟩ : ∃ W0, W0 = w.alloc (.cells #[.int .i64 K, .string s, .slice a m c] 38) := ⟨_, rfl⟩
  have hwr : w.alloc (.cells #[.int .i64 K, .string s, .slice a m c] 38) = W0 := hW0.symm
  have hb0 : Below w.heap.size w W0 := by rw [hW0]; exact belowNew w _
  have hq0 : W0.heap[w.heap.size]? = some (.cells #[.int .i64 K, .string s, .slice a m c] 38 (0, 0)) := by rw [hW0]; exact heap_alloc_new w _
  obtain ⟨c0, c1, c2, c3, c4, c5, c6, c7, c8, c9, c10, c11⟩ := (h.below hb0).cells
  have HB0 := Lib.hid hb0
  have HQ0 := Lib.hid hq0
  obtain ⟨Z, hZ⟩ : ∃ Z, Z = kdOf K := ⟨_, rfl⟩
  have HZ := Lib.hid hZ
  rw [← hZ]
  clear h hZ hW0 hb0 hq0
  go_enter Tryd.func29, Tryd.ntmps29
  go_wp2_with fail
  clear c0 c1 c2 c3 c4 c5 c6 c7 c8 c9 c10 c11
  go_loopw [6] (fun i wr => ∃ k : Nat, k ≤ 4 ∧ i = .int .i64 k ∧ (∀ j, j < k → kdN j ≠ K) ∧ wr.heap[w.heap.size]? = some (.cells #[.int .i64 K, .string s, .slice a m c] 38 (0, 0)) ∧ Below w.heap.size w wr) (fun i _ => 4 - (intOf i).toNat)
  case atStart => exact ⟨0, by omega, rfl, fun j hj => absurd hj (Nat.not_lt_zero _), HQ0.out, HB0.out⟩
  case round =>
    obtain ⟨k, hk, rfl, hA, hq, hb⟩ := hrel
    have HB := Lib.hid hb
    have HA := Lib.hid hA
    by_cases hlt : k < 4
    · have hd : decide ((k : Int) < 4) = true := by simp; omega
      have hix := index_kd k hlt
      obtain ⟨n, hn⟩ : ∃ n, n = kdN k := ⟨_, rfl⟩
      rw [← hn] at hix
      generalize kdG k = g at hix
      generalize kdW k = x at hix
      obtain ⟨q0, q1, q2, l0⟩ := three_facts hq
      obtain ⟨W1, hW1⟩ : ∃ W1, W1 = wr.alloc (.cells #[.int .i64 n, .int .i64 g, .string x] 69) := ⟨_, rfl⟩
      have hwr1 : wr.alloc (.cells #[.int .i64 n, .int .i64 g, .string x] 69) = W1 := hW1.symm
      have hb1 : Below wr.heap.size wr W1 := by rw [hW1]; exact belowNew wr _
      have hq1 : W1.heap[wr.heap.size]? = some (.cells #[.int .i64 n, .int .i64 g, .string x] 69 (0, 0)) := by rw [hW1]; exact heap_alloc_new wr _
      obtain ⟨r0, r1, r2, l1⟩ := three_facts hq1
      have p0 := (hb1.cell (p := ⟨w.heap.size, 0, none⟩) l0).trans q0
      have HQ := Lib.hid ((hb1.block w.heap.size l0).trans hq)
      have HB1 := Lib.hid (below_next hb hb1)
      clear q0 q1 q2 hq hb hA hW1 hb1 hq1
      by_cases hx : n = K
      · have hbq : (n == K) = true := beq_iff_eq.2 hx
        have HF := Lib.hid (show Z = k by rw [HZ.out]; exact kd_hit k hlt (by rw [← hn]; exact hx))
        clear hn hx
        go_wp2_with fail
        go_ret
        exact ⟨by rw [HF.out]; rfl, HB1.out⟩
      · have hbq : (n == K) = false := beq_eq_false_iff_ne.2 hx
        have HF := Lib.hid (show ∀ j, j < k + 1 → kdN j ≠ K from fun j hj => by
          by_cases e : j = k
          · rw [e, ← hn]; exact hx
          · exact HA.out j (by omega))
        clear hn hx
        go_wp2_with fail
        go_roundw
        case rel => exact ⟨k + 1, by omega, by go_num, HF.out, HQ.out, HB1.out⟩
        case measure => simp [intOf]; omega
    · obtain rfl : k = 4 := by omega
      have hd : decide (((4 : Nat) : Int) < 4) = false := rfl
      have HF := Lib.hid (show Z = 4 by rw [HZ.out]; exact kd_miss HA.out)
      clear hq hb hA
      go_wp2_with fail
      go_ret
      exact ⟨by rw [HF.out]; rfl, HB.out⟩
end Go.Proofs.YtjdfgalcnbnobaaDoor
namespace Go.Proofs.YtjdfgalcnbnobaaDoor
open Go.RowKit

end Go.Proofs.YtjdfgalcnbnobaaDoor
namespace Go.Proofs.YtjdfgalcnbnobaaDoor
open Go.RowKit

/-- A name of at most three relative names of at most two attributes, each value of at most L bytes. -/
def SpR (L : Nat) (r : List At) : Prop := r.length ≤ 2 ∧ ∀ x ∈ r, x.1.size ≤ 100 ∧ x.2.2.size ≤ L
def SpN (L : Nat) (n : Nm) : Prop := n.length ≤ 3 ∧ ∀ r ∈ n, SpR L r
theorem next3 (p : Nat) (a : Option Addr) (cap : Nat) (zs : List Int) (k : Nat) (w : World) (h : DeckAt w p a cap zs k) (hk2 : k < 1000) :
    Calls Tryd.prog 11 #[.pointer (some ⟨p, 0, none⟩), .int .i64 3] w fun e w' => ∃ r k' : Nat, r < 3 ∧ e = .returned (.int .i64 (r : Int)) ∧ DeckAt w' p a cap zs k' ∧ k' ≤ k + 1 ∧ But p w w' :=
  next_any p a cap zs k 3 w h hk2 (by omega) (by omega)

theorem getD_memS {α : Type} (l : List α) (i : Nat) (h : i < l.length) (d : α) : l.getD i d ∈ l := by
  rw [List.getD_eq_getElem?_getD, List.getElem?_eq_getElem h]
  exact List.getElem_mem h

end Go.Proofs.YtjdfgalcnbnobaaDoor
