/-
  The table of the kinds of general names, and the contracts of kindOf and taggedKind.
  What the laws over gname want of the program's functions, each said as a proposition; and that the law's awake then returns true.
  The contract of the laws' spelled: a name in another spelling, which matches the one handed in; of the memory that was there only the deck's block has changed.
-/
import Derived.Test.YtkiniledfcdgjaaGreatDoorPba
import Derived.Test.YtkiniledfcdgjaaGreatDoorPbc
import Derived.Test.YtkiniledfcdgjaaGreatDoorPae
import Derived.Test.YtkiniledfcdgjaaGreatDoorPbb
import Derived.Test.YtkiniledfcdgjaaGreatDoorPat
import Derived.Test.YtkiniledfcdgjaaGreatDoorPad
import Derived.Laws.AppendOwnNone
namespace Go.Proofs.YtkiniledfcdgjaaGreatDoor
open Go.RowKit

def kdN (k : Nat) : Int := [1, 2, 4, 7].getD k 0
def kdG (k : Nat) : Int := [129, 130, 164, 135].getD k 0
def kdW (k : Nat) : ByteArray := [⟨#[109, 97, 105, 108, 58]⟩, ⟨#[100, 110, 115, 58]⟩, ⟨#[100, 105, 114, 58]⟩, ⟨#[105, 112, 58]⟩].getD k ⟨#[]⟩
def kdArr : Array Value := #[.int .i64 1, .int .i64 129, .string ⟨#[109, 97, 105, 108, 58]⟩, .int .i64 2, .int .i64 130, .string ⟨#[100, 110, 115, 58]⟩, .int .i64 4, .int .i64 164, .string ⟨#[100, 105, 114, 58]⟩, .int .i64 7, .int .i64 135, .string ⟨#[105, 112, 58]⟩]
/-- The place of a kind in the table; 4 for none. -/
def kdOf (K : Int) : Nat := if K = 1 then 0 else if K = 2 then 1 else if K = 4 then 2 else if K = 7 then 3 else 4
def tgOf (T : Int) : Nat := if T = 129 then 0 else if T = 130 then 1 else if T = 164 then 2 else if T = 135 then 3 else 4
/-- The table lies as the program's text lays it. -/
def KdT (w : World) : Prop := ∀ j, j < 12 → w.cell? ⟨0, j, none⟩ = kdArr[j]?
theorem KdT.lt {w : World} (h : KdT w) : 0 < w.heap.size := block_lt ((h 0 (by omega)).trans rfl)
theorem KdT.below {w w' : World} (h : KdT w) (hb : Below w.heap.size w w') : KdT w' := fun j hj => (hb.cell (p := ⟨0, j, none⟩) h.lt).trans (h j hj)
/-- What the functions of package gname read besides what they are handed. -/
def Mk (w : World) : Prop := Mx w ∧ KdT w
theorem Mk.below {w w' : World} (h : Mk w) (hb : Below w.heap.size w w') : Mk w' := ⟨h.1.below hb, h.2.below hb⟩
theorem KdT.cells {w : World} (h : KdT w) :
    w.cell? ⟨0, 0, none⟩ = some (.int .i64 1) ∧ w.cell? ⟨0, 1, none⟩ = some (.int .i64 129) ∧ w.cell? ⟨0, 2, none⟩ = some (.string ⟨#[109, 97, 105, 108, 58]⟩) ∧
    w.cell? ⟨0, 3, none⟩ = some (.int .i64 2) ∧ w.cell? ⟨0, 4, none⟩ = some (.int .i64 130) ∧ w.cell? ⟨0, 5, none⟩ = some (.string ⟨#[100, 110, 115, 58]⟩) ∧
    w.cell? ⟨0, 6, none⟩ = some (.int .i64 4) ∧ w.cell? ⟨0, 7, none⟩ = some (.int .i64 164) ∧ w.cell? ⟨0, 8, none⟩ = some (.string ⟨#[100, 105, 114, 58]⟩) ∧
    w.cell? ⟨0, 9, none⟩ = some (.int .i64 7) ∧ w.cell? ⟨0, 10, none⟩ = some (.int .i64 135) ∧ w.cell? ⟨0, 11, none⟩ = some (.string ⟨#[105, 112, 58]⟩) :=
  ⟨h 0 (by omega), h 1 (by omega), h 2 (by omega), h 3 (by omega), h 4 (by omega), h 5 (by omega), h 6 (by omega), h 7 (by omega), h 8 (by omega), h 9 (by omega), h 10 (by omega), h 11 (by omega)⟩
theorem index_kd (k : Nat) (hk : k < 4) (w : World) : (Instr.index 56 (.agg #[.int .i64 1, .int .i64 129, .string ⟨#[109, 97, 105, 108, 58]⟩, .int .i64 2, .int .i64 130, .string ⟨#[100, 110, 115, 58]⟩, .int .i64 4, .int .i64 164, .string ⟨#[100, 105, 114, 58]⟩, .int .i64 7, .int .i64 135, .string ⟨#[105, 112, 58]⟩]) (.int .i64 (k : Int))).run Tryz.prog w = .ok (.agg #[.int .i64 (kdN k), .int .i64 (kdG k), .string (kdW k)]) w := by
  rcases (by omega : k = 0 ∨ k = 1 ∨ k = 2 ∨ k = 3) with rfl | rfl | rfl | rfl <;> kernel_rfl
theorem kd_hit {K : Int} (k : Nat) (hk : k < 4) (h2 : kdN k = K) : kdOf K = k := by
  subst h2
  rcases (by omega : k = 0 ∨ k = 1 ∨ k = 2 ∨ k = 3) with rfl | rfl | rfl | rfl <;> decide
theorem kd_miss {K : Int} (h : ∀ j, j < 4 → kdN j ≠ K) : kdOf K = 4 := by
  unfold kdOf
  rw [if_neg (fun e => h 0 (by omega) e.symm), if_neg (fun e => h 1 (by omega) e.symm), if_neg (fun e => h 2 (by omega) e.symm), if_neg (fun e => h 3 (by omega) e.symm)]
theorem tg_hit {T : Int} (k : Nat) (hk : k < 4) (h2 : kdG k = T) : tgOf T = k := by
  subst h2
  rcases (by omega : k = 0 ∨ k = 1 ∨ k = 2 ∨ k = 3) with rfl | rfl | rfl | rfl <;> decide
theorem tg_miss {T : Int} (h : ∀ j, j < 4 → kdG j ≠ T) : tgOf T = 4 := by
  unfold tgOf
  rw [if_neg (fun e => h 0 (by omega) e.symm), if_neg (fun e => h 1 (by omega) e.symm), if_neg (fun e => h 2 (by omega) e.symm), if_neg (fun e => h 3 (by omega) e.symm)]
theorem kdOf_no {K : Int} (h : K ≠ 1 ∧ K ≠ 2 ∧ K ≠ 4 ∧ K ≠ 7) : kdOf K = 4 := by
  unfold kdOf
  rw [if_neg h.1, if_neg h.2.1, if_neg h.2.2.1, if_neg h.2.2.2]

set_option maxRecDepth 100000 in
set_option maxHeartbeats 4000000 in
theorem gkind_any (K : Int) (s : ByteArray) (a : Option Addr) (m c : Nat) (w : World) (h : KdT w) :
    Calls Tryz.prog 26 #[.agg #[.int .i64 K, .string s, .slice a m c]] w fun e w' => e = .returned (.int .i64 ((kdOf K : Nat) : Int)) ∧ Below w.heap.size w w' := by
  obtain ⟨W0, hW0⟩ : ∃ W0, W0 = w.alloc (.cells #[.int .i64 K, .string s, .slice a m c] 26) := ⟨_, rfl⟩
  have hwr : w.alloc (.cells #[.int .i64 K, .string s, .slice a m c] 26) = W0 := hW0.symm
  have hb0 : Below w.heap.size w W0 := by rw [hW0]; exact belowNew w _
  have hq0 : W0.heap[w.heap.size]? = some (.cells #[.int .i64 K, .string s, .slice a m c] 26 (0, 0)) := by rw [hW0]; exact heap_alloc_new w _
  obtain ⟨c0, c1, c2, c3, c4, c5, c6, c7, c8, c9, c10, c11⟩ := (h.below hb0).cells
  have HB0 := Lib.hid hb0
  have HQ0 := Lib.hid hq0
  obtain ⟨Z, hZ⟩ : ∃ Z, Z = kdOf K := ⟨_, rfl⟩
  have HZ := Lib.hid hZ
  rw [← hZ]
  clear h hZ hW0 hb0 hq0
  go_enter Tryz.func26, Tryz.ntmps26
  go_wp2_with fail
  clear c0 c1 c2 c3 c4 c5 c6 c7 c8 c9 c10 c11
  go_loopw [6] (fun i wr => ∃ k : Nat, k ≤ 4 ∧ i = .int .i64 k ∧ (∀ j, j < k → kdN j ≠ K) ∧ wr.heap[w.heap.size]? = some (.cells #[.int .i64 K, .string s, .slice a m c] 26 (0, 0)) ∧ Below w.heap.size w wr) (fun i _ => 4 - (intOf i).toNat)
  case atStart => exact ⟨0, by omega, rfl, fun j hj => absurd hj (Nat.not_lt_zero _), HQ0.out, HB0.out⟩
  case round =>
    obtain ⟨k, hk, rfl, hA, hq, hb⟩ := hrel
    have HB := Lib.hid hb
    have HA := Lib.hid hA
    by_cases hlt : k < 4
    · have hd : decide ((k : Int) < 4) = true := by simp; omega
      have hix := index_kd k hlt
      obtain ⟨n, hn⟩ : ∃ n, n = kdN k := ⟨_, rfl⟩
      rw [← hn] at hix
      generalize kdG k = g at hix
      generalize kdW k = x at hix
      obtain ⟨q0, q1, q2, l0⟩ := three_facts hq
      obtain ⟨W1, hW1⟩ : ∃ W1, W1 = wr.alloc (.cells #[.int .i64 n, .int .i64 g, .string x] 55) := ⟨_, rfl⟩
      have hwr1 : wr.alloc (.cells #[.int .i64 n, .int .i64 g, .string x] 55) = W1 := hW1.symm
      have hb1 : Below wr.heap.size wr W1 := by rw [hW1]; exact belowNew wr _
      have hq1 : W1.heap[wr.heap.size]? = some (.cells #[.int .i64 n, .int .i64 g, .string x] 55 (0, 0)) := by rw [hW1]; exact heap_alloc_new wr _
      obtain ⟨r0, r1, r2, l1⟩ := three_facts hq1
      have p0 := (hb1.cell (p := ⟨w.heap.size, 0, none⟩) l0).trans q0
      have HQ := Lib.hid ((hb1.block w.heap.size l0).trans hq)
      have HB1 := Lib.hid (below_next hb hb1)
      clear q0 q1 q2 hq hb hA hW1 hb1 hq1
      by_cases hx : n = K
      · have hbq : (n == K) = true := beq_iff_eq.2 hx
        have HF := Lib.hid (show Z = k by rw [HZ.out]; exact kd_hit k hlt (by rw [← hn]; exact hx))
        clear hn hx
        go_wp2_with fail
        go_ret
        exact ⟨by rw [HF.out]; rfl, HB1.out⟩
      · have hbq : (n == K) = false := beq_eq_false_iff_ne.2 hx
        have HF := Lib.hid (show ∀ j, j < k + 1 → kdN j ≠ K from fun j hj => by
          by_cases e : j = k
          · rw [e, ← hn]; exact hx
          · exact HA.out j (by omega))
        clear hn hx
        go_wp2_with fail
        go_roundw
        case rel => exact ⟨k + 1, by omega, by go_num, HF.out, HQ.out, HB1.out⟩
        case measure => simp [intOf]; omega
    · obtain rfl : k = 4 := by omega
      have hd : decide (((4 : Nat) : Int) < 4) = false := rfl
      have HF := Lib.hid (show Z = 4 by rw [HZ.out]; exact kd_miss HA.out)
      clear hq hb hA
      go_wp2_with fail
      go_ret
      exact ⟨by rw [HF.out]; rfl, HB.out⟩
end Go.Proofs.YtkiniledfcdgjaaGreatDoor
namespace Go.Proofs.YtkiniledfcdgjaaGreatDoor
open Go.RowKit

def PChk : Prop := ∀ (a0 : Option Addr) (c m : Nat) (k : Int) (t : List UInt8) (n : Nm) (con : Bool) (w : World), RLies w a0 n → m = n.length → t.length ≤ 100000 → SmallN n → Tab w → Mk w →
  Calls Tryz.prog 12 #[.agg #[.int .i64 k, .string (strOf t), .slice a0 m c], .bool con] w fun e w' => e = .returned (.int .i64 ((chkG con k t n : Nat) : Int)) ∧ Below w.heap.size w w'
def PEnc : Prop := ∀ (a0 : Option Addr) (c m : Nat) (k : Int) (t : List UInt8) (n : Nm) (con : Bool) (w : World), RLies w a0 n → m = n.length → t.length ≤ 100000 → SmallN n → Tab w → Mk w →
  Calls Tryz.prog 10 #[.agg #[.int .i64 k, .string (strOf t), .slice a0 m c], .bool con] w fun e w' => e = .returned (.tuple #[.string (encG con k t n), .int .i64 ((chkG con k t n : Nat) : Int)]) ∧ Below w.heap.size w w'
def PMatch : Prop := ∀ (a0 b0 : Option Addr) (c d n m : Nat) (k l : Int) (t u : List UInt8) (r s : Nm) (w : World), RLies w a0 r → RLies w b0 s → n = r.length → m = s.length → n ≤ c → t.length ≤ 100000 → u.length ≤ 100000 → SmallN r → SmallN s → Mk w →
  Calls Tryz.prog 18 #[.agg #[.int .i64 k, .string (strOf t), .slice a0 n c], .agg #[.int .i64 l, .string (strOf u), .slice b0 m d]] w fun e w' => e = .returned (.bool (matchG k t r l u s)) ∧ Below w.heap.size w w'
theorem smallN_nil : SmallN [] := ⟨by decide, fun i hi => absurd hi (Nat.not_lt_zero _)⟩
set_option maxRecDepth 100000 in
theorem enc_ex : chkG false 2 [97, 46, 98] [] = 0 ∧ encG false 2 [97, 46, 98] [] = ⟨#[130, 3, 97, 46, 98]⟩ := by
  have h : chkG false 2 [97, 46, 98] [] = 0 := by
    rw [chkG_not (by decide), if_pos ⟨by rw [okT_2]; decide +kernel, rfl⟩]
  refine ⟨h, ?_⟩
  unfold encG
  rw [if_pos h, if_neg (by decide)]
  decide +kernel
set_option maxRecDepth 100000 in
theorem match_ex : matchG 2 [42, 46, 101, 120, 97, 109, 112, 108, 101, 46, 111, 114, 103] [] 2 [119, 119, 119, 46, 101, 120, 97, 109, 112, 108, 101, 46, 111, 114, 103] [] = true := by
  unfold matchG
  rw [if_pos ⟨rfl, rfl⟩]
  decide +kernel
set_option maxRecDepth 100000 in
set_option maxHeartbeats 1000000 in
theorem gawake_any (hE : PEnc) (hM : PMatch) (w : World) (hT : Tab w) (hm : Mk w) :
    Calls Tryz.prog 7 #[] w fun e w' => e = .returned (.bool true) ∧ Below w.heap.size w w' := by
  have H1 := Lib.hid (show Calls Tryz.prog 10 #[.agg #[.int .i64 2, .string ⟨#[97, 46, 98]⟩, .slice none 0 0], .bool false] w fun e w' => e = .returned (.tuple #[.string ⟨#[130, 3, 97, 46, 98]⟩, .int .i64 0]) ∧ Below w.heap.size w w' by
    have := hE none 0 0 2 [97, 46, 98] [] false w (RLies.nil _ _) rfl (by decide) smallN_nil hT hm
    rw [enc_ex.1, enc_ex.2] at this
    exact this)
  have H2 := Lib.hid (fun W (hb : Below w.heap.size w W) => show Calls Tryz.prog 18 #[.agg #[.int .i64 2, .string ⟨#[42, 46, 101, 120, 97, 109, 112, 108, 101, 46, 111, 114, 103]⟩, .slice none 0 0], .agg #[.int .i64 2, .string ⟨#[119, 119, 119, 46, 101, 120, 97, 109, 112, 108, 101, 46, 111, 114, 103]⟩, .slice none 0 0]] W fun e w' => e = .returned (.bool true) ∧ Below W.heap.size W w' by
    have := hM none none 0 0 0 0 2 2 [42, 46, 101, 120, 97, 109, 112, 108, 101, 46, 111, 114, 103] [119, 119, 119, 46, 101, 120, 97, 109, 112, 108, 101, 46, 111, 114, 103] [] [] W (RLies.nil _ _) (RLies.nil _ _) rfl rfl (Nat.le_refl _) (by decide) (by decide) smallN_nil smallN_nil (hm.below hb)
    rw [match_ex] at this
    exact this)
  have heq : ((⟨#[130, 3, 97, 46, 98]⟩ : ByteArray).toList == [130, 3, 97, 46, 98]) = true := beq_iff_eq.2 (toList_of [130, 3, 97, 46, 98])
  clear hE hM hT hm
  go_enter Tryz.func7, Tryz.ntmps7
  go_wp2_with (first
    | (go_at_call 10; (with_reducible refine H1.out.mono ?_); rintro e w1 ⟨rfl, hb1⟩; have HB1 := Lib.hid hb1; clear hb1)
    | (go_at_call 18; (with_reducible refine (H2.out _ HB1.out).mono ?_); rintro e w2 ⟨rfl, hb2⟩; have HB2 := Lib.hid (below_next HB1.out hb2); clear hb2))
  go_ret
  exact ⟨rfl, HB2.out⟩
end Go.Proofs.YtkiniledfcdgjaaGreatDoor
namespace Go.Proofs.YtkiniledfcdgjaaGreatDoor
open Go.RowKit

theorem foldStep_small (st : List UInt8 × Bool) (c : UInt8) : foldStep st (small c) = foldStep st c := by
  unfold foldStep
  simp only [small_space, small_small]
theorem foldl_small (l : List UInt8) (st : List UInt8 × Bool) : (l.map small).foldl foldStep st = l.foldl foldStep st := by
  induction l generalizing st with
  | nil => rfl
  | cons c r ih => simp only [List.map_cons, List.foldl_cons, foldStep_small, ih]
theorem foldS_low (s : ByteArray) : foldS (strOf (s.data.toList.map small)) = foldS s := by
  unfold foldS foldL foldRun
  rw [show (strOf (s.data.toList.map small)).data.toList = s.data.toList.map small from by simp [strOf], foldl_small]
theorem foldS_sp (s : ByteArray) : foldS ((⟨#[32]⟩ : ByteArray) ++ s) = foldS s := by
  unfold foldS foldL foldRun
  rw [show ((⟨#[32]⟩ : ByteArray) ++ s).data.toList = 32 :: s.data.toList from by simp]
  rfl
theorem matchR_put {l D : List At} {x y : At} (h : MatchR l D) (e : fa y = fa x) : MatchR (l ++ [x]) (y :: D) := by
  refine ⟨by simp [h.1], fun z hz => ?_, fun z hz => ?_⟩
  · rcases List.mem_append.1 hz with hz | hz
    · obtain ⟨u, hu, hh⟩ := h.2.1 z hz
      exact ⟨u, List.mem_cons_of_mem _ hu, hh⟩
    · obtain rfl := List.mem_singleton.1 hz
      exact ⟨y, List.mem_cons_self, e⟩
  · rcases List.mem_cons.1 hz with rfl | hz
    · exact ⟨x, List.mem_append_right _ (List.mem_singleton.2 rfl), e.symm⟩
    · obtain ⟨u, hu, hh⟩ := h.2.2 z hz
      exact ⟨u, List.mem_append_left _ hu, hh⟩
/-- A name of at most three relative names of at most two attributes, each value of at most L bytes. -/
def SpR (L : Nat) (r : List At) : Prop := r.length ≤ 2 ∧ ∀ x ∈ r, x.1.size ≤ 100 ∧ x.2.2.size ≤ L
def SpN (L : Nat) (n : Nm) : Prop := n.length ≤ 3 ∧ ∀ r ∈ n, SpR L r
theorem at_news2' (w1 : World) (X : Obj) (E : At) : ∀ j u, (atCells E)[j]? = some u → ((w1.alloc X).alloc (.cells #[.string E.1, .int .i64 E.2.1, .string E.2.2] 68)).cell? ((⟨w1.heap.size + 1, 0, none⟩ : Addr).add j) = some u := by
  intro j u h
  have := news_row (w1.alloc X) #[.string E.1, .int .i64 E.2.1, .string E.2.2] 68 j u (by simpa [atCells] using h)
  simpa using this
theorem next3 (p : Nat) (a : Option Addr) (cap : Nat) (zs : List Int) (k : Nat) (w : World) (h : DeckAt w p a cap zs k) (hk2 : k < 1000) :
    Calls Tryz.prog 22 #[.pointer (some ⟨p, 0, none⟩), .int .i64 3] w fun e w' => ∃ r k' : Nat, r < 3 ∧ e = .returned (.int .i64 (r : Int)) ∧ DeckAt w' p a cap zs k' ∧ k' ≤ k + 1 ∧ But p w w' :=
  next_any p a cap zs k 3 w h hk2 (by omega) (by omega)

theorem nmRes2 {fn : Func} {p : Tmp} (h : fn.results = #[.cell p 24]) (tmps : Array Value) (w : World) (G : Nat) (x : Value)
    (hp : tmps.getD p undef = .pointer (some ⟨G, 0, none⟩)) (hg : w.heap[G]? = some (.cells #[x] 24 (0, 0))) :
    (results fn tmps).run Tryz.prog w = .ok (.agg #[x]) w :=
  results_cell_row h tmps w G 24 #[x] (0, 0) _ hp hg Tryz.underlying24 rfl nmSize
theorem match_done {n M : Nm} {j : Nat} (hj : j ≤ n.length) (hM : M.length = j) (h : ∀ q, q < j → MatchR (n.getD q []) (M.getD q [])) : MatchN (n.take j) M := by
  have e : (n.take j).length = j := by rw [List.length_take]; omega
  refine ⟨by rw [e, hM], fun i hi => ?_⟩
  rw [e] at hi
  rw [getD_take _ _ _ hi]
  exact h i hi
theorem match_snoc {n M : Nm} {D : List At} {j : Nat} (hM : M.length = j) (h : ∀ q, q < j → MatchR (n.getD q []) (M.getD q [])) (k : MatchR (n.getD j []) D) : ∀ q, q < j + 1 → MatchR (n.getD q []) ((M ++ [D]).getD q []) := by
  intro q hq
  by_cases hlt : q < j
  · rw [getD_snoc_lt _ _ _ _ (by omega)]; exact h q hlt
  · obtain rfl : q = j := by omega
    subst hM
    rw [getD_snoc_eq]; exact k
theorem sp_snoc {L : Nat} {M : Nm} {D : List At} (h : ∀ r ∈ M, SpR L r) (k : SpR L D) : ∀ r ∈ M ++ [D], SpR L r := by
  intro r hr
  rcases List.mem_append.1 hr with hr | hr
  · exact h r hr
  · obtain rfl := List.mem_singleton.1 hr
    exact k
theorem lit_own (w : World) (B G : Nat) (hG : w.heap.size = G) (hB : B ≤ w.heap.size) (E : At) : OwnA (w.alloc (.cells #[.string E.1, .int .i64 E.2.1, .string E.2.2] 68)) B (.slice (some ⟨G, 0, none⟩) 1 1) [E] := by
  subst hG
  exact World.ownsRow_lit w #[.string E.1, .int .i64 E.2.1, .string E.2.2] 1 hB (by unfold maxLen; omega) rfl
theorem own_cons {w : World} {B : Nat} {v : Value} {b : At} {D : List At} (h : w.ownsRow B 68 3 v (1 + D.length) (atCells b ++ atsCells D)) : OwnA w B v (b :: D) := by
  unfold OwnA
  rw [List.length_cons, Nat.add_comm]
  exact h
theorem own_news {w : World} {B cD : Nat} {aD : Option Addr} {D : List At} (h : OwnA w B (.slice aD D.length cD) D) (hD : 0 < D.length) (X : Obj) :
    ∃ q, aD = some ⟨q, 0, none⟩ ∧ Hid (∀ j u, (atsCells D)[j]? = some u → (w.alloc X).cell? ((⟨q, 0, none⟩ : Addr).add j) = some u) := by
  have hh := h.below (belowNew w X)
  rcases h.2 with ⟨_, h0⟩ | ⟨q, cap, cur, hv, _⟩
  · omega
  · obtain ⟨rfl, rfl⟩ : aD = some ⟨q, 0, none⟩ ∧ cD = cap := by simpa using hv
    refine ⟨q, rfl, Lib.hid fun j u hj => ?_⟩
    have hj2 : j < D.length * 3 := by rw [← atsCells_length]; exact (List.getElem?_eq_some_iff.1 hj).1
    have e := World.ownsRow.cellAt hh j hj2
    rw [hj] at e
    have ea : (⟨q, 0, none⟩ : Addr).add j = ⟨q, j, none⟩ := by
      by_cases h0 : j = 0
      · subst h0; simp [Addr.add]
      · simp [Addr.add, h0]
    rw [ea]
    exact e
theorem sp_cons {L : Nat} {D : List At} {E : At} {S : ByteArray} (h : SpR (L + 1) D) (hl : D.length ≤ 1) (h1 : E.1.size ≤ 100) (h2 : S.size ≤ L + 1) : SpR (L + 1) ((E.1, 12, S) :: D) := by
  refine ⟨by simp; omega, fun x hx => ?_⟩
  rcases List.mem_cons.1 hx with rfl | hx
  · exact ⟨h1, h2⟩
  · exact h.2 x hx
theorem row_at {w : World} {B N c0 : Nat} {a0 : Option Addr} {vs : List Value} (h : w.ownsRow B 66 1 (.slice a0 N c0) N vs) (hl : vs.length = N) (j : Nat) (hj : j < N) :
    ∃ q, a0 = some ⟨q, 0, none⟩ ∧ w.cell? ⟨q, j, none⟩ = some (vs.getD j (.slice none 0 0)) ∧ q < w.heap.size := by
  have hh := h
  rcases h.2 with ⟨_, h0⟩ | ⟨q, cap, cur, hv, _⟩
  · omega
  · obtain ⟨rfl, rfl⟩ : a0 = some ⟨q, 0, none⟩ ∧ c0 = cap := by simpa using hv
    have e : w.cell? ⟨q, j, none⟩ = some (vs.getD j (.slice none 0 0)) := by
      rw [World.ownsRow.cellAt hh j (by omega), List.getD_eq_getElem?_getD, List.getElem?_eq_getElem (by omega)]
      rfl
    exact ⟨q, rfl, e, block_lt e⟩
theorem getD_memS {α : Type} (l : List α) (i : Nat) (h : i < l.length) (d : α) : l.getD i d ∈ l := by
  rw [List.getD_eq_getElem?_getD, List.getElem?_eq_getElem h]
  exact List.getElem_mem h

end Go.Proofs.YtkiniledfcdgjaaGreatDoor
