/-
  The contracts of strings.HasPrefix, HasSuffix, TrimPrefix, CutPrefix, IndexByte, Contains and EqualFold and of internal/stringslite.Index: the library's theorems, laid at the program's own numbers. Nothing is claimed of the program beyond its bodies.
  The table of the kinds of general names, and the contracts of kindOf and taggedKind.
  What the laws over gname want of the program's functions, each said as a proposition; and that the law's awake then returns true.
  The contract of the laws' spelled: a name in another spelling, which matches the one handed in; of the memory that was there only the deck's block has changed.
-/
import Derived.Test.YtofadgmnjckpcaaGreatDoorVaa
import Derived.Test.YtofadgmnjckpcaaGreatDoorVac
import Derived.Shelf.Strings.Prefix
import Derived.Shelf.Strings.Fold
import Derived.Shelf.Strings.Search3
import Derived.Shelf.Small.Strs
import Derived.Shelf.Small.Wraps
import Derived.Shelf.Vars
import Derived.Test.YtofadgmnjckpcaaGreatDoorVan
import Derived.Test.YtofadgmnjckpcaaGreatDoorVao
import Derived.Test.YtofadgmnjckpcaaGreatDoorVam
import Derived.Laws.AppendOwnNone
namespace Go.Proofs.YtofadgmnjckpcaaGreatDoor
open Go.Shelf Go.RowKit

def lays99_ren : Go.Shelf.Ren := ⟨fun | 99 => 119 | 206 => 133 | n => n, fun | 3 => 3 | 4 => 4 | 9 => 9 | n => n, fun | n => n⟩
theorem lays99 : Go.Proofs.Lays.n99 Tryz.prog lays99_ren := {
  mixed := by kernel_rfl
  f99 := Tryz.func119.trans (congrArg some (by kernel_rfl))
  f206 := Tryz.func133.trans (congrArg some (by kernel_rfl))
  t3 := Tryz.underlying3
  a3 := Tryz.isAgg3
  z3 := Tryz.sizeOf3
  v3 := Tryz.zeroValue3
  t4 := Tryz.underlying4
  a4 := Tryz.isAgg4
  z4 := Tryz.sizeOf4
  v4 := Tryz.zeroValue4
  t9 := Tryz.underlying9
  a9 := Tryz.isAgg9
  z9 := Tryz.sizeOf9
  v9 := Tryz.zeroValue9 }
def lays100_ren : Go.Shelf.Ren := ⟨fun | 100 => 125 | 207 => 139 | n => n, fun | 3 => 3 | 4 => 4 | 9 => 9 | n => n, fun | n => n⟩
theorem lays100 : Go.Proofs.Lays.n100 Tryz.prog lays100_ren := {
  mixed := by kernel_rfl
  f100 := Tryz.func125.trans (congrArg some (by kernel_rfl))
  f207 := Tryz.func139.trans (congrArg some (by kernel_rfl))
  t3 := Tryz.underlying3
  a3 := Tryz.isAgg3
  z3 := Tryz.sizeOf3
  v3 := Tryz.zeroValue3
  t4 := Tryz.underlying4
  a4 := Tryz.isAgg4
  z4 := Tryz.sizeOf4
  v4 := Tryz.zeroValue4
  t9 := Tryz.underlying9
  a9 := Tryz.isAgg9
  z9 := Tryz.sizeOf9
  v9 := Tryz.zeroValue9 }
def lays101_ren : Go.Shelf.Ren := ⟨fun | 101 => 117 | 206 => 133 | 208 => 131 | n => n, fun | 3 => 3 | 4 => 4 | 9 => 9 | n => n, fun | n => n⟩
theorem lays101 : Go.Proofs.Lays.n101 Tryz.prog lays101_ren := {
  mixed := by kernel_rfl
  f101 := Tryz.func117.trans (congrArg some (by kernel_rfl))
  f206 := Tryz.func133.trans (congrArg some (by kernel_rfl))
  f208 := Tryz.func131.trans (congrArg some (by kernel_rfl))
  t3 := Tryz.underlying3
  a3 := Tryz.isAgg3
  z3 := Tryz.sizeOf3
  v3 := Tryz.zeroValue3
  t4 := Tryz.underlying4
  a4 := Tryz.isAgg4
  z4 := Tryz.sizeOf4
  v4 := Tryz.zeroValue4
  t9 := Tryz.underlying9
  a9 := Tryz.isAgg9
  z9 := Tryz.sizeOf9
  v9 := Tryz.zeroValue9 }
def lays103_ren : Go.Shelf.Ren := ⟨fun | 103 => 120 | 206 => 133 | 210 => 134 | n => n, fun | 3 => 3 | 4 => 4 | 9 => 9 | 24 => 120 | n => n, fun | n => n⟩
theorem lays103 : Go.Proofs.Lays.n103 Tryz.prog lays103_ren := {
  mixed := by kernel_rfl
  f103 := Tryz.func120.trans (congrArg some (by kernel_rfl))
  f206 := Tryz.func133.trans (congrArg some (by kernel_rfl))
  f210 := Tryz.func134.trans (congrArg some (by kernel_rfl))
  t3 := Tryz.underlying3
  a3 := Tryz.isAgg3
  z3 := Tryz.sizeOf3
  v3 := Tryz.zeroValue3
  t4 := Tryz.underlying4
  a4 := Tryz.isAgg4
  z4 := Tryz.sizeOf4
  v4 := Tryz.zeroValue4
  t9 := Tryz.underlying9
  a9 := Tryz.isAgg9
  z9 := Tryz.sizeOf9
  v9 := Tryz.zeroValue9
  t24 := Tryz.underlying120
  a24 := Tryz.isAgg120
  z24 := Tryz.sizeOf120
  v24 := Tryz.zeroValue120 }
def lays144_ren : Go.Shelf.Ren := ⟨fun | 143 => 135 | 144 => 121 | 217 => 145 | 219 => 132 | 224 => 147 | 225 => 146 | 266 => 153 | 267 => 148 | 314 => 154 | n => n, fun | 3 => 3 | 4 => 4 | 5 => 5 | 9 => 9 | 46 => 133 | 51 => 143 | 146 => 144 | n => n, fun | 1 => 2 | n => n⟩
theorem lays144 : Go.Proofs.Lays.n144 Tryz.prog lays144_ren := {
  mixed := by kernel_rfl
  f143 := Tryz.func135.trans (congrArg some (by kernel_rfl))
  f144 := Tryz.func121.trans (congrArg some (by kernel_rfl))
  f217 := Tryz.func145.trans (congrArg some (by kernel_rfl))
  f219 := Tryz.func132.trans (congrArg some (by kernel_rfl))
  f224 := Tryz.func147.trans (congrArg some (by kernel_rfl))
  f225 := Tryz.func146.trans (congrArg some (by kernel_rfl))
  f266 := Tryz.func153.trans (congrArg some (by kernel_rfl))
  f267 := Tryz.func148.trans (congrArg some (by kernel_rfl))
  f314 := Tryz.func154.trans (congrArg some (by kernel_rfl))
  t3 := Tryz.underlying3
  a3 := Tryz.isAgg3
  z3 := Tryz.sizeOf3
  v3 := Tryz.zeroValue3
  t4 := Tryz.underlying4
  a4 := Tryz.isAgg4
  z4 := Tryz.sizeOf4
  v4 := Tryz.zeroValue4
  t5 := Tryz.underlying5
  a5 := Tryz.isAgg5
  z5 := Tryz.sizeOf5
  v5 := Tryz.zeroValue5
  t9 := Tryz.underlying9
  a9 := Tryz.isAgg9
  z9 := Tryz.sizeOf9
  v9 := Tryz.zeroValue9
  t46 := Tryz.underlying133
  a46 := Tryz.isAgg133
  z46 := Tryz.sizeOf133
  v46 := Tryz.zeroValue133
  t51 := Tryz.underlying143
  a51 := Tryz.isAgg143
  z51 := Tryz.sizeOf143
  v51 := Tryz.zeroValue143
  t146 := Tryz.underlying144
  a146 := Tryz.isAgg144
  z146 := Tryz.sizeOf144
  v146 := Tryz.zeroValue144
  g1 := by kernel_rfl }
def lays164_ren : Go.Shelf.Ren := ⟨fun | 164 => 122 | 197 => 136 | 239 => 137 | 260 => 149 | 274 => 150 | 275 => 151 | n => n, fun | 0 => 0 | 3 => 3 | 4 => 4 | 5 => 5 | 9 => 9 | 21 => 21 | 46 => 133 | 49 => 134 | 51 => 143 | 105 => 128 | 119 => 146 | 138 => 148 | 139 => 149 | 156 => 135 | 157 => 136 | 159 => 138 | 160 => 139 | 162 => 141 | 206 => 151 | 208 => 153 | n => n, fun | 3 => 6 | 4 => 7 | 11 => 3 | 12 => 4 | 13 => 5 | n => n⟩
theorem lays164 : Go.Proofs.Lays.n164 Tryz.prog lays164_ren := {
  mixed := by kernel_rfl
  f164 := Tryz.func122.trans (congrArg some (by kernel_rfl))
  f197 := Tryz.func136.trans (congrArg some (by kernel_rfl))
  f239 := Tryz.func137.trans (congrArg some (by kernel_rfl))
  f260 := Tryz.func149.trans (congrArg some (by kernel_rfl))
  f274 := Tryz.func150.trans (congrArg some (by kernel_rfl))
  f275 := Tryz.func151.trans (congrArg some (by kernel_rfl))
  t0 := Tryz.underlying0
  a0 := Tryz.isAgg0
  z0 := Tryz.sizeOf0
  v0 := Tryz.zeroValue0
  t3 := Tryz.underlying3
  a3 := Tryz.isAgg3
  z3 := Tryz.sizeOf3
  v3 := Tryz.zeroValue3
  t4 := Tryz.underlying4
  a4 := Tryz.isAgg4
  z4 := Tryz.sizeOf4
  v4 := Tryz.zeroValue4
  t5 := Tryz.underlying5
  a5 := Tryz.isAgg5
  z5 := Tryz.sizeOf5
  v5 := Tryz.zeroValue5
  t9 := Tryz.underlying9
  a9 := Tryz.isAgg9
  z9 := Tryz.sizeOf9
  v9 := Tryz.zeroValue9
  t21 := Tryz.underlying21
  a21 := Tryz.isAgg21
  z21 := Tryz.sizeOf21
  v21 := Tryz.zeroValue21
  t46 := Tryz.underlying133
  a46 := Tryz.isAgg133
  z46 := Tryz.sizeOf133
  v46 := Tryz.zeroValue133
  t49 := Tryz.underlying134
  a49 := Tryz.isAgg134
  z49 := Tryz.sizeOf134
  v49 := Tryz.zeroValue134
  t51 := Tryz.underlying143
  a51 := Tryz.isAgg143
  z51 := Tryz.sizeOf143
  v51 := Tryz.zeroValue143
  t105 := Tryz.underlying128
  a105 := Tryz.isAgg128
  z105 := Tryz.sizeOf128
  v105 := Tryz.zeroValue128
  t119 := Tryz.underlying146
  a119 := Tryz.isAgg146
  z119 := Tryz.sizeOf146
  t138 := Tryz.underlying148
  a138 := Tryz.isAgg148
  z138 := Tryz.sizeOf148
  v138 := Tryz.zeroValue148
  t139 := Tryz.underlying149
  a139 := Tryz.isAgg149
  z139 := Tryz.sizeOf149
  v139 := Tryz.zeroValue149
  t156 := Tryz.underlying135
  a156 := Tryz.isAgg135
  z156 := Tryz.sizeOf135
  t157 := Tryz.underlying136
  a157 := Tryz.isAgg136
  z157 := Tryz.sizeOf136
  v157 := Tryz.zeroValue136
  t159 := Tryz.underlying138
  a159 := Tryz.isAgg138
  z159 := Tryz.sizeOf138
  v159 := Tryz.zeroValue138
  t160 := Tryz.underlying139
  a160 := Tryz.isAgg139
  z160 := Tryz.sizeOf139
  v160 := Tryz.zeroValue139
  t162 := Tryz.underlying141
  a162 := Tryz.isAgg141
  z162 := Tryz.sizeOf141
  v162 := Tryz.zeroValue141
  t206 := Tryz.underlying151
  a206 := Tryz.isAgg151
  z206 := Tryz.sizeOf151
  v206 := Tryz.zeroValue151
  t208 := Tryz.underlying153
  a208 := Tryz.isAgg153
  z208 := Tryz.sizeOf153
  v208 := Tryz.zeroValue153
  g3 := by kernel_rfl
  g4 := by kernel_rfl
  g11 := by kernel_rfl
  g12 := by kernel_rfl
  g13 := by kernel_rfl }

/-- The library's variable MaxLen holds some number. -/
def Mx (w : World) : Prop := ∃ m, w.cell? ⟨2, 0, none⟩ = some (.int .i64 m)
theorem Mx.below {w w' : World} (h : Mx w) (hb : Below w.heap.size w w') : Mx w' := by
  obtain ⟨m, hm⟩ := h
  exact ⟨m, (hb.cell (p := ⟨_, 0, none⟩) (World.block_lt_of_cell? _ _ hm)).trans hm⟩
theorem mx_shaped {w : World} (h : w.ShapedOpen Tryz.prog) : Mx w :=
  cell_of_shapedOpen_int (zero := #[.int .i64 0]) (t := 3) h (of_decide_eq_true (by kernel_rfl)) (by kernel_rfl) rfl (by kernel_rfl) (by kernel_rfl) Tryz.underlying3
end Go.Proofs.YtofadgmnjckpcaaGreatDoor
namespace Go.Proofs.YtofadgmnjckpcaaGreatDoor
open Go.RowKit

def kdN (k : Nat) : Int := [1, 2, 4, 7].getD k 0
def kdG (k : Nat) : Int := [129, 130, 164, 135].getD k 0
def kdW (k : Nat) : ByteArray := [⟨#[109, 97, 105, 108, 58]⟩, ⟨#[100, 110, 115, 58]⟩, ⟨#[100, 105, 114, 58]⟩, ⟨#[105, 112, 58]⟩].getD k ⟨#[]⟩
def kdArr : Array Value := #[.int .i64 1, .int .i64 129, .string ⟨#[109, 97, 105, 108, 58]⟩, .int .i64 2, .int .i64 130, .string ⟨#[100, 110, 115, 58]⟩, .int .i64 4, .int .i64 164, .string ⟨#[100, 105, 114, 58]⟩, .int .i64 7, .int .i64 135, .string ⟨#[105, 112, 58]⟩]
/-- The place of a kind in the table; 4 for none. -/
def kdOf (K : Int) : Nat := if K = 1 then 0 else if K = 2 then 1 else if K = 4 then 2 else if K = 7 then 3 else 4
/-- The table lies as the program's text lays it. -/
def KdT (w : World) : Prop := ∀ j, j < 12 → w.cell? ⟨1, j, none⟩ = kdArr[j]?
theorem KdT.lt {w : World} (h : KdT w) : 1 < w.heap.size := block_lt ((h 0 (by omega)).trans rfl)
theorem KdT.below {w w' : World} (h : KdT w) (hb : Below w.heap.size w w') : KdT w' := fun j hj => (hb.cell (p := ⟨1, j, none⟩) h.lt).trans (h j hj)
/-- What the functions of package gname read besides what they are handed. -/
def Mk (w : World) : Prop := Mx w ∧ KdT w
theorem Mk.below {w w' : World} (h : Mk w) (hb : Below w.heap.size w w') : Mk w' := ⟨h.1.below hb, h.2.below hb⟩
theorem KdT.cells {w : World} (h : KdT w) :
    w.cell? ⟨1, 0, none⟩ = some (.int .i64 1) ∧ w.cell? ⟨1, 1, none⟩ = some (.int .i64 129) ∧ w.cell? ⟨1, 2, none⟩ = some (.string ⟨#[109, 97, 105, 108, 58]⟩) ∧
    w.cell? ⟨1, 3, none⟩ = some (.int .i64 2) ∧ w.cell? ⟨1, 4, none⟩ = some (.int .i64 130) ∧ w.cell? ⟨1, 5, none⟩ = some (.string ⟨#[100, 110, 115, 58]⟩) ∧
    w.cell? ⟨1, 6, none⟩ = some (.int .i64 4) ∧ w.cell? ⟨1, 7, none⟩ = some (.int .i64 164) ∧ w.cell? ⟨1, 8, none⟩ = some (.string ⟨#[100, 105, 114, 58]⟩) ∧
    w.cell? ⟨1, 9, none⟩ = some (.int .i64 7) ∧ w.cell? ⟨1, 10, none⟩ = some (.int .i64 135) ∧ w.cell? ⟨1, 11, none⟩ = some (.string ⟨#[105, 112, 58]⟩) :=
  ⟨h 0 (by omega), h 1 (by omega), h 2 (by omega), h 3 (by omega), h 4 (by omega), h 5 (by omega), h 6 (by omega), h 7 (by omega), h 8 (by omega), h 9 (by omega), h 10 (by omega), h 11 (by omega)⟩
theorem index_kd (k : Nat) (hk : k < 4) (w : World) : (Instr.index 102 (.agg #[.int .i64 1, .int .i64 129, .string ⟨#[109, 97, 105, 108, 58]⟩, .int .i64 2, .int .i64 130, .string ⟨#[100, 110, 115, 58]⟩, .int .i64 4, .int .i64 164, .string ⟨#[100, 105, 114, 58]⟩, .int .i64 7, .int .i64 135, .string ⟨#[105, 112, 58]⟩]) (.int .i64 (k : Int))).run Tryz.prog w = .ok (.agg #[.int .i64 (kdN k), .int .i64 (kdG k), .string (kdW k)]) w := by
  rcases (by omega : k = 0 ∨ k = 1 ∨ k = 2 ∨ k = 3) with rfl | rfl | rfl | rfl <;> kernel_rfl
theorem kd_hit {K : Int} (k : Nat) (hk : k < 4) (h2 : kdN k = K) : kdOf K = k := by
  subst h2
  rcases (by omega : k = 0 ∨ k = 1 ∨ k = 2 ∨ k = 3) with rfl | rfl | rfl | rfl <;> decide
theorem kd_miss {K : Int} (h : ∀ j, j < 4 → kdN j ≠ K) : kdOf K = 4 := by
  unfold kdOf
  rw [if_neg (fun e => h 0 (by omega) e.symm), if_neg (fun e => h 1 (by omega) e.symm), if_neg (fun e => h 2 (by omega) e.symm), if_neg (fun e => h 3 (by omega) e.symm)]
theorem kdOf_no {K : Int} (h : K ≠ 1 ∧ K ≠ 2 ∧ K ≠ 4 ∧ K ≠ 7) : kdOf K = 4 := by
  unfold kdOf
  rw [if_neg h.1, if_neg h.2.1, if_neg h.2.2.1, if_neg h.2.2.2]

set_option maxRecDepth 100000 in
set_option maxHeartbeats 4000000 in
theorem gkind_any (K : Int) (s : ByteArray) (a : Option Addr) (m c : Nat) (w : World) (h : KdT w) :
    Calls Tryz.prog 72 #[.agg #[.int .i64 K, .string s, .slice a m c]] w fun e w' => e = .returned (.int .i64 ((kdOf K : Nat) : Int)) ∧ Below w.heap.size w w' := by
  obtain ⟨W0, hW0⟩ : ∃ W0, W0 = w.alloc (.cells #[.int .i64 K, .string s, .slice a m c] 32) := ⟨_, rfl⟩
  have hwr : w.alloc (.cells #[.int .i64 K, .string s, .slice a m c] 32) = W0 := hW0.symm
  have hb0 : Below w.heap.size w W0 := by rw [hW0]; exact belowNew w _
  have hq0 : W0.heap[w.heap.size]? = some (.cells #[.int .i64 K, .string s, .slice a m c] 32 (0, 0)) := by rw [hW0]; exact heap_alloc_new w _
  obtain ⟨c0, c1, c2, c3, c4, c5, c6, c7, c8, c9, c10, c11⟩ := (h.below hb0).cells
  have HB0 := Lib.hid hb0
  have HQ0 := Lib.hid hq0
  obtain ⟨Z, hZ⟩ : ∃ Z, Z = kdOf K := ⟨_, rfl⟩
  have HZ := Lib.hid hZ
  rw [← hZ]
  clear h hZ hW0 hb0 hq0
  go_enter Tryz.func72, Tryz.ntmps72
  go_wp2_with fail
  clear c0 c1 c2 c3 c4 c5 c6 c7 c8 c9 c10 c11
  go_loopw [6] (fun i wr => ∃ k : Nat, k ≤ 4 ∧ i = .int .i64 k ∧ (∀ j, j < k → kdN j ≠ K) ∧ wr.heap[w.heap.size]? = some (.cells #[.int .i64 K, .string s, .slice a m c] 32 (0, 0)) ∧ Below w.heap.size w wr) (fun i _ => 4 - (intOf i).toNat)
  case atStart => exact ⟨0, by omega, rfl, fun j hj => absurd hj (Nat.not_lt_zero _), HQ0.out, HB0.out⟩
  case round =>
    obtain ⟨k, hk, rfl, hA, hq, hb⟩ := hrel
    have HB := Lib.hid hb
    have HA := Lib.hid hA
    by_cases hlt : k < 4
    · have hd : decide ((k : Int) < 4) = true := by simp; omega
      have hix := index_kd k hlt
      obtain ⟨n, hn⟩ : ∃ n, n = kdN k := ⟨_, rfl⟩
      rw [← hn] at hix
      generalize kdG k = g at hix
      generalize kdW k = x at hix
      obtain ⟨q0, q1, q2, l0⟩ := three_facts hq
      obtain ⟨W1, hW1⟩ : ∃ W1, W1 = wr.alloc (.cells #[.int .i64 n, .int .i64 g, .string x] 101) := ⟨_, rfl⟩
      have hwr1 : wr.alloc (.cells #[.int .i64 n, .int .i64 g, .string x] 101) = W1 := hW1.symm
      have hb1 : Below wr.heap.size wr W1 := by rw [hW1]; exact belowNew wr _
      have hq1 : W1.heap[wr.heap.size]? = some (.cells #[.int .i64 n, .int .i64 g, .string x] 101 (0, 0)) := by rw [hW1]; exact heap_alloc_new wr _
      obtain ⟨r0, r1, r2, l1⟩ := three_facts hq1
      have p0 := (hb1.cell (p := ⟨w.heap.size, 0, none⟩) l0).trans q0
      have HQ := Lib.hid ((hb1.block w.heap.size l0).trans hq)
      have HB1 := Lib.hid (below_next hb hb1)
      clear q0 q1 q2 hq hb hA hW1 hb1 hq1
      by_cases hx : n = K
      · have hbq : (n == K) = true := beq_iff_eq.2 hx
        have HF := Lib.hid (show Z = k by rw [HZ.out]; exact kd_hit k hlt (by rw [← hn]; exact hx))
        clear hn hx
        go_wp2_with fail
        go_ret
        exact ⟨by rw [HF.out]; rfl, HB1.out⟩
      · have hbq : (n == K) = false := beq_eq_false_iff_ne.2 hx
        have HF := Lib.hid (show ∀ j, j < k + 1 → kdN j ≠ K from fun j hj => by
          by_cases e : j = k
          · rw [e, ← hn]; exact hx
          · exact HA.out j (by omega))
        clear hn hx
        go_wp2_with fail
        go_roundw
        case rel => exact ⟨k + 1, by omega, by go_num, HF.out, HQ.out, HB1.out⟩
        case measure => simp [intOf]; omega
    · obtain rfl : k = 4 := by omega
      have hd : decide (((4 : Nat) : Int) < 4) = false := rfl
      have HF := Lib.hid (show Z = 4 by rw [HZ.out]; exact kd_miss HA.out)
      clear hq hb hA
      go_wp2_with fail
      go_ret
      exact ⟨by rw [HF.out]; rfl, HB.out⟩
end Go.Proofs.YtofadgmnjckpcaaGreatDoor
namespace Go.Proofs.YtofadgmnjckpcaaGreatDoor
open Go.RowKit

end Go.Proofs.YtofadgmnjckpcaaGreatDoor
namespace Go.Proofs.YtofadgmnjckpcaaGreatDoor
open Go.RowKit

/-- A name of at most three relative names of at most two attributes, each value of at most L bytes. -/
def SpR (L : Nat) (r : List At) : Prop := r.length ≤ 2 ∧ ∀ x ∈ r, x.1.size ≤ 100 ∧ x.2.2.size ≤ L
def SpN (L : Nat) (n : Nm) : Prop := n.length ≤ 3 ∧ ∀ r ∈ n, SpR L r
theorem next3 (p : Nat) (a : Option Addr) (cap : Nat) (zs : List Int) (k : Nat) (w : World) (h : DeckAt w p a cap zs k) (hk2 : k < 1000) :
    Calls Tryz.prog 21 #[.pointer (some ⟨p, 0, none⟩), .int .i64 3] w fun e w' => ∃ r k' : Nat, r < 3 ∧ e = .returned (.int .i64 (r : Int)) ∧ DeckAt w' p a cap zs k' ∧ k' ≤ k + 1 ∧ But p w w' :=
  next_any p a cap zs k 3 w h hk2 (by omega) (by omega)

theorem getD_memS {α : Type} (l : List α) (i : Nat) (h : i < l.length) (d : α) : l.getD i d ∈ l := by
  rw [List.getD_eq_getElem?_getD, List.getElem?_eq_getElem h]
  exact List.getElem_mem h

end Go.Proofs.YtofadgmnjckpcaaGreatDoor
