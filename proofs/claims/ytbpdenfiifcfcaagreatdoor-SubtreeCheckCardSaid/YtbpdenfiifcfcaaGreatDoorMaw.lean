/-
  The contracts of strings.HasPrefix, HasSuffix, TrimPrefix, CutPrefix, IndexByte, Contains and EqualFold and of internal/stringslite.Index: the library's theorems, laid at the program's own numbers. Nothing is claimed of the program beyond its bodies.
  The table of the kinds of general names, and the contracts of kindOf and taggedKind.
  The contracts of the program's functions that say of one byte whether it may stand in a label or in a local part, and of consists: whether each byte of a text is in a set.
-/
import Derived.Test.YtbpdenfiifcfcaaGreatDoorMaa
import Derived.Test.YtbpdenfiifcfcaaGreatDoorMad
import Derived.Shelf.Strings.Prefix
import Derived.Shelf.Strings.Fold
import Derived.Shelf.Strings.Search3
import Derived.Shelf.Small.Strs
import Derived.Shelf.Small.Wraps
import Derived.Shelf.Vars
import Derived.Test.YtbpdenfiifcfcaaGreatDoorMab
import Derived.Test.YtbpdenfiifcfcaaGreatDoorMav
import Derived.Test.YtbpdenfiifcfcaaGreatDoorMam
namespace Go.Proofs.YtbpdenfiifcfcaaGreatDoor
open Go.Shelf Go.RowKit

def lays99_ren : Go.Shelf.Ren := ⟨fun | 99 => 164 | 206 => 189 | n => n, fun | 3 => 3 | 4 => 4 | 9 => 9 | n => n, fun | n => n⟩
theorem lays99 : Go.Proofs.Lays.n99 Tryz.prog lays99_ren := {
  mixed := by kernel_rfl
  f99 := Tryz.func164.trans (congrArg some (by kernel_rfl))
  f206 := Tryz.func189.trans (congrArg some (by kernel_rfl))
  t3 := Tryz.underlying3
  a3 := Tryz.isAgg3
  z3 := Tryz.sizeOf3
  v3 := Tryz.zeroValue3
  t4 := Tryz.underlying4
  a4 := Tryz.isAgg4
  z4 := Tryz.sizeOf4
  v4 := Tryz.zeroValue4
  t9 := Tryz.underlying9
  a9 := Tryz.isAgg9
  z9 := Tryz.sizeOf9
  v9 := Tryz.zeroValue9 }
def lays100_ren : Go.Shelf.Ren := ⟨fun | 100 => 175 | 207 => 198 | n => n, fun | 3 => 3 | 4 => 4 | 9 => 9 | n => n, fun | n => n⟩
theorem lays100 : Go.Proofs.Lays.n100 Tryz.prog lays100_ren := {
  mixed := by kernel_rfl
  f100 := Tryz.func175.trans (congrArg some (by kernel_rfl))
  f207 := Tryz.func198.trans (congrArg some (by kernel_rfl))
  t3 := Tryz.underlying3
  a3 := Tryz.isAgg3
  z3 := Tryz.sizeOf3
  v3 := Tryz.zeroValue3
  t4 := Tryz.underlying4
  a4 := Tryz.isAgg4
  z4 := Tryz.sizeOf4
  v4 := Tryz.zeroValue4
  t9 := Tryz.underlying9
  a9 := Tryz.isAgg9
  z9 := Tryz.sizeOf9
  v9 := Tryz.zeroValue9 }
def lays101_ren : Go.Shelf.Ren := ⟨fun | 101 => 151 | 206 => 189 | 208 => 174 | n => n, fun | 3 => 3 | 4 => 4 | 9 => 9 | n => n, fun | n => n⟩
theorem lays101 : Go.Proofs.Lays.n101 Tryz.prog lays101_ren := {
  mixed := by kernel_rfl
  f101 := Tryz.func151.trans (congrArg some (by kernel_rfl))
  f206 := Tryz.func189.trans (congrArg some (by kernel_rfl))
  f208 := Tryz.func174.trans (congrArg some (by kernel_rfl))
  t3 := Tryz.underlying3
  a3 := Tryz.isAgg3
  z3 := Tryz.sizeOf3
  v3 := Tryz.zeroValue3
  t4 := Tryz.underlying4
  a4 := Tryz.isAgg4
  z4 := Tryz.sizeOf4
  v4 := Tryz.zeroValue4
  t9 := Tryz.underlying9
  a9 := Tryz.isAgg9
  z9 := Tryz.sizeOf9
  v9 := Tryz.zeroValue9 }
def lays103_ren : Go.Shelf.Ren := ⟨fun | 103 => 154 | 206 => 189 | 210 => 178 | n => n, fun | 3 => 3 | 4 => 4 | 9 => 9 | 24 => 174 | n => n, fun | n => n⟩
theorem lays103 : Go.Proofs.Lays.n103 Tryz.prog lays103_ren := {
  mixed := by kernel_rfl
  f103 := Tryz.func154.trans (congrArg some (by kernel_rfl))
  f206 := Tryz.func189.trans (congrArg some (by kernel_rfl))
  f210 := Tryz.func178.trans (congrArg some (by kernel_rfl))
  t3 := Tryz.underlying3
  a3 := Tryz.isAgg3
  z3 := Tryz.sizeOf3
  v3 := Tryz.zeroValue3
  t4 := Tryz.underlying4
  a4 := Tryz.isAgg4
  z4 := Tryz.sizeOf4
  v4 := Tryz.zeroValue4
  t9 := Tryz.underlying9
  a9 := Tryz.isAgg9
  z9 := Tryz.sizeOf9
  v9 := Tryz.zeroValue9
  t24 := Tryz.underlying174
  a24 := Tryz.isAgg174
  z24 := Tryz.sizeOf174
  v24 := Tryz.zeroValue174 }
def lays144_ren : Go.Shelf.Ren := ⟨fun | 143 => 179 | 144 => 155 | 217 => 207 | 219 => 188 | 224 => 209 | 225 => 208 | 266 => 231 | 267 => 210 | 314 => 232 | n => n, fun | 3 => 3 | 4 => 4 | 5 => 5 | 9 => 9 | 46 => 127 | 51 => 232 | 146 => 237 | n => n, fun | 1 => 1 | n => n⟩
theorem lays144 : Go.Proofs.Lays.n144 Tryz.prog lays144_ren := {
  mixed := by kernel_rfl
  f143 := Tryz.func179.trans (congrArg some (by kernel_rfl))
  f144 := Tryz.func155.trans (congrArg some (by kernel_rfl))
  f217 := Tryz.func207.trans (congrArg some (by kernel_rfl))
  f219 := Tryz.func188.trans (congrArg some (by kernel_rfl))
  f224 := Tryz.func209.trans (congrArg some (by kernel_rfl))
  f225 := Tryz.func208.trans (congrArg some (by kernel_rfl))
  f266 := Tryz.func231.trans (congrArg some (by kernel_rfl))
  f267 := Tryz.func210.trans (congrArg some (by kernel_rfl))
  f314 := Tryz.func232.trans (congrArg some (by kernel_rfl))
  t3 := Tryz.underlying3
  a3 := Tryz.isAgg3
  z3 := Tryz.sizeOf3
  v3 := Tryz.zeroValue3
  t4 := Tryz.underlying4
  a4 := Tryz.isAgg4
  z4 := Tryz.sizeOf4
  v4 := Tryz.zeroValue4
  t5 := Tryz.underlying5
  a5 := Tryz.isAgg5
  z5 := Tryz.sizeOf5
  v5 := Tryz.zeroValue5
  t9 := Tryz.underlying9
  a9 := Tryz.isAgg9
  z9 := Tryz.sizeOf9
  v9 := Tryz.zeroValue9
  t46 := Tryz.underlying127
  a46 := Tryz.isAgg127
  z46 := Tryz.sizeOf127
  v46 := Tryz.zeroValue127
  t51 := Tryz.underlying232
  a51 := Tryz.isAgg232
  z51 := Tryz.sizeOf232
  v51 := Tryz.zeroValue232
  t146 := Tryz.underlying237
  a146 := Tryz.isAgg237
  z146 := Tryz.sizeOf237
  v146 := Tryz.zeroValue237
  g1 := by kernel_rfl }
def lays164_ren : Go.Shelf.Ren := ⟨fun | 164 => 165 | 197 => 190 | 239 => 191 | 260 => 211 | 274 => 212 | 275 => 213 | n => n, fun | 0 => 0 | 3 => 3 | 4 => 4 | 5 => 5 | 9 => 9 | 21 => 21 | 46 => 127 | 49 => 214 | 51 => 232 | 105 => 196 | 119 => 207 | 138 => 209 | 139 => 210 | 156 => 215 | 157 => 216 | 159 => 218 | 160 => 219 | 162 => 221 | 206 => 240 | 208 => 242 | n => n, fun | 3 => 2 | 4 => 3 | 11 => 4 | 12 => 5 | 13 => 6 | n => n⟩
theorem lays164 : Go.Proofs.Lays.n164 Tryz.prog lays164_ren := {
  mixed := by kernel_rfl
  f164 := Tryz.func165.trans (congrArg some (by kernel_rfl))
  f197 := Tryz.func190.trans (congrArg some (by kernel_rfl))
  f239 := Tryz.func191.trans (congrArg some (by kernel_rfl))
  f260 := Tryz.func211.trans (congrArg some (by kernel_rfl))
  f274 := Tryz.func212.trans (congrArg some (by kernel_rfl))
  f275 := Tryz.func213.trans (congrArg some (by kernel_rfl))
  t0 := Tryz.underlying0
  a0 := Tryz.isAgg0
  z0 := Tryz.sizeOf0
  v0 := Tryz.zeroValue0
  t3 := Tryz.underlying3
  a3 := Tryz.isAgg3
  z3 := Tryz.sizeOf3
  v3 := Tryz.zeroValue3
  t4 := Tryz.underlying4
  a4 := Tryz.isAgg4
  z4 := Tryz.sizeOf4
  v4 := Tryz.zeroValue4
  t5 := Tryz.underlying5
  a5 := Tryz.isAgg5
  z5 := Tryz.sizeOf5
  v5 := Tryz.zeroValue5
  t9 := Tryz.underlying9
  a9 := Tryz.isAgg9
  z9 := Tryz.sizeOf9
  v9 := Tryz.zeroValue9
  t21 := Tryz.underlying21
  a21 := Tryz.isAgg21
  z21 := Tryz.sizeOf21
  v21 := Tryz.zeroValue21
  t46 := Tryz.underlying127
  a46 := Tryz.isAgg127
  z46 := Tryz.sizeOf127
  v46 := Tryz.zeroValue127
  t49 := Tryz.underlying214
  a49 := Tryz.isAgg214
  z49 := Tryz.sizeOf214
  v49 := Tryz.zeroValue214
  t51 := Tryz.underlying232
  a51 := Tryz.isAgg232
  z51 := Tryz.sizeOf232
  v51 := Tryz.zeroValue232
  t105 := Tryz.underlying196
  a105 := Tryz.isAgg196
  z105 := Tryz.sizeOf196
  v105 := Tryz.zeroValue196
  t119 := Tryz.underlying207
  a119 := Tryz.isAgg207
  z119 := Tryz.sizeOf207
  t138 := Tryz.underlying209
  a138 := Tryz.isAgg209
  z138 := Tryz.sizeOf209
  v138 := Tryz.zeroValue209
  t139 := Tryz.underlying210
  a139 := Tryz.isAgg210
  z139 := Tryz.sizeOf210
  v139 := Tryz.zeroValue210
  t156 := Tryz.underlying215
  a156 := Tryz.isAgg215
  z156 := Tryz.sizeOf215
  t157 := Tryz.underlying216
  a157 := Tryz.isAgg216
  z157 := Tryz.sizeOf216
  v157 := Tryz.zeroValue216
  t159 := Tryz.underlying218
  a159 := Tryz.isAgg218
  z159 := Tryz.sizeOf218
  v159 := Tryz.zeroValue218
  t160 := Tryz.underlying219
  a160 := Tryz.isAgg219
  z160 := Tryz.sizeOf219
  v160 := Tryz.zeroValue219
  t162 := Tryz.underlying221
  a162 := Tryz.isAgg221
  z162 := Tryz.sizeOf221
  v162 := Tryz.zeroValue221
  t206 := Tryz.underlying240
  a206 := Tryz.isAgg240
  z206 := Tryz.sizeOf240
  v206 := Tryz.zeroValue240
  t208 := Tryz.underlying242
  a208 := Tryz.isAgg242
  z208 := Tryz.sizeOf242
  v208 := Tryz.zeroValue242
  g3 := by kernel_rfl
  g4 := by kernel_rfl
  g11 := by kernel_rfl
  g12 := by kernel_rfl
  g13 := by kernel_rfl }

/-- The library's variable MaxLen holds some number. -/
def Mx (w : World) : Prop := ∃ m, w.cell? ⟨1, 0, none⟩ = some (.int .i64 m)
theorem Mx.below {w w' : World} (h : Mx w) (hb : Below w.heap.size w w') : Mx w' := by
  obtain ⟨m, hm⟩ := h
  exact ⟨m, (hb.cell (p := ⟨_, 0, none⟩) (World.block_lt_of_cell? _ _ hm)).trans hm⟩
theorem mx_shaped {w : World} (h : w.ShapedOpen Tryz.prog) : Mx w :=
  cell_of_shapedOpen_int (zero := #[.int .i64 0]) (t := 3) h (of_decide_eq_true (by kernel_rfl)) (by kernel_rfl) rfl (by kernel_rfl) (by kernel_rfl) Tryz.underlying3
end Go.Proofs.YtbpdenfiifcfcaaGreatDoor
namespace Go.Proofs.YtbpdenfiifcfcaaGreatDoor
open Go.RowKit

def kdN (k : Nat) : Int := [1, 2, 4, 7].getD k 0
def kdG (k : Nat) : Int := [129, 130, 164, 135].getD k 0
def kdW (k : Nat) : ByteArray := [⟨#[109, 97, 105, 108, 58]⟩, ⟨#[100, 110, 115, 58]⟩, ⟨#[100, 105, 114, 58]⟩, ⟨#[105, 112, 58]⟩].getD k ⟨#[]⟩
def kdArr : Array Value := #[.int .i64 1, .int .i64 129, .string ⟨#[109, 97, 105, 108, 58]⟩, .int .i64 2, .int .i64 130, .string ⟨#[100, 110, 115, 58]⟩, .int .i64 4, .int .i64 164, .string ⟨#[100, 105, 114, 58]⟩, .int .i64 7, .int .i64 135, .string ⟨#[105, 112, 58]⟩]
/-- The place of a kind in the table; 4 for none. -/
def kdOf (K : Int) : Nat := if K = 1 then 0 else if K = 2 then 1 else if K = 4 then 2 else if K = 7 then 3 else 4
/-- The table lies as the program's text lays it. -/
def KdT (w : World) : Prop := ∀ j, j < 12 → w.cell? ⟨0, j, none⟩ = kdArr[j]?
theorem KdT.lt {w : World} (h : KdT w) : 0 < w.heap.size := block_lt ((h 0 (by omega)).trans rfl)
theorem KdT.below {w w' : World} (h : KdT w) (hb : Below w.heap.size w w') : KdT w' := fun j hj => (hb.cell (p := ⟨0, j, none⟩) h.lt).trans (h j hj)
/-- What the functions of package gname read besides what they are handed. -/
def Mk (w : World) : Prop := Mx w ∧ KdT w
theorem Mk.below {w w' : World} (h : Mk w) (hb : Below w.heap.size w w') : Mk w' := ⟨h.1.below hb, h.2.below hb⟩
theorem KdT.cells {w : World} (h : KdT w) :
    w.cell? ⟨0, 0, none⟩ = some (.int .i64 1) ∧ w.cell? ⟨0, 1, none⟩ = some (.int .i64 129) ∧ w.cell? ⟨0, 2, none⟩ = some (.string ⟨#[109, 97, 105, 108, 58]⟩) ∧
    w.cell? ⟨0, 3, none⟩ = some (.int .i64 2) ∧ w.cell? ⟨0, 4, none⟩ = some (.int .i64 130) ∧ w.cell? ⟨0, 5, none⟩ = some (.string ⟨#[100, 110, 115, 58]⟩) ∧
    w.cell? ⟨0, 6, none⟩ = some (.int .i64 4) ∧ w.cell? ⟨0, 7, none⟩ = some (.int .i64 164) ∧ w.cell? ⟨0, 8, none⟩ = some (.string ⟨#[100, 105, 114, 58]⟩) ∧
    w.cell? ⟨0, 9, none⟩ = some (.int .i64 7) ∧ w.cell? ⟨0, 10, none⟩ = some (.int .i64 135) ∧ w.cell? ⟨0, 11, none⟩ = some (.string ⟨#[105, 112, 58]⟩) :=
  ⟨h 0 (by omega), h 1 (by omega), h 2 (by omega), h 3 (by omega), h 4 (by omega), h 5 (by omega), h 6 (by omega), h 7 (by omega), h 8 (by omega), h 9 (by omega), h 10 (by omega), h 11 (by omega)⟩
theorem index_kd (k : Nat) (hk : k < 4) (w : World) : (Instr.index 144 (.agg #[.int .i64 1, .int .i64 129, .string ⟨#[109, 97, 105, 108, 58]⟩, .int .i64 2, .int .i64 130, .string ⟨#[100, 110, 115, 58]⟩, .int .i64 4, .int .i64 164, .string ⟨#[100, 105, 114, 58]⟩, .int .i64 7, .int .i64 135, .string ⟨#[105, 112, 58]⟩]) (.int .i64 (k : Int))).run Tryz.prog w = .ok (.agg #[.int .i64 (kdN k), .int .i64 (kdG k), .string (kdW k)]) w := by
  rcases (by omega : k = 0 ∨ k = 1 ∨ k = 2 ∨ k = 3) with rfl | rfl | rfl | rfl <;> kernel_rfl
theorem kd_hit {K : Int} (k : Nat) (hk : k < 4) (h2 : kdN k = K) : kdOf K = k := by
  subst h2
  rcases (by omega : k = 0 ∨ k = 1 ∨ k = 2 ∨ k = 3) with rfl | rfl | rfl | rfl <;> decide
theorem kd_miss {K : Int} (h : ∀ j, j < 4 → kdN j ≠ K) : kdOf K = 4 := by
  unfold kdOf
  rw [if_neg (fun e => h 0 (by omega) e.symm), if_neg (fun e => h 1 (by omega) e.symm), if_neg (fun e => h 2 (by omega) e.symm), if_neg (fun e => h 3 (by omega) e.symm)]
theorem kdOf_no {K : Int} (h : K ≠ 1 ∧ K ≠ 2 ∧ K ≠ 4 ∧ K ≠ 7) : kdOf K = 4 := by
  unfold kdOf
  rw [if_neg h.1, if_neg h.2.1, if_neg h.2.2.1, if_neg h.2.2.2]

set_option maxRecDepth 100000 in
set_option maxHeartbeats 4000000 in
theorem gkind_any (K : Int) (s : ByteArray) (a : Option Addr) (m c : Nat) (w : World) (h : KdT w) :
    Calls Tryz.prog 100 #[.agg #[.int .i64 K, .string s, .slice a m c]] w fun e w' => e = .returned (.int .i64 ((kdOf K : Nat) : Int)) ∧ Below w.heap.size w w' := by
  obtain ⟨W0, hW0⟩ : ∃ W0, W0 = w.alloc (.cells #[.int .i64 K, .string s, .slice a m c] 29) := ⟨_, rfl⟩
  have hwr : w.alloc (.cells #[.int .i64 K, .string s, .slice a m c] 29) = W0 := hW0.symm
  have hb0 : Below w.heap.size w W0 := by rw [hW0]; exact belowNew w _
  have hq0 : W0.heap[w.heap.size]? = some (.cells #[.int .i64 K, .string s, .slice a m c] 29 (0, 0)) := by rw [hW0]; exact heap_alloc_new w _
  obtain ⟨c0, c1, c2, c3, c4, c5, c6, c7, c8, c9, c10, c11⟩ := (h.below hb0).cells
  have HB0 := Lib.hid hb0
  have HQ0 := Lib.hid hq0
  obtain ⟨Z, hZ⟩ : ∃ Z, Z = kdOf K := ⟨_, rfl⟩
  have HZ := Lib.hid hZ
  rw [← hZ]
  clear h hZ hW0 hb0 hq0
  go_enter Tryz.func100, Tryz.ntmps100
  go_wp2_with fail
  clear c0 c1 c2 c3 c4 c5 c6 c7 c8 c9 c10 c11
  go_loopw [6] (fun i wr => ∃ k : Nat, k ≤ 4 ∧ i = .int .i64 k ∧ (∀ j, j < k → kdN j ≠ K) ∧ wr.heap[w.heap.size]? = some (.cells #[.int .i64 K, .string s, .slice a m c] 29 (0, 0)) ∧ Below w.heap.size w wr) (fun i _ => 4 - (intOf i).toNat)
  case atStart => exact ⟨0, by omega, rfl, fun j hj => absurd hj (Nat.not_lt_zero _), HQ0.out, HB0.out⟩
  case round =>
    obtain ⟨k, hk, rfl, hA, hq, hb⟩ := hrel
    have HB := Lib.hid hb
    have HA := Lib.hid hA
    by_cases hlt : k < 4
    · have hd : decide ((k : Int) < 4) = true := by simp; omega
      have hix := index_kd k hlt
      obtain ⟨n, hn⟩ : ∃ n, n = kdN k := ⟨_, rfl⟩
      rw [← hn] at hix
      generalize kdG k = g at hix
      generalize kdW k = x at hix
      obtain ⟨q0, q1, q2, l0⟩ := three_facts hq
      obtain ⟨W1, hW1⟩ : ∃ W1, W1 = wr.alloc (.cells #[.int .i64 n, .int .i64 g, .string x] 143) := ⟨_, rfl⟩
      have hwr1 : wr.alloc (.cells #[.int .i64 n, .int .i64 g, .string x] 143) = W1 := hW1.symm
      have hb1 : Below wr.heap.size wr W1 := by rw [hW1]; exact belowNew wr _
      have hq1 : W1.heap[wr.heap.size]? = some (.cells #[.int .i64 n, .int .i64 g, .string x] 143 (0, 0)) := by rw [hW1]; exact heap_alloc_new wr _
      obtain ⟨r0, r1, r2, l1⟩ := three_facts hq1
      have p0 := (hb1.cell (p := ⟨w.heap.size, 0, none⟩) l0).trans q0
      have HQ := Lib.hid ((hb1.block w.heap.size l0).trans hq)
      have HB1 := Lib.hid (below_next hb hb1)
      clear q0 q1 q2 hq hb hA hW1 hb1 hq1
      by_cases hx : n = K
      · have hbq : (n == K) = true := beq_iff_eq.2 hx
        have HF := Lib.hid (show Z = k by rw [HZ.out]; exact kd_hit k hlt (by rw [← hn]; exact hx))
        clear hn hx
        go_wp2_with fail
        go_ret
        exact ⟨by rw [HF.out]; rfl, HB1.out⟩
      · have hbq : (n == K) = false := beq_eq_false_iff_ne.2 hx
        have HF := Lib.hid (show ∀ j, j < k + 1 → kdN j ≠ K from fun j hj => by
          by_cases e : j = k
          · rw [e, ← hn]; exact hx
          · exact HA.out j (by omega))
        clear hn hx
        go_wp2_with fail
        go_roundw
        case rel => exact ⟨k + 1, by omega, by go_num, HF.out, HQ.out, HB1.out⟩
        case measure => simp [intOf]; omega
    · obtain rfl : k = 4 := by omega
      have hd : decide (((4 : Nat) : Int) < 4) = false := rfl
      have HF := Lib.hid (show Z = 4 by rw [HZ.out]; exact kd_miss HA.out)
      clear hq hb hA
      go_wp2_with fail
      go_ret
      exact ⟨by rw [HF.out]; rfl, HB.out⟩
end Go.Proofs.YtbpdenfiifcfcaaGreatDoor
namespace Go.Proofs.YtbpdenfiifcfcaaGreatDoor
open Go.RowKit

theorem pidx_any (s : ByteArray) (c : UInt8) (w : World) : Calls Tryz.prog 200 #[.string s, .int .u8 ((c.toNat : Nat) : Int)] w fun e w' => e = .returned (.int .i64 (Lib.indexByte s.data.toList c)) ∧ w' = w := by
  have h := Any.strings_IndexByte lays137 s ((c.toNat : Nat) : Int) w
  have e : ((c.toNat : Nat) : Int).toNat.toUInt8 = c := by simp
  rw [e] at h
  exact h
set_option maxHeartbeats 1000000 in
theorem palnum_any (n : Nat) (w : World) :
    Calls Tryz.prog 199 #[.int .u8 (n : Int)] w fun e w' => e = .returned (.bool (alnum n)) ∧ w' = w := by
  rcases (by omega : (n < 48) ∨ (48 ≤ n ∧ n ≤ 57) ∨ (58 ≤ n ∧ n ≤ 64) ∨ (65 ≤ n ∧ n ≤ 90) ∨ (91 ≤ n ∧ n ≤ 96) ∨ (97 ≤ n ∧ n ≤ 122) ∨ (123 ≤ n)) with h | h | h | h | h | h | h
  · have hr : alnum n = false := by simp [alnum]; omega
    have d0 : decide ((65 : Int) ≤ (n : Int)) = false := by simp; omega
    have d1 : decide ((n : Int) ≤ 90) = true := by simp; omega
    have d2 : decide ((97 : Int) ≤ (n : Int)) = false := by simp; omega
    have d3 : decide ((n : Int) ≤ 122) = true := by simp; omega
    have d4 : decide ((48 : Int) ≤ (n : Int)) = false := by simp; omega
    have d5 : decide ((n : Int) ≤ 57) = true := by simp; omega
    have HR := Lib.hid hr
    clear hr h
    go_enter Tryz.func199, Tryz.ntmps199
    go_wp2_with fail
    go_ret
    exact ⟨by rw [HR.out]; rfl, rfl⟩
  · have hr : alnum n = true := by simp [alnum]; omega
    have d0 : decide ((65 : Int) ≤ (n : Int)) = false := by simp; omega
    have d1 : decide ((n : Int) ≤ 90) = true := by simp; omega
    have d2 : decide ((97 : Int) ≤ (n : Int)) = false := by simp; omega
    have d3 : decide ((n : Int) ≤ 122) = true := by simp; omega
    have d4 : decide ((48 : Int) ≤ (n : Int)) = true := by simp; omega
    have d5 : decide ((n : Int) ≤ 57) = true := by simp; omega
    have HR := Lib.hid hr
    clear hr h
    go_enter Tryz.func199, Tryz.ntmps199
    go_wp2_with fail
    go_ret
    exact ⟨by rw [HR.out]; rfl, rfl⟩
  · have hr : alnum n = false := by simp [alnum]; omega
    have d0 : decide ((65 : Int) ≤ (n : Int)) = false := by simp; omega
    have d1 : decide ((n : Int) ≤ 90) = true := by simp; omega
    have d2 : decide ((97 : Int) ≤ (n : Int)) = false := by simp; omega
    have d3 : decide ((n : Int) ≤ 122) = true := by simp; omega
    have d4 : decide ((48 : Int) ≤ (n : Int)) = true := by simp; omega
    have d5 : decide ((n : Int) ≤ 57) = false := by simp; omega
    have HR := Lib.hid hr
    clear hr h
    go_enter Tryz.func199, Tryz.ntmps199
    go_wp2_with fail
    go_ret
    exact ⟨by rw [HR.out]; rfl, rfl⟩
  · have hr : alnum n = true := by simp [alnum]; omega
    have d0 : decide ((65 : Int) ≤ (n : Int)) = true := by simp; omega
    have d1 : decide ((n : Int) ≤ 90) = true := by simp; omega
    have d2 : decide ((97 : Int) ≤ (n : Int)) = false := by simp; omega
    have d3 : decide ((n : Int) ≤ 122) = true := by simp; omega
    have d4 : decide ((48 : Int) ≤ (n : Int)) = true := by simp; omega
    have d5 : decide ((n : Int) ≤ 57) = false := by simp; omega
    have HR := Lib.hid hr
    clear hr h
    go_enter Tryz.func199, Tryz.ntmps199
    go_wp2_with fail
    go_ret
    exact ⟨by rw [HR.out]; rfl, rfl⟩
  · have hr : alnum n = false := by simp [alnum]; omega
    have d0 : decide ((65 : Int) ≤ (n : Int)) = true := by simp; omega
    have d1 : decide ((n : Int) ≤ 90) = false := by simp; omega
    have d2 : decide ((97 : Int) ≤ (n : Int)) = false := by simp; omega
    have d3 : decide ((n : Int) ≤ 122) = true := by simp; omega
    have d4 : decide ((48 : Int) ≤ (n : Int)) = true := by simp; omega
    have d5 : decide ((n : Int) ≤ 57) = false := by simp; omega
    have HR := Lib.hid hr
    clear hr h
    go_enter Tryz.func199, Tryz.ntmps199
    go_wp2_with fail
    go_ret
    exact ⟨by rw [HR.out]; rfl, rfl⟩
  · have hr : alnum n = true := by simp [alnum]; omega
    have d0 : decide ((65 : Int) ≤ (n : Int)) = true := by simp; omega
    have d1 : decide ((n : Int) ≤ 90) = false := by simp; omega
    have d2 : decide ((97 : Int) ≤ (n : Int)) = true := by simp; omega
    have d3 : decide ((n : Int) ≤ 122) = true := by simp; omega
    have d4 : decide ((48 : Int) ≤ (n : Int)) = true := by simp; omega
    have d5 : decide ((n : Int) ≤ 57) = false := by simp; omega
    have HR := Lib.hid hr
    clear hr h
    go_enter Tryz.func199, Tryz.ntmps199
    go_wp2_with fail
    go_ret
    exact ⟨by rw [HR.out]; rfl, rfl⟩
  · have hr : alnum n = false := by simp [alnum]; omega
    have d0 : decide ((65 : Int) ≤ (n : Int)) = true := by simp; omega
    have d1 : decide ((n : Int) ≤ 90) = false := by simp; omega
    have d2 : decide ((97 : Int) ≤ (n : Int)) = true := by simp; omega
    have d3 : decide ((n : Int) ≤ 122) = false := by simp; omega
    have d4 : decide ((48 : Int) ≤ (n : Int)) = true := by simp; omega
    have d5 : decide ((n : Int) ≤ 57) = false := by simp; omega
    have HR := Lib.hid hr
    clear hr h
    go_enter Tryz.func199, Tryz.ntmps199
    go_wp2_with fail
    go_ret
    exact ⟨by rw [HR.out]; rfl, rfl⟩


theorem palnum_is {c : UInt8} {b : Bool} (h : alnum c.toNat = b) (w : World) : Calls Tryz.prog 199 #[.int .u8 ((c.toNat : Nat) : Int)] w fun e w' => e = .returned (.bool b) ∧ w' = w := by
  have := palnum_any c.toNat w
  rwa [h] at this
set_option maxHeartbeats 1000000 in
theorem plb_any (c : UInt8) (w : World) : Calls Tryz.prog 197 #[.int .u8 ((c.toNat : Nat) : Int)] w fun e w' => e = .returned (.bool (lblB c)) ∧ w' = w := by
  cases ha : alnum c.toNat with
  | true =>
    have HR := Lib.hid (show lblB c = true by unfold lblB; rw [ha]; rfl)
    have HA := Lib.hid (fun w => palnum_is ha w)
    clear ha
    go_enter Tryz.func197, Tryz.ntmps197
    go_wp2_with (go_at_call 199; (with_reducible refine (HA.out _).mono ?_); rintro e w1 ⟨rfl, rfl⟩)
    go_ret
    exact ⟨by rw [HR.out]; rfl, rfl⟩
  | false =>
    have HA := Lib.hid (fun w => palnum_is ha w)
    by_cases h : c = 45
    · have d : (((c.toNat : Nat) : Int) == (45 : Int)) = true := by rw [h]; rfl
      have HR := Lib.hid (show lblB c = true by unfold lblB; rw [h]; rfl)
      clear ha h
      go_enter Tryz.func197, Tryz.ntmps197
      go_wp2_with (go_at_call 199; (with_reducible refine (HA.out _).mono ?_); rintro e w1 ⟨rfl, rfl⟩)
      go_ret
      exact ⟨by rw [HR.out]; rfl, rfl⟩
    · have d : (((c.toNat : Nat) : Int) == (45 : Int)) = false := by
        have : ¬ c.toNat = 45 := fun k => h (UInt8.toNat_inj.1 k)
        simp; omega
      have HR := Lib.hid (show lblB c = false by unfold lblB; rw [ha, beq_eq_false_iff_ne.2 h]; rfl)
      clear ha h
      go_enter Tryz.func197, Tryz.ntmps197
      go_wp2_with (go_at_call 199; (with_reducible refine (HA.out _).mono ?_); rintro e w1 ⟨rfl, rfl⟩)
      go_ret
      exact ⟨by rw [HR.out]; rfl, rfl⟩

def locB (c : UInt8) : Bool := alnum c.toNat || signsL.contains c
theorem pidx_signs (c : UInt8) (w : World) : Calls Tryz.prog 200 #[.string ⟨#[33, 35, 36, 37, 38, 39, 42, 43, 45, 47, 61, 63, 94, 95, 96, 123, 124, 125, 126, 46]⟩, .int .u8 ((c.toNat : Nat) : Int)] w fun e w' => e = .returned (.int .i64 (Lib.indexByte signsL c)) ∧ w' = w :=
  pidx_any ⟨#[33, 35, 36, 37, 38, 39, 42, 43, 45, 47, 61, 63, 94, 95, 96, 123, 124, 125, 126, 46]⟩ c w
set_option maxHeartbeats 1000000 in
theorem pxb_any (c : UInt8) (w : World) : Calls Tryz.prog 177 #[.int .u8 ((c.toNat : Nat) : Int)] w fun e w' => e = .returned (.bool (locB c)) ∧ w' = w := by
  cases ha : alnum c.toNat with
  | true =>
    have HR := Lib.hid (show locB c = true by unfold locB; rw [ha]; rfl)
    have HA := Lib.hid (fun w => palnum_is ha w)
    clear ha
    go_enter Tryz.func177, Tryz.ntmps177
    go_wp2_with (go_at_call 199; (with_reducible refine (HA.out _).mono ?_); rintro e w1 ⟨rfl, rfl⟩)
    go_ret
    exact ⟨by rw [HR.out]; rfl, rfl⟩
  | false =>
    have HA := Lib.hid (fun w => palnum_is ha w)
    have HX := Lib.hid (fun w => pidx_signs c w)
    have HR := Lib.hid (show locB c = decide (0 ≤ Lib.indexByte signsL c) by unfold locB; rw [ha, idx_has]; rfl)
    generalize Lib.indexByte signsL c = z at HX HR
    clear ha
    cases hz : decide ((0 : Int) ≤ z)
    · rw [hz] at HR
      go_enter Tryz.func177, Tryz.ntmps177
      go_wp2_with (first
        | (go_at_call 199; (with_reducible refine (HA.out _).mono ?_); rintro e w1 ⟨rfl, rfl⟩)
        | (go_at_call 200; (with_reducible refine (HX.out _).mono ?_); rintro e w1 ⟨rfl, rfl⟩))
      go_ret
      exact ⟨by rw [HR.out]; rfl, rfl⟩
    · rw [hz] at HR
      go_enter Tryz.func177, Tryz.ntmps177
      go_wp2_with (first
        | (go_at_call 199; (with_reducible refine (HA.out _).mono ?_); rintro e w1 ⟨rfl, rfl⟩)
        | (go_at_call 200; (with_reducible refine (HX.out _).mono ?_); rintro e w1 ⟨rfl, rfl⟩))
      go_ret
      exact ⟨by rw [HR.out]; rfl, rfl⟩

/-- The function numbered g says of each byte whether p holds. -/
def PaysB (g : Nat) (p : UInt8 → Bool) : Prop := ∀ (c : UInt8) w, Calls Tryz.prog g #[.int .u8 ((c.toNat : Nat) : Int)] w fun e w' => e = .returned (.bool (p c)) ∧ w' = w
set_option maxRecDepth 100000 in
set_option maxHeartbeats 2000000 in
theorem pcons_any (g : Nat) (eg : ∀ args w, (callFunc g args).run Tryz.prog w = .ok (.enter g args) w) (p : UInt8 → Bool) (hp : PaysB g p) (L : List UInt8) (hL : L.length ≤ 150000) (w : World) :
    Calls Tryz.prog 176 #[.string (strOf L), .func (.func g) #[] #[]] w fun e w' => e = .returned (.bool (L.all p)) ∧ w' = w := by
  have es := strOf_size L
  have HP := Lib.hid hp
  clear hp
  go_enter Tryz.func176, Tryz.ntmps176
  go_wp2_with fail
  go_loopw [8] (fun i wr => ∃ m : Nat, m ≤ L.length ∧ i = .int .i64 (m : Int) ∧ L.all p = (L.drop m).all p ∧ wr = w) (fun i _ => L.length - (intOf i).toNat)
  case atStart => exact ⟨0, Nat.zero_le _, rfl, rfl, rfl⟩
  case round =>
    obtain ⟨m, hm, rfl, hal, rfl⟩ := hrel
    by_cases hmt : m < L.length
    · have hd : decide ((m : Int) < (L.length : Int)) = true := by simp; omega
      obtain ⟨c, hc, hcn⟩ := u8at_list (strOf L) m (by rw [es]; exact hmt)
      have hix := run_index_u8 (P := Tryz.prog) Tryz.underlying9 (strOf L) m (by rw [es]; exact hmt) (m : Int) rfl
      rw [hcn] at hix
      rw [strOf_list] at hc
      rw [drop_cons hc, List.all_cons] at hal
      have HAL := Lib.hid hal
      have HC := Lib.hid (HP.out c wr)
      clear hc hcn hal
      cases ha : p c with
      | true =>
        rw [ha] at HAL HC
        have HN2 := Lib.hid (show L.all p = (L.drop (m + 1)).all p by rw [HAL.out, Bool.true_and])
        clear ha
        go_wp2_with (go_at_fn g; refine HC.out.mono ?_; rintro e W' ⟨rfl, rfl⟩)
        go_roundw
        case rel => exact ⟨m + 1, by omega, by go_num, HN2.out, by first | exact trivial | rfl⟩
        case measure => simp [intOf]; omega
      | false =>
        rw [ha] at HAL HC
        have HF := Lib.hid (show L.all p = false by rw [HAL.out, Bool.false_and])
        clear ha
        go_wp2_with (go_at_fn g; refine HC.out.mono ?_; rintro e W' ⟨rfl, rfl⟩)
        go_ret
        exact ⟨by rw [HF.out]; rfl, rfl⟩
    · have hd : decide ((m : Int) < (L.length : Int)) = false := by simp; omega
      have HF := Lib.hid (show L.all p = true by rw [hal, List.drop_eq_nil_of_le (by omega)]; rfl)
      clear hal
      go_wp2_with fail
      go_ret
      exact ⟨by rw [HF.out]; rfl, rfl⟩
theorem pcons_lb (L : List UInt8) (hL : L.length ≤ 150000) (w : World) : Calls Tryz.prog 176 #[.string (strOf L), .func (.func 197) #[] #[]] w fun e w' => e = .returned (.bool (L.all lblB)) ∧ w' = w :=
  pcons_any _ (enters_of Tryz.func197 (by kernel_rfl) rfl) lblB plb_any L hL w
theorem pcons_xb (L : List UInt8) (hL : L.length ≤ 150000) (w : World) : Calls Tryz.prog 176 #[.string (strOf L), .func (.func 177) #[] #[]] w fun e w' => e = .returned (.bool (L.all locB)) ∧ w' = w :=
  pcons_any _ (enters_of Tryz.func177 (by kernel_rfl) rfl) locB pxb_any L hL w
end Go.Proofs.YtbpdenfiifcfcaaGreatDoor
