/-
  The contracts of strings.HasPrefix, HasSuffix, TrimPrefix, CutPrefix, IndexByte, Contains and EqualFold and of internal/stringslite.Index: the library's theorems, laid at the program's own numbers. Nothing is claimed of the program beyond its bodies.
  The table of the kinds of general names, and the contracts of kindOf and taggedKind.
  The contracts of the program's functions that say of one byte whether it may stand in a label or in a local part, and of consists: whether each byte of a text is in a set.
  The contract of isLabel of the program: whether a text is a label of a DNS name.
  The contract of strings.SplitSeq at a point: the function that it hands back gives the pieces of the text, one after the other, to whatever function it is handed, until that one says no.
-/
import Derived.Test.YtflpajbcomhkpaaGreatDoorRaa
import Derived.Test.YtflpajbcomhkpaaGreatDoorRad
import Derived.Shelf.Strings.Prefix
import Derived.Shelf.Strings.Fold
import Derived.Shelf.Strings.Search3
import Derived.Shelf.Small.Strs
import Derived.Shelf.Small.Wraps
import Derived.Shelf.Vars
import Derived.Test.YtflpajbcomhkpaaGreatDoorRac
import Derived.Test.YtflpajbcomhkpaaGreatDoorRau
import Derived.Test.YtflpajbcomhkpaaGreatDoorRak
import Derived.RangeFuncOwn
import Derived.RangeFuncLeaves
import Derived.RangeFuncCalls
import Derived.Shelf.Abstract
import Derived.Shelf.RegionOpen
import Derived.OwnWalkIn
import Derived.TacticsInMore
import Derived.LoopNIn
import Derived.LoopIn
namespace Go.Proofs.YtflpajbcomhkpaaGreatDoor
open Go.Shelf Go.RowKit

def lays99_ren : Go.Shelf.Ren := ⟨fun | 99 => 221 | 206 => 175 | n => n, fun | 3 => 3 | 4 => 4 | 9 => 9 | n => n, fun | n => n⟩
theorem lays99 : Go.Proofs.Lays.n99 Tryz.prog lays99_ren := {
  mixed := by kernel_rfl
  f99 := Tryz.func221.trans (congrArg some (by kernel_rfl))
  f206 := Tryz.func175.trans (congrArg some (by kernel_rfl))
  t3 := Tryz.underlying3
  a3 := Tryz.isAgg3
  z3 := Tryz.sizeOf3
  v3 := Tryz.zeroValue3
  t4 := Tryz.underlying4
  a4 := Tryz.isAgg4
  z4 := Tryz.sizeOf4
  v4 := Tryz.zeroValue4
  t9 := Tryz.underlying9
  a9 := Tryz.isAgg9
  z9 := Tryz.sizeOf9
  v9 := Tryz.zeroValue9 }
def lays100_ren : Go.Shelf.Ren := ⟨fun | 100 => 222 | 207 => 266 | n => n, fun | 3 => 3 | 4 => 4 | 9 => 9 | n => n, fun | n => n⟩
theorem lays100 : Go.Proofs.Lays.n100 Tryz.prog lays100_ren := {
  mixed := by kernel_rfl
  f100 := Tryz.func222.trans (congrArg some (by kernel_rfl))
  f207 := Tryz.func266.trans (congrArg some (by kernel_rfl))
  t3 := Tryz.underlying3
  a3 := Tryz.isAgg3
  z3 := Tryz.sizeOf3
  v3 := Tryz.zeroValue3
  t4 := Tryz.underlying4
  a4 := Tryz.isAgg4
  z4 := Tryz.sizeOf4
  v4 := Tryz.zeroValue4
  t9 := Tryz.underlying9
  a9 := Tryz.isAgg9
  z9 := Tryz.sizeOf9
  v9 := Tryz.zeroValue9 }
def lays101_ren : Go.Shelf.Ren := ⟨fun | 101 => 195 | 206 => 175 | 208 => 230 | n => n, fun | 3 => 3 | 4 => 4 | 9 => 9 | n => n, fun | n => n⟩
theorem lays101 : Go.Proofs.Lays.n101 Tryz.prog lays101_ren := {
  mixed := by kernel_rfl
  f101 := Tryz.func195.trans (congrArg some (by kernel_rfl))
  f206 := Tryz.func175.trans (congrArg some (by kernel_rfl))
  f208 := Tryz.func230.trans (congrArg some (by kernel_rfl))
  t3 := Tryz.underlying3
  a3 := Tryz.isAgg3
  z3 := Tryz.sizeOf3
  v3 := Tryz.zeroValue3
  t4 := Tryz.underlying4
  a4 := Tryz.isAgg4
  z4 := Tryz.sizeOf4
  v4 := Tryz.zeroValue4
  t9 := Tryz.underlying9
  a9 := Tryz.isAgg9
  z9 := Tryz.sizeOf9
  v9 := Tryz.zeroValue9 }
def lays103_ren : Go.Shelf.Ren := ⟨fun | 103 => 94 | 206 => 175 | 210 => 136 | n => n, fun | 3 => 3 | 4 => 4 | 9 => 9 | 24 => 96 | n => n, fun | n => n⟩
theorem lays103 : Go.Proofs.Lays.n103 Tryz.prog lays103_ren := {
  mixed := by kernel_rfl
  f103 := Tryz.func94.trans (congrArg some (by kernel_rfl))
  f206 := Tryz.func175.trans (congrArg some (by kernel_rfl))
  f210 := Tryz.func136.trans (congrArg some (by kernel_rfl))
  t3 := Tryz.underlying3
  a3 := Tryz.isAgg3
  z3 := Tryz.sizeOf3
  v3 := Tryz.zeroValue3
  t4 := Tryz.underlying4
  a4 := Tryz.isAgg4
  z4 := Tryz.sizeOf4
  v4 := Tryz.zeroValue4
  t9 := Tryz.underlying9
  a9 := Tryz.isAgg9
  z9 := Tryz.sizeOf9
  v9 := Tryz.zeroValue9
  t24 := Tryz.underlying96
  a24 := Tryz.isAgg96
  z24 := Tryz.sizeOf96
  v24 := Tryz.zeroValue96 }
def lays144_ren : Go.Shelf.Ren := ⟨fun | 143 => 183 | 144 => 147 | 217 => 206 | 219 => 187 | 224 => 216 | 225 => 215 | 266 => 248 | 267 => 217 | 314 => 265 | n => n, fun | 3 => 3 | 4 => 4 | 5 => 5 | 9 => 9 | 46 => 135 | 51 => 226 | 146 => 237 | n => n, fun | 1 => 2 | n => n⟩
theorem lays144 : Go.Proofs.Lays.n144 Tryz.prog lays144_ren := {
  mixed := by kernel_rfl
  f143 := Tryz.func183.trans (congrArg some (by kernel_rfl))
  f144 := Tryz.func147.trans (congrArg some (by kernel_rfl))
  f217 := Tryz.func206.trans (congrArg some (by kernel_rfl))
  f219 := Tryz.func187.trans (congrArg some (by kernel_rfl))
  f224 := Tryz.func216.trans (congrArg some (by kernel_rfl))
  f225 := Tryz.func215.trans (congrArg some (by kernel_rfl))
  f266 := Tryz.func248.trans (congrArg some (by kernel_rfl))
  f267 := Tryz.func217.trans (congrArg some (by kernel_rfl))
  f314 := Tryz.func265.trans (congrArg some (by kernel_rfl))
  t3 := Tryz.underlying3
  a3 := Tryz.isAgg3
  z3 := Tryz.sizeOf3
  v3 := Tryz.zeroValue3
  t4 := Tryz.underlying4
  a4 := Tryz.isAgg4
  z4 := Tryz.sizeOf4
  v4 := Tryz.zeroValue4
  t5 := Tryz.underlying5
  a5 := Tryz.isAgg5
  z5 := Tryz.sizeOf5
  v5 := Tryz.zeroValue5
  t9 := Tryz.underlying9
  a9 := Tryz.isAgg9
  z9 := Tryz.sizeOf9
  v9 := Tryz.zeroValue9
  t46 := Tryz.underlying135
  a46 := Tryz.isAgg135
  z46 := Tryz.sizeOf135
  v46 := Tryz.zeroValue135
  t51 := Tryz.underlying226
  a51 := Tryz.isAgg226
  z51 := Tryz.sizeOf226
  v51 := Tryz.zeroValue226
  t146 := Tryz.underlying237
  a146 := Tryz.isAgg237
  z146 := Tryz.sizeOf237
  v146 := Tryz.zeroValue237
  g1 := by kernel_rfl }
def lays164_ren : Go.Shelf.Ren := ⟨fun | 164 => 151 | 197 => 188 | 239 => 189 | 260 => 218 | 274 => 219 | 275 => 220 | n => n, fun | 0 => 0 | 3 => 3 | 4 => 4 | 5 => 5 | 9 => 9 | 21 => 21 | 46 => 135 | 49 => 202 | 51 => 226 | 105 => 182 | 119 => 239 | 138 => 241 | 139 => 242 | 156 => 203 | 157 => 204 | 159 => 206 | 160 => 207 | 162 => 209 | 206 => 244 | 208 => 246 | n => n, fun | 3 => 6 | 4 => 7 | 11 => 3 | 12 => 4 | 13 => 5 | n => n⟩
theorem lays164 : Go.Proofs.Lays.n164 Tryz.prog lays164_ren := {
  mixed := by kernel_rfl
  f164 := Tryz.func151.trans (congrArg some (by kernel_rfl))
  f197 := Tryz.func188.trans (congrArg some (by kernel_rfl))
  f239 := Tryz.func189.trans (congrArg some (by kernel_rfl))
  f260 := Tryz.func218.trans (congrArg some (by kernel_rfl))
  f274 := Tryz.func219.trans (congrArg some (by kernel_rfl))
  f275 := Tryz.func220.trans (congrArg some (by kernel_rfl))
  t0 := Tryz.underlying0
  a0 := Tryz.isAgg0
  z0 := Tryz.sizeOf0
  v0 := Tryz.zeroValue0
  t3 := Tryz.underlying3
  a3 := Tryz.isAgg3
  z3 := Tryz.sizeOf3
  v3 := Tryz.zeroValue3
  t4 := Tryz.underlying4
  a4 := Tryz.isAgg4
  z4 := Tryz.sizeOf4
  v4 := Tryz.zeroValue4
  t5 := Tryz.underlying5
  a5 := Tryz.isAgg5
  z5 := Tryz.sizeOf5
  v5 := Tryz.zeroValue5
  t9 := Tryz.underlying9
  a9 := Tryz.isAgg9
  z9 := Tryz.sizeOf9
  v9 := Tryz.zeroValue9
  t21 := Tryz.underlying21
  a21 := Tryz.isAgg21
  z21 := Tryz.sizeOf21
  v21 := Tryz.zeroValue21
  t46 := Tryz.underlying135
  a46 := Tryz.isAgg135
  z46 := Tryz.sizeOf135
  v46 := Tryz.zeroValue135
  t49 := Tryz.underlying202
  a49 := Tryz.isAgg202
  z49 := Tryz.sizeOf202
  v49 := Tryz.zeroValue202
  t51 := Tryz.underlying226
  a51 := Tryz.isAgg226
  z51 := Tryz.sizeOf226
  v51 := Tryz.zeroValue226
  t105 := Tryz.underlying182
  a105 := Tryz.isAgg182
  z105 := Tryz.sizeOf182
  v105 := Tryz.zeroValue182
  t119 := Tryz.underlying239
  a119 := Tryz.isAgg239
  z119 := Tryz.sizeOf239
  t138 := Tryz.underlying241
  a138 := Tryz.isAgg241
  z138 := Tryz.sizeOf241
  v138 := Tryz.zeroValue241
  t139 := Tryz.underlying242
  a139 := Tryz.isAgg242
  z139 := Tryz.sizeOf242
  v139 := Tryz.zeroValue242
  t156 := Tryz.underlying203
  a156 := Tryz.isAgg203
  z156 := Tryz.sizeOf203
  t157 := Tryz.underlying204
  a157 := Tryz.isAgg204
  z157 := Tryz.sizeOf204
  v157 := Tryz.zeroValue204
  t159 := Tryz.underlying206
  a159 := Tryz.isAgg206
  z159 := Tryz.sizeOf206
  v159 := Tryz.zeroValue206
  t160 := Tryz.underlying207
  a160 := Tryz.isAgg207
  z160 := Tryz.sizeOf207
  v160 := Tryz.zeroValue207
  t162 := Tryz.underlying209
  a162 := Tryz.isAgg209
  z162 := Tryz.sizeOf209
  v162 := Tryz.zeroValue209
  t206 := Tryz.underlying244
  a206 := Tryz.isAgg244
  z206 := Tryz.sizeOf244
  v206 := Tryz.zeroValue244
  t208 := Tryz.underlying246
  a208 := Tryz.isAgg246
  z208 := Tryz.sizeOf246
  v208 := Tryz.zeroValue246
  g3 := by kernel_rfl
  g4 := by kernel_rfl
  g11 := by kernel_rfl
  g12 := by kernel_rfl
  g13 := by kernel_rfl }

/-- The library's variable MaxLen holds some number. -/
def Mx (w : World) : Prop := ∃ m, w.cell? ⟨2, 0, none⟩ = some (.int .i64 m)
theorem Mx.below {w w' : World} (h : Mx w) (hb : Below w.heap.size w w') : Mx w' := by
  obtain ⟨m, hm⟩ := h
  exact ⟨m, (hb.cell (p := ⟨_, 0, none⟩) (World.block_lt_of_cell? _ _ hm)).trans hm⟩
theorem mx_shaped {w : World} (h : w.ShapedOpen Tryz.prog) : Mx w :=
  cell_of_shapedOpen_int (zero := #[.int .i64 0]) (t := 3) h (of_decide_eq_true (by kernel_rfl)) (by kernel_rfl) rfl (by kernel_rfl) (by kernel_rfl) Tryz.underlying3
end Go.Proofs.YtflpajbcomhkpaaGreatDoor
namespace Go.Proofs.YtflpajbcomhkpaaGreatDoor
open Go.RowKit

def kdN (k : Nat) : Int := [1, 2, 4, 7].getD k 0
def kdG (k : Nat) : Int := [129, 130, 164, 135].getD k 0
def kdW (k : Nat) : ByteArray := [⟨#[109, 97, 105, 108, 58]⟩, ⟨#[100, 110, 115, 58]⟩, ⟨#[100, 105, 114, 58]⟩, ⟨#[105, 112, 58]⟩].getD k ⟨#[]⟩
def kdArr : Array Value := #[.int .i64 1, .int .i64 129, .string ⟨#[109, 97, 105, 108, 58]⟩, .int .i64 2, .int .i64 130, .string ⟨#[100, 110, 115, 58]⟩, .int .i64 4, .int .i64 164, .string ⟨#[100, 105, 114, 58]⟩, .int .i64 7, .int .i64 135, .string ⟨#[105, 112, 58]⟩]
/-- The place of a kind in the table; 4 for none. -/
def kdOf (K : Int) : Nat := if K = 1 then 0 else if K = 2 then 1 else if K = 4 then 2 else if K = 7 then 3 else 4
def tgOf (T : Int) : Nat := if T = 129 then 0 else if T = 130 then 1 else if T = 164 then 2 else if T = 135 then 3 else 4
/-- The table lies as the program's text lays it. -/
def KdT (w : World) : Prop := ∀ j, j < 12 → w.cell? ⟨0, j, none⟩ = kdArr[j]?
theorem KdT.lt {w : World} (h : KdT w) : 0 < w.heap.size := block_lt ((h 0 (by omega)).trans rfl)
theorem KdT.below {w w' : World} (h : KdT w) (hb : Below w.heap.size w w') : KdT w' := fun j hj => (hb.cell (p := ⟨0, j, none⟩) h.lt).trans (h j hj)
/-- What the functions of package gname read besides what they are handed. -/
def Mk (w : World) : Prop := Mx w ∧ KdT w
theorem Mk.below {w w' : World} (h : Mk w) (hb : Below w.heap.size w w') : Mk w' := ⟨h.1.below hb, h.2.below hb⟩
theorem KdT.cells {w : World} (h : KdT w) :
    w.cell? ⟨0, 0, none⟩ = some (.int .i64 1) ∧ w.cell? ⟨0, 1, none⟩ = some (.int .i64 129) ∧ w.cell? ⟨0, 2, none⟩ = some (.string ⟨#[109, 97, 105, 108, 58]⟩) ∧
    w.cell? ⟨0, 3, none⟩ = some (.int .i64 2) ∧ w.cell? ⟨0, 4, none⟩ = some (.int .i64 130) ∧ w.cell? ⟨0, 5, none⟩ = some (.string ⟨#[100, 110, 115, 58]⟩) ∧
    w.cell? ⟨0, 6, none⟩ = some (.int .i64 4) ∧ w.cell? ⟨0, 7, none⟩ = some (.int .i64 164) ∧ w.cell? ⟨0, 8, none⟩ = some (.string ⟨#[100, 105, 114, 58]⟩) ∧
    w.cell? ⟨0, 9, none⟩ = some (.int .i64 7) ∧ w.cell? ⟨0, 10, none⟩ = some (.int .i64 135) ∧ w.cell? ⟨0, 11, none⟩ = some (.string ⟨#[105, 112, 58]⟩) :=
  ⟨h 0 (by omega), h 1 (by omega), h 2 (by omega), h 3 (by omega), h 4 (by omega), h 5 (by omega), h 6 (by omega), h 7 (by omega), h 8 (by omega), h 9 (by omega), h 10 (by omega), h 11 (by omega)⟩
theorem index_kd (k : Nat) (hk : k < 4) (w : World) : (Instr.index 90 (.agg #[.int .i64 1, .int .i64 129, .string ⟨#[109, 97, 105, 108, 58]⟩, .int .i64 2, .int .i64 130, .string ⟨#[100, 110, 115, 58]⟩, .int .i64 4, .int .i64 164, .string ⟨#[100, 105, 114, 58]⟩, .int .i64 7, .int .i64 135, .string ⟨#[105, 112, 58]⟩]) (.int .i64 (k : Int))).run Tryz.prog w = .ok (.agg #[.int .i64 (kdN k), .int .i64 (kdG k), .string (kdW k)]) w := by
  rcases (by omega : k = 0 ∨ k = 1 ∨ k = 2 ∨ k = 3) with rfl | rfl | rfl | rfl <;> kernel_rfl
theorem kd_hit {K : Int} (k : Nat) (hk : k < 4) (h2 : kdN k = K) : kdOf K = k := by
  subst h2
  rcases (by omega : k = 0 ∨ k = 1 ∨ k = 2 ∨ k = 3) with rfl | rfl | rfl | rfl <;> decide
theorem kd_miss {K : Int} (h : ∀ j, j < 4 → kdN j ≠ K) : kdOf K = 4 := by
  unfold kdOf
  rw [if_neg (fun e => h 0 (by omega) e.symm), if_neg (fun e => h 1 (by omega) e.symm), if_neg (fun e => h 2 (by omega) e.symm), if_neg (fun e => h 3 (by omega) e.symm)]
theorem tg_hit {T : Int} (k : Nat) (hk : k < 4) (h2 : kdG k = T) : tgOf T = k := by
  subst h2
  rcases (by omega : k = 0 ∨ k = 1 ∨ k = 2 ∨ k = 3) with rfl | rfl | rfl | rfl <;> decide
theorem tg_miss {T : Int} (h : ∀ j, j < 4 → kdG j ≠ T) : tgOf T = 4 := by
  unfold tgOf
  rw [if_neg (fun e => h 0 (by omega) e.symm), if_neg (fun e => h 1 (by omega) e.symm), if_neg (fun e => h 2 (by omega) e.symm), if_neg (fun e => h 3 (by omega) e.symm)]
theorem kdOf_no {K : Int} (h : K ≠ 1 ∧ K ≠ 2 ∧ K ≠ 4 ∧ K ≠ 7) : kdOf K = 4 := by
  unfold kdOf
  rw [if_neg h.1, if_neg h.2.1, if_neg h.2.2.1, if_neg h.2.2.2]

set_option maxRecDepth 100000 in
set_option maxHeartbeats 4000000 in
theorem gkind_any (K : Int) (s : ByteArray) (a : Option Addr) (m c : Nat) (w : World) (h : KdT w) :
    Calls Tryz.prog 50 #[.agg #[.int .i64 K, .string s, .slice a m c]] w fun e w' => e = .returned (.int .i64 ((kdOf K : Nat) : Int)) ∧ Below w.heap.size w w' := by
  obtain ⟨W0, hW0⟩ : ∃ W0, W0 = w.alloc (.cells #[.int .i64 K, .string s, .slice a m c] 32) := ⟨_, rfl⟩
  have hwr : w.alloc (.cells #[.int .i64 K, .string s, .slice a m c] 32) = W0 := hW0.symm
  have hb0 : Below w.heap.size w W0 := by rw [hW0]; exact belowNew w _
  have hq0 : W0.heap[w.heap.size]? = some (.cells #[.int .i64 K, .string s, .slice a m c] 32 (0, 0)) := by rw [hW0]; exact heap_alloc_new w _
  obtain ⟨c0, c1, c2, c3, c4, c5, c6, c7, c8, c9, c10, c11⟩ := (h.below hb0).cells
  have HB0 := Lib.hid hb0
  have HQ0 := Lib.hid hq0
  obtain ⟨Z, hZ⟩ : ∃ Z, Z = kdOf K := ⟨_, rfl⟩
  have HZ := Lib.hid hZ
  rw [← hZ]
  clear h hZ hW0 hb0 hq0
  go_enter Tryz.func50, Tryz.ntmps50
  go_wp2_with fail
  clear c0 c1 c2 c3 c4 c5 c6 c7 c8 c9 c10 c11
  go_loopw [6] (fun i wr => ∃ k : Nat, k ≤ 4 ∧ i = .int .i64 k ∧ (∀ j, j < k → kdN j ≠ K) ∧ wr.heap[w.heap.size]? = some (.cells #[.int .i64 K, .string s, .slice a m c] 32 (0, 0)) ∧ Below w.heap.size w wr) (fun i _ => 4 - (intOf i).toNat)
  case atStart => exact ⟨0, by omega, rfl, fun j hj => absurd hj (Nat.not_lt_zero _), HQ0.out, HB0.out⟩
  case round =>
    obtain ⟨k, hk, rfl, hA, hq, hb⟩ := hrel
    have HB := Lib.hid hb
    have HA := Lib.hid hA
    by_cases hlt : k < 4
    · have hd : decide ((k : Int) < 4) = true := by simp; omega
      have hix := index_kd k hlt
      obtain ⟨n, hn⟩ : ∃ n, n = kdN k := ⟨_, rfl⟩
      rw [← hn] at hix
      generalize kdG k = g at hix
      generalize kdW k = x at hix
      obtain ⟨q0, q1, q2, l0⟩ := three_facts hq
      obtain ⟨W1, hW1⟩ : ∃ W1, W1 = wr.alloc (.cells #[.int .i64 n, .int .i64 g, .string x] 89) := ⟨_, rfl⟩
      have hwr1 : wr.alloc (.cells #[.int .i64 n, .int .i64 g, .string x] 89) = W1 := hW1.symm
      have hb1 : Below wr.heap.size wr W1 := by rw [hW1]; exact belowNew wr _
      have hq1 : W1.heap[wr.heap.size]? = some (.cells #[.int .i64 n, .int .i64 g, .string x] 89 (0, 0)) := by rw [hW1]; exact heap_alloc_new wr _
      obtain ⟨r0, r1, r2, l1⟩ := three_facts hq1
      have p0 := (hb1.cell (p := ⟨w.heap.size, 0, none⟩) l0).trans q0
      have HQ := Lib.hid ((hb1.block w.heap.size l0).trans hq)
      have HB1 := Lib.hid (below_next hb hb1)
      clear q0 q1 q2 hq hb hA hW1 hb1 hq1
      by_cases hx : n = K
      · have hbq : (n == K) = true := beq_iff_eq.2 hx
        have HF := Lib.hid (show Z = k by rw [HZ.out]; exact kd_hit k hlt (by rw [← hn]; exact hx))
        clear hn hx
        go_wp2_with fail
        go_ret
        exact ⟨by rw [HF.out]; rfl, HB1.out⟩
      · have hbq : (n == K) = false := beq_eq_false_iff_ne.2 hx
        have HF := Lib.hid (show ∀ j, j < k + 1 → kdN j ≠ K from fun j hj => by
          by_cases e : j = k
          · rw [e, ← hn]; exact hx
          · exact HA.out j (by omega))
        clear hn hx
        go_wp2_with fail
        go_roundw
        case rel => exact ⟨k + 1, by omega, by go_num, HF.out, HQ.out, HB1.out⟩
        case measure => simp [intOf]; omega
    · obtain rfl : k = 4 := by omega
      have hd : decide (((4 : Nat) : Int) < 4) = false := rfl
      have HF := Lib.hid (show Z = 4 by rw [HZ.out]; exact kd_miss HA.out)
      clear hq hb hA
      go_wp2_with fail
      go_ret
      exact ⟨by rw [HF.out]; rfl, HB.out⟩
end Go.Proofs.YtflpajbcomhkpaaGreatDoor
namespace Go.Proofs.YtflpajbcomhkpaaGreatDoor
open Go.RowKit

theorem pidx_any (s : ByteArray) (c : UInt8) (w : World) : Calls Tryz.prog 174 #[.string s, .int .u8 ((c.toNat : Nat) : Int)] w fun e w' => e = .returned (.int .i64 (Lib.indexByte s.data.toList c)) ∧ w' = w := by
  have h := Any.strings_IndexByte lays137 s ((c.toNat : Nat) : Int) w
  have e : ((c.toNat : Nat) : Int).toNat.toUInt8 = c := by simp
  rw [e] at h
  exact h
set_option maxHeartbeats 1000000 in
theorem palnum_any (n : Nat) (w : World) :
    Calls Tryz.prog 214 #[.int .u8 (n : Int)] w fun e w' => e = .returned (.bool (alnum n)) ∧ w' = w := by
  rcases (by omega : (n < 48) ∨ (48 ≤ n ∧ n ≤ 57) ∨ (58 ≤ n ∧ n ≤ 64) ∨ (65 ≤ n ∧ n ≤ 90) ∨ (91 ≤ n ∧ n ≤ 96) ∨ (97 ≤ n ∧ n ≤ 122) ∨ (123 ≤ n)) with h | h | h | h | h | h | h
  · have hr : alnum n = false := by simp [alnum]; omega
    have d0 : decide ((65 : Int) ≤ (n : Int)) = false := by simp; omega
    have d1 : decide ((n : Int) ≤ 90) = true := by simp; omega
    have d2 : decide ((97 : Int) ≤ (n : Int)) = false := by simp; omega
    have d3 : decide ((n : Int) ≤ 122) = true := by simp; omega
    have d4 : decide ((48 : Int) ≤ (n : Int)) = false := by simp; omega
    have d5 : decide ((n : Int) ≤ 57) = true := by simp; omega
    have HR := Lib.hid hr
    clear hr h
    go_enter Tryz.func214, Tryz.ntmps214
    go_wp2_with fail
    go_ret
    exact ⟨by rw [HR.out]; rfl, rfl⟩
  · have hr : alnum n = true := by simp [alnum]; omega
    have d0 : decide ((65 : Int) ≤ (n : Int)) = false := by simp; omega
    have d1 : decide ((n : Int) ≤ 90) = true := by simp; omega
    have d2 : decide ((97 : Int) ≤ (n : Int)) = false := by simp; omega
    have d3 : decide ((n : Int) ≤ 122) = true := by simp; omega
    have d4 : decide ((48 : Int) ≤ (n : Int)) = true := by simp; omega
    have d5 : decide ((n : Int) ≤ 57) = true := by simp; omega
    have HR := Lib.hid hr
    clear hr h
    go_enter Tryz.func214, Tryz.ntmps214
    go_wp2_with fail
    go_ret
    exact ⟨by rw [HR.out]; rfl, rfl⟩
  · have hr : alnum n = false := by simp [alnum]; omega
    have d0 : decide ((65 : Int) ≤ (n : Int)) = false := by simp; omega
    have d1 : decide ((n : Int) ≤ 90) = true := by simp; omega
    have d2 : decide ((97 : Int) ≤ (n : Int)) = false := by simp; omega
    have d3 : decide ((n : Int) ≤ 122) = true := by simp; omega
    have d4 : decide ((48 : Int) ≤ (n : Int)) = true := by simp; omega
    have d5 : decide ((n : Int) ≤ 57) = false := by simp; omega
    have HR := Lib.hid hr
    clear hr h
    go_enter Tryz.func214, Tryz.ntmps214
    go_wp2_with fail
    go_ret
    exact ⟨by rw [HR.out]; rfl, rfl⟩
  · have hr : alnum n = true := by simp [alnum]; omega
    have d0 : decide ((65 : Int) ≤ (n : Int)) = true := by simp; omega
    have d1 : decide ((n : Int) ≤ 90) = true := by simp; omega
    have d2 : decide ((97 : Int) ≤ (n : Int)) = false := by simp; omega
    have d3 : decide ((n : Int) ≤ 122) = true := by simp; omega
    have d4 : decide ((48 : Int) ≤ (n : Int)) = true := by simp; omega
    have d5 : decide ((n : Int) ≤ 57) = false := by simp; omega
    have HR := Lib.hid hr
    clear hr h
    go_enter Tryz.func214, Tryz.ntmps214
    go_wp2_with fail
    go_ret
    exact ⟨by rw [HR.out]; rfl, rfl⟩
  · have hr : alnum n = false := by simp [alnum]; omega
    have d0 : decide ((65 : Int) ≤ (n : Int)) = true := by simp; omega
    have d1 : decide ((n : Int) ≤ 90) = false := by simp; omega
    have d2 : decide ((97 : Int) ≤ (n : Int)) = false := by simp; omega
    have d3 : decide ((n : Int) ≤ 122) = true := by simp; omega
    have d4 : decide ((48 : Int) ≤ (n : Int)) = true := by simp; omega
    have d5 : decide ((n : Int) ≤ 57) = false := by simp; omega
    have HR := Lib.hid hr
    clear hr h
    go_enter Tryz.func214, Tryz.ntmps214
    go_wp2_with fail
    go_ret
    exact ⟨by rw [HR.out]; rfl, rfl⟩
  · have hr : alnum n = true := by simp [alnum]; omega
    have d0 : decide ((65 : Int) ≤ (n : Int)) = true := by simp; omega
    have d1 : decide ((n : Int) ≤ 90) = false := by simp; omega
    have d2 : decide ((97 : Int) ≤ (n : Int)) = true := by simp; omega
    have d3 : decide ((n : Int) ≤ 122) = true := by simp; omega
    have d4 : decide ((48 : Int) ≤ (n : Int)) = true := by simp; omega
    have d5 : decide ((n : Int) ≤ 57) = false := by simp; omega
    have HR := Lib.hid hr
    clear hr h
    go_enter Tryz.func214, Tryz.ntmps214
    go_wp2_with fail
    go_ret
    exact ⟨by rw [HR.out]; rfl, rfl⟩
  · have hr : alnum n = false := by simp [alnum]; omega
    have d0 : decide ((65 : Int) ≤ (n : Int)) = true := by simp; omega
    have d1 : decide ((n : Int) ≤ 90) = false := by simp; omega
    have d2 : decide ((97 : Int) ≤ (n : Int)) = true := by simp; omega
    have d3 : decide ((n : Int) ≤ 122) = false := by simp; omega
    have d4 : decide ((48 : Int) ≤ (n : Int)) = true := by simp; omega
    have d5 : decide ((n : Int) ≤ 57) = false := by simp; omega
    have HR := Lib.hid hr
    clear hr h
    go_enter Tryz.func214, Tryz.ntmps214
    go_wp2_with fail
    go_ret
    exact ⟨by rw [HR.out]; rfl, rfl⟩


theorem palnum_is {c : UInt8} {b : Bool} (h : alnum c.toNat = b) (w : World) : Calls Tryz.prog 214 #[.int .u8 ((c.toNat : Nat) : Int)] w fun e w' => e = .returned (.bool b) ∧ w' = w := by
  have := palnum_any c.toNat w
  rwa [h] at this
set_option maxHeartbeats 1000000 in
theorem plb_any (c : UInt8) (w : World) : Calls Tryz.prog 186 #[.int .u8 ((c.toNat : Nat) : Int)] w fun e w' => e = .returned (.bool (lblB c)) ∧ w' = w := by
  cases ha : alnum c.toNat with
  | true =>
    have HR := Lib.hid (show lblB c = true by unfold lblB; rw [ha]; rfl)
    have HA := Lib.hid (fun w => palnum_is ha w)
    clear ha
    go_enter Tryz.func186, Tryz.ntmps186
    go_wp2_with (go_at_call 214; (with_reducible refine (HA.out _).mono ?_); rintro e w1 ⟨rfl, rfl⟩)
    go_ret
    exact ⟨by rw [HR.out]; rfl, rfl⟩
  | false =>
    have HA := Lib.hid (fun w => palnum_is ha w)
    by_cases h : c = 45
    · have d : (((c.toNat : Nat) : Int) == (45 : Int)) = true := by rw [h]; rfl
      have HR := Lib.hid (show lblB c = true by unfold lblB; rw [h]; rfl)
      clear ha h
      go_enter Tryz.func186, Tryz.ntmps186
      go_wp2_with (go_at_call 214; (with_reducible refine (HA.out _).mono ?_); rintro e w1 ⟨rfl, rfl⟩)
      go_ret
      exact ⟨by rw [HR.out]; rfl, rfl⟩
    · have d : (((c.toNat : Nat) : Int) == (45 : Int)) = false := by
        have : ¬ c.toNat = 45 := fun k => h (UInt8.toNat_inj.1 k)
        simp; omega
      have HR := Lib.hid (show lblB c = false by unfold lblB; rw [ha, beq_eq_false_iff_ne.2 h]; rfl)
      clear ha h
      go_enter Tryz.func186, Tryz.ntmps186
      go_wp2_with (go_at_call 214; (with_reducible refine (HA.out _).mono ?_); rintro e w1 ⟨rfl, rfl⟩)
      go_ret
      exact ⟨by rw [HR.out]; rfl, rfl⟩

def locB (c : UInt8) : Bool := alnum c.toNat || signsL.contains c
theorem pidx_signs (c : UInt8) (w : World) : Calls Tryz.prog 174 #[.string ⟨#[33, 35, 36, 37, 38, 39, 42, 43, 45, 47, 61, 63, 94, 95, 96, 123, 124, 125, 126, 46]⟩, .int .u8 ((c.toNat : Nat) : Int)] w fun e w' => e = .returned (.int .i64 (Lib.indexByte signsL c)) ∧ w' = w :=
  pidx_any ⟨#[33, 35, 36, 37, 38, 39, 42, 43, 45, 47, 61, 63, 94, 95, 96, 123, 124, 125, 126, 46]⟩ c w
set_option maxHeartbeats 1000000 in
theorem pxb_any (c : UInt8) (w : World) : Calls Tryz.prog 223 #[.int .u8 ((c.toNat : Nat) : Int)] w fun e w' => e = .returned (.bool (locB c)) ∧ w' = w := by
  cases ha : alnum c.toNat with
  | true =>
    have HR := Lib.hid (show locB c = true by unfold locB; rw [ha]; rfl)
    have HA := Lib.hid (fun w => palnum_is ha w)
    clear ha
    go_enter Tryz.func223, Tryz.ntmps223
    go_wp2_with (go_at_call 214; (with_reducible refine (HA.out _).mono ?_); rintro e w1 ⟨rfl, rfl⟩)
    go_ret
    exact ⟨by rw [HR.out]; rfl, rfl⟩
  | false =>
    have HA := Lib.hid (fun w => palnum_is ha w)
    have HX := Lib.hid (fun w => pidx_signs c w)
    have HR := Lib.hid (show locB c = decide (0 ≤ Lib.indexByte signsL c) by unfold locB; rw [ha, idx_has]; rfl)
    generalize Lib.indexByte signsL c = z at HX HR
    clear ha
    cases hz : decide ((0 : Int) ≤ z)
    · rw [hz] at HR
      go_enter Tryz.func223, Tryz.ntmps223
      go_wp2_with (first
        | (go_at_call 214; (with_reducible refine (HA.out _).mono ?_); rintro e w1 ⟨rfl, rfl⟩)
        | (go_at_call 174; (with_reducible refine (HX.out _).mono ?_); rintro e w1 ⟨rfl, rfl⟩))
      go_ret
      exact ⟨by rw [HR.out]; rfl, rfl⟩
    · rw [hz] at HR
      go_enter Tryz.func223, Tryz.ntmps223
      go_wp2_with (first
        | (go_at_call 214; (with_reducible refine (HA.out _).mono ?_); rintro e w1 ⟨rfl, rfl⟩)
        | (go_at_call 174; (with_reducible refine (HX.out _).mono ?_); rintro e w1 ⟨rfl, rfl⟩))
      go_ret
      exact ⟨by rw [HR.out]; rfl, rfl⟩

/-- The function numbered g says of each byte whether p holds. -/
def PaysB (g : Nat) (p : UInt8 → Bool) : Prop := ∀ (c : UInt8) w, Calls Tryz.prog g #[.int .u8 ((c.toNat : Nat) : Int)] w fun e w' => e = .returned (.bool (p c)) ∧ w' = w
set_option maxRecDepth 100000 in
set_option maxHeartbeats 2000000 in
theorem pcons_any (g : Nat) (eg : ∀ args w, (callFunc g args).run Tryz.prog w = .ok (.enter g args) w) (p : UInt8 → Bool) (hp : PaysB g p) (L : List UInt8) (hL : L.length ≤ 150000) (w : World) :
    Calls Tryz.prog 185 #[.string (strOf L), .func (.func g) #[] #[]] w fun e w' => e = .returned (.bool (L.all p)) ∧ w' = w := by
  have es := strOf_size L
  have HP := Lib.hid hp
  clear hp
  go_enter Tryz.func185, Tryz.ntmps185
  go_wp2_with fail
  go_loopw [8] (fun i wr => ∃ m : Nat, m ≤ L.length ∧ i = .int .i64 (m : Int) ∧ L.all p = (L.drop m).all p ∧ wr = w) (fun i _ => L.length - (intOf i).toNat)
  case atStart => exact ⟨0, Nat.zero_le _, rfl, rfl, rfl⟩
  case round =>
    obtain ⟨m, hm, rfl, hal, rfl⟩ := hrel
    by_cases hmt : m < L.length
    · have hd : decide ((m : Int) < (L.length : Int)) = true := by simp; omega
      obtain ⟨c, hc, hcn⟩ := u8at_list (strOf L) m (by rw [es]; exact hmt)
      have hix := run_index_u8 (P := Tryz.prog) Tryz.underlying9 (strOf L) m (by rw [es]; exact hmt) (m : Int) rfl
      rw [hcn] at hix
      rw [strOf_list] at hc
      rw [drop_cons hc, List.all_cons] at hal
      have HAL := Lib.hid hal
      have HC := Lib.hid (HP.out c wr)
      clear hc hcn hal
      cases ha : p c with
      | true =>
        rw [ha] at HAL HC
        have HN2 := Lib.hid (show L.all p = (L.drop (m + 1)).all p by rw [HAL.out, Bool.true_and])
        clear ha
        go_wp2_with (go_at_fn g; refine HC.out.mono ?_; rintro e W' ⟨rfl, rfl⟩)
        go_roundw
        case rel => exact ⟨m + 1, by omega, by go_num, HN2.out, by first | exact trivial | rfl⟩
        case measure => simp [intOf]; omega
      | false =>
        rw [ha] at HAL HC
        have HF := Lib.hid (show L.all p = false by rw [HAL.out, Bool.false_and])
        clear ha
        go_wp2_with (go_at_fn g; refine HC.out.mono ?_; rintro e W' ⟨rfl, rfl⟩)
        go_ret
        exact ⟨by rw [HF.out]; rfl, rfl⟩
    · have hd : decide ((m : Int) < (L.length : Int)) = false := by simp; omega
      have HF := Lib.hid (show L.all p = true by rw [hal, List.drop_eq_nil_of_le (by omega)]; rfl)
      clear hal
      go_wp2_with fail
      go_ret
      exact ⟨by rw [HF.out]; rfl, rfl⟩
theorem pcons_lb (L : List UInt8) (hL : L.length ≤ 150000) (w : World) : Calls Tryz.prog 185 #[.string (strOf L), .func (.func 186) #[] #[]] w fun e w' => e = .returned (.bool (L.all lblB)) ∧ w' = w :=
  pcons_any _ (enters_of Tryz.func186 (by kernel_rfl) rfl) lblB plb_any L hL w
theorem pcons_xb (L : List UInt8) (hL : L.length ≤ 150000) (w : World) : Calls Tryz.prog 185 #[.string (strOf L), .func (.func 223) #[] #[]] w fun e w' => e = .returned (.bool (L.all locB)) ∧ w' = w :=
  pcons_any _ (enters_of Tryz.func223 (by kernel_rfl) rfl) locB pxb_any L hL w
end Go.Proofs.YtflpajbcomhkpaaGreatDoor
namespace Go.Proofs.YtflpajbcomhkpaaGreatDoor
open Go.RowKit

set_option maxRecDepth 100000 in
set_option maxHeartbeats 2000000 in
theorem plabel_any (p : List UInt8) (hL : p.length ≤ 150000) (w : World) :
    Calls Tryz.prog 149 #[.string (strOf p)] w fun e w' => e = .returned (.bool (lbl p)) ∧ w' = w := by
  have es := strOf_size p
  by_cases h1 : p.length < 1
  · have HF2 := Lib.hid (show lbl p = false by rw [List.eq_nil_of_length_eq_zero (show p.length = 0 by omega)]; exact lbl_nil)
    have dl : decide ((0 : Int) ≤ (p.length : Int) - 1) = false := decide_eq_false (by omega)
    go_enter Tryz.func149, Tryz.ntmps149
    go_wp2_with fail
    go_ret
    exact ⟨by rw [HF2.out]; rfl, rfl⟩
  · have dl : decide ((0 : Int) ≤ (p.length : Int) - 1) = true := decide_eq_true (by omega)
    by_cases h2 : 63 < p.length
    · have HF2 := Lib.hid (lbl_long h2)
      have dm : decide ((p.length : Int) - 1 < (63 : Int)) = false := decide_eq_false (by omega)
      go_enter Tryz.func149, Tryz.ntmps149
      go_wp2_with fail
      go_ret
      exact ⟨by rw [HF2.out]; rfl, rfl⟩
    · have dm : decide ((p.length : Int) - 1 < (63 : Int)) = true := decide_eq_true (by omega)
      obtain ⟨x, hx, hxn⟩ := u8at_list (strOf p) 0 (by rw [es]; omega)
      have hix := run_index_u8 (P := Tryz.prog) Tryz.underlying9 (strOf p) 0 (by rw [es]; omega) 0 rfl
      rw [hxn] at hix
      obtain ⟨y, hy, hyn⟩ := u8at_list (strOf p) (p.length - 1) (by rw [es]; omega)
      have hiy := run_index_u8 (P := Tryz.prog) Tryz.underlying9 (strOf p) (p.length - 1) (by rw [es]; omega) ((p.length : Int) - 1) (by omega)
      rw [hyn] at hiy
      rw [strOf_list] at hx hy
      by_cases h3 : x = 45
      · have HF2 := Lib.hid (lbl_head (p := p) (by rw [List.head?_eq_getElem?, hx, h3]))
        have dx : (((x.toNat : Nat) : Int) != (45 : Int)) = false := by rw [h3]; rfl
        clear hx hy hxn hyn hiy
        go_enter Tryz.func149, Tryz.ntmps149
        go_wp2_with fail
        go_ret
        exact ⟨by rw [HF2.out]; rfl, rfl⟩
      · have dx : (((x.toNat : Nat) : Int) != (45 : Int)) = true := by
          have : ¬ x.toNat = 45 := fun h => h3 (UInt8.toNat_inj.1 h)
          simp; omega
        by_cases h4 : y = 45
        · have HF2 := Lib.hid (lbl_last (p := p) (by rw [List.getLast?_eq_getElem?, hy, h4]))
          have dy : (((y.toNat : Nat) : Int) != (45 : Int)) = false := by rw [h4]; rfl
          clear hx hy hxn hyn
          go_enter Tryz.func149, Tryz.ntmps149
          go_wp2_with fail
          go_ret
          exact ⟨by rw [HF2.out]; rfl, rfl⟩
        · have dy : (((y.toNat : Nat) : Int) != (45 : Int)) = true := by
            have : ¬ y.toNat = 45 := fun h => h4 (UInt8.toNat_inj.1 h)
            simp; omega
          have HQ := Lib.hid (show lbl p = p.all lblB from lbl_all (by omega) (by omega) (by rw [List.head?_eq_getElem?, hx]; exact fun h => h3 (Option.some.inj h)) (by rw [List.getLast?_eq_getElem?, hy]; exact fun h => h4 (Option.some.inj h)))
          have HC := Lib.hid (fun w => pcons_lb p hL w)
          clear hx hy hxn hyn h3 h4
          go_enter Tryz.func149, Tryz.ntmps149
          go_wp2_with (go_at_call 185; (with_reducible refine (HC.out _).mono ?_); rintro e w2 ⟨rfl, rfl⟩)
          go_ret
          exact ⟨by rw [HQ.out]; rfl, rfl⟩
theorem plabel_is {p : List UInt8} {b : Bool} (h : lbl p = b) (hL : p.length ≤ 150000) (w : World) :
    Calls Tryz.prog 149 #[.string (strOf p)] w fun e w' => e = .returned (.bool b) ∧ w' = w := by
  have := plabel_any p hL w
  rwa [h] at this
end Go.Proofs.YtflpajbcomhkpaaGreatDoor
namespace Go.Proofs.YtflpajbcomhkpaaGreatDoor
open Go.RowKit Go.Shelf
attribute [local go_sem] Oper.semAt_some

theorem pcs_more {c : UInt8} {l : List UInt8} {i : Nat} (h : Lib.indexByte l c = i) : pcsL c l = l.take i :: pcsL c (l.drop (i + 1)) := by
  obtain ⟨e1, e2⟩ := first_cut h
  have := spl_cons e2 (pcsL_spl c (l.drop (i + 1)))
  rw [← e1] at this
  exact spl_inj (pcsL_spl c l) this
theorem pcs_last {c : UInt8} {l : List UInt8} (h : c ∉ l) : pcsL c l = [l] := spl_inj (pcsL_spl c l) (spl_one h)
theorem psindex_any (L : List UInt8) (w : World) :
    Calls Tryz.prog 183 #[.string (strOf L), .string ⟨#[46]⟩] w fun e w' => e = .returned (.int .i64 (Lib.indexByte L 46)) ∧ w' = w :=
  Any.strings_Index_one { lays144 with } (strOf L) 46 w
theorem psindex_is {L : List UInt8} {z : Int} (h : Lib.indexByte L 46 = z) (w : World) :
    Calls Tryz.prog 183 #[.string (strOf L), .string ⟨#[46]⟩] w fun e w' => e = .returned (.int .i64 z) ∧ w' = w := by
  have := psindex_any L w
  rwa [h] at this
def sLen (b : Nat) (W : World) : Nat := match W.cell? ⟨b, 0, none⟩ with | some (.string s) => s.size | _ => 0
theorem sLen_of {b : Nat} {W : World} {s : ByteArray} (h : W.cell? ⟨b, 0, none⟩ = some (.string s)) : sLen b W = s.size := by unfold sLen; rw [h]

theorem slice_front (L : List UInt8) (j : Nat) (hj : j ≤ L.length) (w : World) :
    (Instr.slice 9 (.string (strOf L)) none (some (.int .i64 (j : Int))) none).run Tryz.prog w = .ok (.string (strOf (L.take j))) w := by
  have := run_slice_string_to_if (P := Tryz.prog) w 9 (strOf L) .i64 (j : Int) Tryz.underlying9
  rw [this, if_pos ⟨by omega, by rw [strOf_size]; omega⟩]
  have e : ((strOf L).extract 0 j).data.toList = L.take j := by
    rw [ext_list_h, strOf_list, List.drop_zero, Nat.sub_zero]
  rw [← strOf_of e]
  simp
theorem slice_back (L : List UInt8) (j : Nat) (hj : j ≤ L.length) (a : Int) (ha : a = (j : Int)) (w : World) :
    (Instr.slice 9 (.string (strOf L)) (some (.int .i64 a)) none none).run Tryz.prog w = .ok (.string (strOf (L.drop j))) w := by
  have := slice_tail_h (strOf L) j (by rw [strOf_size]; exact hj) a ha w
  rwa [strOf_list] at this
theorem pseq_made (L : List UInt8) (w : World) :
    Calls Tryz.prog 184 #[.string (strOf L), .string ⟨#[46]⟩, .int .i64 0] w fun e w' =>
      e = .returned (.func (.func 213) #[] #[.pointer (some ⟨w.heap.size + 1, 0, none⟩), .pointer (some ⟨w.heap.size, 0, none⟩), .pointer (some ⟨w.heap.size + 2, 0, none⟩)]) ∧
      w' = ((w.alloc (.cells #[.string (strOf L)] 9)).alloc (.cells #[.string ⟨#[46]⟩] 9)).alloc (.cells #[.int .i64 0] 3) := by
  go_enter Tryz.func184, Tryz.ntmps184
  go_wp2
  go_ret
  exact ⟨rfl, rfl⟩
theorem pseq_any (L : List UInt8) (w : World) :
    Calls Tryz.prog 148 #[.string (strOf L), .string ⟨#[46]⟩] w fun e w' =>
      e = .returned (.func (.func 213) #[] #[.pointer (some ⟨w.heap.size + 1, 0, none⟩), .pointer (some ⟨w.heap.size, 0, none⟩), .pointer (some ⟨w.heap.size + 2, 0, none⟩)]) ∧
      w' = ((w.alloc (.cells #[.string (strOf L)] 9)).alloc (.cells #[.string ⟨#[46]⟩] 9)).alloc (.cells #[.int .i64 0] 3) := by
  go_enter Tryz.func148, Tryz.ntmps148
  go_wp2_with (go_at_call 184; (with_reducible refine (pseq_made L _).mono ?_); rintro e w1 ⟨rfl, rfl⟩)
  go_ret
  exact ⟨rfl, rfl⟩

set_option maxRecDepth 100000 in
set_option maxHeartbeats 2000000 in
theorem iter_any (l bs n : Nat) (hn : 1 ≤ n) (L : List UInt8) (hL : L.length ≤ 150000) (J : List (List UInt8) → World → Prop) (Jx : World → Prop)
    (hset : ∀ pre W v, J pre W → J pre (W.setCell ⟨bs, 0, none⟩ v))
    (hY : ∀ pre x rest W, J pre W → pcsL 46 L = pre ++ x :: rest → YieldAt Fence.wide (n - 1) Tryz.prog l #[.string (strOf x)] W fun e W' =>
      (e = .returned (.bool true) ∧ J (pre ++ [x]) W' ∧ Below (bs + 3) W W') ∨ (e = .returned (.bool false) ∧ Jx W'))
    (W : World) (hs : W.cell? ⟨bs, 0, none⟩ = some (.string (strOf L))) (hf : W.frozen? ⟨bs, 0, none⟩ = false) (hp : W.cell? ⟨bs + 1, 0, none⟩ = some (.string ⟨#[46]⟩)) (hv : W.cell? ⟨bs + 2, 0, none⟩ = some (.int .i64 0)) (h0 : J [] W) :
    CallsIn Fence.wide n Tryz.prog 213 #[.func (.yield l) #[] #[], .pointer (some ⟨bs + 1, 0, none⟩), .pointer (some ⟨bs, 0, none⟩), .pointer (some ⟨bs + 2, 0, none⟩)] W fun e W' => (∃ v, e = .returned v) ∧ (J (pcsL 46 L) W' ∨ Jx W') := by
  have HSET := Lib.hid hset
  have HY := Lib.hid hY
  have HJ := Lib.hid h0
  have HL := Lib.hid hL
  clear hset hY h0 hL
  refine callsIn_of_wp Tryz.func213 rfl trivial ?_ rfl
  simp only [Tryz.ntmps213, List.size_toArray, List.length_cons, List.length_nil, Nat.reduceAdd, Nat.reduceSub, Array.replicate_succ, Array.replicate_zero, List.push_toArray, List.append_toArray, List.nil_append, List.cons_append]
  gi_wp2
  gi_loopw [] (fun wr => ∃ (pre : List (List UInt8)) (r : List UInt8), pcsL 46 L = pre ++ pcsL 46 r ∧ r.length ≤ L.length ∧ J pre wr ∧ wr.cell? ⟨bs, 0, none⟩ = some (.string (strOf r)) ∧ wr.frozen? ⟨bs, 0, none⟩ = false ∧ wr.cell? ⟨bs + 1, 0, none⟩ = some (.string ⟨#[46]⟩) ∧ wr.cell? ⟨bs + 2, 0, none⟩ = some (.int .i64 0))
    (fun wr => sLen bs wr)
  case atStart => exact ⟨[], L, rfl, Nat.le_refl _, HJ.out, hs, hf, hp, hv⟩
  case round =>
    obtain ⟨pre, r, hpc, hrl, hj, hs, hf, hp, hv⟩ := hrel
    have HJ1 := Lib.hid hj
    have HPC := Lib.hid hpc
    have es := strOf_size r
    have hsl := sLen_of hs
    clear hj hpc
    rcases index_cases r 46 with ⟨hi, hno⟩ | ⟨i, hi, hlt⟩
    · have HI := Lib.hid (fun w => psindex_is hi w)
      have HP1 := Lib.hid (show pcsL 46 L = pre ++ r :: [] by rw [HPC.out, pcs_last hno])
      obtain ⟨fn, tmps, assign, body, hy, hR⟩ := HY.out pre r [] wr HJ1.out HP1.out
      clear hi hno
      gi_wp2_with (refine ⟨trivial, ?_⟩; gi_at_call 183; (with_reducible refine (callsIn_wide.2 (HI.out _)).mono ?_); rintro e w1 ⟨rfl, rfl⟩)
      refine hR.mono ?_
      rintro e W3 (⟨rfl, hj3, _⟩ | ⟨rfl, hjx⟩)
      · gi_wp2
        go_end0
        exact ⟨⟨_, rfl⟩, .inl (by rw [HP1.out]; exact hj3)⟩
      · gi_wp2
        go_end0
        exact ⟨⟨_, rfl⟩, .inr hjx⟩
    · have HI := Lib.hid (fun w => psindex_is hi w)
      have HP1 := Lib.hid (show pcsL 46 L = pre ++ r.take i :: pcsL 46 (r.drop (i + 1)) by rw [HPC.out, pcs_more hi])
      obtain ⟨fn, tmps, assign, body, hy, hR⟩ := HY.out pre (r.take i) _ wr HJ1.out HP1.out
      have hb : r.length ≤ 150000 := by have := HL.out; omega
      have d0 : decide ((i : Int) < 0) = false := by simp
      have hw0 : wrap64 ((i : Int) + 0) = (i : Int) := by unfold wrap64; omega
      have hw1 : wrap64 ((i : Int) + 1) = (i : Int) + 1 := by unfold wrap64; omega
      have hs1 := slice_front r i (by omega)
      have hs2 := slice_back r (i + 1) (by omega) ((i : Int) + 1) (by omega)
      clear hi
      gi_wp2_with (refine ⟨trivial, ?_⟩; gi_at_call 183; (with_reducible refine (callsIn_wide.2 (HI.out _)).mono ?_); rintro e w1 ⟨rfl, rfl⟩)
      refine hR.mono ?_
      rintro e W3 (⟨rfl, hj3, hk3⟩ | ⟨rfl, hjx⟩)
      · have hs3 := (hk3.cell (p := ⟨bs, 0, none⟩) (show bs < bs + 3 by omega)).trans hs
        have hf3 := (hk3.frozen (p := ⟨bs, 0, none⟩) (show bs < bs + 3 by omega)).trans hf
        have hp3 := (hk3.cell (p := ⟨bs + 1, 0, none⟩) (show bs + 1 < bs + 3 by omega)).trans hp
        have hv3 := (hk3.cell (p := ⟨bs + 2, 0, none⟩) (show bs + 2 < bs + 3 by omega)).trans hv
        have HJ3 := Lib.hid (HSET.out _ _ (.string (strOf (r.drop (i + 1)))) hj3)
        have hs4 := World.cell?_setCell_same W3 ⟨bs, 0, none⟩ (.string (strOf (r.drop (i + 1)))) hs3
        have hp4 := (World.cell?_setCell_other W3 ⟨bs, 0, none⟩ ⟨bs + 1, 0, none⟩ (.string (strOf (r.drop (i + 1)))) (addr_ne (by omega))).trans hp3
        have hv4 := (World.cell?_setCell_other W3 ⟨bs, 0, none⟩ ⟨bs + 2, 0, none⟩ (.string (strOf (r.drop (i + 1)))) (addr_ne (by omega))).trans hv3
        have HS4 := Lib.hid hs4
        have HP4 := Lib.hid hp4
        have HV4 := Lib.hid hv4
        have HF4 := Lib.hid ((by rw [World.frozen?_setCell]; exact hf3 : (W3.setCell ⟨bs, 0, none⟩ (.string (strOf (r.drop (i + 1))))).frozen? ⟨bs, 0, none⟩ = false))
        clear hs4 hp4 hv4 hj3 hk3 hs hf hp hv
        gi_wp2
        go_roundw
        case rel => exact ⟨pre ++ [r.take i], r.drop (i + 1), by rw [HP1.out]; simp, by simp; omega, HJ3.out, HS4.out, HF4.out, HP4.out, HV4.out⟩
        case measure => rw [sLen_of HS4.out, hsl, strOf_size, strOf_size, List.length_drop]; omega
      · gi_wp2
        refine bodyPost_ret (results_none rfl _ _ _) rfl ?_
        exact ⟨⟨_, rfl⟩, .inr hjx⟩
end Go.Proofs.YtflpajbcomhkpaaGreatDoor
