/-
  The contracts of strings.Builder's Grow, Write, WriteString and String at this program: the library's theorems, laid at the program's own numbers. Nothing is claimed of the program beyond its bodies.
  The contract of tlv.Wrap: the element with an identifier octet and contents, or the error; nothing that was there before the call has changed.
-/
import Derived.Shelf.Strings.Builder1
import Derived.Shelf.Strings.Builder2
import Derived.Shelf.Spec.BuilderWrite
import Derived.Test.YtpmlkofceidnjaaDoorChecked
import Derived.Test.YtpmlkofceidnjaaDoorAaf
namespace Go.Proofs.YtpmlkofceidnjaaDoor
open Go.Shelf Go.RowKit

def renB : Go.Shelf.Ren := ⟨fun | 165 => 42 | 166 => 44 | 169 => 45 | 240 => 52 | 241 => 53 | 276 => 58 | 277 => 59 | n => n, fun | 0 => 0 | 3 => 3 | 4 => 4 | 5 => 5 | 9 => 9 | 20 => 20 | 37 => 59 | 70 => 77 | 72 => 79 | 75 => 82 | 80 => 44 | 127 => 93 | 164 => 97 | n => n, fun | n => n⟩
theorem lays165 : Go.Proofs.Lays.n165 Tryd.prog renB := {
  mixed := by kernel_rfl
  f165 := Tryd.func42.trans (congrArg some (by kernel_rfl))
  f240 := Tryd.func52.trans (congrArg some (by kernel_rfl))
  f241 := Tryd.func53.trans (congrArg some (by kernel_rfl))
  f276 := Tryd.func58.trans (congrArg some (by kernel_rfl))
  f277 := Tryd.func59.trans (congrArg some (by kernel_rfl))
  t0 := Tryd.underlying0
  a0 := Tryd.isAgg0
  z0 := Tryd.sizeOf0
  v0 := Tryd.zeroValue0
  t3 := Tryd.underlying3
  a3 := Tryd.isAgg3
  z3 := Tryd.sizeOf3
  v3 := Tryd.zeroValue3
  t4 := Tryd.underlying4
  a4 := Tryd.isAgg4
  z4 := Tryd.sizeOf4
  v4 := Tryd.zeroValue4
  t9 := Tryd.underlying9
  a9 := Tryd.isAgg9
  z9 := Tryd.sizeOf9
  v9 := Tryd.zeroValue9
  t20 := Tryd.underlying20
  a20 := Tryd.isAgg20
  z20 := Tryd.sizeOf20
  v20 := Tryd.zeroValue20
  t37 := Tryd.underlying59
  a37 := Tryd.isAgg59
  z37 := Tryd.sizeOf59
  v37 := Tryd.zeroValue59
  t70 := Tryd.underlying77
  a70 := Tryd.isAgg77
  z70 := Tryd.sizeOf77
  v70 := Tryd.zeroValue77
  t72 := Tryd.underlying79
  a72 := Tryd.isAgg79
  z72 := Tryd.sizeOf79
  v72 := Tryd.zeroValue79
  t164 := Tryd.underlying97
  a164 := Tryd.isAgg97
  z164 := Tryd.sizeOf97
  v164 := Tryd.zeroValue97 }
theorem lays166 : Go.Proofs.Lays.n166 Tryd.prog renB := {
  mixed := by kernel_rfl
  f166 := Tryd.func44.trans (congrArg some (by kernel_rfl))
  f240 := Tryd.func52.trans (congrArg some (by kernel_rfl))
  f276 := Tryd.func58.trans (congrArg some (by kernel_rfl))
  t0 := Tryd.underlying0
  a0 := Tryd.isAgg0
  z0 := Tryd.sizeOf0
  v0 := Tryd.zeroValue0
  t3 := Tryd.underlying3
  a3 := Tryd.isAgg3
  z3 := Tryd.sizeOf3
  v3 := Tryd.zeroValue3
  t4 := Tryd.underlying4
  a4 := Tryd.isAgg4
  z4 := Tryd.sizeOf4
  v4 := Tryd.zeroValue4
  t9 := Tryd.underlying9
  a9 := Tryd.isAgg9
  z9 := Tryd.sizeOf9
  v9 := Tryd.zeroValue9
  t20 := Tryd.underlying20
  a20 := Tryd.isAgg20
  z20 := Tryd.sizeOf20
  v20 := Tryd.zeroValue20
  t37 := Tryd.underlying59
  a37 := Tryd.isAgg59
  z37 := Tryd.sizeOf59
  v37 := Tryd.zeroValue59
  t70 := Tryd.underlying77
  a70 := Tryd.isAgg77
  z70 := Tryd.sizeOf77
  v70 := Tryd.zeroValue77
  t72 := Tryd.underlying79
  a72 := Tryd.isAgg79
  z72 := Tryd.sizeOf79
  v72 := Tryd.zeroValue79
  t75 := Tryd.underlying82
  a75 := Tryd.isAgg82
  z75 := Tryd.sizeOf82
  v75 := Tryd.zeroValue82
  t164 := Tryd.underlying97
  a164 := Tryd.isAgg97
  z164 := Tryd.sizeOf97
  v164 := Tryd.zeroValue97 }
theorem lays169 : Go.Proofs.Lays.n169 Tryd.prog renB := {
  mixed := by kernel_rfl
  f169 := Tryd.func45.trans (congrArg some (by kernel_rfl))
  t0 := Tryd.underlying0
  a0 := Tryd.isAgg0
  z0 := Tryd.sizeOf0
  v0 := Tryd.zeroValue0
  t3 := Tryd.underlying3
  a3 := Tryd.isAgg3
  z3 := Tryd.sizeOf3
  v3 := Tryd.zeroValue3
  t9 := Tryd.underlying9
  a9 := Tryd.isAgg9
  z9 := Tryd.sizeOf9
  v9 := Tryd.zeroValue9
  t37 := Tryd.underlying59
  a37 := Tryd.isAgg59
  z37 := Tryd.sizeOf59
  v37 := Tryd.zeroValue59
  t70 := Tryd.underlying77
  a70 := Tryd.isAgg77
  z70 := Tryd.sizeOf77
  v70 := Tryd.zeroValue77
  t72 := Tryd.underlying79
  a72 := Tryd.isAgg79
  z72 := Tryd.sizeOf79
  v72 := Tryd.zeroValue79
  t127 := Tryd.underlying93
  a127 := Tryd.isAgg93
  z127 := Tryd.sizeOf93
  v127 := Tryd.zeroValue93 }
theorem lays240 : Go.Proofs.Lays.n240 Tryd.prog renB := {
  mixed := by kernel_rfl
  f240 := Tryd.func52.trans (congrArg some (by kernel_rfl))
  f276 := Tryd.func58.trans (congrArg some (by kernel_rfl))
  t0 := Tryd.underlying0
  a0 := Tryd.isAgg0
  z0 := Tryd.sizeOf0
  v0 := Tryd.zeroValue0
  t4 := Tryd.underlying4
  a4 := Tryd.isAgg4
  z4 := Tryd.sizeOf4
  v4 := Tryd.zeroValue4
  t9 := Tryd.underlying9
  a9 := Tryd.isAgg9
  z9 := Tryd.sizeOf9
  v9 := Tryd.zeroValue9
  t20 := Tryd.underlying20
  a20 := Tryd.isAgg20
  z20 := Tryd.sizeOf20
  v20 := Tryd.zeroValue20
  t70 := Tryd.underlying77
  a70 := Tryd.isAgg77
  z70 := Tryd.sizeOf77
  v70 := Tryd.zeroValue77
  t72 := Tryd.underlying79
  a72 := Tryd.isAgg79
  z72 := Tryd.sizeOf79
  v72 := Tryd.zeroValue79
  t164 := Tryd.underlying97
  a164 := Tryd.isAgg97
  z164 := Tryd.sizeOf97
  v164 := Tryd.zeroValue97 }
theorem builderX : Go.Proofs.Builder.Extra Tryd.prog renB := {
  sizeBuilder := by kernel_rfl
  liesBuilder := by kernel_rfl
  t5 := Tryd.underlying5
  a5 := Tryd.isAgg5
  z5 := Tryd.sizeOf5
  v5 := Tryd.zeroValue5
  infoByte := by kernel_rfl
  cellsByte := by kernel_rfl
  sizeByte := by kernel_rfl
  neB5 := by decide }
def renW : Go.Shelf.Ren := ⟨fun | 35 => 43 | 52 => 52 | 59 => 58 | n => n, fun | 0 => 0 | 3 => 3 | 4 => 4 | 5 => 5 | 9 => 9 | 20 => 20 | 30 => 59 | 36 => 77 | 38 => 82 | 59 => 79 | 73 => 97 | 89 => 44 | n => n, fun | n => n⟩
theorem lays35 : Go.Proofs.Lays7.n35 Tryd.prog renW := {
  mixed := by kernel_rfl
  f35 := Tryd.func43.trans (congrArg some (by kernel_rfl))
  f52 := Tryd.func52.trans (congrArg some (by kernel_rfl))
  f59 := Tryd.func58.trans (congrArg some (by kernel_rfl))
  t0 := Tryd.underlying0
  a0 := Tryd.isAgg0
  z0 := Tryd.sizeOf0
  v0 := Tryd.zeroValue0
  i0 := by kernel_rfl
  t3 := Tryd.underlying3
  a3 := Tryd.isAgg3
  z3 := Tryd.sizeOf3
  v3 := Tryd.zeroValue3
  i3 := by kernel_rfl
  t4 := Tryd.underlying4
  a4 := Tryd.isAgg4
  z4 := Tryd.sizeOf4
  v4 := Tryd.zeroValue4
  i4 := by kernel_rfl
  t9 := Tryd.underlying9
  a9 := Tryd.isAgg9
  z9 := Tryd.sizeOf9
  v9 := Tryd.zeroValue9
  i9 := by kernel_rfl
  t20 := Tryd.underlying20
  a20 := Tryd.isAgg20
  z20 := Tryd.sizeOf20
  v20 := Tryd.zeroValue20
  i20 := by kernel_rfl
  t30 := Tryd.underlying59
  a30 := Tryd.isAgg59
  z30 := Tryd.sizeOf59
  v30 := Tryd.zeroValue59
  i30 := by kernel_rfl
  t36 := Tryd.underlying77
  a36 := Tryd.isAgg77
  z36 := Tryd.sizeOf77
  v36 := Tryd.zeroValue77
  i36 := by kernel_rfl
  t38 := Tryd.underlying82
  a38 := Tryd.isAgg82
  z38 := Tryd.sizeOf82
  v38 := Tryd.zeroValue82
  i38 := by kernel_rfl
  t59 := Tryd.underlying79
  a59 := Tryd.isAgg79
  z59 := Tryd.sizeOf79
  v59 := Tryd.zeroValue79
  i59 := by kernel_rfl
  t73 := Tryd.underlying97
  a73 := Tryd.isAgg97
  z73 := Tryd.sizeOf97
  v73 := Tryd.zeroValue97
  i73 := by kernel_rfl }

/-- A strings.Builder of the call's own in block b, that holds the bytes l. -/
def Bld (B b : Nat) (l : List UInt8) (w : World) : Prop := Lib.IsBuilder 79 5 B b (Lib.byteCells l) w
theorem byteCells_append (l m : List UInt8) : Lib.byteCells (l ++ m) = Lib.byteCells l ++ Lib.byteCells m := by simp [Lib.byteCells]
theorem byteCells_length (l : List UInt8) : (Lib.byteCells l).length = l.length := by simp [Lib.byteCells]

theorem grow_any (B b n : Nat) (w : World) (hB : B ≤ b) (hbk : w.heap[b]? = some (.cells #[.pointer none, .slice none 0 0] 79 (0, 0))) (hBw : B ≤ w.heap.size) (hn : n ≤ 281474976710656) :
    Calls Tryd.prog 42 #[.pointer (some ⟨b, 0, none⟩), .int .i64 n] w fun e w' => e = .returned (.tuple #[]) ∧ Bld B b [] w' ∧ Below B w w' :=
  (Any.Builder_Grow_fresh lays165 builderX B b n w hB hbk hBw hn).mono fun _ _ h => ⟨h.1, .inr h.2.1, h.2.2⟩
theorem write_any (B b : Nat) (l : List UInt8) (ad : Addr) (m c : Nat) (news : List UInt8) (w : World) (h : Bld B b l w) (hl : news.length = m) (hnews : ∀ j u, (Lib.byteCells news)[j]? = some u → w.cell? (ad.add j) = some u) (hadB : ad.block < B)
    (hlen : l.length + m ≤ 140737488355328) (hBw : B ≤ w.heap.size) :
    Calls Tryd.prog 43 #[.pointer (some ⟨b, 0, none⟩), .slice (some ad) m c] w fun e w' => e = .returned (.tuple #[.int .i64 m, .nilIface]) ∧ Bld B b (l ++ news) w' ∧ Below B w w' := by
  have h1 : ∀ u ∈ Lib.byteCells news, u.oneCell' = true := by
    intro u hu
    simp only [Lib.byteCells, List.mem_map] at hu
    obtain ⟨x, _, rfl⟩ := hu
    rfl
  refine (Any7.Builder_Write lays35 lays240 builderX rfl rfl rfl B b (Lib.byteCells l) ad m c (Lib.byteCells news) w h (by rw [byteCells_length]; exact hl) hnews hadB h1 (by rw [byteCells_length]; exact hlen) hBw).mono fun _ _ h => ⟨h.1, .inr ?_, h.2.2⟩
  rw [byteCells_append]
  exact h.2.1
theorem writeString_any (B b : Nat) (l : List UInt8) (s : ByteArray) (w : World) (h : Bld B b l w) (hlen : l.length + s.size ≤ 140737488355328) (hBw : B ≤ w.heap.size) :
    Calls Tryd.prog 44 #[.pointer (some ⟨b, 0, none⟩), .string s] w fun e w' => e = .returned (.tuple #[.int .i64 s.size, .nilIface]) ∧ Bld B b (l ++ s.data.toList) w' ∧ Below B w w' := by
  refine (Any.Builder_WriteString lays166 builderX B b (Lib.byteCells l) s w h (by rw [byteCells_length]; exact hlen) hBw).mono fun _ _ h => ⟨h.1, .inr ?_, h.2.2⟩
  rw [byteCells_append]
  exact h.2.1
theorem string_any (B b : Nat) (l : List UInt8) (w : World) (h : Bld B b l w) (hBw : B ≤ w.heap.size) :
    Calls Tryd.prog 45 #[.pointer (some ⟨b, 0, none⟩)] w fun e w' => e = .returned (.string ⟨l.toArray⟩) ∧ Below B w w' :=
  Any.Builder_String_any lays169 builderX B b l w h hBw
end Go.Proofs.YtpmlkofceidnjaaDoor
namespace Go.Proofs.YtpmlkofceidnjaaDoor
open Go.RowKit

/-- What Wrap writes. -/
def wrapL (t : Nat) (c : List UInt8) : List UInt8 := UInt8.ofNat t :: (lenO c.length ++ c)
def wrapErr (T : Int) (n : Nat) : Nat := if T < 0 ∨ 255 < T ∨ T % 32 = 31 then 5 else if 131072 < n then 6 else 0
def wrapStr (T : Int) (c : List UInt8) : ByteArray := if wrapErr T c.length = 0 then ⟨(wrapL T.toNat c).toArray⟩ else ⟨#[]⟩
def wrapVal (T : Int) (c : List UInt8) : Value := .tuple #[.string (wrapStr T c), .int .i64 ((wrapErr T c.length : Nat) : Int)]
theorem zeroBld : ∀ w, (zeroValue 79).run Tryd.prog w = .ok (.agg #[.pointer none, .slice none 0 0]) w := by intro w; kernel_rfl

theorem own_one (w : World) (y : UInt8) : OwnB 5 (w.alloc (.cells #[.int .u8 ((y.toNat : Nat) : Int)] 5)) w.heap.size (.slice (some ⟨w.heap.size, 0, none⟩) 1 1) [y] :=
  ⟨rfl, .inr ⟨w.heap.size, 1, _, rfl, Nat.le_refl _, heap_alloc_new w _, Nat.le_refl _, by decide, rfl, rfl⟩⟩
theorem belowNew' (w : World) (o : Obj) : Below w.heap.size w (w.alloc o) := (Below.refl _ w).alloc (Nat.le_refl _) o
theorem add_lt {g B : Nat} (h : g < B) (j : Nat) : ((⟨g, 0, none⟩ : Addr).add j).block < B := by unfold Addr.add; split <;> exact h
theorem alloc_cell {w : World} {p : Addr} (o : Obj) (h : p.block < w.heap.size) : (w.alloc o).cell? p = w.cell? p :=
  ((Below.refl w.heap.size w).alloc (Nat.le_refl _) o).cell h
theorem own_form_t {w : World} {B : Nat} {v : Value} {l : List UInt8} (h : OwnB 5 w B v l) (hl : l ≠ []) :
    ∃ g cap n, v = .slice (some ⟨g, 0, none⟩) n cap ∧ n = l.length ∧ B ≤ g ∧ g < w.heap.size ∧ ∀ j u, (Lib.byteCells l)[j]? = some u → w.cell? ((⟨g, 0, none⟩ : Addr).add j) = some u := by
  rcases h.2 with ⟨_, h0⟩ | ⟨g, cap, cur, hv, hB, hg, _⟩
  · exact absurd (List.eq_nil_of_length_eq_zero h0) hl
  · exact ⟨g, cap, _, hv, rfl, hB, (Array.getElem?_eq_some_iff.1 hg).1, fun j u hj => World.ownsRow.cells h (by rw [hv]; rfl) j u hj⟩
theorem grow_int (B b n : Nat) (N : Int) (w : World) (hB : B ≤ b) (hbk : w.heap[b]? = some (.cells #[.pointer none, .slice none 0 0] 79 (0, 0))) (hBw : B ≤ w.heap.size) (hn : n ≤ 281474976710656) (hN : N = (n : Int)) :
    Calls Tryd.prog 42 #[.pointer (some ⟨b, 0, none⟩), .int .i64 N] w fun e w' => e = .returned (.tuple #[]) ∧ Bld B b [] w' ∧ Below B w w' := by
  rw [hN]
  exact grow_any B b n w hB hbk hBw hn

set_option maxRecDepth 100000 in
set_option maxHeartbeats 1000000 in
theorem wrap_out (T : Int) (v : Value) (w : World) (h : T < 0 ∨ 255 < T) :
    Calls Tryd.prog 28 #[.int .i64 T, v] w fun e w' => e = .returned (.tuple #[.string ⟨#[]⟩, .int .i64 5]) ∧ w' = w := by
  by_cases h0 : T < 0
  · have d0 : decide (T < 0) = true := by simpa using h0
    clear h h0
    go_enter Tryd.func28, Tryd.ntmps28
    go_wp2_with fail
    go_ret2
    exact ⟨rfl, rfl⟩
  · have h1 : 255 < T := by omega
    have d0 : decide (T < 0) = false := by simpa using h0
    have d1 : decide (255 < T) = true := by simpa using h1
    clear h h0 h1
    go_enter Tryd.func28, Tryd.ntmps28
    go_wp2_with fail
    go_ret2
    exact ⟨rfl, rfl⟩
set_option maxRecDepth 100000 in
set_option maxHeartbeats 1000000 in
theorem wrap_tag (t : Nat) (v : Value) (w : World) (ht : t < 256) (h : t % 32 = 31) :
    Calls Tryd.prog 28 #[.int .i64 (t : Nat), v] w fun e w' => e = .returned (.tuple #[.string ⟨#[]⟩, .int .i64 5]) ∧ w' = w := by
  have d1 : decide (255 < (t : Int)) = false := by simp; omega
  have HF := Lib.hid ht
  have HT := Lib.hid (show decide (t % 32 ≠ 31) = false by simp; omega)
  clear ht h
  go_enter Tryd.func28, Tryd.ntmps28
  go_wp2_with (go_at_call 39; (with_reducible refine (hasShortTag_any t HF.out _).mono ?_); rw [HT.out]; rintro e w1 ⟨rfl, rfl⟩)
  go_ret2
  exact ⟨rfl, rfl⟩
set_option maxRecDepth 100000 in
set_option maxHeartbeats 1000000 in
theorem wrap_long (t : Nat) (a0 : Option Addr) (cap : Nat) (ss : List ByteArray) (w : World) (ht : t < 256) (h : t % 32 ≠ 31) (hv : Lies w a0 ss) (hn : ss.length < 4611686018427387904) (hb : ¬ (cat_t ss).length ≤ 131072) :
    Calls Tryd.prog 28 #[.int .i64 (t : Nat), .slice a0 ss.length cap] w fun e w' => e = .returned (.tuple #[.string ⟨#[]⟩, .int .i64 6]) ∧ w' = w := by
  have d1 : decide (255 < (t : Int)) = false := by simp; omega
  have HF := Lib.hid ht
  have HT := Lib.hid (show decide (t % 32 ≠ 31) = true by simp; omega)
  have HV := Lib.hid hv
  have HN := Lib.hid hn
  have HB := Lib.hid hb
  have HD := Lib.hid (decide_eq_false hb)
  clear ht h hv hn hb
  go_enter Tryd.func28, Tryd.ntmps28
  go_wp2_with (first | (go_at_call 39; (with_reducible refine (hasShortTag_any t HF.out _).mono ?_); rw [HT.out]; rintro e w1 ⟨rfl, rfl⟩) | (go_at_call 40; (with_reducible refine (total_core a0 cap ss _ HV.out HN.out).mono ?_); rw [if_neg HB.out, HD.out]; rintro e w1 ⟨rfl, rfl⟩))
  go_ret2
  exact ⟨rfl, rfl⟩
set_option maxRecDepth 100000 in
set_option maxHeartbeats 2000000 in
theorem wrap_fits (t : Nat) (a0 : Option Addr) (cap : Nat) (ss : List ByteArray) (w : World) (ht : t < 256) (h : t % 32 ≠ 31) (hv : Lies w a0 ss) (hn : ss.length < 4611686018427387904) (hb : (cat_t ss).length ≤ 131072) :
    Calls Tryd.prog 28 #[.int .i64 (t : Nat), .slice a0 ss.length cap] w fun e w' => e = .returned (.tuple #[.string ⟨(wrapL t (cat_t ss)).toArray⟩, .int .i64 0]) ∧ Below w.heap.size w w' := by
  have d1 : decide (255 < (t : Int)) = false := by simp; omega
  obtain ⟨n, hln⟩ : ∃ n, n = ss.length := ⟨_, rfl⟩
  obtain ⟨m, hm⟩ : ∃ m, m = (cat_t ss).length := ⟨_, rfl⟩
  have hz := zeroBld
  have HF := Lib.hid ht
  have HT := Lib.hid (show decide (t % 32 ≠ 31) = true by simp; omega)
  have HV := Lib.hid hv
  have HC := Lib.hid (total_core a0 cap ss w hv hn)
  have HB := Lib.hid hb
  have HD := Lib.hid (decide_eq_true hb)
  rw [← hln] at hn ⊢
  have HLN := Lib.hid hln
  have HM := Lib.hid hm
  have hm2 : m ≤ 131072 := by rw [hm]; exact hb
  have HM2 := Lib.hid hm2
  have HTot := Lib.hid (show Calls Tryd.prog 40 #[.slice a0 n cap] w fun e w' => e = .returned (.tuple #[.int .i64 (m : Nat), .bool true]) ∧ w' = w by
    have := total_core a0 cap ss w hv (by rw [← hln]; exact hn)
    rwa [if_pos hb, decide_eq_true hb, ← hln, ← hm] at this)
  obtain ⟨y, rfl⟩ : ∃ y : UInt8, t = y.toNat := ⟨UInt8.ofNat t, by simp; omega⟩
  have hmod : ((y.toNat : Nat) : Int) % 256 = ((y.toNat : Nat) : Int) := by have := y.toNat_lt; omega
  have hL5 : ([y] ++ lenO m).length ≤ 5 := by have := lsz_le m; rw [List.length_append, lenO_length]; simp; omega
  have HL5 := Lib.hid hL5
  clear hL5
  clear h hv hb hm hln ht HC
  go_enter Tryd.func28, Tryd.ntmps28
  go_wp2_with (first | (go_at_call 39; (with_reducible refine (hasShortTag_any y.toNat HF.out _).mono ?_); rw [HT.out]; rintro e w1 ⟨rfl, rfl⟩) | (go_at_call 40; (with_reducible refine HTot.out.mono ?_); rintro e w1 ⟨rfl, rfl⟩) | (go_at_call 41; (with_reducible refine (appendLength_any w1.heap.size _ [y] m _ (own_one w1 y) (by simp) (by simp) HM2.out).mono ?_); rintro e w2 ⟨v2, rfl, ho2, hb2⟩; obtain ⟨g, cap2, L, rfl, hL, hg1, hg2, hcells⟩ := own_form_t ho2 (by simp); have HL := Lib.hid hL; have hLb : L ≤ 5 := (by rw [hL]; exact HL5.out); have HG1 := Lib.hid hg1; have HG2 := Lib.hid hg2; have HCE := Lib.hid hcells; have HB2 := Lib.hid hb2; clear ho2 hL hg1 hg2 hcells hb2) | (go_at_call 42; (with_reducible refine (grow_int w2.heap.size w2.heap.size (L + m) _ _ (Nat.le_refl _) (heap_alloc_new w2 _) (by simp) (by omega) (by omega)).mono ?_); rintro e w3 ⟨rfl, hd3, hb3⟩; have HD3 := Lib.hid hd3; have HB3 := Lib.hid hb3; clear hd3 hb3) | (go_at_call 43; (with_reducible refine (write_any w2.heap.size w2.heap.size [] ⟨g, 0, none⟩ L cap2 ([y] ++ lenO m) _ HD3.out HL.out.symm (fun j u h => (HB3.out.cell (p := (⟨g, 0, none⟩ : Addr).add j) (add_lt HG2.out j)).trans ((alloc_cell _ (add_lt HG2.out j)).trans (HCE.out j u h))) HG2.out (by simp; omega) (by have := HB3.out.size; simp at this; omega)).mono ?_); rintro e w4 ⟨rfl, hd4, hb4⟩; have HD4 := Lib.hid hd4; have HB4 := Lib.hid hb4; clear hd4 hb4))
  have hx4 : Below w1.heap.size w1 w4 := (((((belowNew' w1 _).trans HB2.out).alloc (by have := HB2.out.size; simp at this; omega) _).trans (HB3.out.mono (by have := HB2.out.size; simp at this; omega))).trans (HB4.out.mono (by have := HB2.out.size; simp at this; omega)))
  have HX4 := Lib.hid hx4
  have HS4 := Lib.hid (show w2.heap.size ≤ w4.heap.size by have := HB3.out.size; have := HB4.out.size; simp at *; omega)
  clear hx4
  go_loopw [44] (fun i wr => ∃ k : Nat, k ≤ n ∧ i = .int .i64 k ∧ Bld w2.heap.size w2.heap.size (([y] ++ lenO m) ++ cat_t (ss.take k)) wr ∧ Below w1.heap.size w1 wr ∧ w2.heap.size ≤ wr.heap.size) (fun i _ => n - (intOf i).toNat)
  case atStart => exact ⟨0, Nat.zero_le _, rfl, by have := HD4.out; simpa [cat_t] using this, HX4.out, HS4.out⟩
  case round =>
    obtain ⟨k, hk, rfl, hd, hb, hsz⟩ := hrel
    have HD5 := Lib.hid hd
    have HB5 := Lib.hid hb
    have HS5 := Lib.hid hsz
    have HR := Lib.hid (Nat.le_trans HB2.out.size hsz)
    clear hd hb hsz
    by_cases hlt : k < n
    · have hdd : decide ((k : Int) < (n : Int)) = true := by simp; omega
      obtain ⟨b, o, ha, hc⟩ := (HV.out.old HB5.out).at k (by rw [← HLN.out]; exact hlt)
      have hcs := cat_take_succ ss k (by rw [← HLN.out]; exact hlt)
      have hle := cat_take_le ss (k + 1)
      generalize ss.getD k ByteArray.empty = x at hc hcs
      subst ha
      have hlx : (([y] ++ lenO m) ++ cat_t (ss.take k)).length + x.size ≤ 140737488355328 := by
        have h1 := HL5.out
        have h2 := HB.out
        rw [hcs, List.length_append] at hle
        have h3 : x.data.toList.length = x.size := rfl
        rw [List.length_append]
        omega
      have HCS := Lib.hid hcs
      have HLX := Lib.hid hlx
      clear hcs hle hlx
      go_wp2_with (go_at_call 44; (with_reducible refine (writeString_any w2.heap.size w2.heap.size (([y] ++ lenO m) ++ cat_t (ss.take k)) x _ HD5.out HLX.out HS5.out).mono ?_); rintro e w6 ⟨rfl, hd6, hb6⟩; have HD6 := Lib.hid hd6; have HB6 := Lib.hid hb6; clear hd6 hb6)
      go_roundw
      case rel =>
        refine ⟨k + 1, by omega, by go_num, ?_, HB5.out.trans (HB6.out.mono (by have := HB2.out.size; simp at this; omega)), Nat.le_trans HS5.out HB6.out.size⟩
        rw [HCS.out, ← List.append_assoc]
        exact HD6.out
      case measure => simp [intOf]; omega
    · have ek : k = n := by omega
      subst ek
      have hdd : decide ((k : Int) < (k : Int)) = false := by simp
      have et := Lib.hid (show ss.take k = ss from List.take_of_length_le (by rw [← HLN.out]; exact Nat.le_refl _))
      go_wp2_with (go_at_call 45; (with_reducible refine (string_any w2.heap.size w2.heap.size (([y] ++ lenO m) ++ cat_t (ss.take k)) _ HD5.out HS5.out).mono ?_); rintro e w6 ⟨rfl, hb6⟩; have HB6 := Lib.hid hb6; clear hb6)
      go_ret2
      refine ⟨?_, HB5.out.trans (HB6.out.mono (by have := HB2.out.size; simp at this; omega))⟩
      rw [et.out, HM.out]
      unfold wrapL
      rw [UInt8.ofNat_toNat]
      rfl

theorem wrap_any (T : Int) (v : Value) (ss : List ByteArray) (w : World) (hv : Reads w v ss) (hn : ss.length < 4611686018427387904) :
    Calls Tryd.prog 28 #[.int .i64 T, v] w fun e w' => e = .returned (wrapVal T (cat_t ss)) ∧ Below w.heap.size w w' := by
  by_cases h0 : T < 0 ∨ 255 < T
  · have e : wrapErr T (cat_t ss).length = 5 := if_pos (by omega)
    unfold wrapVal wrapStr
    rw [e]
    exact (wrap_out T v w h0).mono fun _ _ h => ⟨h.1, by rw [h.2]; exact Below.refl _ _⟩
  · obtain ⟨t, rfl⟩ := Int.eq_ofNat_of_zero_le (show 0 ≤ T by omega)
    have ht : t < 256 := by omega
    by_cases h1 : t % 32 = 31
    · have e : wrapErr (t : Int) (cat_t ss).length = 5 := if_pos (by omega)
      unfold wrapVal wrapStr
      rw [e]
      exact (wrap_tag t v w ht h1).mono fun _ _ h => ⟨h.1, by rw [h.2]; exact Below.refl _ _⟩
    · obtain ⟨a, cap, rfl, hl⟩ := hv
      by_cases h2 : (cat_t ss).length ≤ 131072
      · have e : wrapErr (t : Int) (cat_t ss).length = 0 := by unfold wrapErr; rw [if_neg (by omega), if_neg (by omega)]
        unfold wrapVal wrapStr
        rw [e]
        exact wrap_fits t a cap ss w ht h1 hl hn h2
      · have e : wrapErr (t : Int) (cat_t ss).length = 6 := by unfold wrapErr; rw [if_neg (by omega), if_pos (by omega)]
        unfold wrapVal wrapStr
        rw [e]
        exact (wrap_long t a cap ss w ht h1 hl hn h2).mono fun _ _ h => ⟨h.1, by rw [h.2]; exact Below.refl _ _⟩
end Go.Proofs.YtpmlkofceidnjaaDoor
