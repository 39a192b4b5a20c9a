/-
  The walk of the law TextBytes: for every slice of bytes it returns true, and leaves all that was there as it was.
-/
import Derived.Test.YtnagonihkfpefaaDoorXawake
import Derived.Lib.QuietBelow
namespace Go.Proofs.YtnagonihkfpefaaDoor
open Go.RowKit

theorem byte_made {w : World} {B : Nat} {v : Value} (m : Nat) (h : w.ownsRow B 5 1 v m (madeCells (Value.int .u8 0).cells (m * 1)).toList) : OwnB 5 w B v (List.replicate m 0) := by
  unfold OwnB
  rw [List.length_replicate]
  have e : (madeCells (Value.int .u8 0).cells (m * 1)).toList = (List.replicate m (0 : UInt8)).map bcell := by
    simp only [madeCells, Value.cells, Nat.mul_one]
    apply List.ext_getElem
    · simp
    · intro i h1 h2
      simp [Nat.mod_one, bcell]
  rw [← e]; exact h
def marks : List UInt8 := [32, 126, 127, 128, 143, 144, 159, 160, 191, 193, 194, 223, 224, 237, 239, 240, 244, 245, 248, 97]
theorem row_marks (W : World) (k : Nat) (hk : k < 20) : (W.alloc (.cells (marks.map bcell).toArray 5)).cell? ⟨W.heap.size, k, none⟩ = some (.int .u8 (((marks.getD k 0).toNat : Nat) : Int)) := by
  rw [cell_of_row _ _ k _ _ _ (heap_alloc_new W _)]
  have : k < marks.length := hk
  simp [this, bcell]

set_option maxRecDepth 100000 in
set_option maxHeartbeats 2000000 in
theorem bytlaw (a0 : Option Addr) (l : List UInt8) (cap : Nat) (w : World) (hl : BLies w a0 l) (hlen : l.length ≤ 9223372036854775807) (ht : Tab w) :
    Calls Tryd.prog 4 #[.slice a0 l.length cap] w fun e w' => e = .returned (.bool true) ∧ Below w.heap.size w w' := by
  have HT := Lib.hid ht
  clear ht
  by_cases h : 12 < l.length
  · have d : decide ((12 : Int) < (l.length : Int)) = true := by simp; omega
    clear h
    go_enter Tryd.func4, Tryd.ntmps4
    go_wp2_with (go_at_call 8; (with_reducible refine (awake_any _ HT.out).mono ?_); rintro e w1 ⟨rfl, hb1⟩; have HB1 := Lib.hid hb1; clear hb1)
    go_ret
    exact ⟨rfl, HB1.out⟩
  · have d2 : decide ((12 : Int) < (l.length : Int)) = false := by simp; omega
    have hl100 : l.length ≤ 12 := by omega
    obtain ⟨i0, hi, hz0, hz1, hz2⟩ := info_parts byteInfo
    have HL := Lib.hid hl
    clear h hl hlen
    go_enter Tryd.func4, Tryd.ntmps4
    go_wp2_with (at_make; refine wpList_make_full _ rfl _ _ 22 rfl w.heap.size 5 i0 (.int .u8 0) 1 Tryd.underlying22 hi hz0 hz1 .i64 .i64 (l.length : Int) (l.length : Int) l.length rfl rfl rfl rfl (by rw [hz2]; omega) (by unfold maxLen; omega) (Nat.le_refl _) ?_; intro w1 hown1 hgr1; have HO1 := Lib.hid (byte_made l.length hown1); have HG1 := Lib.hid hgr1; clear hown1 hgr1)
    have HB1 := Lib.hid ((Below.refl w.heap.size w).grown HG1.out (Nat.le_refl _) (fun _ e => by cases e))
    clear hi hz0 hz1 hz2
    go_loopw [14] (fun i wr => ∃ (k : Nat) (b : List UInt8), k ≤ l.length ∧ i = .int .i64 (k : Int) ∧ b.length = l.length ∧ OwnB 5 wr w.heap.size (.slice (some ⟨w.heap.size, 0, none⟩) l.length l.length) b ∧ Below w.heap.size w wr) (fun i _ => l.length - (intOf i).toNat)
    case atStart => exact ⟨0, _, by omega, rfl, by simp, HO1.out, HB1.out⟩
    case round =>
      obtain ⟨k, b, hk, rfl, hbl, ho, hb⟩ := hrel
      have HB := Lib.hid hb
      have HO := Lib.hid ho
      have HBL := Lib.hid hbl
      by_cases hlt : k < l.length
      · have dk : decide ((k : Int) < (l.length : Int)) = true := by simp; omega
        obtain ⟨g, off, rfl, hcl⟩ := HL.out.resolve_left (fun e => by rw [e] at hlt; simp at hlt)
        have hbel := hb.alloc hb.size (.cells (marks.map bcell).toArray 5)
        have hcy : (wr.alloc (.cells (marks.map bcell).toArray 5)).cell? ⟨g, off + k, none⟩ = some (bcell l[k]) := by
          rw [← hcl k hlt]
          exact hbel.cell (World.block_lt_of_cell? _ _ (hcl k hlt))
        have hoa := ho.alloc (.cells (marks.map bcell).toArray 5)
        have hfr := own_free hoa hbl k
        have hck := own_cell hoa hbl k hlt
        generalize (b.getD k 0).toNat = old at hck
        rw [bcell] at hcy
        obtain ⟨x, hx⟩ : ∃ x, x = (l[k]).toNat := ⟨_, rfl⟩
        rw [← hx] at hcy
        have hx256 : x < 256 := by rw [hx]; exact (l[k]).toNat_lt
        obtain ⟨m, hm⟩ : ∃ m, m = x % 20 := ⟨_, rfl⟩
        have hmi : (x : Int) % 20 = (m : Int) := by omega
        have hm13 : m < 20 := by omega
        have hcw := row_marks wr m hm13
        generalize marks.getD m 0 = y at hcw
        have HS := Lib.hid (own_set hoa hbl k y)
        have HBS := Lib.hid (hbel.setCell (p := ⟨w.heap.size, k, none⟩) (Nat.le_refl _) (.int .u8 ((y.toNat : Nat) : Int)))
        have HLS := Lib.hid (show (b.set k y).length = l.length by rw [List.length_set, hbl])
        clear ho hb hbel hoa hx hm hcl
        have e13 : (marks.map bcell).toArray = #[.int .u8 32, .int .u8 126, .int .u8 127, .int .u8 128, .int .u8 143, .int .u8 144, .int .u8 159, .int .u8 160, .int .u8 191, .int .u8 193, .int .u8 194, .int .u8 223, .int .u8 224, .int .u8 237, .int .u8 239, .int .u8 240, .int .u8 244, .int .u8 245, .int .u8 248, .int .u8 97] := by rfl
        rw [e13] at hcy hcw hfr hck HS HBS
        clear e13
        generalize y.toNat = z at hcw HS HBS
        go_wp2_with fail
        go_roundw
        case rel => exact ⟨k + 1, b.set k y, by omega, by go_num, HLS.out, HS.out, HBS.out⟩
        case measure => simp [intOf]; omega
      · obtain rfl : k = l.length := by omega
        have dk : decide ((l.length : Int) < (l.length : Int)) = false := by simp
        obtain ⟨X1, hX1⟩ : ∃ X1, X1 = strOf b := ⟨_, rfl⟩
        have hz1 : X1.size ≤ 12 := by rw [hX1, strOf_size, hbl]; exact hl100
        have HTW := Lib.hid (HT.out.below hb)
        have hconv : ∀ d os, (convert 22 9 (.slice (some ⟨w.heap.size, 0, none⟩) l.length l.length)).run Tryd.prog (Sort.grow (redrawn wr d) os) = .ok (.string X1) (Sort.grow (redrawn wr d) os) := fun d os => by
          rw [hX1]
          exact own_str (own_below ho (below_regrown wr d os))
        clear ho hb hbl hX1
        obtain ⟨v, hv⟩ : ∃ v, validB 12 X1.data.toList = v := ⟨_, rfl⟩
        have cA : ∀ d os, Calls Tryd.prog 8 #[] (Sort.grow (redrawn wr d) os) fun e w'' => e = .returned (.bool true) ∧ ∃ p : Regrown, w'' = Sort.grow (redrawn wr p.d) p.os := fun d os => Calls.regrown_of (awake_any _ (HTW.out.below (below_regrown wr d os)))
        have cL : ∀ d os, Calls Tryd.prog 10 #[.int .i64 12, .string X1] (Sort.grow (redrawn wr d) os) fun e w'' => e = .returned (.bool v) ∧ ∃ p : Regrown, w'' = Sort.grow (redrawn wr p.d) p.os := fun d os => Calls.regrown_of (by
          have := tval_any 12 X1 (Sort.grow (redrawn wr d) os) (by omega) (HTW.out.below (below_regrown wr d os))
          rwa [hv] at this)
        have cR : ∀ d os, Calls Tryd.prog 11 #[.int .i64 12, .string X1] (Sort.grow (redrawn wr d) os) fun e w'' => e = .returned (.bool v) ∧ ∃ p : Regrown, w'' = Sort.grow (redrawn wr p.d) p.os := fun d os => Calls.regrown_of (by
          have := rval_any 12 X1 (Sort.grow (redrawn wr d) os) (by omega)
          rwa [hv] at this)
        clear hv hz1
        go_wp2_with fail
        cases v
        all_goals
          refine wp_region_quiet_below (by kernel_rfl) (by kernel_rfl) ?_
          repeat (quiet_step (first | exact cA _ _ | exact cL _ _ | exact cR _ _))
          refine wpQuiet_nil ?_
          intro _ hw'
          obtain ⟨⟨dq, osq⟩, hw''⟩ := hw'
          subst hw''
          clear cA cL cR hconv
          have HBZ := Lib.hid (below_next HB.out (below_regrown wr dq osq))
          go_wp2_with fail
          go_ret
          exact ⟨rfl, HBZ.out⟩
end Go.Proofs.YtnagonihkfpefaaDoor
