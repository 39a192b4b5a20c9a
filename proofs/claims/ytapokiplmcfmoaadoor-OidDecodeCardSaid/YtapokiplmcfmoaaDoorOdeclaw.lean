/-
  The walk of the law OidDecode: for every string and every slice of bytes it returns true, and leaves all that was there as it was.
-/
import Derived.Test.YtapokiplmcfmoaaDoorOrdecode
import Derived.Test.YtapokiplmcfmoaaDoorOawake
import Derived.Test.YtapokiplmcfmoaaDoorOpieces
namespace Go.Proofs.YtapokiplmcfmoaaDoor
open Go.RowKit

theorem decd_both (x : List UInt8) : ∃ (X : ByteArray) (n : Nat), ∀ e, Decd x e → e = .returned (.tuple #[.string X, .int .i64 ((n : Nat) : Int)]) := by
  by_cases h : ∃ a, Dec x a
  · obtain ⟨a, ha⟩ := h
    refine ⟨strOf (txt a), 0, ?_⟩
    rintro e (⟨b, hb, rfl⟩ | ⟨hn, _⟩)
    · rw [dec_one hb ha]; rfl
    · exact absurd ha (hn a)
  · refine ⟨⟨#[]⟩, 11, ?_⟩
    rintro e (⟨b, hb, rfl⟩ | ⟨hn, rfl⟩)
    · exact absurd ⟨b, hb⟩ h
    · rfl
theorem byte_made {w : World} {B : Nat} {v : Value} (m : Nat) (h : w.ownsRow B 5 1 v m (madeCells (Value.int .u8 0).cells (m * 1)).toList) : OwnB 5 w B v (List.replicate m 0) := by
  unfold OwnB
  rw [List.length_replicate]
  have e : (madeCells (Value.int .u8 0).cells (m * 1)).toList = (List.replicate m (0 : UInt8)).map bcell := by
    simp only [madeCells, Value.cells, Nat.mul_one]
    apply List.ext_getElem
    · simp
    · intro i h1 h2
      simp [Nat.mod_one, bcell]
  rw [← e]; exact h
def marks : List UInt8 := [0, 1, 39, 40, 80, 119, 127, 128, 129, 135, 136, 143, 255]
theorem row_marks (W : World) (k : Nat) (hk : k < 13) : (W.alloc (.cells (marks.map bcell).toArray 5)).cell? ⟨W.heap.size, k, none⟩ = some (.int .u8 (((marks.getD k 0).toNat : Nat) : Int)) := by
  rw [cell_of_row _ _ k _ _ _ (heap_alloc_new W _)]
  have : k < marks.length := hk
  simp [this, bcell]

set_option maxRecDepth 100000 in
set_option maxHeartbeats 2000000 in
theorem declaw (c : ByteArray) (a0 : Option Addr) (l : List UInt8) (cap : Nat) (w : World) (hl : BLies w a0 l) (hlen : l.length ≤ 9223372036854775807) (ht : Pow10 w) :
    Calls Tryd.prog 4 #[.string c, .slice a0 l.length cap] w fun e w' => e = .returned (.bool true) ∧ Below w.heap.size w w' := by
  by_cases h : 100 < c.size ∨ 100 < l.length
  · have hor : decide ((100 : Int) < (c.size : Int)) = true ∨ decide ((100 : Int) < (c.size : Int)) = false ∧ decide ((100 : Int) < (l.length : Int)) = true := by
      by_cases h1 : 100 < c.size
      · left; simp; omega
      · right; exact ⟨by simp; omega, by simp; omega⟩
    clear h
    rcases hor with d | ⟨d, d2⟩
    all_goals
      go_enter Tryd.func4, Tryd.ntmps4
      go_wp2_with (go_at_call 8; (with_reducible refine (awake_any _).mono ?_); rintro e w1 ⟨rfl, hb1⟩; have HB1 := Lib.hid hb1; clear hb1)
      go_ret
      exact ⟨rfl, HB1.out⟩
  · have d : decide ((100 : Int) < (c.size : Int)) = false := by simp; omega
    have d2 : decide ((100 : Int) < (l.length : Int)) = false := by simp; omega
    have hc : c.size ≤ 100 := by omega
    have hl100 : l.length ≤ 100 := by omega
    obtain ⟨i0, hi, hz0, hz1, hz2⟩ := info_parts byteInfo
    have HL := Lib.hid hl
    have HT := Lib.hid ht
    clear h hl hlen ht
    go_enter Tryd.func4, Tryd.ntmps4
    go_wp2_with (at_make; refine wpList_make_full _ rfl _ _ 22 rfl w.heap.size 5 i0 (.int .u8 0) 1 Tryd.underlying22 hi hz0 hz1 .i64 .i64 (l.length : Int) (l.length : Int) l.length rfl rfl rfl rfl (by rw [hz2]; omega) (by unfold maxLen; omega) (Nat.le_refl _) ?_; intro w1 hown1 hgr1; have HO1 := Lib.hid (byte_made l.length hown1); have HG1 := Lib.hid hgr1; clear hown1 hgr1)
    have HB1 := Lib.hid ((Below.refl w.heap.size w).grown HG1.out (Nat.le_refl _) (fun _ e => by cases e))
    clear hi hz0 hz1 hz2
    go_loopw [6, 27] (fun _ i wr => ∃ (k : Nat) (b : List UInt8), k ≤ l.length ∧ i = .int .i64 (k : Int) ∧ b.length = l.length ∧ OwnB 5 wr w.heap.size (.slice (some ⟨w.heap.size, 0, none⟩) l.length l.length) b ∧ Below w.heap.size w wr) (fun _ i _ => l.length - (intOf i).toNat)
    case atStart => exact ⟨0, _, by omega, rfl, by simp, HO1.out, HB1.out⟩
    case round =>
      obtain ⟨k, b, hk, rfl, hbl, ho, hb⟩ := hrel
      have HB := Lib.hid hb
      have HO := Lib.hid ho
      have HBL := Lib.hid hbl
      by_cases hlt : k < l.length
      · have dk : decide ((k : Int) < (l.length : Int)) = true := by simp; omega
        obtain ⟨g, off, rfl, hcl⟩ := HL.out.resolve_left (fun e => by rw [e] at hlt; simp at hlt)
        have hbel := hb.alloc hb.size (.cells (marks.map bcell).toArray 5)
        have hcy : (wr.alloc (.cells (marks.map bcell).toArray 5)).cell? ⟨g, off + k, none⟩ = some (bcell l[k]) := by
          rw [← hcl k hlt]
          exact hbel.cell (World.block_lt_of_cell? _ _ (hcl k hlt))
        have hoa := ho.alloc (.cells (marks.map bcell).toArray 5)
        have hfr := own_free hoa hbl k
        have hck := own_cell hoa hbl k hlt
        generalize (b.getD k 0).toNat = old at hck
        rw [bcell] at hcy
        obtain ⟨x, hx⟩ : ∃ x, x = (l[k]).toNat := ⟨_, rfl⟩
        rw [← hx] at hcy
        have hx256 : x < 256 := by rw [hx]; exact (l[k]).toNat_lt
        obtain ⟨m, hm⟩ : ∃ m, m = x % 13 := ⟨_, rfl⟩
        have hmi : (x : Int) % 13 = (m : Int) := by omega
        have hm13 : m < 13 := by omega
        have hcw := row_marks wr m hm13
        generalize marks.getD m 0 = y at hcw
        have HS := Lib.hid (own_set hoa hbl k y)
        have HBS := Lib.hid (hbel.setCell (p := ⟨w.heap.size, k, none⟩) (Nat.le_refl _) (.int .u8 ((y.toNat : Nat) : Int)))
        have HLS := Lib.hid (show (b.set k y).length = l.length by rw [List.length_set, hbl])
        clear ho hb hbel hoa hx hm hcl
        have e13 : (marks.map bcell).toArray = #[.int .u8 0, .int .u8 1, .int .u8 39, .int .u8 40, .int .u8 80, .int .u8 119, .int .u8 127, .int .u8 128, .int .u8 129, .int .u8 135, .int .u8 136, .int .u8 143, .int .u8 255] := by rfl
        rw [e13] at hcy hcw hfr hck HS HBS
        clear e13
        generalize y.toNat = z at hcw HS HBS
        go_wp2_with fail
        go_roundw
        case rel => exact ⟨k + 1, b.set k y, by omega, by go_num, HLS.out, HS.out, HBS.out⟩
        case measure => simp [intOf]; omega
      · obtain rfl : k = l.length := by omega
        have dk : decide ((l.length : Int) < (l.length : Int)) = false := by simp
        obtain ⟨X1, hX1⟩ : ∃ X1, X1 = strOf b := ⟨_, rfl⟩
        have hz1 : X1.size ≤ 100 := by rw [hX1, strOf_size, hbl]; exact hl100
        have hconv := own_str ho
        rw [← hX1] at hconv
        have hcat : ∀ w, (Op.stringOp .add X1 ⟨#[1]⟩).run Tryd.prog w = .ok (.string (X1 ++ ⟨#[1]⟩)) w := fun w => run_string_add_sum w _ _ (by show X1.size + 1 ≤ _; omega)
        obtain ⟨X2, hX2⟩ : ∃ X2, X2 = X1 ++ (⟨#[1]⟩ : ByteArray) := ⟨_, rfl⟩
        have hz2' : X2.size ≤ 101 := by rw [hX2, ByteArray.size_append]; show X1.size + 1 ≤ _; omega
        rw [← hX2] at hcat
        clear ho hb hbl hX1 hX2
        go_wp2_with fail
        clear hconv hcat
        have HBA := Lib.hid (show Below w.heap.size w (wr.alloc (.cells #[.string c, .string X1, .string X2] 9)) from below_next HB.out (belowNew wr _))
        obtain ⟨LL, hLL⟩ : ∃ LL : List ByteArray, LL = [c, X1, X2] := ⟨_, rfl⟩
        have HSZ := Lib.hid (show ∀ k, k < 3 → (LL.getD k ⟨#[]⟩).size ≤ 1099511627 from fun k hk => by
          rw [hLL]
          rcases (by omega : k = 0 ∨ k = 1 ∨ k = 2) with rfl | rfl | rfl
          · show c.size ≤ _; omega
          · show X1.size ≤ _; omega
          · show X2.size ≤ _; omega)
        have HCL := Lib.hid (show ∀ k, k < 3 → (wr.alloc (.cells #[.string c, .string X1, .string X2] 9)).cell? ⟨wr.heap.size, k, none⟩ = some (.string (LL.getD k ⟨#[]⟩)) from fun k hk => by
          rw [hLL]; exact row_strs wr [c, X1, X2] k hk)
        obtain ⟨B, hB⟩ : ∃ B, B = wr.heap.size := ⟨_, rfl⟩
        rw [← hB] at HCL ⊢
        generalize hw3 : wr.alloc (.cells #[.string c, .string X1, .string X2] 9) = w3 at HBA HCL ⊢
        have HSZ3 := Lib.hid (show B < w3.heap.size by rw [← hw3, hB]; simp)
        clear hw3 hB hLL hz1 hz2' dk hc HB HO HBL
        go_loopw [50] (fun i wx => ∃ k : Nat, k ≤ 3 ∧ i = .int .i64 (k : Int) ∧ Below w3.heap.size w3 wx) (fun i _ => 3 - (intOf i).toNat)
        case atStart => exact ⟨0, by omega, rfl, Below.refl _ _⟩
        case round =>
          obtain ⟨k, hk3, rfl, hb⟩ := hrel
          have HB := Lib.hid (below_next HBA.out hb)
          have HBR := Lib.hid hb
          by_cases hlt3 : k < 3
          · have hd3 : decide ((k : Int) < 3) = true := by simp; omega
            have HXZ := Lib.hid (HSZ.out k hlt3)
            have hcx := HCL.out k hlt3
            rw [← hb.cell HSZ3.out] at hcx
            generalize LL.getD k ⟨#[]⟩ = x at hcx HXZ
            obtain ⟨X, n, hXn⟩ := decd_both x.data.toList
            have HXN := Lib.hid hXn
            clear hb hXn
            go_wp2_with (first
              | (go_at_call 14; (with_reducible refine (decode_any x _ HXZ.out (HT.out.below HB.out)).mono ?_); rintro e w4 ⟨he, hb4⟩; obtain rfl := HXN.out e he; have HK4 := Lib.hid hb4; clear hb4 he)
              | (go_at_call 15; (with_reducible refine (rdecode_any x _ HXZ.out).mono ?_); rintro e w5 ⟨he, hb5⟩; obtain rfl := HXN.out e he; have HK5 := Lib.hid (below_next HK4.out hb5); clear hb5 he))
            go_roundw
            case rel => exact ⟨k + 1, by omega, by go_num, below_next HBR.out HK5.out⟩
            case measure => simp [intOf]; omega
          · have ek : k = 3 := by omega
            subst ek
            go_wp2_with (go_at_call 8; (with_reducible refine (awake_any _).mono ?_); rintro e w8 ⟨rfl, hb8⟩; have HB8 := Lib.hid (below_next HB.out hb8); clear hb8)
            go_ret
            exact ⟨rfl, HB8.out⟩
end Go.Proofs.YtapokiplmcfmoaaDoor
