/-
  The contract of tlv.appendLength: the octets of a length, appended to a slice of bytes that the call's caller has made.
  The contract of tlv.totalLength: how long the strings of a slice are together, if not longer than an element may be.
-/
import Derived.Test.YtfpfgdbfigdooaaGreatDoorCbc
namespace Go.Proofs.YtfpfgdbfigdooaaGreatDoor
open Go.RowKit

/-- The k least significant octets of a number, the most significant one first. -/
def octs (n : Nat) : Nat → List UInt8
  | 0 => []
  | k + 1 => UInt8.ofNat (n / 256 ^ k) :: octs n k
theorem octs_length (n k : Nat) : (octs n k).length = k := by
  induction k with
  | zero => rfl
  | succ k ih => simp [octs, ih]
/-- The octets of a length. -/
def lenO (n : Nat) : List UInt8 := if lsz n = 1 then [UInt8.ofNat n] else UInt8.ofNat (127 + lsz n) :: octs n (lsz n - 1)

theorem app_round_t {B : Nat} {w0 w w2 : World} {v v' : Value} {D : List UInt8} {y : UInt8} {X : Obj} (hown : OwnB 5 w B v D) (hb : Below B w0 w) (hB : B ≤ w.heap.size)
    (hown2 : w2.ownsRow B 5 1 v' (D.length + 1) (D.map bcell ++ [bcell y])) (hgr2 : (w.alloc X).grownBy w2 v.ownBlock) : OwnB 5 w2 B v' (D ++ [y]) ∧ Below B w0 w2 := by
  refine ⟨?_, ?_⟩
  · unfold OwnB
    rw [List.length_append, List.map_append]; exact hown2
  · exact (hb.alloc hB X).grown hgr2 (by simp; omega) (fun k e => (World.ownsRow.lt hown k e).1)

set_option maxRecDepth 100000 in
set_option maxHeartbeats 1000000 in
theorem appendLength_one (B : Nat) (v : Value) (l : List UInt8) (n : Nat) (w : World) (hown : OwnB 5 w B v l) (hB : B ≤ w.heap.size) (hl : l.length ≤ 100) (hn : n < 128) :
    Calls Tryz.prog 95 #[v, .int .i64 (n : Nat)] w fun e w' => ∃ v', e = .returned v' ∧ OwnB 5 w' B v' (l ++ lenO n) ∧ Below B w w' := by
  obtain ⟨i0, hi, hz0, hz1, hz2⟩ := info_parts byteInfo
  have e1 := lsz1 hn
  have HO := Lib.hid hown
  have HL := Lib.hid hl
  have HB := Lib.hid (Below.refl B w)
  have HBB := Lib.hid hB
  have HE := Lib.hid (show lenO n = [UInt8.ofNat n] from if_pos e1)
  obtain ⟨y, rfl⟩ : ∃ y : UInt8, n = y.toNat := ⟨UInt8.ofNat n, by simp; omega⟩
  have HE1 := Lib.hid e1
  clear hown hl e1 hB
  go_enter Tryz.func95, Tryz.ntmps95
  go_wp2_with (first | (go_at_call 132; (with_reducible refine (lengthSize_any y.toNat _).mono ?_); rw [HE1.out]; rintro e w1 ⟨rfl, rfl⟩) | (at_builtin; (refine wpList_append_own _ rfl (.tmp 12) (.tmp 15) 61 rfl B 5 i0 (.int .u8 0) 1 1 Tryz.underlying61 hi hz0 hz1 hz2 rfl (by decide) _ l.length (l.map bcell) rfl (HO.out.alloc _) ⟨_, 0, none⟩ 1 1 [bcell y] rfl rfl (news_row _ #[bcell y] 5) (bcells_one [y]) (by have := HL.out; unfold maxLen; omega) (by have := HL.out; omega) (by have := HBB.out; simp; omega) ?_); intro v' w2 hown2 hgr2 _; obtain ⟨P1, P2⟩ := app_round_t HO.out HB.out HBB.out hown2 hgr2; have HP1 := Lib.hid P1; have HP2 := Lib.hid P2; clear hown2 hgr2 P1 P2))
  go_ret
  refine ⟨_, rfl, ?_, HP2.out⟩
  rw [HE.out, UInt8.ofNat_toNat]
  exact HP1.out

set_option maxRecDepth 100000 in
set_option maxHeartbeats 1000000 in
theorem appendLength_more (B : Nat) (v : Value) (l : List UInt8) (n f : Nat) (w : World) (hown : OwnB 5 w B v l) (hB : B ≤ w.heap.size) (hl : l.length ≤ 90) (hf : lsz n = 1 + f) (h1 : 0 < f) (h3 : f ≤ 3) (hn : n < 256 ^ f) :
    Calls Tryz.prog 95 #[v, .int .i64 (n : Nat)] w fun e w' => ∃ v', e = .returned v' ∧ OwnB 5 w' B v' (l ++ lenO n) ∧ Below B w w' := by
  obtain ⟨i0, hi, hz0, hz1, hz2⟩ := info_parts byteInfo
  have HS1 := Lib.hid hB
  have HO := Lib.hid hown
  have HL := Lib.hid (show l.length ≤ 100 by omega)
  have HL9 := Lib.hid hl
  have HB := Lib.hid (Below.refl B w)
  have HBB := Lib.hid hB
  have HF := Lib.hid hf
  have hE : lenO n = UInt8.ofNat (128 + f) :: octs n f := by unfold lenO; rw [if_neg (by omega), hf]; congr 2 <;> omega
  have HE := Lib.hid hE
  have HN := Lib.hid hn
  have dE : (1 + (f : Int) - 1) = (f : Int) := by omega
  have d0 : ((f : Int) == 0) = false := beq_eq_false_iff_ne.2 (by omega)
  obtain ⟨y, hy⟩ : ∃ y : UInt8, 128 + f = y.toNat := ⟨UInt8.ofNat (128 + f), by simp; omega⟩
  have HY := Lib.hid hy
  have hyI : 128 + (f : Int) = ((y.toNat : Nat) : Int) := by omega
  clear hown hl hB hf hE hn hy
  go_enter Tryz.func95, Tryz.ntmps95
  go_wp2_with (first | (go_at_call 132; (with_reducible refine (lengthSize_any n _).mono ?_); rw [HF.out]; rintro e w1 ⟨rfl, rfl⟩) | (at_builtin; (refine wpList_append_own _ rfl (.tmp 17) (.tmp 21) 61 rfl B 5 i0 (.int .u8 0) 1 1 Tryz.underlying61 hi hz0 hz1 hz2 rfl (by decide) _ l.length (l.map bcell) rfl (HO.out.alloc _) ⟨_, 0, none⟩ 1 1 [bcell y] rfl rfl (news_row _ #[bcell y] 5) (bcells_one [y]) (by have := HL.out; unfold maxLen; omega) (by have := HL.out; omega) (by have := HBB.out; simp; omega) ?_); intro v' w2 hown2 hgr2 _; obtain ⟨P1, P2⟩ := app_round_t HO.out HB.out HBB.out hown2 hgr2; have HP1 := Lib.hid P1; have HP2 := Lib.hid P2; clear hown2 hgr2 P1 P2))
  have HS0 := Lib.hid (Nat.le_trans HBB.out HP2.out.size)
  clear hyI dE d0
  go_loopw [0, 6] (fun u s wr => ∃ (j : Nat) (D : List UInt8), j ≤ f ∧ s = .int .i64 (8 * ((j : Int) - 1)) ∧ D ++ octs n j = l ++ lenO n ∧ D.length + j ≤ 100 ∧ OwnB 5 wr B u D ∧ Below B w1 wr ∧ B ≤ wr.heap.size) (fun _ s _ => (intOf s + 8).toNat)
  case atStart => exact ⟨f, l ++ [y], Nat.le_refl _, rfl, by rw [HE.out, HY.out, UInt8.ofNat_toNat, List.append_assoc]; rfl, by have := HL9.out; simp; omega, HP1.out, HP2.out, HS0.out⟩
  case round =>
    clear HO HB HBB HP1 HP2 HS0
    obtain ⟨j, D, hj, rfl, hD, hDl, hown, hb, hB⟩ := hrel
    have HO := Lib.hid hown
    have HB := Lib.hid hb
    have HBB := Lib.hid hB
    have HD := Lib.hid hD
    have HDL := Lib.hid hDl
    clear hown hb hB hD hDl HL
    have HB0 := Lib.hid HS1.out
    rcases (by omega : j = 0 ∨ j = 1 ∨ j = 2 ∨ j = 3) with rfl | rfl | rfl | rfl
    · go_wp2_with fail
      go_ret
      refine ⟨_, rfl, ?_, HB.out⟩
      rw [← HD.out]
      simpa [octs] using HO.out
    · have HL := Lib.hid (show D.length + 1 ≤ 101 by have := HDL.out; omega)
      obtain ⟨z, hz⟩ : ∃ z : UInt8, z = UInt8.ofNat (n / 256 ^ 0) := ⟨_, rfl⟩
      have hc : (n : Int) % 256 = ((z.toNat : Nat) : Int) := by rw [hz]; simp
      have HZ := Lib.hid hz
      clear hz
      go_wp2_with (at_builtin; (refine wpList_append_own _ rfl (.tmp 30) (.tmp 35) 61 rfl B 5 i0 (.int .u8 0) 1 1 Tryz.underlying61 hi hz0 hz1 hz2 rfl (by decide) _ D.length (D.map bcell) rfl (HO.out.alloc _) ⟨_, 0, none⟩ 1 1 [bcell z] rfl rfl (news_row _ #[bcell z] 5) (bcells_one [z]) (by have := HL.out; unfold maxLen; omega) (by have := HL.out; omega) (by have := HBB.out; simp; omega) ?_); intro v' w2 hown2 hgr2 _; obtain ⟨P1, P2⟩ := app_round_t HO.out HB.out HBB.out hown2 hgr2; have HP1 := Lib.hid P1; have HP2 := Lib.hid P2; have HP3 := Lib.hid (Nat.le_trans HB0.out P2.size); clear hown2 hgr2 P1 P2)
      go_roundw
      case rel =>
        refine ⟨0, D ++ [z], by omega, rfl, ?_, by have := HDL.out; simp; omega, HP1.out, HP2.out, HP3.out⟩
        rw [← HD.out, HZ.out, List.append_assoc]
        rfl
      case measure => simp [intOf]
    · have HL := Lib.hid (show D.length + 1 ≤ 101 by have := HDL.out; omega)
      obtain ⟨z, hz⟩ : ∃ z : UInt8, z = UInt8.ofNat (n / 256 ^ 1) := ⟨_, rfl⟩
      have hc : (n : Int) / 256 % 256 = ((z.toNat : Nat) : Int) := by rw [hz]; simp
      have HZ := Lib.hid hz
      clear hz
      go_wp2_with (at_builtin; (refine wpList_append_own _ rfl (.tmp 30) (.tmp 35) 61 rfl B 5 i0 (.int .u8 0) 1 1 Tryz.underlying61 hi hz0 hz1 hz2 rfl (by decide) _ D.length (D.map bcell) rfl (HO.out.alloc _) ⟨_, 0, none⟩ 1 1 [bcell z] rfl rfl (news_row _ #[bcell z] 5) (bcells_one [z]) (by have := HL.out; unfold maxLen; omega) (by have := HL.out; omega) (by have := HBB.out; simp; omega) ?_); intro v' w2 hown2 hgr2 _; obtain ⟨P1, P2⟩ := app_round_t HO.out HB.out HBB.out hown2 hgr2; have HP1 := Lib.hid P1; have HP2 := Lib.hid P2; have HP3 := Lib.hid (Nat.le_trans HB0.out P2.size); clear hown2 hgr2 P1 P2)
      go_roundw
      case rel =>
        refine ⟨1, D ++ [z], by omega, rfl, ?_, by have := HDL.out; simp; omega, HP1.out, HP2.out, HP3.out⟩
        rw [← HD.out, HZ.out, List.append_assoc]
        rfl
      case measure => simp [intOf]
    · have HL := Lib.hid (show D.length + 1 ≤ 101 by have := HDL.out; omega)
      obtain ⟨z, hz⟩ : ∃ z : UInt8, z = UInt8.ofNat (n / 256 ^ 2) := ⟨_, rfl⟩
      have hc : (n : Int) / 65536 % 256 = ((z.toNat : Nat) : Int) := by rw [hz]; simp
      have HZ := Lib.hid hz
      clear hz
      go_wp2_with (at_builtin; (refine wpList_append_own _ rfl (.tmp 30) (.tmp 35) 61 rfl B 5 i0 (.int .u8 0) 1 1 Tryz.underlying61 hi hz0 hz1 hz2 rfl (by decide) _ D.length (D.map bcell) rfl (HO.out.alloc _) ⟨_, 0, none⟩ 1 1 [bcell z] rfl rfl (news_row _ #[bcell z] 5) (bcells_one [z]) (by have := HL.out; unfold maxLen; omega) (by have := HL.out; omega) (by have := HBB.out; simp; omega) ?_); intro v' w2 hown2 hgr2 _; obtain ⟨P1, P2⟩ := app_round_t HO.out HB.out HBB.out hown2 hgr2; have HP1 := Lib.hid P1; have HP2 := Lib.hid P2; have HP3 := Lib.hid (Nat.le_trans HB0.out P2.size); clear hown2 hgr2 P1 P2)
      go_roundw
      case rel =>
        refine ⟨2, D ++ [z], by omega, rfl, ?_, by have := HDL.out; simp; omega, HP1.out, HP2.out, HP3.out⟩
        rw [← HD.out, HZ.out, List.append_assoc]
        rfl
      case measure => simp [intOf]

theorem appendLength_any (B : Nat) (v : Value) (l : List UInt8) (n : Nat) (w : World) (hown : OwnB 5 w B v l) (hB : B ≤ w.heap.size) (hl : l.length ≤ 90) (hn : n ≤ 131072) :
    Calls Tryz.prog 95 #[v, .int .i64 (n : Nat)] w fun e w' => ∃ v', e = .returned v' ∧ OwnB 5 w' B v' (l ++ lenO n) ∧ Below B w w' := by
  by_cases h1 : n < 128
  · exact appendLength_one B v l n w hown hB (by omega) h1
  · by_cases h2 : n < 256
    · exact appendLength_more B v l n 1 w hown hB hl (lsz2 (by omega) h2) (by decide) (by decide) (by omega)
    · by_cases h3 : n < 65536
      · exact appendLength_more B v l n 2 w hown hB hl (lsz3 (by omega) h3) (by decide) (by decide) (by omega)
      · exact appendLength_more B v l n 3 w hown hB hl (lsz4 (by omega)) (by decide) (by decide) (by omega)
theorem lenO_length (n : Nat) : (lenO n).length = lsz n := by
  unfold lenO
  split
  · rename_i h; rw [h]; rfl
  · rename_i h
    have : 1 ≤ lsz n := by unfold lsz; repeat' split
                           all_goals omega
    rw [List.length_cons, octs_length]; omega
theorem lsz_le (n : Nat) : 1 ≤ lsz n ∧ lsz n ≤ 4 := by
  unfold lsz
  repeat' split
  all_goals omega
end Go.Proofs.YtfpfgdbfigdooaaGreatDoor
namespace Go.Proofs.YtfpfgdbfigdooaaGreatDoor
open Go.RowKit

def cat_t (ss : List ByteArray) : List UInt8 := ss.flatMap fun s => s.data.toList
theorem cat_nil : cat_t [] = [] := rfl
theorem cat_append_t (a b : List ByteArray) : cat_t (a ++ b) = cat_t a ++ cat_t b := by simp [cat_t]
theorem cat_take_succ (ss : List ByteArray) (k : Nat) (h : k < ss.length) : cat_t (ss.take (k + 1)) = cat_t (ss.take k) ++ (ss.getD k ByteArray.empty).data.toList := by
  rw [List.take_succ_eq_append_getElem h, cat_append_t]
  simp [cat_t, h]
theorem cat_take_le (ss : List ByteArray) (k : Nat) : (cat_t (ss.take k)).length ≤ (cat_t ss).length := by
  have : cat_t ss = cat_t (ss.take k) ++ cat_t (ss.drop k) := by rw [← cat_append_t, List.take_append_drop]
  rw [this, List.length_append]; omega
theorem cat_take_size (ss : List ByteArray) (k : Nat) (h : k < ss.length) : (cat_t (ss.take (k + 1))).length = (cat_t (ss.take k)).length + (ss.getD k ByteArray.empty).size := by
  rw [cat_take_succ ss k h, List.length_append]; rfl

/-- At the address lie the strings ss. -/
def Lies (w : World) (a : Option Addr) (ss : List ByteArray) : Prop := ss = [] ∨ ∃ b o, a = some ⟨b, o, none⟩ ∧ ∀ i, i < ss.length → w.cell? ⟨b, o + i, none⟩ = some (.string (ss.getD i ByteArray.empty))
/-- The slice value v reads as the strings ss. -/
def Reads (w : World) (v : Value) (ss : List ByteArray) : Prop := ∃ a cap, v = .slice a ss.length cap ∧ Lies w a ss
theorem Lies.old {w w' : World} {a : Option Addr} {ss : List ByteArray} (h : Lies w a ss) (hb : Below w.heap.size w w') : Lies w' a ss := by
  rcases h with h | ⟨b, o, rfl, h⟩
  · exact Or.inl h
  · exact Or.inr ⟨b, o, rfl, fun i hi => (hb.cell (p := ⟨b, o + i, none⟩) (block_lt_of_cell (h i hi))).trans (h i hi)⟩
theorem Reads.old {w w' : World} {v : Value} {ss : List ByteArray} (h : Reads w v ss) (hb : Below w.heap.size w w') : Reads w' v ss := by
  obtain ⟨a, cap, rfl, h⟩ := h
  exact ⟨a, cap, rfl, h.old hb⟩
theorem Lies.at {w : World} {a : Option Addr} {ss : List ByteArray} (h : Lies w a ss) (k : Nat) (hk : k < ss.length) : ∃ b o, a = some ⟨b, o, none⟩ ∧ w.cell? ⟨b, o + k, none⟩ = some (.string (ss.getD k ByteArray.empty)) := by
  rcases h with h | ⟨b, o, h1, h2⟩
  · rw [h] at hk; exact absurd hk (Nat.not_lt_zero _)
  · exact ⟨b, o, h1, h2 k hk⟩

set_option maxRecDepth 100000 in
set_option maxHeartbeats 1000000 in
theorem total_core (a0 : Option Addr) (cap : Nat) (ss : List ByteArray) (w : World) (hv : Lies w a0 ss) (hn : ss.length < 4611686018427387904) :
    Calls Tryz.prog 94 #[.slice a0 ss.length cap] w fun e w' => e = .returned (.tuple #[.int .i64 ((if (cat_t ss).length ≤ 131072 then (cat_t ss).length else 0 : Nat) : Int), .bool (decide ((cat_t ss).length ≤ 131072))]) ∧ w' = w := by
  obtain ⟨n, hln⟩ : ∃ n, n = ss.length := ⟨_, rfl⟩
  obtain ⟨R, hR⟩ : ∃ R, R = Value.tuple #[.int .i64 ((if (cat_t ss).length ≤ 131072 then (cat_t ss).length else 0 : Nat) : Int), .bool (decide ((cat_t ss).length ≤ 131072))] := ⟨_, rfl⟩
  rw [← hR]
  rw [← hln] at hn ⊢
  have HLN := Lib.hid hln
  have HV := Lib.hid hv
  have HR := Lib.hid hR
  clear hln hv hR
  go_enter Tryz.func94, Tryz.ntmps94
  go_wp2_with fail
  go_loopw [4, 9] (fun t i wr => ∃ k m : Nat, k ≤ n ∧ i = .int .i64 k ∧ t = .int .i64 m ∧ m = (cat_t (ss.take k)).length ∧ m ≤ 131072 ∧ wr = w) (fun _ i _ => n - (intOf i).toNat)
  case atStart => exact ⟨0, 0, Nat.zero_le _, rfl, rfl, rfl, Nat.zero_le _, rfl⟩
  case round =>
    obtain ⟨k, m, hk, rfl, rfl, hm, hm2, rfl⟩ := hrel
    have HM := Lib.hid hm
    clear hm
    by_cases hlt : k < n
    · have hd : decide ((k : Int) < (n : Int)) = true := by simp; omega
      obtain ⟨b, o, ha, hc⟩ := HV.out.at k (by rw [← HLN.out]; exact hlt)
      have hsz := cat_take_size ss k (by rw [← HLN.out]; exact hlt)
      have hle := cat_take_le ss (k + 1)
      generalize ss.getD k ByteArray.empty = x at hc hsz
      subst ha
      rw [hsz, ← HM.out] at hle
      have HSZ := Lib.hid hsz
      have HLE := Lib.hid hle
      clear hsz hle
      by_cases hbig : 131072 - m < x.size
      · have d1 : decide (131072 - (m : Int) < (x.size : Int)) = true := by simp; omega
        have HF := Lib.hid (show ¬ (cat_t ss).length ≤ 131072 by have := HLE.out; omega)
        clear hbig
        go_wp2_with fail
        go_ret2
        refine ⟨?_, rfl⟩
        rw [HR.out, if_neg HF.out, decide_eq_false HF.out]
        rfl
      · have d1 : decide (131072 - (m : Int) < (x.size : Int)) = false := by simp; omega
        have hxs : x.size ≤ 131072 := by omega
        have HB := Lib.hid hbig
        clear hbig
        go_wp2_with fail
        go_roundw
        case rel => exact ⟨k + 1, m + x.size, by omega, by go_num, by go_num, by rw [HSZ.out, ← HM.out], by have := HB.out; omega, trivial⟩
        case measure => simp [intOf]; omega
    · have ek : k = n := by omega
      subst ek
      have hd : decide ((k : Int) < (k : Int)) = false := by simp
      have et : ss.take k = ss := List.take_of_length_le (by rw [← HLN.out]; exact Nat.le_refl _)
      have HF := Lib.hid (show m = (cat_t ss).length by rw [HM.out, et])
      have HM2 := Lib.hid hm2
      clear et
      go_wp2_with fail
      go_ret2
      refine ⟨?_, rfl⟩
      have hh : (cat_t ss).length ≤ 131072 := by rw [← HF.out]; exact HM2.out
      rw [HR.out, if_pos hh, decide_eq_true hh, ← HF.out]
      rfl
end Go.Proofs.YtfpfgdbfigdooaaGreatDoor
