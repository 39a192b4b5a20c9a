/-
  The contracts of the program's appendSum and Digits.
-/
import Derived.Test.YtbmphhiafepnoaaCai
namespace Go.Proofs.Ytbmphhiafepnoaa
open Go.RowKit

theorem own_one_d {w wr w2 : World} {B : Nat} {v v' : Value} {D : List Nat} {y : Nat} {X : Obj} (hown : OwnI wr B v D) (hb : Below B w wr) (hB : B ≤ w.heap.size)
    (hown2 : w2.ownsRow B 3 1 v' (D.length + 1) (D.map icell ++ [icell y])) (hgr2 : (wr.alloc X).grownBy w2 v.ownBlock) : OwnI w2 B v' (D ++ [y]) ∧ Below B w w2 := by
  refine ⟨?_, ?_⟩
  · unfold OwnI
    rw [List.length_append, List.map_append]; exact hown2
  · exact (Below.alloc hb (Nat.le_trans hB hb.size) X).grown hgr2 (by simp; have := hb.size; omega) (fun k e => (World.ownsRow.lt hown k e).1)
theorem and15_i64 {p : Nat} (hp : p < 65536) : bits BinOp.and .i64 ((p : Nat) : Int) 15 = ((p % 16 : Nat) : Int) := by
  show IntKind.i64.wrap ((BitVec.ofInt 64 (p : Int) &&& BitVec.ofInt 64 15).toNat : Int) = _
  rw [BitVec.toNat_and, BitVec.ofInt_natCast, BitVec.toNat_ofNat, Nat.mod_eq_of_lt (by omega), show (BitVec.ofInt 64 15).toNat = 2 ^ 4 - 1 by decide, Nat.and_two_pow_sub_one_eq_mod, wrap_i64]
  omega
theorem and15_all : ∀ x : Fin 256, bits BinOp.and .u8 ((x.val : Nat) : Int) 15 = ((x.val % 16 : Nat) : Int) := by decide +kernel
theorem and15_u8 {x : Nat} (hx : x < 256) : bits BinOp.and .u8 (x : Int) 15 = ((x % 16 : Nat) : Int) := and15_all ⟨x, hx⟩

def sum3 (n : Nat) : List Nat := [n / 256 % 16, n / 16 % 16, n % 16]

set_option maxRecDepth 100000 in
set_option maxHeartbeats 2000000 in
theorem asum_any (B : Nat) (v : Value) (D : List Nat) (n : Nat) (hn : n < 4096) (w : World) (ho : OwnI w B v D) (hB : B ≤ w.heap.size) (hD : D.length ≤ 1000) :
    Calls Try.prog 10 #[v, .int .i64 (n : Int)] w fun e w' => (∃ v', e = .returned v' ∧ OwnI w' B v' (D ++ sum3 n)) ∧ Below B w w' := by
  obtain ⟨i0, hi, hz0, hz1, hz2⟩ := info_parts intInfo
  obtain ⟨L, hL⟩ : ∃ L, L = sum3 n := ⟨_, rfl⟩
  rw [← hL]
  have HL := Lib.hid hL
  have HO := Lib.hid ho
  have HB := Lib.hid hB
  have HD := Lib.hid hD
  have HN := Lib.hid hn
  clear hL ho hB hn hD
  go_enter Try.func10, Try.ntmps10
  go_wp2_with fail
  go_loopw [0, 7] (fun o i wr => ∃ k : Nat, k ≤ 3 ∧ i = .int .i64 (k : Int) ∧ OwnI wr B o (D ++ L.take k) ∧ Below B w wr) (fun _ i _ => 3 - (intOf i).toNat)
  case atStart => exact ⟨0, by decide, rfl, by rw [List.take_zero, List.append_nil]; exact HO.out, Below.refl _ _⟩
  case round =>
    obtain ⟨k, hk, rfl, hok, hb⟩ := hrel
    have HOK := Lib.hid hok
    have HBK := Lib.hid hb
    clear hok hb
    rcases (show k = 0 ∨ k = 1 ∨ k = 2 ∨ k = 3 by omega) with rfl | rfl | rfl | rfl
    · have hd : decide ((0 : Int) < 3) = true := by decide
      obtain ⟨p, hp⟩ : ∃ p, p = (n / 256) % 16 := ⟨_, rfl⟩
      have hb1 : bits BinOp.and .i64 ((n : Int) / 256) 15 = (p : Int) := by
        have h := and15_i64 (p := (n / 256)) (by have := HN.out; omega)
        rw [← hp] at h
        exact h
      have HT : Hid (D ++ L.take 1 = (D ++ L.take 0) ++ [p]) := Lib.hid (by rw [HL.out, hp]; simp [sum3])
      have HLN : Hid ((D ++ L.take 0).length ≤ 2000) := Lib.hid (by have := HD.out; rw [HL.out]; simp [sum3]; omega)
      obtain ⟨E, hE⟩ : ∃ E, E = D ++ L.take 0 := ⟨_, rfl⟩
      rw [← hE] at HOK HT HLN
      clear hE hp
      go_wp2_with (at_builtin; (refine wpList_append_own _ rfl (.tmp 13) (.tmp 18) 27 rfl B 3 i0 (.int .i64 0) 1 8 Try.underlying27 hi hz0 hz1 hz2 rfl (by decide) _ _ _ rfl (HOK.out.alloc _) ⟨wr.heap.size, 0, none⟩ 1 1 [icell p] rfl rfl (news_row wr #[icell p] 3) (icells_one [p]) (by have := HLN.out; unfold maxLen; omega) (by have := HLN.out; omega) (by have := HBK.out.size; have := HB.out; simp; omega) ?_); intro v' w2 hown2 hgr2 _; have HO2 := Lib.hid (own_one_d HOK.out HBK.out HB.out hown2 hgr2).1; have HB2 := Lib.hid (own_one_d HOK.out HBK.out HB.out hown2 hgr2).2; clear hown2 hgr2)
      go_roundw
      case rel => exact ⟨1, by decide, by rfl, by rw [HT.out]; exact HO2.out, HB2.out⟩
      case measure => simp [intOf]
    · have hd : decide ((1 : Int) < 3) = true := by decide
      obtain ⟨p, hp⟩ : ∃ p, p = (n / 16) % 16 := ⟨_, rfl⟩
      have hb1 : bits BinOp.and .i64 ((n : Int) / 16) 15 = (p : Int) := by
        have h := and15_i64 (p := (n / 16)) (by have := HN.out; omega)
        rw [← hp] at h
        exact h
      have HT : Hid (D ++ L.take 2 = (D ++ L.take 1) ++ [p]) := Lib.hid (by rw [HL.out, hp]; simp [sum3])
      have HLN : Hid ((D ++ L.take 1).length ≤ 2000) := Lib.hid (by have := HD.out; rw [HL.out]; simp [sum3]; omega)
      obtain ⟨E, hE⟩ : ∃ E, E = D ++ L.take 1 := ⟨_, rfl⟩
      rw [← hE] at HOK HT HLN
      clear hE hp
      go_wp2_with (at_builtin; (refine wpList_append_own _ rfl (.tmp 13) (.tmp 18) 27 rfl B 3 i0 (.int .i64 0) 1 8 Try.underlying27 hi hz0 hz1 hz2 rfl (by decide) _ _ _ rfl (HOK.out.alloc _) ⟨wr.heap.size, 0, none⟩ 1 1 [icell p] rfl rfl (news_row wr #[icell p] 3) (icells_one [p]) (by have := HLN.out; unfold maxLen; omega) (by have := HLN.out; omega) (by have := HBK.out.size; have := HB.out; simp; omega) ?_); intro v' w2 hown2 hgr2 _; have HO2 := Lib.hid (own_one_d HOK.out HBK.out HB.out hown2 hgr2).1; have HB2 := Lib.hid (own_one_d HOK.out HBK.out HB.out hown2 hgr2).2; clear hown2 hgr2)
      go_roundw
      case rel => exact ⟨2, by decide, by rfl, by rw [HT.out]; exact HO2.out, HB2.out⟩
      case measure => simp [intOf]
    · have hd : decide ((2 : Int) < 3) = true := by decide
      obtain ⟨p, hp⟩ : ∃ p, p = n % 16 := ⟨_, rfl⟩
      have hb1 : bits BinOp.and .i64 ((n : Nat) : Int) 15 = (p : Int) := by
        have h := and15_i64 (p := n) (by have := HN.out; omega)
        rw [← hp] at h
        exact h
      have HT : Hid (D ++ L.take 3 = (D ++ L.take 2) ++ [p]) := Lib.hid (by rw [HL.out, hp]; simp [sum3])
      have HLN : Hid ((D ++ L.take 2).length ≤ 2000) := Lib.hid (by have := HD.out; rw [HL.out]; simp [sum3]; omega)
      obtain ⟨E, hE⟩ : ∃ E, E = D ++ L.take 2 := ⟨_, rfl⟩
      rw [← hE] at HOK HT HLN
      clear hE hp
      go_wp2_with (at_builtin; (refine wpList_append_own _ rfl (.tmp 13) (.tmp 18) 27 rfl B 3 i0 (.int .i64 0) 1 8 Try.underlying27 hi hz0 hz1 hz2 rfl (by decide) _ _ _ rfl (HOK.out.alloc _) ⟨wr.heap.size, 0, none⟩ 1 1 [icell p] rfl rfl (news_row wr #[icell p] 3) (icells_one [p]) (by have := HLN.out; unfold maxLen; omega) (by have := HLN.out; omega) (by have := HBK.out.size; have := HB.out; simp; omega) ?_); intro v' w2 hown2 hgr2 _; have HO2 := Lib.hid (own_one_d HOK.out HBK.out HB.out hown2 hgr2).1; have HB2 := Lib.hid (own_one_d HOK.out HBK.out HB.out hown2 hgr2).2; clear hown2 hgr2)
      go_roundw
      case rel => exact ⟨3, by decide, by rfl, by rw [HT.out]; exact HO2.out, HB2.out⟩
      case measure => simp [intOf]
    · have hd : decide ((3 : Int) < 3) = false := by decide
      go_wp2_with fail
      go_ret
      exact ⟨⟨_, rfl, by have h := HOK.out; rw [List.take_of_length_le (by rw [HL.out]; simp [sum3])] at h; exact h⟩, HBK.out⟩
set_option maxRecDepth 100000 in
set_option maxHeartbeats 1000000 in
theorem pdig_bad (s : ByteArray) (hs : s.size ≠ 16) (w : World) :
    Calls Try.prog 7 #[.string s] w fun e w' => e = .returned (.tuple #[.slice none 0 0, .int .i64 7]) ∧ Below w.heap.size w w' := by
  obtain ⟨n, hn⟩ : ∃ n, n = s.size := ⟨_, rfl⟩
  have d1 : ((n : Int) == 16) = false := by simp; omega
  have hni : (s.size : Int) = (n : Int) := by rw [hn]
  clear hn
  go_enter Try.func7, Try.ntmps7
  go_wp2_with fail
  go_ret2
  exact ⟨rfl, Below.refl _ _⟩
theorem own_two_d {B : Nat} {w wr w2 : World} {v v' : Value} {D : List Nat} {x y : Nat} {X : Obj} (hown : OwnI wr B v D) (hb : Below B w wr) (hB : B ≤ w.heap.size)
    (hown2 : w2.ownsRow B 3 1 v' (D.length + 2) (D.map icell ++ [icell x, icell y])) (hgr2 : (wr.alloc X).grownBy w2 v.ownBlock) : OwnI w2 B v' (D ++ [x, y]) ∧ Below B w w2 := by
  refine ⟨?_, ?_⟩
  · unfold OwnI
    rw [List.length_append, List.map_append]; exact hown2
  · exact (Below.alloc hb (Nat.le_trans hB hb.size) X).grown hgr2 (by simp; have := hb.size; omega) (fun k e => (World.ownsRow.lt hown k e).1)
set_option maxRecDepth 100000 in
set_option maxHeartbeats 2000000 in
theorem pdig_ok (s : ByteArray) (hs : s.size = 16) (w : World) :
    Calls Try.prog 7 #[.string s] w fun e w' => (∃ v, e = .returned (.tuple #[v, .int .i64 0]) ∧ OwnI w' w.heap.size v (digs s.data.toList)) ∧ Below w.heap.size w w' := by
  obtain ⟨i0, hi, hz0, hz1, hz2⟩ := info_parts intInfo
  have hni : (s.size : Int) = 16 := by rw [hs]; rfl
  have HS := Lib.hid hs
  have HSL := Lib.hid (show s.data.toList.length = 16 from hs)
  clear hs
  go_enter Try.func7, Try.ntmps7
  go_wp2_with (at_make; refine wpList_make_own _ rfl _ _ 27 rfl w.heap.size 3 i0 (.int .i64 0) 1 Try.underlying27 hi hz0 hz1 .i64 .i64 35 35 rfl rfl rfl (by rw [hz2]; omega) (by unfold maxLen; omega) (Nat.le_refl _) ?_; intro w1 hown1 hgr1; have HO1 : Hid (OwnI w1 w.heap.size _ []) := Lib.hid hown1; have HB1 := Lib.hid ((Below.refl w.heap.size w).grown hgr1 (Nat.le_refl _) (fun _ e => by cases e)); clear hown1 hgr1)
  go_loopw [4, 5, 15] (fun o t i wr => ∃ k : Nat, k ≤ 16 ∧ i = .int .i64 (k : Int) ∧ t = .int .i64 ((lack (halves (s.data.toList.take k)) : Nat) : Int) ∧ OwnI wr w.heap.size o (halves (s.data.toList.take k)) ∧ Below w.heap.size w wr) (fun _ _ i _ => 16 - (intOf i).toNat)
  case atStart => exact ⟨0, by decide, rfl, rfl, HO1.out, HB1.out⟩
  case round =>
    obtain ⟨k, hk, rfl, rfl, ho, hb⟩ := hrel
    have HO := Lib.hid ho
    have HB := Lib.hid hb
    clear ho hb
    obtain ⟨D, hD⟩ : ∃ D, D = halves (s.data.toList.take k) := ⟨_, rfl⟩
    rw [← hD] at HO ⊢
    have HD := Lib.hid hD
    have hlen : D.length = 2 * k := by rw [hD, halves_len, List.length_take, HSL.out]; omega
    have hlk : lack D ≤ 30 * k := by
      have := lack_half_le (s.data.toList.take k)
      rw [← hD, List.length_take, HSL.out] at this
      omega
    clear hD
    by_cases hlt : k < 16
    · have hd : decide ((k : Int) < 16) = true := by simp; omega
      have hks : k < s.size := by rw [HS.out]; exact hlt
      obtain ⟨b, hbv⟩ : ∃ b, b = u8at s k := ⟨_, rfl⟩
      have hb256 : b < 256 := by rw [hbv]; exact u8at_lt s k
      obtain ⟨x, hx⟩ : ∃ x, x = b / 16 := ⟨_, rfl⟩
      obtain ⟨y, hy⟩ : ∃ y, y = b % 16 := ⟨_, rfl⟩
      have hq : ((b : Nat) : Int) / 16 = (x : Int) := by rw [hx]; rfl
      have hr : bits BinOp.and .u8 ((b : Nat) : Int) 15 = (y : Int) := by rw [hy]; exact and15_u8 hb256
      have hx15 : x ≤ 15 := by omega
      have hy15 : y ≤ 15 := by omega
      have HX := Lib.hid hx
      have HY := Lib.hid hy
      have HBV := Lib.hid hbv
      clear hx hy
      have hix : ∀ w, (Instr.index 9 (.string s) (.int .i64 (k : Int))).run Try.prog w = .ok (.int .u8 ((b : Nat) : Int)) w := fun w => by rw [hbv]; exact run_index_u8 Try.underlying9 s k hks (k : Int) rfl w
      clear hbv
      go_wp2_with fail
      obtain ⟨cb, hcb, hcv⟩ := u8at_list s k hks
      have HT : Hid (halves (s.data.toList.take (k + 1)) = D ++ [x, y]) := Lib.hid (by rw [take_snoc hcb, halves_snoc, ← HD.out, HX.out, HY.out, HBV.out, hcv])
      have HLK : Hid (lack (halves (s.data.toList.take (k + 1))) = lack D + (30 - x - y)) := Lib.hid (by rw [take_snoc hcb, lack_snoc, ← HD.out, HX.out, HY.out, HBV.out, hcv])
      clear hcb hcv
      go_region
      have HOD : Hid (OwnI wr.drew w.heap.size u4 D) := HO
      have HBD : Hid (Below w.heap.size w wr.drew) := Lib.hid HB.out.drew
      generalize wr.drew = wd at HOD HBD ⊢
      go_wp2_with (at_builtin; (refine wpList_append_own _ rfl (.tmp 28) (.tmp 31) 27 rfl w.heap.size 3 i0 (.int .i64 0) 1 8 Try.underlying27 hi hz0 hz1 hz2 rfl (by decide) _ _ _ rfl (HOD.out.alloc _) ⟨wd.heap.size, 0, none⟩ 2 2 [icell x, icell y] rfl rfl (news_row wd #[icell x, icell y] 3) (icells_one [x, y]) (by rw [hlen]; unfold maxLen; omega) (by rw [hlen]; omega) (by have := HBD.out.size; simp; omega) ?_); intro v' w2 hown2 hgr2 _; have HO2 := Lib.hid (own_two_d HOD.out HBD.out (Nat.le_refl _) hown2 hgr2).1; have HB2 := Lib.hid (own_two_d HOD.out HBD.out (Nat.le_refl _) hown2 hgr2).2; clear hown2 hgr2)
      go_roundw
      case rel =>
        refine ⟨k + 1, by omega, by go_num, ?_, by rw [HT.out]; exact HO2.out, HB2.out⟩
        rw [HLK.out]
        congr 1
        omega
      case measure => simp [intOf]; omega
    · have hk16 : k = 16 := by omega
      subst hk16
      have hd : decide ((16 : Int) < 16) = false := by decide
      have hln : lack D < 4096 := by omega
      have HAS := Lib.hid (asum_any w.heap.size u4 D (lack D) hln wr HO.out HB.out.size (by omega))
      have HT : Hid (digs s.data.toList = D ++ sum3 (lack D)) := Lib.hid (by
        have := HD.out
        rw [List.take_of_length_le (by rw [HSL.out]; exact Nat.le_refl _)] at this
        unfold digs sumD sum3
        rw [← this, show lack D / 256 % 16 = lack D / 256 by omega])
      go_wp2_with (go_at_call 10; (with_reducible refine HAS.out.mono ?_); rintro e w2 ⟨⟨v', rfl, ho2⟩, hb2⟩; have HO2 := Lib.hid ho2; have HB2 := Lib.hid (HB.out.trans hb2); clear ho2 hb2)
      go_ret2
      exact ⟨⟨_, rfl, by rw [HT.out]; exact HO2.out⟩, HB2.out⟩
theorem digP : DigP := fun s w hs => pdig_ok s hs w
end Go.Proofs.Ytbmphhiafepnoaa
