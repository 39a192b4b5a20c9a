/-
  The contracts of the program's appendSum and Digits.
  The contracts of the program's numbers as bytes, of its keys and of the first value, the steps and the public key of a key.
  The contracts of the steps of a chain of the program, and of its checks of a key.
-/
import Derived.Test.YtbmphhiafepnoaaDoorAaj
import Derived.Test.YtbmphhiafepnoaaDoorAah
import Derived.Test.YtbmphhiafepnoaaDoorAai
import Derived.Test.YtbmphhiafepnoaaDoorAaf
namespace Go.Proofs.YtbmphhiafepnoaaDoor
open Go.RowKit

theorem own_one_d {w wr w2 : World} {B : Nat} {v v' : Value} {D : List Nat} {y : Nat} {X : Obj} (hown : OwnI wr B v D) (hb : Below B w wr) (hB : B ≤ w.heap.size)
    (hown2 : w2.ownsRow B 3 1 v' (D.length + 1) (D.map icell ++ [icell y])) (hgr2 : (wr.alloc X).grownBy w2 v.ownBlock) : OwnI w2 B v' (D ++ [y]) ∧ Below B w w2 := by
  refine ⟨?_, ?_⟩
  · unfold OwnI
    rw [List.length_append, List.map_append]; exact hown2
  · exact (Below.alloc hb (Nat.le_trans hB hb.size) X).grown hgr2 (by simp; have := hb.size; omega) (fun k e => (World.ownsRow.lt hown k e).1)
theorem and15_i64 {p : Nat} (hp : p < 65536) : bits BinOp.and .i64 ((p : Nat) : Int) 15 = ((p % 16 : Nat) : Int) := by
  show IntKind.i64.wrap ((BitVec.ofInt 64 (p : Int) &&& BitVec.ofInt 64 15).toNat : Int) = _
  rw [BitVec.toNat_and, BitVec.ofInt_natCast, BitVec.toNat_ofNat, Nat.mod_eq_of_lt (by omega), show (BitVec.ofInt 64 15).toNat = 2 ^ 4 - 1 by decide, Nat.and_two_pow_sub_one_eq_mod, wrap_i64]
  omega
theorem and15_all : ∀ x : Fin 256, bits BinOp.and .u8 ((x.val : Nat) : Int) 15 = ((x.val % 16 : Nat) : Int) := by decide +kernel
theorem and15_u8 {x : Nat} (hx : x < 256) : bits BinOp.and .u8 (x : Int) 15 = ((x % 16 : Nat) : Int) := and15_all ⟨x, hx⟩

def sum3 (n : Nat) : List Nat := [n / 256 % 16, n / 16 % 16, n % 16]

set_option maxRecDepth 100000 in
set_option maxHeartbeats 2000000 in
theorem asum_any (B : Nat) (v : Value) (D : List Nat) (n : Nat) (hn : n < 4096) (w : World) (ho : OwnI w B v D) (hB : B ≤ w.heap.size) (hD : D.length ≤ 1000) :
    Calls Tryd.prog 44 #[v, .int .i64 (n : Int)] w fun e w' => (∃ v', e = .returned v' ∧ OwnI w' B v' (D ++ sum3 n)) ∧ Below B w w' := by
  obtain ⟨i0, hi, hz0, hz1, hz2⟩ := info_parts intInfo
  obtain ⟨L, hL⟩ : ∃ L, L = sum3 n := ⟨_, rfl⟩
  rw [← hL]
  have HL := Lib.hid hL
  have HO := Lib.hid ho
  have HB := Lib.hid hB
  have HD := Lib.hid hD
  have HN := Lib.hid hn
  clear hL ho hB hn hD
  go_enter Tryd.func44, Tryd.ntmps44
  go_wp2_with fail
  go_loopw [0, 7] (fun o i wr => ∃ k : Nat, k ≤ 3 ∧ i = .int .i64 (k : Int) ∧ OwnI wr B o (D ++ L.take k) ∧ Below B w wr) (fun _ i _ => 3 - (intOf i).toNat)
  case atStart => exact ⟨0, by decide, rfl, by rw [List.take_zero, List.append_nil]; exact HO.out, Below.refl _ _⟩
  case round =>
    obtain ⟨k, hk, rfl, hok, hb⟩ := hrel
    have HOK := Lib.hid hok
    have HBK := Lib.hid hb
    clear hok hb
    rcases (show k = 0 ∨ k = 1 ∨ k = 2 ∨ k = 3 by omega) with rfl | rfl | rfl | rfl
    · have hd : decide ((0 : Int) < 3) = true := by decide
      obtain ⟨p, hp⟩ : ∃ p, p = (n / 256) % 16 := ⟨_, rfl⟩
      have hb1 : bits BinOp.and .i64 ((n : Int) / 256) 15 = (p : Int) := by
        have h := and15_i64 (p := (n / 256)) (by have := HN.out; omega)
        rw [← hp] at h
        exact h
      have HT : Hid (D ++ L.take 1 = (D ++ L.take 0) ++ [p]) := Lib.hid (by rw [HL.out, hp]; simp [sum3])
      have HLN : Hid ((D ++ L.take 0).length ≤ 2000) := Lib.hid (by have := HD.out; rw [HL.out]; simp [sum3]; omega)
      obtain ⟨E, hE⟩ : ∃ E, E = D ++ L.take 0 := ⟨_, rfl⟩
      rw [← hE] at HOK HT HLN
      clear hE hp
      go_wp2_with (at_builtin; (refine wpList_append_own _ rfl (.tmp 13) (.tmp 18) 34 rfl B 3 i0 (.int .i64 0) 1 8 Tryd.underlying34 hi hz0 hz1 hz2 rfl (by decide) _ _ _ rfl (HOK.out.alloc _) ⟨wr.heap.size, 0, none⟩ 1 1 [icell p] rfl rfl (news_row wr #[icell p] 3) (icells_one [p]) (by have := HLN.out; unfold maxLen; omega) (by have := HLN.out; omega) (by have := HBK.out.size; have := HB.out; simp; omega) ?_); intro v' w2 hown2 hgr2 _; have HO2 := Lib.hid (own_one_d HOK.out HBK.out HB.out hown2 hgr2).1; have HB2 := Lib.hid (own_one_d HOK.out HBK.out HB.out hown2 hgr2).2; clear hown2 hgr2)
      go_roundw
      case rel => exact ⟨1, by decide, by rfl, by rw [HT.out]; exact HO2.out, HB2.out⟩
      case measure => simp [intOf]
    · have hd : decide ((1 : Int) < 3) = true := by decide
      obtain ⟨p, hp⟩ : ∃ p, p = (n / 16) % 16 := ⟨_, rfl⟩
      have hb1 : bits BinOp.and .i64 ((n : Int) / 16) 15 = (p : Int) := by
        have h := and15_i64 (p := (n / 16)) (by have := HN.out; omega)
        rw [← hp] at h
        exact h
      have HT : Hid (D ++ L.take 2 = (D ++ L.take 1) ++ [p]) := Lib.hid (by rw [HL.out, hp]; simp [sum3])
      have HLN : Hid ((D ++ L.take 1).length ≤ 2000) := Lib.hid (by have := HD.out; rw [HL.out]; simp [sum3]; omega)
      obtain ⟨E, hE⟩ : ∃ E, E = D ++ L.take 1 := ⟨_, rfl⟩
      rw [← hE] at HOK HT HLN
      clear hE hp
      go_wp2_with (at_builtin; (refine wpList_append_own _ rfl (.tmp 13) (.tmp 18) 34 rfl B 3 i0 (.int .i64 0) 1 8 Tryd.underlying34 hi hz0 hz1 hz2 rfl (by decide) _ _ _ rfl (HOK.out.alloc _) ⟨wr.heap.size, 0, none⟩ 1 1 [icell p] rfl rfl (news_row wr #[icell p] 3) (icells_one [p]) (by have := HLN.out; unfold maxLen; omega) (by have := HLN.out; omega) (by have := HBK.out.size; have := HB.out; simp; omega) ?_); intro v' w2 hown2 hgr2 _; have HO2 := Lib.hid (own_one_d HOK.out HBK.out HB.out hown2 hgr2).1; have HB2 := Lib.hid (own_one_d HOK.out HBK.out HB.out hown2 hgr2).2; clear hown2 hgr2)
      go_roundw
      case rel => exact ⟨2, by decide, by rfl, by rw [HT.out]; exact HO2.out, HB2.out⟩
      case measure => simp [intOf]
    · have hd : decide ((2 : Int) < 3) = true := by decide
      obtain ⟨p, hp⟩ : ∃ p, p = n % 16 := ⟨_, rfl⟩
      have hb1 : bits BinOp.and .i64 ((n : Nat) : Int) 15 = (p : Int) := by
        have h := and15_i64 (p := n) (by have := HN.out; omega)
        rw [← hp] at h
        exact h
      have HT : Hid (D ++ L.take 3 = (D ++ L.take 2) ++ [p]) := Lib.hid (by rw [HL.out, hp]; simp [sum3])
      have HLN : Hid ((D ++ L.take 2).length ≤ 2000) := Lib.hid (by have := HD.out; rw [HL.out]; simp [sum3]; omega)
      obtain ⟨E, hE⟩ : ∃ E, E = D ++ L.take 2 := ⟨_, rfl⟩
      rw [← hE] at HOK HT HLN
      clear hE hp
      go_wp2_with (at_builtin; (refine wpList_append_own _ rfl (.tmp 13) (.tmp 18) 34 rfl B 3 i0 (.int .i64 0) 1 8 Tryd.underlying34 hi hz0 hz1 hz2 rfl (by decide) _ _ _ rfl (HOK.out.alloc _) ⟨wr.heap.size, 0, none⟩ 1 1 [icell p] rfl rfl (news_row wr #[icell p] 3) (icells_one [p]) (by have := HLN.out; unfold maxLen; omega) (by have := HLN.out; omega) (by have := HBK.out.size; have := HB.out; simp; omega) ?_); intro v' w2 hown2 hgr2 _; have HO2 := Lib.hid (own_one_d HOK.out HBK.out HB.out hown2 hgr2).1; have HB2 := Lib.hid (own_one_d HOK.out HBK.out HB.out hown2 hgr2).2; clear hown2 hgr2)
      go_roundw
      case rel => exact ⟨3, by decide, by rfl, by rw [HT.out]; exact HO2.out, HB2.out⟩
      case measure => simp [intOf]
    · have hd : decide ((3 : Int) < 3) = false := by decide
      go_wp2_with fail
      go_ret
      exact ⟨⟨_, rfl, by have h := HOK.out; rw [List.take_of_length_le (by rw [HL.out]; simp [sum3])] at h; exact h⟩, HBK.out⟩
set_option maxRecDepth 100000 in
set_option maxHeartbeats 1000000 in
theorem pdig_bad (s : ByteArray) (hs : s.size ≠ 16) (w : World) :
    Calls Tryd.prog 33 #[.string s] w fun e w' => e = .returned (.tuple #[.slice none 0 0, .int .i64 7]) ∧ Below w.heap.size w w' := by
  obtain ⟨n, hn⟩ : ∃ n, n = s.size := ⟨_, rfl⟩
  have d1 : ((n : Int) == 16) = false := by simp; omega
  have hni : (s.size : Int) = (n : Int) := by rw [hn]
  clear hn
  go_enter Tryd.func33, Tryd.ntmps33
  go_wp2_with fail
  go_ret2
  exact ⟨rfl, Below.refl _ _⟩
theorem own_two_d {B : Nat} {w wr w2 : World} {v v' : Value} {D : List Nat} {x y : Nat} {X : Obj} (hown : OwnI wr B v D) (hb : Below B w wr) (hB : B ≤ w.heap.size)
    (hown2 : w2.ownsRow B 3 1 v' (D.length + 2) (D.map icell ++ [icell x, icell y])) (hgr2 : (wr.alloc X).grownBy w2 v.ownBlock) : OwnI w2 B v' (D ++ [x, y]) ∧ Below B w w2 := by
  refine ⟨?_, ?_⟩
  · unfold OwnI
    rw [List.length_append, List.map_append]; exact hown2
  · exact (Below.alloc hb (Nat.le_trans hB hb.size) X).grown hgr2 (by simp; have := hb.size; omega) (fun k e => (World.ownsRow.lt hown k e).1)
set_option maxRecDepth 100000 in
set_option maxHeartbeats 2000000 in
theorem pdig_ok (s : ByteArray) (hs : s.size = 16) (w : World) :
    Calls Tryd.prog 33 #[.string s] w fun e w' => (∃ v, e = .returned (.tuple #[v, .int .i64 0]) ∧ OwnI w' w.heap.size v (digs s.data.toList)) ∧ Below w.heap.size w w' := by
  obtain ⟨i0, hi, hz0, hz1, hz2⟩ := info_parts intInfo
  have hni : (s.size : Int) = 16 := by rw [hs]; rfl
  have HS := Lib.hid hs
  have HSL := Lib.hid (show s.data.toList.length = 16 from hs)
  clear hs
  go_enter Tryd.func33, Tryd.ntmps33
  go_wp2_with (at_make; refine wpList_make_own _ rfl _ _ 34 rfl w.heap.size 3 i0 (.int .i64 0) 1 Tryd.underlying34 hi hz0 hz1 .i64 .i64 35 35 rfl rfl rfl (by rw [hz2]; omega) (by unfold maxLen; omega) (Nat.le_refl _) ?_; intro w1 hown1 hgr1; have HO1 : Hid (OwnI w1 w.heap.size _ []) := Lib.hid hown1; have HB1 := Lib.hid ((Below.refl w.heap.size w).grown hgr1 (Nat.le_refl _) (fun _ e => by cases e)); clear hown1 hgr1)
  go_loopw [4, 5, 15] (fun o t i wr => ∃ k : Nat, k ≤ 16 ∧ i = .int .i64 (k : Int) ∧ t = .int .i64 ((lack (halves (s.data.toList.take k)) : Nat) : Int) ∧ OwnI wr w.heap.size o (halves (s.data.toList.take k)) ∧ Below w.heap.size w wr) (fun _ _ i _ => 16 - (intOf i).toNat)
  case atStart => exact ⟨0, by decide, rfl, rfl, HO1.out, HB1.out⟩
  case round =>
    obtain ⟨k, hk, rfl, rfl, ho, hb⟩ := hrel
    have HO := Lib.hid ho
    have HB := Lib.hid hb
    clear ho hb
    obtain ⟨D, hD⟩ : ∃ D, D = halves (s.data.toList.take k) := ⟨_, rfl⟩
    rw [← hD] at HO ⊢
    have HD := Lib.hid hD
    have hlen : D.length = 2 * k := by rw [hD, halves_len, List.length_take, HSL.out]; omega
    have hlk : lack D ≤ 30 * k := by
      have := lack_half_le (s.data.toList.take k)
      rw [← hD, List.length_take, HSL.out] at this
      omega
    clear hD
    by_cases hlt : k < 16
    · have hd : decide ((k : Int) < 16) = true := by simp; omega
      have hks : k < s.size := by rw [HS.out]; exact hlt
      obtain ⟨b, hbv⟩ : ∃ b, b = u8at s k := ⟨_, rfl⟩
      have hb256 : b < 256 := by rw [hbv]; exact u8at_lt s k
      obtain ⟨x, hx⟩ : ∃ x, x = b / 16 := ⟨_, rfl⟩
      obtain ⟨y, hy⟩ : ∃ y, y = b % 16 := ⟨_, rfl⟩
      have hq : ((b : Nat) : Int) / 16 = (x : Int) := by rw [hx]; rfl
      have hr : bits BinOp.and .u8 ((b : Nat) : Int) 15 = (y : Int) := by rw [hy]; exact and15_u8 hb256
      have hx15 : x ≤ 15 := by omega
      have hy15 : y ≤ 15 := by omega
      have HX := Lib.hid hx
      have HY := Lib.hid hy
      have HBV := Lib.hid hbv
      clear hx hy
      have hix : ∀ w, (Instr.index 9 (.string s) (.int .i64 (k : Int))).run Tryd.prog w = .ok (.int .u8 ((b : Nat) : Int)) w := fun w => by rw [hbv]; exact run_index_u8 Tryd.underlying9 s k hks (k : Int) rfl w
      clear hbv
      go_wp2_with fail
      obtain ⟨cb, hcb, hcv⟩ := u8at_list s k hks
      have HT : Hid (halves (s.data.toList.take (k + 1)) = D ++ [x, y]) := Lib.hid (by rw [take_snoc hcb, halves_snoc, ← HD.out, HX.out, HY.out, HBV.out, hcv])
      have HLK : Hid (lack (halves (s.data.toList.take (k + 1))) = lack D + (30 - x - y)) := Lib.hid (by rw [take_snoc hcb, lack_snoc, ← HD.out, HX.out, HY.out, HBV.out, hcv])
      clear hcb hcv
      go_region
      have HOD : Hid (OwnI wr.drew w.heap.size u4 D) := HO
      have HBD : Hid (Below w.heap.size w wr.drew) := Lib.hid HB.out.drew
      generalize wr.drew = wd at HOD HBD ⊢
      go_wp2_with (at_builtin; (refine wpList_append_own _ rfl (.tmp 28) (.tmp 31) 34 rfl w.heap.size 3 i0 (.int .i64 0) 1 8 Tryd.underlying34 hi hz0 hz1 hz2 rfl (by decide) _ _ _ rfl (HOD.out.alloc _) ⟨wd.heap.size, 0, none⟩ 2 2 [icell x, icell y] rfl rfl (news_row wd #[icell x, icell y] 3) (icells_one [x, y]) (by rw [hlen]; unfold maxLen; omega) (by rw [hlen]; omega) (by have := HBD.out.size; simp; omega) ?_); intro v' w2 hown2 hgr2 _; have HO2 := Lib.hid (own_two_d HOD.out HBD.out (Nat.le_refl _) hown2 hgr2).1; have HB2 := Lib.hid (own_two_d HOD.out HBD.out (Nat.le_refl _) hown2 hgr2).2; clear hown2 hgr2)
      go_roundw
      case rel =>
        refine ⟨k + 1, by omega, by go_num, ?_, by rw [HT.out]; exact HO2.out, HB2.out⟩
        rw [HLK.out]
        congr 1
        omega
      case measure => simp [intOf]; omega
    · have hk16 : k = 16 := by omega
      subst hk16
      have hd : decide ((16 : Int) < 16) = false := by decide
      have hln : lack D < 4096 := by omega
      have HAS := Lib.hid (asum_any w.heap.size u4 D (lack D) hln wr HO.out HB.out.size (by omega))
      have HT : Hid (digs s.data.toList = D ++ sum3 (lack D)) := Lib.hid (by
        have := HD.out
        rw [List.take_of_length_le (by rw [HSL.out]; exact Nat.le_refl _)] at this
        unfold digs sumD sum3
        rw [← this, show lack D / 256 % 16 = lack D / 256 by omega])
      go_wp2_with (go_at_call 44; (with_reducible refine HAS.out.mono ?_); rintro e w2 ⟨⟨v', rfl, ho2⟩, hb2⟩; have HO2 := Lib.hid ho2; have HB2 := Lib.hid (HB.out.trans hb2); clear ho2 hb2)
      go_ret2
      exact ⟨⟨_, rfl, by rw [HT.out]; exact HO2.out⟩, HB2.out⟩
theorem digP : DigP := fun s w hs => pdig_ok s hs w
end Go.Proofs.YtbmphhiafepnoaaDoor
namespace Go.Proofs.YtbmphhiafepnoaaDoor
open Go.RowKit

set_option maxRecDepth 100000 in
set_option maxHeartbeats 1000000 in
theorem p1_any (n : Nat) (hn : n < 256) (w : World) :
    Calls Tryd.prog 41 #[.int .i64 (n : Int)] w fun e w' => e = .returned (.string (strOf (b1 n))) ∧ Below w.heap.size w w' := by
  have h1 := text_one (UInt8.ofNat (n % 256))
  rw [bcell_of (n % 256) (n : Int) (by omega)] at h1
  go_enter Tryd.func41, Tryd.ntmps41
  go_wp2_with fail
  go_ret
  exact ⟨rfl, belowNew _ _⟩
set_option maxRecDepth 100000 in
set_option maxHeartbeats 1000000 in
theorem p4_any (n : Nat) (hn : n < 4294967296) (w : World) :
    Calls Tryd.prog 39 #[.int .i64 (n : Int)] w fun e w' => e = .returned (.string (strOf (b4 n))) ∧ Below w.heap.size w w' := by
  have h1 := text_four (UInt8.ofNat (n / 16777216 % 256)) (UInt8.ofNat (n / 65536 % 256)) (UInt8.ofNat (n / 256 % 256)) (UInt8.ofNat (n % 256))
  rw [bcell_of (n / 16777216 % 256) ((n : Int) / 16777216) (by omega), bcell_of (n / 65536 % 256) ((n : Int) / 65536 % 256) (by omega), bcell_of (n / 256 % 256) ((n : Int) / 256 % 256) (by omega), bcell_of (n % 256) ((n : Int) % 256) (by omega)] at h1
  go_enter Tryd.func39, Tryd.ntmps39
  go_wp2_with fail
  go_ret
  exact ⟨rfl, belowNew _ _⟩
theorem less_of {a : Nat} (h : a ≤ 1099511627776) : a < 2305843009213693952 := by omega
theorem sec_less {seed : ByteArray} (hi : seed.size ≤ 1000) (leaf c : Nat) : (cat_z [⟨#[83]⟩, seed, strOf (b4 leaf), strOf (b1 c)]).length < 2305843009213693952 := less_of (sec_room hi leaf c)
theorem key_less {id ends : ByteArray} (hi : id.size ≤ 1000) (he : ends.size ≤ 1000) (leaf : Nat) : (cat_z [⟨#[76]⟩, id, strOf (b4 leaf), ends]).length < 2305843009213693952 := less_of (key_room hi he leaf)
theorem step_less {id v : ByteArray} (hi : id.size ≤ 1000) (hv : v.size ≤ 1000) (leaf c p : Nat) : (cat_z [⟨#[67]⟩, id, strOf (b4 leaf), strOf (b1 c), strOf (b1 p), v]).length < 2305843009213693952 := less_of (step_room hi hv leaf c p)
theorem keySizeQ : (Tryd.prog.info? 41).map (·.size) = some 2 := by kernel_rfl
theorem kcell {w : World} {g : Nat} {a b : Value} {t : TypeId} (h : w.heap[g]? = some (.cells #[a, b] t (0, 0))) : w.cell? ⟨g, 0, none⟩ = some a ∧ w.cell? ⟨g, 1, none⟩ = some b ∧ g < w.heap.size :=
  ⟨by rw [cell_of_row w g _ _ _ _ h]; rfl, by rw [cell_of_row w g _ _ _ _ h]; rfl, (Array.getElem?_eq_some_iff.1 h).1⟩

theorem kset {w : World} {g : Nat} {a b x y : Value} {t : TypeId} (h : w.heap[g]? = some (.cells #[a, b] t (0, 0))) : ((w.setCell ⟨g, 0, none⟩ x).setCell ⟨g, 1, none⟩ y).heap[g]? = some (.cells #[x, y] t (0, 0)) := by
  simp [World.setCell, Array.getElem?_modify, h]
set_option maxRecDepth 100000 in
set_option maxHeartbeats 1000000 in
theorem pkey_any (id : ByteArray) (leaf : Nat) (hl : leaf < 4294967296) (w : World) :
    Calls Tryd.prog 21 #[.string id, .int .i64 (leaf : Int)] w fun e w' => e = .returned (.agg #[.string id, .string (strOf (b4 leaf))]) ∧ Below w.heap.size w w' := by
  have HL := Lib.hid hl
  clear hl
  go_enter Tryd.func21, Tryd.ntmps21
  go_wp2_with (go_at_call 39; (with_reducible refine (p4_any leaf HL.out _).mono ?_); rintro e w2 ⟨rfl, hb2⟩; have hq2 := (hb2.block w.heap.size (by simp)).trans (heap_alloc_new w _); obtain ⟨c0, c1, hlt⟩ := kcell hq2; have f0 := Lib.frozen_of_heap hq2 0; have f1 := Lib.frozen_of_heap hq2 1; have HQ := Lib.hid hq2; have HB := Lib.hid ((belowNew w _).next hb2); clear hb2 hq2)
  exact bodyPost_ret (results_cell_row rfl _ _ w.heap.size 41 _ (0, 0) _ rfl (kset HQ.out) Tryd.underlying41 rfl keySizeQ) rfl ⟨rfl, (HB.out.setCell (p := ⟨w.heap.size, 0, none⟩) (Nat.le_refl _) _).setCell (p := ⟨w.heap.size, 1, none⟩) (Nat.le_refl _) _⟩

set_option maxRecDepth 100000 in
set_option maxHeartbeats 1000000 in
theorem psec_any (id seed : ByteArray) (leaf c : Nat) (hs : seed.size ≤ 1000) (hc : c < 256) (w : World) (hK : Holds w 0 kWords) :
    Calls Tryd.prog 25 #[.agg #[.string id, .string (strOf (b4 leaf))], .string seed, .int .i64 (c : Int)] w fun e w' => e = .returned (.string (secS seed leaf c)) ∧ Below w.heap.size w w' := by
  have HS := Lib.hid hs
  have HC := Lib.hid hc
  have HE := Lib.hid (secS_eq seed leaf c)
  have HK := Lib.hid hK
  obtain ⟨L4, hL4⟩ : ∃ L4, L4 = strOf (b4 leaf) := ⟨_, rfl⟩
  have HR := Lib.hid (sec_less hs leaf c)
  rw [← hL4] at HE HR ⊢
  clear hs hc hK hL4
  go_enter Tryd.func25, Tryd.ntmps25
  go_wp2_with fail
  obtain ⟨W1, hW1⟩ : ∃ W1, W1 = w.alloc (.cells #[.string id, .string L4] 41) := ⟨_, rfl⟩
  rw [← hW1]
  have hq1 : W1.drew.heap[w.heap.size]? = some (.cells #[.string id, .string L4] 41 (0, 0)) := by rw [hW1]; exact heap_alloc_new w _
  have HQ1 := Lib.hid hq1
  have HB1 : Hid (Below w.heap.size w W1.drew) := Lib.hid (by rw [hW1]; exact (belowNew w _).drew)
  obtain ⟨_, c1, hlt⟩ := kcell hq1
  clear hW1 hq1
  go_region_law (first | (go_simp; go_at_call 41; (with_reducible refine (p1_any c HC.out _).mono ?_); rintro e w2 ⟨rfl, hb2⟩; have HB2 := Lib.hid (HB1.out.next hb2); have c2 := (hb2.cell (p := ⟨w.heap.size, 1, none⟩) hlt).trans c1; clear hb2) | (go_simp; go_at_call 40; refine (short_any _ [⟨#[83]⟩, seed, L4, strOf (b1 c)] _ (reads_row _ [⟨#[83]⟩, seed, L4, strOf (b1 c)] 9) (show (4 : Nat) < 4611686018427387904 by decide) (HK.out.old (HB2.out.alloc HB2.out.size _)) HR.out).mono ?_; rintro e w3 ⟨he, hb3⟩; rw [HE.out] at he; obtain rfl : e = .returned (.string (secS seed leaf c)) := he; have HB3 := Lib.hid ((HB2.out.alloc HB2.out.size _).next hb3); clear hb3))
  all_goals
    go_wp2_with fail
    go_ret
    exact ⟨rfl, HB3.out⟩

set_option maxRecDepth 100000 in
set_option maxHeartbeats 1000000 in
theorem pkeyp_any (id ends : ByteArray) (leaf : Nat) (hi : id.size ≤ 1000) (he : ends.size ≤ 1000) (w : World) (hK : Holds w 0 kWords) :
    Calls Tryd.prog 26 #[.agg #[.string id, .string (strOf (b4 leaf))], .string ends] w fun e w' => e = .returned (.string (keySq id leaf ends)) ∧ Below w.heap.size w w' := by
  have HE := Lib.hid (keyS_eq id ends leaf)
  have HK := Lib.hid hK
  obtain ⟨L4, hL4⟩ : ∃ L4, L4 = strOf (b4 leaf) := ⟨_, rfl⟩
  have HR := Lib.hid (key_less hi he leaf)
  rw [← hL4] at HE HR ⊢
  clear hi he hK hL4
  obtain ⟨W2, hW2⟩ : ∃ W2, W2 = (w.alloc (.cells #[.string id, .string L4] 41)).alloc (.cells #[.string ⟨#[76]⟩, .string id, .string L4, .string ends] 9) := ⟨_, rfl⟩
  have HRW : Hid (Reads_z W2 (.slice (some ⟨w.heap.size + 1, 0, none⟩) 4 4) [⟨#[76]⟩, id, L4, ends]) := Lib.hid (by
    have h := reads_row (w.alloc (.cells #[.string id, .string L4] 41)) [⟨#[76]⟩, id, L4, ends] 9
    rw [show (w.alloc (.cells #[.string id, .string L4] 41)).heap.size = w.heap.size + 1 by simp] at h
    rw [hW2]
    exact h)
  have HB2 : Hid (Below w.heap.size w W2) := Lib.hid (by rw [hW2]; exact (belowNew w _).next (belowNew _ _))
  have HK2 : Hid (Holds W2 0 kWords) := Lib.hid (HK.out.old HB2.out)
  have hw2 := hW2.symm
  have HSH : Hid (Calls Tryd.prog 40 #[.slice (some ⟨w.heap.size + 1, 0, none⟩) 4 4] W2 fun e w' => e = .returned (.string (keySq id leaf ends)) ∧ Below W2.heap.size W2 w') := Lib.hid (by
    have h := short_any _ _ W2 HRW.out (show (4 : Nat) < 4611686018427387904 by decide) HK2.out HR.out
    rw [HE.out] at h
    exact h)
  have HWW := Lib.hid hw2
  clear hW2 hw2
  go_enter Tryd.func26, Tryd.ntmps26
  go_wp2_with (go_at_call 40; rw [HWW.out]; (with_reducible refine HSH.out.mono ?_); rintro e w3 ⟨rfl, hb3⟩; have HB3 := Lib.hid (HB2.out.next hb3); clear hb3)
  go_ret
  exact ⟨rfl, HB3.out⟩
end Go.Proofs.YtbmphhiafepnoaaDoor
namespace Go.Proofs.YtbmphhiafepnoaaDoor
open Go.RowKit

theorem pstep_any (id v : ByteArray) (leaf c p : Nat) (hi : id.size ≤ 1000) (hv : v.size ≤ 1000) (V : Value) (w : World) (hK : Holds w 0 kWords) (hV : Reads_z w V [⟨#[67]⟩, id, strOf (b4 leaf), strOf (b1 c), strOf (b1 p), v]) :
    Calls Tryd.prog 40 #[V] w fun e w' => e = .returned (.string (stepS id leaf c p v)) ∧ Below w.heap.size w w' := by
  rw [← stepS_eq]
  exact short_any V _ w hV (show (6 : Nat) < 4611686018427387904 by decide) hK (step_less hi hv leaf c p)

set_option maxRecDepth 100000 in
set_option maxHeartbeats 1000000 in
theorem pwalk_any (id v : ByteArray) (leaf c a b : Nat) (hi : id.size ≤ 1000) (hv : v.size ≤ 1000) (hc : c < 256) (hab : a ≤ b) (hb : b < 256) (w : World) (hK : Holds w 0 kWords) :
    Calls Tryd.prog 24 #[.agg #[.string id, .string (strOf (b4 leaf))], .int .i64 (c : Int), .int .i64 (a : Int), .int .i64 (b : Int), .string v] w fun e w' => e = .returned (.string (stepsF (stepS id leaf c) a (b - a) v)) ∧ Below w.heap.size w w' := by
  have HI := Lib.hid hi
  have HV := Lib.hid hv
  have HC := Lib.hid hc
  have HA := Lib.hid hab
  have HBB := Lib.hid hb
  obtain ⟨L4, hL4⟩ : ∃ L4, L4 = strOf (b4 leaf) := ⟨_, rfl⟩
  have HST : Hid (∀ (p : Nat) (u : ByteArray) (V : Value) (W : World), u.size ≤ 1000 → Holds W 0 kWords → Reads_z W V [⟨#[67]⟩, id, L4, strOf (b1 c), strOf (b1 p), u] → Calls Tryd.prog 40 #[V] W fun e w' => e = .returned (.string (stepS id leaf c p u)) ∧ Below W.heap.size W w') := Lib.hid fun p u V W hu hk h => by rw [hL4] at h; exact pstep_any id u leaf c p HI.out hu V W hk h
  obtain ⟨W1, hW1⟩ : ∃ W1, W1 = w.alloc (.cells #[.string id, .string L4] 41) := ⟨_, rfl⟩
  have HQ1 : Hid (W1.heap[w.heap.size]? = some (.cells #[.string id, .string L4] 41 (0, 0))) := Lib.hid (by rw [hW1]; exact heap_alloc_new w _)
  have HB1 : Hid (Below w.heap.size w W1) := Lib.hid (by rw [hW1]; exact belowNew w _)
  have HK1 : Hid (Holds W1 0 kWords) := Lib.hid (hK.old HB1.out)
  have hlt1 := (Array.getElem?_eq_some_iff.1 HQ1.out).1
  have HLT := Lib.hid hlt1
  have HW1 := Lib.hid hW1.symm
  rw [← hL4]
  clear hi hv hc hW1 hL4 hK hlt1
  go_enter Tryd.func24, Tryd.ntmps24
  go_wp2_with fail
  rw [HW1.out]
  go_loopw [4, 11] (fun t i wr => ∃ (k : Nat) (u : ByteArray), a + k ≤ b ∧ i = .int .i64 ((a + k : Nat) : Int) ∧ t = .string u ∧ u = stepsF (stepS id leaf c) a k v ∧ u.size ≤ 1000 ∧ Below W1.heap.size W1 wr) (fun _ i _ => b - (intOf i).toNat)
  case atStart => exact ⟨0, v, HA.out, rfl, rfl, rfl, HV.out, Below.refl _ _⟩
  case round =>
    obtain ⟨k, u, hk, rfl, rfl, hu, hus, hbw⟩ := hrel
    have HU := Lib.hid hu
    have HUS := Lib.hid hus
    have HW := Lib.hid hbw
    clear hu hus hbw
    obtain ⟨p, hp⟩ : ∃ p, p = a + k := ⟨_, rfl⟩
    rw [← hp] at hk ⊢
    have HP := Lib.hid hp
    clear hp
    by_cases hlt : p < b
    · have hd : decide ((p : Int) < (b : Int)) = true := by simp; omega
      have hp256 : p < 256 := by omega
      have HPL := Lib.hid hp256
      obtain ⟨u2, hu2⟩ : ∃ u2, u2 = stepS id leaf c p u := ⟨_, rfl⟩
      have HU2 := Lib.hid hu2
      have HST2 := Lib.hid (HST.out p u)
      rw [← hu2] at HST2
      clear hu2
      have hq := (HW.out.block w.heap.size HLT.out).trans HQ1.out
      obtain ⟨c0, c1, hlr⟩ := kcell hq
      have d0 : wr.drew.cell? ⟨w.heap.size, 0, none⟩ = some (.string id) := c0
      have d1 : wr.drew.cell? ⟨w.heap.size, 1, none⟩ = some (.string L4) := c1
      have HLR := Lib.hid hlr
      have HD := Lib.hid HW.out.drew
      clear hq c0 c1
      go_wp2_with fail
      go_region_law (first
        | (go_simp; go_at_call 41; (with_reducible refine (p1_any c HC.out _).mono ?_); rintro e w1 ⟨rfl, hb1⟩; have HB1 := Lib.hid (HD.out.next hb1); have e0 := (hb1.cell (p := ⟨w.heap.size, 0, none⟩) HLR.out).trans d0; have e1 := (hb1.cell (p := ⟨w.heap.size, 1, none⟩) HLR.out).trans d1; have HL1 := Lib.hid (Nat.lt_of_lt_of_le HLR.out hb1.size); clear hb1)
        | (go_simp; go_at_call 41; (with_reducible refine (p1_any p HPL.out _).mono ?_); rintro e w2 ⟨rfl, hb2⟩; have HB2 := Lib.hid (HB1.out.next hb2); have f0 := (hb2.cell (p := ⟨w.heap.size, 0, none⟩) HL1.out).trans e0; have f1 := (hb2.cell (p := ⟨w.heap.size, 1, none⟩) HL1.out).trans e1; clear hb2)
        | (go_simp; go_at_call 40; refine (HST2.out _ _ HUS.out (HK1.out.old (HB2.out.alloc HB2.out.size _)) (reads_row _ [⟨#[67]⟩, id, L4, strOf (b1 c), strOf (b1 p), u] 9)).mono ?_; rintro e w4 ⟨rfl, hb4⟩; have HB4 := Lib.hid ((HB2.out.alloc HB2.out.size _).next hb4); clear hb4))
      all_goals
        go_wp2_with fail
        go_roundw
        case rel =>
          refine ⟨k + 1, u2, by have := HP.out; omega, by have := HP.out; subst this; go_num, rfl, ?_, by rw [HU2.out, stepS_size]; omega, HB4.out⟩
          rw [steps_last, ← HU.out, ← HP.out]
          exact HU2.out
        case measure => simp [intOf]; omega
    · have hpb : p = b := by omega
      have hd : decide ((p : Int) < (b : Int)) = false := by simp; omega
      go_wp2_with fail
      go_ret
      have e : u = stepsF (stepS id leaf c) a (b - a) v := by rw [show b - a = k by have := HP.out; omega]; exact HU.out
      rw [← e]
      exact ⟨rfl, HB1.out.next HW.out⟩

/-- The first error of an id and a leaf. -/
def leafE (id : ByteArray) (leaf : Int) : Nat := if id.size = 16 then (if 0 ≤ leaf ∧ leaf < 256 then 0 else 1) else 18
set_option maxRecDepth 100000 in
set_option maxHeartbeats 1000000 in
theorem pchkl_any (id : ByteArray) (leaf : Int) (w : World) :
    Calls Tryd.prog 36 #[.string id, .int .i64 leaf] w fun e w' => e = .returned (.int .i64 ((leafE id leaf : Nat) : Int)) ∧ Below w.heap.size w w' := by
  obtain ⟨n, hn⟩ : ∃ n, n = id.size := ⟨_, rfl⟩
  have hni : (id.size : Int) = (n : Int) := by rw [hn]
  have HQ := Lib.hid (show leafE id leaf = if n = 16 then (if 0 ≤ leaf ∧ leaf < 256 then 0 else 1) else 18 by unfold leafE; rw [hn])
  clear hn
  rcases Nat.decEq n 16 with h1 | h1
  · have d1 : ((n : Int) == 16) = false := by simp; omega
    have HR := Lib.hid (show leafE id leaf = 18 by rw [HQ.out, if_neg h1])
    clear HQ
    go_enter Tryd.func36, Tryd.ntmps36
    go_wp2_with fail
    go_ret
    rw [HR.out]
    exact ⟨rfl, Below.refl _ _⟩
  · subst h1
    by_cases h3 : leaf < 0
    · have d3 : decide (leaf < 0) = true := by simp; omega
      have HR := Lib.hid (show leafE id leaf = 1 by rw [HQ.out, if_pos rfl, if_neg (by omega)])
      clear HQ
      go_enter Tryd.func36, Tryd.ntmps36
      go_wp2_with fail
      go_ret
      rw [HR.out]
      exact ⟨rfl, Below.refl _ _⟩
    · have d3 : decide (leaf < 0) = false := by simp; omega
      by_cases h4 : 256 ≤ leaf
      · have d4 : decide (256 ≤ leaf) = true := by simp; omega
        have HR := Lib.hid (show leafE id leaf = 1 by rw [HQ.out, if_pos rfl, if_neg (by omega)])
        clear HQ
        go_enter Tryd.func36, Tryd.ntmps36
        go_wp2_with fail
        go_ret
        rw [HR.out]
        exact ⟨rfl, Below.refl _ _⟩
      · have d4 : decide (256 ≤ leaf) = false := by simp; omega
        have HR := Lib.hid (show leafE id leaf = 0 by rw [HQ.out, if_pos rfl, if_pos (by omega)])
        clear HQ
        go_enter Tryd.func36, Tryd.ntmps36
        go_wp2_with fail
        go_ret
        rw [HR.out]
        exact ⟨rfl, Below.refl _ _⟩
theorem chkQ_of (id seed : ByteArray) (leaf : Int) : chkQ id seed leaf = if seed.size = 32 then leafE id leaf else 18 := by
  unfold chkQ leafE
  by_cases h1 : id.size = 16 <;> by_cases h2 : seed.size = 32 <;> simp [h1, h2]
set_option maxRecDepth 100000 in
set_option maxHeartbeats 1000000 in
theorem pchks_any (id seed : ByteArray) (leaf : Int) (w : World) :
    Calls Tryd.prog 20 #[.string id, .string seed, .int .i64 leaf] w fun e w' => e = .returned (.int .i64 ((chkQ id seed leaf : Nat) : Int)) ∧ Below w.heap.size w w' := by
  obtain ⟨n, hn⟩ : ∃ n, n = seed.size := ⟨_, rfl⟩
  have hni : (seed.size : Int) = (n : Int) := by rw [hn]
  have HQ := Lib.hid (show chkQ id seed leaf = if n = 32 then leafE id leaf else 18 by rw [chkQ_of, hn])
  clear hn
  rcases Nat.decEq n 32 with h1 | h1
  · have d1 : ((n : Int) == 32) = false := by simp; omega
    have HR := Lib.hid (show chkQ id seed leaf = 18 by rw [HQ.out, if_neg h1])
    clear HQ
    go_enter Tryd.func20, Tryd.ntmps20
    go_wp2_with fail
    go_ret
    rw [HR.out]
    exact ⟨rfl, Below.refl _ _⟩
  · subst h1
    have HR := Lib.hid (show chkQ id seed leaf = leafE id leaf by rw [HQ.out, if_pos rfl])
    have HC := Lib.hid (fun W => pchkl_any id leaf W)
    clear HQ
    go_enter Tryd.func20, Tryd.ntmps20
    go_wp2_with (go_at_call 36; (with_reducible refine (HC.out _).mono ?_); rintro e w1 ⟨rfl, hb1⟩; have HB1 := Lib.hid hb1; clear hb1)
    go_ret
    rw [HR.out]
    exact ⟨rfl, HB1.out⟩
end Go.Proofs.YtbmphhiafepnoaaDoor
