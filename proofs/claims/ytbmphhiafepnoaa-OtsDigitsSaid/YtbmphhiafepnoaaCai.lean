/-
  The contract of the reference's Digits: for a digest of sixteen bytes its 35 digits, for any other string an error and nothing else.
  What is wanted of the program's Digits, Public, Sign and Recover, as propositions; and the contract of the law package's sanity check over them.
-/
import Derived.Test.YtbmphhiafepnoaaCah
namespace Go.Proofs.Ytbmphhiafepnoaa
open Go.RowKit

theorem own_two {w wr w2 : World} {v v' : Value} {D : List Nat} {x y : Nat} {X : Obj} (hown : OwnI wr w.heap.size v D) (hb : Below w.heap.size w wr)
    (hown2 : w2.ownsRow w.heap.size 3 1 v' (D.length + 2) (D.map icell ++ [icell x, icell y])) (hgr2 : ((wr.alloc X).drew).grownBy w2 v.ownBlock) : OwnI w2 w.heap.size v' (D ++ [x, y]) ∧ Below w.heap.size w w2 := by
  refine ⟨?_, ?_⟩
  · unfold OwnI
    rw [List.length_append, List.map_append]; exact hown2
  · exact (Below.drew (Below.alloc hb hb.size X)).grown hgr2 (by simp; have := hb.size; omega) (fun k e => (World.ownsRow.lt hown k e).1)
theorem own_three {w wr w2 : World} {v v' : Value} {D : List Nat} {x y z : Nat} {X : Obj} (hown : OwnI wr w.heap.size v D) (hb : Below w.heap.size w wr)
    (hown2 : w2.ownsRow w.heap.size 3 1 v' (D.length + 3) (D.map icell ++ [icell x, icell y, icell z])) (hgr2 : (wr.alloc X).grownBy w2 v.ownBlock) : OwnI w2 w.heap.size v' (D ++ [x, y, z]) ∧ Below w.heap.size w w2 := by
  refine ⟨?_, ?_⟩
  · unfold OwnI
    rw [List.length_append, List.map_append]; exact hown2
  · exact (Below.alloc hb hb.size X).grown hgr2 (by simp; have := hb.size; omega) (fun k e => (World.ownsRow.lt hown k e).1)

set_option maxRecDepth 100000 in
set_option maxHeartbeats 1000000 in
theorem rdig_bad (s : ByteArray) (hs : s.size ≠ 16) (w : World) :
    Calls Try.prog 8 #[.string s] w fun e w' => e = .returned (.tuple #[.slice none 0 0, .int .i64 7]) ∧ Below w.heap.size w w' := by
  obtain ⟨n, hn⟩ : ∃ n, n = s.size := ⟨_, rfl⟩
  have d1 : ((n : Int) == 16) = false := by simp; omega
  have hni : (s.size : Int) = (n : Int) := by rw [hn]
  clear hn
  go_enter Try.func8, Try.ntmps8
  go_wp2_with fail
  go_ret2
  exact ⟨rfl, Below.refl _ _⟩
set_option maxRecDepth 100000 in
set_option maxHeartbeats 2000000 in
theorem rdig_ok (s : ByteArray) (hs : s.size = 16) (w : World) :
    Calls Try.prog 8 #[.string s] w fun e w' => (∃ v, e = .returned (.tuple #[v, .int .i64 0]) ∧ OwnI w' w.heap.size v (digs s.data.toList)) ∧ Below w.heap.size w w' := by
  obtain ⟨i0, hi, hz0, hz1, hz2⟩ := info_parts intInfo
  have hni : (s.size : Int) = 16 := by rw [hs]; rfl
  have HS := Lib.hid hs
  have HSL := Lib.hid (show s.data.toList.length = 16 from hs)
  clear hs
  go_enter Try.func8, Try.ntmps8
  go_wp2_with fail
  go_loopw [4, 5, 6] (fun o t i wr => ∃ k : Nat, k ≤ 16 ∧ i = .int .i64 (k : Int) ∧ t = .int .i64 ((lack (halves (s.data.toList.take k)) : Nat) : Int) ∧ OwnI wr w.heap.size o (halves (s.data.toList.take k)) ∧ Below w.heap.size w wr) (fun _ _ i _ => 16 - (intOf i).toNat)
  case atStart => exact ⟨0, by decide, rfl, rfl, World.ownsRow_nil _ _ _ _, Below.refl _ _⟩
  case round =>
    obtain ⟨k, hk, rfl, rfl, ho, hb⟩ := hrel
    have HO := Lib.hid ho
    have HB := Lib.hid hb
    clear ho hb
    obtain ⟨D, hD⟩ : ∃ D, D = halves (s.data.toList.take k) := ⟨_, rfl⟩
    rw [← hD] at HO ⊢
    have HD := Lib.hid hD
    have hlen : D.length = 2 * k := by rw [hD, halves_len, List.length_take, HSL.out]; omega
    have hlk : lack D ≤ 30 * k := by
      have := lack_half_le (s.data.toList.take k)
      rw [← hD, List.length_take, HSL.out] at this
      omega
    clear hD
    by_cases hlt : k < 16
    · have hd : decide ((k : Int) < 16) = true := by simp; omega
      have hks : k < s.size := by rw [HS.out]; exact hlt
      obtain ⟨b, hbv⟩ : ∃ b, b = u8at s k := ⟨_, rfl⟩
      have hb256 : b < 256 := by rw [hbv]; exact u8at_lt s k
      obtain ⟨x, hx⟩ : ∃ x, x = u8at s k / 16 := ⟨_, rfl⟩
      obtain ⟨y, hy⟩ : ∃ y, y = u8at s k % 16 := ⟨_, rfl⟩
      have hq : ((u8at s k : Nat) : Int) / 16 = (x : Int) := by rw [hx]; rfl
      have hr : ((u8at s k : Nat) : Int) % 16 = (y : Int) := by rw [hy]; rfl
      have hx15 : x ≤ 15 := by omega
      have hy15 : y ≤ 15 := by omega
      have HX := Lib.hid hx
      have HY := Lib.hid hy
      clear hx hy
      have hix : ∀ w, (Instr.index 9 (.string s) (.int .i64 (k : Int))).run Try.prog w = .ok (.int .u8 ((b : Nat) : Int)) w := fun w => by rw [hbv]; exact run_index_u8 Try.underlying9 s k hks (k : Int) rfl w
      go_wp2_with fail
      obtain ⟨cb, hcb, hcv⟩ := u8at_list s k hks
      have HT : Hid (halves (s.data.toList.take (k + 1)) = D ++ [x, y]) := Lib.hid (by rw [take_snoc hcb, halves_snoc, ← HD.out, HX.out, HY.out, hcv])
      have HLK : Hid (lack (halves (s.data.toList.take (k + 1))) = lack D + (30 - x - y)) := Lib.hid (by rw [take_snoc hcb, lack_snoc, ← HD.out, HX.out, HY.out, hcv])
      clear hcb hcv
      go_region
      go_wp2_with (at_builtin; (refine wpList_append_own _ rfl (.tmp 28) (.tmp 31) 27 rfl w.heap.size 3 i0 (.int .i64 0) 1 8 Try.underlying27 hi hz0 hz1 hz2 rfl (by decide) _ _ _ rfl ((HO.out.alloc _).drew) ⟨wr.heap.size, 0, none⟩ 2 2 [icell x, icell y] rfl rfl (news_row wr #[icell x, icell y] 3) (icells_one [x, y]) (by rw [hlen]; unfold maxLen; omega) (by rw [hlen]; omega) (by have := HB.out.size; simp; omega) ?_); intro v' w2 hown2 hgr2 _; have HO2 := Lib.hid (own_two HO.out HB.out hown2 hgr2).1; have HB2 := Lib.hid (own_two HO.out HB.out hown2 hgr2).2; clear hown2 hgr2)
      go_roundw
      case rel =>
        refine ⟨k + 1, by omega, by go_num, ?_, by rw [HT.out]; exact HO2.out, HB2.out⟩
        rw [HLK.out]
        congr 1
        omega
      case measure => simp [intOf]; omega
    · have hk16 : k = 16 := by omega
      subst hk16
      have hd : decide ((16 : Int) < 16) = false := by decide
      obtain ⟨p, hp⟩ : ∃ p, p = lack D / 256 := ⟨_, rfl⟩
      obtain ⟨q, hq⟩ : ∃ q, q = lack D / 16 % 16 := ⟨_, rfl⟩
      obtain ⟨r, hr⟩ : ∃ r, r = lack D % 16 := ⟨_, rfl⟩
      have hpi : ((lack D : Nat) : Int) / 256 = (p : Int) := by rw [hp]; rfl
      have hqi : ((lack D : Nat) : Int) / 16 % 16 = (q : Int) := by rw [hq]; rfl
      have hri : ((lack D : Nat) : Int) % 16 = (r : Int) := by rw [hr]; rfl
      have HT : Hid (digs s.data.toList = D ++ [p, q, r]) := Lib.hid (by
        have := HD.out
        rw [List.take_of_length_le (by rw [HSL.out]; exact Nat.le_refl _)] at this
        unfold digs sumD
        rw [← this, hp, hq, hr])
      clear hp hq hr
      go_wp2_with (at_builtin; (refine wpList_append_own _ rfl (.tmp 39) (.tmp 47) 27 rfl w.heap.size 3 i0 (.int .i64 0) 1 8 Try.underlying27 hi hz0 hz1 hz2 rfl (by decide) _ _ _ rfl (HO.out.alloc _) ⟨wr.heap.size, 0, none⟩ 3 3 [icell p, icell q, icell r] rfl rfl (news_row wr #[icell p, icell q, icell r] 3) (icells_one [p, q, r]) (by rw [hlen]; unfold maxLen; omega) (by rw [hlen]; omega) (by have := HB.out.size; simp; omega) ?_); intro v' w2 hown2 hgr2 _; have HO2 := Lib.hid (own_three HO.out HB.out hown2 hgr2).1; have HB2 := Lib.hid (own_three HO.out HB.out hown2 hgr2).2; clear hown2 hgr2)
      go_ret2
      exact ⟨⟨_, rfl, by rw [HT.out]; exact HO2.out⟩, HB2.out⟩
end Go.Proofs.Ytbmphhiafepnoaa
namespace Go.Proofs.Ytbmphhiafepnoaa
open Go.RowKit

/-- Digits of sixteen bytes. -/
def DigP : Prop := ∀ (s : ByteArray) (w : World), s.size = 16 → Calls Try.prog 7 #[.string s] w fun e w' => (∃ v, e = .returned (.tuple #[v, .int .i64 0]) ∧ OwnI w' w.heap.size v (digs s.data.toList)) ∧ Below w.heap.size w w'
set_option maxRecDepth 100000 in
set_option maxHeartbeats 1000000 in
theorem awakeq_any (hP : DigP) (w : World) :
    Calls Try.prog 5 #[] w fun e w' => e = .returned (.bool true) ∧ Below w.heap.size w w' := by
  obtain ⟨i0, hi, hz0, hz1, hz2⟩ := info_parts (show (Try.prog.info? 5).map (fun i => (i.zero, i.size, i.bytes)) = some (some (.int .u8 0), 1, 1) by kernel_rfl)
  obtain ⟨Z, hZ⟩ : ∃ Z, Z = strOf (List.replicate 16 0) := ⟨_, rfl⟩
  obtain ⟨D, hD⟩ : ∃ D, D = digs (List.replicate 16 0) := ⟨_, rfl⟩
  have hDz : D = List.replicate 32 0 ++ [1, 14, 0] := hD.trans digs_zero
  have HDZ := Lib.hid hDz
  have HDP : Hid (∀ W : World, Calls Try.prog 7 #[.string Z] W fun e w' => (∃ v, e = .returned (.tuple #[v, .int .i64 0]) ∧ OwnI w' W.heap.size v D) ∧ Below W.heap.size W w') := Lib.hid fun W => by
    rw [hZ, hD]
    exact hP _ W rfl
  have HZ := Lib.hid hZ
  clear hZ hD hDz
  go_enter Try.func5, Try.ntmps5
  go_wp2_with (first | (at_make; refine wpList_make_full _ rfl _ _ 24 rfl w.heap.size 5 i0 (.int .u8 0) 1 Try.underlying24 hi hz0 hz1 .i64 .i64 16 16 16 rfl rfl (by omega) (by omega) (by rw [hz2]; omega) (by unfold maxLen; omega) (by simp) ?_; intro w1 hown1 hgr1; have ho1 : OwnB 5 w1 w.heap.size _ (List.replicate 16 0) := (tail_made 7 hown1); have hcv := own_str ho1; rw [← HZ.out] at hcv; have HB1 := Lib.hid ((Below.refl w.heap.size w).grown hgr1 (Nat.le_refl _) (fun _ e => by cases e)); clear ho1 hown1 hgr1) | (go_at_call 7; (with_reducible refine (HDP.out _).mono ?_); rintro e w2 ⟨⟨v, rfl, ho2⟩, hb2⟩; obtain ⟨gd, cd, rfl, hgB, hIL, hcd⟩ := ho2.open (by rw [HDZ.out]; simp); have hl35 : D.length = 35 := (by rw [HDZ.out]; rfl); rw [hl35]; have hc0 : w2.cell? ⟨gd, 0, none⟩ = some (.int .i64 0) := ((hIL.cell 0 (by omega)).trans (by rw [HDZ.out]; rfl)); have hc32 : w2.cell? ⟨gd, 32, none⟩ = some (.int .i64 1) := ((hIL.cell 32 (by omega)).trans (by rw [HDZ.out]; rfl)); have hc33 : w2.cell? ⟨gd, 33, none⟩ = some (.int .i64 14) := ((hIL.cell 33 (by omega)).trans (by rw [HDZ.out]; rfl)); have hc34 : w2.cell? ⟨gd, 34, none⟩ = some (.int .i64 0) := ((hIL.cell 34 (by omega)).trans (by rw [HDZ.out]; rfl)); have HB2 := Lib.hid (HB1.out.next hb2); clear hb2 ho2 hIL))
  go_ret
  exact ⟨rfl, HB2.out⟩
end Go.Proofs.Ytbmphhiafepnoaa
