/-
  The contract of the reference's Digits: for a digest of sixteen bytes its 35 digits, for any other string an error and nothing else.
  Nothing is left of this text.
  The contracts of the reference's CheckKey, Leaf and Verify's parts.
  The contracts of the law package's small functions: seeds, ids and digests of the right size.
  The contracts of the reference's Generate for what it refuses, of its KeyOf, and of certpathmade's Tree.
  The contract of the reference's KeyOf.
  The contract of the reference's SignOnce.
-/
import Derived.Test.YtphgpakfdhdklaaDoorAae
import Derived.Test.YtphgpakfdhdklaaDoorAaf
import Derived.Test.YtphgpakfdhdklaaDoorAag
namespace Go.Proofs.YtphgpakfdhdklaaDoor
open Go.RowKit

theorem own_two {w wr w2 : World} {v v' : Value} {D : List Nat} {x y : Nat} {X : Obj} (hown : OwnI wr w.heap.size v D) (hb : Below w.heap.size w wr)
    (hown2 : w2.ownsRow w.heap.size 3 1 v' (D.length + 2) (D.map icell ++ [icell x, icell y])) (hgr2 : ((wr.alloc X).drew).grownBy w2 v.ownBlock) : OwnI w2 w.heap.size v' (D ++ [x, y]) ∧ Below w.heap.size w w2 := by
  refine ⟨?_, ?_⟩
  · unfold OwnI
    rw [List.length_append, List.map_append]; exact hown2
  · exact (Below.drew (Below.alloc hb hb.size X)).grown hgr2 (by simp; have := hb.size; omega) (fun k e => (World.ownsRow.lt hown k e).1)
theorem own_three {w wr w2 : World} {v v' : Value} {D : List Nat} {x y z : Nat} {X : Obj} (hown : OwnI wr w.heap.size v D) (hb : Below w.heap.size w wr)
    (hown2 : w2.ownsRow w.heap.size 3 1 v' (D.length + 3) (D.map icell ++ [icell x, icell y, icell z])) (hgr2 : (wr.alloc X).grownBy w2 v.ownBlock) : OwnI w2 w.heap.size v' (D ++ [x, y, z]) ∧ Below w.heap.size w w2 := by
  refine ⟨?_, ?_⟩
  · unfold OwnI
    rw [List.length_append, List.map_append]; exact hown2
  · exact (Below.alloc hb hb.size X).grown hgr2 (by simp; have := hb.size; omega) (fun k e => (World.ownsRow.lt hown k e).1)

set_option maxRecDepth 100000 in
set_option maxHeartbeats 1000000 in
theorem rdig_bad (s : ByteArray) (hs : s.size ≠ 16) (w : World) :
    Calls Tryd.prog 52 #[.string s] w fun e w' => e = .returned (.tuple #[.slice none 0 0, .int .i64 7]) ∧ Below w.heap.size w w' := by
  obtain ⟨n, hn⟩ : ∃ n, n = s.size := ⟨_, rfl⟩
  have d1 : ((n : Int) == 16) = false := by simp; omega
  have hni : (s.size : Int) = (n : Int) := by rw [hn]
  clear hn
  go_enter Tryd.func52, Tryd.ntmps52
  go_wp2_with fail
  go_ret2
  exact ⟨rfl, Below.refl _ _⟩
set_option maxRecDepth 100000 in
set_option maxHeartbeats 2000000 in
theorem rdig_ok (s : ByteArray) (hs : s.size = 16) (w : World) :
    Calls Tryd.prog 52 #[.string s] w fun e w' => (∃ v, e = .returned (.tuple #[v, .int .i64 0]) ∧ OwnI w' w.heap.size v (digs s.data.toList)) ∧ Below w.heap.size w w' := by
  obtain ⟨i0, hi, hz0, hz1, hz2⟩ := info_parts intInfo
  have hni : (s.size : Int) = 16 := by rw [hs]; rfl
  have HS := Lib.hid hs
  have HSL := Lib.hid (show s.data.toList.length = 16 from hs)
  clear hs
  go_enter Tryd.func52, Tryd.ntmps52
  go_wp2_with fail
  go_loopw [4, 5, 6] (fun o t i wr => ∃ k : Nat, k ≤ 16 ∧ i = .int .i64 (k : Int) ∧ t = .int .i64 ((lack (halves (s.data.toList.take k)) : Nat) : Int) ∧ OwnI wr w.heap.size o (halves (s.data.toList.take k)) ∧ Below w.heap.size w wr) (fun _ _ i _ => 16 - (intOf i).toNat)
  case atStart => exact ⟨0, by decide, rfl, rfl, World.ownsRow_nil _ _ _ _, Below.refl _ _⟩
  case round =>
    obtain ⟨k, hk, rfl, rfl, ho, hb⟩ := hrel
    have HO := Lib.hid ho
    have HB := Lib.hid hb
    clear ho hb
    obtain ⟨D, hD⟩ : ∃ D, D = halves (s.data.toList.take k) := ⟨_, rfl⟩
    rw [← hD] at HO ⊢
    have HD := Lib.hid hD
    have hlen : D.length = 2 * k := by rw [hD, halves_len, List.length_take, HSL.out]; omega
    have hlk : lack D ≤ 30 * k := by
      have := lack_half_le (s.data.toList.take k)
      rw [← hD, List.length_take, HSL.out] at this
      omega
    clear hD
    by_cases hlt : k < 16
    · have hd : decide ((k : Int) < 16) = true := by simp; omega
      have hks : k < s.size := by rw [HS.out]; exact hlt
      obtain ⟨b, hbv⟩ : ∃ b, b = u8at s k := ⟨_, rfl⟩
      have hb256 : b < 256 := by rw [hbv]; exact u8at_lt s k
      obtain ⟨x, hx⟩ : ∃ x, x = u8at s k / 16 := ⟨_, rfl⟩
      obtain ⟨y, hy⟩ : ∃ y, y = u8at s k % 16 := ⟨_, rfl⟩
      have hq : ((u8at s k : Nat) : Int) / 16 = (x : Int) := by rw [hx]; rfl
      have hr : ((u8at s k : Nat) : Int) % 16 = (y : Int) := by rw [hy]; rfl
      have hx15 : x ≤ 15 := by omega
      have hy15 : y ≤ 15 := by omega
      have HX := Lib.hid hx
      have HY := Lib.hid hy
      clear hx hy
      have hix : ∀ w, (Instr.index 9 (.string s) (.int .i64 (k : Int))).run Tryd.prog w = .ok (.int .u8 ((b : Nat) : Int)) w := fun w => by rw [hbv]; exact run_index_u8 Tryd.underlying9 s k hks (k : Int) rfl w
      go_wp2_with fail
      obtain ⟨cb, hcb, hcv⟩ := u8at_list s k hks
      have HT : Hid (halves (s.data.toList.take (k + 1)) = D ++ [x, y]) := Lib.hid (by rw [take_snoc hcb, halves_snoc, ← HD.out, HX.out, HY.out, hcv])
      have HLK : Hid (lack (halves (s.data.toList.take (k + 1))) = lack D + (30 - x - y)) := Lib.hid (by rw [take_snoc hcb, lack_snoc, ← HD.out, HX.out, HY.out, hcv])
      clear hcb hcv
      go_region
      go_wp2_with (at_builtin; (refine wpList_append_own _ rfl (.tmp 28) (.tmp 31) 22 rfl w.heap.size 3 i0 (.int .i64 0) 1 8 Tryd.underlying22 hi hz0 hz1 hz2 rfl (by decide) _ _ _ rfl ((HO.out.alloc _).drew) ⟨wr.heap.size, 0, none⟩ 2 2 [icell x, icell y] rfl rfl (news_row wr #[icell x, icell y] 3) (icells_one [x, y]) (by rw [hlen]; unfold maxLen; omega) (by rw [hlen]; omega) (by have := HB.out.size; simp; omega) ?_); intro v' w2 hown2 hgr2 _; have HO2 := Lib.hid (own_two HO.out HB.out hown2 hgr2).1; have HB2 := Lib.hid (own_two HO.out HB.out hown2 hgr2).2; clear hown2 hgr2)
      go_roundw
      case rel =>
        refine ⟨k + 1, by omega, by go_num, ?_, by rw [HT.out]; exact HO2.out, HB2.out⟩
        rw [HLK.out]
        congr 1
        omega
      case measure => simp [intOf]; omega
    · have hk16 : k = 16 := by omega
      subst hk16
      have hd : decide ((16 : Int) < 16) = false := by decide
      obtain ⟨p, hp⟩ : ∃ p, p = lack D / 256 := ⟨_, rfl⟩
      obtain ⟨q, hq⟩ : ∃ q, q = lack D / 16 % 16 := ⟨_, rfl⟩
      obtain ⟨r, hr⟩ : ∃ r, r = lack D % 16 := ⟨_, rfl⟩
      have hpi : ((lack D : Nat) : Int) / 256 = (p : Int) := by rw [hp]; rfl
      have hqi : ((lack D : Nat) : Int) / 16 % 16 = (q : Int) := by rw [hq]; rfl
      have hri : ((lack D : Nat) : Int) % 16 = (r : Int) := by rw [hr]; rfl
      have HT : Hid (digs s.data.toList = D ++ [p, q, r]) := Lib.hid (by
        have := HD.out
        rw [List.take_of_length_le (by rw [HSL.out]; exact Nat.le_refl _)] at this
        unfold digs sumD
        rw [← this, hp, hq, hr])
      clear hp hq hr
      go_wp2_with (at_builtin; (refine wpList_append_own _ rfl (.tmp 39) (.tmp 47) 22 rfl w.heap.size 3 i0 (.int .i64 0) 1 8 Tryd.underlying22 hi hz0 hz1 hz2 rfl (by decide) _ _ _ rfl (HO.out.alloc _) ⟨wr.heap.size, 0, none⟩ 3 3 [icell p, icell q, icell r] rfl rfl (news_row wr #[icell p, icell q, icell r] 3) (icells_one [p, q, r]) (by rw [hlen]; unfold maxLen; omega) (by rw [hlen]; omega) (by have := HB.out.size; simp; omega) ?_); intro v' w2 hown2 hgr2 _; have HO2 := Lib.hid (own_three HO.out HB.out hown2 hgr2).1; have HB2 := Lib.hid (own_three HO.out HB.out hown2 hgr2).2; clear hown2 hgr2)
      go_ret2
      exact ⟨⟨_, rfl, by rw [HT.out]; exact HO2.out⟩, HB2.out⟩
end Go.Proofs.YtphgpakfdhdklaaDoor

namespace Go.Proofs.YtphgpakfdhdklaaDoor
open Go.RowKit

def keyV (h : Int) (id root : ByteArray) : Value := .agg #[.int .i64 h, .string id, .string root]
def leafV (s : ByteArray) : Value := if s.size < 4 then .tuple #[.int .i64 0, .bool false] else .tuple #[.int .i64 ((leafS s : Nat) : Int), .bool true]
theorem or_add (x y k : Nat) (hx : x < 2 ^ 40) (hy : y < 2 ^ k) (hd : 2 ^ k ∣ x) (hk : k ≤ 40) : bits BinOp.or .i64 (x : Int) (y : Int) = ((x + y : Nat) : Int) := by
  have hy40 : y < 2 ^ 40 := Nat.lt_of_lt_of_le hy (Nat.pow_le_pow_right (by omega) hk)
  obtain ⟨c, rfl⟩ := hd
  have hor : 2 ^ k * c ||| y = 2 ^ k * c + y := (Nat.two_pow_add_eq_or_of_lt hy c).symm
  have hle : 2 ^ k * c + y < 2 ^ 41 := by omega
  show IntKind.i64.wrap ((BitVec.ofInt 64 ((2 ^ k * c : Nat) : Int) ||| BitVec.ofInt 64 (y : Int)).toNat : Int) = _
  rw [BitVec.toNat_or, BitVec.ofInt_natCast, BitVec.ofInt_natCast, BitVec.toNat_ofNat, BitVec.toNat_ofNat, Nat.mod_eq_of_lt (by omega), Nat.mod_eq_of_lt (by omega), hor, wrap_i64]
  omega
end Go.Proofs.YtphgpakfdhdklaaDoor
namespace Go.Proofs.YtphgpakfdhdklaaDoor
open Go.RowKit

def seedS (k : Nat) : ByteArray := shaStr (cat_z [⟨#[115, 101, 101, 100]⟩, strOf (b4 k)])
theorem seedS_size (k : Nat) : (seedS k).size = 32 := shaStr_size _
theorem cat_pairq (a b : ByteArray) : (cat_z [a, b]).length = a.size + b.size := by
  simp [cat_z]

set_option maxRecDepth 100000 in
set_option maxHeartbeats 1000000 in
theorem seedq_any (k : Nat) (hk : k < 4294967296) (w : World) :
    Calls Tryd.prog 10 #[.int .i64 (k : Int)] w fun e w' => e = .returned (.string (seedS k)) ∧ Below w.heap.size w w' := by
  have HK := Lib.hid hk
  obtain ⟨S, hS⟩ : ∃ S, S = seedS k := ⟨_, rfl⟩
  have HSM : Hid (∀ (V : Value) (W : World), Reads_z W V [⟨#[115, 101, 101, 100]⟩, strOf (b4 k)] → Calls Tryd.prog 31 #[V] W fun e w' => e = .returned (.string S) ∧ Below W.heap.size W w') := Lib.hid fun V W h => by
    rw [hS]
    exact refsum_any V _ W h (show (2 : Nat) < 4611686018427387904 by decide) (by rw [cat_pairq]; show 4 + 4 ≤ 1099511627776; omega)
  rw [← hS]
  clear hk hS
  go_enter Tryd.func10, Tryd.ntmps10
  go_wp2_with (first | (go_at_call 32; (with_reducible refine (rb4_any k HK.out _).mono ?_); rintro e w1 ⟨rfl, hb1⟩; have HB1 := Lib.hid hb1; clear hb1) | (go_at_call 31; refine (HSM.out _ _ (reads_row _ [⟨#[115, 101, 101, 100]⟩, strOf (b4 k)] 9)).mono ?_; rintro e w2 ⟨rfl, hb2⟩; have HB2 := Lib.hid ((HB1.out.alloc HB1.out.size _).next hb2); clear hb2))
  go_ret
  exact ⟨rfl, HB2.out⟩
end Go.Proofs.YtphgpakfdhdklaaDoor
namespace Go.Proofs.YtphgpakfdhdklaaDoor
open Go.RowKit

def genE (seed : ByteArray) (h : Int) : Nat := if seed.size = 32 then (if 0 ≤ h ∧ h ≤ 8 then 0 else 1) else 18
/-- The value of a tree of the definition that lies in w. -/
def TreeV (w : World) (v : Value) (seed : ByteArray) (h : Nat) : Prop := ∃ a c, v = .agg #[.string seed, .string (idT seed), .slice a (h + 1) c] ∧ h + 1 ≤ c ∧ RowsAt w a (levelsS seed h (h + 1))
theorem TreeV.below {w w' : World} {v : Value} {seed : ByteArray} {h : Nat} (t : TreeV w v seed h) (hb : Below w.heap.size w w') : TreeV w' v seed h := by
  obtain ⟨a, c, e, hc, hr⟩ := t
  exact ⟨a, c, e, hc, hr.below hb⟩
theorem rows_at {w : World} {a : Option Addr} {n : List (List ByteArray)} (h : RowsAt w a n) (hn : n ≠ []) : ∃ b o, a = some ⟨b, o, none⟩ ∧ b < w.heap.size ∧ ∀ i, i < n.length → ∃ a' c', w.cell? ⟨b, o + i, none⟩ = some (.slice a' (n.getD i []).length c') ∧ (n.getD i []).length ≤ c' ∧ StrsAt w a' (n.getD i []) := by
  rcases h with h | h
  · exact absurd h hn
  · exact h
/-- The levels of a tree, opened. -/
theorem TreeV.open {w : World} {v : Value} {seed : ByteArray} {h : Nat} (t : TreeV w v seed h) : ∃ b o c, v = .agg #[.string seed, .string (idT seed), .slice (some ⟨b, o, none⟩) (h + 1) c] ∧ h + 1 ≤ c ∧ b < w.heap.size ∧
    ∀ l, l ≤ h → ∃ b' o' c', w.cell? ⟨b, o + l, none⟩ = some (.slice (some ⟨b', o', none⟩) (2 ^ (h - l)) c') ∧ 2 ^ (h - l) ≤ c' ∧ b' < w.heap.size ∧ ∀ i, i < 2 ^ (h - l) → w.cell? ⟨b', o' + i, none⟩ = some (.string (nodeS seed l i)) := by
  obtain ⟨a, c, e, hc, hr⟩ := t
  obtain ⟨b, o, rfl, hb, hl⟩ := rows_at hr (by intro e; have := levelsS_len seed h (h + 1); rw [e] at this; cases this)
  refine ⟨b, o, c, e, hc, hb, fun l hlh => ?_⟩
  obtain ⟨a', c', e1, e2, e3⟩ := hl l (by rw [levelsS_len]; omega)
  rw [levelsS_at seed h (h + 1) l (by omega)] at e1 e2 e3
  rw [levelS_len] at e1 e2
  obtain ⟨b', o', rfl, hb', hs⟩ := strs_at e3 (by intro e; have := levelS_len seed h l; rw [e] at this; have := Nat.one_le_two_pow (n := h - l); simp at *; omega)
  refine ⟨b', o', c', e1, e2, hb', fun i hi => ?_⟩
  have := hs i (by rw [levelS_len]; exact hi)
  rw [levelS_at seed h l i hi] at this
  exact this

theorem own_slice_l {w : World} {B : Nat} {V : Value} {S : ByteArray} {h : Nat} (ho : OwnLL w B V (levelsS S h (h + 1))) : ∃ a c, V = .slice a (h + 1) c := by
  obtain ⟨a, c, e, _, _⟩ := ho.lies
  rw [levelsS_len] at e
  exact ⟨a, c, e⟩
theorem tree_of {w : World} {B : Nat} {a : Option Addr} {c : Nat} {S ID : ByteArray} {h : Nat} (hID : ID = idT S) (ho : OwnLL w B (.slice a (h + 1) c) (levelsS S h (h + 1))) : TreeV w (.agg #[.string S, .string ID, .slice a (h + 1) c]) S h := by
  subst hID
  obtain ⟨a', c', e, hc, hr⟩ := ho.lies
  rw [levelsS_len] at e hc
  simp only [Value.slice.injEq] at e
  obtain ⟨rfl, _, rfl⟩ := e
  exact ⟨a, c, rfl, hc, hr⟩
set_option maxRecDepth 100000 in
set_option maxHeartbeats 1000000 in
theorem treeq_any (k h : Nat) (hk : k < 4294967296) (hh : h ≤ 8) (w : World) :
    Calls Tryd.prog 8 #[.int .i64 (k : Int), .int .i64 (h : Int)] w fun e w' => (∃ v, e = .returned v ∧ TreeV w' v (seedS k) h) ∧ Below w.heap.size w w' := by
  have HSD := Lib.hid (fun W => seedq_any k hk W)
  have HG : Hid (∀ W : World, Calls Tryd.prog 27 #[.string (seedS k), .int .i64 (h : Int)] W fun e w' => (∃ V, e = .returned (.tuple #[.agg #[.string (seedS k), .string (idT (seedS k)), V], .int .i64 0]) ∧ OwnLL w' W.heap.size V (levelsS (seedS k) h (h + 1))) ∧ Below W.heap.size W w') := Lib.hid fun W => rgen_ok (seedS k) h (seedS_size k) hh W
  obtain ⟨S, hS⟩ : ∃ S, S = seedS k := ⟨_, rfl⟩
  rw [← hS] at HSD HG ⊢
  obtain ⟨ID, hID⟩ : ∃ ID, ID = idT S := ⟨_, rfl⟩
  rw [← hID] at HG
  have HID := Lib.hid hID
  clear hk hh hS hID
  go_enter Tryd.func8, Tryd.ntmps8
  go_wp2_with (first
    | (go_at_call 10; (with_reducible refine (HSD.out _).mono ?_); rintro e w1 ⟨rfl, hb1⟩; have HB1 := Lib.hid ((belowNew w _).next hb1); have HQ1 := Lib.hid ((hb1.block w.heap.size (by simp)).trans (heap_alloc_new w _)); clear hb1)
    | (go_at_call 27; (with_reducible refine (HG.out _).mono ?_); rintro e w2 ⟨⟨V, rfl, ho⟩, hb2⟩; obtain ⟨a, c, rfl⟩ := own_slice_l ho;  have HB2 := Lib.hid (HB1.out.next hb2); have hq2 := (hb2.block w.heap.size (Array.getElem?_eq_some_iff.1 HQ1.out).1).trans HQ1.out; obtain ⟨z0, z1, z2, hlt⟩ := tcell hq2; have f0 := Lib.frozen_of_heap hq2 0; have f1 := Lib.frozen_of_heap hq2 1; have f2 := Lib.frozen_of_heap hq2 2; have HQ2 := Lib.hid hq2; have HO := Lib.hid ho; have HLW := Lib.hid (Array.getElem?_eq_some_iff.1 HQ1.out).1; clear hb2 ho hq2))
  have hq9 := ((belowNew _ (.cells #[.string S, .string ID, .slice a (h + 1) c] 25)).block w.heap.size (Array.getElem?_eq_some_iff.1 (tset3 (x := .string S) (y := .string ID) (z := .slice a (h + 1) c) HQ2.out)).1).trans (tset3 (x := .string S) (y := .string ID) (z := .slice a (h + 1) c) HQ2.out)
  have ho9 := (((HO.out.low (T := w.heap.size) (j := 0) (x := .string S) HLW.out).low (T := w.heap.size) (j := 1) (x := .string ID) HLW.out).low (T := w.heap.size) (j := 2) (x := .slice a (h + 1) c) HLW.out).below (belowNew _ (.cells #[.string S, .string ID, .slice a (h + 1) c] 25))
  exact bodyPost_ret (results_cell_row rfl _ _ w.heap.size 25 _ (0, 0) _ rfl hq9 Tryd.underlying25 rfl treeSize) rfl ⟨⟨_, rfl, tree_of HID.out ho9⟩, ((((HB2.out.setCell (p := ⟨w.heap.size, 0, none⟩) (Nat.le_refl _) _).setCell (p := ⟨w.heap.size, 1, none⟩) (Nat.le_refl _) _).setCell (p := ⟨w.heap.size, 2, none⟩) (Nat.le_refl _) _)).next (belowNew _ _)⟩
end Go.Proofs.YtphgpakfdhdklaaDoor
namespace Go.Proofs.YtphgpakfdhdklaaDoor
open Go.RowKit

theorem keySizeM : (Tryd.prog.info? 46).map (·.size) = some 3 := by kernel_rfl
set_option maxRecDepth 100000 in
set_option maxHeartbeats 1000000 in
theorem rkeyof_any (v : Value) (seed : ByteArray) (h : Nat) (hh : h ≤ 8) (w : World) (ht : TreeV w v seed h) :
    Calls Tryd.prog 24 #[v] w fun e w' => e = .returned (keyV (h : Int) (idT seed) (rootS seed h)) ∧ Below w.heap.size w w' := by
  obtain ⟨b, o, c, rfl, hc, hb, hl⟩ := ht.open
  obtain ⟨b', o', c', e0, e1, hb', hs⟩ := hl h (Nat.le_refl _)
  rw [Nat.sub_self, Nat.pow_zero] at e0 e1 hs
  have e2 := hs 0 (by omega)
  rw [Nat.add_zero] at e2
  obtain ⟨ID, hID⟩ : ∃ ID, ID = idT seed := ⟨_, rfl⟩
  obtain ⟨R, hR⟩ : ∃ R, R = rootS seed h := ⟨_, rfl⟩
  rw [show nodeS seed h 0 = rootS seed h from rfl, ← hR] at e2
  obtain ⟨n, hn⟩ : ∃ n, n = h + 1 := ⟨_, rfl⟩
  have hn1 : (n : Int) - 1 = (h : Int) := by omega
  have hni : (h : Int) < (n : Int) := by omega
  have hnn : h < n := by omega
  have hn9 : n ≤ 9 := by omega
  unfold keyV
  rw [← hID, ← hR, ← hn]
  obtain ⟨W2, hW2⟩ : ∃ W2, W2 = (w.alloc (.cells #[.string seed, .string ID, .slice (some ⟨b, o, none⟩) n c] 25)).alloc (.cells #[.int .i64 0, .string ⟨#[]⟩, .string ⟨#[]⟩] 46) := ⟨_, rfl⟩
  have HB2 : Hid (Below w.heap.size w W2) := Lib.hid (by rw [hW2]; exact (belowNew w _).next (belowNew _ _))
  have hq0 : W2.heap[w.heap.size]? = some (.cells #[.string seed, .string ID, .slice (some ⟨b, o, none⟩) n c] 25 (0, 0)) := by rw [hW2]; exact ((belowNew _ _).block w.heap.size (by simp)).trans (heap_alloc_new w _)
  have hq1 : W2.heap[w.heap.size + 1]? = some (.cells #[.int .i64 0, .string ⟨#[]⟩, .string ⟨#[]⟩] 46 (0, 0)) := by
    rw [hW2]
    have := heap_alloc_new (w.alloc (.cells #[.string seed, .string ID, .slice (some ⟨b, o, none⟩) n c] 25)) (.cells #[.int .i64 0, .string ⟨#[]⟩, .string ⟨#[]⟩] 46)
    rw [show (w.alloc (.cells #[.string seed, .string ID, .slice (some ⟨b, o, none⟩) n c] 25)).heap.size = w.heap.size + 1 by simp] at this
    exact this
  have HW2 := Lib.hid hW2.symm
  have x0 := (HB2.out.cell (p := ⟨b, o + h, none⟩) hb).trans e0
  have x2 := (HB2.out.cell (p := ⟨b', o', none⟩) hb').trans e2
  have hlb : b < W2.heap.size := Nat.lt_of_lt_of_le hb HB2.out.size
  have hlb' : b' < W2.heap.size := Nat.lt_of_lt_of_le hb' HB2.out.size
  have hne1 : ¬ b = w.heap.size + 1 := by omega
  have hne2 : ¬ b' = w.heap.size + 1 := by omega
  have HQ1 := Lib.hid hq1
  have HQ0 := Lib.hid hq0
  clear hW2 e0 e1 e2 hs hl hID hR hn hc hq0 hq1 hb hb'
  go_enter Tryd.func24, Tryd.ntmps24
  go_wp2_with fail
  rw [HW2.out]
  obtain ⟨g, hg⟩ : ∃ g, g = w.heap.size := ⟨_, rfl⟩
  have hq0 := HQ0.out
  have hq1 := HQ1.out
  rw [← hg] at hq0 hq1 hne1 hne2 ⊢
  obtain ⟨t0, t1, t2, hlt⟩ := tcell (w := W2.drew) hq0
  obtain ⟨k0, k1, k2, hlk⟩ := tcell (w := W2.drew) hq1
  have f0 := Lib.frozen_of_heap (w := W2.drew) hq1 0
  have f1 := Lib.frozen_of_heap (w := W2.drew) hq1 1
  have f2 := Lib.frozen_of_heap (w := W2.drew) hq1 2
  obtain ⟨kk0, kk1, kk2, hlk2⟩ := tcell hq1
  have ff0 := Lib.frozen_of_heap hq1 0
  have ff1 := Lib.frozen_of_heap hq1 1
  have ff2 := Lib.frozen_of_heap hq1 2
  have y0 : W2.drew.cell? ⟨b, o + h, none⟩ = _ := x0
  have y2 : W2.drew.cell? ⟨b', o', none⟩ = _ := x2
  have HG := Lib.hid hg
  clear x0 x2 hq0 hq1 hg
  go_region
  go_wp2_with fail
  exact bodyPost_ret (results_cell_row rfl _ _ (g + 1) 46 _ (0, 0) _ rfl (tset3 (by rw [HG.out]; exact HQ1.out)) Tryd.underlying46 rfl keySizeM) rfl ⟨rfl, ((HB2.out.drew.setCell (p := ⟨g + 1, 0, none⟩) (by rw [HG.out]; exact Nat.le_succ _) _).setCell (p := ⟨g + 1, 1, none⟩) (by rw [HG.out]; exact Nat.le_succ _) _).setCell (p := ⟨g + 1, 2, none⟩) (by rw [HG.out]; exact Nat.le_succ _) _⟩
end Go.Proofs.YtphgpakfdhdklaaDoor
namespace Go.Proofs.YtphgpakfdhdklaaDoor
open Go.RowKit

set_option maxRecDepth 100000 in
set_option maxHeartbeats 2000000 in
theorem rsgn_ok (id seed dg : ByteArray) (leaf : Nat) (h0 : chkQ id seed (leaf : Int) = 0) (hd16 : dg.size = 16) (w : World) :
    Calls Tryd.prog 35 #[.string id, .string seed, .int .i64 (leaf : Int), .string dg] w fun e w' => e = .returned (someV (sigS id seed leaf (digs dg.data.toList))) ∧ Below w.heap.size w w' := by
  obtain ⟨hi, hs, n, hn, hlt⟩ := chkQ_zero h0
  have hl : leaf < 256 := by omega
  clear hn hlt n
  have HI := Lib.hid hi
  have HS := Lib.hid hs
  have HL := Lib.hid hl
  have HCK : Hid (∀ W : World, Calls Tryd.prog 51 #[.string id, .string seed, .int .i64 (leaf : Int)] W fun e w' => e = .returned (.int .i64 0) ∧ Below W.heap.size W w') := Lib.hid fun W => by
    have := rchkq_any id seed (leaf : Int) W
    rw [h0] at this
    exact this
  have HDG : Hid (∀ W : World, Calls Tryd.prog 52 #[.string dg] W fun e w' => (∃ v, e = .returned (.tuple #[v, .int .i64 0]) ∧ OwnI w' W.heap.size v (digs dg.data.toList)) ∧ Below W.heap.size W w') := Lib.hid fun W => rdig_ok dg hd16 W
  obtain ⟨D, hD⟩ : ∃ D, D = digs dg.data.toList := ⟨_, rfl⟩
  rw [← hD] at HDG ⊢
  have hDl : D.length = 35 := by rw [hD, digs_len]; show 2 * dg.size + 3 = 35; rw [hd16]
  have HDL := Lib.hid hDl
  have HDV : Hid (∀ c, D.getD c 0 ≤ 15) := Lib.hid fun c => by rw [hD]; exact digs_getD_le _ (by show dg.size ≤ 16; omega) c
  have hDne : D ≠ [] := by intro h; rw [h] at hDl; cases hDl
  have HNE := Lib.hid hDne
  clear hi hs hl h0 hD hDl hDne hd16
  go_enter Tryd.func35, Tryd.ntmps35
  go_wp2_with (first | (go_at_call 51; (with_reducible refine (HCK.out _).mono ?_); rintro e w1 ⟨rfl, hb1⟩; have HB1 := Lib.hid hb1; clear hb1) | (go_at_call 52; (with_reducible refine (HDG.out _).mono ?_); rintro e w2 ⟨⟨v, rfl, ho2⟩, hb2⟩; obtain ⟨gd, cd, rfl, hgB, hIL, hcd⟩ := ho2.open HNE.out; rw [HDL.out] at hcd ⊢; have HIL := Lib.hid hIL; have HB2 := Lib.hid (HB1.out.next hb2); clear hb2 ho2 hIL))
  go_loopw [13, 32] (fun t i wr => ∃ k : Nat, k ≤ 35 ∧ i = .int .i64 (k : Int) ∧ t = .string (rowB (fun c => valS id seed leaf c (D.getD c 0)) k) ∧ ILie wr gd D ∧ Below w.heap.size w wr) (fun _ i _ => 35 - (intOf i).toNat)
  case atStart => exact ⟨0, by decide, rfl, rfl, HIL.out, HB2.out⟩
  case round =>
    obtain ⟨k, hk, rfl, rfl, hIk, hb⟩ := hrel
    have HB := Lib.hid hb
    have HIK := Lib.hid hIk
    have hsz : (rowB (fun c => valS id seed leaf c (D.getD c 0)) k).size = k * 16 := rowB_size (fun _ => valS_size _ _ _ _ _) k
    by_cases hlt : k < 35
    · have hd : decide ((k : Int) < 35) = true := by simp; omega
      have hcell := hIk.cell k (by rw [HDL.out]; exact hlt)
      have HR : Hid (rowB (fun c => valS id seed leaf c (D.getD c 0)) (k + 1) = rowB (fun c => valS id seed leaf c (D.getD c 0)) k ++ valS id seed leaf k (D.getD k 0)) := Lib.hid rfl
      have hx15 := HDV.out k
      obtain ⟨x, hx⟩ : ∃ x, x = D.getD k 0 := ⟨_, rfl⟩
      rw [← hx] at hcell HR hx15
      have HX := Lib.hid hx
      obtain ⟨u, hu⟩ : ∃ u, u = valS id seed leaf k x := ⟨_, rfl⟩
      have husz : u.size = 16 := by rw [hu]; exact valS_size _ _ _ _ _
      obtain ⟨r, hr⟩ : ∃ r, r = rowB (fun c => valS id seed leaf c (D.getD c 0)) k := ⟨_, rfl⟩
      rw [← hu, ← hr] at HR
      rw [← hr] at hsz ⊢
      obtain ⟨sv, hsv⟩ : ∃ sv, sv = secS seed leaf k := ⟨_, rfl⟩
      have HSC : Hid (∀ W : World, Calls Tryd.prog 54 #[.string seed, .int .i64 (leaf : Int), .int .i64 (k : Int)] W fun e w' => e = .returned (.string sv) ∧ Below W.heap.size W w') := Lib.hid fun W => by
        rw [hsv]
        exact rsec_any seed leaf k (by rw [HS.out]; omega) (by have := HL.out; omega) (by omega) W
      have HWK : Hid (∀ W : World, Calls Tryd.prog 53 #[.string id, .int .i64 (leaf : Int), .int .i64 (k : Int), .int .i64 0, .int .i64 (x : Int), .string sv] W fun e w' => e = .returned (.string u) ∧ Below W.heap.size W w') := Lib.hid fun W => by
        rw [hu, hsv]
        exact rwalk_any id (secS seed leaf k) leaf k 0 x (by rw [HI.out]; omega) (by rw [secS_size]; omega) (by have := HL.out; omega) (by omega) (by omega) (by omega) W
      clear hu hr hsv hx hIk hb
      have hsum : ((r.size : Nat) : Int) + ((u.size : Nat) : Int) ≤ 9223372036854775807 := by rw [hsz, husz]; omega
      have hki : (k : Int) < 35 := by omega
      have hno : ¬ (9223372036854775807 < k * 16 + 16) := by omega
      have hcelld : wr.drew.cell? ⟨gd, k, none⟩ = some (.int .i64 ((x : Nat) : Int)) := hcell
      go_wp2_with fail
      go_region_law (first | (go_simp; go_at_call 54; (with_reducible refine (HSC.out _).mono ?_); rintro e w3 ⟨rfl, hb3⟩; have HB3 := Lib.hid (HB.out.drew.next hb3); have HI3 := Lib.hid ((show ILie wr.drew gd D from HIK.out).below hb3); have hc3 : w3.cell? ⟨gd, k, none⟩ = some (.int .i64 ((x : Nat) : Int)) := (by rw [HX.out]; exact HI3.out.cell k (by rw [HDL.out]; exact hlt)); clear hb3) | (go_simp; go_at_call 53; (with_reducible refine (HWK.out _).mono ?_); rintro e w4 ⟨rfl, hb4⟩; have HB4 := Lib.hid (HB3.out.next hb4); have HI4 := Lib.hid (HI3.out.below hb4); clear hb4))
      all_goals
        go_wp2_with fail
        go_roundw
        case rel => exact ⟨k + 1, by omega, by go_num, by rw [HR.out], HI4.out, HB4.out⟩
        case measure => simp [intOf]; omega
    · have hk35 : k = 35 := by omega
      subst hk35
      have hd : decide ((35 : Int) < 35) = false := by decide
      go_wp2_with fail
      go_ret2
      exact ⟨rfl, HB.out⟩
set_option maxRecDepth 100000 in
set_option maxHeartbeats 1000000 in
theorem rsgn_bad (id seed dg : ByteArray) (leaf : Int) (n : Nat) (hn : chkQ id seed leaf = n) (h0 : n ≠ 0) (w : World) :
    Calls Tryd.prog 35 #[.string id, .string seed, .int .i64 leaf, .string dg] w fun e w' => e = .returned (noneV n) ∧ Below w.heap.size w w' := by
  have HCK : Hid (∀ W : World, Calls Tryd.prog 51 #[.string id, .string seed, .int .i64 leaf] W fun e w' => e = .returned (.int .i64 (n : Int)) ∧ Below W.heap.size W w') := Lib.hid fun W => by
    have := rchkq_any id seed leaf W
    rw [hn] at this
    exact this
  have d1 : ((n : Int) == 0) = false := by simp; omega
  clear hn
  go_enter Tryd.func35, Tryd.ntmps35
  go_wp2_with (first | (go_at_call 51; (with_reducible refine (HCK.out _).mono ?_); rintro e w1 ⟨rfl, hb1⟩; have HB1 := Lib.hid hb1; clear hb1))
  go_ret2
  exact ⟨rfl, HB1.out⟩
set_option maxRecDepth 100000 in
set_option maxHeartbeats 1000000 in
theorem rsgn_dig (id seed dg : ByteArray) (leaf : Int) (hn : chkQ id seed leaf = 0) (h0 : dg.size ≠ 16) (w : World) :
    Calls Tryd.prog 35 #[.string id, .string seed, .int .i64 leaf, .string dg] w fun e w' => e = .returned (noneV 7) ∧ Below w.heap.size w w' := by
  have HCK : Hid (∀ W : World, Calls Tryd.prog 51 #[.string id, .string seed, .int .i64 leaf] W fun e w' => e = .returned (.int .i64 0) ∧ Below W.heap.size W w') := Lib.hid fun W => by
    have := rchkq_any id seed leaf W
    rw [hn] at this
    exact this
  have HDG : Hid (∀ W : World, Calls Tryd.prog 52 #[.string dg] W fun e w' => e = .returned (.tuple #[.slice none 0 0, .int .i64 7]) ∧ Below W.heap.size W w') := Lib.hid fun W => rdig_bad dg h0 W
  clear hn
  go_enter Tryd.func35, Tryd.ntmps35
  go_wp2_with (first | (go_at_call 51; (with_reducible refine (HCK.out _).mono ?_); rintro e w1 ⟨rfl, hb1⟩; have HB1 := Lib.hid hb1; clear hb1) | (go_at_call 52; (with_reducible refine (HDG.out _).mono ?_); rintro e w2 ⟨rfl, hb2⟩; have HB2 := Lib.hid (HB1.out.next hb2); clear hb2))
  go_ret2
  exact ⟨rfl, HB2.out⟩
theorem rsgn_any (id seed dg : ByteArray) (leaf : Int) (w : World) :
    Calls Tryd.prog 35 #[.string id, .string seed, .int .i64 leaf, .string dg] w fun e w' => e = .returned (sigV id seed leaf dg) ∧ Below w.heap.size w w' := by
  unfold sigV sigE
  by_cases h : chkQ id seed leaf = 0
  · rw [if_pos h]
    by_cases h2 : dg.size = 16
    · rw [if_pos h2, if_pos rfl]
      obtain ⟨_, _, n, rfl, _⟩ := chkQ_zero h
      exact rsgn_ok id seed dg n h h2 w
    · rw [if_neg h2, if_neg (by decide)]
      exact rsgn_dig id seed dg leaf h h2 w
  · rw [if_neg h, if_neg h]
    exact rsgn_bad id seed dg leaf _ rfl h w
end Go.Proofs.YtphgpakfdhdklaaDoor
