/-
  Keys, signatures and what a signature leads to, as rows of chains that are put one behind the other. Nothing is claimed of the program here.
  The contracts of the law package's small functions: seeds, ids and digests of the right size.
  The contract of the reference's Digits: for a digest of sixteen bytes its 35 digits, for any other string an error and nothing else.
-/
import Derived.Test.YtbmphhiafepnoaaDoorAah
namespace Go.Proofs.YtbmphhiafepnoaaDoor
open Go.RowKit

/-- The first n strings, one behind the other. -/
def rowB (f : Nat → ByteArray) : Nat → ByteArray
  | 0 => ⟨#[]⟩
  | n + 1 => rowB f n ++ f n
theorem rowB_size {f : Nat → ByteArray} (hf : ∀ c, (f c).size = 16) : ∀ n, (rowB f n).size = n * 16
  | 0 => rfl
  | n + 1 => by
    show (rowB f n ++ f n).size = (n + 1) * 16
    rw [ByteArray.size_append, rowB_size hf n, hf]
    omega
theorem rowB_list (f : Nat → ByteArray) : ∀ n, (rowB f n).data.toList = catQ ((List.range n).map f)
  | 0 => rfl
  | n + 1 => by
    show (rowB f n ++ f n).data.toList = _
    rw [str_add, rowB_list f n, List.range_succ, List.map_append]
    unfold catQ
    rw [List.flatMap_append]
    congr 1
    exact (List.append_nil _).symm
/-- The value of chain c at position d. -/
def valS (id seed : ByteArray) (leaf c d : Nat) : ByteArray := stepsF (stepS id leaf c) 0 d (secS seed leaf c)
def keySq (id : ByteArray) (leaf : Nat) (ends : ByteArray) : ByteArray := shortStr (76 :: (id.data.toList ++ b4 leaf ++ ends.data.toList))
def pubS (id seed : ByteArray) (leaf : Nat) : ByteArray := keySq id leaf (rowB (fun c => valS id seed leaf c 15) 35)
def sigS (id seed : ByteArray) (leaf : Nat) (d : List Nat) : ByteArray := rowB (fun c => valS id seed leaf c (d.getD c 0)) 35
/-- The end of chain c that a signature leads to. -/
def endS' (id : ByteArray) (leaf : Nat) (d : List Nat) (s : ByteArray) (c : Nat) : ByteArray := stepsF (stepS id leaf c) (d.getD c 0) (15 - d.getD c 0) (partQ s c)
def recS (id : ByteArray) (leaf : Nat) (d : List Nat) (s : ByteArray) : ByteArray := keySq id leaf (rowB (endS' id leaf d s) 35)
theorem valS_size (id seed : ByteArray) (leaf c d : Nat) : (valS id seed leaf c d).size = 16 := steps_size (fun p v => stepS_size id leaf c p v) d 0 _ (secS_size _ _ _)
theorem keyS_size (id : ByteArray) (leaf : Nat) (ends : ByteArray) : (keySq id leaf ends).size = 16 := shortStr_size _
theorem sigS_size (id seed : ByteArray) (leaf : Nat) (d : List Nat) : (sigS id seed leaf d).size = 560 := rowB_size (fun _ => valS_size _ _ _ _ _) 35
theorem partQ_size {s : ByteArray} (hs : s.size = 560) {c : Nat} (hc : c < 35) : (partQ s c).size = 16 := by
  unfold partQ
  rw [ByteArray.size_extract]
  omega
theorem keyS_eq (id ends : ByteArray) (leaf : Nat) : shortStr (cat_z [⟨#[76]⟩, id, strOf (b4 leaf), ends]) = keySq id leaf ends := by rw [cat_key]; rfl
theorem pubS_eq (id seed : ByteArray) (leaf : Nat) : pubS id seed leaf = pubQ hQ id.data.toList seed.data.toList leaf := by
  unfold pubS keySq
  rw [rowB_list]
  rfl
theorem recS_eq (id : ByteArray) (leaf : Nat) (d : List Nat) (s : ByteArray) : recS id leaf d s = recQ hQ id.data.toList leaf d s := by
  unfold recS keySq
  rw [rowB_list]
  rfl
theorem sigS_eq (id seed : ByteArray) (leaf : Nat) (d : List Nat) : sigS id seed leaf d = ⟨(catQ (sigQ hQ id.data.toList seed.data.toList leaf d)).toArray⟩ := by
  apply list_inj
  unfold sigS
  rw [rowB_list]
  rfl
/-- A signature leads to the public key of its leaf. -/
theorem recS_sig (id seed : ByteArray) (leaf : Nat) {d : List Nat} (hd : ∀ x ∈ d, x ≤ 15) : recS id leaf d (sigS id seed leaf d) = pubS id seed leaf := by
  rw [recS_eq, sigS_eq, pubS_eq]
  exact rec_sig shortStr_size _ _ _ hd
/-! ### What the functions return -/
def noneV (e : Nat) : Value := .tuple #[.string ⟨#[]⟩, .int .i64 ((e : Nat) : Int)]
def someV (s : ByteArray) : Value := .tuple #[.string s, .int .i64 0]
def pubV (id seed : ByteArray) (leaf : Int) : Value := if chkQ id seed leaf = 0 then someV (pubS id seed leaf.toNat) else noneV (chkQ id seed leaf)
def sigE (id seed : ByteArray) (leaf : Int) (dg : ByteArray) : Nat := if chkQ id seed leaf = 0 then (if dg.size = 16 then 0 else 7) else chkQ id seed leaf
def sigV (id seed : ByteArray) (leaf : Int) (dg : ByteArray) : Value := if sigE id seed leaf dg = 0 then someV (sigS id seed leaf.toNat (digs dg.data.toList)) else noneV (sigE id seed leaf dg)
def recE (id : ByteArray) (leaf : Int) (dg s : ByteArray) : Nat := if id.size = 16 then (if 0 ≤ leaf ∧ leaf < 256 then (if dg.size = 16 then (if s.size = 560 then 0 else 17) else 7) else 1) else 18
def recV (id : ByteArray) (leaf : Int) (dg s : ByteArray) : Value := if recE id leaf dg s = 0 then someV (recS id leaf.toNat (digs dg.data.toList) s) else noneV (recE id leaf dg s)
end Go.Proofs.YtbmphhiafepnoaaDoor
namespace Go.Proofs.YtbmphhiafepnoaaDoor
open Go.RowKit

def seedS (k : Nat) : ByteArray := shaStr (cat_z [⟨#[115, 101, 101, 100]⟩, strOf (b4 k)])
def idS (k : Nat) : ByteArray := shortStr (cat_z [⟨#[73]⟩, seedS k])
def dgS (s : ByteArray) : ByteArray := shortStr (cat_z [⟨#[68]⟩, s])
theorem seedS_size (k : Nat) : (seedS k).size = 32 := shaStr_size _
theorem idS_size (k : Nat) : (idS k).size = 16 := shortStr_size _
theorem dgS_size (s : ByteArray) : (dgS s).size = 16 := shortStr_size _
theorem cat_pairq (a b : ByteArray) : (cat_z [a, b]).length = a.size + b.size := by
  simp [cat_z]

set_option maxRecDepth 100000 in
set_option maxHeartbeats 1000000 in
theorem seedq_any (k : Nat) (hk : k < 4294967296) (w : World) :
    Calls Tryd.prog 10 #[.int .i64 (k : Int)] w fun e w' => e = .returned (.string (seedS k)) ∧ Below w.heap.size w w' := by
  have HK := Lib.hid hk
  obtain ⟨S, hS⟩ : ∃ S, S = seedS k := ⟨_, rfl⟩
  have HSM : Hid (∀ (V : Value) (W : World), Reads_z W V [⟨#[115, 101, 101, 100]⟩, strOf (b4 k)] → Calls Tryd.prog 28 #[V] W fun e w' => e = .returned (.string S) ∧ Below W.heap.size W w') := Lib.hid fun V W h => by
    rw [hS]
    exact refsum_any V _ W h (show (2 : Nat) < 4611686018427387904 by decide) (by rw [cat_pairq]; show 4 + 4 ≤ 1099511627776; omega)
  rw [← hS]
  clear hk hS
  go_enter Tryd.func10, Tryd.ntmps10
  go_wp2_with (first | (go_at_call 29; (with_reducible refine (rb4_any k HK.out _).mono ?_); rintro e w1 ⟨rfl, hb1⟩; have HB1 := Lib.hid hb1; clear hb1) | (go_at_call 28; refine (HSM.out _ _ (reads_row _ [⟨#[115, 101, 101, 100]⟩, strOf (b4 k)] 9)).mono ?_; rintro e w2 ⟨rfl, hb2⟩; have HB2 := Lib.hid ((HB1.out.alloc HB1.out.size _).next hb2); clear hb2))
  go_ret
  exact ⟨rfl, HB2.out⟩
set_option maxRecDepth 100000 in
set_option maxHeartbeats 1000000 in
theorem idq_any (k : Nat) (hk : k < 256) (w : World) :
    Calls Tryd.prog 9 #[.int .u8 (k : Int)] w fun e w' => e = .returned (.string (idS k)) ∧ Below w.heap.size w w' := by
  have HK := Lib.hid hk
  obtain ⟨S, hS⟩ : ∃ S, S = idS k := ⟨_, rfl⟩
  have HSM : Hid (∀ (V : Value) (W : World), Reads_z W V [⟨#[73]⟩, seedS k] → Calls Tryd.prog 27 #[V] W fun e w' => e = .returned (.string S) ∧ Below W.heap.size W w') := Lib.hid fun V W h => by
    rw [hS]
    exact refshort_any V _ W h (show (2 : Nat) < 4611686018427387904 by decide) (by rw [cat_pairq, seedS_size]; show 1 + 32 ≤ 1099511627776; omega)
  rw [← hS]
  clear hS
  go_enter Tryd.func9, Tryd.ntmps9
  go_wp2_with (first | (go_at_call 10; (with_reducible refine (seedq_any k (by have := HK.out; omega) _).mono ?_); rintro e w1 ⟨rfl, hb1⟩; have HB1 := Lib.hid hb1; clear hb1) | (go_at_call 27; refine (HSM.out _ _ (reads_row _ [⟨#[73]⟩, seedS k] 9)).mono ?_; rintro e w2 ⟨rfl, hb2⟩; have HB2 := Lib.hid ((HB1.out.alloc HB1.out.size _).next hb2); clear hb2))
  go_ret
  exact ⟨rfl, HB2.out⟩
set_option maxRecDepth 100000 in
set_option maxHeartbeats 1000000 in
theorem dgq_any (s : ByteArray) (hs : s.size ≤ 1000) (w : World) :
    Calls Tryd.prog 14 #[.string s] w fun e w' => e = .returned (.string (dgS s)) ∧ Below w.heap.size w w' := by
  obtain ⟨S, hS⟩ : ∃ S, S = dgS s := ⟨_, rfl⟩
  have HSM : Hid (∀ (V : Value) (W : World), Reads_z W V [⟨#[68]⟩, s] → Calls Tryd.prog 27 #[V] W fun e w' => e = .returned (.string S) ∧ Below W.heap.size W w') := Lib.hid fun V W h => by
    rw [hS]
    exact refshort_any V _ W h (show (2 : Nat) < 4611686018427387904 by decide) (by rw [cat_pairq]; show 1 + s.size ≤ 1099511627776; omega)
  rw [← hS]
  clear hS
  go_enter Tryd.func14, Tryd.ntmps14
  go_wp2_with (first | (go_at_call 27; refine (HSM.out _ _ (reads_row _ [⟨#[68]⟩, s] 9)).mono ?_; rintro e w2 ⟨rfl, hb2⟩; have HB2 := Lib.hid ((belowNew w _).next hb2); clear hb2))
  go_ret
  exact ⟨rfl, HB2.out⟩
end Go.Proofs.YtbmphhiafepnoaaDoor
namespace Go.Proofs.YtbmphhiafepnoaaDoor
open Go.RowKit

theorem own_two {w wr w2 : World} {v v' : Value} {D : List Nat} {x y : Nat} {X : Obj} (hown : OwnI wr w.heap.size v D) (hb : Below w.heap.size w wr)
    (hown2 : w2.ownsRow w.heap.size 3 1 v' (D.length + 2) (D.map icell ++ [icell x, icell y])) (hgr2 : ((wr.alloc X).drew).grownBy w2 v.ownBlock) : OwnI w2 w.heap.size v' (D ++ [x, y]) ∧ Below w.heap.size w w2 := by
  refine ⟨?_, ?_⟩
  · unfold OwnI
    rw [List.length_append, List.map_append]; exact hown2
  · exact (Below.drew (Below.alloc hb hb.size X)).grown hgr2 (by simp; have := hb.size; omega) (fun k e => (World.ownsRow.lt hown k e).1)
theorem own_three {w wr w2 : World} {v v' : Value} {D : List Nat} {x y z : Nat} {X : Obj} (hown : OwnI wr w.heap.size v D) (hb : Below w.heap.size w wr)
    (hown2 : w2.ownsRow w.heap.size 3 1 v' (D.length + 3) (D.map icell ++ [icell x, icell y, icell z])) (hgr2 : (wr.alloc X).grownBy w2 v.ownBlock) : OwnI w2 w.heap.size v' (D ++ [x, y, z]) ∧ Below w.heap.size w w2 := by
  refine ⟨?_, ?_⟩
  · unfold OwnI
    rw [List.length_append, List.map_append]; exact hown2
  · exact (Below.alloc hb hb.size X).grown hgr2 (by simp; have := hb.size; omega) (fun k e => (World.ownsRow.lt hown k e).1)

set_option maxRecDepth 100000 in
set_option maxHeartbeats 1000000 in
theorem rdig_bad (s : ByteArray) (hs : s.size ≠ 16) (w : World) :
    Calls Tryd.prog 35 #[.string s] w fun e w' => e = .returned (.tuple #[.slice none 0 0, .int .i64 7]) ∧ Below w.heap.size w w' := by
  obtain ⟨n, hn⟩ : ∃ n, n = s.size := ⟨_, rfl⟩
  have d1 : ((n : Int) == 16) = false := by simp; omega
  have hni : (s.size : Int) = (n : Int) := by rw [hn]
  clear hn
  go_enter Tryd.func35, Tryd.ntmps35
  go_wp2_with fail
  go_ret2
  exact ⟨rfl, Below.refl _ _⟩
set_option maxRecDepth 100000 in
set_option maxHeartbeats 2000000 in
theorem rdig_ok (s : ByteArray) (hs : s.size = 16) (w : World) :
    Calls Tryd.prog 35 #[.string s] w fun e w' => (∃ v, e = .returned (.tuple #[v, .int .i64 0]) ∧ OwnI w' w.heap.size v (digs s.data.toList)) ∧ Below w.heap.size w w' := by
  obtain ⟨i0, hi, hz0, hz1, hz2⟩ := info_parts intInfo
  have hni : (s.size : Int) = 16 := by rw [hs]; rfl
  have HS := Lib.hid hs
  have HSL := Lib.hid (show s.data.toList.length = 16 from hs)
  clear hs
  go_enter Tryd.func35, Tryd.ntmps35
  go_wp2_with fail
  go_loopw [4, 5, 6] (fun o t i wr => ∃ k : Nat, k ≤ 16 ∧ i = .int .i64 (k : Int) ∧ t = .int .i64 ((lack (halves (s.data.toList.take k)) : Nat) : Int) ∧ OwnI wr w.heap.size o (halves (s.data.toList.take k)) ∧ Below w.heap.size w wr) (fun _ _ i _ => 16 - (intOf i).toNat)
  case atStart => exact ⟨0, by decide, rfl, rfl, World.ownsRow_nil _ _ _ _, Below.refl _ _⟩
  case round =>
    obtain ⟨k, hk, rfl, rfl, ho, hb⟩ := hrel
    have HO := Lib.hid ho
    have HB := Lib.hid hb
    clear ho hb
    obtain ⟨D, hD⟩ : ∃ D, D = halves (s.data.toList.take k) := ⟨_, rfl⟩
    rw [← hD] at HO ⊢
    have HD := Lib.hid hD
    have hlen : D.length = 2 * k := by rw [hD, halves_len, List.length_take, HSL.out]; omega
    have hlk : lack D ≤ 30 * k := by
      have := lack_half_le (s.data.toList.take k)
      rw [← hD, List.length_take, HSL.out] at this
      omega
    clear hD
    by_cases hlt : k < 16
    · have hd : decide ((k : Int) < 16) = true := by simp; omega
      have hks : k < s.size := by rw [HS.out]; exact hlt
      obtain ⟨b, hbv⟩ : ∃ b, b = u8at s k := ⟨_, rfl⟩
      have hb256 : b < 256 := by rw [hbv]; exact u8at_lt s k
      obtain ⟨x, hx⟩ : ∃ x, x = u8at s k / 16 := ⟨_, rfl⟩
      obtain ⟨y, hy⟩ : ∃ y, y = u8at s k % 16 := ⟨_, rfl⟩
      have hq : ((u8at s k : Nat) : Int) / 16 = (x : Int) := by rw [hx]; rfl
      have hr : ((u8at s k : Nat) : Int) % 16 = (y : Int) := by rw [hy]; rfl
      have hx15 : x ≤ 15 := by omega
      have hy15 : y ≤ 15 := by omega
      have HX := Lib.hid hx
      have HY := Lib.hid hy
      clear hx hy
      have hix : ∀ w, (Instr.index 9 (.string s) (.int .i64 (k : Int))).run Tryd.prog w = .ok (.int .u8 ((b : Nat) : Int)) w := fun w => by rw [hbv]; exact run_index_u8 Tryd.underlying9 s k hks (k : Int) rfl w
      go_wp2_with fail
      obtain ⟨cb, hcb, hcv⟩ := u8at_list s k hks
      have HT : Hid (halves (s.data.toList.take (k + 1)) = D ++ [x, y]) := Lib.hid (by rw [take_snoc hcb, halves_snoc, ← HD.out, HX.out, HY.out, hcv])
      have HLK : Hid (lack (halves (s.data.toList.take (k + 1))) = lack D + (30 - x - y)) := Lib.hid (by rw [take_snoc hcb, lack_snoc, ← HD.out, HX.out, HY.out, hcv])
      clear hcb hcv
      go_region
      go_wp2_with (at_builtin; (refine wpList_append_own _ rfl (.tmp 28) (.tmp 31) 34 rfl w.heap.size 3 i0 (.int .i64 0) 1 8 Tryd.underlying34 hi hz0 hz1 hz2 rfl (by decide) _ _ _ rfl ((HO.out.alloc _).drew) ⟨wr.heap.size, 0, none⟩ 2 2 [icell x, icell y] rfl rfl (news_row wr #[icell x, icell y] 3) (icells_one [x, y]) (by rw [hlen]; unfold maxLen; omega) (by rw [hlen]; omega) (by have := HB.out.size; simp; omega) ?_); intro v' w2 hown2 hgr2 _; have HO2 := Lib.hid (own_two HO.out HB.out hown2 hgr2).1; have HB2 := Lib.hid (own_two HO.out HB.out hown2 hgr2).2; clear hown2 hgr2)
      go_roundw
      case rel =>
        refine ⟨k + 1, by omega, by go_num, ?_, by rw [HT.out]; exact HO2.out, HB2.out⟩
        rw [HLK.out]
        congr 1
        omega
      case measure => simp [intOf]; omega
    · have hk16 : k = 16 := by omega
      subst hk16
      have hd : decide ((16 : Int) < 16) = false := by decide
      obtain ⟨p, hp⟩ : ∃ p, p = lack D / 256 := ⟨_, rfl⟩
      obtain ⟨q, hq⟩ : ∃ q, q = lack D / 16 % 16 := ⟨_, rfl⟩
      obtain ⟨r, hr⟩ : ∃ r, r = lack D % 16 := ⟨_, rfl⟩
      have hpi : ((lack D : Nat) : Int) / 256 = (p : Int) := by rw [hp]; rfl
      have hqi : ((lack D : Nat) : Int) / 16 % 16 = (q : Int) := by rw [hq]; rfl
      have hri : ((lack D : Nat) : Int) % 16 = (r : Int) := by rw [hr]; rfl
      have HT : Hid (digs s.data.toList = D ++ [p, q, r]) := Lib.hid (by
        have := HD.out
        rw [List.take_of_length_le (by rw [HSL.out]; exact Nat.le_refl _)] at this
        unfold digs sumD
        rw [← this, hp, hq, hr])
      clear hp hq hr
      go_wp2_with (at_builtin; (refine wpList_append_own _ rfl (.tmp 39) (.tmp 47) 34 rfl w.heap.size 3 i0 (.int .i64 0) 1 8 Tryd.underlying34 hi hz0 hz1 hz2 rfl (by decide) _ _ _ rfl (HO.out.alloc _) ⟨wr.heap.size, 0, none⟩ 3 3 [icell p, icell q, icell r] rfl rfl (news_row wr #[icell p, icell q, icell r] 3) (icells_one [p, q, r]) (by rw [hlen]; unfold maxLen; omega) (by rw [hlen]; omega) (by have := HB.out.size; simp; omega) ?_); intro v' w2 hown2 hgr2 _; have HO2 := Lib.hid (own_three HO.out HB.out hown2 hgr2).1; have HB2 := Lib.hid (own_three HO.out HB.out hown2 hgr2).2; clear hown2 hgr2)
      go_ret2
      exact ⟨⟨_, rfl, by rw [HT.out]; exact HO2.out⟩, HB2.out⟩
end Go.Proofs.YtbmphhiafepnoaaDoor
