/-
  All contracts of package host at one place.
  The contracts of gname's isName, isBase, hasParts and Check: the first error of a general name.
  The contract of certpathmade's ShortName: what it says is short has few and short parts.
  General names in memory, and the contract of the generator's ShortNames.
  The contract of the laws' spelled: a name in another spelling, which matches the one handed in; of the memory that was there only the deck's block has changed.
-/
import Derived.Test.YtbpdenfiifcfcaaGreatDoorMbb
import Derived.Test.YtbpdenfiifcfcaaGreatDoorMaw
import Derived.Test.YtbpdenfiifcfcaaGreatDoorMai
import Derived.Test.YtbpdenfiifcfcaaGreatDoorMav
import Derived.Test.YtbpdenfiifcfcaaGreatDoorMak
import Derived.Test.YtbpdenfiifcfcaaGreatDoorMao
import Derived.Test.YtbpdenfiifcfcaaGreatDoorMac
import Derived.Laws.AppendOwnNone

namespace Go.Proofs.YtbpdenfiifcfcaaGreatDoor
open Go.RowKit

set_option maxRecDepth 100000 in
set_option maxHeartbeats 2000000 in
theorem pisname_any (k : Int) (t : List UInt8) (ht : t.length ≤ 150000) (w : World) (hm : Mx w) :
    Calls Tryz.prog 108 #[.int .i64 ((kdOf k : Nat) : Int), .string (strOf t)] w fun e w' => e = .returned (.bool (okT k false t)) ∧ Below w.heap.size w w' := by
  rcases kind_or k with rfl | rfl | rfl | rfl | hk
  · have HC := Lib.hid (pmail_any t ht w hm)
    rw [show ((kdOf 1 : Nat) : Int) = 0 from rfl, show okT 1 false t = mailB t from rfl]
    clear hm
    go_enter Tryz.func108, Tryz.ntmps108
    go_wp2_with (go_at_call 130; (with_reducible refine HC.out.mono ?_); rintro e w1 ⟨rfl, hb1⟩; have HB1 := Lib.hid hb1; clear hb1)
    go_ret
    exact ⟨rfl, HB1.out⟩
  · have HC := Lib.hid (ppat_any t ht w)
    rw [show ((kdOf 2 : Nat) : Int) = 1 from rfl, show okT 2 false t = patB t from rfl]
    clear hm
    go_enter Tryz.func108, Tryz.ntmps108
    go_wp2_with (go_at_call 131; (with_reducible refine HC.out.mono ?_); rintro e w1 ⟨rfl, hb1⟩; have HB1 := Lib.hid hb1; clear hb1)
    go_ret
    exact ⟨rfl, HB1.out⟩
  · rw [show ((kdOf 4 : Nat) : Int) = 2 from rfl, show okT 4 false t = false from rfl]
    clear hm
    go_enter Tryz.func108, Tryz.ntmps108
    go_wp2_with fail
    go_ret
    exact ⟨rfl, Below.refl _ _⟩
  · have HC := Lib.hid (paddr_any t ht w)
    rw [show ((kdOf 7 : Nat) : Int) = 3 from rfl, show okT 7 false t = addrB t from rfl]
    clear hm
    go_enter Tryz.func108, Tryz.ntmps108
    go_wp2_with (go_at_call 132; (with_reducible refine HC.out.mono ?_); rintro e w1 ⟨rfl, hb1⟩; have HB1 := Lib.hid hb1; clear hb1)
    go_ret
    exact ⟨rfl, HB1.out⟩
  · rw [kdOf_no hk, okT_no hk]
    rw [show (((4 : Nat)) : Int) = 4 from rfl]
    clear hm hk
    go_enter Tryz.func108, Tryz.ntmps108
    go_wp2_with fail
    go_ret
    exact ⟨rfl, Below.refl _ _⟩
set_option maxRecDepth 100000 in
set_option maxHeartbeats 2000000 in
theorem pisbase_any (k : Int) (t : List UInt8) (ht : t.length ≤ 150000) (w : World) (hm : Mx w) :
    Calls Tryz.prog 107 #[.int .i64 ((kdOf k : Nat) : Int), .string (strOf t)] w fun e w' => e = .returned (.bool (okT k true t)) ∧ Below w.heap.size w w' := by
  rcases kind_or k with rfl | rfl | rfl | rfl | hk
  · have HC := Lib.hid (pmb_any t ht w hm)
    rw [show ((kdOf 1 : Nat) : Int) = 0 from rfl, show okT 1 true t = mailBaseB t from rfl]
    clear hm
    go_enter Tryz.func107, Tryz.ntmps107
    go_wp2_with (go_at_call 127; (with_reducible refine HC.out.mono ?_); rintro e w1 ⟨rfl, hb1⟩; have HB1 := Lib.hid hb1; clear hb1)
    go_ret
    exact ⟨rfl, HB1.out⟩
  · have HC := Lib.hid (pbase_any t ht w)
    rw [show ((kdOf 2 : Nat) : Int) = 1 from rfl, show okT 2 true t = baseB t from rfl]
    clear hm
    go_enter Tryz.func107, Tryz.ntmps107
    go_wp2_with (go_at_call 128; (with_reducible refine HC.out.mono ?_); rintro e w1 ⟨rfl, hb1⟩; have HB1 := Lib.hid hb1; clear hb1)
    go_ret
    exact ⟨rfl, HB1.out⟩
  · rw [show ((kdOf 4 : Nat) : Int) = 2 from rfl, show okT 4 true t = false from rfl]
    clear hm
    go_enter Tryz.func107, Tryz.ntmps107
    go_wp2_with fail
    go_ret
    exact ⟨rfl, Below.refl _ _⟩
  · have HC := Lib.hid (prange_any t ht w)
    rw [show ((kdOf 7 : Nat) : Int) = 3 from rfl, show okT 7 true t = rangeB t from rfl]
    clear hm
    go_enter Tryz.func107, Tryz.ntmps107
    go_wp2_with (go_at_call 129; (with_reducible refine HC.out.mono ?_); rintro e w1 ⟨rfl, hb1⟩; have HB1 := Lib.hid hb1; clear hb1)
    go_ret
    exact ⟨rfl, HB1.out⟩
  · rw [kdOf_no hk, okT_no hk]
    rw [show (((4 : Nat)) : Int) = 4 from rfl]
    clear hm hk
    go_enter Tryz.func107, Tryz.ntmps107
    go_wp2_with fail
    go_ret
    exact ⟨rfl, Below.refl _ _⟩
/-- Has a general name what its kind needs, and nothing else? -/
noncomputable def partsG (con : Bool) (k : Int) (t : List UInt8) (n : Nm) : Bool := if k = 4 then decide (t = []) else (decide (n = []) && okT k con t)
theorem chkN_nil : chkN [] = 0 := rfl
theorem chkG_parts (con : Bool) (k : Int) (t : List UInt8) (n : Nm) : chkG con k t n = if partsG con k t n = true then chkN n else 14 := by
  by_cases h4 : k = 4
  · subst h4
    rw [chkG_dir]
    unfold partsG
    rw [if_pos rfl]
    by_cases h0 : t = []
    · rw [if_pos h0, if_pos (decide_eq_true h0)]
    · rw [if_neg h0, if_neg (by rw [decide_eq_false h0]; decide)]
  · rw [chkG_not h4]
    unfold partsG
    rw [if_neg h4]
    by_cases hn : n = []
    · subst hn
      rw [chkN_nil, decide_eq_true (rfl : ([] : Nm) = []), Bool.true_and]
      by_cases ho : okT k con t = true
      · rw [if_pos ⟨ho, rfl⟩, if_pos ho]
      · rw [if_neg (fun q => ho q.1), if_neg ho]
    · rw [if_neg (fun q => hn q.2), decide_eq_false hn, Bool.false_and, if_neg (by decide)]
theorem kdOf_not4 {k : Int} (h : k ≠ 4) : (((kdOf k : Nat) : Int) == 2) = false := by
  rcases kind_or k with rfl | rfl | rfl | rfl | hk
  · rfl
  · rfl
  · exact absurd rfl h
  · rfl
  · rw [kdOf_no hk]; rfl
set_option maxRecDepth 100000 in
set_option maxHeartbeats 4000000 in
theorem parts_core (a0 : Option Addr) (c m : Nat) (k : Int) (t : List UInt8) (n : Nm) (con : Bool) (w : World) (hn : m = n.length) (ht : t.length ≤ 150000) (hmk : Mk w) :
    Calls Tryz.prog 84 #[.agg #[.int .i64 k, .string (strOf t), .slice a0 m c], .bool con] w fun e w' => e = .returned (.bool (partsG con k t n)) ∧ Below w.heap.size w w' := by
  obtain ⟨W0, hW0⟩ : ∃ W0, W0 = w.alloc (.cells #[.int .i64 k, .string (strOf t), .slice a0 m c] 29) := ⟨_, rfl⟩
  have hwr : w.alloc (.cells #[.int .i64 k, .string (strOf t), .slice a0 m c] 29) = W0 := hW0.symm
  have hb0 : Below w.heap.size w W0 := by rw [hW0]; exact belowNew w _
  have hq0 : W0.heap[w.heap.size]? = some (.cells #[.int .i64 k, .string (strOf t), .slice a0 m c] 29 (0, 0)) := by rw [hW0]; exact heap_alloc_new w _
  obtain ⟨c0, c1, c2, l0⟩ := three_facts hq0
  have HB0 := Lib.hid hb0
  have HK := Lib.hid (gkind_any k (strOf t) a0 m c W0 (hmk.below hb0).2)
  have HI1 := Lib.hid (fun W (hb : Below w.heap.size w W) => pisname_any k t ht W (hmk.below hb).1)
  have HI2 := Lib.hid (fun W (hb : Below w.heap.size w W) => pisbase_any k t ht W (hmk.below hb).1)
  have hnil := nil_iff hn
  obtain ⟨E, hE⟩ : ∃ E, E = partsG con k t n := ⟨_, rfl⟩
  rw [← hE]
  clear hmk ht hn hW0 hb0 hq0
  by_cases h4 : k = 4
  · subst h4
    rw [show ((kdOf 4 : Nat) : Int) = 2 from rfl] at HK
    by_cases h0 : t = []
    · have HX := Lib.hid (show E = true by rw [hE]; unfold partsG; rw [if_pos rfl, decide_eq_true h0])
      obtain ⟨f1, f2⟩ := empty_is h0
      clear h0 hE hnil
      go_enter Tryz.func84, Tryz.ntmps84
      go_wp2_with (go_at_call 100; (with_reducible refine HK.out.mono ?_); rintro e w1 ⟨rfl, hb1⟩; have HB1 := Lib.hid (below_next HB0.out hb1); have d1 := (hb1.cell (p := ⟨w.heap.size, 1, none⟩) l0).trans c1; have d2 := (hb1.cell (p := ⟨w.heap.size, 2, none⟩) l0).trans c2; clear hb1)
      go_ret
      exact ⟨by rw [HX.out]; rfl, HB1.out⟩
    · have HX := Lib.hid (show E = false by rw [hE]; unfold partsG; rw [if_pos rfl, decide_eq_false h0])
      obtain ⟨f1, f2⟩ := empty_not h0
      clear h0 hE hnil
      go_enter Tryz.func84, Tryz.ntmps84
      go_wp2_with (go_at_call 100; (with_reducible refine HK.out.mono ?_); rintro e w1 ⟨rfl, hb1⟩; have HB1 := Lib.hid (below_next HB0.out hb1); have d1 := (hb1.cell (p := ⟨w.heap.size, 1, none⟩) l0).trans c1; have d2 := (hb1.cell (p := ⟨w.heap.size, 2, none⟩) l0).trans c2; clear hb1)
      go_ret
      exact ⟨by rw [HX.out]; rfl, HB1.out⟩
  · have hz2 := kdOf_not4 h4
    by_cases hm : m = 0
    · have hd : decide ((0 : Int) < (m : Int)) = false := decide_eq_false (by omega)
      have hd2 : decide (0 < m) = false := decide_eq_false (by omega)
      have HX := Lib.hid (show E = okT k con t by rw [hE]; unfold partsG; rw [if_neg h4, decide_eq_true (hnil.2 hm), Bool.true_and])
      clear hm h4 hE hnil
      rw [HX.out]
      generalize ((kdOf k : Nat) : Int) = z at HK HI1 HI2 hz2
      cases con
      · skip
        go_enter Tryz.func84, Tryz.ntmps84
        go_wp2_with (first
          | (go_at_call 100; (with_reducible refine HK.out.mono ?_); rintro e w1 ⟨rfl, hb1⟩; have HB1 := Lib.hid (below_next HB0.out hb1); have d1 := (hb1.cell (p := ⟨w.heap.size, 1, none⟩) l0).trans c1; have d2 := (hb1.cell (p := ⟨w.heap.size, 2, none⟩) l0).trans c2; clear hb1)
          | (go_at_call 108; (with_reducible refine (HI1.out _ HB1.out).mono ?_); rintro e w2 ⟨rfl, hb2⟩; have HB2 := Lib.hid (below_next HB1.out hb2); clear hb2))
        go_ret
        exact ⟨rfl, HB2.out⟩
      · skip
        go_enter Tryz.func84, Tryz.ntmps84
        go_wp2_with (first
          | (go_at_call 100; (with_reducible refine HK.out.mono ?_); rintro e w1 ⟨rfl, hb1⟩; have HB1 := Lib.hid (below_next HB0.out hb1); have d1 := (hb1.cell (p := ⟨w.heap.size, 1, none⟩) l0).trans c1; have d2 := (hb1.cell (p := ⟨w.heap.size, 2, none⟩) l0).trans c2; clear hb1)
          | (go_at_call 107; (with_reducible refine (HI2.out _ HB1.out).mono ?_); rintro e w2 ⟨rfl, hb2⟩; have HB2 := Lib.hid (below_next HB1.out hb2); clear hb2))
        go_ret
        exact ⟨rfl, HB2.out⟩
    · have hd : decide ((0 : Int) < (m : Int)) = true := decide_eq_true (by omega)
      have hd2 : decide (0 < m) = true := decide_eq_true (by omega)
      have HX := Lib.hid (show E = false by rw [hE]; unfold partsG; rw [if_neg h4, decide_eq_false (fun q => hm (hnil.1 q)), Bool.false_and])
      clear hm h4 hE hnil
      generalize ((kdOf k : Nat) : Int) = z at HK HI1 HI2 hz2
      go_enter Tryz.func84, Tryz.ntmps84
      go_wp2_with (go_at_call 100; (with_reducible refine HK.out.mono ?_); rintro e w1 ⟨rfl, hb1⟩; have HB1 := Lib.hid (below_next HB0.out hb1); have d1 := (hb1.cell (p := ⟨w.heap.size, 1, none⟩) l0).trans c1; have d2 := (hb1.cell (p := ⟨w.heap.size, 2, none⟩) l0).trans c2; clear hb1)
      go_ret
      exact ⟨by rw [HX.out]; rfl, HB1.out⟩
set_option maxRecDepth 100000 in
set_option maxHeartbeats 4000000 in
theorem gchk_core (a0 : Option Addr) (c m : Nat) (k : Int) (t : List UInt8) (n : Nm) (con : Bool) (w : World) (h : RLies w a0 n) (hn : m = n.length) (ht : t.length ≤ 150000) (hs : SmallN n) (hT : Tab w) (hmk : Mk w) :
    Calls Tryz.prog 55 #[.agg #[.int .i64 k, .string (strOf t), .slice a0 m c], .bool con] w fun e w' => e = .returned (.int .i64 ((chkG con k t n : Nat) : Int)) ∧ Below w.heap.size w w' := by
  obtain ⟨W0, hW0⟩ : ∃ W0, W0 = w.alloc (.cells #[.int .i64 k, .string (strOf t), .slice a0 m c] 29) := ⟨_, rfl⟩
  have hwr : w.alloc (.cells #[.int .i64 k, .string (strOf t), .slice a0 m c] 29) = W0 := hW0.symm
  have hb0 : Below w.heap.size w W0 := by rw [hW0]; exact belowNew w _
  have hq0 : W0.heap[w.heap.size]? = some (.cells #[.int .i64 k, .string (strOf t), .slice a0 m c] 29 (0, 0)) := by rw [hW0]; exact heap_alloc_new w _
  obtain ⟨c0, c1, c2, l0⟩ := three_facts hq0
  have HB0 := Lib.hid hb0
  have HP := Lib.hid (parts_core a0 c m k t n con W0 hn ht (hmk.below hb0))
  have HC := Lib.hid (fun W (hb : Below w.heap.size w W) => chk_core a0 c m n W (h.below hb) hn hs (hT.below hb))
  have hE := chkG_parts con k t n
  generalize chkG con k t n = E at hE ⊢
  clear hmk ht hn hW0 hb0 hq0 h hs hT
  cases hp : partsG con k t n with
  | true =>
    rw [hp] at HP
    rw [hp, if_pos rfl] at hE
    subst hE
    clear hp
    go_enter Tryz.func55, Tryz.ntmps55
    go_wp2_with (first
      | (go_at_call 84; (with_reducible refine HP.out.mono ?_); rintro e w1 ⟨rfl, hb1⟩; have HB1 := Lib.hid (below_next HB0.out hb1); have d1 := (hb1.cell (p := ⟨w.heap.size, 1, none⟩) l0).trans c1; have d2 := (hb1.cell (p := ⟨w.heap.size, 2, none⟩) l0).trans c2; clear hb1)
      | (go_at_call 85; (with_reducible refine (HC.out _ HB1.out).mono ?_); rintro e w2 ⟨rfl, hb2⟩; have HB2 := Lib.hid (below_next HB1.out hb2); clear hb2))
    go_ret
    exact ⟨rfl, HB2.out⟩
  | false =>
    rw [hp] at HP
    rw [hp, if_neg (by decide)] at hE
    subst hE
    clear hp
    go_enter Tryz.func55, Tryz.ntmps55
    go_wp2_with (go_at_call 84; (with_reducible refine HP.out.mono ?_); rintro e w1 ⟨rfl, hb1⟩; have HB1 := Lib.hid (below_next HB0.out hb1); clear hb1)
    go_ret
    exact ⟨rfl, HB1.out⟩
end Go.Proofs.YtbpdenfiifcfcaaGreatDoor
namespace Go.Proofs.YtbpdenfiifcfcaaGreatDoor
open Go.RowKit

/-- A name of at most twelve relative names of at most eight attributes, each of at most 200 bytes. -/
def ShR (r : List At) : Prop := r.length ≤ 8 ∧ ∀ i, i < r.length → (r.getD i noAt).1.size ≤ 200 ∧ (r.getD i noAt).2.2.size ≤ 200
def ShN (n : Nm) : Prop := n.length ≤ 12 ∧ ∀ i, i < n.length → ShR (n.getD i [])
/-- What ShortName answers. -/
def Shorted (n : Nm) (e : Ending) : Prop := (e = .returned (.bool true) ∧ ShN n) ∨ e = .returned (.bool false)
theorem ShN.small {n : Nm} (h : ShN n) : SmallN n :=
  ⟨Nat.le_trans h.1 (by omega), fun i hi => ⟨Nat.le_trans (h.2 i hi).1 (by omega), fun j hj => ⟨Nat.le_trans ((h.2 i hi).2 j hj).1 (by omega), Nat.le_trans ((h.2 i hi).2 j hj).2 (by omega)⟩⟩⟩

set_option maxRecDepth 100000 in
set_option maxHeartbeats 4000000 in
theorem short_core (a0 : Option Addr) (c m : Nat) (n : Nm) (w : World) (h : RLies w a0 n) (hn : m = n.length) (hm : m ≤ 9223372036854775807) (hq : ∀ i, i < n.length → (n.getD i []).length ≤ 9223372036854775807 ∧ ∀ j, j < (n.getD i []).length → ((n.getD i []).getD j noAt).1.size ≤ 9223372036854775807 ∧ ((n.getD i []).getD j noAt).2.2.size ≤ 9223372036854775807) :
    Calls Tryz.prog 24 #[.agg #[.slice a0 m c]] w fun e w' => Shorted n e ∧ Below w.heap.size w w' := by
  by_cases h12 : 12 < m
  · have hd : decide ((12 : Int) < (m : Int)) = true := by simp; omega
    clear h hn hm hq h12
    go_enter Tryz.func24, Tryz.ntmps24
    go_wp2_with fail
    go_ret
    exact ⟨.inr rfl, belowNew w _⟩
  have hd : decide ((12 : Int) < (m : Int)) = false := by simp; omega
  have H1 := Lib.hid (h.below (belowNew w (.cells #[.slice a0 m c] 27)))
  have HN := Lib.hid hn
  have HQ := Lib.hid hq
  have hm12 : m ≤ 12 := by omega
  clear h hn hm hq h12
  go_enter Tryz.func24, Tryz.ntmps24
  go_wp2_with fail
  clear hd
  obtain ⟨W, hW⟩ : ∃ W, W = w.alloc (.cells #[.slice a0 m c] 27) := ⟨_, rfl⟩
  have HBW := Lib.hid (show Below w.heap.size w W by rw [hW]; exact belowNew w _)
  rw [← hW] at H1 ⊢
  clear hW
  go_loopw [14] (fun i wr => ∃ k : Nat, k ≤ m ∧ i = .int .i64 k ∧ (∀ j, j < k → ShR (n.getD j [])) ∧ Below W.heap.size W wr) (fun i _ => m - (intOf i).toNat)
  case atStart => exact ⟨0, Nat.zero_le _, rfl, fun j hj => absurd hj (Nat.not_lt_zero _), Below.refl _ _⟩
  case round =>
    obtain ⟨k, hk, rfl, hA, hb⟩ := hrel
    have HB := Lib.hid hb
    have HA := Lib.hid hA
    clear hb hA
    by_cases hlt : k < m
    · have hd : decide ((k : Int) < (m : Int)) = true := by simp; omega
      obtain ⟨b, o, rfl, hb, a1, c1, e1, hc1, hL1⟩ := H1.out.at k (by rw [← HN.out]; exact hlt)
      have f1 : wr.cell? ⟨b, o + k, none⟩ = _ := (HB.out.cell (p := ⟨b, o + k, none⟩) hb).trans e1
      obtain ⟨hq1, hq2⟩ := HQ.out k (by rw [← HN.out]; exact hlt)
      obtain ⟨r, hr⟩ : ∃ r, r = n.getD k [] := ⟨_, rfl⟩
      rw [← hr] at f1 hq1 hq2 hL1 hc1
      have HR := Lib.hid hr
      obtain ⟨q, hq⟩ : ∃ q, q = r.length := ⟨_, rfl⟩
      rw [← hq] at f1 hq1 hc1
      have HL1 := Lib.hid (hL1.below HB.out)
      have HQ2 := Lib.hid hq2
      have HQQ := Lib.hid hq
      clear e1 hb hL1 hq2 hr hq
      by_cases h8 : 8 < q
      · have hd8 : decide ((8 : Int) < (q : Int)) = true := by simp; omega
        go_wp2_with fail
        go_ret
        exact ⟨.inr rfl, below_next HBW.out HB.out⟩
      have hd8 : decide ((8 : Int) < (q : Int)) = false := by simp; omega
      have hq8 : q ≤ 8 := by omega
      clear h8 hq1
      go_wp2_with fail
      clear hd hd8 f1 hc1
      go_loopw [23] (fun i ws => ∃ k2 : Nat, k2 ≤ q ∧ i = .int .i64 k2 ∧ (∀ j, j < k2 → (r.getD j noAt).1.size ≤ 200 ∧ (r.getD j noAt).2.2.size ≤ 200) ∧ Below wr.heap.size wr ws) (fun i _ => q - (intOf i).toNat)
      case atStart => exact ⟨0, Nat.zero_le _, rfl, fun j hj => absurd hj (Nat.not_lt_zero _), Below.refl _ _⟩
      case round =>
        obtain ⟨k2, hk2, rfl, hA2, hb2⟩ := hrel
        have HB2 := Lib.hid hb2
        have HA2 := Lib.hid hA2
        clear hb2 hA2
        by_cases hlt2 : k2 < q
        · have hd2 : decide ((k2 : Int) < (q : Int)) = true := by simp; omega
          obtain ⟨g, p, rfl, hg, c0, c1', c2⟩ := HL1.out.at k2 (by rw [← HQQ.out]; exact hlt2)
          have d0 : wr.cell? ⟨g, p + k2 * 3, none⟩ = _ := (HB2.out.cell (p := ⟨g, p + k2 * 3, none⟩) hg).trans c0
          have d1 : wr.cell? ⟨g, p + k2 * 3 + 1, none⟩ = _ := (HB2.out.cell (p := ⟨g, p + k2 * 3 + 1, none⟩) hg).trans c1'
          have d2 : wr.cell? ⟨g, p + k2 * 3 + 2, none⟩ = _ := (HB2.out.cell (p := ⟨g, p + k2 * 3 + 2, none⟩) hg).trans c2
          have hz := HQ2.out k2 (by rw [← HQQ.out]; exact hlt2)
          have HX := Lib.hid (show ∀ t v : ByteArray, ∀ kd : Int, r.getD k2 noAt = (t, kd, v) → t.size ≤ 200 → v.size ≤ 200 → ∀ j, j < k2 + 1 → (r.getD j noAt).1.size ≤ 200 ∧ (r.getD j noAt).2.2.size ≤ 200 from fun t v kd e h1 h2 j hj => by
            by_cases ej : j = k2
            · rw [ej, e]; exact ⟨h1, h2⟩
            · exact HA2.out j (by omega))
          obtain ⟨⟨t, kd, v⟩, hy⟩ : ∃ y, y = r.getD k2 noAt := ⟨_, rfl⟩
          rw [← hy] at d0 d1 d2 hz
          have HY := Lib.hid hy
          have hz1 := hz.1
          have hz2 := hz.2
          simp only at hz1 hz2
          have HBX := Lib.hid (below_next HB2.out (belowNew wr (.cells #[.string t, .int .i64 kd, .string v] 86)))
          clear c0 c1' c2 hg hz hy
          by_cases ht : 200 < t.size
          · have dt : decide ((200 : Int) < (t.size : Int)) = true := by simp; omega
            go_wp2_with fail
            go_ret
            exact ⟨.inr rfl, below_next HBW.out (below_next HB.out HBX.out)⟩
          have dt : decide ((200 : Int) < (t.size : Int)) = false := by simp; omega
          by_cases hv : 200 < v.size
          · have dv : decide ((200 : Int) < (v.size : Int)) = true := by simp; omega
            go_wp2_with fail
            go_ret
            exact ⟨.inr rfl, below_next HBW.out (below_next HB.out HBX.out)⟩
          have dv : decide ((200 : Int) < (v.size : Int)) = false := by simp; omega
          have HF := Lib.hid (HX.out t v kd HY.out.symm (by omega) (by omega))
          go_wp2_with fail
          go_roundw
          case rel => exact ⟨k2 + 1, by omega, by go_num, HF.out, HBX.out⟩
          case measure => simp [intOf]; omega
        · have hd2 : decide ((k2 : Int) < (q : Int)) = false := by simp; omega
          have HF := Lib.hid (show ∀ j, j < k + 1 → ShR (n.getD j []) from fun j hj => by
            by_cases ej : j = k
            · rw [ej, ← HR.out]
              exact ⟨by rw [← HQQ.out]; exact hq8, fun i hi => HA2.out i (by rw [← HQQ.out] at hi; omega)⟩
            · exact HA.out j (by omega))
          go_wp2_with fail
          go_roundw
          case rel => exact ⟨k + 1, by omega, by go_num, HF.out, below_next HB.out HB2.out⟩
          case measure => simp [intOf]; omega
    · have hd : decide ((k : Int) < (m : Int)) = false := by simp; omega
      have HF := Lib.hid (show ShN n from ⟨by rw [← HN.out]; exact hm12, fun j hj => HA.out j (by rw [← HN.out] at hj; omega)⟩)
      go_wp2_with fail
      go_ret
      exact ⟨.inl ⟨rfl, HF.out⟩, below_next HBW.out HB.out⟩
end Go.Proofs.YtbpdenfiifcfcaaGreatDoor
namespace Go.Proofs.YtbpdenfiifcfcaaGreatDoor
open Go.RowKit

abbrev Gn := Int × List UInt8 × Nm
def noG : Gn := (0, [], [])
/-- At the address lie the general names l. -/
def GLies (w : World) (a : Option Addr) (l : List Gn) : Prop :=
  l = [] ∨ ∃ b o, a = some ⟨b, o, none⟩ ∧ ∀ i, i < l.length → w.cell? ⟨b, o + i * 3, none⟩ = some (.int .i64 (l.getD i noG).1) ∧ w.cell? ⟨b, o + i * 3 + 1, none⟩ = some (.string (strOf (l.getD i noG).2.1)) ∧
    ∃ a' c', w.cell? ⟨b, o + i * 3 + 2, none⟩ = some (.slice a' (l.getD i noG).2.2.length c') ∧ (l.getD i noG).2.2.length ≤ c' ∧ RLies w a' (l.getD i noG).2.2
theorem GLies.below {w w' : World} {a : Option Addr} {l : List Gn} (h : GLies w a l) (hb : Below w.heap.size w w') : GLies w' a l := by
  rcases h with h | ⟨b, o, h1, h2⟩
  · exact .inl h
  · refine .inr ⟨b, o, h1, fun i hi => ?_⟩
    obtain ⟨c0, c1, a', c', c2, c3, c4⟩ := h2 i hi
    exact ⟨(hb.cell (block_lt c0)).trans c0, (hb.cell (block_lt c1)).trans c1, a', c', (hb.cell (block_lt c2)).trans c2, c3, c4.below hb⟩
theorem GLies.at {w : World} {a : Option Addr} {l : List Gn} (h : GLies w a l) (k : Nat) (hk : k < l.length) : ∃ b o, a = some ⟨b, o, none⟩ ∧ b < w.heap.size ∧
    w.cell? ⟨b, o + k * 3, none⟩ = some (.int .i64 (l.getD k noG).1) ∧ w.cell? ⟨b, o + k * 3 + 1, none⟩ = some (.string (strOf (l.getD k noG).2.1)) ∧
    ∃ a' c', w.cell? ⟨b, o + k * 3 + 2, none⟩ = some (.slice a' (l.getD k noG).2.2.length c') ∧ (l.getD k noG).2.2.length ≤ c' ∧ RLies w a' (l.getD k noG).2.2 := by
  rcases h with h | ⟨b, o, h1, h2⟩
  · rw [h] at hk; exact absurd hk (Nat.not_lt_zero _)
  · obtain ⟨c0, c1, a', c', c2, c3, c4⟩ := h2 k hk
    exact ⟨b, o, h1, block_lt c0, c0, c1, a', c', c2, c3, c4⟩
/-- A row of one general name. -/
theorem glies_one {w : World} {g : Nat} {k : Int} {t : List UInt8} {n : Nm} {a : Option Addr} {c : Nat} {T : TypeId} (h : w.heap[g]? = some (.cells #[.int .i64 k, .string (strOf t), .slice a n.length c] T (0, 0))) (hc : n.length ≤ c) (hr : RLies w a n) : GLies w (some ⟨g, 0, none⟩) [(k, t, n)] := by
  obtain ⟨c0, c1, c2, _⟩ := three_facts h
  refine .inr ⟨g, 0, rfl, fun i hi => ?_⟩
  obtain rfl : i = 0 := by simp at hi; omega
  exact ⟨c0, c1, a, c, c2, hc, hr⟩
/-- What a law takes of a general name that is handed in. -/
def ShG (g : Gn) : Prop := g.2.1.length ≤ 300 ∧ ShN g.2.2
/-- A general name as it is handed in: no part is longer than any memory. -/
def BigG (g : Gn) : Prop := g.2.1.length ≤ 9223372036854775807 ∧ g.2.2.length ≤ 9223372036854775807 ∧ ∀ i, i < g.2.2.length → (g.2.2.getD i []).length ≤ 9223372036854775807 ∧ ∀ j, j < (g.2.2.getD i []).length → ((g.2.2.getD i []).getD j noAt).1.size ≤ 9223372036854775807 ∧ ((g.2.2.getD i []).getD j noAt).2.2.size ≤ 9223372036854775807
def ShortedL (l : List Gn) (e : Ending) : Prop := (e = .returned (.bool true) ∧ l.length ≤ 20 ∧ ∀ i, i < l.length → ShG (l.getD i noG)) ∨ e = .returned (.bool false)
theorem text_or (n : Nat) : 300 < n ∨ ¬ 300 < n := by omega

set_option maxRecDepth 100000 in
set_option maxHeartbeats 4000000 in
theorem shorts_any (a0 : Option Addr) (c m : Nat) (l : List Gn) (w : World) (h : GLies w a0 l) (hn : m = l.length) (hm : m ≤ 9223372036854775807) (hq : ∀ i, i < l.length → BigG (l.getD i noG)) :
    Calls Tryz.prog 7 #[.slice a0 m c] w fun e w' => ShortedL l e ∧ Below w.heap.size w w' := by
  by_cases h20 : 20 < m
  · have hd : decide ((20 : Int) < (m : Int)) = true := by simp; omega
    clear h hn hm hq h20
    go_enter Tryz.func7, Tryz.ntmps7
    go_wp2_with fail
    go_ret
    exact ⟨.inr rfl, Below.refl _ _⟩
  have hd : decide ((20 : Int) < (m : Int)) = false := by simp; omega
  have H1 := Lib.hid h
  have HN := Lib.hid hn
  have HQ := Lib.hid hq
  have hm20 : m ≤ 20 := by omega
  clear h hn hm hq h20
  go_enter Tryz.func7, Tryz.ntmps7
  go_wp2_with fail
  clear hd
  go_loopw [10] (fun i wr => ∃ k : Nat, k ≤ m ∧ i = .int .i64 k ∧ (∀ j, j < k → ShG (l.getD j noG)) ∧ Below w.heap.size w wr) (fun i _ => m - (intOf i).toNat)
  case atStart => exact ⟨0, Nat.zero_le _, rfl, fun j hj => absurd hj (Nat.not_lt_zero _), Below.refl _ _⟩
  case round =>
    obtain ⟨wz, hwz⟩ : ∃ wz, wz = wr := ⟨_, rfl⟩
    subst hwz
    obtain ⟨k, hk, rfl, hA, hb⟩ := hrel
    have HB := Lib.hid hb
    have HA := Lib.hid hA
    clear hb hA
    by_cases hlt : k < m
    · have hd : decide ((k : Int) < (m : Int)) = true := by simp; omega
      obtain ⟨b, o, rfl, hb, e0, e1, a1, c1, e2, hc1, hL1⟩ := H1.out.at k (by rw [← HN.out]; exact hlt)
      have f0 : wz.cell? ⟨b, o + k * 3, none⟩ = _ := (HB.out.cell (p := ⟨b, o + k * 3, none⟩) hb).trans e0
      have f1 : wz.cell? ⟨b, o + k * 3 + 1, none⟩ = _ := (HB.out.cell (p := ⟨b, o + k * 3 + 1, none⟩) hb).trans e1
      have f2 : wz.cell? ⟨b, o + k * 3 + 2, none⟩ = _ := (HB.out.cell (p := ⟨b, o + k * 3 + 2, none⟩) hb).trans e2
      have hbig := HQ.out k (by rw [← HN.out]; exact hlt)
      obtain ⟨G, hG⟩ : ∃ G, G = l.getD k noG := ⟨_, rfl⟩
      rw [← hG] at f0 f1 f2 hbig hL1 hc1
      have HG := Lib.hid hG
      obtain ⟨q, t, n⟩ := G
      simp only at f0 f1 f2 hL1 hc1
      obtain ⟨N, hNn⟩ : ∃ N, N = n.length := ⟨_, rfl⟩
      rw [← hNn] at f2
      obtain ⟨W2, hW2⟩ : ∃ W2, W2 = wz.alloc (.cells #[.int .i64 q, .string (strOf t), .slice a1 N c1] 29) := ⟨_, rfl⟩
      have hb2 : Below wz.heap.size wz W2 := by rw [hW2]; exact belowNew wz _
      obtain ⟨g0, g1, g2, _⟩ := three_facts (w := W2) (g := wz.heap.size) (by rw [hW2]; exact heap_alloc_new wz _)
      have HB2 := Lib.hid (below_next HB.out hb2)
      have HSH := Lib.hid (short_core a1 c1 N n W2 ((hL1.below HB.out).below hb2) hNn (by rw [hNn]; exact hbig.2.1) hbig.2.2)
      have HT := Lib.hid hbig.1
      have e3 := strOf_size t
      have HWE := hW2.symm
      clear e0 e1 e2 hb hbig hL1 hc1 hG hNn hW2 hb2
      rcases text_or t.length with ht | ht
      · have d1 : decide ((300 : Int) < (t.length : Int)) = true := decide_eq_true (by omega)
        have d2 : decide (300 < t.length) = true := decide_eq_true (by omega)
        clear ht
        go_wp2_with fail
        go_ret
        exact ⟨.inr rfl, HB2.out⟩
      · have d1 : decide ((300 : Int) < (t.length : Int)) = false := decide_eq_false (by omega)
        have d2 : decide (300 < t.length) = false := decide_eq_false (by omega)
        have HTT := Lib.hid ht
        clear ht
        go_wp2_with (go_at_call 24; (with_reducible refine HSH.out.mono ?_); rintro e w3 ⟨hS, hb3⟩; have HB3 := Lib.hid (below_next HB2.out hb3); clear hb3; rcases hS with ⟨rfl, hS⟩ | rfl)
        · go_roundw
          case rel => exact ⟨k + 1, by omega, by go_num, fun j hj => by
            by_cases hjk : j < k
            · exact HA.out j hjk
            · obtain rfl : j = k := by omega
              rw [← HG.out]
              exact ⟨show t.length ≤ 300 by have := HTT.out; omega, hS⟩, HB3.out⟩
          case measure => simp [intOf]; omega
        · go_ret
          exact ⟨.inr rfl, HB3.out⟩
    · have hd : decide ((k : Int) < (m : Int)) = false := by simp; omega
      obtain rfl : k = m := by omega
      go_wp2_with fail
      go_ret
      exact ⟨.inl ⟨rfl, by rw [← HN.out]; exact hm20, fun i hi => HA.out i (by rw [HN.out]; exact hi)⟩, HB.out⟩
end Go.Proofs.YtbpdenfiifcfcaaGreatDoor
namespace Go.Proofs.YtbpdenfiifcfcaaGreatDoor
open Go.RowKit

/-- A name of at most three relative names of at most two attributes, each value of at most L bytes. -/
def SpR (L : Nat) (r : List At) : Prop := r.length ≤ 2 ∧ ∀ x ∈ r, x.1.size ≤ 100 ∧ x.2.2.size ≤ L
def SpN (L : Nat) (n : Nm) : Prop := n.length ≤ 3 ∧ ∀ r ∈ n, SpR L r
theorem next3 (p : Nat) (a : Option Addr) (cap : Nat) (zs : List Int) (k : Nat) (w : World) (h : DeckAt w p a cap zs k) (hk2 : k < 30000) :
    Calls Tryz.prog 11 #[.pointer (some ⟨p, 0, none⟩), .int .i64 3] w fun e w' => ∃ r k' : Nat, r < 3 ∧ e = .returned (.int .i64 (r : Int)) ∧ DeckAt w' p a cap zs k' ∧ k' ≤ k + 1 ∧ But p w w' :=
  next_any p a cap zs k 3 w h hk2 (by omega) (by omega)

theorem getD_memS {α : Type} (l : List α) (i : Nat) (h : i < l.length) (d : α) : l.getD i d ∈ l := by
  rw [List.getD_eq_getElem?_getD, List.getElem?_eq_getElem h]
  exact List.getElem_mem h

end Go.Proofs.YtbpdenfiifcfcaaGreatDoor
