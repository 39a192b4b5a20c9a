/-
  The contract of the law's function awake: the chapter's example answers as written.
-/
import Derived.Test.YtfpfgdbfigdooaaDoorNparse
import Derived.Test.YtfpfgdbfigdooaaDoorNmatch
namespace Go.Proofs.YtfpfgdbfigdooaaDoor
open Go.RowKit

theorem dd1 {n : Nat} (h : n < 10) : Lib.decDigits n = [UInt8.ofNat (48 + n)] := Lib.decDigits_one h
theorem dd2 {n : Nat} (h1 : ¬ n < 10) (h2 : n < 100) : Lib.decDigits n = [UInt8.ofNat (48 + n / 10), UInt8.ofNat (48 + n % 10)] := Lib.decDigits_two h1 h2
theorem oid_cn : Oid [50, 46, 53, 46, 52, 46, 51] [2, 5, 4, 3] := by
  refine ⟨⟨by decide, by decide, by decide, by decide, by decide⟩, ?_⟩
  simp only [cat, fdot]
  rw [dd1 (n := 2) (by omega), dd1 (n := 5) (by omega), dd1 (n := 4) (by omega), dd1 (n := 3) (by omega)]
  rfl
theorem oid_o : Oid [50, 46, 53, 46, 52, 46, 49, 48] [2, 5, 4, 10] := by
  refine ⟨⟨by decide, by decide, by decide, by decide, by decide⟩, ?_⟩
  simp only [cat, fdot]
  rw [dd1 (n := 2) (by omega), dd1 (n := 5) (by omega), dd1 (n := 4) (by omega), dd2 (n := 10) (by omega) (by omega)]
  rfl
def cnB : ByteArray := ⟨#[50, 46, 53, 46, 52, 46, 51]⟩
def oB : ByteArray := ⟨#[50, 46, 53, 46, 52, 46, 49, 48]⟩
theorem prsA_eq {x wd rs v id : ByteArray} {i : Nat} (hi : Lib.indexByte x.data.toList 61 = (i : Int)) (h1 : x.extract 0 i = wd) (h2 : x.extract (i + 1) x.size = rs) (ht : typ wd = (id, true)) (hv : escL v.data.toList = rs.data.toList) :
    prsA x = some (id, kindV id v, v) := by
  unfold prsA
  rw [hi, if_neg (by omega)]
  show (match typ (x.extract 0 i), uneO (x.extract (i + 1) x.size).data.toList with | (id, true), some v => some (id, kindV id v, v) | _, _ => none) = _
  rw [h1, h2, ht, une_some hv]
theorem typ_cn : typ ⟨#[67, 78]⟩ = (cnB, true) := typ_hit 0 (by omega) (fun j hj => absurd hj (Nat.not_lt_zero _)) rfl
theorem typ_o : typ ⟨#[79]⟩ = (oB, true) := typ_hit 3 (by omega) (by decide) rfl
theorem prs_a1 : prsA ⟨#[67, 78, 61, 87, 101, 98, 32, 83, 101, 114, 118, 101, 114]⟩ = some (cnB, 19, ⟨#[87, 101, 98, 32, 83, 101, 114, 118, 101, 114]⟩) := by
  have h := prsA_eq (x := ⟨#[67, 78, 61, 87, 101, 98, 32, 83, 101, 114, 118, 101, 114]⟩) (wd := ⟨#[67, 78]⟩) (rs := ⟨#[87, 101, 98, 32, 83, 101, 114, 118, 101, 114]⟩) (v := ⟨#[87, 101, 98, 32, 83, 101, 114, 118, 101, 114]⟩) (i := 2) (by decide +kernel) (by decide +kernel) (by decide +kernel) typ_cn (by decide +kernel)
  rw [show kindV cnB ⟨#[87, 101, 98, 32, 83, 101, 114, 118, 101, 114]⟩ = 19 by decide +kernel] at h
  exact h
theorem prs_a2 : prsA ⟨#[79, 61, 69, 120, 97, 109, 112, 108, 101]⟩ = some (oB, 19, ⟨#[69, 120, 97, 109, 112, 108, 101]⟩) := by
  have h := prsA_eq (x := ⟨#[79, 61, 69, 120, 97, 109, 112, 108, 101]⟩) (wd := ⟨#[79]⟩) (rs := ⟨#[69, 120, 97, 109, 112, 108, 101]⟩) (v := ⟨#[69, 120, 97, 109, 112, 108, 101]⟩) (i := 1) (by decide +kernel) (by decide +kernel) (by decide +kernel) typ_o (by decide +kernel)
  rw [show kindV oB ⟨#[69, 120, 97, 109, 112, 108, 101]⟩ = 19 by decide +kernel] at h
  exact h
theorem prs_b1 : prsA ⟨#[67, 78, 61, 119, 101, 98, 32, 32, 115, 101, 114, 118, 101, 114]⟩ = some (cnB, 19, ⟨#[119, 101, 98, 32, 32, 115, 101, 114, 118, 101, 114]⟩) := by
  have h := prsA_eq (x := ⟨#[67, 78, 61, 119, 101, 98, 32, 32, 115, 101, 114, 118, 101, 114]⟩) (wd := ⟨#[67, 78]⟩) (rs := ⟨#[119, 101, 98, 32, 32, 115, 101, 114, 118, 101, 114]⟩) (v := ⟨#[119, 101, 98, 32, 32, 115, 101, 114, 118, 101, 114]⟩) (i := 2) (by decide +kernel) (by decide +kernel) (by decide +kernel) typ_cn (by decide +kernel)
  rw [show kindV cnB ⟨#[119, 101, 98, 32, 32, 115, 101, 114, 118, 101, 114]⟩ = 19 by decide +kernel] at h
  exact h
theorem prs_b2 : prsA ⟨#[79, 61, 69, 88, 65, 77, 80, 76, 69]⟩ = some (oB, 19, ⟨#[69, 88, 65, 77, 80, 76, 69]⟩) := by
  have h := prsA_eq (x := ⟨#[79, 61, 69, 88, 65, 77, 80, 76, 69]⟩) (wd := ⟨#[79]⟩) (rs := ⟨#[69, 88, 65, 77, 80, 76, 69]⟩) (v := ⟨#[69, 88, 65, 77, 80, 76, 69]⟩) (i := 1) (by decide +kernel) (by decide +kernel) (by decide +kernel) typ_o (by decide +kernel)
  rw [show kindV oB ⟨#[69, 88, 65, 77, 80, 76, 69]⟩ = 19 by decide +kernel] at h
  exact h
def nm_a : Nm := [[(cnB, 19, ⟨#[87, 101, 98, 32, 83, 101, 114, 118, 101, 114]⟩)], [(oB, 19, ⟨#[69, 120, 97, 109, 112, 108, 101]⟩)]]
theorem prsN_a : prsN ⟨#[67, 78, 61, 87, 101, 98, 32, 83, 101, 114, 118, 101, 114, 44, 79, 61, 69, 120, 97, 109, 112, 108, 101]⟩ = some nm_a := by
  unfold prsN
  rw [if_neg (by decide), show pcsS 44 ⟨#[67, 78, 61, 87, 101, 98, 32, 83, 101, 114, 118, 101, 114, 44, 79, 61, 69, 120, 97, 109, 112, 108, 101]⟩ = [⟨#[67, 78, 61, 87, 101, 98, 32, 83, 101, 114, 118, 101, 114]⟩, ⟨#[79, 61, 69, 120, 97, 109, 112, 108, 101]⟩] by decide +kernel]
  unfold allO allO allO
  rw [show prsR ⟨#[67, 78, 61, 87, 101, 98, 32, 83, 101, 114, 118, 101, 114]⟩ = some [(cnB, 19, ⟨#[87, 101, 98, 32, 83, 101, 114, 118, 101, 114]⟩)] by unfold prsR; rw [show pcsS 43 ⟨#[67, 78, 61, 87, 101, 98, 32, 83, 101, 114, 118, 101, 114]⟩ = [⟨#[67, 78, 61, 87, 101, 98, 32, 83, 101, 114, 118, 101, 114]⟩] by decide +kernel]; unfold allO allO; rw [prs_a1]]
  rw [show prsR ⟨#[79, 61, 69, 120, 97, 109, 112, 108, 101]⟩ = some [(oB, 19, ⟨#[69, 120, 97, 109, 112, 108, 101]⟩)] by unfold prsR; rw [show pcsS 43 ⟨#[79, 61, 69, 120, 97, 109, 112, 108, 101]⟩ = [⟨#[79, 61, 69, 120, 97, 109, 112, 108, 101]⟩] by decide +kernel]; unfold allO allO; rw [prs_a2]]
  rfl
theorem chk_a : chkN nm_a = 0 := by
  have h1 : chkR [(cnB, 19, (⟨#[87, 101, 98, 32, 83, 101, 114, 118, 101, 114]⟩ : ByteArray))] = 0 := by
    unfold chkR chkL
    have e : chkA [] (cnB, 19, (⟨#[87, 101, 98, 32, 83, 101, 114, 118, 101, 114]⟩ : ByteArray)) = 0 := by
      unfold chkA
      rw [show oidB cnB = true from oidB_yes oid_cn]
      decide +kernel
    rw [e]; rfl
  have h2 : chkR [(oB, 19, (⟨#[69, 120, 97, 109, 112, 108, 101]⟩ : ByteArray))] = 0 := by
    unfold chkR chkL
    have e : chkA [] (oB, 19, (⟨#[69, 120, 97, 109, 112, 108, 101]⟩ : ByteArray)) = 0 := by
      unfold chkA
      rw [show oidB oB = true from oidB_yes oid_o]
      decide +kernel
    rw [e]; rfl
  show chkRs nm_a = 0
  unfold nm_a chkRs
  rw [h1]
  show chkRs [_] = 0
  unfold chkRs
  rw [h2]
  rfl
theorem parse_a (w : World) (hT : Tab w) (hS : ShT w) :
    Calls Tryd.prog 20 #[.string ⟨#[67, 78, 61, 87, 101, 98, 32, 83, 101, 114, 118, 101, 114, 44, 79, 61, 69, 120, 97, 109, 112, 108, 101]⟩] w fun e w' => ∃ a c, e = .returned (.tuple #[.agg #[.slice a 2 c], .int .i64 0]) ∧ RLies w' a nm_a ∧ Below w.heap.size w w' := by
  have h := parse_any ⟨#[67, 78, 61, 87, 101, 98, 32, 83, 101, 114, 118, 101, 114, 44, 79, 61, 69, 120, 97, 109, 112, 108, 101]⟩ w (by decide) hT hS
  have e1 : prsErr ⟨#[67, 78, 61, 87, 101, 98, 32, 83, 101, 114, 118, 101, 114, 44, 79, 61, 69, 120, 97, 109, 112, 108, 101]⟩ = 0 := by unfold prsErr; rw [prsN_a]; exact chk_a
  have e2 : prsV ⟨#[67, 78, 61, 87, 101, 98, 32, 83, 101, 114, 118, 101, 114, 44, 79, 61, 69, 120, 97, 109, 112, 108, 101]⟩ = nm_a := by unfold prsV; rw [e1, prsN_a]; rfl
  rw [e1, e2] at h
  refine h.mono ?_
  rintro e w' ⟨v, rfl, ⟨s, rfl, ho⟩, hb⟩
  obtain ⟨a, c, rfl, _, hl⟩ := ho.lies
  exact ⟨a, c, rfl, hl, hb⟩
theorem small_a : SmallN nm_a := by
  refine ⟨by decide, fun i hi => ?_⟩
  have hi2 : i < 2 := hi
  rcases (by omega : i = 0 ∨ i = 1) with rfl | rfl
  · exact ⟨by decide, fun j hj => by
      have hj1 : j < 1 := hj
      obtain rfl : j = 0 := by omega
      exact ⟨by decide, by decide⟩⟩
  · exact ⟨by decide, fun j hj => by
      have hj1 : j < 1 := hj
      obtain rfl : j = 0 := by omega
      exact ⟨by decide, by decide⟩⟩
def nm_b : Nm := [[(cnB, 19, ⟨#[119, 101, 98, 32, 32, 115, 101, 114, 118, 101, 114]⟩)], [(oB, 19, ⟨#[69, 88, 65, 77, 80, 76, 69]⟩)]]
theorem prsN_b : prsN ⟨#[67, 78, 61, 119, 101, 98, 32, 32, 115, 101, 114, 118, 101, 114, 44, 79, 61, 69, 88, 65, 77, 80, 76, 69]⟩ = some nm_b := by
  unfold prsN
  rw [if_neg (by decide), show pcsS 44 ⟨#[67, 78, 61, 119, 101, 98, 32, 32, 115, 101, 114, 118, 101, 114, 44, 79, 61, 69, 88, 65, 77, 80, 76, 69]⟩ = [⟨#[67, 78, 61, 119, 101, 98, 32, 32, 115, 101, 114, 118, 101, 114]⟩, ⟨#[79, 61, 69, 88, 65, 77, 80, 76, 69]⟩] by decide +kernel]
  unfold allO allO allO
  rw [show prsR ⟨#[67, 78, 61, 119, 101, 98, 32, 32, 115, 101, 114, 118, 101, 114]⟩ = some [(cnB, 19, ⟨#[119, 101, 98, 32, 32, 115, 101, 114, 118, 101, 114]⟩)] by unfold prsR; rw [show pcsS 43 ⟨#[67, 78, 61, 119, 101, 98, 32, 32, 115, 101, 114, 118, 101, 114]⟩ = [⟨#[67, 78, 61, 119, 101, 98, 32, 32, 115, 101, 114, 118, 101, 114]⟩] by decide +kernel]; unfold allO allO; rw [prs_b1]]
  rw [show prsR ⟨#[79, 61, 69, 88, 65, 77, 80, 76, 69]⟩ = some [(oB, 19, ⟨#[69, 88, 65, 77, 80, 76, 69]⟩)] by unfold prsR; rw [show pcsS 43 ⟨#[79, 61, 69, 88, 65, 77, 80, 76, 69]⟩ = [⟨#[79, 61, 69, 88, 65, 77, 80, 76, 69]⟩] by decide +kernel]; unfold allO allO; rw [prs_b2]]
  rfl
theorem chk_b : chkN nm_b = 0 := by
  have h1 : chkR [(cnB, 19, (⟨#[119, 101, 98, 32, 32, 115, 101, 114, 118, 101, 114]⟩ : ByteArray))] = 0 := by
    unfold chkR chkL
    have e : chkA [] (cnB, 19, (⟨#[119, 101, 98, 32, 32, 115, 101, 114, 118, 101, 114]⟩ : ByteArray)) = 0 := by
      unfold chkA
      rw [show oidB cnB = true from oidB_yes oid_cn]
      decide +kernel
    rw [e]; rfl
  have h2 : chkR [(oB, 19, (⟨#[69, 88, 65, 77, 80, 76, 69]⟩ : ByteArray))] = 0 := by
    unfold chkR chkL
    have e : chkA [] (oB, 19, (⟨#[69, 88, 65, 77, 80, 76, 69]⟩ : ByteArray)) = 0 := by
      unfold chkA
      rw [show oidB oB = true from oidB_yes oid_o]
      decide +kernel
    rw [e]; rfl
  show chkRs nm_b = 0
  unfold nm_b chkRs
  rw [h1]
  show chkRs [_] = 0
  unfold chkRs
  rw [h2]
  rfl
theorem parse_b (w : World) (hT : Tab w) (hS : ShT w) :
    Calls Tryd.prog 20 #[.string ⟨#[67, 78, 61, 119, 101, 98, 32, 32, 115, 101, 114, 118, 101, 114, 44, 79, 61, 69, 88, 65, 77, 80, 76, 69]⟩] w fun e w' => ∃ a c, e = .returned (.tuple #[.agg #[.slice a 2 c], .int .i64 0]) ∧ RLies w' a nm_b ∧ Below w.heap.size w w' := by
  have h := parse_any ⟨#[67, 78, 61, 119, 101, 98, 32, 32, 115, 101, 114, 118, 101, 114, 44, 79, 61, 69, 88, 65, 77, 80, 76, 69]⟩ w (by decide) hT hS
  have e1 : prsErr ⟨#[67, 78, 61, 119, 101, 98, 32, 32, 115, 101, 114, 118, 101, 114, 44, 79, 61, 69, 88, 65, 77, 80, 76, 69]⟩ = 0 := by unfold prsErr; rw [prsN_b]; exact chk_b
  have e2 : prsV ⟨#[67, 78, 61, 119, 101, 98, 32, 32, 115, 101, 114, 118, 101, 114, 44, 79, 61, 69, 88, 65, 77, 80, 76, 69]⟩ = nm_b := by unfold prsV; rw [e1, prsN_b]; rfl
  rw [e1, e2] at h
  refine h.mono ?_
  rintro e w' ⟨v, rfl, ⟨s, rfl, ho⟩, hb⟩
  obtain ⟨a, c, rfl, _, hl⟩ := ho.lies
  exact ⟨a, c, rfl, hl, hb⟩
theorem small_b : SmallN nm_b := by
  refine ⟨by decide, fun i hi => ?_⟩
  have hi2 : i < 2 := hi
  rcases (by omega : i = 0 ∨ i = 1) with rfl | rfl
  · exact ⟨by decide, fun j hj => by
      have hj1 : j < 1 := hj
      obtain rfl : j = 0 := by omega
      exact ⟨by decide, by decide⟩⟩
  · exact ⟨by decide, fun j hj => by
      have hj1 : j < 1 := hj
      obtain rfl : j = 0 := by omega
      exact ⟨by decide, by decide⟩⟩
theorem match_ab : decide (MatchN nm_a nm_b) = true := by decide +kernel
theorem match_a0 : decide (MatchN nm_a []) = false := by decide +kernel
theorem small_nil : SmallN [] := ⟨by decide, fun i hi => absurd hi (Nat.not_lt_zero _)⟩

set_option maxRecDepth 100000 in
set_option maxHeartbeats 4000000 in
theorem awake_any (w : World) (hT : Tab w) (hS : ShT w) :
    Calls Tryd.prog 10 #[] w fun e w' => e = .returned (.bool true) ∧ Below w.heap.size w w' := by
  have HT := Lib.hid hT
  have HS := Lib.hid hS
  have HM1 := Lib.hid (fun (a b : Option Addr) (c d : Nat) (W : World) (h1 : RLies W a nm_a) (h2 : RLies W b nm_b) => match_core a b c d 2 2 nm_a nm_b W h1 h2 rfl rfl small_a small_b)
  have HM2 := Lib.hid (fun (a : Option Addr) (c : Nat) (W : World) (h1 : RLies W a nm_a) => match_core a none c 0 2 0 nm_a [] W h1 (RLies.nil W none) rfl rfl small_a small_nil)
  rw [match_ab] at HM1
  rw [match_a0] at HM2
  clear hT hS
  go_enter Tryd.func10, Tryd.ntmps10
  go_wp2_with (first
    | (go_at_call 20; (with_reducible refine (parse_a w HT.out HS.out).mono ?_); rintro e w1 ⟨a1, c1, rfl, hl1, hb1⟩; have HL1 := Lib.hid (hl1.below (belowNew w1 (.cells #[.slice a1 2 c1] 24))); have HB1 := Lib.hid (below_next hb1 (belowNew w1 (.cells #[.slice a1 2 c1] 24))); have HC1 := Lib.hid (heap_alloc_new w1 (.cells #[.slice a1 2 c1] 24)); clear hl1 hb1)
    | (go_at_call 20; (with_reducible refine (parse_b _ (HT.out.below HB1.out) (HS.out.below HB1.out)).mono ?_); rintro e w2 ⟨a2, c2, rfl, hl2, hb2⟩; have HB2 := Lib.hid (below_next hb2 (belowNew w2 (.cells #[.slice a2 2 c2] 24))); have HL2 := Lib.hid (hl2.below (belowNew w2 (.cells #[.slice a2 2 c2] 24))); have HL1 := Lib.hid (HL1.out.below HB2.out); have hc1 := (hb2.block _ (by simp)).trans HC1.out; obtain ⟨m0, n0, hlt1⟩ := one_facts hc1; have HBB := Lib.hid (below_next HB1.out HB2.out); clear hl2 hb2)
    | (go_at_call 16; (with_reducible refine (HM1.out _ _ _ _ _ HL1.out HL2.out).mono ?_); rintro e w3 ⟨rfl, hb3⟩; have HB3 := Lib.hid hb3; have q0 := (hb3.cell (p := ⟨w1.heap.size, 0, none⟩) (by simp; omega)).trans (((belowNew w2 (.cells #[.slice a2 2 c2] 24)).cell (p := ⟨w1.heap.size, 0, none⟩) hlt1).trans m0); clear hb3)
    | (go_at_call 16; (with_reducible refine (HM2.out _ _ _ (HL1.out.below HB3.out)).mono ?_); rintro e w4 ⟨rfl, hb4⟩; have HB4 := Lib.hid hb4; clear hb4))
  go_ret
  exact ⟨rfl, below_next HBB.out (below_next HB3.out HB4.out)⟩
end Go.Proofs.YtfpfgdbfigdooaaDoor
