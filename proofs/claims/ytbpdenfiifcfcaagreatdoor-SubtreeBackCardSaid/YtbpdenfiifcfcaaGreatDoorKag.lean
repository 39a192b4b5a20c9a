/-
  The contracts of checkAttribute and what it calls (the closure, slices.ContainsFunc): the first error of an attribute that stands behind others.
  The contracts of checkRelative and Check: the first error of a relative name, of a name.
  The contracts of the reference's checkAttributes and CheckName: the same first error.
  The contracts of the reference's Fold and MatchText; nothing that was there before the call has changed.
-/
import Derived.Test.YtbpdenfiifcfcaaGreatDoorKaf
import Derived.Deep.CutRange
import Derived.Test.YtbpdenfiifcfcaaGreatDoorKac
namespace Go.Proofs.YtbpdenfiifcfcaaGreatDoor
open Go.RowKit

def SmallA (a : At) : Prop := a.1.size ≤ 1000000 ∧ a.2.2.size ≤ 1000000
def SmallR (r : List At) : Prop := r.length ≤ 1000000 ∧ ∀ i, i < r.length → SmallA (r.getD i noAt)
def SmallN (n : Nm) : Prop := n.length ≤ 1000000 ∧ ∀ i, i < n.length → SmallR (n.getD i [])
theorem beq_str (x y : ByteArray) : (x.toList == y.toList) = decide (x = y) := by
  rw [Bool.eq_iff_iff, beq_iff_eq, decide_eq_true_iff]
  exact toList_inj

set_option maxRecDepth 100000 in
set_option maxHeartbeats 1000000 in
theorem same_type (t v x : ByteArray) (k : Int) (g : Nat) (w : World) (h : w.cell? ⟨g, 0, none⟩ = some (.string x)) :
    Calls Tryz.prog 156 #[.agg #[.string t, .int .i64 k, .string v], .pointer (some ⟨g, 0, none⟩)] w fun e w' => e = .returned (.bool (decide (t = x))) ∧ Below w.heap.size w w' := by
  have HE := Lib.hid (beq_str t x)
  have hg : g < w.heap.size := block_lt h
  go_enter Tryz.func156, Tryz.ntmps156
  go_wp2_with fail
  go_ret
  exact ⟨by rw [← HE.out]; rfl, belowNew w _⟩

set_option maxRecDepth 100000 in
set_option maxHeartbeats 1000000 in
theorem idxf_any (a0 : Option Addr) (c n : Nat) (l : List At) (g : Nat) (x : ByteArray) (w : World) (h : ALies w a0 l) (hn : n = l.length) (hL : n ≤ 1099511627776) (hc : w.cell? ⟨g, 0, none⟩ = some (.string x)) :
    Calls Tryz.prog 186 #[.slice a0 n c, .func (.func 156) #[] #[.pointer (some ⟨g, 0, none⟩)]] w
      fun e w' => (∃ z : Int, e = .returned (.int .i64 z) ∧ decide (0 ≤ z) = (l.any fun b => decide (b.1 = x))) ∧ Below w.heap.size w w' := by
  have H1 := Lib.hid h
  have HN := Lib.hid hn
  have HC := Lib.hid hc
  clear h hn hc
  go_enter Tryz.func186, Tryz.ntmps186
  go_wp2_with fail
  go_loopw [8] (fun i wr => ∃ k : Nat, k ≤ n ∧ i = .int .i64 k ∧ ((l.take k).any fun b => decide (b.1 = x)) = false ∧ Below w.heap.size w wr) (fun i _ => n - (intOf i).toNat)
  case atStart => exact ⟨0, Nat.zero_le _, rfl, by simp, Below.refl _ _⟩
  case round =>
    obtain ⟨k, hk, rfl, hA, hb⟩ := hrel
    have HB := Lib.hid hb
    have HA := Lib.hid hA
    clear hb hA
    by_cases hlt : k < n
    · have hd : decide ((k : Int) < (n : Int)) = true := by simp; omega
      obtain ⟨b, o, rfl, hb, c0, c1, c2⟩ := H1.out.at k (by rw [← HN.out]; exact hlt)
      have a0 : wr.cell? ⟨b, o + k * 3, none⟩ = _ := (HB.out.cell (p := ⟨b, o + k * 3, none⟩) hb).trans c0
      have a1 : wr.cell? ⟨b, o + k * 3 + 1, none⟩ = _ := (HB.out.cell (p := ⟨b, o + k * 3 + 1, none⟩) hb).trans c1
      have a2 : wr.cell? ⟨b, o + k * 3 + 2, none⟩ = _ := (HB.out.cell (p := ⟨b, o + k * 3 + 2, none⟩) hb).trans c2
      have HT := Lib.hid (takeD l k (by rw [← HN.out]; exact hlt) noAt)
      generalize l.getD k noAt = y at a0 a1 a2 HT
      obtain ⟨t, kd, v⟩ := y
      clear c0 c1 c2 hb
      have HCR := Lib.hid ((HB.out.cell (p := ⟨g, 0, none⟩) (block_lt HC.out)).trans HC.out)
      by_cases hx : t = x
      · have HF := Lib.hid (show (l.any fun b => decide (b.1 = x)) = true from by
          have e := List.take_append_drop (k + 1) l
          rw [← e, List.any_append, HT.out, List.any_append]
          simp [hx])
        have hdx := decide_eq_true hx
        have hdk : decide ((0 : Int) ≤ (k : Int)) = true := by simp
        clear hx
        go_wp2_with (go_at_call 156; (with_reducible refine (same_type t v x kd g _ HCR.out).mono ?_); rw [hdx]; rintro e w1 ⟨rfl, hb1⟩; have HB1 := Lib.hid (below_next HB.out hb1); clear hb1)
        go_ret
        exact ⟨⟨_, rfl, by rw [HF.out]; simp⟩, HB1.out⟩
      · have HF := Lib.hid (show ((l.take (k + 1)).any fun b => decide (b.1 = x)) = false from by
          rw [HT.out, List.any_append, HA.out]
          simp [hx])
        have hdx := decide_eq_false hx
        clear hx
        go_wp2_with (go_at_call 156; (with_reducible refine (same_type t v x kd g _ HCR.out).mono ?_); rw [hdx]; rintro e w1 ⟨rfl, hb1⟩; have HB1 := Lib.hid (below_next HB.out hb1); clear hb1)
        go_roundw
        case rel => exact ⟨k + 1, by omega, by go_num, HF.out, HB1.out⟩
        case measure => simp [intOf]; omega
    · have hd : decide ((k : Int) < (n : Int)) = false := by simp; omega
      have HF := Lib.hid (show (l.any fun b => decide (b.1 = x)) = false from by
        have e := HA.out
        rw [List.take_of_length_le (by rw [← HN.out]; omega)] at e
        exact e)
      go_wp2_with fail
      go_ret
      exact ⟨⟨_, rfl, by rw [HF.out]; decide⟩, HB.out⟩

set_option maxRecDepth 100000 in
set_option maxHeartbeats 1000000 in
theorem contf_any (a0 : Option Addr) (c n : Nat) (l : List At) (g : Nat) (x : ByteArray) (w : World) (h : ALies w a0 l) (hn : n = l.length) (hL : n ≤ 1099511627776) (hc : w.cell? ⟨g, 0, none⟩ = some (.string x)) :
    Calls Tryz.prog 159 #[.slice a0 n c, .func (.func 156) #[] #[.pointer (some ⟨g, 0, none⟩)]] w
      fun e w' => e = .returned (.bool (l.any fun b => decide (b.1 = x))) ∧ Below w.heap.size w w' := by
  have H := Lib.hid (idxf_any a0 c n l g x w h hn hL hc)
  clear h hn hc
  go_enter Tryz.func159, Tryz.ntmps159
  go_wp2_with (go_at_call 186; (with_reducible refine H.out.mono ?_); rintro e w1 ⟨⟨z, rfl, hz⟩, hb⟩; have HZ := Lib.hid hz; have HB := Lib.hid hb; clear hz hb)
  go_ret
  exact ⟨by rw [← HZ.out]; rfl, HB.out⟩

theorem valid_b (s : ByteArray) (w : World) (hs : s.size ≤ 1099511627) :
    Calls Tryz.prog 157 #[.string s] w fun e w' => e = .returned (.bool (oidB s)) ∧ Below w.heap.size w w' := by
  rcases oid_or s.data.toList with ⟨a, h⟩ | h
  · rw [oidB_yes h]; exact valid_yes h w hs
  · rw [oidB_no h]; exact valid_no h w hs
theorem box_cell (w : World) (x y z : Value) (t : TypeId) : (w.alloc (.cells #[x, y, z] t)).cell? ⟨w.heap.size, 0, none⟩ = some x := by
  rw [cell_of_row _ _ 0 _ _ _ (heap_alloc_new w _)]; rfl
/-- The ways through a check of an attribute. -/
theorem chk_ways (B : List At) (t v : ByteArray) (k : Int) : (oidB t = false ∧ chkA B (t, k, v) = 11) ∨ (oidB t = true ∧ v = ⟨#[]⟩ ∧ chkA B (t, k, v) = 13) ∨
    (oidB t = true ∧ v.size ≠ 0 ∧ validB k v.data.toList = false ∧ chkA B (t, k, v) = 13) ∨ (oidB t = true ∧ v.size ≠ 0 ∧ validB k v.data.toList = true ∧ 64 < v.size ∧ chkA B (t, k, v) = 2) ∨
    (oidB t = true ∧ v.size ≠ 0 ∧ validB k v.data.toList = true ∧ v.size ≤ 64 ∧ (B.any fun b => decide (b.1 = t)) = true ∧ chkA B (t, k, v) = 10) ∨
    (oidB t = true ∧ v.size ≠ 0 ∧ validB k v.data.toList = true ∧ v.size ≤ 64 ∧ (B.any fun b => decide (b.1 = t)) = false ∧ chkA B (t, k, v) = 0) := by
  unfold chkA
  by_cases h1 : oidB t = false
  · exact .inl ⟨h1, if_pos h1⟩
  have h1 : oidB t = true := by simpa using h1
  by_cases h2 : v.size = 0
  · exact .inr (.inl ⟨h1, empty_of_size h2, by simp [h1, h2]⟩)
  by_cases h3 : validB k v.data.toList = false
  · exact .inr (.inr (.inl ⟨h1, h2, h3, by simp [h1, h2, h3]⟩))
  have h3 : validB k v.data.toList = true := by simpa using h3
  by_cases h4 : 64 < v.size
  · exact .inr (.inr (.inr (.inl ⟨h1, h2, h3, h4, by simp [h1, h2, h3, h4]⟩)))
  by_cases h5 : (B.any fun b => decide (b.1 = t)) = true
  · exact .inr (.inr (.inr (.inr (.inl ⟨h1, h2, h3, by omega, h5, by simp only [h1, h2, h3, h4, h5]; simp⟩))))
  have h5 : (B.any fun b => decide (b.1 = t)) = false := by
    cases hh : (B.any fun b => decide (b.1 = t)) with
    | true => exact absurd hh h5
    | false => rfl
  exact .inr (.inr (.inr (.inr (.inr ⟨h1, h2, h3, by omega, h5, by simp only [h1, h2, h3, h4, h5]; simp⟩))))

set_option maxRecDepth 100000 in
set_option maxHeartbeats 4000000 in
theorem chkA_any (t v : ByteArray) (k : Int) (bd : Option Addr) (c n : Nat) (B : List At) (w : World) (hs1 : t.size ≤ 1000000) (hs2 : v.size ≤ 1000000) (hB : ALies w bd B) (hn : n = B.length) (hL : n ≤ 1000000) (hT : Tab w) :
    Calls Tryz.prog 133 #[.agg #[.string t, .int .i64 k, .string v], .slice bd n c] w fun e w' => e = .returned (.int .i64 ((chkA B (t, k, v) : Nat) : Int)) ∧ Below w.heap.size w w' := by
  have HS1 := Lib.hid hs1
  have HS2 := Lib.hid hs2
  have HL := Lib.hid hL
  have HN := Lib.hid hn
  obtain ⟨w0, hw0⟩ : ∃ w0, w0 = w.alloc (.cells #[.string t, .int .i64 k, .string v] 86) := ⟨_, rfl⟩
  have HW := Lib.hid (show Below w.heap.size w w0 by rw [hw0]; exact belowNew w _)
  have HT := Lib.hid (hT.below HW.out)
  have HA := Lib.hid (hB.below HW.out)
  have HCC := Lib.hid (show w0.cell? ⟨w.heap.size, 0, none⟩ = some (.string t) by rw [hw0]; exact box_cell w _ _ _ _)
  have hwr : w.alloc (.cells #[.string t, .int .i64 k, .string v] 86) = w0 := hw0.symm
  have hc0 := HCC.out
  have hc1 : w0.cell? ⟨w.heap.size, 1, none⟩ = some (.int .i64 k) := by rw [hw0, cell_of_row _ _ 1 _ _ _ (heap_alloc_new w _)]; rfl
  have hc2 : w0.cell? ⟨w.heap.size, 2, none⟩ = some (.string v) := by rw [hw0, cell_of_row _ _ 2 _ _ _ (heap_alloc_new w _)]; rfl
  have hlt : w.heap.size < w0.heap.size := block_lt hc0
  have HO := Lib.hid (fun W => valid_b t W (by have := HS1.out; omega))
  have HV := Lib.hid (fun W (hT : Tab W) => tval_any k v W (by have := HS2.out; omega) hT)
  have HK := Lib.hid (fun W (hA : ALies W bd B) (hcc : W.cell? ⟨w.heap.size, 0, none⟩ = some (.string t)) => contf_any bd c n B w.heap.size t W hA HN.out (by have := HL.out; omega) hcc)
  clear hT hB hn hL hs1 hs2 hw0
  rcases chk_ways B t v k with ⟨h1, e⟩ | ⟨h1, h2, e⟩ | ⟨h1, h2, h3, e⟩ | ⟨h1, h2, h3, h4, e⟩ | ⟨h1, h2, h3, h4, h5, e⟩ | ⟨h1, h2, h3, h4, h5, e⟩
  · rw [e]
    rw [h1] at HO
    clear e h1
    go_enter Tryz.func133, Tryz.ntmps133
    go_wp2_with (go_at_call 157; (with_reducible refine (HO.out _).mono ?_); rintro e w1 ⟨rfl, hb⟩; have HX := Lib.hid hb; have HC0 := Lib.hid ((hb.cell (p := ⟨w.heap.size, 0, none⟩) hlt).trans hc0); have g0 := (hb.cell (p := ⟨w.heap.size, 0, none⟩) hlt).trans hc0; have g1 := (hb.cell (p := ⟨w.heap.size, 1, none⟩) hlt).trans hc1; have g2 := (hb.cell (p := ⟨w.heap.size, 2, none⟩) hlt).trans hc2; have hlt1 := Nat.lt_of_lt_of_le hlt hb.size; clear hb)
    go_ret
    exact ⟨rfl, below_next HW.out HX.out⟩
  · rw [e]
    rw [h1] at HO
    subst h2
    clear e h1
    go_enter Tryz.func133, Tryz.ntmps133
    go_wp2_with (go_at_call 157; (with_reducible refine (HO.out _).mono ?_); rintro e w1 ⟨rfl, hb⟩; have HX := Lib.hid hb; have HC0 := Lib.hid ((hb.cell (p := ⟨w.heap.size, 0, none⟩) hlt).trans hc0); have g0 := (hb.cell (p := ⟨w.heap.size, 0, none⟩) hlt).trans hc0; have g1 := (hb.cell (p := ⟨w.heap.size, 1, none⟩) hlt).trans hc1; have g2 := (hb.cell (p := ⟨w.heap.size, 2, none⟩) hlt).trans hc2; have hlt1 := Nat.lt_of_lt_of_le hlt hb.size; clear hb)
    go_ret
    exact ⟨rfl, below_next HW.out HX.out⟩
  · rw [e]
    rw [h1] at HO
    rw [h3] at HV
    have hne := nonempty_list h2
    clear e h1 h2 h3
    go_enter Tryz.func133, Tryz.ntmps133
    go_wp2_with (first | (go_at_call 157; (with_reducible refine (HO.out _).mono ?_); rintro e w1 ⟨rfl, hb⟩; have HX := Lib.hid hb; have HC0 := Lib.hid ((hb.cell (p := ⟨w.heap.size, 0, none⟩) hlt).trans hc0); have g0 := (hb.cell (p := ⟨w.heap.size, 0, none⟩) hlt).trans hc0; have g1 := (hb.cell (p := ⟨w.heap.size, 1, none⟩) hlt).trans hc1; have g2 := (hb.cell (p := ⟨w.heap.size, 2, none⟩) hlt).trans hc2; have hlt1 := Nat.lt_of_lt_of_le hlt hb.size; clear hb) | (go_at_call 158; (with_reducible refine (HV.out _ (HT.out.below HX.out)).mono ?_); rintro e w2 ⟨rfl, hb⟩; have q0 := (hb.cell (p := ⟨w.heap.size, 0, none⟩) hlt1).trans g0; have q1 := (hb.cell (p := ⟨w.heap.size, 1, none⟩) hlt1).trans g1; have q2 := (hb.cell (p := ⟨w.heap.size, 2, none⟩) hlt1).trans g2; have HX := Lib.hid (below_next HX.out hb); clear hb))
    go_ret
    exact ⟨rfl, below_next HW.out HX.out⟩
  · rw [e]
    rw [h1] at HO
    rw [h3] at HV
    have hne := nonempty_list h2
    have hd : decide ((64 : Int) < (v.size : Int)) = true := by simp; omega
    clear e h1 h2 h3 h4
    go_enter Tryz.func133, Tryz.ntmps133
    go_wp2_with (first | (go_at_call 157; (with_reducible refine (HO.out _).mono ?_); rintro e w1 ⟨rfl, hb⟩; have HX := Lib.hid hb; have HC0 := Lib.hid ((hb.cell (p := ⟨w.heap.size, 0, none⟩) hlt).trans hc0); have g0 := (hb.cell (p := ⟨w.heap.size, 0, none⟩) hlt).trans hc0; have g1 := (hb.cell (p := ⟨w.heap.size, 1, none⟩) hlt).trans hc1; have g2 := (hb.cell (p := ⟨w.heap.size, 2, none⟩) hlt).trans hc2; have hlt1 := Nat.lt_of_lt_of_le hlt hb.size; clear hb) | (go_at_call 158; (with_reducible refine (HV.out _ (HT.out.below HX.out)).mono ?_); rintro e w2 ⟨rfl, hb⟩; have q0 := (hb.cell (p := ⟨w.heap.size, 0, none⟩) hlt1).trans g0; have q1 := (hb.cell (p := ⟨w.heap.size, 1, none⟩) hlt1).trans g1; have q2 := (hb.cell (p := ⟨w.heap.size, 2, none⟩) hlt1).trans g2; have HX := Lib.hid (below_next HX.out hb); clear hb))
    go_ret
    exact ⟨rfl, below_next HW.out HX.out⟩
  · rw [e]
    rw [h1] at HO
    rw [h3] at HV
    rw [h5] at HK
    have hne := nonempty_list h2
    have hd : decide ((64 : Int) < (v.size : Int)) = false := by simp; omega
    clear e h1 h2 h3 h4 h5
    go_enter Tryz.func133, Tryz.ntmps133
    go_wp2_with (first | (go_at_call 157; (with_reducible refine (HO.out _).mono ?_); rintro e w1 ⟨rfl, hb⟩; have HX := Lib.hid hb; have HC0 := Lib.hid ((hb.cell (p := ⟨w.heap.size, 0, none⟩) hlt).trans hc0); have g0 := (hb.cell (p := ⟨w.heap.size, 0, none⟩) hlt).trans hc0; have g1 := (hb.cell (p := ⟨w.heap.size, 1, none⟩) hlt).trans hc1; have g2 := (hb.cell (p := ⟨w.heap.size, 2, none⟩) hlt).trans hc2; have hlt1 := Nat.lt_of_lt_of_le hlt hb.size; clear hb) | (go_at_call 158; (with_reducible refine (HV.out _ (HT.out.below HX.out)).mono ?_); rintro e w2 ⟨rfl, hb⟩; have q0 := (hb.cell (p := ⟨w.heap.size, 0, none⟩) hlt1).trans g0; have q1 := (hb.cell (p := ⟨w.heap.size, 1, none⟩) hlt1).trans g1; have q2 := (hb.cell (p := ⟨w.heap.size, 2, none⟩) hlt1).trans g2; have HX := Lib.hid (below_next HX.out hb); clear hb) | (go_at_call 159; (with_reducible refine (HK.out _ (HA.out.below HX.out) q0).mono ?_); rintro e w3 ⟨rfl, hb⟩; have HX := Lib.hid (below_next HX.out hb); clear hb))
    go_ret
    exact ⟨rfl, below_next HW.out HX.out⟩
  · rw [e]
    rw [h1] at HO
    rw [h3] at HV
    rw [h5] at HK
    have hne := nonempty_list h2
    have hd : decide ((64 : Int) < (v.size : Int)) = false := by simp; omega
    clear e h1 h2 h3 h4 h5
    go_enter Tryz.func133, Tryz.ntmps133
    go_wp2_with (first | (go_at_call 157; (with_reducible refine (HO.out _).mono ?_); rintro e w1 ⟨rfl, hb⟩; have HX := Lib.hid hb; have HC0 := Lib.hid ((hb.cell (p := ⟨w.heap.size, 0, none⟩) hlt).trans hc0); have g0 := (hb.cell (p := ⟨w.heap.size, 0, none⟩) hlt).trans hc0; have g1 := (hb.cell (p := ⟨w.heap.size, 1, none⟩) hlt).trans hc1; have g2 := (hb.cell (p := ⟨w.heap.size, 2, none⟩) hlt).trans hc2; have hlt1 := Nat.lt_of_lt_of_le hlt hb.size; clear hb) | (go_at_call 158; (with_reducible refine (HV.out _ (HT.out.below HX.out)).mono ?_); rintro e w2 ⟨rfl, hb⟩; have q0 := (hb.cell (p := ⟨w.heap.size, 0, none⟩) hlt1).trans g0; have q1 := (hb.cell (p := ⟨w.heap.size, 1, none⟩) hlt1).trans g1; have q2 := (hb.cell (p := ⟨w.heap.size, 2, none⟩) hlt1).trans g2; have HX := Lib.hid (below_next HX.out hb); clear hb) | (go_at_call 159; (with_reducible refine (HK.out _ (HA.out.below HX.out) q0).mono ?_); rintro e w3 ⟨rfl, hb⟩; have HX := Lib.hid (below_next HX.out hb); clear hb))
    go_ret
    exact ⟨rfl, below_next HW.out HX.out⟩
end Go.Proofs.YtbpdenfiifcfcaaGreatDoor
namespace Go.Proofs.YtbpdenfiifcfcaaGreatDoor
open Go.RowKit

theorem errno_ne {e : Nat} (h : e ≠ 0) : ((e : Int) != 0) = true := by simp; omega
set_option maxRecDepth 100000 in
set_option maxHeartbeats 4000000 in
theorem chkL_any (a0 : Option Addr) (c n : Nat) (l : List At) (w : World) (h : ALies w a0 l) (hn : n = l.length) (hc : n ≤ c) (hs : SmallR l) (hT : Tab w) :
    Calls Tryz.prog 109 #[.slice a0 n c] w fun e w' => e = .returned (.int .i64 ((chkR l : Nat) : Int)) ∧ Below w.heap.size w w' := by
  by_cases h0 : n = 0
  · subst h0
    have e : chkR l = 14 := by unfold chkR; rw [if_pos hn.symm]
    rw [e]
    clear e hn h hs hT
    go_enter Tryz.func109, Tryz.ntmps109
    go_wp2_with fail
    go_ret
    exact ⟨rfl, Below.refl _ _⟩
  have d0 : ((n : Int) == 0) = false := by simp; omega
  by_cases h4 : 4 < n
  · have e : chkR l = 2 := by unfold chkR; rw [if_neg (by omega), if_pos (by omega)]
    have d4 : decide ((4 : Int) < (n : Int)) = true := by simp; omega
    rw [e]
    clear e hn h hs hT h0 h4
    go_enter Tryz.func109, Tryz.ntmps109
    go_wp2_with fail
    go_ret
    exact ⟨rfl, Below.refl _ _⟩
  have d4 : decide ((4 : Int) < (n : Int)) = false := by simp; omega
  have e : chkR l = chkL [] l := by unfold chkR; rw [if_neg (by omega), if_neg (by omega)]
  rw [e]
  have HN4 := Lib.hid (show n ≤ 4 by omega)
  have hL : n ≤ 1000000 := by omega
  obtain ⟨E, hE⟩ : ∃ E, E = chkL [] l := ⟨_, rfl⟩
  rw [← hE]
  have HE := Lib.hid hE
  have H1 := Lib.hid h
  have HN := Lib.hid hn
  have HS := Lib.hid hs
  have HT := Lib.hid hT
  clear h hn hs hT e hE h0 h4
  go_enter Tryz.func109, Tryz.ntmps109
  go_wp2_with fail
  go_loopw [14] (fun i wr => ∃ k : Nat, k ≤ n ∧ i = .int .i64 k ∧ E = chkL (l.take k) (l.drop k) ∧ Below w.heap.size w wr) (fun i _ => n - (intOf i).toNat)
  case atStart => exact ⟨0, Nat.zero_le _, rfl, by rw [List.take_zero, List.drop_zero]; exact HE.out, Below.refl _ _⟩
  case round =>
    obtain ⟨k, hk, rfl, hA, hb⟩ := hrel
    have HB := Lib.hid hb
    have HA := Lib.hid hA
    clear hb hA
    by_cases hlt : k < n
    · have hd : decide ((k : Int) < (n : Int)) = true := by simp; omega
      obtain ⟨b, o, rfl, hb, c0, c1, c2⟩ := H1.out.at k (by rw [← HN.out]; exact hlt)
      have a0 : wr.cell? ⟨b, o + k * 3, none⟩ = _ := (HB.out.cell (p := ⟨b, o + k * 3, none⟩) hb).trans c0
      have a1 : wr.cell? ⟨b, o + k * 3 + 1, none⟩ = _ := (HB.out.cell (p := ⟨b, o + k * 3 + 1, none⟩) hb).trans c1
      have a2 : wr.cell? ⟨b, o + k * 3 + 2, none⟩ = _ := (HB.out.cell (p := ⟨b, o + k * 3 + 2, none⟩) hb).trans c2
      have HST := Lib.hid (chkL_step l k (by rw [← HN.out]; exact hlt))
      have hsm := HS.out.2 k (by rw [← HN.out]; exact hlt)
      generalize l.getD k noAt = y at a0 a1 a2 HST hsm
      obtain ⟨t, kd, v⟩ := y
      have HM1 := Lib.hid hsm.1
      have HM2 := Lib.hid hsm.2
      have hlc : k ≤ c := by omega
      have hk0 : (0 : Int) ≤ (k : Int) := by omega
      have hkc : (k : Int) ≤ (c : Int) := by omega
      obtain ⟨Z, hZ⟩ : ∃ Z, Z = chkA (l.take k) (t, kd, v) := ⟨_, rfl⟩
      rw [← hZ] at HST
      have HCK := Lib.hid (fun W (hA : ALies W (some ⟨b, o, none⟩) l) (hT : Tab W) => chkA_any t v kd (some ⟨b, o, none⟩) c k (l.take k) W HM1.out HM2.out (hA.take k) (by rw [List.length_take, ← HN.out]; omega) (by have := HN4.out; omega) hT)
      rw [← hZ] at HCK
      have HBA := Lib.hid (show Below w.heap.size w (wr.alloc (.cells #[.string t, .int .i64 kd, .string v] 86)) from below_next HB.out (belowNew wr _))
      clear c0 c1 c2 hb hsm hZ
      by_cases hz : Z = 0
      · subst hz
        have HF := Lib.hid (show E = chkL (l.take (k + 1)) (l.drop (k + 1)) by rw [HA.out, HST.out, if_pos rfl])
        go_wp2_with fail
        go_region_with (go_at_call 133; (with_reducible refine (HCK.out _ (H1.out.below HBA.out.drew) (HT.out.below HBA.out.drew)).mono ?_); rintro e w1 ⟨rfl, hb1⟩; have HB1 := Lib.hid (below_next HBA.out.drew hb1); clear hb1)
        all_goals
          go_wp2_with fail
          go_roundw
          case rel => exact ⟨k + 1, by omega, by go_num, HF.out, HB1.out⟩
          case measure => simp [intOf]; omega
      · have HF := Lib.hid (show E = Z by rw [HA.out, HST.out, if_neg hz])
        have hz1 := errno_ne hz
        go_wp2_with fail
        go_region_with (go_at_call 133; (with_reducible refine (HCK.out _ (H1.out.below HBA.out.drew) (HT.out.below HBA.out.drew)).mono ?_); rintro e w1 ⟨rfl, hb1⟩; have HB1 := Lib.hid (below_next HBA.out.drew hb1); clear hb1)
        all_goals
          go_wp2_with fail
          go_ret
          exact ⟨by rw [HF.out]; rfl, HB1.out⟩
    · have hd : decide ((k : Int) < (n : Int)) = false := by simp; omega
      have HF := Lib.hid (show E = 0 by rw [HA.out, chkL_end _ _ _ (by rw [← HN.out]; omega)])
      go_wp2_with fail
      go_ret
      exact ⟨by rw [HF.out]; rfl, HB.out⟩

set_option maxRecDepth 100000 in
set_option maxHeartbeats 4000000 in
theorem chk_core (a0 : Option Addr) (c m : Nat) (n : Nm) (w : World) (h : RLies w a0 n) (hn : m = n.length) (hs : SmallN n) (hT : Tab w) :
    Calls Tryz.prog 85 #[.agg #[.slice a0 m c]] w fun e w' => e = .returned (.int .i64 ((chkN n : Nat) : Int)) ∧ Below w.heap.size w w' := by
  by_cases h4 : 8 < m
  · have e : chkN n = 2 := by unfold chkN; rw [if_pos (by omega)]
    have d4 : decide ((8 : Int) < (m : Int)) = true := by simp; omega
    rw [e]
    clear e hn h hs hT h4
    go_enter Tryz.func85, Tryz.ntmps85
    go_wp2_with fail
    go_ret
    exact ⟨rfl, belowNew w _⟩
  have d4 : decide ((8 : Int) < (m : Int)) = false := by simp; omega
  have e : chkN n = chkRs n := by unfold chkN; rw [if_neg (by omega)]
  rw [e]
  have hL : m ≤ 1000000 := by omega
  obtain ⟨E, hE⟩ : ∃ E, E = chkRs n := ⟨_, rfl⟩
  rw [← hE]
  have HE := Lib.hid hE
  have H1 := Lib.hid h
  have HN := Lib.hid hn
  have HS := Lib.hid hs
  have HT := Lib.hid hT
  clear h hn hs hT e hE h4
  go_enter Tryz.func85, Tryz.ntmps85
  go_wp2_with fail
  go_loopw [13] (fun i wr => ∃ k : Nat, k ≤ m ∧ i = .int .i64 k ∧ E = chkRs (n.drop k) ∧ Below w.heap.size w wr) (fun i _ => m - (intOf i).toNat)
  case atStart => exact ⟨0, Nat.zero_le _, rfl, by rw [List.drop_zero]; exact HE.out, belowNew w _⟩
  case round =>
    obtain ⟨k, hk, rfl, hA, hb⟩ := hrel
    have HB := Lib.hid hb
    have HA := Lib.hid hA
    clear hb hA
    by_cases hlt : k < m
    · have hd : decide ((k : Int) < (m : Int)) = true := by simp; omega
      obtain ⟨b, o, rfl, hb, a', c', c0, hc', hL⟩ := H1.out.at k (by rw [← HN.out]; exact hlt)
      have a0 : wr.cell? ⟨b, o + k, none⟩ = _ := (HB.out.cell (p := ⟨b, o + k, none⟩) hb).trans c0
      have HST := Lib.hid (chkRs_step n k (by rw [← HN.out]; exact hlt))
      have hsm := HS.out.2 k (by rw [← HN.out]; exact hlt)
      generalize n.getD k [] = r at a0 HST hsm hc' hL
      obtain ⟨Z, hZ⟩ : ∃ Z, Z = chkR r := ⟨_, rfl⟩
      obtain ⟨q, hq⟩ : ∃ q, q = r.length := ⟨_, rfl⟩
      rw [← hZ] at HST
      rw [← hq] at a0 hc'
      have HCK := Lib.hid (chkL_any a' c' q r wr (hL.below HB.out) hq hc' hsm (HT.out.below HB.out))
      rw [← hZ] at HCK
      clear c0 hb hsm hZ hq hL hc'
      by_cases hz : Z = 0
      · subst hz
        have HF := Lib.hid (show E = chkRs (n.drop (k + 1)) by rw [HA.out, HST.out, if_pos rfl])
        go_wp2_with (go_at_call 109; (with_reducible refine HCK.out.mono ?_); rintro e w1 ⟨rfl, hb1⟩; have HB1 := Lib.hid (below_next HB.out hb1); clear hb1)
        go_roundw
        case rel => exact ⟨k + 1, by omega, by go_num, HF.out, HB1.out⟩
        case measure => simp [intOf]; omega
      · have HF := Lib.hid (show E = Z by rw [HA.out, HST.out, if_neg hz])
        have hz1 := errno_ne hz
        go_wp2_with (go_at_call 109; (with_reducible refine HCK.out.mono ?_); rintro e w1 ⟨rfl, hb1⟩; have HB1 := Lib.hid (below_next HB.out hb1); clear hb1)
        go_ret
        exact ⟨by rw [HF.out]; rfl, HB1.out⟩
    · have hd : decide ((k : Int) < (m : Int)) = false := by simp; omega
      have HF := Lib.hid (show E = 0 by rw [HA.out, chkRs_end _ _ (by rw [← HN.out]; omega)])
      go_wp2_with fail
      go_ret
      exact ⟨by rw [HF.out]; rfl, HB.out⟩
end Go.Proofs.YtbpdenfiifcfcaaGreatDoor
namespace Go.Proofs.YtbpdenfiifcfcaaGreatDoor
open Go.RowKit

end Go.Proofs.YtbpdenfiifcfcaaGreatDoor
namespace Go.Proofs.YtbpdenfiifcfcaaGreatDoor
open Go.RowKit

end Go.Proofs.YtbpdenfiifcfcaaGreatDoor
