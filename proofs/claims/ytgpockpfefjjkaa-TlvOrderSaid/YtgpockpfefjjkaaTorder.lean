/-
  The contract of tlv.Order: the strings in ascending order, one after the other; nothing that was there before the call has changed.
-/
import Derived.Test.YtgpockpfefjjkaaTslay
import Derived.Test.YtgpockpfefjjkaaTtotal
import Derived.Lib.Join
namespace Go.Proofs.Ytgpockpfefjjkaa
open Go.RowKit

/-- Byte strings in ascending order. -/
def ordL (L : List (List UInt8)) : List (List UInt8) := L.mergeSort fun x y => decide (x ≤ y)
def lists (ss : List ByteArray) : List (List UInt8) := ss.map fun s => s.data.toList
def strOf (l : List UInt8) : ByteArray := ⟨l.toArray⟩
theorem join_flat (L : List (List UInt8)) : Lib.join L [] = L.flatten := by
  unfold Lib.join
  induction L with
  | nil => rfl
  | cons a r ih =>
    cases r with
    | nil => simp [List.intercalate, List.intersperse]
    | cons b t => simp only [List.intercalate, List.intersperse, List.flatten_cons, List.nil_append] at ih ⊢; rw [ih]
theorem flat_cat (ss : List ByteArray) : (lists ss).flatten = cat ss := by simp [lists, cat, List.flatMap]
theorem ordL_length (L : List (List UInt8)) : (ordL L).length = L.length := by simp [ordL]
theorem ordL_perm (L : List (List UInt8)) : (ordL L).Perm L := List.mergeSort_perm L _
theorem ordL_flat_length (L : List (List UInt8)) : (ordL L).flatten.length = L.flatten.length := by
  rw [List.length_flatten, List.length_flatten]
  exact ((ordL_perm L).map List.length).sum_nat
theorem strOf_back (L : List (List UInt8)) : (L.map strOf).map (·.data.toList) = L := by
  induction L with
  | nil => rfl
  | cons a r ih => simp only [List.map_cons] at ih ⊢; rw [ih]; simp [strOf]
theorem encStr_strings (ss : List ByteArray) : ss.map Value.string = (lists ss).map encStr := by
  simp [lists, encStr]

set_option maxRecDepth 100000 in
set_option maxHeartbeats 1000000 in
theorem order_none (a : Option Addr) (c : Nat) (w : World) :
    Calls Try.prog 22 #[.slice a 0 c] w fun e w' => e = .returned (.string ⟨#[]⟩) ∧ Below w.heap.size w w' := by
  cases a with
  | none =>
    go_enter Try.func22, Try.ntmps22
    go_wp2_with (first | (go_at_call 42; (with_reducible refine (clone_nil 0 c _).mono ?_); rintro e w1 ⟨rfl, rfl⟩) | (go_at_call 43; (with_reducible refine (sort_none none 0 _).mono ?_); rintro e w1 ⟨rfl, rfl⟩) | (go_at_call 44; (with_reducible refine (join_none none 0 ⟨#[]⟩ _).mono ?_); rintro e w1 ⟨rfl, rfl⟩))
    go_ret
    exact ⟨rfl, Below.refl _ _⟩
  | some a =>
    go_enter Try.func22, Try.ntmps22
    go_wp2_with (first | (go_at_call 42; (with_reducible refine (clone_zero a c _).mono ?_); rintro e w1 ⟨v, rfl, ho, hne, hb⟩; have HB := Lib.hid hb; obtain ⟨p, k, rfl⟩ : ∃ p k, v = .slice p 0 k := (by rcases ho.2 with ⟨h, _⟩ | ⟨g, k, cur, h, _⟩ <;> exact ⟨_, _, h⟩); clear ho hne hb) | (go_at_call 43; (with_reducible refine (sort_none p k _).mono ?_); rintro e w2 ⟨rfl, rfl⟩) | (go_at_call 44; (with_reducible refine (join_none p k ⟨#[]⟩ _).mono ?_); rintro e w3 ⟨rfl, rfl⟩))
    go_ret
    exact ⟨rfl, HB.out⟩

set_option maxRecDepth 100000 in
set_option maxHeartbeats 1000000 in
theorem order_some (b o c : Nat) (ss : List ByteArray) (w : World) (hc : ∀ i, i < ss.length → w.cell? ⟨b, o + i, none⟩ = some (.string (ss.getD i ByteArray.empty))) (hn : ss.length ≤ 1000) (hm : (cat ss).length ≤ 1099511627776) :
    Calls Try.prog 22 #[.slice (some ⟨b, o, none⟩) ss.length c] w fun e w' => e = .returned (.string ⟨(ordL (lists ss)).flatten.toArray⟩) ∧ Below w.heap.size w w' := by
  obtain ⟨n, hln⟩ : ∃ n, n = ss.length := ⟨_, rfl⟩
  obtain ⟨O, hO⟩ : ∃ O, O = ordL (lists ss) := ⟨_, rfl⟩
  have hOl : O.length = n := by rw [hO, ordL_length, hln]; simp [lists]
  have HC := Lib.hid (clone_any b o n c ss w (by omega) (by omega) hc)
  have HJ := Lib.hid (show (Lib.join ((O.map strOf).map (·.data.toList)) []).length ≤ 140737488355328 by
    rw [strOf_back, join_flat, hO, ordL_flat_length, flat_cat]; omega)
  have HJ2 := Lib.hid (show Lib.join ((O.map strOf).map (·.data.toList)) [] = (ordL (lists ss)).flatten by
    rw [strOf_back, join_flat, hO])
  rw [← hln]
  have HLN := Lib.hid hln
  have HO := Lib.hid hO
  have HOL := Lib.hid hOl
  have HN := Lib.hid hn
  clear hln hc hm hO hOl hn
  go_enter Try.func22, Try.ntmps22
  go_wp2_with (go_at_call 42; (with_reducible refine HC.out.mono ?_); rintro e w1 ⟨v, rfl, ho, hne, hb⟩; have HB := Lib.hid hb; have HW := Lib.hid ho; have HNE := Lib.hid hne; clear ho hne hb)
  obtain ⟨g, cap, cur, hv, hg, hblk, h1, h2, h3, h4⟩ : ∃ g cap cur, v = .slice (some ⟨g, 0, none⟩) n cap ∧ w.heap.size ≤ g ∧ w1.heap[g]? = some (.cells cur 9 (0, 0)) ∧ n ≤ cap ∧ cap ≤ maxLen ∧ cur.size = cap * 1 ∧ cur.toList.take (n * 1) = (ss.take n).map Value.string := by
    rcases HW.out.2 with ⟨h, _⟩ | h
    · exact absurd h HNE.out
    · exact h
  subst hv
  have HG := Lib.hid hblk
  have hcur : cur.toList.take (lists ss).length = (lists ss).map encStr := by
    have e : (lists ss).length = n := by rw [HLN.out]; simp [lists]
    rw [e, ← encStr_strings, ← Nat.mul_one n, h4, HLN.out, List.take_length]
  have hln2 : (lists ss).length = n := by rw [HLN.out]; simp [lists]
  have hsort := sort_any g 0 cap (lists ss) w1 (holds_of_block hblk hcur) (Array.getElem?_eq_some_iff.1 hblk).1 (by have := HN.out; have := HLN.out; omega)
  rw [hln2] at hsort
  have HSO := Lib.hid hsort
  have H1 := Lib.hid h1
  have H2 := Lib.hid h2
  have H3 := Lib.hid h3
  have HGG := Lib.hid hg
  have HL2 := Lib.hid hln2
  clear hsort hblk hcur h1 h2 h3 h4 hg hln2 HC
  go_wp2_with (go_at_call 43; (with_reducible refine HSO.out.mono ?_); rintro e w2 ⟨rfl, m, os, hw2⟩; have HW2 := Lib.hid hw2; clear hw2)
  have ho2 : w2.ownsRow w.heap.size 9 1 (.slice (some ⟨g, 0, none⟩) n cap) n (O.map encStr) := by
    rw [HW2.out, HO.out]
    have := ownsRow_sorted (n := m) (os := os) (ts := ordL (lists ss)) (ss := lists ss) (by rw [ordL_length]) HGG.out HG.out (by rw [HL2.out]; exact H1.out) H2.out H3.out
    rwa [HL2.out] at this
  have hgr : w1.grownBy w2 (some g) := by rw [HW2.out]; exact grownBy_sorted _
  have hb2 : Below w.heap.size w w2 := HB.out.grown hgr HB.out.size (fun k e => by obtain rfl := Option.some.inj e; exact HGG.out)
  have hglt : g < w2.heap.size := (World.ownsRow.lt ho2 g rfl).2
  have hj := join_any g 0 cap (O.map strOf) ⟨#[]⟩ w2 (fun j x hx => by
    rw [Nat.zero_add]
    have hjl : j < (O.map strOf).length := (List.getElem?_eq_some_iff.1 hx).1
    rw [World.ownsRow.cellAt ho2 j (by simp at hjl; have := HOL.out; omega)]
    have he : O.map encStr = (O.map strOf).map Value.string := by simp [strOf, encStr]
    rw [he, List.getElem?_map, hx]
    rfl) hglt (by simp; have := HOL.out; have := HN.out; have := HLN.out; omega) (by simp; have := HOL.out; have := H1.out; omega) HJ.out
  have e3 : (O.map strOf).length = n := by simp; exact HOL.out
  rw [e3] at hj
  have HJN := Lib.hid hj
  have HB2 := Lib.hid hb2
  clear hj hb2 hgr ho2 hglt e3
  go_wp2_with (go_at_call 44; (with_reducible refine HJN.out.mono ?_); rintro e w3 ⟨he, hb3⟩; obtain rfl : e = .returned (.string ⟨(ordL (lists ss)).flatten.toArray⟩) := (by rw [he]; exact congrArg (fun l => Ending.returned (.string ⟨List.toArray l⟩)) HJ2.out); have HB3 := Lib.hid hb3; clear hb3 he)
  go_ret
  exact ⟨rfl, HB2.out.trans (HB3.out.mono HB2.out.size)⟩

theorem order_any (v : Value) (ss : List ByteArray) (w : World) (hv : Reads w v ss) (hn : ss.length ≤ 1000) (hm : (cat ss).length ≤ 1099511627776) :
    Calls Try.prog 22 #[v] w fun e w' => e = .returned (.string ⟨(ordL (lists ss)).flatten.toArray⟩) ∧ Below w.heap.size w w' := by
  obtain ⟨a, c, rfl, h⟩ := hv
  by_cases h0 : ss = []
  · subst h0
    have e : (ordL (lists [])).flatten = [] := by simp [ordL, lists]
    rw [e]
    exact order_none a c w
  · rcases h with h | ⟨b, o, rfl, hc⟩
    · exact absurd h h0
    · exact order_some b o c ss w hc hn hm
end Go.Proofs.Ytgpockpfefjjkaa
