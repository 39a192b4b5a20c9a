/-
  The contract of tlv.Order: the strings in ascending order, one after the other; nothing that was there before the call has changed.
  The contracts of tlv.Ascending and of the reference's Ascending: whether no element's Raw is less than the one before it.
  The contract of the reference's Order: the strings in ascending order, one after the other; nothing that was there before the call has changed.
  The encodings of attributes, relative names and names; the contracts of the program's and the reference's wrap, OID and encodeAttribute.
  The contracts of encodeAttribute, and of the reference's OID.
-/
import Derived.Test.YtflpajbcomhkpaaGreatDoorUaa
import Derived.Test.YtflpajbcomhkpaaGreatDoorUat
import Derived.Test.YtflpajbcomhkpaaGreatDoorUao
import Derived.Lib.Join
import Derived.Test.YtflpajbcomhkpaaGreatDoorUas
import Derived.Laws.Cover1
import Derived.Test.YtflpajbcomhkpaaGreatDoorUan
import Derived.Test.YtflpajbcomhkpaaGreatDoorUap
import Derived.Test.YtflpajbcomhkpaaGreatDoorUar
import Derived.Test.YtflpajbcomhkpaaGreatDoorUah
import Derived.Deep.RegionHeld3
namespace Go.Proofs.YtflpajbcomhkpaaGreatDoor
open Go.RowKit

/-- Byte strings in ascending order. -/
def ordL (L : List (List UInt8)) : List (List UInt8) := L.mergeSort fun x y => decide (x ≤ y)
def lists (ss : List ByteArray) : List (List UInt8) := ss.map fun s => s.data.toList
theorem join_flat (L : List (List UInt8)) : Lib.join L [] = L.flatten := by
  unfold Lib.join
  induction L with
  | nil => rfl
  | cons a r ih =>
    cases r with
    | nil => simp [List.intercalate, List.intersperse]
    | cons b t => simp only [List.intercalate, List.intersperse, List.flatten_cons, List.nil_append] at ih ⊢; rw [ih]
theorem flat_cat (ss : List ByteArray) : (lists ss).flatten = cat_t ss := by simp [lists, cat_t, List.flatMap]
theorem ordL_length (L : List (List UInt8)) : (ordL L).length = L.length := by simp [ordL]
theorem ordL_perm (L : List (List UInt8)) : (ordL L).Perm L := List.mergeSort_perm L _
theorem ordL_flat_length (L : List (List UInt8)) : (ordL L).flatten.length = L.flatten.length := by
  rw [List.length_flatten, List.length_flatten]
  exact ((ordL_perm L).map List.length).sum_nat
theorem strOf_back (L : List (List UInt8)) : (L.map strOf).map (·.data.toList) = L := by
  induction L with
  | nil => rfl
  | cons a r ih => simp only [List.map_cons] at ih ⊢; rw [ih]; simp [strOf]
theorem encStr_strings (ss : List ByteArray) : ss.map Value.string = (lists ss).map encStr := by
  simp [lists, encStr]

set_option maxRecDepth 100000 in
set_option maxHeartbeats 1000000 in
theorem order_none (a : Option Addr) (c : Nat) (w : World) :
    Calls Tryz.prog 143 #[.slice a 0 c] w fun e w' => e = .returned (.string ⟨#[]⟩) ∧ Below w.heap.size w w' := by
  cases a with
  | none =>
    go_enter Tryz.func143, Tryz.ntmps143
    go_wp2_with (first | (go_at_call 179; (with_reducible refine (clone_nil 0 c _).mono ?_); rintro e w1 ⟨rfl, rfl⟩) | (go_at_call 180; (with_reducible refine (sort_none none 0 _).mono ?_); rintro e w1 ⟨rfl, rfl⟩) | (go_at_call 166; (with_reducible refine (join_none none 0 ⟨#[]⟩ _).mono ?_); rintro e w1 ⟨rfl, rfl⟩))
    go_ret
    exact ⟨rfl, Below.refl _ _⟩
  | some a =>
    go_enter Tryz.func143, Tryz.ntmps143
    go_wp2_with (first | (go_at_call 179; (with_reducible refine (clone_zero a c _).mono ?_); rintro e w1 ⟨v, rfl, ho, hne, hb⟩; have HB := Lib.hid hb; obtain ⟨p, k, rfl⟩ : ∃ p k, v = .slice p 0 k := (by rcases ho.2 with ⟨h, _⟩ | ⟨g, k, cur, h, _⟩ <;> exact ⟨_, _, h⟩); clear ho hne hb) | (go_at_call 180; (with_reducible refine (sort_none p k _).mono ?_); rintro e w2 ⟨rfl, rfl⟩) | (go_at_call 166; (with_reducible refine (join_none p k ⟨#[]⟩ _).mono ?_); rintro e w3 ⟨rfl, rfl⟩))
    go_ret
    exact ⟨rfl, HB.out⟩

set_option maxRecDepth 100000 in
set_option maxHeartbeats 1000000 in
theorem order_some (b o c : Nat) (ss : List ByteArray) (w : World) (hc : ∀ i, i < ss.length → w.cell? ⟨b, o + i, none⟩ = some (.string (ss.getD i ByteArray.empty))) (hn : ss.length ≤ 1000) (hm : (cat_t ss).length ≤ 1099511627776) :
    Calls Tryz.prog 143 #[.slice (some ⟨b, o, none⟩) ss.length c] w fun e w' => e = .returned (.string ⟨(ordL (lists ss)).flatten.toArray⟩) ∧ Below w.heap.size w w' := by
  obtain ⟨n, hln⟩ : ∃ n, n = ss.length := ⟨_, rfl⟩
  obtain ⟨O, hO⟩ : ∃ O, O = ordL (lists ss) := ⟨_, rfl⟩
  have hOl : O.length = n := by rw [hO, ordL_length, hln]; simp [lists]
  have HC := Lib.hid (clone_any b o n c ss w (by omega) (by omega) hc)
  have HJ := Lib.hid (show (Lib.join ((O.map strOf).map (·.data.toList)) []).length ≤ 140737488355328 by
    rw [strOf_back, join_flat, hO, ordL_flat_length, flat_cat]; omega)
  have HJ2 := Lib.hid (show Lib.join ((O.map strOf).map (·.data.toList)) [] = (ordL (lists ss)).flatten by
    rw [strOf_back, join_flat, hO])
  rw [← hln]
  have HLN := Lib.hid hln
  have HO := Lib.hid hO
  have HOL := Lib.hid hOl
  have HN := Lib.hid hn
  clear hln hc hm hO hOl hn
  go_enter Tryz.func143, Tryz.ntmps143
  go_wp2_with (go_at_call 179; (with_reducible refine HC.out.mono ?_); rintro e w1 ⟨v, rfl, ho, hne, hb⟩; have HB := Lib.hid hb; have HW := Lib.hid ho; have HNE := Lib.hid hne; clear ho hne hb)
  obtain ⟨g, cap, cur, hv, hg, hblk, h1, h2, h3, h4⟩ : ∃ g cap cur, v = .slice (some ⟨g, 0, none⟩) n cap ∧ w.heap.size ≤ g ∧ w1.heap[g]? = some (.cells cur 9 (0, 0)) ∧ n ≤ cap ∧ cap ≤ maxLen ∧ cur.size = cap * 1 ∧ cur.toList.take (n * 1) = (ss.take n).map Value.string := by
    rcases HW.out.2 with ⟨h, _⟩ | h
    · exact absurd h HNE.out
    · exact h
  subst hv
  have HG := Lib.hid hblk
  have hcur : cur.toList.take (lists ss).length = (lists ss).map encStr := by
    have e : (lists ss).length = n := by rw [HLN.out]; simp [lists]
    rw [e, ← encStr_strings, ← Nat.mul_one n, h4, HLN.out, List.take_length]
  have hln2 : (lists ss).length = n := by rw [HLN.out]; simp [lists]
  have hsort := sort_any g 0 cap (lists ss) w1 (holds_of_block hblk hcur) (Array.getElem?_eq_some_iff.1 hblk).1 (by have := HN.out; have := HLN.out; omega)
  rw [hln2] at hsort
  have HSO := Lib.hid hsort
  have H1 := Lib.hid h1
  have H2 := Lib.hid h2
  have H3 := Lib.hid h3
  have HGG := Lib.hid hg
  have HL2 := Lib.hid hln2
  clear hsort hblk hcur h1 h2 h3 h4 hg hln2 HC
  go_wp2_with (go_at_call 180; (with_reducible refine HSO.out.mono ?_); rintro e w2 ⟨rfl, m, os, hw2⟩; have HW2 := Lib.hid hw2; clear hw2)
  have ho2 : w2.ownsRow w.heap.size 9 1 (.slice (some ⟨g, 0, none⟩) n cap) n (O.map encStr) := by
    rw [HW2.out, HO.out]
    have := ownsRow_sorted (n := m) (os := os) (ts := ordL (lists ss)) (ss := lists ss) (by rw [ordL_length]) HGG.out HG.out (by rw [HL2.out]; exact H1.out) H2.out H3.out
    rwa [HL2.out] at this
  have hgr : w1.grownBy w2 (some g) := by rw [HW2.out]; exact grownBy_sorted _
  have hb2 : Below w.heap.size w w2 := HB.out.grown hgr HB.out.size (fun k e => by obtain rfl := Option.some.inj e; exact HGG.out)
  have hglt : g < w2.heap.size := (World.ownsRow.lt ho2 g rfl).2
  have hj := join_any g 0 cap (O.map strOf) ⟨#[]⟩ w2 (fun j x hx => by
    rw [Nat.zero_add]
    have hjl : j < (O.map strOf).length := (List.getElem?_eq_some_iff.1 hx).1
    rw [World.ownsRow.cellAt ho2 j (by simp at hjl; have := HOL.out; omega)]
    have he : O.map encStr = (O.map strOf).map Value.string := by simp [strOf, encStr]
    rw [he, List.getElem?_map, hx]
    rfl) hglt (by simp; have := HOL.out; have := HN.out; have := HLN.out; omega) (by simp; have := HOL.out; have := H1.out; omega) HJ.out
  have e3 : (O.map strOf).length = n := by simp; exact HOL.out
  rw [e3] at hj
  have HJN := Lib.hid hj
  have HB2 := Lib.hid hb2
  clear hj hb2 hgr ho2 hglt e3
  go_wp2_with (go_at_call 166; (with_reducible refine HJN.out.mono ?_); rintro e w3 ⟨he, hb3⟩; obtain rfl : e = .returned (.string ⟨(ordL (lists ss)).flatten.toArray⟩) := (by rw [he]; exact congrArg (fun l => Ending.returned (.string ⟨List.toArray l⟩)) HJ2.out); have HB3 := Lib.hid hb3; clear hb3 he)
  go_ret
  exact ⟨rfl, HB2.out.trans (HB3.out.mono HB2.out.size)⟩

theorem order_any (v : Value) (ss : List ByteArray) (w : World) (hv : Reads w v ss) (hn : ss.length ≤ 1000) (hm : (cat_t ss).length ≤ 1099511627776) :
    Calls Tryz.prog 143 #[v] w fun e w' => e = .returned (.string ⟨(ordL (lists ss)).flatten.toArray⟩) ∧ Below w.heap.size w w' := by
  obtain ⟨a, c, rfl, h⟩ := hv
  by_cases h0 : ss = []
  · subst h0
    have e : (ordL (lists [])).flatten = [] := by simp [ordL, lists]
    rw [e]
    exact order_none a c w
  · rcases h with h | ⟨b, o, rfl, hc⟩
    · exact absurd h h0
    · exact order_some b o c ss w hc hn hm
end Go.Proofs.YtflpajbcomhkpaaGreatDoor
namespace Go.Proofs.YtflpajbcomhkpaaGreatDoor
open Go.RowKit

/-- The bytes of the i-th element. -/
def rawAt (l : List El) (i : Nat) : List UInt8 := (l.getD i (0, ⟨#[]⟩, ⟨#[]⟩)).2.2.data.toList
theorem cb_iff : ∀ x y : List UInt8, Lib.compareBytes x y < 0 ↔ x < y
  | [], [] => by simp [Lib.compareBytes]
  | [], _ :: _ => by simp [Lib.compareBytes]
  | _ :: _, [] => by simp [Lib.compareBytes]
  | a :: x, b :: y => by
    rw [List.cons_lt_cons_iff, ← cb_iff x y]
    rw [show Lib.compareBytes (a :: x) (b :: y) = if a < b then -1 else if b < a then 1 else Lib.compareBytes x y from rfl]
    by_cases h1 : a < b
    · simp [h1]
    · by_cases h2 : b < a
      · rw [if_neg h1, if_pos h2]
        have : ¬ a = b := fun e => by rw [e] at h2; exact absurd h2 (UInt8.lt_irrefl b)
        simp [h1, this]
      · rw [if_neg h1, if_neg h2]
        have : a = b := UInt8.le_antisymm (UInt8.not_lt.1 h2) (UInt8.not_lt.1 h1)
        simp [this]
def ascP (l : List El) (n : Nat) : Prop := ∀ i, 1 ≤ i → i < n → ¬ rawAt l i < rawAt l (i - 1)

/-- At the address lie the elements l. -/
def EAt (w : World) (a : Option Addr) (l : List El) : Prop := ∀ k (h : k < l.length), ∃ g, a = some ⟨g, 0, none⟩ ∧ ∀ j, j < 3 → w.cell? ⟨g, k * 3 + j, none⟩ = (elCells l[k])[j]?
theorem EAt.of {w : World} {B : Nat} {v : Value} {l : List El} (h : OwnE w B v l) : ∃ a c, v = .slice a l.length c ∧ EAt w a l := by
  have h' := own_base_t h
  rcases h.2 with ⟨hv, h0⟩ | ⟨g, cap, cur, hv, _⟩
  · exact ⟨none, 0, by rw [hv, h0], fun k hk => by omega⟩
  · rw [hv] at h'
    exact ⟨_, cap, hv, fun k hk => ⟨g, rfl, fun j hj => els_cell h' k hk j hj⟩⟩
theorem EAt.two {w wr : World} {a : Option Addr} {l : List El} (h : EAt w a l) (hb : Below w.heap.size w wr) (k : Nat) (hk1 : 1 ≤ k) (hk : k < l.length) :
    ∃ (g : Nat) (t c t' c' : Value) (x y : ByteArray), a = some ⟨g, 0, none⟩ ∧ wr.cell? ⟨g, k * 3, none⟩ = some t ∧ wr.cell? ⟨g, k * 3 + 1, none⟩ = some c ∧ wr.cell? ⟨g, k * 3 + 2, none⟩ = some (.string x) ∧
      wr.cell? ⟨g, (k - 1) * 3, none⟩ = some t' ∧ wr.cell? ⟨g, (k - 1) * 3 + 1, none⟩ = some c' ∧ wr.cell? ⟨g, (k - 1) * 3 + 2, none⟩ = some (.string y) ∧ rawAt l k = x.data.toList ∧ rawAt l (k - 1) = y.data.toList := by
  obtain ⟨g, rfl, h1⟩ := h k hk
  obtain ⟨g', e, h2⟩ := h (k - 1) (by omega)
  obtain rfl : g = g' := by simpa using e
  have hg : g < w.heap.size := block_lt_of_cell (a := ⟨g, k * 3 + 0, none⟩) (h1 0 (by omega))
  have o1 : ∀ j, j < 3 → wr.cell? ⟨g, k * 3 + j, none⟩ = (elCells l[k])[j]? := fun j hj => (hb.cell (p := ⟨g, k * 3 + j, none⟩) hg).trans (h1 j hj)
  have o2 : ∀ j, j < 3 → wr.cell? ⟨g, (k - 1) * 3 + j, none⟩ = (elCells (l[k - 1]'(by omega)))[j]? := fun j hj => (hb.cell (p := ⟨g, (k - 1) * 3 + j, none⟩) hg).trans (h2 j hj)
  exact ⟨g, _, _, _, _, _, _, rfl, o1 0 (by omega), o1 1 (by omega), o1 2 (by omega), o2 0 (by omega), o2 1 (by omega), o2 2 (by omega),
    by unfold rawAt; rw [List.getD_eq_getElem?_getD, List.getElem?_eq_getElem hk]; rfl, by unfold rawAt; rw [List.getD_eq_getElem?_getD, List.getElem?_eq_getElem (by omega)]; rfl⟩

set_option maxRecDepth 100000 in
theorem cmp_any_t (t c t2 c2 : Value) (x y : ByteArray) (w : World) :
    Calls Tryz.prog 226 #[.agg #[t, c, .string x], .agg #[t2, c2, .string y]] w fun e w' => e = .returned (.int .i64 (Lib.compareBytes x.data.toList y.data.toList)) ∧ Below w.heap.size w w' := by
  go_enter Tryz.func226, Tryz.ntmps226
  go_wp2_with (go_at_call 170; (with_reducible refine (compare_any x y _).mono ?_); rintro e w1 ⟨rfl, rfl⟩)
  go_ret
  exact ⟨rfl, belowNew2 w _ _⟩

set_option maxRecDepth 100000 in
set_option maxHeartbeats 1000000 in
theorem sorted_any (a : Option Addr) (c n : Nat) (l : List El) (w : World) (h : EAt w a l) (hn : n = l.length) (hL : n ≤ 1099511627776) :
    Calls Tryz.prog 225 #[.slice a n c, .func (.func 226) #[] #[]] w fun e w' => (∃ b : Bool, e = .returned (.bool b) ∧ (b = true ↔ ascP l l.length)) ∧ Below w.heap.size w w' := by
  have H1 := Lib.hid h
  have HN := Lib.hid hn
  clear h
  rw [← hn]
  clear hn
  go_enter Tryz.func225, Tryz.ntmps225
  go_wp2_with fail
  go_loopw [5] (fun i wr => ∃ k : Nat, k ≤ n ∧ i = .int .i64 ((k : Int) - 1) ∧ (∀ i, k ≤ i → 1 ≤ i → i < n → ¬ rawAt l i < rawAt l (i - 1)) ∧ Below w.heap.size w wr) (fun i _ => (intOf i + 1).toNat)
  case atStart => exact ⟨n, Nat.le_refl _, rfl, fun i h1 h2 h3 => by omega, Below.refl _ _⟩
  case round =>
    obtain ⟨k, hk, rfl, hA, hb⟩ := hrel
    have HB := Lib.hid hb
    have HA := Lib.hid hA
    clear hb hA
    by_cases hlt : 1 < k
    · obtain ⟨j, rfl⟩ : ∃ j, k = j + 1 := ⟨k - 1, by omega⟩
      have ej : ((j + 1 : Nat) : Int) - 1 = (j : Int) := by omega
      rw [ej]
      obtain ⟨g, t, c1, t2, c2, x, y, rfl, a0, a1, a2, b0, b1, b2, hX, hY⟩ := H1.out.two HB.out j (by omega) (by rw [← HN.out]; omega)
      have HX := Lib.hid hX
      have HY := Lib.hid hY
      have hd : decide (0 < (j : Int)) = true := by simp; omega
      have hjn : j < n := by omega
      have hjw : IntKind.i64.wrap ((j : Int) - 1) = ((j - 1 : Nat) : Int) := by simp [IntKind.wrap, IntKind.bits, IntKind.signed]; omega
      have hjm : j - 1 < n := by omega
      clear hX hY ej
      obtain ⟨z, hz⟩ : ∃ z, z = Lib.compareBytes x.data.toList y.data.toList := ⟨_, rfl⟩
      have hci := cb_iff x.data.toList y.data.toList
      rw [← hz] at hci
      have HZ := Lib.hid hz
      clear hz
      by_cases hless : z < 0
      · have dz : decide (z < 0) = true := by simpa using hless
        have HF := Lib.hid (show ¬ ascP l n from fun hh => hh j (by omega) hjn (by rw [HX.out, HY.out]; exact hci.1 hless))
        clear hci hless
        go_wp2_with fail
        go_region_with (go_at_call 226; (with_reducible refine (cmp_any_t t c1 t2 c2 x y _).mono ?_); rw [← HZ.out]; rintro e w1 ⟨rfl, hb1⟩; have HB1 := Lib.hid (below_next_t HB.out.drew hb1); clear hb1)
        all_goals
          go_wp2_with fail
          go_ret
          exact ⟨⟨false, rfl, fun hh => absurd hh (by decide), fun hh => absurd hh HF.out⟩, HB1.out⟩
      · have dz : decide (z < 0) = false := by simpa using hless
        have HF := Lib.hid (show ∀ i, j ≤ i → 1 ≤ i → i < n → ¬ rawAt l i < rawAt l (i - 1) from fun i h1 h2 h3 => by
          by_cases e : i = j
          · subst e; rw [HX.out, HY.out]; exact fun hh => hless (hci.2 hh)
          · exact HA.out i (by omega) h2 h3)
        clear hci hless
        go_wp2_with fail
        go_region_with (go_at_call 226; (with_reducible refine (cmp_any_t t c1 t2 c2 x y _).mono ?_); rw [← HZ.out]; rintro e w1 ⟨rfl, hb1⟩; have HB1 := Lib.hid (below_next_t HB.out.drew hb1); clear hb1)
        all_goals
          go_wp2_with fail
          go_roundw
          case rel => exact ⟨j, by omega, by go_num, HF.out, HB1.out⟩
          case measure => simp [intOf]; omega
    · have hd : decide (0 < (k : Int) - 1) = false := by simp; omega
      have HF := Lib.hid (show ascP l n from fun i h1 h2 => HA.out i (by omega) h1 h2)
      go_wp2_with fail
      go_ret
      exact ⟨⟨true, rfl, fun _ => HF.out, fun _ => rfl⟩, HB.out⟩

set_option maxRecDepth 100000 in
theorem asc_some (a : Option Addr) (c n : Nat) (l : List El) (w : World) (h : EAt w a l) (hn : n = l.length) (hL : n ≤ 1099511627776) :
    Calls Tryz.prog 193 #[.slice a n c] w fun e w' => (∃ b : Bool, e = .returned (.bool b) ∧ (b = true ↔ ascP l l.length)) ∧ Below w.heap.size w w' := by
  have HS := Lib.hid (sorted_any a c n l w h hn hL)
  clear h hn
  go_enter Tryz.func193, Tryz.ntmps193
  go_wp2_with (go_at_call 225; (with_reducible refine HS.out.mono ?_); rintro e w1 ⟨⟨b, rfl, hb⟩, hbb⟩; have HBB := Lib.hid hb; have HW := Lib.hid hbb; clear hb hbb)
  go_ret
  exact ⟨⟨b, rfl, HBB.out⟩, HW.out⟩
/-- Both, of a slice that the call has made. -/
theorem asc_any (B : Nat) (v : Value) (l : List El) (w : World) (h : OwnE w B v l) (hL : l.length ≤ 1099511627776) :
    Calls Tryz.prog 193 #[v] w fun e w' => (∃ b : Bool, e = .returned (.bool b) ∧ (b = true ↔ ascP l l.length)) ∧ Below w.heap.size w w' := by
  obtain ⟨a, c, rfl, hA⟩ := EAt.of h
  exact asc_some a c l.length l w hA rfl hL
end Go.Proofs.YtflpajbcomhkpaaGreatDoor
namespace Go.Proofs.YtflpajbcomhkpaaGreatDoor
open Go.RowKit

/-- The slice value v, of memory from block B on, holds the strings D. -/
def OwnS_t (w : World) (B : Nat) (v : Value) (D : List ByteArray) : Prop := w.ownsRow B 9 1 v D.length (D.map Value.string)
/-- There is one list in ascending order. -/
theorem sorted_one {D ss : List ByteArray} (h : (lists D).Pairwise (fun a b => ¬ b < a)) (hp : D.Perm ss) : lists D = ordL (lists ss) := by
  have tr : ∀ a b c : List UInt8, decide (a ≤ b) = true → decide (b ≤ c) = true → decide (a ≤ c) = true := fun a b c h1 h2 => by simp only [decide_eq_true_eq] at *; exact List.le_trans h1 h2
  have tot : ∀ a b : List UInt8, (decide (a ≤ b) || decide (b ≤ a)) = true := fun a b => by simp only [Bool.or_eq_true, decide_eq_true_eq]; exact List.le_total a b
  refine List.Perm.eq_of_pairwise (le := fun a b => decide (a ≤ b) = true) (fun a b _ _ h1 h2 => ?_) (h.imp fun {a b} hh => decide_eq_true (List.not_lt.1 hh)) (List.pairwise_mergeSort tr tot (lists ss)) ((show (lists D).Perm (lists ss) from hp.map _).trans (ordL_perm (lists ss)).symm)
  simp only [decide_eq_true_eq] at h1 h2
  exact List.le_antisymm h1 h2
theorem OwnS_t.lies {w : World} {B : Nat} {v : Value} {D : List ByteArray} (h : OwnS_t w B v D) : ∃ a c, v = .slice a D.length c ∧ Lies w a D := by
  rcases h.2 with ⟨hv, h0⟩ | ⟨g, cap, cur, hv, _⟩
  · exact ⟨none, 0, by rw [hv, h0], .inl (List.eq_nil_of_length_eq_zero h0)⟩
  · have h' := h
    rw [hv] at h'
    refine ⟨_, cap, hv, .inr ⟨g, 0, rfl, fun i hi => ?_⟩⟩
    rw [Nat.zero_add, World.ownsRow.cellAt h' i (by omega)]
    simp [hi]
end Go.Proofs.YtflpajbcomhkpaaGreatDoor
namespace Go.Proofs.YtflpajbcomhkpaaGreatDoor
open Go.RowKit

/-- The contents of the element of an object identifier. -/
noncomputable def oidS (s : ByteArray) : ByteArray := @dite _ (∃ a, Oid s.data.toList a) (Classical.propDecidable _) (fun h => strOf (enc h.choose)) (fun _ => ⟨#[]⟩)
theorem oidS_yes {s : ByteArray} {a : List Nat} (h : Oid s.data.toList a) : oidS s = strOf (enc a) := by
  have hx : ∃ a, Oid s.data.toList a := ⟨a, h⟩
  unfold oidS
  rw [dif_pos hx, oid_one hx.choose_spec h]
theorem oidS_no {s : ByteArray} (h : ∀ a, ¬ Oid s.data.toList a) : oidS s = ⟨#[]⟩ := by
  unfold oidS
  rw [dif_neg (fun ⟨a, k⟩ => h a k)]
/-- The element with the identifier octet T and the contents x. -/
def wr1 (T : Int) (x : ByteArray) : ByteArray := wrapStr T x.data.toList
def wr2 (T : Int) (x y : ByteArray) : ByteArray := wrapStr T (x.data.toList ++ y.data.toList)
noncomputable def encA (a : At) : ByteArray := wr2 48 (wr1 6 (oidS a.1)) (wr1 a.2.1 a.2.2)
noncomputable def encR (r : List At) : ByteArray := wr1 49 ⟨(ordL (lists (r.map encA))).flatten.toArray⟩
noncomputable def encN (n : Nm) : ByteArray := wrapStr 48 (cat_t (n.map encR))

/-! ### Slices of one and of two strings -/
theorem reads_one {w : World} {g : Nat} {x : ByteArray} (h : w.cell? ⟨g, 0, none⟩ = some (.string x)) : Reads w (.slice (some ⟨g, 0, none⟩) 1 1) [x] := by
  refine ⟨_, 1, rfl, .inr ⟨g, 0, rfl, fun i hi => ?_⟩⟩
  obtain rfl : i = 0 := by simpa using hi
  exact h
theorem reads_two {w : World} {g : Nat} {x y : ByteArray} (h : w.cell? ⟨g, 0, none⟩ = some (.string x)) (k : w.cell? ⟨g, 1, none⟩ = some (.string y)) : Reads w (.slice (some ⟨g, 0, none⟩) 2 2) [x, y] := by
  refine ⟨_, 2, rfl, .inr ⟨g, 0, rfl, fun i hi => ?_⟩⟩
  rcases (by simp at hi; omega : i = 0 ∨ i = 1) with rfl | rfl
  · exact h
  · exact k
theorem cat_one (x : ByteArray) : cat_t [x] = x.data.toList := by simp [cat_t]
theorem cat_two (x y : ByteArray) : cat_t [x, y] = x.data.toList ++ y.data.toList := by simp [cat_t]

/-! ### wrap -/
set_option maxRecDepth 100000 in
set_option maxHeartbeats 1000000 in
theorem dwrap_any (T : Int) (a : Option Addr) (n c : Nat) (ss : List ByteArray) (w : World) (hv : Reads w (.slice a n c) ss) (hn : ss.length < 4611686018427387904) :
    Calls Tryz.prog 103 #[.int .i64 T, .slice a n c] w fun e w' => e = .returned (.string (wrapStr T (cat_t ss))) ∧ Below w.heap.size w w' := by
  have HW := wrap_any T _ ss w hv hn
  unfold wrapVal at HW
  have H := Lib.hid HW
  clear HW hv hn
  go_enter Tryz.func103, Tryz.ntmps103
  go_wp2_with (go_at_call 62; (with_reducible refine H.out.mono ?_); rintro e w1 ⟨rfl, hb⟩; have HB := Lib.hid hb; clear hb)
  go_ret
  exact ⟨rfl, HB.out⟩
set_option maxRecDepth 100000 in
set_option maxHeartbeats 1000000 in
theorem rwrapd_any (T : Int) (a : Option Addr) (n c : Nat) (ss : List ByteArray) (w : World) (hv : Reads w (.slice a n c) ss) (hn : ss.length < 4611686018427387904) (hb : (cat_t ss).length ≤ 1099511627776) :
    Calls Tryz.prog 37 #[.int .i64 T, .slice a n c] w fun e w' => e = .returned (.string (wrapStr T (cat_t ss))) ∧ Below w.heap.size w w' := by
  have HW := rwrap_any T _ ss w hv hn hb
  unfold wrapVal at HW
  have H := Lib.hid HW
  clear HW hv hn hb
  go_enter Tryz.func37, Tryz.ntmps37
  go_wp2_with (go_at_call 79; (with_reducible refine H.out.mono ?_); rintro e w1 ⟨rfl, hb⟩; have HB := Lib.hid hb; clear hb)
  go_ret
  exact ⟨rfl, HB.out⟩
theorem dw1 (T : Int) (g : Nat) (x : ByteArray) (w : World) (h : w.cell? ⟨g, 0, none⟩ = some (.string x)) :
    Calls Tryz.prog 103 #[.int .i64 T, .slice (some ⟨g, 0, none⟩) 1 1] w fun e w' => e = .returned (.string (wr1 T x)) ∧ Below w.heap.size w w' := by
  have := dwrap_any T _ _ _ _ w (reads_one h) (by simp)
  rwa [cat_one] at this
theorem dw2 (T : Int) (g : Nat) (x y : ByteArray) (w : World) (h : w.cell? ⟨g, 0, none⟩ = some (.string x)) (k : w.cell? ⟨g, 1, none⟩ = some (.string y)) :
    Calls Tryz.prog 103 #[.int .i64 T, .slice (some ⟨g, 0, none⟩) 2 2] w fun e w' => e = .returned (.string (wr2 T x y)) ∧ Below w.heap.size w w' := by
  have := dwrap_any T _ _ _ _ w (reads_two h k) (by simp)
  rwa [cat_two] at this
theorem rw1 (T : Int) (g : Nat) (x : ByteArray) (w : World) (h : w.cell? ⟨g, 0, none⟩ = some (.string x)) (hx : x.size ≤ 1099511627776) :
    Calls Tryz.prog 37 #[.int .i64 T, .slice (some ⟨g, 0, none⟩) 1 1] w fun e w' => e = .returned (.string (wr1 T x)) ∧ Below w.heap.size w w' := by
  have := rwrapd_any T _ _ _ _ w (reads_one h) (by simp) (by rw [cat_one]; exact hx)
  rwa [cat_one] at this
theorem wrapStr_size (T : Int) (c : List UInt8) : (wrapStr T c).size ≤ 131080 := by
  unfold wrapStr
  split
  · rename_i h
    have hl : c.length ≤ 131072 := by
      unfold wrapErr at h
      split at h
      · cases h
      · split at h
        · cases h
        · omega
    show (wrapL T.toNat c).length ≤ _
    unfold wrapL
    rw [List.length_cons, List.length_append, lenO_length]
    have := lsz_le c.length
    omega
  · show 0 ≤ _; omega

/-! ### The contents of an object identifier -/
theorem denc_any (s : ByteArray) (w : World) (hs : s.size ≤ 1099511627) :
    Calls Tryz.prog 178 #[.string s] w fun e w' => (∃ er : Int, e = .returned (.tuple #[.string (oidS s), .int .i64 er])) ∧ Below w.heap.size w w' := by
  rcases oid_or s.data.toList with ⟨a, h⟩ | h
  · exact (enc_yes h w hs).mono fun e w' ⟨he, hb⟩ => ⟨⟨0, by rw [he, oidS_yes h]; rfl⟩, hb⟩
  · exact (enc_no h w hs).mono fun e w' ⟨he, hb⟩ => ⟨⟨11, by rw [he, oidS_no h]; rfl⟩, hb⟩
end Go.Proofs.YtflpajbcomhkpaaGreatDoor
namespace Go.Proofs.YtflpajbcomhkpaaGreatDoor
open Go.RowKit

theorem bx1 (V : World) (x : ByteArray) (T : TypeId) : (V.alloc (.cells #[.string x] T)).cell? ⟨V.heap.size, 0, none⟩ = some (.string x) := (one_facts (heap_alloc_new V _)).1
theorem bx1d (V : World) (x : ByteArray) (T : TypeId) : (V.alloc (.cells #[.string x] T)).drew.cell? ⟨V.heap.size, 0, none⟩ = some (.string x) := bx1 V x T
theorem bx2 (V : World) (x : ByteArray) (T : TypeId) (o : Obj) : ((V.alloc (.cells #[.string x] T)).alloc o).cell? ⟨V.heap.size, 0, none⟩ = some (.string x) := ((belowNew _ o).cell (p := ⟨V.heap.size, 0, none⟩) (by simp)).trans (bx1 V x T)
theorem bx2d (V : World) (x : ByteArray) (T : TypeId) (o : Obj) : ((V.alloc (.cells #[.string x] T)).alloc o).drew.cell? ⟨V.heap.size, 0, none⟩ = some (.string x) := bx2 V x T o
theorem bx3 (V : World) (x : ByteArray) (T : TypeId) (o : Obj) : ((V.alloc o).alloc (.cells #[.string x] T)).cell? ⟨V.heap.size + 1, 0, none⟩ = some (.string x) := by
  simp
theorem bx3d (V : World) (x : ByteArray) (T : TypeId) (o : Obj) : ((V.alloc o).alloc (.cells #[.string x] T)).drew.cell? ⟨V.heap.size + 1, 0, none⟩ = some (.string x) := bx3 V x T o
theorem by0 (V : World) (x y : ByteArray) (T : TypeId) : (V.alloc (.cells #[.string x, .string y] T)).cell? ⟨V.heap.size, 0, none⟩ = some (.string x) := by
  rw [cell_of_row _ _ 0 _ _ _ (heap_alloc_new V _)]; rfl
theorem by1 (V : World) (x y : ByteArray) (T : TypeId) : (V.alloc (.cells #[.string x, .string y] T)).cell? ⟨V.heap.size, 1, none⟩ = some (.string y) := by
  rw [cell_of_row _ _ 1 _ _ _ (heap_alloc_new V _)]; rfl

theorem by0d (V : World) (x y : ByteArray) (T : TypeId) : (V.alloc (.cells #[.string x, .string y] T)).drew.cell? ⟨V.heap.size, 0, none⟩ = some (.string x) := by0 V x y T
theorem by1d (V : World) (x y : ByteArray) (T : TypeId) : (V.alloc (.cells #[.string x, .string y] T)).drew.cell? ⟨V.heap.size, 1, none⟩ = some (.string y) := by1 V x y T
theorem cat128_len : ∀ (N : List Nat), (∀ v ∈ N, v < 34359738368) → (cat e128 N).length ≤ 5 * N.length
  | [], _ => by simp [cat]
  | x :: r, h => by
    have h1 := e128_len x (h x List.mem_cons_self)
    have h2 := cat128_len r (fun v hv => h v (List.mem_cons_of_mem _ hv))
    simp only [cat, List.length_append, List.length_cons]
    omega
theorem enc_len {l : List UInt8} {a : List Nat} (h : Oid l a) : (enc a).length ≤ 55 := by
  obtain ⟨h1, h2, h3, h4⟩ := (good_nums h.1).1
  have h5 := cat128_len (numsOf a) (fun v hv => by
    generalize numsOf a = N at hv h3 h4
    cases N with
    | nil => cases hv
    | cons x r =>
      rcases List.mem_cons.1 hv with rfl | hv
      · have : v ≤ 2147483727 := h3
        omega
      · have := h4 v hv
        omega)
  show (cat e128 (numsOf a)).length ≤ 55
  omega
theorem oidS_size (s : ByteArray) : (oidS s).size ≤ 55 := by
  rcases oid_or s.data.toList with ⟨a, h⟩ | h
  · rw [oidS_yes h, strOf_size]; exact enc_len h
  · rw [oidS_no h]; show 0 ≤ _; omega
set_option maxRecDepth 100000 in
set_option maxHeartbeats 8000000 in
theorem enca_any (a : At) (w : World) (hs : a.1.size ≤ 1099511627) :
    Calls Tryz.prog 142 #[atV a] w fun e w' => e = .returned (.string (encA a)) ∧ Below w.heap.size w w' := by
  obtain ⟨t, kd, v⟩ := a
  have H := Lib.hid (fun W => denc_any t W hs)
  unfold encA atV
  simp only
  obtain ⟨c, hc⟩ : ∃ c, c = oidS t := ⟨_, rfl⟩
  rw [← hc] at H ⊢
  obtain ⟨e1, he1⟩ : ∃ e1, e1 = wr1 6 c := ⟨_, rfl⟩
  obtain ⟨e2, he2⟩ : ∃ e2, e2 = wr1 kd v := ⟨_, rfl⟩
  have H1 := Lib.hid (fun g W h => dw1 6 g c W h)
  have H2 := Lib.hid (fun g W h => dw1 kd g v W h)
  rw [← he1] at H1
  rw [← he2] at H2
  rw [← he1, ← he2]
  have H3 := Lib.hid (fun g W h k => dw2 48 g e1 e2 W h k)
  have HZ := Lib.hid (belowNew w (.cells #[.string t, .int .i64 kd, .string v] 103))
  have HW := Lib.hid (at_facts (heap_alloc_new w (.cells #[.string t, .int .i64 kd, .string v] 103)))
  clear hc he1 he2 hs
  go_enter Tryz.func142, Tryz.ntmps142
  go_wp2_with (go_at_call 178; (with_reducible refine (H.out _).mono ?_); rintro e w1 ⟨⟨er, rfl⟩, hb⟩; have HB := Lib.hid hb; clear hb)
  obtain ⟨g, hg⟩ : ∃ g, g = w.heap.size := ⟨_, rfl⟩
  obtain ⟨c0, c1, c2, _, _, _, hlt⟩ := HW.out
  have d1 : w1.cell? ⟨g, 1, none⟩ = some (.int .i64 kd) := by rw [hg]; exact (HB.out.cell (p := ⟨w.heap.size, 1, none⟩) hlt).trans c1
  have d2 : w1.cell? ⟨g, 2, none⟩ = some (.string v) := by rw [hg]; exact (HB.out.cell (p := ⟨w.heap.size, 2, none⟩) hlt).trans c2
  have hltg : g < w1.heap.size := block_lt d1
  have HB1 := Lib.hid (below_next HZ.out HB.out)
  have HG := Lib.hid hg
  rw [← hg]
  clear c0 c1 c2 hlt hg HW HB HZ
  go_region_held3 (fun w' => w'.cell? ⟨g, 1, none⟩ = some (.int .i64 kd) ∧ w'.cell? ⟨g, 2, none⟩ = some (.string v)) (first | exact ⟨by assumption, by assumption⟩ | go_keep)
    (first
      | (go_at_call 103; (with_reducible refine (H1.out _ _ (by first | exact bx1 _ _ _ | exact bx1d _ _ _ | exact bx2 _ _ _ _ | exact bx2d _ _ _ _ | exact bx3 _ _ _ _ | exact bx3d _ _ _ _ | assumption)).mono ?_); rintro e x1 ⟨rfl, hb⟩; have hx : Below w1.heap.size w1 x1 := (by first | exact below_next (belowNew w1 _).drew hb | exact below_next (belowTwo w1 _ _).drew hb | exact below_next (belowNew w1 _) hb | exact below_next (belowTwo w1 _ _) hb | exact below_next HX2.out hb | exact below_next (below_next HX2.out (belowNew x2 _)) hb); have d1' := (hx.cell (p := ⟨g, 1, none⟩) hltg).trans d1; have d2' := (hx.cell (p := ⟨g, 2, none⟩) hltg).trans d2; (try (have rv := (hb.cell (p := ⟨w1.heap.size, 0, none⟩) (by simp <;> omega)).trans (bx2d w1 v 9 _))); (try (have rv := (hb.cell (p := ⟨w1.heap.size + 1, 0, none⟩) (by simp <;> omega)).trans (bx3d w1 v 9 _))); have HX1 := Lib.hid hx; clear hb hx)
      | (go_at_call 103; (with_reducible refine (H2.out _ _ (by first | exact bx1 _ _ _ | exact bx1d _ _ _ | exact bx2 _ _ _ _ | exact bx2d _ _ _ _ | exact bx3 _ _ _ _ | exact bx3d _ _ _ _ | assumption)).mono ?_); rintro e x2 ⟨rfl, hb⟩; have hx : Below w1.heap.size w1 x2 := (by first | exact below_next (belowNew w1 _).drew hb | exact below_next (belowTwo w1 _ _).drew hb | exact below_next (belowNew w1 _) hb | exact below_next (belowTwo w1 _ _) hb | exact below_next HX1.out hb | exact below_next (below_next HX1.out (belowNew x1 _)) hb); have d1' := (hx.cell (p := ⟨g, 1, none⟩) hltg).trans d1; have d2' := (hx.cell (p := ⟨g, 2, none⟩) hltg).trans d2; (try (have rv := (hb.cell (p := ⟨w1.heap.size, 0, none⟩) (by simp <;> omega)).trans (bx2d w1 c 9 _))); (try (have rv := (hb.cell (p := ⟨w1.heap.size + 1, 0, none⟩) (by simp <;> omega)).trans (bx3d w1 c 9 _))); have HX2 := Lib.hid hx; clear hb hx)
      | (go_at_call 103; (with_reducible refine (H3.out _ _ (by first | exact by0 _ _ _ _ | exact by0d _ _ _ _) (by first | exact by1 _ _ _ _ | exact by1d _ _ _ _)).mono ?_); rintro e x3 ⟨rfl, hb⟩; have hx : Below w1.heap.size w1 x3 := (by first | exact below_next (below_next HX1.out (belowNew x1 _)) hb | exact below_next (below_next HX2.out (belowNew x2 _)) hb); have d1' := (hx.cell (p := ⟨g, 1, none⟩) hltg).trans d1; have d2' := (hx.cell (p := ⟨g, 2, none⟩) hltg).trans d2; have HX3 := Lib.hid hx; clear hb hx))
  all_goals go_wp2_with fail
  all_goals go_ret
  all_goals exact ⟨rfl, below_next HB1.out HX3.out⟩
end Go.Proofs.YtflpajbcomhkpaaGreatDoor
