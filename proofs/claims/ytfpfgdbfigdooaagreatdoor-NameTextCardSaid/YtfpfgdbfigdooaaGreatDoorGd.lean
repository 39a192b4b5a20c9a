/-
A store into a cell of a name leaves a name in memory, of the same numbers of relative names and attributes. A parameter of type api.Attribute.
The contracts of the reference's nibble, Unhex and Hex: the string whose digits are the given ones, if there is one, and a string's digits; nothing that was there before the call has changed.
The contracts of the reference's Escape and Unescape; nothing that was there before the call has changed.
-/
import Derived.Test.YtfpfgdbfigdooaaGreatDoorEai
import Derived.Test.YtfpfgdbfigdooaaGreatDoorEbk
import Derived.Test.YtfpfgdbfigdooaaGreatDoorEak
namespace Go.Proofs.YtfpfgdbfigdooaaGreatDoor
open Go.RowKit

theorem set_same {w : World} {p : Addr} {u v : Value} (h : w.cell? p = some u) : (w.setCell p v).cell? p = some v := by
  apply World.cell?_setCell_same <;> first | exact h | skip
theorem set_other {w : World} {p q : Addr} {v : Value} (h : p ≠ q) : (w.setCell p v).cell? q = w.cell? q := by
  apply World.cell?_setCell_other <;> first | exact h | skip
theorem choose_list {α : Type} (d : α) {P : Nat → α → Prop} : ∀ n : Nat, (∀ i, i < n → ∃ y, P i y) → ∃ l : List α, l.length = n ∧ ∀ i, i < n → P i (l.getD i d)
  | 0, _ => ⟨[], rfl, fun i hi => absurd hi (Nat.not_lt_zero _)⟩
  | n + 1, h => by
    obtain ⟨l, hl, hp⟩ := choose_list d n (fun i hi => h i (by omega))
    obtain ⟨y, hy⟩ := h n (by omega)
    refine ⟨l ++ [y], by simp [hl], fun i hi => ?_⟩
    by_cases e : i = n
    · subst e
      rw [List.getD_eq_getElem?_getD, List.getElem?_append_right (by omega), hl]
      simpa using hy
    · rw [List.getD_eq_getElem?_getD, List.getElem?_append_left (by omega), ← List.getD_eq_getElem?_getD]
      exact hp i (by omega)
/-- What is stored in a cell is of the shape of what it held. -/
def Shape (old u : Value) : Prop := (∃ x s : ByteArray, old = .string x ∧ u = .string s ∧ s.size ≤ 1000000) ∨ (∃ y z : Int, old = .int .i64 y ∧ u = .int .i64 z)
theorem cell_str {w : World} {p q : Addr} {old u : Value} {t : ByteArray} (hold : w.cell? p = some old) (hu : Shape old u) (h : w.cell? q = some (.string t)) (ht : t.size ≤ 1000000) : ∃ t' : ByteArray, t'.size ≤ 1000000 ∧ (w.setCell p u).cell? q = some (.string t') := by
  by_cases e : p = q
  · subst e
    rw [hold] at h
    obtain rfl := Option.some.inj h
    rcases hu with ⟨x, s, _, rfl, hs⟩ | ⟨y, z, h1, _⟩
    · exact ⟨s, hs, set_same hold⟩
    · cases h1
  · exact ⟨t, ht, (set_other e).trans h⟩
theorem cell_int {w : World} {p q : Addr} {old u : Value} {k : Int} (hold : w.cell? p = some old) (hu : Shape old u) (h : w.cell? q = some (.int .i64 k)) : ∃ k' : Int, (w.setCell p u).cell? q = some (.int .i64 k') := by
  by_cases e : p = q
  · subst e
    rw [hold] at h
    obtain rfl := Option.some.inj h
    rcases hu with ⟨x, s, h1, _⟩ | ⟨y, z, _, rfl⟩
    · cases h1
    · exact ⟨z, set_same hold⟩
  · exact ⟨k, (set_other e).trans h⟩
theorem cell_slice {w : World} {p q : Addr} {old u : Value} {a : Option Addr} {n c : Nat} (hold : w.cell? p = some old) (hu : Shape old u) (h : w.cell? q = some (.slice a n c)) : (w.setCell p u).cell? q = some (.slice a n c) := by
  have e : p ≠ q := fun e => by
    subst e
    rw [hold] at h
    obtain rfl := Option.some.inj h
    rcases hu with ⟨x, s, h1, _⟩ | ⟨y, z, h1, _⟩ <;> cases h1
  exact (set_other e).trans h
theorem alies_set {w : World} {a : Option Addr} {l : List At} {p : Addr} {old u : Value} (h : ALies w a l) (hs : SmallR l) (hold : w.cell? p = some old) (hu : Shape old u) :
    ∃ l', l'.length = l.length ∧ ALies (w.setCell p u) a l' ∧ SmallR l' := by
  rcases h with rfl | ⟨b, o, rfl, hc⟩
  · exact ⟨[], rfl, .inl rfl, hs⟩
  · obtain ⟨l', hl, hp⟩ := choose_list noAt (P := fun i (y : At) => SmallA y ∧ (w.setCell p u).cell? ⟨b, o + i * 3, none⟩ = some (.string y.1) ∧ (w.setCell p u).cell? ⟨b, o + i * 3 + 1, none⟩ = some (.int .i64 y.2.1) ∧ (w.setCell p u).cell? ⟨b, o + i * 3 + 2, none⟩ = some (.string y.2.2)) l.length (fun i hi => by
      obtain ⟨c0, c1, c2⟩ := hc i hi
      obtain ⟨s1, s2⟩ := hs.2 i hi
      obtain ⟨t, ht, e0⟩ := cell_str hold hu c0 s1
      obtain ⟨k, e1⟩ := cell_int hold hu c1
      obtain ⟨v, hv, e2⟩ := cell_str hold hu c2 s2
      exact ⟨(t, k, v), ⟨ht, hv⟩, e0, e1, e2⟩)
    exact ⟨l', hl, .inr ⟨b, o, rfl, fun i hi => (hp i (by omega)).2⟩, by rw [hl]; exact hs.1, fun i hi => (hp i (by omega)).1⟩
theorem rlies_set {w : World} {a : Option Addr} {n : Nm} {p : Addr} {old u : Value} (h : RLies w a n) (hs : SmallN n) (hold : w.cell? p = some old) (hu : Shape old u) :
    ∃ n', n'.length = n.length ∧ RLies (w.setCell p u) a n' ∧ SmallN n' := by
  rcases h with rfl | ⟨b, o, rfl, hc⟩
  · exact ⟨[], rfl, .inl rfl, hs⟩
  · obtain ⟨n', hl, hp⟩ := choose_list [] (P := fun i (y : List At) => SmallR y ∧ ∃ a' c', (w.setCell p u).cell? ⟨b, o + i, none⟩ = some (.slice a' y.length c') ∧ y.length ≤ c' ∧ ALies (w.setCell p u) a' y) n.length (fun i hi => by
      obtain ⟨a', c', q1, q3, q2⟩ := hc i hi
      obtain ⟨l', e1, e2, e3⟩ := alies_set q2 (hs.2 i hi) hold hu
      exact ⟨l', e3, a', c', by rw [e1]; exact cell_slice hold hu q1, by omega, e2⟩)
    exact ⟨n', hl, .inr ⟨b, o, rfl, fun i hi => (hp i (by omega)).2⟩, by rw [hl]; exact hs.1, fun i hi => (hp i (by omega)).1⟩
/-- A row of attributes of a call's own: its cells, and that they may be written. -/
theorem OwnA.open {w : World} {B : Nat} {v : Value} {l : List At} (h : OwnA w B v l) (h0 : l ≠ []) : ∃ g c, v = .slice (some ⟨g, 0, none⟩) l.length c ∧ B ≤ g ∧ g < w.heap.size ∧ (∀ j, w.frozen? ⟨g, j, none⟩ = false) ∧
    ∀ i, i < l.length → w.cell? ⟨g, i * 3, none⟩ = some (.string (l.getD i noAt).1) ∧ w.cell? ⟨g, i * 3 + 1, none⟩ = some (.int .i64 (l.getD i noAt).2.1) ∧ w.cell? ⟨g, i * 3 + 2, none⟩ = some (.string (l.getD i noAt).2.2) := by
  obtain ⟨a, c, hv, hc, hl⟩ := h.lies
  rcases h.2 with ⟨_, h1⟩ | ⟨g, cap, cur, hv', hB, hg, _⟩
  · exact absurd (List.eq_nil_of_length_eq_zero h1) h0
  · rw [hv] at hv'
    obtain ⟨rfl, rfl⟩ : a = some ⟨g, 0, none⟩ ∧ c = cap := by simpa using hv'
    refine ⟨g, c, hv, hB, (Array.getElem?_eq_some_iff.1 hg).1, fun j => Lib.frozen_of_heap hg j, fun i hi => ?_⟩
    rcases hl with e | ⟨b, o, e, hh⟩
    · exact absurd e h0
    · obtain ⟨rfl, rfl⟩ : g = b ∧ 0 = o := by simpa using e
      simpa using hh i hi

/-! ### A parameter of type api.Attribute -/
open Go.ChangeShapes Go.WideShapes Go.ChangeAt Go.ChangeMaps Go.Deep in
set_option maxRecDepth 10000 in
theorem open_attr {H : Type} {enc : TypeId × Value → H} {W : World} {r : Reach} {b0 : Nat} {v : Value} {d : DataW H} {p : List MemPlace}
    (hval : Value.okWide Tryz.prog W r b0 27 v) (h : DataW.Trod enc Tryz.prog W 0 (fun _ => true) true 27 v d p) : ∃ t : At, v = .agg #[.string t.1, .int .i64 t.2.1, .string t.2.2] ∧ AtOk t := by
  unfold Value.okWide at hval
  rw [Tryz.underlying27] at hval
  obtain ⟨cs, rfl, hsz, _⟩ := hval
  obtain ⟨fuel, hf⟩ := h
  obtain ⟨t, e, ht⟩ := open_at hf
  refine ⟨t, ?_, ht⟩
  congr 1
  apply Array.toList_inj.1
  exact e
end Go.Proofs.YtfpfgdbfigdooaaGreatDoor
namespace Go.Proofs.YtfpfgdbfigdooaaGreatDoor
open Go.RowKit

set_option maxRecDepth 100000 in
set_option maxHeartbeats 1000000 in
theorem refhex_any (s : ByteArray) (w : World) (hn : s.size ≤ 1099511627776) :
    Calls Tryz.prog 86 #[.string s] w fun e w' => e = .returned (.string ⟨(hexL s.data.toList).toArray⟩) ∧ Below w.heap.size w w' := by
  obtain ⟨i0, hi, hz0, hz1, hz2⟩ := info_parts byteInfo
  go_enter Tryz.func86, Tryz.ntmps86
  go_wp2_with (at_make; refine wpList_make_own _ rfl _ _ 61 rfl w.heap.size 5 i0 (.int .u8 0) 1 Tryz.underlying61 hi hz0 hz1 .i64 .i64 (2 * (s.size : Int)) (2 * s.size) rfl rfl (by omega) (by rw [hz2]; omega) (by unfold maxLen; omega) (Nat.le_refl _) ?_; intro w1 hown1 hgr1; have HO1 := Lib.hid hown1; have HG1 := Lib.hid hgr1; clear hown1 hgr1)
  go_loopw [3, 4] (fun v i wr => ∃ k : Nat, k ≤ s.size ∧ i = .int .i64 k ∧ OwnB 5 wr w.heap.size v (hexL (s.data.toList.take k)) ∧ Below w.heap.size w wr) (fun _ i _ => s.size - (intOf i).toNat)
  case atStart => exact ⟨0, Nat.zero_le _, rfl, HO1.out, (Below.refl _ _).grown HG1.out (Nat.le_refl _) (fun _ e => by cases e)⟩
  case round =>
    obtain ⟨k, hk, rfl, hown, hb⟩ := hrel
    have HO := Lib.hid hown
    have HB := Lib.hid hb
    clear hown hb
    by_cases hlt : k < s.size
    · have hd : decide ((k : Int) < (s.size : Int)) = true := by simp; omega
      obtain ⟨b, hbk⟩ : ∃ b, s[k] = b := ⟨_, rfl⟩
      obtain ⟨x, hx⟩ : ∃ x, x = b.toNat / 16 := ⟨_, rfl⟩
      obtain ⟨y, hy⟩ : ∃ y, y = b.toNat % 16 := ⟨_, rfl⟩
      have hq : ((b.toNat : Nat) : Int) / 16 = (x : Int) := by rw [hx]; rfl
      have hr : Int.tmod ((b.toNat : Nat) : Int) 16 = (y : Int) := by rw [hy]; rfl
      have hx16 : x < 16 := by have := b.toNat_lt; omega
      have hwx : IntKind.u8.wrap (x : Int) = (x : Int) := by simp [IntKind.wrap, IntKind.bits, IntKind.signed]; omega
      have h1 := digit_at x (by have := b.toNat_lt; omega)
      have h2 := digit_at y (by omega)
      have HX := Lib.hid hx
      have HY := Lib.hid hy
      clear hx hy
      go_wp2_with fail
      have hlen : (hexL (s.data.toList.take k)).length = 2 * k := by
        rw [hexL_length, List.length_take]
        have : s.data.toList.length = s.size := rfl
        omega
      have HLN := Lib.hid hlen
      clear hlen
      have hsb := HB.out.size
      go_region_law (refine step_append_own rfl (.tmp 15) (.tmp 26) 61 rfl w.heap.size 5 i0 (.int .u8 0) 1 Tryz.underlying61 hi hz0 hz1 hz2 rfl _ _ _ rfl ((HO.out.alloc _).drew) ⟨wr.heap.size, 0, none⟩ 2 2 [bcell (hexDigit x), bcell (hexDigit y)] rfl rfl (news_row wr #[bcell (hexDigit x), bcell (hexDigit y)] 5) (bcells_one [hexDigit x, hexDigit y]) (by rw [HLN.out]; unfold maxLen; omega) (by rw [HLN.out]; omega) (by simp; omega) ?_; intro v' w2 hown2 hgr2 _)
      all_goals
        have e1 : s.data.toList.take (k + 1) = s.data.toList.take k ++ [b] := by
          rw [List.take_succ_eq_append_getElem (by exact hlt)]
          congr 2
        have e2 : hexL (s.data.toList.take (k + 1)) = hexL (s.data.toList.take k) ++ [hexDigit x, hexDigit y] := by rw [e1, hexL_snoc, HX.out, HY.out]
        have hl2 : (hexL (s.data.toList.take (k + 1))).length = (hexL (s.data.toList.take k)).length + 2 := by rw [e2, List.length_append]; rfl
        have ho : OwnB 5 w2 w.heap.size v' (hexL (s.data.toList.take (k + 1))) := by
          unfold OwnB
          rw [hl2, e2, List.map_append]; exact hown2
        have hb2 : Below w.heap.size w w2 := OwnB.grown ((HO.out.alloc (.cells #[bcell (hexDigit x), bcell (hexDigit y)] 5)).drew) (Below.drew (Below.alloc HB.out hsb _)) hgr2 (by simp; omega) (Nat.le_refl _)
        have HO2 := Lib.hid ho
        have HB2 := Lib.hid hb2
        clear hown2 hgr2 e1 e2 hl2 ho hb2
        go_wp2_with fail
        go_roundw
        case rel => exact ⟨k + 1, by omega, by go_num, HO2.out, HB2.out⟩
        case measure => simp [intOf]; omega
    · have hconv := run_convert_own (P := Tryz.prog) (src := 61) (dst := 9) Tryz.underlying61 Tryz.underlying5 Tryz.underlying9 HO.out
      go_wp2_with fail
      go_ret
      refine ⟨?_, HB.out⟩
      have e : s.data.toList.take k = s.data.toList := List.take_of_length_le (by show s.size ≤ k; omega)
      rw [e]; rfl
end Go.Proofs.YtfpfgdbfigdooaaGreatDoor
namespace Go.Proofs.YtfpfgdbfigdooaaGreatDoor
open Go.RowKit

theorem slice_one (s : ByteArray) (k : Nat) (c : UInt8) (hc : s.data.toList[k]? = some c) (hk : k < s.size) (w : World) :
    (Instr.slice 9 (.string s) (some (.int .i64 (k : Int))) (some (.int .i64 ((k : Int) + 1))) none).run Tryz.prog w = .ok (.string (strOf [c])) w := by
  have := slice_two s k (k + 1) (by omega) (by omega) (k : Int) ((k : Int) + 1) rfl (by omega) w
  rw [show k + 1 - k = 1 by omega, drop_cons hc] at this
  exact this

set_option maxRecDepth 100000 in
set_option maxHeartbeats 2000000 in
theorem resc_any (s : ByteArray) (w : World) (hn : s.size ≤ 1099511627776) :
    Calls Tryz.prog 55 #[.string s] w fun e w' => e = .returned (.string (escS s)) ∧ Below w.heap.size w w' := by
  go_enter Tryz.func55, Tryz.ntmps55
  go_wp2_with fail
  go_loopw [3, 4] (fun v i wr => ∃ (k : Nat) (O : ByteArray), k ≤ s.size ∧ i = .int .i64 k ∧ v = .string O ∧ O = strOf (escL (s.data.toList.take k)) ∧ Below w.heap.size w wr) (fun _ i _ => s.size - (intOf i).toNat)
  case atStart => exact ⟨0, ⟨#[]⟩, Nat.zero_le _, rfl, rfl, rfl, Below.refl _ _⟩
  case round =>
    obtain ⟨k, O, hk, rfl, rfl, hO, hb⟩ := hrel
    have HB := Lib.hid hb
    have hOl : O.size ≤ 3 * k := by
      have := escL_len (s.data.toList.take k)
      rw [take_len s hk] at this
      rw [hO, strOf_size]; exact this
    have HO := Lib.hid hO
    clear hb hO
    by_cases hlt : k < s.size
    · have hd : decide ((k : Int) < (s.size : Int)) = true := by simp; omega
      obtain ⟨c, hc, hcn⟩ := u8at_list s k hlt
      have hix := fun w => run_index_u8 (P := Tryz.prog) Tryz.underlying9 s k hlt (k : Int) rfl w
      rw [hcn] at hix
      have hsl := fun w => slice_one s k c hc hlt w
      have HS := Lib.hid (show escL (s.data.toList.take (k + 1)) = escL (s.data.toList.take k) ++ escB c by rw [take_snoc hc, escL_snoc])
      clear hc hcn
      cases hp : plainB c with
      | true =>
        have HP := Lib.hid (fun w => plain_is hp w)
        have hcat := cat_any O (strOf [c]) (by rw [strOf_size]; simp; omega)
        have HN := Lib.hid (show O ++ strOf [c] = strOf (escL (s.data.toList.take (k + 1))) by rw [HO.out, str_cat, HS.out, escB_plain hp])
        clear hp
        go_wp2_with (go_at_call 85; (with_reducible refine (HP.out _).mono ?_); rintro e w3 ⟨rfl, rfl⟩)
        go_roundw
        case rel => exact ⟨k + 1, O ++ strOf [c], by omega, by go_num, rfl, HN.out, HB.out⟩
        case measure => simp [intOf]; omega
      | false =>
        have HP := Lib.hid (fun w => plain_is hp w)
        have HH := Lib.hid (fun w => refhex_any (strOf [c]) w (by rw [strOf_size]; simp))
        rw [strOf_list] at HH
        have HN := Lib.hid (show O ++ ((⟨#[92]⟩ : ByteArray) ++ ⟨(hexL [c]).toArray⟩) = strOf (escL (s.data.toList.take (k + 1))) by
          rw [HO.out, show (⟨#[92]⟩ : ByteArray) = strOf [92] from rfl, show (⟨(hexL [c]).toArray⟩ : ByteArray) = strOf (hexL [c]) from rfl, str_cat, str_cat, HS.out, escB_other hp]
          rfl)
        obtain ⟨X, hX⟩ : ∃ X : ByteArray, X = ⟨(hexL [c]).toArray⟩ := ⟨_, rfl⟩
        have hXz : X.size = 2 := by rw [hX]; rfl
        rw [← hX] at HH HN
        have hcat1 := cat_any ⟨#[92]⟩ X (by rw [hXz]; show 1 + 2 ≤ _; omega)
        have hz1 : ((⟨#[92]⟩ : ByteArray) ++ X).size = 3 := by rw [ByteArray.size_append, hXz]; rfl
        generalize (⟨#[92]⟩ : ByteArray) ++ X = Y at hcat1 HN hz1
        have hcat2 := cat_any O Y (by omega)
        clear hp hX
        go_wp2_with (first
          | (go_at_call 85; (with_reducible refine (HP.out _).mono ?_); rintro e w3 ⟨rfl, rfl⟩)
          | (go_at_call 86; (with_reducible refine (HH.out _).mono ?_); rintro e w4 ⟨rfl, hb4⟩; have HB4 := Lib.hid (below_next HB.out hb4); clear hb4))
        go_roundw
        case rel => exact ⟨k + 1, O ++ Y, by omega, by go_num, rfl, HN.out, HB4.out⟩
        case measure => simp [intOf]; omega
    · have ek : k = s.size := by omega
      subst ek
      have hd : decide ((s.size : Int) < (s.size : Int)) = false := by simp
      have HR := Lib.hid (show O = escS s by rw [HO.out, take_all s (Nat.le_refl _)]; rfl)
      go_wp2_with fail
      go_ret
      exact ⟨by rw [← HR.out]; rfl, HB.out⟩

theorem hex_or (H : List UInt8) : (∃ l, hexL l = H) ∨ ∀ l, hexL l ≠ H := (Classical.em _).imp id fun h a k => h ⟨a, k⟩

end Go.Proofs.YtfpfgdbfigdooaaGreatDoor
