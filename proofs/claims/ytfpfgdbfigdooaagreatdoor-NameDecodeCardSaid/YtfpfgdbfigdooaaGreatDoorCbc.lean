/-
  A store into a cell of a name leaves a name in memory, of the same numbers of relative names and attributes. A parameter of type api.Attribute.
  The contract of certpathmade's ShortName: what it says is short has few and short parts.
  What stands at the beginning of a string of elements, as numbers: the error, the length of the header, the length of the contents; and the errors within an element. Nothing is claimed of the program here.
  The contracts of the functions of tlv that read a length: what the octets say, and that nothing has changed.
-/
import Derived.Test.YtfpfgdbfigdooaaGreatDoorCap
import Derived.Test.YtfpfgdbfigdooaaGreatDoorCbb
import Derived.Test.YtfpfgdbfigdooaaGreatDoorCao
import Derived.Test.YtfpfgdbfigdooaaGreatDoorCau
import Derived.Test.YtfpfgdbfigdooaaGreatDoorCaa
namespace Go.Proofs.YtfpfgdbfigdooaaGreatDoor
open Go.RowKit

theorem set_same {w : World} {p : Addr} {u v : Value} (h : w.cell? p = some u) : (w.setCell p v).cell? p = some v := by
  apply World.cell?_setCell_same <;> first | exact h | skip
theorem set_other {w : World} {p q : Addr} {v : Value} (h : p ≠ q) : (w.setCell p v).cell? q = w.cell? q := by
  apply World.cell?_setCell_other <;> first | exact h | skip
theorem choose_list {α : Type} (d : α) {P : Nat → α → Prop} : ∀ n : Nat, (∀ i, i < n → ∃ y, P i y) → ∃ l : List α, l.length = n ∧ ∀ i, i < n → P i (l.getD i d)
  | 0, _ => ⟨[], rfl, fun i hi => absurd hi (Nat.not_lt_zero _)⟩
  | n + 1, h => by
    obtain ⟨l, hl, hp⟩ := choose_list d n (fun i hi => h i (by omega))
    obtain ⟨y, hy⟩ := h n (by omega)
    refine ⟨l ++ [y], by simp [hl], fun i hi => ?_⟩
    by_cases e : i = n
    · subst e
      rw [List.getD_eq_getElem?_getD, List.getElem?_append_right (by omega), hl]
      simpa using hy
    · rw [List.getD_eq_getElem?_getD, List.getElem?_append_left (by omega), ← List.getD_eq_getElem?_getD]
      exact hp i (by omega)
/-- What is stored in a cell is of the shape of what it held. -/
def Shape (old u : Value) : Prop := (∃ x s : ByteArray, old = .string x ∧ u = .string s ∧ s.size ≤ 1000000) ∨ (∃ y z : Int, old = .int .i64 y ∧ u = .int .i64 z)
theorem cell_str {w : World} {p q : Addr} {old u : Value} {t : ByteArray} (hold : w.cell? p = some old) (hu : Shape old u) (h : w.cell? q = some (.string t)) (ht : t.size ≤ 1000000) : ∃ t' : ByteArray, t'.size ≤ 1000000 ∧ (w.setCell p u).cell? q = some (.string t') := by
  by_cases e : p = q
  · subst e
    rw [hold] at h
    obtain rfl := Option.some.inj h
    rcases hu with ⟨x, s, _, rfl, hs⟩ | ⟨y, z, h1, _⟩
    · exact ⟨s, hs, set_same hold⟩
    · cases h1
  · exact ⟨t, ht, (set_other e).trans h⟩
theorem cell_int {w : World} {p q : Addr} {old u : Value} {k : Int} (hold : w.cell? p = some old) (hu : Shape old u) (h : w.cell? q = some (.int .i64 k)) : ∃ k' : Int, (w.setCell p u).cell? q = some (.int .i64 k') := by
  by_cases e : p = q
  · subst e
    rw [hold] at h
    obtain rfl := Option.some.inj h
    rcases hu with ⟨x, s, h1, _⟩ | ⟨y, z, _, rfl⟩
    · cases h1
    · exact ⟨z, set_same hold⟩
  · exact ⟨k, (set_other e).trans h⟩
theorem cell_slice {w : World} {p q : Addr} {old u : Value} {a : Option Addr} {n c : Nat} (hold : w.cell? p = some old) (hu : Shape old u) (h : w.cell? q = some (.slice a n c)) : (w.setCell p u).cell? q = some (.slice a n c) := by
  have e : p ≠ q := fun e => by
    subst e
    rw [hold] at h
    obtain rfl := Option.some.inj h
    rcases hu with ⟨x, s, h1, _⟩ | ⟨y, z, h1, _⟩ <;> cases h1
  exact (set_other e).trans h
theorem alies_set {w : World} {a : Option Addr} {l : List At} {p : Addr} {old u : Value} (h : ALies w a l) (hs : SmallR l) (hold : w.cell? p = some old) (hu : Shape old u) :
    ∃ l', l'.length = l.length ∧ ALies (w.setCell p u) a l' ∧ SmallR l' := by
  rcases h with rfl | ⟨b, o, rfl, hc⟩
  · exact ⟨[], rfl, .inl rfl, hs⟩
  · obtain ⟨l', hl, hp⟩ := choose_list noAt (P := fun i (y : At) => SmallA y ∧ (w.setCell p u).cell? ⟨b, o + i * 3, none⟩ = some (.string y.1) ∧ (w.setCell p u).cell? ⟨b, o + i * 3 + 1, none⟩ = some (.int .i64 y.2.1) ∧ (w.setCell p u).cell? ⟨b, o + i * 3 + 2, none⟩ = some (.string y.2.2)) l.length (fun i hi => by
      obtain ⟨c0, c1, c2⟩ := hc i hi
      obtain ⟨s1, s2⟩ := hs.2 i hi
      obtain ⟨t, ht, e0⟩ := cell_str hold hu c0 s1
      obtain ⟨k, e1⟩ := cell_int hold hu c1
      obtain ⟨v, hv, e2⟩ := cell_str hold hu c2 s2
      exact ⟨(t, k, v), ⟨ht, hv⟩, e0, e1, e2⟩)
    exact ⟨l', hl, .inr ⟨b, o, rfl, fun i hi => (hp i (by omega)).2⟩, by rw [hl]; exact hs.1, fun i hi => (hp i (by omega)).1⟩
theorem rlies_set {w : World} {a : Option Addr} {n : Nm} {p : Addr} {old u : Value} (h : RLies w a n) (hs : SmallN n) (hold : w.cell? p = some old) (hu : Shape old u) :
    ∃ n', n'.length = n.length ∧ RLies (w.setCell p u) a n' ∧ SmallN n' := by
  rcases h with rfl | ⟨b, o, rfl, hc⟩
  · exact ⟨[], rfl, .inl rfl, hs⟩
  · obtain ⟨n', hl, hp⟩ := choose_list [] (P := fun i (y : List At) => SmallR y ∧ ∃ a' c', (w.setCell p u).cell? ⟨b, o + i, none⟩ = some (.slice a' y.length c') ∧ y.length ≤ c' ∧ ALies (w.setCell p u) a' y) n.length (fun i hi => by
      obtain ⟨a', c', q1, q3, q2⟩ := hc i hi
      obtain ⟨l', e1, e2, e3⟩ := alies_set q2 (hs.2 i hi) hold hu
      exact ⟨l', e3, a', c', by rw [e1]; exact cell_slice hold hu q1, by omega, e2⟩)
    exact ⟨n', hl, .inr ⟨b, o, rfl, fun i hi => (hp i (by omega)).2⟩, by rw [hl]; exact hs.1, fun i hi => (hp i (by omega)).1⟩
/-- A row of attributes of a call's own: its cells, and that they may be written. -/
theorem OwnA.open {w : World} {B : Nat} {v : Value} {l : List At} (h : OwnA w B v l) (h0 : l ≠ []) : ∃ g c, v = .slice (some ⟨g, 0, none⟩) l.length c ∧ B ≤ g ∧ g < w.heap.size ∧ (∀ j, w.frozen? ⟨g, j, none⟩ = false) ∧
    ∀ i, i < l.length → w.cell? ⟨g, i * 3, none⟩ = some (.string (l.getD i noAt).1) ∧ w.cell? ⟨g, i * 3 + 1, none⟩ = some (.int .i64 (l.getD i noAt).2.1) ∧ w.cell? ⟨g, i * 3 + 2, none⟩ = some (.string (l.getD i noAt).2.2) := by
  obtain ⟨a, c, hv, hc, hl⟩ := h.lies
  rcases h.2 with ⟨_, h1⟩ | ⟨g, cap, cur, hv', hB, hg, _⟩
  · exact absurd (List.eq_nil_of_length_eq_zero h1) h0
  · rw [hv] at hv'
    obtain ⟨rfl, rfl⟩ : a = some ⟨g, 0, none⟩ ∧ c = cap := by simpa using hv'
    refine ⟨g, c, hv, hB, (Array.getElem?_eq_some_iff.1 hg).1, fun j => Lib.frozen_of_heap hg j, fun i hi => ?_⟩
    rcases hl with e | ⟨b, o, e, hh⟩
    · exact absurd e h0
    · obtain ⟨rfl, rfl⟩ : g = b ∧ 0 = o := by simpa using e
      simpa using hh i hi

/-! ### A parameter of type api.Attribute -/
open Go.ChangeShapes Go.WideShapes Go.ChangeAt Go.ChangeMaps Go.Deep in
set_option maxRecDepth 10000 in
theorem open_attr {H : Type} {enc : TypeId × Value → H} {W : World} {r : Reach} {b0 : Nat} {v : Value} {d : DataW H} {p : List MemPlace}
    (hval : Value.okWide Tryz.prog W r b0 27 v) (h : DataW.Trod enc Tryz.prog W 0 (fun _ => true) true 27 v d p) : ∃ t : At, v = .agg #[.string t.1, .int .i64 t.2.1, .string t.2.2] ∧ AtOk t := by
  unfold Value.okWide at hval
  rw [Tryz.underlying27] at hval
  obtain ⟨cs, rfl, hsz, _⟩ := hval
  obtain ⟨fuel, hf⟩ := h
  obtain ⟨t, e, ht⟩ := open_at hf
  refine ⟨t, ?_, ht⟩
  congr 1
  apply Array.toList_inj.1
  exact e
end Go.Proofs.YtfpfgdbfigdooaaGreatDoor
namespace Go.Proofs.YtfpfgdbfigdooaaGreatDoor
open Go.RowKit

/-- A name of at most twelve relative names of at most eight attributes, each of at most 200 bytes. -/
def ShR (r : List At) : Prop := r.length ≤ 8 ∧ ∀ i, i < r.length → (r.getD i noAt).1.size ≤ 200 ∧ (r.getD i noAt).2.2.size ≤ 200
def ShN (n : Nm) : Prop := n.length ≤ 12 ∧ ∀ i, i < n.length → ShR (n.getD i [])
/-- What ShortName answers. -/
def Shorted (n : Nm) (e : Ending) : Prop := (e = .returned (.bool true) ∧ ShN n) ∨ e = .returned (.bool false)
theorem ShN.small {n : Nm} (h : ShN n) : SmallN n :=
  ⟨Nat.le_trans h.1 (by omega), fun i hi => ⟨Nat.le_trans (h.2 i hi).1 (by omega), fun j hj => ⟨Nat.le_trans ((h.2 i hi).2 j hj).1 (by omega), Nat.le_trans ((h.2 i hi).2 j hj).2 (by omega)⟩⟩⟩

set_option maxRecDepth 100000 in
set_option maxHeartbeats 4000000 in
theorem short_core (a0 : Option Addr) (c m : Nat) (n : Nm) (w : World) (h : RLies w a0 n) (hn : m = n.length) (hm : m ≤ 9223372036854775807) (hq : ∀ i, i < n.length → (n.getD i []).length ≤ 9223372036854775807 ∧ ∀ j, j < (n.getD i []).length → ((n.getD i []).getD j noAt).1.size ≤ 9223372036854775807 ∧ ((n.getD i []).getD j noAt).2.2.size ≤ 9223372036854775807) :
    Calls Tryz.prog 8 #[.agg #[.slice a0 m c]] w fun e w' => Shorted n e ∧ Below w.heap.size w w' := by
  by_cases h12 : 12 < m
  · have hd : decide ((12 : Int) < (m : Int)) = true := by simp; omega
    clear h hn hm hq h12
    go_enter Tryz.func8, Tryz.ntmps8
    go_wp2_with fail
    go_ret
    exact ⟨.inr rfl, belowNew w _⟩
  have hd : decide ((12 : Int) < (m : Int)) = false := by simp; omega
  have H1 := Lib.hid (h.below (belowNew w (.cells #[.slice a0 m c] 24)))
  have HN := Lib.hid hn
  have HQ := Lib.hid hq
  have hm12 : m ≤ 12 := by omega
  clear h hn hm hq h12
  go_enter Tryz.func8, Tryz.ntmps8
  go_wp2_with fail
  clear hd
  obtain ⟨W, hW⟩ : ∃ W, W = w.alloc (.cells #[.slice a0 m c] 24) := ⟨_, rfl⟩
  have HBW := Lib.hid (show Below w.heap.size w W by rw [hW]; exact belowNew w _)
  rw [← hW] at H1 ⊢
  clear hW
  go_loopw [14] (fun i wr => ∃ k : Nat, k ≤ m ∧ i = .int .i64 k ∧ (∀ j, j < k → ShR (n.getD j [])) ∧ Below W.heap.size W wr) (fun i _ => m - (intOf i).toNat)
  case atStart => exact ⟨0, Nat.zero_le _, rfl, fun j hj => absurd hj (Nat.not_lt_zero _), Below.refl _ _⟩
  case round =>
    obtain ⟨k, hk, rfl, hA, hb⟩ := hrel
    have HB := Lib.hid hb
    have HA := Lib.hid hA
    clear hb hA
    by_cases hlt : k < m
    · have hd : decide ((k : Int) < (m : Int)) = true := by simp; omega
      obtain ⟨b, o, rfl, hb, a1, c1, e1, hc1, hL1⟩ := H1.out.at k (by rw [← HN.out]; exact hlt)
      have f1 : wr.cell? ⟨b, o + k, none⟩ = _ := (HB.out.cell (p := ⟨b, o + k, none⟩) hb).trans e1
      obtain ⟨hq1, hq2⟩ := HQ.out k (by rw [← HN.out]; exact hlt)
      obtain ⟨r, hr⟩ : ∃ r, r = n.getD k [] := ⟨_, rfl⟩
      rw [← hr] at f1 hq1 hq2 hL1 hc1
      have HR := Lib.hid hr
      obtain ⟨q, hq⟩ : ∃ q, q = r.length := ⟨_, rfl⟩
      rw [← hq] at f1 hq1 hc1
      have HL1 := Lib.hid (hL1.below HB.out)
      have HQ2 := Lib.hid hq2
      have HQQ := Lib.hid hq
      clear e1 hb hL1 hq2 hr hq
      by_cases h8 : 8 < q
      · have hd8 : decide ((8 : Int) < (q : Int)) = true := by simp; omega
        go_wp2_with fail
        go_ret
        exact ⟨.inr rfl, below_next HBW.out HB.out⟩
      have hd8 : decide ((8 : Int) < (q : Int)) = false := by simp; omega
      have hq8 : q ≤ 8 := by omega
      clear h8 hq1
      go_wp2_with fail
      clear hd hd8 f1 hc1
      go_loopw [23] (fun i ws => ∃ k2 : Nat, k2 ≤ q ∧ i = .int .i64 k2 ∧ (∀ j, j < k2 → (r.getD j noAt).1.size ≤ 200 ∧ (r.getD j noAt).2.2.size ≤ 200) ∧ Below wr.heap.size wr ws) (fun i _ => q - (intOf i).toNat)
      case atStart => exact ⟨0, Nat.zero_le _, rfl, fun j hj => absurd hj (Nat.not_lt_zero _), Below.refl _ _⟩
      case round =>
        obtain ⟨k2, hk2, rfl, hA2, hb2⟩ := hrel
        have HB2 := Lib.hid hb2
        have HA2 := Lib.hid hA2
        clear hb2 hA2
        by_cases hlt2 : k2 < q
        · have hd2 : decide ((k2 : Int) < (q : Int)) = true := by simp; omega
          obtain ⟨g, p, rfl, hg, c0, c1', c2⟩ := HL1.out.at k2 (by rw [← HQQ.out]; exact hlt2)
          have d0 : wr.cell? ⟨g, p + k2 * 3, none⟩ = _ := (HB2.out.cell (p := ⟨g, p + k2 * 3, none⟩) hg).trans c0
          have d1 : wr.cell? ⟨g, p + k2 * 3 + 1, none⟩ = _ := (HB2.out.cell (p := ⟨g, p + k2 * 3 + 1, none⟩) hg).trans c1'
          have d2 : wr.cell? ⟨g, p + k2 * 3 + 2, none⟩ = _ := (HB2.out.cell (p := ⟨g, p + k2 * 3 + 2, none⟩) hg).trans c2
          have hz := HQ2.out k2 (by rw [← HQQ.out]; exact hlt2)
          have HX := Lib.hid (show ∀ t v : ByteArray, ∀ kd : Int, r.getD k2 noAt = (t, kd, v) → t.size ≤ 200 → v.size ≤ 200 → ∀ j, j < k2 + 1 → (r.getD j noAt).1.size ≤ 200 ∧ (r.getD j noAt).2.2.size ≤ 200 from fun t v kd e h1 h2 j hj => by
            by_cases ej : j = k2
            · rw [ej, e]; exact ⟨h1, h2⟩
            · exact HA2.out j (by omega))
          obtain ⟨⟨t, kd, v⟩, hy⟩ : ∃ y, y = r.getD k2 noAt := ⟨_, rfl⟩
          rw [← hy] at d0 d1 d2 hz
          have HY := Lib.hid hy
          have hz1 := hz.1
          have hz2 := hz.2
          simp only at hz1 hz2
          have HBX := Lib.hid (below_next HB2.out (belowNew wr (.cells #[.string t, .int .i64 kd, .string v] 27)))
          clear c0 c1' c2 hg hz hy
          by_cases ht : 200 < t.size
          · have dt : decide ((200 : Int) < (t.size : Int)) = true := by simp; omega
            go_wp2_with fail
            go_ret
            exact ⟨.inr rfl, below_next HBW.out (below_next HB.out HBX.out)⟩
          have dt : decide ((200 : Int) < (t.size : Int)) = false := by simp; omega
          by_cases hv : 200 < v.size
          · have dv : decide ((200 : Int) < (v.size : Int)) = true := by simp; omega
            go_wp2_with fail
            go_ret
            exact ⟨.inr rfl, below_next HBW.out (below_next HB.out HBX.out)⟩
          have dv : decide ((200 : Int) < (v.size : Int)) = false := by simp; omega
          have HF := Lib.hid (HX.out t v kd HY.out.symm (by omega) (by omega))
          go_wp2_with fail
          go_roundw
          case rel => exact ⟨k2 + 1, by omega, by go_num, HF.out, HBX.out⟩
          case measure => simp [intOf]; omega
        · have hd2 : decide ((k2 : Int) < (q : Int)) = false := by simp; omega
          have HF := Lib.hid (show ∀ j, j < k + 1 → ShR (n.getD j []) from fun j hj => by
            by_cases ej : j = k
            · rw [ej, ← HR.out]
              exact ⟨by rw [← HQQ.out]; exact hq8, fun i hi => HA2.out i (by rw [← HQQ.out] at hi; omega)⟩
            · exact HA.out j (by omega))
          go_wp2_with fail
          go_roundw
          case rel => exact ⟨k + 1, by omega, by go_num, HF.out, below_next HB.out HB2.out⟩
          case measure => simp [intOf]; omega
    · have hd : decide ((k : Int) < (m : Int)) = false := by simp; omega
      have HF := Lib.hid (show ShN n from ⟨by rw [← HN.out]; exact hm12, fun j hj => HA.out j (by rw [← HN.out] at hj; omega)⟩)
      go_wp2_with fail
      go_ret
      exact ⟨.inl ⟨rfl, HF.out⟩, below_next HBW.out HB.out⟩
end Go.Proofs.YtfpfgdbfigdooaaGreatDoor
namespace Go.Proofs.YtfpfgdbfigdooaaGreatDoor
open Go.RowKit

/-- The number that k bytes from place o on are, the most significant one first. -/
def be (b : ByteArray) (o : Nat) : Nat → Nat
  | 0 => 0
  | k + 1 => 256 * be b o k + u8at b (o + k)
theorem be_lt (b : ByteArray) (o k : Nat) : be b o k < 256 ^ k := by
  induction k with
  | zero => simp [be]
  | succ k ih => have := u8at_lt b (o + k); simp only [be, Nat.pow_succ]; omega
def least (k : Nat) : Nat := if k = 1 then 128 else if k = 2 then 256 else if k = 3 then 65536 else 0

/-- What readLength answers for the octets from place o on: the length, how many octets it has, the error. -/
def lnAt (b : ByteArray) (o : Nat) : Nat × Nat × Nat :=
  if b.size ≤ o then (0, 0, 3)
  else if u8at b o < 128 then (u8at b o, 1, 0)
  else if u8at b o = 128 ∨ 131 < u8at b o then (0, 0, 6)
  else if b.size < o + 1 + (u8at b o - 128) then (0, 0, 3)
  else if be b (o + 1) (u8at b o - 128) < least (u8at b o - 128) ∨ 131072 < be b (o + 1) (u8at b o - 128) then (0, 0, 6)
  else (be b (o + 1) (u8at b o - 128), 1 + (u8at b o - 128), 0)

/-- The element at the beginning: the error, the place of the contents, their length. -/
def rd (b : ByteArray) : Nat × Nat × Nat :=
  if b.size = 0 then (3, 0, 0)
  else if u8at b 0 % 32 = 31 then (5, 0, 0)
  else if (lnAt b 1).2.2 ≠ 0 then ((lnAt b 1).2.2, 0, 0)
  else if b.size < 1 + (lnAt b 1).2.1 + (lnAt b 1).1 then (3, 0, 0)
  else (0, 1 + (lnAt b 1).2.1, (lnAt b 1).1)

def rdErr (b : ByteArray) : Nat := (rd b).1
def rdTag (b : ByteArray) : Nat := u8at b 0
def rdContent (b : ByteArray) : ByteArray := b.extract (rd b).2.1 ((rd b).2.1 + (rd b).2.2)
def rdRaw (b : ByteArray) : ByteArray := b.extract 0 ((rd b).2.1 + (rd b).2.2)
def rdRest (b : ByteArray) : ByteArray := b.extract ((rd b).2.1 + (rd b).2.2) b.size

/-- An element as a value. -/
def elV (tag : Nat) (c r : ByteArray) : Value := .agg #[.int .i64 (tag : Int), .string c, .string r]
def noEl : Value := .agg #[.int .i64 0, .string ⟨#[]⟩, .string ⟨#[]⟩]
def rdEl (b : ByteArray) : Value := if rdErr b = 0 then elV (rdTag b) (rdContent b) (rdRaw b) else noEl
def rdVal (b : ByteArray) : Value :=
  if rdErr b = 0 then .tuple #[elV (rdTag b) (rdContent b) (rdRaw b), .string (rdRest b), .int .i64 0]
  else .tuple #[noEl, .string ⟨#[]⟩, .int .i64 ((rdErr b : Nat) : Int)]

/-- Where an element is read, it is longer than its header and its contents reach no further than the end. -/
theorem rd_ok {b : ByteArray} (h : rdErr b = 0) : 2 ≤ (rd b).2.1 ∧ (rd b).2.1 ≤ 5 ∧ (rd b).2.1 + (rd b).2.2 ≤ b.size ∧ u8at b 0 % 32 ≠ 31 ∧ b.size ≠ 0 := by
  unfold rdErr rd at h
  unfold rd
  by_cases h0 : b.size = 0
  · simp [h0] at h
  · by_cases h1 : u8at b 0 % 32 = 31
    · simp [h0, h1] at h
    · by_cases h2 : (lnAt b 1).2.2 ≠ 0
      · rw [if_neg h0, if_neg h1, if_pos h2] at h
        exact absurd h h2
      · by_cases h3 : b.size < 1 + (lnAt b 1).2.1 + (lnAt b 1).1
        · rw [if_neg h0, if_neg h1, if_neg h2, if_pos h3] at h
          cases h
        · rw [if_neg h0, if_neg h1, if_neg h2, if_neg h3]
          have hs : 1 ≤ (lnAt b 1).2.1 ∧ (lnAt b 1).2.1 ≤ 4 := by
            have h2' : (lnAt b 1).2.2 = 0 := by omega
            revert h2'
            unfold lnAt
            split
            · intro h; cases h
            · split
              · intro _; simp
              · split
                · intro h; cases h
                · split
                  · intro h; cases h
                  · split
                    · intro h; cases h
                    · intro _; simp; omega
          refine ⟨by simp; omega, by simp; omega, by simp; omega, h1, h0⟩
theorem rdRest_size {b : ByteArray} (h : rdErr b = 0) : (rdRest b).size < b.size := by
  obtain ⟨h1, _, h2, _, _⟩ := rd_ok h
  unfold rdRest
  rw [ByteArray.size_extract]
  omega
theorem rdContent_size {b : ByteArray} (h : rdErr b = 0) : (rdContent b).size < b.size := by
  obtain ⟨h1, _, h2, _, _⟩ := rd_ok h
  unfold rdContent
  rw [ByteArray.size_extract]
  omega
end Go.Proofs.YtfpfgdbfigdooaaGreatDoor
namespace Go.Proofs.YtfpfgdbfigdooaaGreatDoor
open Go.RowKit

set_option maxRecDepth 100000 in
theorem and31 : ∀ n : Nat, n < 256 → bits BinOp.and .i64 (n : Int) 31 = ((n % 32 : Nat) : Int) := by decide

theorem hasShortTag_any (n : Nat) (hn : n < 256) (w : World) :
    Calls Tryz.prog 93 #[.int .i64 (n : Int)] w fun e w' => e = .returned (.bool (decide (n % 32 ≠ 31))) ∧ w' = w := by
  have h := and31 n hn
  go_enter Tryz.func93, Tryz.ntmps93
  go_wp2_with fail
  go_ret
  refine ⟨?_, rfl⟩
  congr 2
  by_cases h1 : n % 32 = 31
  · simp [h1]; omega
  · have h2 : ¬ (n : Int) % 32 = 31 := by omega
    simp [h1, h2]

/-- How many octets a length takes. -/
def lsz (n : Nat) : Nat := if n < 128 then 1 else if n < 256 then 2 else if n < 65536 then 3 else 4
theorem lsz1 {n : Nat} (h : n < 128) : lsz n = 1 := by simp [lsz, h]
theorem lsz2 {n : Nat} (h : 128 ≤ n) (h' : n < 256) : lsz n = 2 := by simp [lsz, h', show ¬ n < 128 by omega]
theorem lsz3 {n : Nat} (h : 256 ≤ n) (h' : n < 65536) : lsz n = 3 := by simp [lsz, h', show ¬ n < 128 by omega, show ¬ n < 256 by omega]
theorem lsz4 {n : Nat} (h : 65536 ≤ n) : lsz n = 4 := by simp [lsz, show ¬ n < 128 by omega, show ¬ n < 256 by omega, show ¬ n < 65536 by omega]

theorem lengthSize_any (n : Nat) (w : World) :
    Calls Tryz.prog 132 #[.int .i64 (n : Int)] w fun e w' => e = .returned (.int .i64 (lsz n : Nat)) ∧ w' = w := by
  by_cases h1 : n < 128
  · have d1 : decide ((n : Int) < 128) = true := by simp; omega
    rw [lsz1 h1]
    clear h1
    go_enter Tryz.func132, Tryz.ntmps132
    go_wp2_with fail
    go_ret
    exact ⟨rfl, rfl⟩
  · have d1 : decide ((n : Int) < 128) = false := by simp; omega
    by_cases h2 : n < 256
    · have d2 : decide ((n : Int) < 256) = true := by simp; omega
      rw [lsz2 (by omega) h2]
      clear h1 h2
      go_enter Tryz.func132, Tryz.ntmps132
      go_wp2_with fail
      go_ret
      exact ⟨rfl, rfl⟩
    · have d2 : decide ((n : Int) < 256) = false := by simp; omega
      by_cases h3 : n < 65536
      · have d3 : decide ((n : Int) < 65536) = true := by simp; omega
        rw [lsz3 (by omega) h3]
        clear h1 h2 h3
        go_enter Tryz.func132, Tryz.ntmps132
        go_wp2_with fail
        go_ret
        exact ⟨rfl, rfl⟩
      · have d3 : decide ((n : Int) < 65536) = false := by simp; omega
        rw [lsz4 (by omega)]
        clear h1 h2 h3
        go_enter Tryz.func132, Tryz.ntmps132
        go_wp2_with fail
        go_ret
        exact ⟨rfl, rfl⟩
end Go.Proofs.YtfpfgdbfigdooaaGreatDoor
