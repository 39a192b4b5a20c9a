/-
  Decimal digits of numbers: what they spell, and the contract of the reference's Dec.
-/
import Derived.Test.YtkgdkaopbnodpaaDoorDbase
import Derived.Lib.ItoaNum
import Derived.Lib.ItoaLen
import Derived.Deep.RegionWith
import Derived.Deep.DeepCutAuto
namespace Go.Proofs.YtkgdkaopbnodpaaDoor
open Go.RowKit

/-! ### Decimal numbers -/
def isDig (c : UInt8) : Prop := 48 ≤ c.toNat ∧ c.toNat ≤ 57
def dval (l : List UInt8) : Nat := l.foldl (fun v c => 10 * v + (c.toNat - 48)) 0
theorem head_left {l r : List UInt8} (h : l ≠ []) : (l ++ r).head? = l.head? := by
  cases l with
  | nil => exact absurd rfl h
  | cons _ _ => rfl
theorem dval_snoc (l : List UInt8) (c : UInt8) : dval (l ++ [c]) = 10 * dval l + (c.toNat - 48) := by simp [dval]
theorem dval_le (l r : List UInt8) : dval l ≤ dval (l ++ r) := by
  induction r generalizing l with
  | nil => simp
  | cons c r ih =>
    have := ih (l ++ [c])
    rw [dval_snoc, List.append_assoc, List.singleton_append] at this
    omega
theorem dval_lt (l : List UInt8) (h : ∀ c ∈ l, isDig c) : dval l < 10 ^ l.length := by
  induction hn : l.length generalizing l with
  | zero => obtain rfl := List.eq_nil_of_length_eq_zero hn; simp [dval]
  | succ n ih =>
    obtain ⟨r, c, rfl⟩ : ∃ r c, l = r ++ [c] := ⟨l.dropLast, l.getLast (by intro e; simp [e] at hn), (List.dropLast_concat_getLast _).symm⟩
    have h1 := ih r (fun x hx => h x (by simp [hx])) (by simpa using hn)
    have h2 := h c (by simp)
    unfold isDig at h2
    rw [dval_snoc, Nat.pow_succ]
    omega
theorem dec_props (v : Nat) : (∀ c ∈ Lib.decDigits v, isDig c) ∧ dval (Lib.decDigits v) = v ∧ Lib.decDigits v ≠ [] ∧ ((Lib.decDigits v).head? = some 48 → v = 0) := by
  induction v using Nat.strongRecOn with
  | _ v ih =>
    rw [Lib.decDigits]
    split
    · rename_i h
      refine ⟨?_, ?_, by simp, ?_⟩
      · intro c hc
        obtain rfl : c = UInt8.ofNat (48 + v) := by simpa using hc
        unfold isDig; simp; omega
      · simp [dval]; omega
      · intro e
        have e2 : UInt8.ofNat (48 + v) = 48 := by simpa using e
        have := congrArg UInt8.toNat e2
        simp at this; omega
    · rename_i h
      obtain ⟨h1, h2, h3, h4⟩ := ih (v / 10) (by omega)
      refine ⟨?_, ?_, by simp, ?_⟩
      · intro c hc
        rcases List.mem_append.1 hc with hc | hc
        · exact h1 c hc
        · obtain rfl : c = UInt8.ofNat (48 + v % 10) := by simpa using hc
          unfold isDig; simp; omega
      · rw [dval_snoc, h2]; simp; omega
      · intro e
        rw [head_left h3] at e
        have := h4 e
        omega
theorem dec_dig {v : Nat} {c : UInt8} (h : c ∈ Lib.decDigits v) : isDig c := (dec_props v).1 c h
theorem dec_val (v : Nat) : dval (Lib.decDigits v) = v := (dec_props v).2.1
theorem dec_ne (v : Nat) : Lib.decDigits v ≠ [] := (dec_props v).2.2.1
theorem dec_head {v : Nat} (h : (Lib.decDigits v).head? = some 48) : v = 0 := (dec_props v).2.2.2 h
theorem dec_zero : Lib.decDigits 0 = [48] := by rw [Lib.decDigits]; rfl
theorem dec_len (k v : Nat) (h : v < 10 ^ k) (hk : 1 ≤ k) : (Lib.decDigits v).length ≤ k := by
  induction k generalizing v with
  | zero => omega
  | succ k ih =>
    rw [Lib.decDigits]
    split
    · simp
    · rename_i hv
      have hk1 : 1 ≤ k := by
        rcases Nat.eq_zero_or_pos k with rfl | h0
        · simp at h; omega
        · exact h0
      have := ih (v / 10) (by rw [Nat.pow_succ] at h; omega) hk1
      simp; omega
/-- Digits without a leading zero are the number's. -/
theorem dec_of (l : List UInt8) (h0 : l ≠ []) (h1 : ∀ c ∈ l, isDig c) (h2 : l.head? = some 48 → l.length = 1) : l = Lib.decDigits (dval l) := by
  induction hn : l.length generalizing l with
  | zero => exact absurd (List.eq_nil_of_length_eq_zero hn) h0
  | succ n ih =>
    obtain ⟨r, c, rfl⟩ : ∃ r c, l = r ++ [c] := ⟨l.dropLast, l.getLast h0, (List.dropLast_concat_getLast _).symm⟩
    have hc := h1 c (by simp)
    unfold isDig at hc
    by_cases hr : r = []
    · subst hr
      have e : dval ([] ++ [c]) = c.toNat - 48 := by simp [dval]
      rw [e, Lib.decDigits_one (by omega)]
      have : (48 + (c.toNat - 48)) = c.toNat := by omega
      rw [this]; simp
    · have hh : (r ++ [c]).head? = r.head? := head_left hr
      have hl : 1 ≤ r.length := by
        cases r with
        | nil => exact absurd rfl hr
        | cons _ _ => simp
      have hne : r.head? ≠ some 48 := fun e => by
        have := h2 (by rw [hh]; exact e)
        simp at this; exact hr this
      have hr2 := ih r hr (fun x hx => h1 x (by simp [hx])) (fun e => absurd e hne) (by simpa using hn)
      have hpos : dval r ≠ 0 := fun e => by
        rw [e, dec_zero] at hr2
        exact hne (by rw [hr2]; rfl)
      rw [dval_snoc]
      conv => rhs; rw [Lib.decDigits]
      rw [dif_neg (by omega)]
      have e1 : (10 * dval r + (c.toNat - 48)) / 10 = dval r := by omega
      have e2 : 48 + (10 * dval r + (c.toNat - 48)) % 10 = c.toNat := by omega
      rw [e1, e2, ← hr2]; simp
theorem str_dig (d : UInt8) (w : World) : (convert 43 9 (.slice (some ⟨w.heap.size, 0, none⟩) 1 1)).run Tryd.prog (w.alloc (.cells #[.int .u8 ((d.toNat : Nat) : Int)] 5)) = .ok (.string (strOf [d])) (w.alloc (.cells #[.int .u8 ((d.toNat : Nat) : Int)] 5)) :=
  own_str (l := [d]) ⟨rfl, .inr ⟨w.heap.size, 1, _, rfl, Nat.le_refl _, heap_alloc_new w _, Nat.le_refl _, by decide, rfl, rfl⟩⟩

set_option maxRecDepth 100000 in
set_option maxHeartbeats 1000000 in
theorem dec_small (n : Nat) (h : n < 10) (w : World) :
    Calls Tryd.prog 43 #[.int .i64 (n : Int)] w fun e w' => e = .returned (.string (strOf (Lib.decDigits n))) ∧ Below w.heap.size w w' := by
  have d1 : decide ((n : Int) < 10) = true := by simp; omega
  obtain ⟨d, hd⟩ : ∃ d : UInt8, d = UInt8.ofNat (48 + n) := ⟨_, rfl⟩
  have hdn : wrap64 (48 + (n : Int)) % 256 = ((d.toNat : Nat) : Int) := by rw [hd]; unfold wrap64; simp; omega
  have hs := str_dig d
  have HD := Lib.hid (show Lib.decDigits n = [d] by rw [Lib.decDigits_one h, hd])
  clear h hd
  go_enter Tryd.func43, Tryd.ntmps43
  go_wp2_with fail
  go_ret
  exact ⟨by rw [HD.out]; rfl, belowNew _ _⟩
theorem conv_later (d : UInt8) (w w1 : World) (hb : Below (w.alloc (.cells #[.int .u8 ((d.toNat : Nat) : Int)] 5)).drew.heap.size (w.alloc (.cells #[.int .u8 ((d.toNat : Nat) : Int)] 5)).drew w1) :
    (convert 43 9 (.slice (some ⟨w.heap.size, 0, none⟩) 1 1)).run Tryd.prog w1 = .ok (.string (strOf [d])) w1 :=
  own_str (B := w.heap.size) (l := [d]) (own_below (w := (w.alloc (.cells #[.int .u8 ((d.toNat : Nat) : Int)] 5)).drew) (World.ownsRow.drew ⟨rfl, .inr ⟨w.heap.size, 1, _, rfl, Nat.le_refl _, heap_alloc_new w _, Nat.le_refl _, by decide, rfl, rfl⟩⟩) hb)
theorem str_dig_drew (d : UInt8) (w : World) : (convert 43 9 (.slice (some ⟨w.heap.size, 0, none⟩) 1 1)).run Tryd.prog (w.alloc (.cells #[.int .u8 ((d.toNat : Nat) : Int)] 5)).drew = .ok (.string (strOf [d])) (w.alloc (.cells #[.int .u8 ((d.toNat : Nat) : Int)] 5)).drew :=
  own_str (B := w.heap.size) (l := [d]) (World.ownsRow.drew ⟨rfl, .inr ⟨w.heap.size, 1, _, rfl, Nat.le_refl _, heap_alloc_new w _, Nat.le_refl _, by decide, rfl, rfl⟩⟩)

set_option maxRecDepth 100000 in
set_option maxHeartbeats 1000000 in
theorem dec_bound (k : Nat) : ∀ (n : Nat) (w : World), n < 10 ^ (k + 1) → n ≤ 9223372036854775807 →
    Calls Tryd.prog 43 #[.int .i64 (n : Int)] w fun e w' => e = .returned (.string (strOf (Lib.decDigits n))) ∧ Below w.heap.size w w' := by
  induction k with
  | zero => intro n w h _; exact dec_small n (by simpa using h) w
  | succ k ih =>
    intro n w h hn
    by_cases h10 : n < 10
    · exact dec_small n h10 w
    · have d1 : decide ((n : Int) < 10) = false := by simp; omega
      obtain ⟨q, hq⟩ : ∃ q, q = n / 10 := ⟨_, rfl⟩
      obtain ⟨d, hd⟩ : ∃ d : UInt8, d = UInt8.ofNat (48 + n % 10) := ⟨_, rfl⟩
      have hqi : (n : Int) / 10 = (q : Int) := by rw [hq]; omega
      have HIH := Lib.hid (fun w => ih q w (by rw [hq]; rw [Nat.pow_succ] at h; omega) (by omega))
      have hqw : IntKind.i64.wrap (q : Int) = (q : Int) := by rw [wrap_i64]; omega
      have hdn : IntKind.u8.wrap (IntKind.i64.wrap (48 + (n : Int).tmod 10)) = ((d.toNat : Nat) : Int) := by
        rw [hd, wrap_i64, Int.tmod_eq_emod_of_nonneg (by omega)]
        simp [IntKind.wrap, IntKind.bits, IntKind.signed]
        omega
      have hs := str_dig_drew d
      have HD := Lib.hid (show Lib.decDigits n = Lib.decDigits q ++ [d] by
        conv => lhs; rw [Lib.decDigits]
        rw [dif_neg h10, hq, hd])
      have hcat : ∀ w, (Op.stringOp .add (strOf (Lib.decDigits q)) (strOf [d])).run Tryd.prog w = .ok (.string (strOf (Lib.decDigits n))) w := fun w => by
        rw [run_string_add_sum w _ _ (by
          rw [strOf_size, strOf_size, Lib.decDigits_length]
          have := Lib.nDigits_le20 q (by omega)
          simp; omega), str_cat, HD.out]
      clear hq hd ih h
      go_enter Tryd.func43, Tryd.ntmps43
      go_upto_region 3 with fail
      go_region_with (first
        | (go_at_call 43; (with_reducible refine (HIH.out _).mono ?_); rintro e w1 ⟨rfl, hb1⟩; have hs1 := conv_later d w w1 hb1; have HB1 := Lib.hid (show Below w.heap.size w w1 from (belowNew w _).drew.trans (hb1.mono (by simp))); clear hb1)
        | (go_at_call 43; (with_reducible refine (HIH.out _).mono ?_); rintro e w1 ⟨rfl, hb1⟩; have hs1 := str_dig d w1; have HB1 := Lib.hid (show Below w.heap.size w w1 from (Below.refl _ w).drew.trans (hb1.mono (by simp))); clear hb1))
      all_goals
        go_wp2_with fail
        go_ret
        first
        | exact ⟨rfl, HB1.out⟩
        | exact ⟨rfl, HB1.out.alloc HB1.out.size _⟩
theorem decno_any (n : Nat) (w : World) (hn : n ≤ 9223372036854775807) :
    Calls Tryd.prog 43 #[.int .i64 (n : Int)] w fun e w' => e = .returned (.string (strOf (Lib.decDigits n))) ∧ Below w.heap.size w w' :=
  dec_bound 18 n w (by omega) hn
end Go.Proofs.YtkgdkaopbnodpaaDoor
