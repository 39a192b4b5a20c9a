/-
  The contract of the law's function id: the text of a good list of numbers that is made of the given ones.
-/
import Derived.Test.YtapokiplmcfmoaaDoorOdecno
namespace Go.Proofs.YtapokiplmcfmoaaDoor
open Go.RowKit

/-- The numbers L can be read from the address a0 on. -/
def WLies (w : World) (a0 : Option Addr) (L : List Nat) : Prop :=
  L = [] ∨ ∃ b off, a0 = some ⟨b, off, none⟩ ∧ ∀ i, i < L.length → w.cell? ⟨b, off + i, none⟩ = some (.int .u32 ((L.getD i 0 : Nat) : Int))
theorem WLies.below {w w' : World} {a0 : Option Addr} {L : List Nat} (h : WLies w a0 L) (hb : Below w.heap.size w w') : WLies w' a0 L := by
  rcases h with h | ⟨b, off, h1, h2⟩
  · exact .inl h
  · refine .inr ⟨b, off, h1, fun i hi => ?_⟩
    rw [← h2 i hi]
    exact hb.cell (World.block_lt_of_cell? _ _ (h2 i hi))
theorem WLies.take {w : World} {a0 : Option Addr} {L : List Nat} (h : WLies w a0 L) (k : Nat) : WLies w a0 (L.take k) := by
  rcases h with h | ⟨b, off, h1, h2⟩
  · exact .inl (by rw [h]; simp)
  · refine .inr ⟨b, off, h1, fun i hi => ?_⟩
    rw [List.length_take] at hi
    rw [h2 i (by omega), List.getD_eq_getElem?_getD, List.getD_eq_getElem?_getD, List.getElem?_take_of_lt (by omega)]
def idOne (y : Nat) : Nat := y / 2 ^ (y % 32) % 2147483648
def idHead : List Nat → List Nat
  | [] => [2, 999]
  | x :: _ => [x % 3, x / 3 % 40]
def idRest (L : List Nat) : List Nat := ((L.drop 1).take 7).map idOne
def idArcs (L : List Nat) : List Nat := idHead L ++ idRest L
theorem idHead_len (L : List Nat) : (idHead L).length = 2 := by cases L <;> rfl
theorem idRest_len (L : List Nat) : (idRest L).length = min 7 (L.length - 1) := by simp [idRest]
theorem idArcs_good (L : List Nat) : Good (idArcs L) := by
  refine ⟨by simp [idArcs, idHead_len], by simp [idArcs, idHead_len, idRest_len]; omega, ?_, ?_, ?_⟩
  · intro v hv
    rcases List.mem_append.1 hv with hv | hv
    · cases L with
      | nil => simp [idHead] at hv; omega
      | cons x r => simp [idHead] at hv; omega
    · obtain ⟨y, _, rfl⟩ := List.mem_map.1 hv
      unfold idOne; omega
  · cases L with
    | nil => simp [idArcs, idHead]
    | cons x r => simp [idArcs, idHead]; omega
  · cases L with
    | nil => simp [idArcs, idHead]
    | cons x r => simp [idArcs, idHead]; omega
theorem txt_len (a : List Nat) (h : ∀ v ∈ a, v ≤ 2147483647) : (txt a).length ≤ 11 * a.length := by
  by_cases h0 : a = []
  · subst h0; simp [txt]
  · have e := congrArg List.length (txt_dot a h0)
    have key : ∀ a : List Nat, (∀ v ∈ a, v ≤ 2147483647) → (cat fdot a).length ≤ 11 * a.length := by
      intro a
      induction a with
      | nil => intro _; simp [cat]
      | cons v a ih =>
        intro h
        have h1 := dec_len 10 v (Nat.lt_of_le_of_lt (h v (by simp)) (by decide)) (by omega)
        have h2 := ih (fun x hx => h x (by simp [hx]))
        simp only [cat, fdot, List.length_append, List.length_cons, List.length_nil]; omega
    have := key a h
    rw [List.length_append] at e
    simp at e; omega
theorem add_str (a b : List UInt8) (h : a.length + b.length ≤ 9223372036854775807) (w : World) : (Op.stringOp .add (strOf a) (strOf b)).run Tryd.prog w = .ok (.string (strOf (a ++ b))) w := by
  rw [run_string_add_sum w _ _ (by rw [strOf_size, strOf_size]; exact h), str_cat]
theorem and_max : ∀ v : Nat, v < 4294967296 → bits BinOp.and .i64 ((v : Nat) : Int) 2147483647 = ((v % 2147483648 : Nat) : Int) := by
  intro v hv
  show IntKind.i64.wrap ((BitVec.ofInt 64 (v : Int) &&& BitVec.ofInt 64 2147483647).toNat : Int) = _
  rw [BitVec.toNat_and, BitVec.toNat_ofInt, BitVec.toNat_ofInt, wrap_i64]
  have e1 : ((v : Int) % (2 ^ 64 : Nat)).toNat = v := by
    show ((v : Int) % (18446744073709551616 : Nat)).toNat = v
    omega
  have e2 : ((2147483647 : Int) % (2 ^ 64 : Nat)).toNat = 2 ^ 31 - 1 := by decide
  rw [e1, e2, Nat.and_two_pow_sub_one_eq_mod]
  show (((v % 2147483648 : Nat) : Int) + 9223372036854775808) % 18446744073709551616 - 9223372036854775808 = _
  omega

theorem add_dot (a : List UInt8) (h : a.length ≤ 1000) (w : World) : (Op.stringOp .add (strOf a) ⟨#[46]⟩).run Tryd.prog w = .ok (.string (strOf (a ++ [46]))) w := add_str a [46] (by simp; omega) w
theorem dot_add (a : List UInt8) (h : a.length ≤ 1000) (w : World) : (Op.stringOp .add ⟨#[46]⟩ (strOf a)).run Tryd.prog w = .ok (.string (strOf (46 :: a))) w := add_str [46] a (by simp; omega) w
theorem shr_32 (y : Nat) (hy : y < 4294967296) (w : World) : (Op.shift .shr .u32 (y : Int) .u32 ((y : Int).tmod 32)).run Tryd.prog w = .ok (.int .u32 ((y / 2 ^ (y % 32) : Nat) : Int)) w := by
  have e : (y : Int).tmod 32 = ((y % 32 : Nat) : Int) := by rw [Int.tmod_eq_emod_of_nonneg (by omega)]; omega
  rw [e, shift_shr .u32 .u32 (y : Int) ((y % 32 : Nat) : Int) (by omega) (by show ((y % 32 : Nat) : Int) ≤ 32; omega), Int.toNat_natCast]
  show Result.ok _ _ = _
  congr 2
theorem decno_2 (w : World) : Calls Tryd.prog 27 #[.int .i64 2] w fun e w' => e = .returned (.string (strOf (Lib.decDigits 2))) ∧ Below w.heap.size w w' := decno_any 2 w (by omega)
theorem decno_999 (w : World) : Calls Tryd.prog 27 #[.int .i64 999] w fun e w' => e = .returned (.string (strOf (Lib.decDigits 999))) ∧ Below w.heap.size w w' := decno_any 999 w (by omega)
theorem dec_le10 {v : Nat} (h : v ≤ 2147483647) : (Lib.decDigits v).length ≤ 10 := dec_len 10 v (Nat.lt_of_le_of_lt h (by decide)) (by omega)

set_option maxRecDepth 100000 in
set_option maxHeartbeats 1000000 in
theorem id_any (a0 : Option Addr) (L : List Nat) (cap : Nat) (w : World) (hl : WLies w a0 L) (hm : ∀ v ∈ L, v < 4294967296) (hlen : L.length ≤ 9223372036854775807) :
    Calls Tryd.prog 16 #[.slice a0 L.length cap] w fun e w' => e = .returned (.string (strOf (txt (idArcs L)))) ∧ Below w.heap.size w w' := by
  by_cases h0 : L = []
  · subst h0
    have c1 := add_dot (Lib.decDigits 2) (Nat.le_trans (dec_le10 (by omega)) (by omega))
    have c2 := add_str (Lib.decDigits 2 ++ [46]) (Lib.decDigits 999) (by
      have h1 := dec_le10 (v := 2) (by omega)
      have h2 := dec_le10 (v := 999) (by omega)
      simp; omega)
    go_enter Tryd.func16, Tryd.ntmps16
    go_wp2_with (first
      | (go_at_call 27; (with_reducible refine (decno_2 _).mono ?_); rintro e w1 ⟨rfl, hb1⟩; have HB1 := Lib.hid hb1; clear hb1)
      | (go_at_call 27; (with_reducible refine (decno_999 _).mono ?_); rintro e w2 ⟨rfl, hb2⟩; have HB2 := Lib.hid hb2; clear hb2))
    go_loopw [5, 6] (fun s i wr => s = .string (strOf (Lib.decDigits 2 ++ 46 :: Lib.decDigits 999)) ∧ i = .int .i64 1 ∧ wr = w2) (fun _ _ _ => 0)
    case atStart => exact ⟨rfl, rfl, rfl⟩
    case round =>
      obtain ⟨rfl, rfl, rfl⟩ := hrel
      go_wp2_with fail
      go_ret
      exact ⟨by simp [idArcs, idHead, idRest, txt], below_next HB1.out HB2.out⟩
  · obtain ⟨x, r, rfl⟩ : ∃ x r, L = x :: r := by
      cases L with
      | nil => exact absurd rfl h0
      | cons x r => exact ⟨x, r, rfl⟩
    obtain ⟨b, off, rfl, hc⟩ : ∃ b off, a0 = some ⟨b, off, none⟩ ∧ ∀ i, i < (x :: r).length → w.cell? ⟨b, off + i, none⟩ = some (.int .u32 (((x :: r).getD i 0 : Nat) : Int)) := hl.resolve_left h0
    have HC := Lib.hid hc
    have hx := hm x (by simp)
    have hc0 := hc 0 (by simp)
    simp only [List.getD_cons_zero, Nat.add_zero] at hc0
    have HM := Lib.hid hm
    obtain ⟨m1, hm1⟩ : ∃ m1, m1 = x % 3 := ⟨_, rfl⟩
    obtain ⟨m2, hm2⟩ : ∃ m2, m2 = x / 3 % 40 := ⟨_, rfl⟩
    have q1 : (x : Int) % 3 = (m1 : Int) := by omega
    have q2 : (x : Int) / 3 % 40 = (m2 : Int) := by omega
    have HH := Lib.hid (show idHead (x :: r) = [m1, m2] by rw [hm1, hm2]; rfl)
    have b1 : m1 ≤ 2 := by omega
    have b2 : m2 ≤ 39 := by omega
    clear hm1 hm2
    have p0 : (0 : Int) < (r.length : Int) + 1 := by omega
    clear h0 hc hm hl
    go_enter Tryd.func16, Tryd.ntmps16
    go_wp2_with fail
    go_quiet (fail)
    have c1 := add_dot (Lib.decDigits m1) (Nat.le_trans (dec_le10 (by omega)) (by omega))
    have c2 := add_str (Lib.decDigits m1 ++ [46]) (Lib.decDigits m2) (by
      have h1 := dec_le10 (v := m1) (by omega)
      have h2 := dec_le10 (v := m2) (by omega)
      simp; omega)
    have B1 := Lib.hid (show m1 ≤ 9223372036854775807 by omega)
    have B2 := Lib.hid (show m2 ≤ 9223372036854775807 by omega)
    go_wp2_with (first
      | (go_at_call 27; (with_reducible refine (decno_any m1 _ B1.out).mono ?_); rintro e w1 ⟨rfl, hb1⟩; have HB1 := Lib.hid hb1; clear hb1)
      | (go_at_call 27; (with_reducible refine (decno_any m2 _ B2.out).mono ?_); rintro e w2 ⟨rfl, hb2⟩; have HB2 := Lib.hid hb2; clear hb2))
    have HB3 := Lib.hid (show Below w.heap.size w w2 from below_next (below_next (Below.drawn (Below.refl w.heap.size w) nq) HB1.out) HB2.out)
    clear c1 c2 q1 q2 hc0
    have HRL := Lib.hid (idRest_len (x :: r))
    have HRM := Lib.hid (show ∀ v ∈ [m1, m2] ++ idRest (x :: r), v ≤ 2147483647 from by rw [← HH.out]; exact (idArcs_good (x :: r)).2.2.1)
    have HEQ := Lib.hid (show idArcs (x :: r) = [m1, m2] ++ idRest (x :: r) by rw [idArcs, HH.out])
    go_loopw [5, 6] (fun s i wr => ∃ k : Nat, k ≤ (idRest (x :: r)).length ∧ i = .int .i64 ((k : Int) + 1) ∧ s = .string (strOf (txt ([m1, m2] ++ (idRest (x :: r)).take k))) ∧ Below w.heap.size w wr) (fun _ i _ => 8 - (intOf i).toNat)
    case atStart => exact ⟨0, by omega, rfl, by simp [txt], HB3.out⟩
    case round =>
      obtain ⟨k, hk, rfl, rfl, hb⟩ := hrel
      have HB := Lib.hid hb
      have hrl := HRL.out
      simp only [List.length_cons, Nat.add_sub_cancel] at hrl
      by_cases hlt : k < (idRest (x :: r)).length
      · have g1 : decide ((k : Int) + 1 < (r.length : Int) + 1) = true := by simp; omega
        have g2 : decide ((k : Int) + 1 < 8) = true := by simp; omega
        have hkr : k < r.length := by omega
        have hk7 : k < 7 := by omega
        have hcy : wr.cell? ⟨b, off + (k + 1), none⟩ = some (.int .u32 ((r.getD k 0 : Nat) : Int)) := by
          have h1 := HC.out (k + 1) (by simp; omega)
          rw [← hb.cell (World.block_lt_of_cell? _ _ h1)] at h1
          simpa using h1
        have hy : r.getD k 0 < 4294967296 := by
          rw [List.getD_eq_getElem?_getD, List.getElem?_eq_getElem hkr]
          exact HM.out _ (by simp)
        have HN := Lib.hid (show (idRest (x :: r)).take (k + 1) = (idRest (x :: r)).take k ++ [idOne (r.getD k 0)] by
          rw [List.take_add_one]
          congr 1
          simp only [idRest, List.drop_succ_cons, List.drop_zero]
          rw [List.getElem?_map, List.getElem?_take_of_lt hk7, List.getElem?_eq_getElem hkr, List.getD_eq_getElem?_getD, List.getElem?_eq_getElem hkr]
          rfl)
        generalize r.getD k 0 = y at hcy hy HN
        obtain ⟨v, hv⟩ : ∃ v, v = idOne y := ⟨_, rfl⟩
        rw [← hv] at HN
        have hvb : v ≤ 2147483647 := by rw [hv]; unfold idOne; omega
        have HTL := Lib.hid (show (txt ([m1, m2] ++ (idRest (x :: r)).take k)).length ≤ 11 * 9 by
          refine Nat.le_trans (txt_len _ (fun z hz => HRM.out z ?_)) (by simp; omega)
          rcases List.mem_append.1 hz with hz | hz
          · exact List.mem_append_left _ hz
          · exact List.mem_append_right _ (List.mem_of_mem_take hz))
        have HTS := Lib.hid (show txt ([m1, m2] ++ (idRest (x :: r)).take (k + 1)) = txt ([m1, m2] ++ (idRest (x :: r)).take k) ++ 46 :: Lib.decDigits v by
          rw [HN.out, ← List.append_assoc, txt_snoc _ (by simp)])
        generalize txt ([m1, m2] ++ (idRest (x :: r)).take k) = T at HTL HTS
        have hdl := dec_le10 hvb
        have c1 := dot_add (Lib.decDigits v) (by omega)
        have c2 := add_str T (46 :: Lib.decDigits v) (by have := HTL.out; simp; omega)
        rw [← HTS.out] at c2
        have BV := Lib.hid (show v ≤ 9223372036854775807 by omega)
        clear hb hk hlt hrl hdl
        obtain ⟨z, hz⟩ : ∃ z, z = y / 2 ^ (y % 32) := ⟨_, rfl⟩
        have hsh := shr_32 y hy
        rw [← hz] at hsh
        have hz32 : z < 4294967296 := by
          rw [hz]; exact Nat.lt_of_le_of_lt (Nat.div_le_self _ _) hy
        have hand := and_max z hz32
        have hvz : z % 2147483648 = v := by rw [hv, idOne, hz]
        rw [hvz] at hand
        have hzw : IntKind.i64.wrap (z : Int) = (z : Int) := by rw [wrap_i64]; omega
        clear hz hv hvz
        go_upto_region 8 with fail
        go_region_with (go_at_call 27; (with_reducible refine (decno_any v _ BV.out).mono ?_); rintro e w4 ⟨rfl, hb4⟩; have HB4 := Lib.hid (below_next (Below.drew HB.out) hb4); clear hb4)
        all_goals
          go_wp2_with fail
          go_roundw
          case rel => exact ⟨k + 1, by have := HRL.out; simp only [List.length_cons, Nat.add_sub_cancel] at this; omega, by go_num, rfl, HB4.out⟩
          case measure => simp [intOf]; omega
      · obtain rfl : k = (idRest (x :: r)).length := by omega
        have HTT := Lib.hid (show txt ([m1, m2] ++ (idRest (x :: r)).take (idRest (x :: r)).length) = txt (idArcs (x :: r)) by rw [List.take_of_length_le (Nat.le_refl _), HEQ.out])
        rw [HTT.out]
        generalize (idRest (x :: r)).length = k at hrl
        have hor : decide ((k : Int) + 1 < (r.length : Int) + 1) = false ∧ ¬ (k < r.length) ∨ decide ((k : Int) + 1 < (r.length : Int) + 1) = true ∧ k < r.length ∧ decide ((k : Int) + 1 < 8) = false ∧ k = 7 := by
          by_cases h : k < r.length
          · right; exact ⟨by simp; omega, h, by simp; omega, by omega⟩
          · left; exact ⟨by simp; omega, h⟩
        clear hb hk hlt hrl
        rcases hor with ⟨g1, g3⟩ | ⟨g1, g3, g2, rfl⟩
        all_goals
          go_wp2_with fail
          go_ret
          exact ⟨rfl, HB.out⟩
end Go.Proofs.YtapokiplmcfmoaaDoor
