/-
  The contract of oid.Encode: the contents of the object identifier that the text is, if it is one.
-/
import Derived.Test.YtapokiplmcfmoaaDoorOapp
namespace Go.Proofs.YtapokiplmcfmoaaDoor
open Go.RowKit

theorem wrap_i64 (n : Int) : IntKind.i64.wrap n = (n + 9223372036854775808) % 18446744073709551616 - 9223372036854775808 := by
  simp [IntKind.wrap, IntKind.bits, IntKind.signed]
  split <;> omega
theorem own_nil (E : TypeId) (w : World) (B : Nat) : OwnB E w B (.slice none 0 0) [] := World.ownsRow_nil _ _ _ _
def encVal (a : List Nat) : Value := .tuple #[.string (strOf (enc a)), .int .i64 0]
def noVal : Value := .tuple #[.string ⟨#[]⟩, .int .i64 11]

set_option maxRecDepth 100000 in
set_option maxHeartbeats 1000000 in
theorem enc_no {s : ByteArray} (h : ∀ a, ¬ Oid s.data.toList a) (w : World) (hs : s.size ≤ 1099511627) :
    Calls Tryd.prog 10 #[.string s] w fun e w' => e = .returned noVal ∧ Below w.heap.size w w' := by
  have HH := Lib.hid h
  clear h
  go_enter Tryd.func10, Tryd.ntmps10
  go_wp2_with (go_at_call 21; (with_reducible refine (arcs_no HH.out _ hs).mono ?_); rintro e w1 ⟨rfl, hb1⟩; have HB1 := Lib.hid hb1; clear hb1)
  go_ret2
  exact ⟨rfl, HB1.out⟩

theorem ILie.tail {w : World} {g : Nat} {x y : Nat} {r : List Nat} (h : ILie w g (x :: y :: r)) (k : Nat) (hk : k < r.length) : w.cell? ⟨g, 2 + k, none⟩ = some (.int .i64 ((r.getD k 0 : Nat) : Int)) := by
  have := h.2 (2 + k) (by simp; omega)
  rw [this]
  have e : (x :: y :: r).getD (2 + k) 0 = r.getD k 0 := by
    rw [show 2 + k = (k + 1) + 1 by omega]; simp
  rw [e]
theorem e128_len5 {a : List Nat} (h : ∀ v ∈ a, v < 34359738368) : (cat e128 a).length ≤ 5 * a.length := by
  induction a with
  | nil => simp [cat]
  | cons v a ih =>
    have h1 := e128_len v (h v (by simp))
    have h2 := ih (fun x hx => h x (by simp [hx]))
    simp only [cat, List.length_append, List.length_cons]; omega

set_option maxRecDepth 100000 in
set_option maxHeartbeats 1000000 in
theorem enc_yes {s : ByteArray} {a : List Nat} (h : Oid s.data.toList a) (w : World) (hs : s.size ≤ 1099511627) :
    Calls Tryd.prog 10 #[.string s] w fun e w' => e = .returned (encVal a) ∧ Below w.heap.size w w' := by
  have HH := Lib.hid h
  have hg := h.1
  obtain ⟨x, y, r, rfl⟩ : ∃ x y r, a = x :: y :: r := by
    match a, hg.1 with
    | x :: y :: r, _ => exact ⟨x, y, r, rfl⟩
  have hx : x ≤ 2 := by simpa using hg.2.2.2.1
  have hy : y ≤ 2147483647 := hg.2.2.1 y (by simp)
  have HR := Lib.hid (fun v (hv : v ∈ r) => hg.2.2.1 v (by simp [hv]))
  have hrl : r.length ≤ 10 := by have := hg.2.1; simp at this; omega
  obtain ⟨m, hm⟩ : ∃ m, m = 40 * x + y := ⟨_, rfl⟩
  have hwr : IntKind.i64.wrap (40 * (x : Int) + (y : Int)) = (m : Int) := by rw [wrap_i64]; omega
  have hwr2 : IntKind.i64.wrap (40 * (x : Int)) = 40 * (x : Int) := by rw [wrap_i64]; omega
  have hmb : m < 34359738368 := by omega
  have HM := Lib.hid hm
  clear hm
  clear h hg
  go_enter Tryd.func10, Tryd.ntmps10
  go_upto_region 4 with (go_at_call 21; (with_reducible refine (arcs_yes HH.out _ hs).mono ?_); rintro e w1 ⟨⟨g, cap, rfl, hl, hg, hcp⟩, hb1⟩; have HB1 := Lib.hid hb1; have HL1 := Lib.hid hl; have hc0 := hl.cell 0 (by simp); have hc1 := hl.cell 1 (by simp); clear hb1 hl hg)
  simp only [List.length_cons] at hcp
  simp only [List.getD_cons_zero, List.getD_cons_succ] at hc0 hc1
  go_region_with (go_at_call 22; (with_reducible refine (app_any _ [] m w1.heap.size _ hmb (by exact own_nil _ _ _) (by simp) (by simp)).mono ?_); rintro e w2 ⟨v2, rfl, ho2, hb2⟩; have HO2 := Lib.hid ho2; have HB2 := Lib.hid hb2; clear ho2 hb2)
  all_goals
    have HB3 := Lib.hid (show Below w1.heap.size w1 w2 from (Below.refl _ w1).drew.trans HB2.out)
    clear HB2 hwr hwr2 hc0 hc1
    go_wp2_with fail
  all_goals
    have HCP := Lib.hid hcp
    go_loopw [6, 28] (fun u i wr => ∃ (k : Nat) (D : List UInt8), k ≤ r.length ∧ i = .int .i64 (k : Int) ∧ D = cat e128 (m :: r.take k) ∧ OwnB 5 wr w1.heap.size u D ∧ Below w1.heap.size w1 wr) (fun _ i _ => r.length - (intOf i).toNat)
    case atStart => exact ⟨0, e128 m, by omega, rfl, by simp [cat], HO2.out, HB3.out⟩
    case round =>
      obtain ⟨k, D, hk, rfl, hD, ho, hb⟩ := hrel
      have HO := Lib.hid ho
      have HB := Lib.hid hb
      have HD := Lib.hid hD
      have hDl : D.length ≤ 5 * 13 := by
        rw [hD]
        refine Nat.le_trans (e128_len5 (fun v hv => ?_)) (by simp; omega)
        rcases List.mem_cons.1 hv with rfl | hv
        · exact hmb
        · exact Nat.lt_of_le_of_lt (HR.out v (List.mem_of_mem_take hv)) (by decide)
      have HDL := Lib.hid (show D.length ≤ 1099511627 by omega)
      have HSZ := Lib.hid hb.size
      clear ho hb hD hDl
      by_cases hlt : k < r.length
      · have hd : decide ((k : Int) < (r.length : Int)) = true := by simp; omega
        have hcx := (HL1.out.below HB.out).tail k hlt
        have hrm : r.getD k 0 ≤ 2147483647 := by
          rw [List.getD_eq_getElem?_getD, List.getElem?_eq_getElem hlt]
          exact HR.out _ (List.getElem_mem _)
        have HN := Lib.hid (show r.take (k + 1) = r.take k ++ [r.getD k 0] by
          rw [List.take_add_one, List.getElem?_eq_getElem hlt, List.getD_eq_getElem?_getD, List.getElem?_eq_getElem hlt]; rfl)
        generalize r.getD k 0 = z at hcx hrm HN
        have HZ := Lib.hid (show z < 34359738368 by omega)
        first
        | (exfalso; omega)
        | (go_wp2_with (go_at_call 22; (with_reducible refine (app_any _ D z w1.heap.size _ HZ.out HO.out HSZ.out HDL.out).mono ?_); rintro e w4 ⟨v4, rfl, ho4, hb4⟩; have HO4 := Lib.hid ho4; have HB4 := Lib.hid hb4; clear ho4 hb4)
           go_roundw
           case rel => exact ⟨k + 1, D ++ e128 z, by omega, by go_num, by rw [HD.out, HN.out]; simp only [cat]; rw [cat_append]; simp [cat], HO4.out, HB.out.trans HB4.out⟩
           case measure => simp [intOf]; omega)
      · obtain rfl : k = r.length := by omega
        have hd : decide ((r.length : Int) < (r.length : Int)) = false := by simp
        have hs2 := own_str HO.out
        go_wp2_with fail
        go_ret2
        refine ⟨?_, below_next HB1.out HB.out⟩
        have e : D = enc (x :: y :: r) := by rw [HD.out, List.take_of_length_le (Nat.le_refl _), HM.out]; rfl
        rw [e]; rfl
end Go.Proofs.YtapokiplmcfmoaaDoor
