/-
  The contracts of date.Format and date.Parse.
-/
import Derived.Test.YtkgdkaopbnodpaaDoorDwrite
namespace Go.Proofs.YtkgdkaopbnodpaaDoor
open Go.RowKit

theorem flds_le {x : Dt} (h : Ok x) : ∀ j, (flds x).getD j 0 ≤ 99999 := by
  have hd := mdays_pos (y := x.y) h.m1 h.m2
  have a := h.y2
  have b := h.m2
  have c := h.d2
  have d := h.h2
  have e := h.n2
  have f := h.s2
  intro j
  unfold flds
  rcases (by omega : j = 0 ∨ j = 1 ∨ j = 2 ∨ j = 3 ∨ j = 4 ∨ j = 5 ∨ 6 ≤ j) with rfl | rfl | rfl | rfl | rfl | rfl | hj
  · show x.y ≤ _; omega
  · show x.m ≤ _; omega
  · show x.d ≤ _; omega
  · show x.h ≤ _; omega
  · show x.n ≤ _; omega
  · show x.s ≤ _; omega
  · rw [List.getD_eq_getElem?_getD, List.getElem?_eq_none (by simpa using hj)]; simp
theorem ok_hundred {x : Dt} (h : Ok x) : x.m / 10 / 10 = 0 ∧ x.d / 10 / 10 = 0 ∧ x.h / 10 / 10 = 0 ∧ x.n / 10 / 10 = 0 ∧ x.s / 10 / 10 = 0 := by
  have hd := mdays_pos (y := x.y) h.m1 h.m2
  have b := h.m2
  have c := h.d2
  have d := h.h2
  have e := h.n2
  have f := h.s2
  omega
theorem fits_T {x : Dt} (h : Ok x) : wrt layT (flds x) = (txtT x, zeros) := by
  obtain ⟨a, b, c, d, e⟩ := ok_hundred h
  have hy : x.y / 10 / 10 / 10 / 10 = 0 := by have := h.y2; omega
  rw [wrt_T, a, b, c, d, e, hy]; rfl
theorem fits_L {x : Dt} (h : Ok x) : wrt layL (flds x) = (txtL x, zeros) := by
  obtain ⟨a, b, c, d, e⟩ := ok_hundred h
  have hy : x.y / 10 / 10 / 10 / 10 = 0 := by have := h.y2; omega
  rw [wrt_L, a, b, c, d, e, hy]; rfl
theorem wrt_one {L S : List UInt8} {x z : Dt} (h : wrt L (flds x) = (S, zeros)) (k : wrt L (flds z) = (S, zeros)) : x = z := by
  have h1 := wrt_rd L S zeros (flds x) rfl h
  have h2 := wrt_rd L S zeros (flds z) rfl k
  rw [h1] at h2
  exact flds_inj (Option.some.inj h2)
theorem okI_iff {x : Dt} : OkI (x.y : Int) (x.m : Int) (x.d : Int) (x.h : Int) (x.n : Int) (x.s : Int) ↔ Ok x := by
  constructor
  · rintro ⟨z, h, a, b, c, d, e, f⟩
    have : x = z := by
      cases x; cases z
      simp only [Dt.mk.injEq]
      simp only [Int.natCast_inj] at a b c d e f
      exact ⟨a, b, c, d, e, f⟩
    rw [this]; exact h
  · intro h
    exact ⟨x, h, rfl, rfl, rfl, rfl, rfl, rfl⟩
theorem txtT_inj {x z : Dt} (h : Ok x) (k : Ok z) (e : txtT x = txtT z) : x = z := wrt_one (fits_T h) (by rw [fits_T k, e])
theorem txtT_len (x : Dt) : (txtT x).length = 19 := rfl
theorem txtU_len (x : Dt) : (txtU x).length = 13 := rfl
theorem txtL_len (x : Dt) : (txtL x).length = 15 := rfl

theorem write_T (x : Dt) (w : World) (h : Ok x) :
    Calls Tryd.prog 35 #[.string ⟨#[89, 89, 89, 89, 45, 77, 77, 45, 68, 68, 32, 104, 104, 58, 109, 109, 58, 115, 115]⟩, dtV x] w fun E w' => E = .returned (.string (strOf (txtT x))) ∧ Below w.heap.size w w' := by
  have := write_any layT x w (by decide) (flds_le h)
  rwa [wrt_T] at this
theorem read_T (s : ByteArray) (w : World) :
    Calls Tryd.prog 38 #[.string ⟨#[89, 89, 89, 89, 45, 77, 77, 45, 68, 68, 32, 104, 104, 58, 109, 109, 58, 115, 115]⟩, .string s] w fun E w' => Rd layT s E ∧ Below w.heap.size w w' :=
  read_any layT s w (by decide) cnt_T
/-- Behind read: the six numbers, or none. -/
theorem read_T_yes {s : ByteArray} {x : Dt} (h : wrt layT (flds x) = (s.data.toList, zeros)) (w : World) :
    Calls Tryd.prog 38 #[.string ⟨#[89, 89, 89, 89, 45, 77, 77, 45, 68, 68, 32, 104, 104, 58, 109, 109, 58, 115, 115]⟩, .string s] w fun E w' => E = .returned (.tuple #[dtV x, .bool true]) ∧ Below w.heap.size w w' := by
  refine (read_T s w).mono ?_
  rintro E w' ⟨⟨z, hz, rfl⟩ | ⟨hz, _⟩, hb⟩
  · obtain rfl := wrt_one h hz
    exact ⟨rfl, hb⟩
  · exact absurd h (hz x)
theorem read_T_no {s : ByteArray} (h : ∀ x, wrt layT (flds x) ≠ (s.data.toList, zeros)) (w : World) :
    Calls Tryd.prog 38 #[.string ⟨#[89, 89, 89, 89, 45, 77, 77, 45, 68, 68, 32, 104, 104, 58, 109, 109, 58, 115, 115]⟩, .string s] w fun E w' => E = .returned (.tuple #[dt0, .bool false]) ∧ Below w.heap.size w w' := by
  refine (read_T s w).mono ?_
  rintro E w' ⟨⟨z, hz, _⟩ | ⟨_, rfl⟩, hb⟩
  · exact absurd hz (h z)
  · exact ⟨rfl, hb⟩

set_option maxRecDepth 100000 in
set_option maxHeartbeats 1000000 in
theorem fmt_no {t : Int} (h : t < 0 ∨ 254033452799 < t) (w : World) :
    Calls Tryd.prog 20 #[.int .i64 t] w fun E w' => E = .returned (.tuple #[.string ⟨#[]⟩, .int .i64 1]) ∧ Below w.heap.size w w' := by
  have HC := Lib.hid (fun w => civ_no h w)
  clear h
  go_enter Tryd.func20, Tryd.ntmps20
  go_wp2_with (go_at_call 10; (with_reducible refine (HC.out _).mono ?_); rintro E w1 ⟨rfl, hb1⟩; have HB1 := Lib.hid hb1; clear hb1)
  go_ret2
  exact ⟨rfl, below_next HB1.out (belowNew _ _)⟩
set_option maxRecDepth 100000 in
set_option maxHeartbeats 1000000 in
theorem fmt_yes {x : Dt} (h : Ok x) (w : World) (hT : Mon w) :
    Calls Tryd.prog 20 #[.int .i64 ((secs x : Nat) : Int)] w fun E w' => E = .returned (.tuple #[.string (strOf (txtT x)), .int .i64 0]) ∧ Below w.heap.size w w' := by
  have HC := Lib.hid (fun w hT => civ_yes h w hT)
  have HW := Lib.hid (fun w => write_T x w h)
  have HT := Lib.hid hT
  generalize secs x = T at HC ⊢
  clear h hT
  go_enter Tryd.func20, Tryd.ntmps20
  go_wp2_with (first
    | (go_at_call 10; (with_reducible refine (HC.out _ HT.out).mono ?_); rintro E w1 ⟨rfl, hb1⟩; have HB1 := Lib.hid hb1; clear hb1)
    | (go_at_call 35; (with_reducible refine (HW.out _).mono ?_); rintro E w2 ⟨rfl, hb2⟩; have HB2 := Lib.hid hb2; clear hb2))
  go_ret2
  exact ⟨rfl, below_next (below_next HB1.out (belowNew _ _)) HB2.out⟩

set_option maxRecDepth 100000 in
set_option maxHeartbeats 1000000 in
theorem par_core {s : ByteArray} {x : Dt} (h : wrt layT (flds x) = (s.data.toList, zeros)) {v : Value} (w : World) (hT : Mon w)
    (hS : ∀ w, Mon w → Calls Tryd.prog 12 #[dtV x] w fun E w' => E = .returned v ∧ Below w.heap.size w w') (hv : ∃ a b, v = .tuple #[a, b]) :
    Calls Tryd.prog 22 #[.string s] w fun E w' => E = .returned v ∧ Below w.heap.size w w' := by
  obtain ⟨a, b, rfl⟩ := hv
  have HR := Lib.hid (fun w => read_T_yes h w)
  have HS := Lib.hid hS
  have HT := Lib.hid hT
  clear h hS hT
  go_enter Tryd.func22, Tryd.ntmps22
  go_wp2_with (first
    | (go_at_call 38; (with_reducible refine (HR.out _).mono ?_); rintro E w1 ⟨rfl, hb1⟩; have HB1 := Lib.hid hb1; have HT1 := Lib.hid ((HT.out.old hb1).alloc (.cells (dtc x.y x.m x.d x.h x.n x.s) 27)); clear hb1)
    | (go_at_call 12; (with_reducible refine (HS.out _ HT1.out).mono ?_); rintro E w2 ⟨rfl, hb2⟩; have HB2 := Lib.hid hb2; clear hb2))
  go_ret2
  exact ⟨rfl, below_next (below_next HB1.out (belowNew _ _)) HB2.out⟩
set_option maxRecDepth 100000 in
set_option maxHeartbeats 1000000 in
theorem par_none {s : ByteArray} (h : ∀ x, wrt layT (flds x) ≠ (s.data.toList, zeros)) (w : World) :
    Calls Tryd.prog 22 #[.string s] w fun E w' => E = .returned (.tuple #[.int .i64 0, .int .i64 12]) ∧ Below w.heap.size w w' := by
  have HR := Lib.hid (fun w => read_T_no h w)
  clear h
  go_enter Tryd.func22, Tryd.ntmps22
  go_wp2_with (first
    | (go_at_call 38; (with_reducible refine (HR.out _).mono ?_); rintro E w1 ⟨rfl, hb1⟩; have HB1 := Lib.hid hb1; clear hb1))
  go_ret2
  exact ⟨rfl, below_next HB1.out (belowNew _ _)⟩
theorem par_yes {x : Dt} (h : Ok x) (w : World) (hT : Mon w) :
    Calls Tryd.prog 22 #[.string (strOf (txtT x))] w fun E w' => E = .returned (.tuple #[.int .i64 ((secs x : Nat) : Int), .int .i64 0]) ∧ Below w.heap.size w w' :=
  par_core (s := strOf (txtT x)) (fits_T h) w hT (fun w hT => secs_yes h w hT) ⟨_, _, rfl⟩
theorem par_no {s : ByteArray} (h : ∀ x, Ok x → s.data.toList ≠ txtT x) (w : World) (hT : Mon w) :
    Calls Tryd.prog 22 #[.string s] w fun E w' => E = .returned (.tuple #[.int .i64 0, .int .i64 12]) ∧ Below w.heap.size w w' := by
  by_cases hx : ∃ x, wrt layT (flds x) = (s.data.toList, zeros)
  · obtain ⟨x, hx⟩ := hx
    refine par_core hx w hT (fun w hT => secs_no (fun k => ?_) w hT) ⟨_, _, rfl⟩
    have ho := okI_iff.1 k
    rw [fits_T ho] at hx
    exact h x ho (congrArg Prod.fst hx).symm
  · exact par_none (fun x e => hx ⟨x, e⟩) w
end Go.Proofs.YtkgdkaopbnodpaaDoor
