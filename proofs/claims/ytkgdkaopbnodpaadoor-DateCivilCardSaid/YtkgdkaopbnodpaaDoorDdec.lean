/-
  The contract of date.Decode.
-/
import Derived.Test.YtkgdkaopbnodpaaDoorDcode
namespace Go.Proofs.YtkgdkaopbnodpaaDoor
open Go.RowKit

/-- The date with the century, from the two digits. -/
def fullU (z : Dt) : Dt := ⟨if z.y < 50 then z.y + 2000 else z.y + 1900, z.m, z.d, z.h, z.n, z.s⟩
def shortU (x : Dt) : Dt := ⟨x.y % 100, x.m, x.d, x.h, x.n, x.s⟩
theorem d2_mod (y : Nat) : d2 (y % 100) = d2 y := by
  have a : dig (y % 100 / 10) = dig (y / 10) := UInt8.toNat_inj.1 (by rw [dig_nat, dig_nat]; omega)
  have b : dig (y % 100) = dig y := UInt8.toNat_inj.1 (by rw [dig_nat, dig_nat]; omega)
  unfold d2; rw [a, b]
theorem txtU_short (x : Dt) : txtU (shortU x) = txtU x := by
  unfold txtU shortU
  simp only
  rw [d2_mod]; rfl
theorem fits_U {x : Dt} (h : Ok x) : wrt layU (flds (shortU x)) = (txtU x, zeros) := by
  obtain ⟨a, b, c, d, e⟩ := ok_hundred h
  rw [wrt_U, txtU_short]
  unfold shortU
  simp only
  have hy : x.y % 100 / 10 / 10 = 0 := by omega
  rw [a, b, c, d, e, hy]; rfl
theorem full_short {x : Dt} (h : Ok x) (h2 : x.y ≤ 2049) : fullU (shortU x) = x := by
  have h1 := h.y1
  cases x
  unfold fullU shortU
  simp at h1 h2 ⊢
  split <;> omega
theorem fits_y {z : Dt} {s : List UInt8} (h : wrt layU (flds z) = (s, zeros)) : z.y < 100 := by
  rw [wrt_U] at h
  have h2 := congrArg (fun p => p.2.getD 0 0) h
  simp [zeros] at h2
  omega
theorem fits_yL {z : Dt} {s : List UInt8} (h : wrt layL (flds z) = (s, zeros)) : z.y < 10000 := by
  rw [wrt_L] at h
  have h2 := congrArg (fun p => p.2.getD 0 0) h
  simp [zeros] at h2
  omega
theorem full_y {z : Dt} (h : z.y < 100) : (fullU z).y ≤ 2049 := by
  unfold fullU
  simp
  split <;> omega
theorem txtU_full {z : Dt} (h : z.y < 100) : txtU (fullU z) = txtU z := by
  rw [← txtU_short (fullU z)]
  have : shortU (fullU z) = z := by
    cases z
    unfold fullU shortU
    simp at h ⊢
    split <;> omega
  rw [this]
theorem read_U (s : ByteArray) (w : World) :
    Calls Tryd.prog 38 #[.string ⟨#[89, 89, 77, 77, 68, 68, 104, 104, 109, 109, 115, 115, 90]⟩, .string s] w fun E w' => Rd layU s E ∧ Below w.heap.size w w' :=
  read_any layU s w (by decide) cnt_U
theorem read_U_yes {s : ByteArray} {x : Dt} (h : wrt layU (flds x) = (s.data.toList, zeros)) (w : World) :
    Calls Tryd.prog 38 #[.string ⟨#[89, 89, 77, 77, 68, 68, 104, 104, 109, 109, 115, 115, 90]⟩, .string s] w fun E w' => E = .returned (.tuple #[dtV x, .bool true]) ∧ Below w.heap.size w w' := by
  refine (read_U s w).mono ?_
  rintro E w' ⟨⟨z, hz, rfl⟩ | ⟨hz, _⟩, hb⟩
  · obtain rfl := wrt_one h hz
    exact ⟨rfl, hb⟩
  · exact absurd h (hz x)
theorem read_U_no {s : ByteArray} (h : ∀ x, wrt layU (flds x) ≠ (s.data.toList, zeros)) (w : World) :
    Calls Tryd.prog 38 #[.string ⟨#[89, 89, 77, 77, 68, 68, 104, 104, 109, 109, 115, 115, 90]⟩, .string s] w fun E w' => E = .returned (.tuple #[dt0, .bool false]) ∧ Below w.heap.size w w' := by
  refine (read_U s w).mono ?_
  rintro E w' ⟨⟨z, hz, _⟩ | ⟨_, rfl⟩, hb⟩
  · exact absurd hz (h z)
  · exact ⟨rfl, hb⟩
theorem read_L (s : ByteArray) (w : World) :
    Calls Tryd.prog 38 #[.string ⟨#[89, 89, 89, 89, 77, 77, 68, 68, 104, 104, 109, 109, 115, 115, 90]⟩, .string s] w fun E w' => Rd layL s E ∧ Below w.heap.size w w' :=
  read_any layL s w (by decide) cnt_L
theorem read_L_yes {s : ByteArray} {x : Dt} (h : wrt layL (flds x) = (s.data.toList, zeros)) (w : World) :
    Calls Tryd.prog 38 #[.string ⟨#[89, 89, 89, 89, 77, 77, 68, 68, 104, 104, 109, 109, 115, 115, 90]⟩, .string s] w fun E w' => E = .returned (.tuple #[dtV x, .bool true]) ∧ Below w.heap.size w w' := by
  refine (read_L s w).mono ?_
  rintro E w' ⟨⟨z, hz, rfl⟩ | ⟨hz, _⟩, hb⟩
  · obtain rfl := wrt_one h hz
    exact ⟨rfl, hb⟩
  · exact absurd h (hz x)
theorem read_L_no {s : ByteArray} (h : ∀ x, wrt layL (flds x) ≠ (s.data.toList, zeros)) (w : World) :
    Calls Tryd.prog 38 #[.string ⟨#[89, 89, 89, 89, 77, 77, 68, 68, 104, 104, 109, 109, 115, 115, 90]⟩, .string s] w fun E w' => E = .returned (.tuple #[dt0, .bool false]) ∧ Below w.heap.size w w' := by
  refine (read_L s w).mono ?_
  rintro E w' ⟨⟨z, hz, _⟩ | ⟨_, rfl⟩, hb⟩
  · exact absurd hz (h z)
  · exact ⟨rfl, hb⟩

set_option maxRecDepth 100000 in
set_option maxHeartbeats 1000000 in
theorem decU_core {s : ByteArray} {z : Dt} (h : wrt layU (flds z) = (s.data.toList, zeros)) {a b : Value} (w : World) (hT : Mon w)
    (hS : ∀ w, Mon w → Calls Tryd.prog 12 #[dtV (fullU z)] w fun E w' => E = .returned (.tuple #[a, b]) ∧ Below w.heap.size w w') :
    Calls Tryd.prog 31 #[.string s] w fun E w' => E = .returned (.tuple #[a, b]) ∧ Below w.heap.size w w' := by
  have HR := Lib.hid (fun w => read_U_yes h w)
  have hy := fits_y h
  have HT := Lib.hid hT
  clear h hT
  by_cases h50 : z.y < 50
  · obtain ⟨A, hA⟩ : ∃ A, A = z.y + 1900 := ⟨_, rfl⟩
    have q1 : (z.y : Int) + 1900 = (A : Int) := by omega
    obtain ⟨B, hB⟩ : ∃ B, B = z.y + 2000 := ⟨_, rfl⟩
    have q2 : (A : Int) + 100 = (B : Int) := by omega
    have d1 : decide ((A : Int) < 1950) = true := decide_eq_true (by omega)
    have HS := Lib.hid (show ∀ w, Mon w → Calls Tryd.prog 12 #[dtv (B : Int) z.m z.d z.h z.n z.s] w fun E w' => E = .returned (.tuple #[a, b]) ∧ Below w.heap.size w w' from by
      have e : fullU z = ⟨B, z.m, z.d, z.h, z.n, z.s⟩ := by unfold fullU; rw [if_pos h50, hB]
      rw [e] at hS
      exact hS)
    clear hS hA hB h50
    go_enter Tryd.func31, Tryd.ntmps31
    go_wp2_with (first
      | (go_at_call 38; (with_reducible refine (HR.out _).mono ?_); rintro E w1 ⟨rfl, hb1⟩; have HB1 := Lib.hid hb1; have HT1 := Lib.hid ((HT.out.old hb1).alloc (.cells (dtc (B : Int) z.m z.d z.h z.n z.s) 27)); clear hb1)
      | (go_at_call 12; (with_reducible refine (HS.out _ HT1.out).mono ?_); rintro E w2 ⟨rfl, hb2⟩; have HB2 := Lib.hid hb2; clear hb2))
    go_ret2
    exact ⟨rfl, below_next (below_next HB1.out (belowNew _ _)) HB2.out⟩
  · obtain ⟨A, hA⟩ : ∃ A, A = z.y + 1900 := ⟨_, rfl⟩
    have q1 : (z.y : Int) + 1900 = (A : Int) := by omega
    have d1 : decide ((A : Int) < 1950) = false := decide_eq_false (by omega)
    have HS := Lib.hid (show ∀ w, Mon w → Calls Tryd.prog 12 #[dtv (A : Int) z.m z.d z.h z.n z.s] w fun E w' => E = .returned (.tuple #[a, b]) ∧ Below w.heap.size w w' from by
      have e : fullU z = ⟨A, z.m, z.d, z.h, z.n, z.s⟩ := by unfold fullU; rw [if_neg h50, hA]
      rw [e] at hS
      exact hS)
    clear hS hA h50
    go_enter Tryd.func31, Tryd.ntmps31
    go_wp2_with (first
      | (go_at_call 38; (with_reducible refine (HR.out _).mono ?_); rintro E w1 ⟨rfl, hb1⟩; have HB1 := Lib.hid hb1; have HT1 := Lib.hid ((HT.out.old hb1).alloc (.cells (dtc (A : Int) z.m z.d z.h z.n z.s) 27)); clear hb1)
      | (go_at_call 12; (with_reducible refine (HS.out _ HT1.out).mono ?_); rintro E w2 ⟨rfl, hb2⟩; have HB2 := Lib.hid hb2; clear hb2))
    go_ret2
    exact ⟨rfl, below_next (below_next HB1.out (belowNew _ _)) HB2.out⟩
set_option maxRecDepth 100000 in
set_option maxHeartbeats 1000000 in
theorem decU_none {s : ByteArray} (h : ∀ x, wrt layU (flds x) ≠ (s.data.toList, zeros)) (w : World) :
    Calls Tryd.prog 31 #[.string s] w fun E w' => E = .returned (.tuple #[.int .i64 0, .int .i64 12]) ∧ Below w.heap.size w w' := by
  have HR := Lib.hid (fun w => read_U_no h w)
  clear h
  go_enter Tryd.func31, Tryd.ntmps31
  go_wp2_with (first
    | (go_at_call 38; (with_reducible refine (HR.out _).mono ?_); rintro E w1 ⟨rfl, hb1⟩; have HB1 := Lib.hid hb1; clear hb1))
  go_ret2
  exact ⟨rfl, below_next HB1.out (belowNew _ _)⟩
set_option maxRecDepth 100000 in
set_option maxHeartbeats 1000000 in
theorem decL_core {s : ByteArray} {z : Dt} (h : wrt layL (flds z) = (s.data.toList, zeros)) (hy : 2050 ≤ z.y) {a b : Value} (w : World) (hT : Mon w)
    (hS : ∀ w, Mon w → Calls Tryd.prog 12 #[dtV z] w fun E w' => E = .returned (.tuple #[a, b]) ∧ Below w.heap.size w w') :
    Calls Tryd.prog 32 #[.string s] w fun E w' => E = .returned (.tuple #[a, b]) ∧ Below w.heap.size w w' := by
  have HR := Lib.hid (fun w => read_L_yes h w)
  have HT := Lib.hid hT
  have HS := Lib.hid hS
  have d1 : decide ((z.y : Int) < 2050) = false := decide_eq_false (by omega)
  clear h hT hS hy
  go_enter Tryd.func32, Tryd.ntmps32
  go_wp2_with (first
    | (go_at_call 38; (with_reducible refine (HR.out _).mono ?_); rintro E w1 ⟨rfl, hb1⟩; have HB1 := Lib.hid hb1; have HT1 := Lib.hid ((HT.out.old hb1).alloc (.cells (dtc z.y z.m z.d z.h z.n z.s) 27)); clear hb1)
    | (go_at_call 12; (with_reducible refine (HS.out _ HT1.out).mono ?_); rintro E w2 ⟨rfl, hb2⟩; have HB2 := Lib.hid hb2; clear hb2))
  go_ret2
  exact ⟨rfl, below_next (below_next HB1.out (belowNew _ _)) HB2.out⟩
set_option maxRecDepth 100000 in
set_option maxHeartbeats 1000000 in
theorem decL_early {s : ByteArray} {z : Dt} (h : wrt layL (flds z) = (s.data.toList, zeros)) (hy : z.y < 2050) (w : World) :
    Calls Tryd.prog 32 #[.string s] w fun E w' => E = .returned (.tuple #[.int .i64 0, .int .i64 12]) ∧ Below w.heap.size w w' := by
  have HR := Lib.hid (fun w => read_L_yes h w)
  have d1 : decide ((z.y : Int) < 2050) = true := decide_eq_true (by omega)
  clear h hy
  go_enter Tryd.func32, Tryd.ntmps32
  go_wp2_with (first
    | (go_at_call 38; (with_reducible refine (HR.out _).mono ?_); rintro E w1 ⟨rfl, hb1⟩; have HB1 := Lib.hid hb1; clear hb1))
  go_ret2
  exact ⟨rfl, below_next HB1.out (belowNew _ _)⟩
set_option maxRecDepth 100000 in
set_option maxHeartbeats 1000000 in
theorem decL_none {s : ByteArray} (h : ∀ x, wrt layL (flds x) ≠ (s.data.toList, zeros)) (w : World) :
    Calls Tryd.prog 32 #[.string s] w fun E w' => E = .returned (.tuple #[.int .i64 0, .int .i64 12]) ∧ Below w.heap.size w w' := by
  have HR := Lib.hid (fun w => read_L_no h w)
  clear h
  go_enter Tryd.func32, Tryd.ntmps32
  go_wp2_with (first
    | (go_at_call 38; (with_reducible refine (HR.out _).mono ?_); rintro E w1 ⟨rfl, hb1⟩; have HB1 := Lib.hid hb1; clear hb1))
  go_ret2
  exact ⟨rfl, below_next HB1.out (belowNew _ _)⟩

/-- The text with this tag is the contents of the date's element. -/
def Con (tag : Int) (s : List UInt8) (x : Dt) : Prop := Ok x ∧ (tag = 23 ∧ x.y ≤ 2049 ∧ s = txtU x ∨ tag = 24 ∧ 2050 ≤ x.y ∧ s = txtL x)
theorem con_one {tag : Int} {s : List UInt8} {x z : Dt} (h : Con tag s x) (k : Con tag s z) : x = z := by
  rcases h with ⟨h, ⟨rfl, hy, rfl⟩ | ⟨rfl, hy, rfl⟩⟩
  · rcases k with ⟨k, ⟨_, ky, e⟩ | ⟨h2, _⟩⟩
    · have h1 := wrt_one (fits_U h) (by rw [fits_U k, e])
      rw [← full_short h hy, ← full_short k ky, h1]
    · exact absurd h2 (by decide)
  · rcases k with ⟨k, ⟨h2, _⟩ | ⟨_, ky, e⟩⟩
    · exact absurd h2 (by decide)
    · exact wrt_one (fits_L h) (by rw [fits_L k, e])
theorem decU_yes {x : Dt} (h : Ok x) (hy : x.y ≤ 2049) (w : World) (hT : Mon w) :
    Calls Tryd.prog 31 #[.string (strOf (txtU x))] w fun E w' => E = .returned (.tuple #[.int .i64 ((secs x : Nat) : Int), .int .i64 0]) ∧ Below w.heap.size w w' :=
  decU_core (s := strOf (txtU x)) (fits_U h) w hT (by rw [full_short h hy]; exact fun w hT => secs_yes h w hT)
theorem decU_no {s : ByteArray} (h : ∀ x, ¬ Con 23 s.data.toList x) (w : World) (hT : Mon w) :
    Calls Tryd.prog 31 #[.string s] w fun E w' => E = .returned (.tuple #[.int .i64 0, .int .i64 12]) ∧ Below w.heap.size w w' := by
  by_cases hx : ∃ x, wrt layU (flds x) = (s.data.toList, zeros)
  · obtain ⟨z, hz⟩ := hx
    have hz100 := fits_y hz
    refine decU_core hz w hT (fun w hT => secs_no (fun k => ?_) w hT)
    have ho := okI_iff.1 k
    refine h (fullU z) ⟨ho, .inl ⟨rfl, full_y hz100, ?_⟩⟩
    rw [txtU_full hz100]
    rw [wrt_U] at hz
    exact (congrArg Prod.fst hz).symm
  · exact decU_none (fun x e => hx ⟨x, e⟩) w
theorem decL_yes {x : Dt} (h : Ok x) (hy : 2050 ≤ x.y) (w : World) (hT : Mon w) :
    Calls Tryd.prog 32 #[.string (strOf (txtL x))] w fun E w' => E = .returned (.tuple #[.int .i64 ((secs x : Nat) : Int), .int .i64 0]) ∧ Below w.heap.size w w' :=
  decL_core (s := strOf (txtL x)) (fits_L h) hy w hT (fun w hT => secs_yes h w hT)
theorem decL_no {s : ByteArray} (h : ∀ x, ¬ Con 24 s.data.toList x) (w : World) (hT : Mon w) :
    Calls Tryd.prog 32 #[.string s] w fun E w' => E = .returned (.tuple #[.int .i64 0, .int .i64 12]) ∧ Below w.heap.size w w' := by
  by_cases hx : ∃ x, wrt layL (flds x) = (s.data.toList, zeros)
  · obtain ⟨z, hz⟩ := hx
    by_cases hy : z.y < 2050
    · exact decL_early hz hy w
    · refine decL_core hz (by omega) w hT (fun w hT => secs_no (fun k => ?_) w hT)
      have ho := okI_iff.1 k
      refine h z ⟨ho, .inr ⟨rfl, by omega, ?_⟩⟩
      rw [fits_L ho] at hz
      exact (congrArg Prod.fst hz).symm
  · exact decL_none (fun x e => hx ⟨x, e⟩) w

set_option maxRecDepth 100000 in
set_option maxHeartbeats 1000000 in
theorem dec_tag {tag : Int} (h1 : tag ≠ 23) (h2 : tag ≠ 24) (s : ByteArray) (w : World) :
    Calls Tryd.prog 16 #[.int .i64 tag, .string s] w fun E w' => E = .returned (.tuple #[.int .i64 0, .int .i64 5]) ∧ Below w.heap.size w w' := by
  have e1 : (tag == 23) = false := beq_eq_false_iff_ne.2 h1
  have e2 : (tag == 24) = false := beq_eq_false_iff_ne.2 h2
  clear h1 h2
  go_enter Tryd.func16, Tryd.ntmps16
  go_wp2_with fail
  go_ret2
  exact ⟨rfl, Below.refl _ _⟩
set_option maxRecDepth 100000 in
set_option maxHeartbeats 1000000 in
theorem dec_23 {s : ByteArray} {a b : Value} (w : World) (h : ∀ w', w' = w → Calls Tryd.prog 31 #[.string s] w' fun E w'' => E = .returned (.tuple #[a, b]) ∧ Below w.heap.size w w'') :
    Calls Tryd.prog 16 #[.int .i64 23, .string s] w fun E w' => E = .returned (.tuple #[a, b]) ∧ Below w.heap.size w w' := by
  have H := Lib.hid h
  clear h
  go_enter Tryd.func16, Tryd.ntmps16
  go_wp2_with (go_at_call 31; (with_reducible refine (H.out _ rfl).mono ?_); rintro E w1 ⟨rfl, hb1⟩; have HB1 := Lib.hid hb1; clear hb1)
  go_ret2
  exact ⟨rfl, HB1.out⟩
set_option maxRecDepth 100000 in
set_option maxHeartbeats 1000000 in
theorem dec_24 {s : ByteArray} {a b : Value} (w : World) (h : ∀ w', w' = w → Calls Tryd.prog 32 #[.string s] w' fun E w'' => E = .returned (.tuple #[a, b]) ∧ Below w.heap.size w w'') :
    Calls Tryd.prog 16 #[.int .i64 24, .string s] w fun E w' => E = .returned (.tuple #[a, b]) ∧ Below w.heap.size w w' := by
  have H := Lib.hid h
  clear h
  go_enter Tryd.func16, Tryd.ntmps16
  go_wp2_with (go_at_call 32; (with_reducible refine (H.out _ rfl).mono ?_); rintro E w1 ⟨rfl, hb1⟩; have HB1 := Lib.hid hb1; clear hb1)
  go_ret2
  exact ⟨rfl, HB1.out⟩
/-- The error where the text is not the contents of an element with this tag. -/
def decErr (tag : Int) : Int := if tag = 23 ∨ tag = 24 then 12 else 5
theorem dec_yes {tag : Int} {s : ByteArray} {x : Dt} (h : Con tag s.data.toList x) (w : World) (hT : Mon w) :
    Calls Tryd.prog 16 #[.int .i64 tag, .string s] w fun E w' => E = .returned (.tuple #[.int .i64 ((secs x : Nat) : Int), .int .i64 0]) ∧ Below w.heap.size w w' := by
  rcases h with ⟨h, ⟨rfl, hy, hs⟩ | ⟨rfl, hy, hs⟩⟩
  · obtain rfl := strOf_of hs
    refine dec_23 w (fun w' e => ?_)
    subst e
    exact decU_yes h hy _ hT
  · obtain rfl := strOf_of hs
    refine dec_24 w (fun w' e => ?_)
    subst e
    exact decL_yes h hy _ hT
theorem dec_no {tag : Int} {s : ByteArray} (h : ∀ x, ¬ Con tag s.data.toList x) (w : World) (hT : Mon w) :
    Calls Tryd.prog 16 #[.int .i64 tag, .string s] w fun E w' => E = .returned (.tuple #[.int .i64 0, .int .i64 (decErr tag)]) ∧ Below w.heap.size w w' := by
  by_cases h1 : tag = 23
  · subst h1
    refine dec_23 w (fun w' e => ?_)
    subst e
    exact decU_no h _ hT
  · by_cases h2 : tag = 24
    · subst h2
      refine dec_24 w (fun w' e => ?_)
      subst e
      exact decL_no h _ hT
    · have e : decErr tag = 5 := by unfold decErr; rw [if_neg (by simp [h1, h2])]
      rw [e]
      exact dec_tag h1 h2 s w
end Go.Proofs.YtkgdkaopbnodpaaDoor
