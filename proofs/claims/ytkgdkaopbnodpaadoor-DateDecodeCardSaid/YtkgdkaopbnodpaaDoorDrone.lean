/-
  The contracts of the reference's Read and One for no bytes and for one short element.
-/
import Derived.Test.YtkgdkaopbnodpaaDoorDenclaw
import Derived.BigRegion
namespace Go.Proofs.YtkgdkaopbnodpaaDoor
open Go.RowKit

theorem elSize : (Tryd.prog.info? 51).map (·.size) = some 3 := by kernel_rfl
theorem elRes3 {fn : Func} {p u v : Tmp} (h : fn.results = #[.cell p 51, .tmp u, .tmp v]) (tmps : Array Value) (w w0 : World) (x y z : Value)
    (hp : tmps.getD p undef = .pointer (some ⟨w0.heap.size, 0, none⟩)) (hg : w.heap[w0.heap.size]? = some (.cells #[x, y, z] 51 (0, 0))) :
    (results fn tmps).run Tryd.prog w = .ok (.tuple #[.agg #[x, y, z], tmps.getD u undef, tmps.getD v undef]) w :=
  results_cell_row3 h tmps w w0.heap.size 51 #[x, y, z] (0, 0) _ hp hg Tryd.underlying51 rfl elSize
theorem elRes2 {fn : Func} {p u : Tmp} (h : fn.results = #[.cell p 51, .tmp u]) (tmps : Array Value) (w w0 : World) (x y z : Value)
    (hp : tmps.getD p undef = .pointer (some ⟨w0.heap.size, 0, none⟩)) (hg : w.heap[w0.heap.size]? = some (.cells #[x, y, z] 51 (0, 0))) :
    (results fn tmps).run Tryd.prog w = .ok (.tuple #[.agg #[x, y, z], tmps.getD u undef]) w :=
  results_cell_row2 h tmps w w0.heap.size 51 #[x, y, z] (0, 0) _ hp hg Tryd.underlying51 rfl elSize
theorem el_facts {w : World} {g : Nat} {x y z : Value} {t : TypeId} (h : w.heap[g]? = some (.cells #[x, y, z] t (0, 0))) :
    w.cell? ⟨g, 0, none⟩ = some x ∧ w.cell? ⟨g, 1, none⟩ = some y ∧ w.cell? ⟨g, 2, none⟩ = some z ∧ w.frozen? ⟨g, 0, none⟩ = false ∧ w.frozen? ⟨g, 1, none⟩ = false ∧ w.frozen? ⟨g, 2, none⟩ = false ∧ g < w.heap.size := by
  refine ⟨?_, ?_, ?_, Lib.frozen_of_heap h 0, Lib.frozen_of_heap h 1, Lib.frozen_of_heap h 2, (Array.getElem?_eq_some_iff.1 h).1⟩
  · rw [Lib.cell_of_heap h]; rfl
  · rw [Lib.cell_of_heap h]; rfl
  · rw [Lib.cell_of_heap h]; rfl
theorem el_set {w : World} {g : Nat} {x y z a b c : Value} {t : TypeId} (h : w.heap[g]? = some (.cells #[x, y, z] t (0, 0))) :
    (((w.setCell ⟨g, 0, none⟩ a).setCell ⟨g, 1, none⟩ b).setCell ⟨g, 2, none⟩ c).heap[g]? = some (.cells #[a, b, c] t (0, 0)) := by
  simp [World.setCell, Array.getElem?_modify, h]
theorem el_below {B : Nat} {w0 w : World} {g : Nat} {a b c : Value} (h : Below B w0 w) (hg : B ≤ g) : Below B w0 (((w.setCell ⟨g, 0, none⟩ a).setCell ⟨g, 1, none⟩ b).setCell ⟨g, 2, none⟩ c) :=
  ((h.setCell (p := ⟨g, 0, none⟩) hg _).setCell (p := ⟨g, 1, none⟩) hg _).setCell (p := ⟨g, 2, none⟩) hg _

theorem elOld (w : World) (a b : Array Value) : ((w.alloc (.cells a 51)).alloc (.cells b 51)).heap[w.heap.size]? = some (.cells a 51 (0, 0)) := heap_new2 w a b _
set_option maxRecDepth 100000 in
set_option maxHeartbeats 4000000 in
theorem rread_nil (w : World) :
    Calls Tryd.prog 41 #[.string ⟨#[]⟩] w fun E w' => E = .returned (.tuple #[.agg #[.int .i64 0, .string ⟨#[]⟩, .string ⟨#[]⟩], .string ⟨#[]⟩, .int .i64 3]) ∧ Below w.heap.size w w' := by
  go_enter Tryd.func41, Tryd.ntmps41
  go_wp2_with fail
  exact bodyPost_ret (elRes3 rfl _ _ w _ _ _ rfl (elOld w _ _)) rfl ⟨rfl, below_next (belowNew w _) (belowNew _ _)⟩
set_option maxRecDepth 100000 in
set_option maxHeartbeats 4000000 in
theorem rread_short (A : ByteArray) (t n N : Nat) (w : World) (hN : N = n + 2) (hsz : A.size = N) (ht : t < 256) (ht2 : t % 32 ≠ 31) (hn : 1 ≤ n) (hn2 : n < 100) (h0 : u8at A 0 = t) (h1 : u8at A 1 = n) :
    Calls Tryd.prog 41 #[.string A] w fun E w' => E = .returned (.tuple #[.agg #[.int .i64 (t : Int), .string (A.extract 2 N), .string (A.extract 0 N)], .string ⟨#[]⟩, .int .i64 0]) ∧ Below w.heap.size w w' := by
  have hi0 := fun w => run_index_u8 (P := Tryd.prog) Tryd.underlying9 A 0 (by omega) 0 rfl w
  have hi1 := fun w => run_index_u8 (P := Tryd.prog) Tryd.underlying9 A 1 (by omega) 1 rfl w
  rw [h0] at hi0
  rw [h1] at hi1
  have e0 : ((N : Int) == 0) = false := beq_eq_false_iff_ne.2 (by omega)
  have e1 : ((N : Int) == 1) = false := beq_eq_false_iff_ne.2 (by omega)
  have e2 : ((t : Int) % 32 == 31) = false := beq_eq_false_iff_ne.2 (by omega)
  have e3 : ((n : Int) == 128) = false := beq_eq_false_iff_ne.2 (by omega)
  have e4 : decide (131 < (n : Int)) = false := decide_eq_false (by omega)
  have e5 : decide (128 < (n : Int)) = false := decide_eq_false (by omega)
  have hn3 : (N : Int) - 2 = (n : Int) := by omega
  have hn4 : (2 : Int) + (n : Int) = (N : Int) := by omega
  have e6 : decide ((n : Int) < (n : Int)) = false := by simp
  have s1 : ∀ w, (Instr.slice 9 (.string A) (some (.int .i64 2)) (some (.int .i64 (N : Int))) none).run Tryd.prog w = .ok (.string (A.extract 2 N)) w := fun w => by
    have := run_slice_string (P := Tryd.prog) w 9 A .i64 .i64 2 (N : Int) Tryd.underlying9 (by omega) (by omega) (by omega)
    simpa using this
  have s2 : ∀ w, (Instr.slice 9 (.string A) none (some (.int .i64 (N : Int))) none).run Tryd.prog w = .ok (.string (A.extract 0 N)) w := fun w => by
    have := run_slice_string_to_if (P := Tryd.prog) w 9 A .i64 (N : Int) Tryd.underlying9
    rw [this, if_pos ⟨by omega, by omega⟩]
    congr 3
  have s3 : ∀ w, (Instr.slice 9 (.string A) (some (.int .i64 (N : Int))) none none).run Tryd.prog w = .ok (.string ⟨#[]⟩) w := fun w => by
    have := run_slice_string_from_if (P := Tryd.prog) w 9 A .i64 (N : Int) Tryd.underlying9
    rw [this, if_pos ⟨by omega, by omega⟩, ← empty_of_size (c := A.extract N A.size) (by rw [ByteArray.size_extract]; omega)]
    congr 3
  generalize A.extract 2 N = C at s1 ⊢
  generalize A.extract 0 N = R at s2 ⊢
  clear h0 h1 hN ht2
  go_enter Tryd.func41, Tryd.ntmps41
  go_wp2_with fail
  obtain ⟨c0, c1, c2, f0, f1, f2, hlt⟩ := el_facts (elOld w #[.int .i64 0, .string ⟨#[]⟩, .string ⟨#[]⟩] #[.int .i64 0, .string ⟨#[]⟩, .string ⟨#[]⟩])
  have HH := Lib.hid (elOld w #[.int .i64 0, .string ⟨#[]⟩, .string ⟨#[]⟩] #[.int .i64 0, .string ⟨#[]⟩, .string ⟨#[]⟩])
  have HB := Lib.hid (below_next (belowNew w (.cells #[.int .i64 0, .string ⟨#[]⟩, .string ⟨#[]⟩] 51)) (belowNew _ (.cells #[.int .i64 0, .string ⟨#[]⟩, .string ⟨#[]⟩] 51)))
  generalize (w.alloc (.cells #[.int .i64 0, .string ⟨#[]⟩, .string ⟨#[]⟩] 51)).alloc (.cells #[.int .i64 0, .string ⟨#[]⟩, .string ⟨#[]⟩] 51) = W at c0 c1 c2 f0 f1 f2 hlt HH HB ⊢
  go_region
  go_wp2_with fail
  exact bodyPost_ret (elRes3 rfl _ _ w _ _ _ rfl (by exact el_set HH.out)) rfl ⟨rfl, (el_below HB.out (Nat.le_refl _)).drew⟩

theorem elNew (w : World) (cs : Array Value) : (w.alloc (.cells cs 51)).heap[w.heap.size]? = some (.cells cs 51 (0, 0)) := heap_alloc_new w _
theorem heap_keep {w : World} {g : Nat} {x : Obj} (h : w.heap[g]? = some x) (o : Obj) : (w.alloc o).heap[g]? = some x := by
  have hlt : g < w.heap.size := by
    rcases Nat.lt_or_ge g w.heap.size with h' | h'
    · exact h'
    · simp [Array.getElem?_eq_none h'] at h
  show (w.heap.push o)[g]? = _
  rw [Array.getElem?_push, if_neg (Nat.ne_of_lt hlt)]
  exact h
set_option maxRecDepth 100000 in
set_option maxHeartbeats 4000000 in
theorem rone_nil (w : World) :
    Calls Tryd.prog 30 #[.string ⟨#[]⟩] w fun E w' => E = .returned (.tuple #[.agg #[.int .i64 0, .string ⟨#[]⟩, .string ⟨#[]⟩], .int .i64 3]) ∧ Below w.heap.size w w' := by
  go_enter Tryd.func30, Tryd.ntmps30
  go_wp2_with (go_at_call 41; (with_reducible refine (rread_nil _).mono ?_); rintro e w1 ⟨rfl, hb1⟩; have hc := ((hb1.block w.heap.size (by simp)).trans (elNew w _)); obtain ⟨c0, c1, c2, f0, f1, f2, hlt⟩ := el_facts hc; have HC := Lib.hid hc; clear hc; have HB1 := Lib.hid hb1; clear hb1)
  exact bodyPost_ret (elRes2 rfl _ _ w _ _ _ rfl (heap_keep (el_set HC.out) _)) rfl ⟨rfl, (el_below ((belowNew w _).trans (HB1.out.mono (by simp))) (Nat.le_refl _)).alloc (by simp; omega) _⟩
set_option maxRecDepth 100000 in
set_option maxHeartbeats 4000000 in
theorem rone_short (A : ByteArray) (t n N : Nat) (w : World) (hN : N = n + 2) (hsz : A.size = N) (ht : t < 256) (ht2 : t % 32 ≠ 31) (hn : 1 ≤ n) (hn2 : n < 100) (h0 : u8at A 0 = t) (h1 : u8at A 1 = n) :
    Calls Tryd.prog 30 #[.string A] w fun E w' => E = .returned (.tuple #[.agg #[.int .i64 (t : Int), .string (A.extract 2 N), .string (A.extract 0 N)], .int .i64 0]) ∧ Below w.heap.size w w' := by
  have HR := Lib.hid (fun w => rread_short A t n N w hN hsz ht ht2 hn hn2 h0 h1)
  generalize A.extract 2 N = C at HR ⊢
  generalize A.extract 0 N = R at HR ⊢
  clear hN hsz ht2 h0 h1
  go_enter Tryd.func30, Tryd.ntmps30
  go_wp2_with (go_at_call 41; (with_reducible refine (HR.out _).mono ?_); rintro e w1 ⟨rfl, hb1⟩; have hc := ((hb1.block w.heap.size (by simp)).trans (elNew w _)); obtain ⟨c0, c1, c2, f0, f1, f2, hlt⟩ := el_facts hc; have HC := Lib.hid hc; clear hc; have HB1 := Lib.hid hb1; clear hb1)
  exact bodyPost_ret (elRes2 rfl _ _ w _ _ _ rfl (heap_keep (el_set HC.out) _)) rfl ⟨rfl, (el_below ((belowNew w _).trans (HB1.out.mono (by simp))) (Nat.le_refl _)).alloc (by simp; omega) _⟩

/-- The content of a time's element, as One gives it. -/
theorem rone_time {z : Dt} (_ : Ok z) : ∃ (C R : ByteArray) (t : Nat), t < 256 ∧ (C.size = 13 ∨ C.size = 15) ∧ ∀ w, Calls Tryd.prog 30 #[.string (strOf (encT z))] w fun E w' => E = .returned (.tuple #[.agg #[.int .i64 (t : Int), .string C, .string R], .int .i64 0]) ∧ Below w.heap.size w w' := by
  unfold encT
  by_cases hy : z.y ≤ 2049
  · rw [if_pos hy]
    exact ⟨_, _, 23, by omega, .inl (by rw [ByteArray.size_extract, strOf_size]; simp [txtU_len]), fun w => rone_short (strOf (23 :: 13 :: txtU z)) 23 13 15 w rfl (by rw [strOf_size]; simp [txtU_len]) (by omega) (by decide) (by omega) (by omega) rfl rfl⟩
  · rw [if_neg hy]
    exact ⟨_, _, 24, by omega, .inr (by rw [ByteArray.size_extract, strOf_size]; simp [txtL_len]), fun w => rone_short (strOf (24 :: 15 :: txtL z)) 24 15 17 w rfl (by rw [strOf_size]; simp [txtL_len]) (by omega) (by decide) (by omega) (by omega) rfl rfl⟩
end Go.Proofs.YtkgdkaopbnodpaaDoor
