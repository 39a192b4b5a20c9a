/-
  The contract of certpathmade's attribute: one of twelve attributes; of the memory that was there only the deck's block has changed.
  The contract of certpathmade's Name: a name of at most three relative names, each of one or two of the twelve attributes, of different types; of the memory that was there only the deck's block has changed.
-/
import Derived.Test.YtofadgmnjckpcaaGreatDoorVae
import Derived.Test.YtofadgmnjckpcaaGreatDoorVag
import Derived.Test.YtofadgmnjckpcaaGreatDoorVaf
namespace Go.Proofs.YtofadgmnjckpcaaGreatDoor
open Go.RowKit

/-- The twelve attributes of the generator. -/
def madeL : List At := [(⟨#[50, 46, 53, 46, 52, 46, 51]⟩, 12, ⟨#[65, 110, 110]⟩), (⟨#[50, 46, 53, 46, 52, 46, 51]⟩, 19, ⟨#[32, 97, 110, 110]⟩), (⟨#[50, 46, 53, 46, 52, 46, 51]⟩, 12, ⟨#[103, 114, 195, 182, 195, 159, 101]⟩), (⟨#[50, 46, 53, 46, 52, 46, 54]⟩, 19, ⟨#[85, 83]⟩), (⟨#[50, 46, 53, 46, 52, 46, 49, 48]⟩, 19, ⟨#[69, 120, 97, 109, 112, 108, 101, 32, 32, 67, 111, 114, 112]⟩), (⟨#[50, 46, 53, 46, 52, 46, 49, 48]⟩, 12, ⟨#[101, 120, 97, 109, 112, 108, 101, 32, 99, 111, 114, 112]⟩), (⟨#[50, 46, 53, 46, 52, 46, 49, 49]⟩, 22, ⟨#[97, 44, 98, 43, 99, 61, 100, 92, 101]⟩), (⟨#[48, 46, 57, 46, 50, 51, 52, 50, 46, 49, 57, 50, 48, 48, 51, 48, 48, 46, 49, 48, 48, 46, 49, 46, 50, 53]⟩, 22, ⟨#[111, 114, 103]⟩), (⟨#[49, 46, 50, 46, 56, 52, 48, 46, 49, 49, 51, 53, 52, 57, 46, 49, 46, 57, 46, 49]⟩, 22, ⟨#[97, 110, 110, 64, 101, 120, 97, 109, 112, 108, 101, 46, 111, 114, 103]⟩), (⟨#[49, 46, 50, 46, 56, 52, 48, 46, 49, 49, 51, 53, 52, 57, 46, 49, 46, 57, 46, 49]⟩, 22, ⟨#[110, 111, 32, 97, 100, 100, 114, 101, 115, 115]⟩), (⟨#[50, 46, 53, 46, 52, 46, 57, 57]⟩, 19, ⟨#[120]⟩), (⟨#[50, 46, 53, 46, 52, 46, 55]⟩, 12, ⟨#[76]⟩)]
theorem made_cells : atsCells madeL = (.string ⟨#[50, 46, 53, 46, 52, 46, 51]⟩ :: .int .i64 12 :: .string ⟨#[65, 110, 110]⟩ :: .string ⟨#[50, 46, 53, 46, 52, 46, 51]⟩ :: .int .i64 19 :: .string ⟨#[32, 97, 110, 110]⟩ :: .string ⟨#[50, 46, 53, 46, 52, 46, 51]⟩ :: .int .i64 12 :: .string ⟨#[103, 114, 195, 182, 195, 159, 101]⟩ :: .string ⟨#[50, 46, 53, 46, 52, 46, 54]⟩ :: .int .i64 19 :: .string ⟨#[85, 83]⟩ :: .string ⟨#[50, 46, 53, 46, 52, 46, 49, 48]⟩ :: .int .i64 19 :: .string ⟨#[69, 120, 97, 109, 112, 108, 101, 32, 32, 67, 111, 114, 112]⟩ :: .string ⟨#[50, 46, 53, 46, 52, 46, 49, 48]⟩ :: .int .i64 12 :: .string ⟨#[101, 120, 97, 109, 112, 108, 101, 32, 99, 111, 114, 112]⟩ :: .string ⟨#[50, 46, 53, 46, 52, 46, 49, 49]⟩ :: .int .i64 22 :: .string ⟨#[97, 44, 98, 43, 99, 61, 100, 92, 101]⟩ :: .string ⟨#[48, 46, 57, 46, 50, 51, 52, 50, 46, 49, 57, 50, 48, 48, 51, 48, 48, 46, 49, 48, 48, 46, 49, 46, 50, 53]⟩ :: .int .i64 22 :: .string ⟨#[111, 114, 103]⟩ :: .string ⟨#[49, 46, 50, 46, 56, 52, 48, 46, 49, 49, 51, 53, 52, 57, 46, 49, 46, 57, 46, 49]⟩ :: .int .i64 22 :: .string ⟨#[97, 110, 110, 64, 101, 120, 97, 109, 112, 108, 101, 46, 111, 114, 103]⟩ :: .string ⟨#[49, 46, 50, 46, 56, 52, 48, 46, 49, 49, 51, 53, 52, 57, 46, 49, 46, 57, 46, 49]⟩ :: .int .i64 22 :: .string ⟨#[110, 111, 32, 97, 100, 100, 114, 101, 115, 115]⟩ :: .string ⟨#[50, 46, 53, 46, 52, 46, 57, 57]⟩ :: .int .i64 19 :: .string ⟨#[120]⟩ :: .string ⟨#[50, 46, 53, 46, 52, 46, 55]⟩ :: .int .i64 12 :: .string ⟨#[76]⟩ :: [] : List Value) := rfl
theorem made_own (w : World) (B : Nat) (hB : B ≤ w.heap.size) : OwnA (w.alloc (.cells ((.string ⟨#[50, 46, 53, 46, 52, 46, 51]⟩ :: .int .i64 12 :: .string ⟨#[65, 110, 110]⟩ :: .string ⟨#[50, 46, 53, 46, 52, 46, 51]⟩ :: .int .i64 19 :: .string ⟨#[32, 97, 110, 110]⟩ :: .string ⟨#[50, 46, 53, 46, 52, 46, 51]⟩ :: .int .i64 12 :: .string ⟨#[103, 114, 195, 182, 195, 159, 101]⟩ :: .string ⟨#[50, 46, 53, 46, 52, 46, 54]⟩ :: .int .i64 19 :: .string ⟨#[85, 83]⟩ :: .string ⟨#[50, 46, 53, 46, 52, 46, 49, 48]⟩ :: .int .i64 19 :: .string ⟨#[69, 120, 97, 109, 112, 108, 101, 32, 32, 67, 111, 114, 112]⟩ :: .string ⟨#[50, 46, 53, 46, 52, 46, 49, 48]⟩ :: .int .i64 12 :: .string ⟨#[101, 120, 97, 109, 112, 108, 101, 32, 99, 111, 114, 112]⟩ :: .string ⟨#[50, 46, 53, 46, 52, 46, 49, 49]⟩ :: .int .i64 22 :: .string ⟨#[97, 44, 98, 43, 99, 61, 100, 92, 101]⟩ :: .string ⟨#[48, 46, 57, 46, 50, 51, 52, 50, 46, 49, 57, 50, 48, 48, 51, 48, 48, 46, 49, 48, 48, 46, 49, 46, 50, 53]⟩ :: .int .i64 22 :: .string ⟨#[111, 114, 103]⟩ :: .string ⟨#[49, 46, 50, 46, 56, 52, 48, 46, 49, 49, 51, 53, 52, 57, 46, 49, 46, 57, 46, 49]⟩ :: .int .i64 22 :: .string ⟨#[97, 110, 110, 64, 101, 120, 97, 109, 112, 108, 101, 46, 111, 114, 103]⟩ :: .string ⟨#[49, 46, 50, 46, 56, 52, 48, 46, 49, 49, 51, 53, 52, 57, 46, 49, 46, 57, 46, 49]⟩ :: .int .i64 22 :: .string ⟨#[110, 111, 32, 97, 100, 100, 114, 101, 115, 115]⟩ :: .string ⟨#[50, 46, 53, 46, 52, 46, 57, 57]⟩ :: .int .i64 19 :: .string ⟨#[120]⟩ :: .string ⟨#[50, 46, 53, 46, 52, 46, 55]⟩ :: .int .i64 12 :: .string ⟨#[76]⟩ :: [] : List Value).toArray) 69)) B (.slice (some ⟨w.heap.size, 0, none⟩) 12 12) madeL := by
  have h := World.ownsRow_lit (base := B) (e := 69) (size := 3) w ((.string ⟨#[50, 46, 53, 46, 52, 46, 51]⟩ :: .int .i64 12 :: .string ⟨#[65, 110, 110]⟩ :: .string ⟨#[50, 46, 53, 46, 52, 46, 51]⟩ :: .int .i64 19 :: .string ⟨#[32, 97, 110, 110]⟩ :: .string ⟨#[50, 46, 53, 46, 52, 46, 51]⟩ :: .int .i64 12 :: .string ⟨#[103, 114, 195, 182, 195, 159, 101]⟩ :: .string ⟨#[50, 46, 53, 46, 52, 46, 54]⟩ :: .int .i64 19 :: .string ⟨#[85, 83]⟩ :: .string ⟨#[50, 46, 53, 46, 52, 46, 49, 48]⟩ :: .int .i64 19 :: .string ⟨#[69, 120, 97, 109, 112, 108, 101, 32, 32, 67, 111, 114, 112]⟩ :: .string ⟨#[50, 46, 53, 46, 52, 46, 49, 48]⟩ :: .int .i64 12 :: .string ⟨#[101, 120, 97, 109, 112, 108, 101, 32, 99, 111, 114, 112]⟩ :: .string ⟨#[50, 46, 53, 46, 52, 46, 49, 49]⟩ :: .int .i64 22 :: .string ⟨#[97, 44, 98, 43, 99, 61, 100, 92, 101]⟩ :: .string ⟨#[48, 46, 57, 46, 50, 51, 52, 50, 46, 49, 57, 50, 48, 48, 51, 48, 48, 46, 49, 48, 48, 46, 49, 46, 50, 53]⟩ :: .int .i64 22 :: .string ⟨#[111, 114, 103]⟩ :: .string ⟨#[49, 46, 50, 46, 56, 52, 48, 46, 49, 49, 51, 53, 52, 57, 46, 49, 46, 57, 46, 49]⟩ :: .int .i64 22 :: .string ⟨#[97, 110, 110, 64, 101, 120, 97, 109, 112, 108, 101, 46, 111, 114, 103]⟩ :: .string ⟨#[49, 46, 50, 46, 56, 52, 48, 46, 49, 49, 51, 53, 52, 57, 46, 49, 46, 57, 46, 49]⟩ :: .int .i64 22 :: .string ⟨#[110, 111, 32, 97, 100, 100, 114, 101, 115, 115]⟩ :: .string ⟨#[50, 46, 53, 46, 52, 46, 57, 57]⟩ :: .int .i64 19 :: .string ⟨#[120]⟩ :: .string ⟨#[50, 46, 53, 46, 52, 46, 55]⟩ :: .int .i64 12 :: .string ⟨#[76]⟩ :: [] : List Value).toArray) 12 hB (by unfold maxLen; omega) rfl
  unfold OwnA
  rw [made_cells]
  exact h
theorem atRes1 {fn : Func} {p : Tmp} (h : fn.results = #[.cell p 69]) (tmps : Array Value) (w w0 : World) (x y z : Value)
    (hp : tmps.getD p undef = .pointer (some ⟨w0.heap.size, 0, none⟩)) (hg : w.heap[w0.heap.size]? = some (.cells #[x, y, z] 69 (0, 0))) :
    (results fn tmps).run Tryz.prog w = .ok (.agg #[x, y, z]) w :=
  results_cell_row h tmps w w0.heap.size 69 #[x, y, z] (0, 0) _ hp hg Tryz.underlying69 rfl atSize

theorem belowTwo' (w : World) (o p : Obj) : Below w.heap.size w ((w.alloc o).alloc p) := below_next (belowNew w o) (belowNew _ p)
theorem But.fresh {p g : Nat} {a b c : World} (h : But p a b) (k : But g b c) (hg : a.heap.size ≤ g) : But p a c := World.grownBy.andThen h k (fun j e => .inl (by obtain rfl := Option.some.inj e; exact hg))
theorem cell_same {w w' : World} {b : Nat} (h : w'.heap[b]? = w.heap[b]?) (o : Nat) : w'.cell? ⟨b, o, none⟩ = w.cell? ⟨b, o, none⟩ := by
  simp only [World.cell?, h]
set_option maxRecDepth 100000 in
set_option maxHeartbeats 4000000 in
theorem attr_any (p : Nat) (a : Option Addr) (cap : Nat) (zs : List Int) (k : Nat) (w : World) (h : DeckAt w p a cap zs k) (hk : k < 1000) :
    Calls Tryz.prog 35 #[.pointer (some ⟨p, 0, none⟩)] w fun e w' => ∃ r k' : Nat, r < 12 ∧ e = .returned (atV (madeL.getD r noAt)) ∧ DeckAt w' p a cap zs k' ∧ k' ≤ k + 1 ∧ But p w w' := by
  obtain ⟨W1, hW1⟩ : ∃ W1, W1 = w.alloc (.cells #[.string ⟨#[]⟩, .int .i64 0, .string ⟨#[]⟩] 69) := ⟨_, rfl⟩
  obtain ⟨W2, hW2⟩ : ∃ W2, W2 = W1.alloc (.cells ((.string ⟨#[50, 46, 53, 46, 52, 46, 51]⟩ :: .int .i64 12 :: .string ⟨#[65, 110, 110]⟩ :: .string ⟨#[50, 46, 53, 46, 52, 46, 51]⟩ :: .int .i64 19 :: .string ⟨#[32, 97, 110, 110]⟩ :: .string ⟨#[50, 46, 53, 46, 52, 46, 51]⟩ :: .int .i64 12 :: .string ⟨#[103, 114, 195, 182, 195, 159, 101]⟩ :: .string ⟨#[50, 46, 53, 46, 52, 46, 54]⟩ :: .int .i64 19 :: .string ⟨#[85, 83]⟩ :: .string ⟨#[50, 46, 53, 46, 52, 46, 49, 48]⟩ :: .int .i64 19 :: .string ⟨#[69, 120, 97, 109, 112, 108, 101, 32, 32, 67, 111, 114, 112]⟩ :: .string ⟨#[50, 46, 53, 46, 52, 46, 49, 48]⟩ :: .int .i64 12 :: .string ⟨#[101, 120, 97, 109, 112, 108, 101, 32, 99, 111, 114, 112]⟩ :: .string ⟨#[50, 46, 53, 46, 52, 46, 49, 49]⟩ :: .int .i64 22 :: .string ⟨#[97, 44, 98, 43, 99, 61, 100, 92, 101]⟩ :: .string ⟨#[48, 46, 57, 46, 50, 51, 52, 50, 46, 49, 57, 50, 48, 48, 51, 48, 48, 46, 49, 48, 48, 46, 49, 46, 50, 53]⟩ :: .int .i64 22 :: .string ⟨#[111, 114, 103]⟩ :: .string ⟨#[49, 46, 50, 46, 56, 52, 48, 46, 49, 49, 51, 53, 52, 57, 46, 49, 46, 57, 46, 49]⟩ :: .int .i64 22 :: .string ⟨#[97, 110, 110, 64, 101, 120, 97, 109, 112, 108, 101, 46, 111, 114, 103]⟩ :: .string ⟨#[49, 46, 50, 46, 56, 52, 48, 46, 49, 49, 51, 53, 52, 57, 46, 49, 46, 57, 46, 49]⟩ :: .int .i64 22 :: .string ⟨#[110, 111, 32, 97, 100, 100, 114, 101, 115, 115]⟩ :: .string ⟨#[50, 46, 53, 46, 52, 46, 57, 57]⟩ :: .int .i64 19 :: .string ⟨#[120]⟩ :: .string ⟨#[50, 46, 53, 46, 52, 46, 55]⟩ :: .int .i64 12 :: .string ⟨#[76]⟩ :: [] : List Value).toArray) 69) := ⟨_, rfl⟩
  have hz : W1.heap.size = w.heap.size + 1 := by rw [hW1]; simp
  have hb : Below w.heap.size w W2 := by rw [hW2, hW1]; exact belowTwo' w _ _
  have hl : ALies W2 (some ⟨w.heap.size + 1, 0, none⟩) madeL := by
    obtain ⟨a1, c1, e1, _, e2⟩ := (made_own W1 0 (Nat.zero_le _)).lies
    rw [hz] at e1
    obtain ⟨rfl, _⟩ : some ⟨w.heap.size + 1, 0, none⟩ = a1 ∧ 12 = c1 := by simpa [madeL] using e1
    rw [hW2]; exact e2
  have hc : W2.heap[w.heap.size]? = some (.cells #[.string ⟨#[]⟩, .int .i64 0, .string ⟨#[]⟩] 69 (0, 0)) := by
    rw [hW2]
    refine ((belowNew W1 _).block _ (by rw [hz]; omega)).trans ?_
    rw [hW1]; exact heap_alloc_new w _
  have hp := h.lt
  have HN := Lib.hid (next_any p a cap zs k 12 W2 (h.below hb) hk (by omega) (by omega))
  have HL := Lib.hid hl
  have HC := Lib.hid hc
  have HB := Lib.hid hb
  rw [hW2, hW1, show ((12 : Nat) : Int) = (12 : Int) from rfl] at HN
  have HW := Lib.hid hW2
  rw [hW1] at HW
  clear h hl hc hb hz hW2 hW1
  go_enter Tryz.func35, Tryz.ntmps35
  go_wp2_with (go_at_call 21; (with_reducible refine HN.out.mono ?_); rintro e w3 ⟨r, k', hr, rfl, hd, hk', hb3⟩; rw [← HW.out] at hb3; have hc3 := (hb3.block w.heap.size (Array.getElem?_eq_some_iff.1 HC.out).1 (by simp; omega)).trans HC.out; obtain ⟨b, o, e0, _, q0, q1, q2⟩ := HL.out.at r hr; obtain ⟨rfl, rfl⟩ : w.heap.size + 1 = b ∧ 0 = o := (by simpa using e0); rw [Nat.zero_add] at q0 q1 q2; have g0 := (hb3.block _ (block_lt q0) (by simp; omega)); have d0 := (cell_same g0 _).trans q0; have d1 := (cell_same g0 _).trans q1; have d2 := (cell_same g0 _).trans q2; obtain ⟨c0, c1, c2, f0, f1, f2, hlt⟩ := at_facts hc3; generalize hE : madeL.getD r noAt = E at d0 d1 d2; have HE := Lib.hid hE; have HD := Lib.hid hd; have HK := Lib.hid hk'; have HB3 := Lib.hid hb3; have HC3 := Lib.hid hc3; have HR := Lib.hid hr; clear hE hd hk' hb3 hc3 q0 q1 q2 e0 g0)
  have hs := ((But.set w.heap.size 0 w3 (.string E.1)).next (But.set w.heap.size 1 _ (.int .i64 E.2.1))).next (But.set w.heap.size 2 _ (.string E.2.2))
  exact bodyPost_ret (atRes1 rfl _ _ w _ _ _ rfl (at_set HC3.out)) rfl ⟨r, k', HR.out, by rw [HE.out]; rfl, HD.out.grown hs (fun j e => by obtain rfl := Option.some.inj e; exact hp), HK.out, ((But.of HB.out).next HB3.out).fresh hs (Nat.le_refl _)⟩
end Go.Proofs.YtofadgmnjckpcaaGreatDoor
namespace Go.Proofs.YtofadgmnjckpcaaGreatDoor
open Go.RowKit

theorem next4 (p : Nat) (a : Option Addr) (cap : Nat) (zs : List Int) (k : Nat) (w : World) (h : DeckAt w p a cap zs k) (hk2 : k < 1000) :
    Calls Tryz.prog 21 #[.pointer (some ⟨p, 0, none⟩), .int .i64 4] w fun e w' => ∃ r k' : Nat, r < 4 ∧ e = .returned (.int .i64 (r : Int)) ∧ DeckAt w' p a cap zs k' ∧ k' ≤ k + 1 ∧ But p w w' :=
  next_any p a cap zs k 4 w h hk2 (by omega) (by omega)
theorem next5 (p : Nat) (a : Option Addr) (cap : Nat) (zs : List Int) (k : Nat) (w : World) (h : DeckAt w p a cap zs k) (hk2 : k < 1000) :
    Calls Tryz.prog 21 #[.pointer (some ⟨p, 0, none⟩), .int .i64 5] w fun e w' => ∃ r k' : Nat, r < 5 ∧ e = .returned (.int .i64 (r : Int)) ∧ DeckAt w' p a cap zs k' ∧ k' ≤ k + 1 ∧ But p w w' :=
  next_any p a cap zs k 5 w h hk2 (by omega) (by omega)

/-- A relative name of the generator; a name of it. -/
def MadeR (r : List At) : Prop := r.length ≤ 2 ∧ (∀ x ∈ r, x ∈ madeL) ∧ (r.map (·.1)).Nodup
def MadeN (n : Nm) : Prop := n.length ≤ 3 ∧ ∀ r ∈ n, MadeR r ∧ 0 < r.length
theorem made_snoc {n : Nm} (h : MadeN n) (hl : n.length < 3) {r : List At} (hr : MadeR r) (h0 : 0 < r.length) : MadeN (n ++ [r]) := by
  refine ⟨by rw [List.length_append]; simp; omega, fun x hx => ?_⟩
  rcases List.mem_append.1 hx with hx | hx
  · exact h.2 x hx
  · obtain rfl := List.mem_singleton.1 hx
    exact ⟨hr, h0⟩
theorem but_row {w0 wr w1 w2 : World} {p B n k : Nat} {v : Value} {e : TypeId} {xs : List Value} (hb : But p w0 wr) (hb1 : Below wr.heap.size wr w1) (ho : wr.ownsRow B e k v n xs) (hB : w0.heap.size ≤ B) (hg : w1.grownBy w2 v.ownBlock) : But p w0 w2 :=
  World.grownBy.andThen (hb.next (But.of hb1)) hg (fun j e => .inl (Nat.le_trans hB (World.ownsRow.lt ho j e).1))
theorem madeR_snoc {D : List At} {E : At} (h : MadeR D) (hl : D.length ≤ 1) (hE : E ∈ madeL) (hn : ∀ x ∈ D, x.1 ≠ E.1) : MadeR (D ++ [E]) := by
  refine ⟨by rw [List.length_append]; simp; omega, fun x hx => ?_, ?_⟩
  · rcases List.mem_append.1 hx with hx | hx
    · exact h.2.1 x hx
    · obtain rfl := List.mem_singleton.1 hx
      exact hE
  · rw [List.map_append, List.nodup_append]
    refine ⟨h.2.2, by simp, fun a ha b hb => ?_⟩
    obtain ⟨x, hx, rfl⟩ := List.mem_map.1 ha
    obtain ⟨y, hy, rfl⟩ := List.mem_map.1 hb
    obtain rfl := List.mem_singleton.1 hy
    exact hn x hx
theorem at_news2 (w1 : World) (X : Obj) (E : At) : ∀ j u, (atCells E)[j]? = some u → ((w1.alloc X).alloc (.cells #[.string E.1, .int .i64 E.2.1, .string E.2.2] 69)).drew.cell? ((⟨w1.heap.size + 1, 0, none⟩ : Addr).add j) = some u := by
  intro j u h
  have := news_row (w1.alloc X) #[.string E.1, .int .i64 E.2.1, .string E.2.2] 69 j u (by simpa [atCells] using h)
  simpa using this
theorem made_mem (r : Nat) (h : r < 12) : madeL.getD r noAt ∈ madeL := by
  have h' : r < madeL.length := h
  rw [List.getD_eq_getElem?_getD, List.getElem?_eq_getElem h']
  exact List.getElem_mem h'
theorem nmRes1 {fn : Func} {p : Tmp} (h : fn.results = #[.cell p 30]) (tmps : Array Value) (w w0 : World) (x : Value)
    (hp : tmps.getD p undef = .pointer (some ⟨w0.heap.size, 0, none⟩)) (hg : w.heap[w0.heap.size]? = some (.cells #[x] 30 (0, 0))) :
    (results fn tmps).run Tryz.prog w = .ok (.agg #[x]) w :=
  results_cell_row h tmps w w0.heap.size 30 #[x] (0, 0) _ hp hg Tryz.underlying30 rfl nmSize

set_option maxRecDepth 100000 in
set_option maxHeartbeats 4000000 in
theorem name_any (p : Nat) (a : Option Addr) (cap : Nat) (zs : List Int) (k : Nat) (w : World) (h : DeckAt w p a cap zs k) (hk : k ≤ 900) :
    Calls Tryz.prog 20 #[.pointer (some ⟨p, 0, none⟩)] w fun e w' => ∃ (v : Value) (n : Nm) (k' : Nat), MadeN n ∧ e = .returned v ∧ OwnV w' w.heap.size v n ∧ DeckAt w' p a cap zs k' ∧ k' ≤ k + 10 ∧ But p w w' := by
  obtain ⟨i0, hi, hz0, hz1, hz2⟩ := info_parts rdInfo
  obtain ⟨i1, hi', hy0, hy1, hy2⟩ := info_parts atInfo
  have hp := h.lt
  obtain ⟨g, hg⟩ : ∃ g, g = w.heap.size := ⟨_, rfl⟩
  obtain ⟨W0, hW0⟩ : ∃ W0, W0 = (w.alloc (.cells #[.slice none 0 0] 30)).alloc (.cells #[.slice none 0 0] 30) := ⟨_, rfl⟩
  have hb0 : Below w.heap.size w W0 := by rw [hW0]; exact belowTwo w _ _
  have HB0 := Lib.hid (But.of (p := p) hb0)
  have HD0 := Lib.hid (h.below hb0)
  have HZ0 := Lib.hid (show W0.heap.size = g + 2 by rw [hW0, hg]; simp)
  have HG0 := Lib.hid (show W0.heap[g]? = some (.cells #[.slice none 0 0] 30 (0, 0)) by
    rw [hW0, hg]; exact ((belowNew _ _).block _ (by simp)).trans (heap_alloc_new w _))
  have HG1 := Lib.hid (show W0.heap[g + 1]? = some (.cells #[.slice none 0 0] 30 (0, 0)) by
    have := heap_alloc_new (w.alloc (.cells #[.slice none 0 0] 30)) (.cells #[.slice none 0 0] 30)
    rw [← hW0] at this
    rw [hg]
    simpa using this)
  have HWE := Lib.hid hW0.symm
  have HG := Lib.hid hg
  have hpg : p < g := by rw [hg]; exact hp
  clear h hb0 hW0 hp hg
  go_enter Tryz.func20, Tryz.ntmps20
  go_wp2_with fail
  rw [HWE.out, ← HG.out]
  refine (next4 p a cap zs k W0 HD0.out (by omega)).mono ?_
  rintro e w1 ⟨r4, k1, hr4, rfl, hd, hk1, hb1⟩
  have HD1 := Lib.hid hd
  have HB1 := Lib.hid hb1
  clear hd hb1
  go_wp2_with fail
  go_loopw [4] (fun i wr => ∃ (j : Nat) (N : Nm) (V : Value) (k2 : Nat), N.length + j ≤ 3 ∧ MadeN N ∧ i = .int .i64 (j : Int) ∧ wr.heap[g]? = some (.cells #[.slice none 0 0] 30 (0, 0)) ∧ wr.heap[g + 1]? = some (.cells #[V] 30 (0, 0)) ∧ OwnN wr (g + 2) V N ∧ DeckAt wr p a cap zs k2 ∧ k2 + 3 * j ≤ k + 10 ∧ But p w wr) (fun i _ => (intOf i).toNat)
  case atStart =>
    exact ⟨r4, [], _, k1, by simp; omega, ⟨by simp, fun r h => by cases h⟩, rfl, (HB1.out.block g (by rw [HZ0.out]; omega) (by simp; omega)).trans HG0.out, (HB1.out.block (g + 1) (by rw [HZ0.out]; omega) (by simp; omega)).trans HG1.out, OwnN.nil _ _, HD1.out, by omega, HB0.out.next HB1.out⟩
  case round =>
    obtain ⟨j, N, V, k2, hjn, hmn, rfl, hg0, hg1, hown, hd, hkk, hb⟩ := hrel
    have HMN := Lib.hid hmn
    have HG0 := Lib.hid hg0
    have HG1 := Lib.hid hg1
    have HO := Lib.hid hown
    have HD := Lib.hid hd
    have HB := Lib.hid hb
    clear hmn hg0 hg1 hown hd hb HD1 HB1 hr4 hk1
    by_cases hj : 0 < j
    · have hdj : decide ((0 : Int) < (j : Int)) = true := by simp; omega
      go_wp2_with fail
      refine (next5 p a cap zs k2 _ HD.out (by omega)).mono ?_
      rintro e w2 ⟨r5, k3, hr5, rfl, hd3, hk3, hb3⟩
      obtain ⟨q, hq, hq1⟩ : ∃ q : Nat, (r5 : Int).tdiv 4 = (q : Int) ∧ q ≤ 1 := ⟨r5 / 4, by rw [Int.tdiv_eq_ediv_of_nonneg (by omega)]; omega, by omega⟩
      have HD3 := Lib.hid hd3
      have HB3 := Lib.hid hb3
      clear hd3 hb3
      go_wp2_with fail
      have h20 := (HB3.out.block g (Array.getElem?_eq_some_iff.1 HG0.out).1 (by simp; omega)).trans HG0.out
      have h21 := (HB3.out.block (g + 1) (Array.getElem?_eq_some_iff.1 HG1.out).1 (by simp; omega)).trans HG1.out
      have H20 := Lib.hid h20
      have H21 := Lib.hid h21
      have HO2 := Lib.hid (HO.out.but HB3.out (by omega))
      have HBW := Lib.hid (HB.out.next HB3.out)
      have hzz : g + 2 ≤ w2.heap.size := by have := (Array.getElem?_eq_some_iff.1 h21).1; omega
      clear h20 h21 hq
      go_loopw [5, 6] (fun r i ws => ∃ (m : Nat) (D : List At) (v : Value) (k4 : Nat), D.length + m ≤ 2 ∧ (0 < D.length ∨ 0 < m) ∧ MadeR D ∧ r = v ∧ i = .int .i64 (m : Int) ∧ OwnA ws w2.heap.size v D ∧ DeckAt ws p a cap zs k4 ∧ k4 + m ≤ k3 + 2 ∧ But p w2 ws) (fun _ i _ => (intOf i).toNat)
      case atStart => exact ⟨1 + q, [], _, k3, by simp; omega, .inr (by omega), ⟨by simp, (fun x h => by cases h), by simp⟩, rfl, by first | rfl | go_num, OwnA.nil _ _, HD3.out, by omega, But.refl _ _⟩
      case round =>
        obtain ⟨m, D, v, k4, hmD, hor, hmr, rfl, rfl, hown, hd, hk4, hb⟩ := hrel
        have HO4 := Lib.hid hown
        have HD4 := Lib.hid hd
        have HB4 := Lib.hid hb
        have HMR := Lib.hid hmr
        have HOR := Lib.hid hor
        clear hown hd hb hmr hor HD3
        by_cases hm : 0 < m
        · have hdm : decide ((0 : Int) < (m : Int)) = true := by simp; omega
          go_wp2_with fail
          refine (attr_any p a cap zs k4 wr HD4.out (by omega)).mono ?_
          rintro e w5 ⟨r, k5, hr, rfl, hd5, hk5, hb5⟩
          have HM := Lib.hid (made_mem r hr)
          generalize madeL.getD r noAt = E at HM ⊢
          simp only [atV]
          have HO5 := Lib.hid (HO4.out.but hb5 (by omega))
          have HD5 := Lib.hid hd5
          have HB5 := Lib.hid (HB4.out.next hb5)
          obtain ⟨aD, cD, rfl, hcD, hlD⟩ := HO5.out.lies
          have hw5 : w2.heap.size ≤ w5.heap.size := HB5.out.size
          clear hd5 hb5
          by_cases hD0 : D.length = 0
          · obtain rfl : D = [] := List.eq_nil_of_length_eq_zero hD0
            go_wp2_with fail
            go_region
            go_wp2_with (at_builtin; (refine wpList_append_own _ rfl (.tmp 37) (.tmp 39) 67 rfl w2.heap.size 69 i1 (.agg #[.string ⟨#[]⟩, .int .i64 0, .string ⟨#[]⟩]) 3 40 Tryz.underlying67 hi' hy0 hy1 hy2 rfl (by decide) _ 0 (atsCells []) rfl ((HO5.out.alloc _).alloc _).drew ⟨w5.heap.size + 1, 0, none⟩ 1 1 (atCells E) rfl rfl (at_news2 w5 _ E) (atCells_one _) (by unfold maxLen; omega) (by omega) (by simp; omega) ?_); intro v' w6 hown6 hgr6 _; have P1 : OwnA w6 w2.heap.size v' ([] ++ [E]) := (by unfold OwnA; rw [List.length_append, atsCells_snoc]; exact hown6); have P2 := but_row HB5.out (belowTwo w5 _ _).drew HO5.out (Nat.le_refl _) hgr6; have P4 := (HD5.out.below (belowTwo w5 _ _).drew).grown hgr6 (fun j e => Nat.lt_of_lt_of_le (show p < w2.heap.size by omega) (World.ownsRow.lt HO5.out j e).1); obtain ⟨a6, c6, hv6, _, _⟩ := P1.lies; subst hv6; have HP1 := Lib.hid P1; have HP2 := Lib.hid P2; have HP4 := Lib.hid P4; clear P1 P2 P4 hown6 hgr6)
            go_roundw
            case rel => exact ⟨m - 1, [] ++ [E], _, k5, by simp at hmD ⊢; omega, .inl (by simp), madeR_snoc HMR.out (by simp) HM.out (fun x h => by cases h), rfl, by go_num, HP1.out, HP4.out, by omega, HP2.out⟩
            case measure => simp [intOf]; omega
          · obtain ⟨x, rfl⟩ : ∃ x, D = [x] := List.length_eq_one_iff.1 (by omega)
            obtain ⟨b, o, rfl, hbx, cx, _, _⟩ := hlD.at 0 (by simp)
            rw [show ([x] : List At).getD 0 noAt = x from rfl, Nat.zero_mul, Nat.add_zero] at cx
            clear hlD
            by_cases hxe : x.1 = E.1
            · have hq : (x.1.toList == E.1.toList) = true := by rw [beq_str]; simpa using hxe
              go_wp2_with fail
              go_region
              go_wp2_with fail
              go_roundw
              case rel => exact ⟨m - 1, [x], _, k5, by simp at hmD ⊢; omega, .inl (by simp), HMR.out, rfl, by go_num, (HO5.out.alloc _).drew, HD5.out.below (belowNew w5 _).drew, by omega, HB5.out.next (But.of (belowNew w5 _).drew)⟩
              case measure => simp [intOf]; omega
            · have hq : (x.1.toList == E.1.toList) = false := by rw [beq_str]; simpa using hxe
              go_wp2_with fail
              go_region
              go_wp2_with (at_builtin; (refine wpList_append_own _ rfl (.tmp 37) (.tmp 39) 67 rfl w2.heap.size 69 i1 (.agg #[.string ⟨#[]⟩, .int .i64 0, .string ⟨#[]⟩]) 3 40 Tryz.underlying67 hi' hy0 hy1 hy2 rfl (by decide) _ 1 (atsCells [x]) rfl ((HO5.out.alloc _).alloc _).drew ⟨w5.heap.size + 1, 0, none⟩ 1 1 (atCells E) rfl rfl (at_news2 w5 _ E) (atCells_one _) (by unfold maxLen; omega) (by omega) (by simp; omega) ?_); intro v' w6 hown6 hgr6 _; have P1 : OwnA w6 w2.heap.size v' ([x] ++ [E]) := (by unfold OwnA; rw [List.length_append, atsCells_snoc]; exact hown6); have P2 := but_row HB5.out (belowTwo w5 _ _).drew HO5.out (Nat.le_refl _) hgr6; have P4 := (HD5.out.below (belowTwo w5 _ _).drew).grown hgr6 (fun j e => Nat.lt_of_lt_of_le (show p < w2.heap.size by omega) (World.ownsRow.lt HO5.out j e).1); obtain ⟨a6, c6, hv6, _, _⟩ := P1.lies; subst hv6; have HP1 := Lib.hid P1; have HP2 := Lib.hid P2; have HP4 := Lib.hid P4; clear P1 P2 P4 hown6 hgr6)
              go_roundw
              case rel => exact ⟨m - 1, [x] ++ [E], _, k5, by simp at hmD ⊢; omega, .inl (by simp), madeR_snoc HMR.out (by simp) HM.out (fun y h => by obtain rfl := List.mem_singleton.1 h; exact hxe), rfl, by go_num, HP1.out, HP4.out, by omega, HP2.out⟩
              case measure => simp [intOf]; omega
        · have hdm : decide ((0 : Int) < (m : Int)) = false := by simp; omega
          have h0 := (HB4.out.block g (by omega) (by simp; omega)).trans H20.out
          have h1 := (HB4.out.block (g + 1) (by omega) (by simp; omega)).trans H21.out
          have HON := Lib.hid (HO2.out.but HB4.out (by omega))
          obtain ⟨aD, cD, rfl, _, _⟩ := HO4.out.lies
          obtain ⟨aV, cV, rfl, hcV, _⟩ := HON.out.lies
          obtain ⟨c1, f1, hl1⟩ := one_facts h1
          have HH0 := Lib.hid h0
          have HH1 := Lib.hid h1
          have hwr : w2.heap.size ≤ wr.heap.size := HB4.out.size
          obtain ⟨vs, hv1, hv2, hv3⟩ := HON.out
          have HV1 := Lib.hid hv1
          have HV2 := Lib.hid hv2
          have HV3 := Lib.hid hv3
          have HBB := Lib.hid (HBW.out.next HB4.out)
          clear h0 h1 hv1 hv2 hv3
          go_wp2_with (at_builtin; (refine wpList_append_own _ rfl (.tmp 42) (.tmp 44) 28 rfl (g + 2) 67 i0 (.slice none 0 0) 1 24 Tryz.underlying28 hi hz0 hz1 hz2 rfl (by decide) _ N.length vs rfl (HV2.out.alloc _) ⟨wr.heap.size, 0, none⟩ 1 1 [.slice aD D.length cD] rfl rfl (row_news wr _ _) (one_one _ _ _) (by unfold maxLen; omega) (by omega) (by simp; omega) ?_); intro v' w6 hown6 hgr6 _; have P0 := more_box HH0.out (show g < g + 2 by omega) HV2.out hgr6; have P1 := more_box HH1.out (show g + 1 < g + 2 by omega) HV2.out hgr6; have P2 := but_row HBB.out (belowNew wr _) HV2.out (by rw [← HG.out]; omega) hgr6; have P3 := OwnN.snoc HV1.out (own_below HV2.out (belowNew wr _)) (fun i hi => (HV3.out i hi).below (belowNew wr _)) ((HO4.out.base hzz).below (belowNew wr _)) hgr6 hown6; have P4 := (HD4.out.below (belowNew wr _)).grown hgr6 (fun j e => Nat.lt_of_lt_of_le (show p < g + 2 by omega) (World.ownsRow.lt HV2.out j e).1); obtain ⟨a6, c6, hv6, _, _⟩ := P3.lies; rw [List.length_append, List.length_singleton] at hv6; subst hv6; obtain ⟨s0, t0, hltq⟩ := one_facts P1; have HP0 := Lib.hid P0; have HP1 := Lib.hid P1; have HP2 := Lib.hid P2; have HP3 := Lib.hid P3; have HP4 := Lib.hid P4; clear P0 P1 P2 P3 P4 hown6 hgr6)
          have hs := But.set (g + 1) 0 w6 (.slice a6 (N.length + 1) c6)
          go_roundw
          case rel => exact ⟨j - 1, N ++ [D], _, k4, by rw [List.length_append]; simp; omega, made_snoc HMN.out (by omega) HMR.out (by rcases HOR.out with h | h <;> omega), by go_num, (hs.block g (by omega) (by simp)).trans HP0.out, one_set HP1.out, HP3.out.but (p := g + 1) hs (by omega), HP4.out.grown hs (fun j e => by obtain rfl := Option.some.inj e; omega), by omega, HP2.out.fresh hs (by rw [← HG.out]; omega)⟩
          case measure => simp [intOf]; omega
    · have hdj : decide ((0 : Int) < (j : Int)) = false := by simp; omega
      obtain ⟨av, cv, rfl, _, _⟩ := HO.out.lies
      obtain ⟨c0, f0, _⟩ := one_facts HG0.out
      obtain ⟨c1, f1, _⟩ := one_facts HG1.out
      have hs := But.set g 0 wr (.slice av N.length cv)
      go_wp2_with fail
      exact bodyPost_ret (nmRes1 rfl _ _ w _ (by rw [← HG.out]; rfl) (by rw [← HG.out]; exact one_set HG0.out)) rfl ⟨_, N, k2, HMN.out, rfl, ⟨_, rfl, (HO.out.but (p := g) hs (by omega)).base (by rw [← HG.out]; omega)⟩, HD.out.grown hs (fun j e => by obtain rfl := Option.some.inj e; exact hpg), by omega, HB.out.fresh hs (by rw [← HG.out]; exact Nat.le_refl _)⟩
end Go.Proofs.YtofadgmnjckpcaaGreatDoor
