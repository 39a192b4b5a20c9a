/-
  A loop over the pieces that strings.SplitSeq gives: what holds behind it, out of one walk of the loop's body.
-/
import Derived.Test.YtjdfgalcnbnobaaDoorAay
namespace Go.Proofs.YtjdfgalcnbnobaaDoor
open Go.RowKit Go.Shelf

/-- How a round of the loop may end: off its end, or by a return. -/
def rndEnd (bs : Nat) (I Ix : World → Prop) (W : World) : Exit → Act → World → Prop
  | .normal, _, W' => KeepsOthers W W' ∧ Below (bs + 3) W W' ∧ I W'
  | .ret, _, W' => KeepsOthers W W' ∧ Ix W'
  | _, _, _ => False

theorem put_low {b k : Nat} (hk : b ≤ k) (W : World) (o : Obj) : Below b W (W.putObj k o) :=
  ⟨rfl, rfl, rfl, by simp, fun _ hi => World.putObj_heap_other (by omega)⟩
theorem put_lowest {b k : Nat} {A W : World} (h : Below b A W) (hk : b ≤ k) (o : Obj) : Below b A (W.putObj k o) := h.trans (put_low hk W o)

set_option maxRecDepth 100000 in
set_option maxHeartbeats 2000000 in
theorem range_seq {g : Operand} {p : Tmp} {assign body : Go.Code} {Q : Exit → Act → World → Prop} {a : Act} {w : World} {n bs : Nat} (h2 : 2 ≤ n) (L : List UInt8) (hL : L.length ≤ 100000)
    (hg : a.eval g = .func (.func 85) #[] #[.pointer (some ⟨bs + 1, 0, none⟩), .pointer (some ⟨bs, 0, none⟩), .pointer (some ⟨bs + 2, 0, none⟩)])
    (hsz : w.heap.size = bs + 3) (hs : w.cell? ⟨bs, 0, none⟩ = some (.string (strOf L))) (hf : w.frozen? ⟨bs, 0, none⟩ = false) (hp : w.cell? ⟨bs + 1, 0, none⟩ = some (.string ⟨#[46]⟩)) (hv : w.cell? ⟨bs + 2, 0, none⟩ = some (.int .i64 0))
    (I : List (List UInt8) → World → Prop) (Ix : World → Prop) (hI : ∀ pre {W W' : World}, I pre W → Below bs W W' → I pre W') (hIx : ∀ {W W' : World}, Ix W → Below bs W W' → Ix W') (h0 : I [] w) (a1 : List UInt8 → Act)
    (hassign : ∀ (l : Nat) (x : List UInt8) (W : World) (K : Act → World → Prop), K (a1 x) W →
      assign.wpIn (Fence.wide.inRound l) (n - 1 - 1) Tryd.prog (Exit.then K (fun _ _ _ => False)) { tmps := a.tmps.setIfInBounds p (.string (strOf x)), defers := [] } W)
    (hbody : ∀ (l : Nat) (pre : List (List UInt8)) (x : List UInt8) (rest : List (List UInt8)) (W : World), I pre W → pcsL 46 L = pre ++ x :: rest →
      body.wpIn (Fence.wide.inRound l) (n - 1 - 1) Tryd.prog (rndEnd bs (I (pre ++ [x])) Ix W) (a1 x) W)
    (hdone : ∀ W : World, I (pcsL 46 L) W → W.heap[bs + 3]? = some (.deferred (some [])) → Q .normal { a with defers := { target := .collected (bs + 3), args := #[] } :: a.defers } W)
    (hstop : ∀ W : World, Ix W → W.heap[bs + 3]? = some (.deferred (some [])) → Go.Code.ret.wpIn Fence.wide n Tryd.prog Q { a with defers := { target := .collected (bs + 3), args := #[] } :: a.defers } W) :
    (Go.Code.rangeFunc g #[p] assign body).wpIn Fence.wide n Tryd.prog Q a w := by
  refine wpIn_rangeFunc fun fn hfn => ?_
  obtain ⟨R, hR⟩ : ∃ R : LoopState → Option Go.Code → Loop, ∀ st pe, R st pe = { state := st, pending := pe, fn, tmps := a.tmps, params := #[p], assign, body, defers := bs + 3 } := ⟨_, fun _ _ => rfl⟩
  have e0 := run_enterLoop_outer (P := Tryd.prog) (w := w) fn a.tmps #[p] assign body
  rw [hsz, ← hR] at e0
  obtain ⟨W1, hW1⟩ : ∃ W1, (w.alloc (.deferred (some []))).alloc (.loop (R .ready none)) = W1 := ⟨_, rfl⟩
  rw [hW1] at e0
  have hB1 : Below (bs + 3) w W1 := by
    rw [← hW1, ← hsz]
    exact ((Below.refl _ w).alloc (Nat.le_refl _) _).alloc (by simp) _
  have hl1 : W1.heap[bs + 4]? = some (.loop (R .ready none)) := by
    rw [← hW1]
    have := World.alloc_heap_new (w.alloc (.deferred (some []))) (.loop (R .ready none))
    rwa [World.size_alloc, hsz] at this
  have hd1 : W1.heap[bs + 3]? = some (.deferred (some [])) := by
    have h := World.alloc_heap_new w (.deferred (some []))
    rw [hsz] at h
    rw [← hW1]
    exact (Below.heap_alloc _ _ _ (by simp [hsz])).trans h
  refine ⟨bs + 4, _, W1, { target := .fn (.func 85) #[.pointer (some ⟨bs + 1, 0, none⟩), .pointer (some ⟨bs, 0, none⟩), .pointer (some ⟨bs + 2, 0, none⟩)], args := #[.func (.yield (bs + 4)) #[] #[]] }, W1, 85,
    #[.func (.yield (bs + 4)) #[] #[], .pointer (some ⟨bs + 1, 0, none⟩), .pointer (some ⟨bs, 0, none⟩), .pointer (some ⟨bs + 2, 0, none⟩)], W1, e0, ?_, fun _ _ => trivial, ?_, fun _ => by omega, ?_⟩
  · simp only [resolve, hg]
    simp [go_sem]
  · simp [invoke, go_sem]
  · refine (iter_any (bs + 4) bs (n - 1) (by omega) L hL
      (fun pre W => I pre W ∧ W.heap[bs + 4]? = some (.loop (R .ready none)) ∧ W.heap[bs + 3]? = some (.deferred (some [])))
      (fun W => Ix W ∧ W.heap[bs + 4]? = some (.loop (R .done (some .ret))) ∧ W.heap[bs + 3]? = some (.deferred (some [])))
      (fun pre W v ⟨i1, i2, i3⟩ => ⟨hI pre i1 ((Below.refl bs W).setCell (p := ⟨bs, 0, none⟩) (Nat.le_refl _) v), (Below.heap_setCell W ⟨bs, 0, none⟩ v (bs + 4) (by show bs + 4 ≠ bs; omega)).trans i2, (Below.heap_setCell W ⟨bs, 0, none⟩ v (bs + 3) (by show bs + 3 ≠ bs; omega)).trans i3⟩)
      ?_ W1 ((hB1.cell (p := ⟨bs, 0, none⟩) (show bs < bs + 3 by omega)).trans hs) ((hB1.frozen (p := ⟨bs, 0, none⟩) (show bs < bs + 3 by omega)).trans hf)
      ((hB1.cell (p := ⟨bs + 1, 0, none⟩) (show bs + 1 < bs + 3 by omega)).trans hp) ((hB1.cell (p := ⟨bs + 2, 0, none⟩) (show bs + 2 < bs + 3 by omega)).trans hv)
      ⟨hI [] h0 (hB1.mono (by omega)), hl1, hd1⟩).mono ?_
    · rintro pre x rest W ⟨i1, i2, i3⟩ hpc
      have hlt : bs + 4 < W.heap.size := (Array.getElem?_eq_some_iff.1 i2).1
      have hy := run_yield (P := Tryd.prog) (args := #[.string (strOf x)]) i2 (by rw [hR]; rfl)
      rw [hR] at hy
      have ht : (#[p].zip #[Value.string (strOf x)]).foldl (fun (t : Array Value) ((q, v) : Tmp × Value) => t.setIfInBounds q v) a.tmps = a.tmps.setIfInBounds p (.string (strOf x)) := by simp
      simp only [ht] at hy
      have hbusy := run_beginRound (P := Tryd.prog) i2 (by rw [hR])
      rw [show ({ R .ready none with state := .busy } : Loop) = R .busy none by rw [hR, hR]] at hbusy
      obtain ⟨W2, hW2⟩ : ∃ W2, W.putObj (bs + 4) (.loop (R .busy none)) = W2 := ⟨_, rfl⟩
      rw [hW2] at hbusy
      have hl2 : W2.heap[bs + 4]? = some (.loop (R .busy none)) := by rw [← hW2]; exact World.putObj_heap_same hlt
      have hd2 : W2.heap[bs + 3]? = some (.deferred (some [])) := by rw [← hW2]; exact (World.putObj_heap_other (by omega)).trans i3
      have hb2 : Below (bs + 3) W W2 := by rw [← hW2]; exact put_low (by omega) _ _
      refine ⟨fn, _, assign, body, hy, roundIn_of_wpIn hfn ?_⟩
      refine hassign _ x W _ ?_
      refine ⟨W2, hbusy, ?_⟩
      refine wpIn_mono (hbody _ pre x rest W2 (hI pre i1 (hb2.mono (by omega))) hpc) ?_
      intro e a3 W3 h3
      cases e with
      | normal =>
        obtain ⟨k1, k2, k3⟩ := h3
        have hl3 := k1.same _ _ hl2 rfl
        have hd3 := k1.same _ _ hd2 rfl
        have he := run_endRound (P := Tryd.prog) none hl3
        have hb3 : Below (bs + 3) W3 (W3.putObj (bs + 4) (.loop (R .ready none))) := put_low (by omega) _ _
        refine ⟨_, _, he, .inl ⟨rfl, ?_, ?_⟩⟩
        · rw [show ({ R .busy none with state := if (none : Option Go.Code).isNone then .ready else .done, pending := none } : Loop) = R .ready none by rw [hR, hR]; rfl]
          exact ⟨hI _ k3 (hb3.mono (by omega)), World.putObj_heap_same (Array.getElem?_eq_some_iff.1 hl3).1, (World.putObj_heap_other (by omega)).trans hd3⟩
        · exact put_lowest (hb2.trans k2) (by omega) _
      | ret =>
        obtain ⟨k1, k3⟩ := h3
        have hl3 := k1.same _ _ hl2 rfl
        have hd3 := k1.same _ _ hd2 rfl
        have he := run_endRound (P := Tryd.prog) (some .ret) hl3
        refine ⟨_, _, he, .inr ⟨rfl, ?_⟩⟩
        rw [show ({ R .busy none with state := if (some Go.Code.ret).isNone then .ready else .done, pending := some .ret } : Loop) = R .done (some .ret) by rw [hR, hR]; rfl]
        exact ⟨hIx k3 (put_low (by omega) _ _), World.putObj_heap_same (Array.getElem?_eq_some_iff.1 hl3).1, (World.putObj_heap_other (by omega)).trans hd3⟩
      | exit id => exact h3.elim
      | goto t => exact h3.elim
      | panic c => exact h3.elim
      | outgrown => exact h3.elim
    · rintro e W2 ⟨⟨v, rfl⟩, ⟨i1, i2, i3⟩ | ⟨i1, i2, i3⟩⟩
      · have he := run_endLoop (P := Tryd.prog) i2 (by rw [hR]; simp)
        rw [show (R .ready none).pending = none by rw [hR]] at he
        exact ⟨none, _, he, hdone _ (hI _ i1 (put_low (by omega) _ _)) ((World.putObj_heap_other (by omega)).trans i3)⟩
      · have he := run_endLoop (P := Tryd.prog) i2 (by rw [hR]; simp)
        rw [show (R .done (some .ret)).pending = some .ret by rw [hR]] at he
        exact ⟨some .ret, _, he, hstop _ (hIx i1 (put_low (by omega) _ _)) ((World.putObj_heap_other (by omega)).trans i3)⟩
end Go.Proofs.YtjdfgalcnbnobaaDoor
