/-
  A loop over the pieces that strings.SplitSeq gives: what holds behind it, out of one walk of the loop's body.
  The contract of DNS of the program: whether a text is a DNS name.
-/
import Derived.Test.YtofadgmnjckpcaaGreatDoorVas
namespace Go.Proofs.YtofadgmnjckpcaaGreatDoor
open Go.RowKit Go.Shelf

/-- How a round of the loop may end: off its end, or by a return. -/
def rndEnd (bs : Nat) (I Ix : World → Prop) (W : World) : Exit → Act → World → Prop
  | .normal, _, W' => KeepsOthers W W' ∧ Below (bs + 3) W W' ∧ I W'
  | .ret, _, W' => KeepsOthers W W' ∧ Ix W'
  | _, _, _ => False

theorem put_low {b k : Nat} (hk : b ≤ k) (W : World) (o : Obj) : Below b W (W.putObj k o) :=
  ⟨rfl, rfl, rfl, by simp, fun _ hi => World.putObj_heap_other (by omega)⟩
theorem put_lowest {b k : Nat} {A W : World} (h : Below b A W) (hk : b ≤ k) (o : Obj) : Below b A (W.putObj k o) := h.trans (put_low hk W o)

set_option maxRecDepth 100000 in
set_option maxHeartbeats 2000000 in
theorem range_seq {g : Operand} {p : Tmp} {assign body : Go.Code} {Q : Exit → Act → World → Prop} {a : Act} {w : World} {n bs : Nat} (h2 : 2 ≤ n) (L : List UInt8) (hL : L.length ≤ 100000)
    (hg : a.eval g = .func (.func 152) #[] #[.pointer (some ⟨bs + 1, 0, none⟩), .pointer (some ⟨bs, 0, none⟩), .pointer (some ⟨bs + 2, 0, none⟩)])
    (hsz : w.heap.size = bs + 3) (hs : w.cell? ⟨bs, 0, none⟩ = some (.string (strOf L))) (hf : w.frozen? ⟨bs, 0, none⟩ = false) (hp : w.cell? ⟨bs + 1, 0, none⟩ = some (.string ⟨#[46]⟩)) (hv : w.cell? ⟨bs + 2, 0, none⟩ = some (.int .i64 0))
    (I : List (List UInt8) → World → Prop) (Ix : World → Prop) (hI : ∀ pre {W W' : World}, I pre W → Below bs W W' → I pre W') (hIx : ∀ {W W' : World}, Ix W → Below bs W W' → Ix W') (h0 : I [] w) (a1 : List UInt8 → Act)
    (hassign : ∀ (l : Nat) (x : List UInt8) (W : World) (K : Act → World → Prop), K (a1 x) W →
      assign.wpIn (Fence.wide.inRound l) (n - 1 - 1) Tryz.prog (Exit.then K (fun _ _ _ => False)) { tmps := a.tmps.setIfInBounds p (.string (strOf x)), defers := [] } W)
    (hbody : ∀ (l : Nat) (pre : List (List UInt8)) (x : List UInt8) (rest : List (List UInt8)) (W : World), I pre W → pcsL 46 L = pre ++ x :: rest →
      body.wpIn (Fence.wide.inRound l) (n - 1 - 1) Tryz.prog (rndEnd bs (I (pre ++ [x])) Ix W) (a1 x) W)
    (hdone : ∀ W : World, I (pcsL 46 L) W → W.heap[bs + 3]? = some (.deferred (some [])) → Q .normal { a with defers := { target := .collected (bs + 3), args := #[] } :: a.defers } W)
    (hstop : ∀ W : World, Ix W → W.heap[bs + 3]? = some (.deferred (some [])) → Go.Code.ret.wpIn Fence.wide n Tryz.prog Q { a with defers := { target := .collected (bs + 3), args := #[] } :: a.defers } W) :
    (Go.Code.rangeFunc g #[p] assign body).wpIn Fence.wide n Tryz.prog Q a w := by
  refine wpIn_rangeFunc fun fn hfn => ?_
  obtain ⟨R, hR⟩ : ∃ R : LoopState → Option Go.Code → Loop, ∀ st pe, R st pe = { state := st, pending := pe, fn, tmps := a.tmps, params := #[p], assign, body, defers := bs + 3 } := ⟨_, fun _ _ => rfl⟩
  have e0 := run_enterLoop_outer (P := Tryz.prog) (w := w) fn a.tmps #[p] assign body
  rw [hsz, ← hR] at e0
  obtain ⟨W1, hW1⟩ : ∃ W1, (w.alloc (.deferred (some []))).alloc (.loop (R .ready none)) = W1 := ⟨_, rfl⟩
  rw [hW1] at e0
  have hB1 : Below (bs + 3) w W1 := by
    rw [← hW1, ← hsz]
    exact ((Below.refl _ w).alloc (Nat.le_refl _) _).alloc (by simp) _
  have hl1 : W1.heap[bs + 4]? = some (.loop (R .ready none)) := by
    rw [← hW1]
    have := World.alloc_heap_new (w.alloc (.deferred (some []))) (.loop (R .ready none))
    rwa [World.size_alloc, hsz] at this
  have hd1 : W1.heap[bs + 3]? = some (.deferred (some [])) := by
    have h := World.alloc_heap_new w (.deferred (some []))
    rw [hsz] at h
    rw [← hW1]
    exact (Below.heap_alloc _ _ _ (by simp [hsz])).trans h
  refine ⟨bs + 4, _, W1, { target := .fn (.func 152) #[.pointer (some ⟨bs + 1, 0, none⟩), .pointer (some ⟨bs, 0, none⟩), .pointer (some ⟨bs + 2, 0, none⟩)], args := #[.func (.yield (bs + 4)) #[] #[]] }, W1, 152,
    #[.func (.yield (bs + 4)) #[] #[], .pointer (some ⟨bs + 1, 0, none⟩), .pointer (some ⟨bs, 0, none⟩), .pointer (some ⟨bs + 2, 0, none⟩)], W1, e0, ?_, fun _ _ => trivial, ?_, fun _ => by omega, ?_⟩
  · simp only [resolve, hg]
    simp [go_sem]
  · simp [invoke, go_sem]
  · refine (iter_any (bs + 4) bs (n - 1) (by omega) L hL
      (fun pre W => I pre W ∧ W.heap[bs + 4]? = some (.loop (R .ready none)) ∧ W.heap[bs + 3]? = some (.deferred (some [])))
      (fun W => Ix W ∧ W.heap[bs + 4]? = some (.loop (R .done (some .ret))) ∧ W.heap[bs + 3]? = some (.deferred (some [])))
      (fun pre W v ⟨i1, i2, i3⟩ => ⟨hI pre i1 ((Below.refl bs W).setCell (p := ⟨bs, 0, none⟩) (Nat.le_refl _) v), (Below.heap_setCell W ⟨bs, 0, none⟩ v (bs + 4) (by show bs + 4 ≠ bs; omega)).trans i2, (Below.heap_setCell W ⟨bs, 0, none⟩ v (bs + 3) (by show bs + 3 ≠ bs; omega)).trans i3⟩)
      ?_ W1 ((hB1.cell (p := ⟨bs, 0, none⟩) (show bs < bs + 3 by omega)).trans hs) ((hB1.frozen (p := ⟨bs, 0, none⟩) (show bs < bs + 3 by omega)).trans hf)
      ((hB1.cell (p := ⟨bs + 1, 0, none⟩) (show bs + 1 < bs + 3 by omega)).trans hp) ((hB1.cell (p := ⟨bs + 2, 0, none⟩) (show bs + 2 < bs + 3 by omega)).trans hv)
      ⟨hI [] h0 (hB1.mono (by omega)), hl1, hd1⟩).mono ?_
    · rintro pre x rest W ⟨i1, i2, i3⟩ hpc
      have hlt : bs + 4 < W.heap.size := (Array.getElem?_eq_some_iff.1 i2).1
      have hy := run_yield (P := Tryz.prog) (args := #[.string (strOf x)]) i2 (by rw [hR]; rfl)
      rw [hR] at hy
      have ht : (#[p].zip #[Value.string (strOf x)]).foldl (fun (t : Array Value) ((q, v) : Tmp × Value) => t.setIfInBounds q v) a.tmps = a.tmps.setIfInBounds p (.string (strOf x)) := by simp
      simp only [ht] at hy
      have hbusy := run_beginRound (P := Tryz.prog) i2 (by rw [hR])
      rw [show ({ R .ready none with state := .busy } : Loop) = R .busy none by rw [hR, hR]] at hbusy
      obtain ⟨W2, hW2⟩ : ∃ W2, W.putObj (bs + 4) (.loop (R .busy none)) = W2 := ⟨_, rfl⟩
      rw [hW2] at hbusy
      have hl2 : W2.heap[bs + 4]? = some (.loop (R .busy none)) := by rw [← hW2]; exact World.putObj_heap_same hlt
      have hd2 : W2.heap[bs + 3]? = some (.deferred (some [])) := by rw [← hW2]; exact (World.putObj_heap_other (by omega)).trans i3
      have hb2 : Below (bs + 3) W W2 := by rw [← hW2]; exact put_low (by omega) _ _
      refine ⟨fn, _, assign, body, hy, roundIn_of_wpIn hfn ?_⟩
      refine hassign _ x W _ ?_
      refine ⟨W2, hbusy, ?_⟩
      refine wpIn_mono (hbody _ pre x rest W2 (hI pre i1 (hb2.mono (by omega))) hpc) ?_
      intro e a3 W3 h3
      cases e with
      | normal =>
        obtain ⟨k1, k2, k3⟩ := h3
        have hl3 := k1.same _ _ hl2 rfl
        have hd3 := k1.same _ _ hd2 rfl
        have he := run_endRound (P := Tryz.prog) none hl3
        have hb3 : Below (bs + 3) W3 (W3.putObj (bs + 4) (.loop (R .ready none))) := put_low (by omega) _ _
        refine ⟨_, _, he, .inl ⟨rfl, ?_, ?_⟩⟩
        · rw [show ({ R .busy none with state := if (none : Option Go.Code).isNone then .ready else .done, pending := none } : Loop) = R .ready none by rw [hR, hR]; rfl]
          exact ⟨hI _ k3 (hb3.mono (by omega)), World.putObj_heap_same (Array.getElem?_eq_some_iff.1 hl3).1, (World.putObj_heap_other (by omega)).trans hd3⟩
        · exact put_lowest (hb2.trans k2) (by omega) _
      | ret =>
        obtain ⟨k1, k3⟩ := h3
        have hl3 := k1.same _ _ hl2 rfl
        have hd3 := k1.same _ _ hd2 rfl
        have he := run_endRound (P := Tryz.prog) (some .ret) hl3
        refine ⟨_, _, he, .inr ⟨rfl, ?_⟩⟩
        rw [show ({ R .busy none with state := if (some Go.Code.ret).isNone then .ready else .done, pending := some .ret } : Loop) = R .done (some .ret) by rw [hR, hR]; rfl]
        exact ⟨hIx k3 (put_low (by omega) _ _), World.putObj_heap_same (Array.getElem?_eq_some_iff.1 hl3).1, (World.putObj_heap_other (by omega)).trans hd3⟩
      | exit id => exact h3.elim
      | goto t => exact h3.elim
      | panic c => exact h3.elim
      | outgrown => exact h3.elim
    · rintro e W2 ⟨⟨v, rfl⟩, ⟨i1, i2, i3⟩ | ⟨i1, i2, i3⟩⟩
      · have he := run_endLoop (P := Tryz.prog) i2 (by rw [hR]; simp)
        rw [show (R .ready none).pending = none by rw [hR]] at he
        exact ⟨none, _, he, hdone _ (hI _ i1 (put_low (by omega) _ _)) ((World.putObj_heap_other (by omega)).trans i3)⟩
      · have he := run_endLoop (P := Tryz.prog) i2 (by rw [hR]; simp)
        rw [show (R .done (some .ret)).pending = some .ret by rw [hR]] at he
        exact ⟨some .ret, _, he, hstop _ (hIx i1 (put_low (by omega) _ _)) ((World.putObj_heap_other (by omega)).trans i3)⟩
end Go.Proofs.YtofadgmnjckpcaaGreatDoor
namespace Go.Proofs.YtofadgmnjckpcaaGreatDoor
open Go.RowKit Go.Shelf
attribute [local go_sem] Oper.semAt_some

theorem piece_le {c : UInt8} : ∀ {ps : List (List UInt8)} {x : List UInt8}, x ∈ ps → x.length ≤ (Lib.join ps [c]).length
  | [], _, h => by simp at h
  | [p], x, h => by
    rw [List.mem_singleton.1 h, Lib.join_one]
    exact Nat.le_refl _
  | p :: q :: r, x, h => by
    rw [join_two, List.length_append, List.length_cons]
    rcases List.mem_cons.1 h with rfl | h
    · omega
    · have := piece_le (c := c) (ps := q :: r) h
      omega
theorem pcs_short {L : List UInt8} {x : List UInt8} (h : x ∈ pcsL 46 L) : x.length ≤ L.length := by
  have := piece_le (c := 46) h
  rwa [(pcsL_spl 46 L).2.1] at this
theorem cell_made (W : World) (v : Value) (t : TypeId) : (W.alloc (.cells #[v] t)).cell? ⟨W.heap.size, 0, none⟩ = some v ∧ (W.alloc (.cells #[v] t)).frozen? ⟨W.heap.size, 0, none⟩ = false := by
  have h := World.alloc_heap_new W (.cells #[v] t)
  constructor
  · unfold World.cell?
    rw [h]
    rfl
  · unfold World.frozen?
    rw [h]
    rfl

set_option maxRecDepth 100000 in
set_option maxHeartbeats 2000000 in
theorem pdns_any (L : List UInt8) (hL : L.length ≤ 100000) (w : World) :
    Calls Tryz.prog 114 #[.string (strOf L)] w fun e w' => e = .returned (.bool (dnsB L)) ∧ Below w.heap.size w w' := by
  have e0 := strOf_size L
  refine (callsIn_wide (n := 6)).1 ?_
  refine callsIn_of_wp_marks Tryz.func114 rfl trivial ?_ rfl
  simp only [Tryz.ntmps114, List.size_toArray, List.length_cons, List.length_nil, Nat.reduceAdd, Nat.reduceSub, Array.replicate_succ, Array.replicate_zero, List.push_toArray, List.append_toArray, List.nil_append, List.cons_append]
  by_cases h : 128 < L.length
  · have d1 : decide ((128 : Int) < (L.length : Int)) = true := by simp; omega
    have HE := Lib.hid (dnsB_long h)
    gi_wp2
    refine ⟨_, ?_, by rw [HE.out], (Below.refl _ w).alloc (Nat.le_refl _) _⟩
    have hc := (cell_made w (.bool false) 4).1
    simp [results, Tryz.f114, go_sem, hc]
  · have d1 : decide ((128 : Int) < (L.length : Int)) = false := by simp; omega
    have HD := Lib.hid (dnsB_all (L := L) (by omega))
    have HL := Lib.hid hL
    have HLE := Lib.hid e0
    gi_wp2_with (refine ⟨trivial, ?_⟩; gi_at_call 128; (with_reducible refine (callsIn_wide.2 (pseq_any L _)).mono ?_); rintro e w1 ⟨rfl, rfl⟩)
    obtain ⟨K, hK⟩ : ∃ K, w.heap.size = K := ⟨_, rfl⟩
    obtain ⟨w1, hw1⟩ : ∃ w1, w.alloc (.cells #[.bool false] 4) = w1 := ⟨_, rfl⟩
    obtain ⟨w2, hw2⟩ : ∃ w2, w1.alloc (.cells #[.string (strOf L)] 9) = w2 := ⟨_, rfl⟩
    obtain ⟨w3, hw3⟩ : ∃ w3, w2.alloc (.cells #[.string ⟨#[46]⟩] 9) = w3 := ⟨_, rfl⟩
    obtain ⟨w4, hw4⟩ : ∃ w4, w3.alloc (.cells #[.int .i64 0] 3) = w4 := ⟨_, rfl⟩
    rw [hw1, hw2, hw3, hw4, hK]
    have s1 : w1.heap.size = K + 1 := by rw [← hw1, World.size_alloc, hK]
    have s2 : w2.heap.size = K + 2 := by rw [← hw2, World.size_alloc, s1]
    have s3 : w3.heap.size = K + 3 := by rw [← hw3, World.size_alloc, s2]
    have s4 : w4.heap.size = K + 4 := by rw [← hw4, World.size_alloc, s3]
    have c1 := cell_made w (.bool false) 4
    have c2 := cell_made w1 (.string (strOf L)) 9
    have c3 := cell_made w2 (.string ⟨#[46]⟩) 9
    have c4 := cell_made w3 (.int .i64 0) 3
    rw [hw1, hK] at c1
    rw [hw2, s1] at c2
    rw [hw3, s2] at c3
    rw [hw4, s3] at c4
    have b1 : Below K w w1 := by rw [← hw1]; exact (Below.refl K w).alloc (by omega) _
    have b2 : Below (K + 1) w1 w2 := by rw [← hw2]; exact (Below.refl _ w1).alloc (by omega) _
    have b3 : Below (K + 2) w2 w3 := by rw [← hw3]; exact (Below.refl _ w2).alloc (by omega) _
    have b4 : Below (K + 3) w3 w4 := by rw [← hw4]; exact (Below.refl _ w3).alloc (by omega) _
    have b34 : Below (K + 2) w2 w4 := b3.trans (b4.mono (by omega))
    have b24 : Below (K + 1) w1 w4 := b2.trans (b34.mono (by omega))
    have HB := Lib.hid (b1.trans (b24.mono (by omega)))
    have hp0 := (b24.cell (p := ⟨K, 0, none⟩) (show K < K + 1 by omega)).trans c1.1
    have hp1 := (b24.frozen (p := ⟨K, 0, none⟩) (show K < K + 1 by omega)).trans c1.2
    refine range_seq (n := 6) (bs := K + 1) (by omega) L HL.out rfl (by omega) ((b34.cell (p := ⟨K + 1, 0, none⟩) (show K + 1 < K + 2 by omega)).trans c2.1) ((b34.frozen (p := ⟨K + 1, 0, none⟩) (show K + 1 < K + 2 by omega)).trans c2.2)
      ((b4.cell (p := ⟨K + 2, 0, none⟩) (show K + 2 < K + 3 by omega)).trans c3.1) c4.1
      (fun pre W => (∀ y ∈ pre, lbl y = true) ∧ W.cell? ⟨K, 0, none⟩ = some (.bool false) ∧ W.frozen? ⟨K, 0, none⟩ = false ∧ Below K w W)
      (fun W => dnsB L = false ∧ W.cell? ⟨K, 0, none⟩ = some (.bool false) ∧ Below K w W)
      (fun pre {W W'} ⟨i1, i2, i3, i4⟩ hb => ⟨i1, (hb.cell (p := ⟨K, 0, none⟩) (show K < K + 1 by omega)).trans i2, (hb.frozen (p := ⟨K, 0, none⟩) (show K < K + 1 by omega)).trans i3, i4.trans (hb.mono (by omega))⟩)
      (fun {W W'} ⟨i1, i2, i4⟩ hb => ⟨i1, (hb.cell (p := ⟨K, 0, none⟩) (show K < K + 1 by omega)).trans i2, i4.trans (hb.mono (by omega))⟩)
      ⟨fun y hy => by simp at hy, hp0, hp1, HB.out⟩
      (fun x => { tmps := #[.string (strOf L), undef, .pointer (some ⟨K, 0, none⟩), .string (strOf x), .string (strOf L), .int .i64 (L.length : Int), .bool false, .string (strOf L),
          .func (.func 152) #[] #[.pointer (some ⟨K + 1 + 1, 0, none⟩), .pointer (some ⟨K + 1, 0, none⟩), .pointer (some ⟨K + 1 + 2, 0, none⟩)], .string (strOf x), undef, undef, undef], defers := [] }) ?assign ?body ?done ?stop
    case assign =>
      intro l x W KK hKK
      gi_wp2
      exact hKK
    case body =>
      rintro l pre x rest W ⟨i1, i2, i3, i4⟩ hpc
      have hm : x ∈ pcsL 46 L := by rw [hpc]; simp
      have hx : x.length ≤ 100000 := Nat.le_trans (pcs_short hm) HL.out
      have I1 := Lib.hid i1
      have I4 := Lib.hid i4
      have HM := Lib.hid hm
      clear i1 i4 hpc hm
      cases hlb : lbl x with
      | true =>
        have HC := Lib.hid (fun w => plabel_is hlb hx w)
        have HLB := Lib.hid hlb
        clear hlb
        gi_wp2_with (refine ⟨trivial, ?_⟩; gi_at_call 129; (with_reducible refine (CallsIn.inRound l (callsIn_wide.2 (HC.out _))).mono ?_); rintro e w5 ⟨rfl, rfl⟩)
        refine ⟨KeepsOthers.refl _, Below.refl _ _, fun y hy => ?_, i2, i3, I4.out⟩
        rcases List.mem_append.1 hy with h | h
        · exact I1.out y h
        · rw [List.mem_singleton.1 h]; exact HLB.out
      | false =>
        have HC := Lib.hid (fun w => plabel_is hlb hx w)
        have HF := Lib.hid (show dnsB L = false by
          rw [HD.out, Bool.eq_false_iff]
          intro k
          have := List.all_eq_true.1 k x HM.out
          rw [hlb] at this
          cases this)
        clear hlb
        gi_wp2_with (refine ⟨trivial, ?_⟩; gi_at_call 129; (with_reducible refine (CallsIn.inRound l (callsIn_wide.2 (HC.out _))).mono ?_); rintro e w5 ⟨rfl, rfl⟩)
        exact ⟨KeepsOthers.setCell _ _ _, HF.out, World.cell?_setCell_same _ _ _ i2, I4.out.setCell (p := ⟨K, 0, none⟩) (Nat.le_refl _) _⟩
    case done =>
      rintro W ⟨i1, i2, i3, i4⟩ hd
      have HE := Lib.hid (show dnsB L = true by rw [HD.out]; exact List.all_eq_true.2 i1)
      have I4 := Lib.hid i4
      have HDD := Lib.hid hd
      have hd' := (KeepsOthers.setCell W ⟨K, 0, none⟩ (.bool true)).same _ _ hd rfl
      have hc := World.cell?_setCell_same W ⟨K, 0, none⟩ (.bool true) i2
      have HC := Lib.hid ((put_low (b := K + 1) (k := K + 1 + 3) (by omega) _ (.deferred none)).cell (p := ⟨K, 0, none⟩) (show K < K + 1 by omega) |>.trans hc)
      have HT := Lib.hid (run_takeDeferred (P := Tryz.prog) hd')
      clear i1 i4 hd hd' hc
      gi_wp2
      refine ⟨by simp, .inl ⟨_, _, rfl, HT.out, ?_⟩⟩
      refine ⟨.bool true, ?_, by rw [HE.out], by rw [hK]; exact put_lowest (I4.out.setCell (p := ⟨K, 0, none⟩) (Nat.le_refl _) _) (by omega) _⟩
      have hc := HC.out
      simp [results, Tryz.f114, go_sem, hc]
    case stop =>
      rintro W ⟨i1, i2, i4⟩ hd
      have HE := Lib.hid i1
      have I4 := Lib.hid i4
      have HC := Lib.hid ((put_low (b := K + 1) (k := K + 1 + 3) (by omega) W (.deferred none)).cell (p := ⟨K, 0, none⟩) (show K < K + 1 by omega) |>.trans i2)
      have HT := Lib.hid (run_takeDeferred (P := Tryz.prog) hd)
      clear i1 i4 i2 hd
      gi_wp2
      refine ⟨by simp, .inl ⟨_, _, rfl, HT.out, ?_⟩⟩
      refine ⟨.bool false, ?_, by rw [HE.out], by rw [hK]; exact put_lowest I4.out (by omega) _⟩
      have hc := HC.out
      simp [results, Tryz.f114, go_sem, hc]
end Go.Proofs.YtofadgmnjckpcaaGreatDoor
