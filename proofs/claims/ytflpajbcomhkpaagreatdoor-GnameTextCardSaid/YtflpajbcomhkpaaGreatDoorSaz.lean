/-
  A loop over the pieces that strings.SplitSeq gives: what holds behind it, out of one walk of the loop's body.
  The contract of DNS of the program: whether a text is a DNS name.
  The contracts of equal and of ends of the program: whether two ASCII texts differ in case only; whether one ends with the other.
  The contracts of strings.Cut at one byte, of strings.CutPrefix and TrimPrefix and of strings.Contains at one byte.
  The contracts of Pattern, Base, DNSMatch and DNSWithin of the program.
  The contracts of DNSMatch and DNSWithin of the program.
-/
import Derived.Test.YtflpajbcomhkpaaGreatDoorSay
import Derived.Test.YtflpajbcomhkpaaGreatDoorSac
import Derived.Test.YtflpajbcomhkpaaGreatDoorSao
namespace Go.Proofs.YtflpajbcomhkpaaGreatDoor
open Go.RowKit Go.Shelf

/-- How a round of the loop may end: off its end, or by a return. -/
def rndEnd (bs : Nat) (I Ix : World → Prop) (W : World) : Exit → Act → World → Prop
  | .normal, _, W' => KeepsOthers W W' ∧ Below (bs + 3) W W' ∧ I W'
  | .ret, _, W' => KeepsOthers W W' ∧ Ix W'
  | _, _, _ => False

theorem put_low {b k : Nat} (hk : b ≤ k) (W : World) (o : Obj) : Below b W (W.putObj k o) :=
  ⟨rfl, rfl, rfl, by simp, fun _ hi => World.putObj_heap_other (by omega)⟩
theorem put_lowest {b k : Nat} {A W : World} (h : Below b A W) (hk : b ≤ k) (o : Obj) : Below b A (W.putObj k o) := h.trans (put_low hk W o)

set_option maxRecDepth 100000 in
set_option maxHeartbeats 2000000 in
theorem range_seq {g : Operand} {p : Tmp} {assign body : Go.Code} {Q : Exit → Act → World → Prop} {a : Act} {w : World} {n bs : Nat} (h2 : 2 ≤ n) (L : List UInt8) (hL : L.length ≤ 150000)
    (hg : a.eval g = .func (.func 213) #[] #[.pointer (some ⟨bs + 1, 0, none⟩), .pointer (some ⟨bs, 0, none⟩), .pointer (some ⟨bs + 2, 0, none⟩)])
    (hsz : w.heap.size = bs + 3) (hs : w.cell? ⟨bs, 0, none⟩ = some (.string (strOf L))) (hf : w.frozen? ⟨bs, 0, none⟩ = false) (hp : w.cell? ⟨bs + 1, 0, none⟩ = some (.string ⟨#[46]⟩)) (hv : w.cell? ⟨bs + 2, 0, none⟩ = some (.int .i64 0))
    (I : List (List UInt8) → World → Prop) (Ix : World → Prop) (hI : ∀ pre {W W' : World}, I pre W → Below bs W W' → I pre W') (hIx : ∀ {W W' : World}, Ix W → Below bs W W' → Ix W') (h0 : I [] w) (a1 : List UInt8 → Act)
    (hassign : ∀ (l : Nat) (x : List UInt8) (W : World) (K : Act → World → Prop), K (a1 x) W →
      assign.wpIn (Fence.wide.inRound l) (n - 1 - 1) Tryz.prog (Exit.then K (fun _ _ _ => False)) { tmps := a.tmps.setIfInBounds p (.string (strOf x)), defers := [] } W)
    (hbody : ∀ (l : Nat) (pre : List (List UInt8)) (x : List UInt8) (rest : List (List UInt8)) (W : World), I pre W → pcsL 46 L = pre ++ x :: rest →
      body.wpIn (Fence.wide.inRound l) (n - 1 - 1) Tryz.prog (rndEnd bs (I (pre ++ [x])) Ix W) (a1 x) W)
    (hdone : ∀ W : World, I (pcsL 46 L) W → W.heap[bs + 3]? = some (.deferred (some [])) → Q .normal { a with defers := { target := .collected (bs + 3), args := #[] } :: a.defers } W)
    (hstop : ∀ W : World, Ix W → W.heap[bs + 3]? = some (.deferred (some [])) → Go.Code.ret.wpIn Fence.wide n Tryz.prog Q { a with defers := { target := .collected (bs + 3), args := #[] } :: a.defers } W) :
    (Go.Code.rangeFunc g #[p] assign body).wpIn Fence.wide n Tryz.prog Q a w := by
  refine wpIn_rangeFunc fun fn hfn => ?_
  obtain ⟨R, hR⟩ : ∃ R : LoopState → Option Go.Code → Loop, ∀ st pe, R st pe = { state := st, pending := pe, fn, tmps := a.tmps, params := #[p], assign, body, defers := bs + 3 } := ⟨_, fun _ _ => rfl⟩
  have e0 := run_enterLoop_outer (P := Tryz.prog) (w := w) fn a.tmps #[p] assign body
  rw [hsz, ← hR] at e0
  obtain ⟨W1, hW1⟩ : ∃ W1, (w.alloc (.deferred (some []))).alloc (.loop (R .ready none)) = W1 := ⟨_, rfl⟩
  rw [hW1] at e0
  have hB1 : Below (bs + 3) w W1 := by
    rw [← hW1, ← hsz]
    exact ((Below.refl _ w).alloc (Nat.le_refl _) _).alloc (by simp) _
  have hl1 : W1.heap[bs + 4]? = some (.loop (R .ready none)) := by
    rw [← hW1]
    have := World.alloc_heap_new (w.alloc (.deferred (some []))) (.loop (R .ready none))
    rwa [World.size_alloc, hsz] at this
  have hd1 : W1.heap[bs + 3]? = some (.deferred (some [])) := by
    have h := World.alloc_heap_new w (.deferred (some []))
    rw [hsz] at h
    rw [← hW1]
    exact (Below.heap_alloc _ _ _ (by simp [hsz])).trans h
  refine ⟨bs + 4, _, W1, { target := .fn (.func 213) #[.pointer (some ⟨bs + 1, 0, none⟩), .pointer (some ⟨bs, 0, none⟩), .pointer (some ⟨bs + 2, 0, none⟩)], args := #[.func (.yield (bs + 4)) #[] #[]] }, W1, 213,
    #[.func (.yield (bs + 4)) #[] #[], .pointer (some ⟨bs + 1, 0, none⟩), .pointer (some ⟨bs, 0, none⟩), .pointer (some ⟨bs + 2, 0, none⟩)], W1, e0, ?_, fun _ _ => trivial, ?_, fun _ => by omega, ?_⟩
  · simp only [resolve, hg]
    simp [go_sem]
  · simp [invoke, go_sem]
  · refine (iter_any (bs + 4) bs (n - 1) (by omega) L hL
      (fun pre W => I pre W ∧ W.heap[bs + 4]? = some (.loop (R .ready none)) ∧ W.heap[bs + 3]? = some (.deferred (some [])))
      (fun W => Ix W ∧ W.heap[bs + 4]? = some (.loop (R .done (some .ret))) ∧ W.heap[bs + 3]? = some (.deferred (some [])))
      (fun pre W v ⟨i1, i2, i3⟩ => ⟨hI pre i1 ((Below.refl bs W).setCell (p := ⟨bs, 0, none⟩) (Nat.le_refl _) v), (Below.heap_setCell W ⟨bs, 0, none⟩ v (bs + 4) (by show bs + 4 ≠ bs; omega)).trans i2, (Below.heap_setCell W ⟨bs, 0, none⟩ v (bs + 3) (by show bs + 3 ≠ bs; omega)).trans i3⟩)
      ?_ W1 ((hB1.cell (p := ⟨bs, 0, none⟩) (show bs < bs + 3 by omega)).trans hs) ((hB1.frozen (p := ⟨bs, 0, none⟩) (show bs < bs + 3 by omega)).trans hf)
      ((hB1.cell (p := ⟨bs + 1, 0, none⟩) (show bs + 1 < bs + 3 by omega)).trans hp) ((hB1.cell (p := ⟨bs + 2, 0, none⟩) (show bs + 2 < bs + 3 by omega)).trans hv)
      ⟨hI [] h0 (hB1.mono (by omega)), hl1, hd1⟩).mono ?_
    · rintro pre x rest W ⟨i1, i2, i3⟩ hpc
      have hlt : bs + 4 < W.heap.size := (Array.getElem?_eq_some_iff.1 i2).1
      have hy := run_yield (P := Tryz.prog) (args := #[.string (strOf x)]) i2 (by rw [hR]; rfl)
      rw [hR] at hy
      have ht : (#[p].zip #[Value.string (strOf x)]).foldl (fun (t : Array Value) ((q, v) : Tmp × Value) => t.setIfInBounds q v) a.tmps = a.tmps.setIfInBounds p (.string (strOf x)) := by simp
      simp only [ht] at hy
      have hbusy := run_beginRound (P := Tryz.prog) i2 (by rw [hR])
      rw [show ({ R .ready none with state := .busy } : Loop) = R .busy none by rw [hR, hR]] at hbusy
      obtain ⟨W2, hW2⟩ : ∃ W2, W.putObj (bs + 4) (.loop (R .busy none)) = W2 := ⟨_, rfl⟩
      rw [hW2] at hbusy
      have hl2 : W2.heap[bs + 4]? = some (.loop (R .busy none)) := by rw [← hW2]; exact World.putObj_heap_same hlt
      have hd2 : W2.heap[bs + 3]? = some (.deferred (some [])) := by rw [← hW2]; exact (World.putObj_heap_other (by omega)).trans i3
      have hb2 : Below (bs + 3) W W2 := by rw [← hW2]; exact put_low (by omega) _ _
      refine ⟨fn, _, assign, body, hy, roundIn_of_wpIn hfn ?_⟩
      refine hassign _ x W _ ?_
      refine ⟨W2, hbusy, ?_⟩
      refine wpIn_mono (hbody _ pre x rest W2 (hI pre i1 (hb2.mono (by omega))) hpc) ?_
      intro e a3 W3 h3
      cases e with
      | normal =>
        obtain ⟨k1, k2, k3⟩ := h3
        have hl3 := k1.same _ _ hl2 rfl
        have hd3 := k1.same _ _ hd2 rfl
        have he := run_endRound (P := Tryz.prog) none hl3
        have hb3 : Below (bs + 3) W3 (W3.putObj (bs + 4) (.loop (R .ready none))) := put_low (by omega) _ _
        refine ⟨_, _, he, .inl ⟨rfl, ?_, ?_⟩⟩
        · rw [show ({ R .busy none with state := if (none : Option Go.Code).isNone then .ready else .done, pending := none } : Loop) = R .ready none by rw [hR, hR]; rfl]
          exact ⟨hI _ k3 (hb3.mono (by omega)), World.putObj_heap_same (Array.getElem?_eq_some_iff.1 hl3).1, (World.putObj_heap_other (by omega)).trans hd3⟩
        · exact put_lowest (hb2.trans k2) (by omega) _
      | ret =>
        obtain ⟨k1, k3⟩ := h3
        have hl3 := k1.same _ _ hl2 rfl
        have hd3 := k1.same _ _ hd2 rfl
        have he := run_endRound (P := Tryz.prog) (some .ret) hl3
        refine ⟨_, _, he, .inr ⟨rfl, ?_⟩⟩
        rw [show ({ R .busy none with state := if (some Go.Code.ret).isNone then .ready else .done, pending := some .ret } : Loop) = R .done (some .ret) by rw [hR, hR]; rfl]
        exact ⟨hIx k3 (put_low (by omega) _ _), World.putObj_heap_same (Array.getElem?_eq_some_iff.1 hl3).1, (World.putObj_heap_other (by omega)).trans hd3⟩
      | exit id => exact h3.elim
      | goto t => exact h3.elim
      | panic c => exact h3.elim
      | outgrown => exact h3.elim
    · rintro e W2 ⟨⟨v, rfl⟩, ⟨i1, i2, i3⟩ | ⟨i1, i2, i3⟩⟩
      · have he := run_endLoop (P := Tryz.prog) i2 (by rw [hR]; simp)
        rw [show (R .ready none).pending = none by rw [hR]] at he
        exact ⟨none, _, he, hdone _ (hI _ i1 (put_low (by omega) _ _)) ((World.putObj_heap_other (by omega)).trans i3)⟩
      · have he := run_endLoop (P := Tryz.prog) i2 (by rw [hR]; simp)
        rw [show (R .done (some .ret)).pending = some .ret by rw [hR]] at he
        exact ⟨some .ret, _, he, hstop _ (hIx i1 (put_low (by omega) _ _)) ((World.putObj_heap_other (by omega)).trans i3)⟩
end Go.Proofs.YtflpajbcomhkpaaGreatDoor
namespace Go.Proofs.YtflpajbcomhkpaaGreatDoor
open Go.RowKit Go.Shelf
attribute [local go_sem] Oper.semAt_some

theorem piece_le {c : UInt8} : ∀ {ps : List (List UInt8)} {x : List UInt8}, x ∈ ps → x.length ≤ (Lib.join ps [c]).length
  | [], _, h => by simp at h
  | [p], x, h => by
    rw [List.mem_singleton.1 h, Lib.join_one]
    exact Nat.le_refl _
  | p :: q :: r, x, h => by
    rw [join_two, List.length_append, List.length_cons]
    rcases List.mem_cons.1 h with rfl | h
    · omega
    · have := piece_le (c := c) (ps := q :: r) h
      omega
theorem pcs_short {L : List UInt8} {x : List UInt8} (h : x ∈ pcsL 46 L) : x.length ≤ L.length := by
  have := piece_le (c := 46) h
  rwa [(pcsL_spl 46 L).2.1] at this
theorem cell_made (W : World) (v : Value) (t : TypeId) : (W.alloc (.cells #[v] t)).cell? ⟨W.heap.size, 0, none⟩ = some v ∧ (W.alloc (.cells #[v] t)).frozen? ⟨W.heap.size, 0, none⟩ = false := by
  have h := World.alloc_heap_new W (.cells #[v] t)
  constructor
  · unfold World.cell?
    rw [h]
    rfl
  · unfold World.frozen?
    rw [h]
    rfl

set_option maxRecDepth 100000 in
set_option maxHeartbeats 2000000 in
theorem pdns_any (L : List UInt8) (hL : L.length ≤ 150000) (w : World) :
    Calls Tryz.prog 113 #[.string (strOf L)] w fun e w' => e = .returned (.bool (dnsB L)) ∧ Below w.heap.size w w' := by
  have e0 := strOf_size L
  refine (callsIn_wide (n := 6)).1 ?_
  refine callsIn_of_wp_marks Tryz.func113 rfl trivial ?_ rfl
  simp only [Tryz.ntmps113, List.size_toArray, List.length_cons, List.length_nil, Nat.reduceAdd, Nat.reduceSub, Array.replicate_succ, Array.replicate_zero, List.push_toArray, List.append_toArray, List.nil_append, List.cons_append]
  by_cases h : 128 < L.length
  · have d1 : decide ((128 : Int) < (L.length : Int)) = true := by simp; omega
    have HE := Lib.hid (dnsB_long h)
    gi_wp2
    refine ⟨_, ?_, by rw [HE.out], (Below.refl _ w).alloc (Nat.le_refl _) _⟩
    have hc := (cell_made w (.bool false) 4).1
    simp [results, Tryz.f113, go_sem, hc]
  · have d1 : decide ((128 : Int) < (L.length : Int)) = false := by simp; omega
    have HD := Lib.hid (dnsB_all (L := L) (by omega))
    have HL := Lib.hid hL
    have HLE := Lib.hid e0
    gi_wp2_with (refine ⟨trivial, ?_⟩; gi_at_call 148; (with_reducible refine (callsIn_wide.2 (pseq_any L _)).mono ?_); rintro e w1 ⟨rfl, rfl⟩)
    obtain ⟨K, hK⟩ : ∃ K, w.heap.size = K := ⟨_, rfl⟩
    obtain ⟨w1, hw1⟩ : ∃ w1, w.alloc (.cells #[.bool false] 4) = w1 := ⟨_, rfl⟩
    obtain ⟨w2, hw2⟩ : ∃ w2, w1.alloc (.cells #[.string (strOf L)] 9) = w2 := ⟨_, rfl⟩
    obtain ⟨w3, hw3⟩ : ∃ w3, w2.alloc (.cells #[.string ⟨#[46]⟩] 9) = w3 := ⟨_, rfl⟩
    obtain ⟨w4, hw4⟩ : ∃ w4, w3.alloc (.cells #[.int .i64 0] 3) = w4 := ⟨_, rfl⟩
    rw [hw1, hw2, hw3, hw4, hK]
    have s1 : w1.heap.size = K + 1 := by rw [← hw1, World.size_alloc, hK]
    have s2 : w2.heap.size = K + 2 := by rw [← hw2, World.size_alloc, s1]
    have s3 : w3.heap.size = K + 3 := by rw [← hw3, World.size_alloc, s2]
    have s4 : w4.heap.size = K + 4 := by rw [← hw4, World.size_alloc, s3]
    have c1 := cell_made w (.bool false) 4
    have c2 := cell_made w1 (.string (strOf L)) 9
    have c3 := cell_made w2 (.string ⟨#[46]⟩) 9
    have c4 := cell_made w3 (.int .i64 0) 3
    rw [hw1, hK] at c1
    rw [hw2, s1] at c2
    rw [hw3, s2] at c3
    rw [hw4, s3] at c4
    have b1 : Below K w w1 := by rw [← hw1]; exact (Below.refl K w).alloc (by omega) _
    have b2 : Below (K + 1) w1 w2 := by rw [← hw2]; exact (Below.refl _ w1).alloc (by omega) _
    have b3 : Below (K + 2) w2 w3 := by rw [← hw3]; exact (Below.refl _ w2).alloc (by omega) _
    have b4 : Below (K + 3) w3 w4 := by rw [← hw4]; exact (Below.refl _ w3).alloc (by omega) _
    have b34 : Below (K + 2) w2 w4 := b3.trans (b4.mono (by omega))
    have b24 : Below (K + 1) w1 w4 := b2.trans (b34.mono (by omega))
    have HB := Lib.hid (b1.trans (b24.mono (by omega)))
    have hp0 := (b24.cell (p := ⟨K, 0, none⟩) (show K < K + 1 by omega)).trans c1.1
    have hp1 := (b24.frozen (p := ⟨K, 0, none⟩) (show K < K + 1 by omega)).trans c1.2
    refine range_seq (n := 6) (bs := K + 1) (by omega) L HL.out rfl (by omega) ((b34.cell (p := ⟨K + 1, 0, none⟩) (show K + 1 < K + 2 by omega)).trans c2.1) ((b34.frozen (p := ⟨K + 1, 0, none⟩) (show K + 1 < K + 2 by omega)).trans c2.2)
      ((b4.cell (p := ⟨K + 2, 0, none⟩) (show K + 2 < K + 3 by omega)).trans c3.1) c4.1
      (fun pre W => (∀ y ∈ pre, lbl y = true) ∧ W.cell? ⟨K, 0, none⟩ = some (.bool false) ∧ W.frozen? ⟨K, 0, none⟩ = false ∧ Below K w W)
      (fun W => dnsB L = false ∧ W.cell? ⟨K, 0, none⟩ = some (.bool false) ∧ Below K w W)
      (fun pre {W W'} ⟨i1, i2, i3, i4⟩ hb => ⟨i1, (hb.cell (p := ⟨K, 0, none⟩) (show K < K + 1 by omega)).trans i2, (hb.frozen (p := ⟨K, 0, none⟩) (show K < K + 1 by omega)).trans i3, i4.trans (hb.mono (by omega))⟩)
      (fun {W W'} ⟨i1, i2, i4⟩ hb => ⟨i1, (hb.cell (p := ⟨K, 0, none⟩) (show K < K + 1 by omega)).trans i2, i4.trans (hb.mono (by omega))⟩)
      ⟨fun y hy => by simp at hy, hp0, hp1, HB.out⟩
      (fun x => { tmps := #[.string (strOf L), undef, .pointer (some ⟨K, 0, none⟩), .string (strOf x), .string (strOf L), .int .i64 (L.length : Int), .bool false, .string (strOf L),
          .func (.func 213) #[] #[.pointer (some ⟨K + 1 + 1, 0, none⟩), .pointer (some ⟨K + 1, 0, none⟩), .pointer (some ⟨K + 1 + 2, 0, none⟩)], .string (strOf x), undef, undef, undef], defers := [] }) ?assign ?body ?done ?stop
    case assign =>
      intro l x W KK hKK
      gi_wp2
      exact hKK
    case body =>
      rintro l pre x rest W ⟨i1, i2, i3, i4⟩ hpc
      have hm : x ∈ pcsL 46 L := by rw [hpc]; simp
      have hx : x.length ≤ 150000 := Nat.le_trans (pcs_short hm) HL.out
      have I1 := Lib.hid i1
      have I4 := Lib.hid i4
      have HM := Lib.hid hm
      clear i1 i4 hpc hm
      cases hlb : lbl x with
      | true =>
        have HC := Lib.hid (fun w => plabel_is hlb hx w)
        have HLB := Lib.hid hlb
        clear hlb
        gi_wp2_with (refine ⟨trivial, ?_⟩; gi_at_call 149; (with_reducible refine (CallsIn.inRound l (callsIn_wide.2 (HC.out _))).mono ?_); rintro e w5 ⟨rfl, rfl⟩)
        refine ⟨KeepsOthers.refl _, Below.refl _ _, fun y hy => ?_, i2, i3, I4.out⟩
        rcases List.mem_append.1 hy with h | h
        · exact I1.out y h
        · rw [List.mem_singleton.1 h]; exact HLB.out
      | false =>
        have HC := Lib.hid (fun w => plabel_is hlb hx w)
        have HF := Lib.hid (show dnsB L = false by
          rw [HD.out, Bool.eq_false_iff]
          intro k
          have := List.all_eq_true.1 k x HM.out
          rw [hlb] at this
          cases this)
        clear hlb
        gi_wp2_with (refine ⟨trivial, ?_⟩; gi_at_call 149; (with_reducible refine (CallsIn.inRound l (callsIn_wide.2 (HC.out _))).mono ?_); rintro e w5 ⟨rfl, rfl⟩)
        exact ⟨KeepsOthers.setCell _ _ _, HF.out, World.cell?_setCell_same _ _ _ i2, I4.out.setCell (p := ⟨K, 0, none⟩) (Nat.le_refl _) _⟩
    case done =>
      rintro W ⟨i1, i2, i3, i4⟩ hd
      have HE := Lib.hid (show dnsB L = true by rw [HD.out]; exact List.all_eq_true.2 i1)
      have I4 := Lib.hid i4
      have HDD := Lib.hid hd
      have hd' := (KeepsOthers.setCell W ⟨K, 0, none⟩ (.bool true)).same _ _ hd rfl
      have hc := World.cell?_setCell_same W ⟨K, 0, none⟩ (.bool true) i2
      have HC := Lib.hid ((put_low (b := K + 1) (k := K + 1 + 3) (by omega) _ (.deferred none)).cell (p := ⟨K, 0, none⟩) (show K < K + 1 by omega) |>.trans hc)
      have HT := Lib.hid (run_takeDeferred (P := Tryz.prog) hd')
      clear i1 i4 hd hd' hc
      gi_wp2
      refine ⟨by simp, .inl ⟨_, _, rfl, HT.out, ?_⟩⟩
      refine ⟨.bool true, ?_, by rw [HE.out], by rw [hK]; exact put_lowest (I4.out.setCell (p := ⟨K, 0, none⟩) (Nat.le_refl _) _) (by omega) _⟩
      have hc := HC.out
      simp [results, Tryz.f113, go_sem, hc]
    case stop =>
      rintro W ⟨i1, i2, i4⟩ hd
      have HE := Lib.hid i1
      have I4 := Lib.hid i4
      have HC := Lib.hid ((put_low (b := K + 1) (k := K + 1 + 3) (by omega) W (.deferred none)).cell (p := ⟨K, 0, none⟩) (show K < K + 1 by omega) |>.trans i2)
      have HT := Lib.hid (run_takeDeferred (P := Tryz.prog) hd)
      clear i1 i4 i2 hd
      gi_wp2
      refine ⟨by simp, .inl ⟨_, _, rfl, HT.out, ?_⟩⟩
      refine ⟨.bool false, ?_, by rw [HE.out], by rw [hK]; exact put_lowest I4.out (by omega) _⟩
      have hc := HC.out
      simp [results, Tryz.f113, go_sem, hc]
end Go.Proofs.YtflpajbcomhkpaaGreatDoor
namespace Go.Proofs.YtflpajbcomhkpaaGreatDoor
open Go.RowKit

def Asc (l : List UInt8) : Prop := ∀ c ∈ l, c.toNat < 128
theorem Asc.at {l : List UInt8} (h : Asc l) (j : Nat) (b : UInt8) (e : l[j]? = some b) : b.toNat < 128 := h b (List.mem_of_getElem? e)
theorem Asc.drop {l : List UInt8} (h : Asc l) (k : Nat) : Asc (l.drop k) := fun c hc => h c (List.mem_of_mem_drop hc)
theorem Asc.take {l : List UInt8} (h : Asc l) (k : Nat) : Asc (l.take k) := fun c hc => h c (List.mem_of_mem_take hc)
theorem Asc.cons {c : UInt8} {l : List UInt8} (hc : c.toNat < 128) (h : Asc l) : Asc (c :: l) := fun x hx => by
  rcases List.mem_cons.1 hx with rfl | hx
  · exact hc
  · exact h x hx
theorem fold_small (x y : UInt8) : Lib.foldEq x y = decide (small x = small y) := by
  unfold Lib.foldEq
  rw [decide_eq_decide]
  by_cases hx : 65 ≤ x.toNat ∧ x.toNat ≤ 90 <;> by_cases hy : 65 ≤ y.toNat ∧ y.toNat ≤ 90
  · rw [← UInt8.toNat_inj, small_big hx, small_big hy]; omega
  · rw [← UInt8.toNat_inj, small_big hx, small_low hy]; omega
  · rw [← UInt8.toNat_inj, small_low hx, small_big hy]; omega
  · rw [← UInt8.toNat_inj, small_low hx, small_low hy]; omega
theorem fold_alike : ∀ (a b : List UInt8), Lib.equalFold a b = alikeB a b
  | [], [] => rfl
  | [], _ :: _ => by unfold alikeB; rw [decide_eq_false (fun h => by cases h)]; rfl
  | _ :: _, [] => by unfold alikeB; rw [decide_eq_false (fun h => by cases h)]; rfl
  | x :: s, y :: t => by
    have ih := fold_alike s t
    show (Lib.foldEq x y && Lib.equalFold s t) = alikeB (x :: s) (y :: t)
    rw [ih, fold_small]
    unfold alikeB lowL
    rw [List.map_cons, List.map_cons, Bool.eq_iff_iff, Bool.and_eq_true, decide_eq_true_iff, decide_eq_true_iff, decide_eq_true_iff, List.cons.injEq]

theorem peq_any (a b : List UInt8) (ha : a.length ≤ 150000) (aa : Asc a) (ab : Asc b) (w : World) :
    Calls Tryz.prog 115 #[.string (strOf a), .string (strOf b)] w fun e w' => e = .returned (.bool (alikeB a b)) ∧ w' = w := by
  have h : ∀ w, Calls Tryz.prog 151 #[.string (strOf a), .string (strOf b)] w fun e w' => e = .returned (.bool (Lib.equalFold a b)) ∧ w' = w :=
    fun w => Any.strings_EqualFold lays164 (strOf a) (strOf b) w (by rw [strOf_size]; omega) (by rw [strOf_list]; exact aa.at) (by rw [strOf_list]; exact ab.at)
  rw [fold_alike] at h
  have H := Lib.hid h
  clear h aa ab
  go_enter Tryz.func115, Tryz.ntmps115
  go_wp2_with (go_at_call 151; (with_reducible refine (H.out _).mono ?_); rintro e w1 ⟨rfl, rfl⟩)
  go_ret
  exact ⟨rfl, rfl⟩
/-! ### What holds letters of ASCII alone -/
theorem lblB_asc {c : UInt8} (h : lblB c = true) : c.toNat < 128 := by
  unfold lblB alnum at h
  simp only [Bool.or_eq_true, decide_eq_true_eq, beq_iff_eq] at h
  rcases h with (h | h | h) | h
  · omega
  · omega
  · omega
  · rw [h]; decide
theorem lbl_asc {p : List UInt8} (h : lbl p = true) : Asc p := by
  rw [lbl_def] at h
  simp only [Bool.and_eq_true] at h
  exact fun c hc => lblB_asc (List.all_eq_true.1 h.2 c hc)
theorem join_asc {c : UInt8} (hc : c.toNat < 128) : ∀ {ps : List (List UInt8)}, (∀ p ∈ ps, Asc p) → Asc (Lib.join ps [c])
  | [], _ => fun x hx => by simp [Lib.join] at hx
  | [p], h => by rw [Lib.join_one]; exact h p (by simp)
  | p :: q :: r, h => by
    rw [join_two]
    intro x hx
    rcases List.mem_append.1 hx with hx | hx
    · exact h p (by simp) x hx
    · rcases List.mem_cons.1 hx with rfl | hx
      · exact hc
      · exact join_asc hc (ps := q :: r) (fun y hy => h y (by simp [List.mem_cons.1 hy])) x hx
theorem dns_asc {L : List UInt8} (h : dnsB L = true) : Asc L := by
  unfold dnsB at h
  rw [Bool.and_eq_true] at h
  have := join_asc (c := 46) (by decide) (ps := pcsL 46 L) (fun p hp => lbl_asc (List.all_eq_true.1 h.2 p hp))
  rwa [(pcsL_spl 46 L).2.1] at this
end Go.Proofs.YtflpajbcomhkpaaGreatDoor
namespace Go.Proofs.YtflpajbcomhkpaaGreatDoor
open Go.RowKit

def ctK (c : UInt8) (l : List UInt8) : Nat := (l.takeWhile (fun x => x != c)).length
theorem ctK_cons (c x : UInt8) (l : List UInt8) : ctK c (x :: l) = if x = c then 0 else ctK c l + 1 := by
  unfold ctK
  by_cases h : x = c
  · rw [if_pos h, List.takeWhile_cons, if_neg (by simp [h])]
    rfl
  · rw [if_neg h, List.takeWhile_cons, if_pos (by simp [h])]
    rfl
theorem ctK_miss {c : UInt8} : ∀ {l : List UInt8}, c ∉ l → ctK c l = l.length
  | [], _ => rfl
  | x :: l, h => by
    rw [ctK_cons, if_neg (fun e => h (by simp [e])), ctK_miss (fun m => h (by simp [m]))]
    rfl
theorem ctK_at {c : UInt8} {r : List UInt8} : ∀ {p : List UInt8}, c ∉ p → ctK c (p ++ c :: r) = p.length
  | [], _ => by
    rw [List.nil_append, ctK_cons, if_pos rfl]
    rfl
  | x :: p, h => by
    rw [List.cons_append, ctK_cons, if_neg (fun e => h (by simp [e])), ctK_at (fun m => h (by simp [m]))]
    rfl
theorem ctK_hit {c : UInt8} {l : List UInt8} {i : Nat} (h : Lib.indexByte l c = i) (hi : i < l.length) : ctK c l = i := by
  obtain ⟨e1, e2⟩ := first_cut h
  conv => lhs; rw [e1]
  rw [ctK_at e2, List.length_take]
  omega
theorem ctK_le (c : UInt8) (l : List UInt8) : ctK c l ≤ l.length := by
  rcases index_cases l c with ⟨_, h⟩ | ⟨i, h, hi⟩
  · rw [ctK_miss h]; exact Nat.le_refl _
  · rw [ctK_hit h hi]; omega
theorem firstK_ct (s : List UInt8) : firstK s = ctK 46 s := by
  unfold firstK
  rcases index_cases s 46 with ⟨_, h⟩ | ⟨i, h, hi⟩
  · rw [pcs_last h, ctK_miss h]; rfl
  · rw [pcs_more h, ctK_hit h hi]
    show (s.take i).length = i
    rw [List.length_take]; omega
set_option maxRecDepth 100000 in
set_option maxHeartbeats 1000000 in
theorem pcut_hit (L : List UInt8) (c : UInt8) (i : Nat) (h : Lib.indexByte L c = i) (hi : i < L.length) (hL : L.length ≤ 1000000) (w : World) :
    Calls Tryz.prog 150 #[.string (strOf L), .string ⟨#[c]⟩] w fun e w' => e = .returned (.tuple #[.string (strOf (L.take i)), .string (strOf (L.drop (i + 1))), .bool true]) ∧ Below w.heap.size w w' := by
  have hx := fun w => index_byte (strOf L) c w
  rw [strOf_list, h] at hx
  have HX := Lib.hid hx
  have es := strOf_size L
  have c1 : (0 : Int) ≤ (i : Int) := by omega
  have c2 : (i : Int) ≤ (L.length : Int) := by omega
  have c3 : (i : Int) + 1 ≤ (L.length : Int) := by omega
  have d0 : decide ((0 : Int) ≤ (i : Int)) = true := by simp
  have hw1 : wrap64 ((i : Int) + 1) = (i : Int) + 1 := by unfold wrap64; omega
  have hs1 := slice_front L i (by omega)
  have hs2 := slice_back L (i + 1) (by omega) ((i : Int) + 1) (by omega)
  generalize L.take i = A at hs1
  generalize L.drop (i + 1) = B at hs2
  clear hx h
  go_enter Tryz.func150, Tryz.ntmps150
  go_wp2_with (go_at_call 187; (with_reducible refine (HX.out _).mono ?_); rintro e w1 ⟨rfl, rfl⟩)
  go_region_o
  go_wp2
  go_ret3
  exact ⟨rfl, (Below.refl _ _).drew⟩
set_option maxRecDepth 100000 in
set_option maxHeartbeats 1000000 in
theorem pcut_miss (L : List UInt8) (c : UInt8) (h : Lib.indexByte L c = -1) (w : World) :
    Calls Tryz.prog 150 #[.string (strOf L), .string ⟨#[c]⟩] w fun e w' => e = .returned (.tuple #[.string (strOf L), .string ⟨#[]⟩, .bool false]) ∧ Below w.heap.size w w' := by
  have hx := fun w => index_byte (strOf L) c w
  rw [strOf_list, h] at hx
  have HX := Lib.hid hx
  clear hx h
  go_enter Tryz.func150, Tryz.ntmps150
  go_wp2_with (go_at_call 187; (with_reducible refine (HX.out _).mono ?_); rintro e w1 ⟨rfl, rfl⟩)
  go_ret3
  exact ⟨rfl, Below.refl _ _⟩
theorem pcutl_any (L : List UInt8) (c : UInt8) (hL : L.length ≤ 1000000) (w : World) :
    Calls Tryz.prog 150 #[.string (strOf L), .string ⟨#[c]⟩] w fun e w' =>
      e = .returned (.tuple #[.string (strOf (L.take (ctK c L))), .string (strOf (L.drop (ctK c L + 1))), .bool (decide (ctK c L < L.length))]) ∧ Below w.heap.size w w' := by
  rcases index_cases L c with ⟨h, hno⟩ | ⟨i, h, hi⟩
  · rw [ctK_miss hno, List.take_length, List.drop_eq_nil_of_le (by omega), decide_eq_false (by omega)]
    exact pcut_miss L c h w
  · rw [ctK_hit h hi, decide_eq_true hi]
    exact pcut_hit L c i h hi hL w
set_option maxRecDepth 100000 in
theorem pcut_any (L : List UInt8) (c : UInt8) (hL : L.length ≤ 1000000) (w : World) :
    Calls Tryz.prog 114 #[.string (strOf L), .string ⟨#[c]⟩] w fun e w' =>
      e = .returned (.tuple #[.string (strOf (L.take (ctK c L))), .string (strOf (L.drop (ctK c L + 1))), .bool (decide (ctK c L < L.length))]) ∧ Below w.heap.size w w' := by
  have HC := Lib.hid (fun w => pcutl_any L c hL w)
  generalize L.take (ctK c L) = A at HC
  generalize L.drop (ctK c L + 1) = B at HC
  generalize decide (ctK c L < L.length) = b at HC
  go_enter Tryz.func114, Tryz.ntmps114
  go_wp2_with (go_at_call 150; (with_reducible refine (HC.out _).mono ?_); rintro e w1 ⟨rfl, hb⟩; have HB := Lib.hid hb; clear hb)
  go_ret3
  exact ⟨rfl, HB.out⟩

theorem pstar_yes (r : List UInt8) (w : World) : Calls Tryz.prog 94 #[.string (strOf (42 :: 46 :: r)), .string ⟨#[42, 46]⟩] w fun e w' => e = .returned (.tuple #[.string (strOf r), .bool true]) ∧ w' = w := by
  have h := Any.strings_CutPrefix lays103 (strOf (42 :: 46 :: r)) ⟨#[42, 46]⟩ w
  have e1 : Lib.hasPrefix (strOf (42 :: 46 :: r)).data.toList (⟨#[42, 46]⟩ : ByteArray).data.toList = true := by rw [strOf_list]; rfl
  have e2 : Lib.trimPrefix (strOf (42 :: 46 :: r)).data.toList (⟨#[42, 46]⟩ : ByteArray).data.toList = r := by unfold Lib.trimPrefix; rw [if_pos e1, strOf_list]; rfl
  rw [e1, e2] at h
  exact h
theorem pstar_no {L : List UInt8} (hn : ∀ r, L ≠ 42 :: 46 :: r) (w : World) : Calls Tryz.prog 94 #[.string (strOf L), .string ⟨#[42, 46]⟩] w fun e w' => e = .returned (.tuple #[.string (strOf L), .bool false]) ∧ w' = w := by
  have h := Any.strings_CutPrefix lays103 (strOf L) ⟨#[42, 46]⟩ w
  have e1 : Lib.hasPrefix (strOf L).data.toList (⟨#[42, 46]⟩ : ByteArray).data.toList = false := by
    rw [strOf_list, Bool.eq_false_iff]
    intro k
    obtain ⟨r, hr⟩ := List.isPrefixOf_iff_prefix.1 k
    exact hn r hr.symm
  have e2 : Lib.trimPrefix (strOf L).data.toList (⟨#[42, 46]⟩ : ByteArray).data.toList = L := by unfold Lib.trimPrefix; rw [if_neg (by rw [e1]; simp), strOf_list]
  rw [e1, e2] at h
  exact h
theorem pdot_yes (r : List UInt8) (w : World) : Calls Tryz.prog 195 #[.string (strOf (46 :: r)), .string ⟨#[46]⟩] w fun e w' => e = .returned (.string (strOf r)) ∧ w' = w := by
  have h := Any.strings_TrimPrefix lays101 (strOf (46 :: r)) ⟨#[46]⟩ w
  have e1 : Lib.hasPrefix (strOf (46 :: r)).data.toList (⟨#[46]⟩ : ByteArray).data.toList = true := by rw [strOf_list]; rfl
  have e2 : Lib.trimPrefix (strOf (46 :: r)).data.toList (⟨#[46]⟩ : ByteArray).data.toList = r := by unfold Lib.trimPrefix; rw [if_pos e1, strOf_list]; rfl
  rw [e2] at h
  exact h
theorem pdot_no {L : List UInt8} (hn : L.head? ≠ some 46) (w : World) : Calls Tryz.prog 195 #[.string (strOf L), .string ⟨#[46]⟩] w fun e w' => e = .returned (.string (strOf L)) ∧ w' = w := by
  have h := Any.strings_TrimPrefix lays101 (strOf L) ⟨#[46]⟩ w
  have e1 : Lib.hasPrefix (strOf L).data.toList (⟨#[46]⟩ : ByteArray).data.toList = false := by
    rw [strOf_list, Bool.eq_false_iff]
    intro k
    obtain ⟨r, hr⟩ := List.isPrefixOf_iff_prefix.1 k
    exact hn (by rw [← hr]; rfl)
  have e2 : Lib.trimPrefix (strOf L).data.toList (⟨#[46]⟩ : ByteArray).data.toList = L := by unfold Lib.trimPrefix; rw [if_neg (by rw [e1]; simp), strOf_list]
  rw [e2] at h
  exact h
theorem phas_dot (L : List UInt8) (w : World) : Calls Tryz.prog 147 #[.string (strOf L), .string ⟨#[46]⟩] w fun e w' => e = .returned (.bool (L.contains 46)) ∧ w' = w := by
  rw [idx_has]
  exact Any.strings_Contains_one lays144 (strOf L) 46 w
theorem ppre_dot (L : List UInt8) (w : World) : Calls Tryz.prog 221 #[.string (strOf L), .string ⟨#[46]⟩] w fun e w' => e = .returned (.bool (L.head? == some 46)) ∧ w' = w := by
  have h := Any.strings_HasPrefix lays99 (strOf L) ⟨#[46]⟩ w
  have e1 : Lib.hasPrefix (strOf L).data.toList (⟨#[46]⟩ : ByteArray).data.toList = (L.head? == some 46) := by
    rw [strOf_list]
    cases L with
    | nil => rfl
    | cons x r =>
      show (List.isPrefixOf [46] (x :: r)) = _
      rw [Bool.eq_iff_iff, List.isPrefixOf_iff_prefix, beq_iff_eq]
      constructor
      · rintro ⟨q, hq⟩
        rw [← hq]
        rfl
      · intro k
        have k2 : x = 46 := Option.some.inj k
        rw [k2]
        exact ⟨r, rfl⟩
  rw [e1] at h
  exact h
theorem psuf_dot (L : List UInt8) (hL : L.length ≤ 1000000) (w : World) : Calls Tryz.prog 222 #[.string (strOf L), .string ⟨#[46]⟩] w fun e w' => e = .returned (.bool (L.getLast? == some 46)) ∧ w' = w := by
  have h := Any.strings_HasSuffix lays100 (strOf L) ⟨#[46]⟩ w (by rw [strOf_size]; omega)
  have e1 : Lib.hasSuffix (strOf L).data.toList (⟨#[46]⟩ : ByteArray).data.toList = (L.getLast? == some 46) := by
    rw [strOf_list]
    show (List.isSuffixOf [46] L) = _
    rw [Bool.eq_iff_iff, List.isSuffixOf_iff_suffix, beq_iff_eq]
    constructor
    · rintro ⟨p, rfl⟩
      simp
    · intro k
      obtain ⟨p, rfl⟩ := List.getLast?_eq_some_iff.1 k
      exact List.suffix_append _ _
  rw [e1] at h
  exact h
end Go.Proofs.YtflpajbcomhkpaaGreatDoor
namespace Go.Proofs.YtflpajbcomhkpaaGreatDoor
open Go.RowKit

theorem pdns_is {L : List UInt8} {b : Bool} (h : dnsB L = b) (hL : L.length ≤ 150000) (w : World) :
    Calls Tryz.prog 113 #[.string (strOf L)] w fun e w' => e = .returned (.bool b) ∧ Below w.heap.size w w' := by
  have := pdns_any L hL w
  rwa [h] at this
theorem phas_is {L : List UInt8} {b : Bool} (h : L.contains 46 = b) (w : World) : Calls Tryz.prog 147 #[.string (strOf L), .string ⟨#[46]⟩] w fun e w' => e = .returned (.bool b) ∧ w' = w := by
  have := phas_dot L w
  rwa [h] at this
theorem idx_star (r : List UInt8) : Lib.indexByte (42 :: 46 :: r) 46 = ((1 : Nat) : Int) := by simp [Lib.indexByte]
theorem pcs_star (r : List UInt8) : pcsL 46 (42 :: 46 :: r) = [42] :: pcsL 46 r := pcs_more (idx_star r)
theorem dns_star (r : List UInt8) : dnsB (42 :: 46 :: r) = false := by
  unfold dnsB
  rw [pcs_star, List.all_cons, show lbl [42] = false by decide]
  simp
theorem pcs_many (r : List UInt8) : decide (2 < (pcsL 46 (42 :: 46 :: r)).length) = r.contains 46 := by
  rw [pcs_star, List.length_cons]
  by_cases h : (46 : UInt8) ∈ r
  · rw [List.contains_iff_mem.2 h]
    rcases index_cases r 46 with ⟨_, k⟩ | ⟨i, k, _⟩
    · exact absurd h k
    · rw [pcs_more k, List.length_cons]
      have := List.length_pos_iff.2 (pcsL_ne 46 (r.drop (i + 1)))
      simp; omega
  · rw [pcs_last h, show r.contains 46 = false by rw [Bool.eq_false_iff]; exact fun k => h (List.contains_iff_mem.1 k)]
    rfl
theorem dns_nil : dnsB [] = false := by decide +kernel
theorem pat_star (r : List UInt8) : patB (42 :: 46 :: r) = (decide (r.length + 2 ≤ 128) && dnsB r && r.contains 46) := by
  unfold patB
  rw [dns_star, Bool.false_or, pcs_many, show decide ((42 :: 46 :: r : List UInt8).take 2 = [42, 46]) = true from rfl, Bool.and_true]
  show (decide (r.length + 2 ≤ 128) && decide (2 < r.length + 2) && dnsB r && r.contains 46) = _
  cases r with
  | nil => rw [dns_nil]; simp
  | cons x q => rw [show decide (2 < (x :: q).length + 2) = true by simp, Bool.and_true]
theorem pat_plain {L : List UInt8} (h : ∀ r, L ≠ 42 :: 46 :: r) : patB L = dnsB L := by
  have e : decide (L.take 2 = [42, 46]) = false := decide_eq_false fun k => h (L.drop 2) (by
    conv => lhs; rw [← List.take_append_drop 2 L, k]
    rfl)
  unfold patB
  rw [e]
  simp
theorem pat_form (L : List UInt8) : (∃ r, L = 42 :: 46 :: r) ∨ ∀ r, L ≠ 42 :: 46 :: r := by
  by_cases h : ∃ r, L = 42 :: 46 :: r
  · exact .inl h
  · exact .inr fun r e => h ⟨r, e⟩
theorem pat_asc {L : List UInt8} (h : patB L = true) : Asc L := by
  rcases pat_form L with ⟨r, rfl⟩ | hn
  · rw [pat_star] at h
    simp only [Bool.and_eq_true] at h
    exact (Asc.cons (by decide) (Asc.cons (by decide) (dns_asc h.1.2)))
  · rw [pat_plain hn] at h
    exact dns_asc h
set_option maxRecDepth 100000 in
set_option maxHeartbeats 2000000 in
theorem ppat_any (L : List UInt8) (hL : L.length ≤ 150000) (w : World) :
    Calls Tryz.prog 112 #[.string (strOf L)] w fun e w' => e = .returned (.bool (patB L)) ∧ Below w.heap.size w w' := by
  rcases pat_form L with ⟨r, rfl⟩ | hn
  · have es : (strOf (42 :: 46 :: r)).size = r.length + 2 := strOf_size _
    have HS := Lib.hid (fun w => pstar_yes r w)
    have HP := Lib.hid (pat_star r)
    obtain ⟨S, hS⟩ : ∃ S, strOf (42 :: 46 :: r) = S := ⟨_, rfl⟩
    have hr : r.length ≤ 150000 := by have : (42 :: 46 :: r : List UInt8).length = r.length + 2 := rfl; omega
    rw [hS] at HS es ⊢
    by_cases h1 : r.length + 2 ≤ 128
    · have d1 : decide ((r.length : Int) + 2 ≤ 128) = true := by simp; omega
      have d2 : decide (((r.length + 2 : Nat) : Int) ≤ 128) = true := by simp; omega
      have HP2 := Lib.hid (show patB (42 :: 46 :: r) = (dnsB r && r.contains 46) by rw [HP.out, decide_eq_true h1]; rfl)
      cases h2 : dnsB r with
      | true =>
        obtain ⟨b, hb⟩ : ∃ b, r.contains 46 = b := ⟨_, rfl⟩
        have HP3 := Lib.hid (show patB (42 :: 46 :: r) = b by rw [HP2.out, h2, hb]; rfl)
        have HD := Lib.hid (fun w => pdns_is h2 hr w)
        have HC := Lib.hid (fun w => phas_is hb w)
        clear h2 hS hb
        go_enter Tryz.func112, Tryz.ntmps112
        go_wp2_with (first
          | (go_at_call 94; (with_reducible refine (HS.out _).mono ?_); rintro e w1 ⟨rfl, rfl⟩)
          | (go_at_call 113; (with_reducible refine (HD.out _).mono ?_); rintro e w2 ⟨rfl, hb2⟩; have HB2 := Lib.hid hb2; clear hb2)
          | (go_at_call 147; (with_reducible refine (HC.out _).mono ?_); rintro e w3 ⟨rfl, rfl⟩))
        go_ret
        exact ⟨by rw [HP3.out]; rfl, HB2.out⟩
      | false =>
        have HP3 := Lib.hid (show patB (42 :: 46 :: r) = false by rw [HP2.out, h2]; rfl)
        have HD := Lib.hid (fun w => pdns_is h2 hr w)
        clear h2 hS
        go_enter Tryz.func112, Tryz.ntmps112
        go_wp2_with (first
          | (go_at_call 94; (with_reducible refine (HS.out _).mono ?_); rintro e w1 ⟨rfl, rfl⟩)
          | (go_at_call 113; (with_reducible refine (HD.out _).mono ?_); rintro e w2 ⟨rfl, hb2⟩; have HB2 := Lib.hid hb2; clear hb2))
        go_ret
        exact ⟨by rw [HP3.out]; rfl, HB2.out⟩
    · have d1 : decide ((r.length : Int) + 2 ≤ 128) = false := by simp; omega
      have d2 : decide (((r.length + 2 : Nat) : Int) ≤ 128) = false := by simp; omega
      have HP2 := Lib.hid (show patB (42 :: 46 :: r) = false by rw [HP.out, decide_eq_false h1]; rfl)
      clear hS
      go_enter Tryz.func112, Tryz.ntmps112
      go_wp2_with (go_at_call 94; (with_reducible refine (HS.out _).mono ?_); rintro e w1 ⟨rfl, rfl⟩)
      go_ret
      exact ⟨by rw [HP2.out]; rfl, Below.refl _ _⟩
  · have HS := Lib.hid (fun w => pstar_no hn w)
    have HP := Lib.hid (pat_plain hn)
    have HD := Lib.hid (fun w => pdns_any L hL w)
    clear hn
    go_enter Tryz.func112, Tryz.ntmps112
    go_wp2_with (first
      | (go_at_call 94; (with_reducible refine (HS.out _).mono ?_); rintro e w1 ⟨rfl, rfl⟩)
      | (go_at_call 113; (with_reducible refine (HD.out _).mono ?_); rintro e w2 ⟨rfl, hb2⟩; have HB2 := Lib.hid hb2; clear hb2))
    go_ret
    exact ⟨by rw [HP.out]; rfl, HB2.out⟩

set_option maxRecDepth 100000 in
set_option maxHeartbeats 2000000 in
theorem pbase_any (L : List UInt8) (hL : L.length ≤ 150000) (w : World) :
    Calls Tryz.prog 161 #[.string (strOf L)] w fun e w' => e = .returned (.bool (baseB L)) ∧ Below w.heap.size w w' := by
  have HD := Lib.hid (fun w => pdns_any L hL w)
  by_cases h : L = []
  · obtain ⟨hbe, hbp⟩ := empty_is h
    have HE := Lib.hid (show baseB L = true by unfold baseB; rw [decide_eq_true h]; rfl)
    clear h
    go_enter Tryz.func161, Tryz.ntmps161
    go_wp2_with fail
    go_ret
    exact ⟨by rw [HE.out]; rfl, Below.refl _ _⟩
  · obtain ⟨hbe, hbp⟩ := empty_not h
    have HE := Lib.hid (show baseB L = dnsB L by unfold baseB; rw [decide_eq_false h]; rfl)
    clear h
    go_enter Tryz.func161, Tryz.ntmps161
    go_wp2_with (go_at_call 113; (with_reducible refine (HD.out _).mono ?_); rintro e w1 ⟨rfl, hb1⟩; have HB1 := Lib.hid hb1; clear hb1)
    go_ret
    exact ⟨by rw [HE.out]; rfl, HB1.out⟩
theorem ppat_is {L : List UInt8} {b : Bool} (h : patB L = b) (hL : L.length ≤ 150000) (w : World) :
    Calls Tryz.prog 112 #[.string (strOf L)] w fun e w' => e = .returned (.bool b) ∧ Below w.heap.size w w' := by
  have := ppat_any L hL w
  rwa [h] at this
end Go.Proofs.YtflpajbcomhkpaaGreatDoor
namespace Go.Proofs.YtflpajbcomhkpaaGreatDoor
open Go.RowKit

theorem join_each {c : UInt8} {Q : UInt8 → Prop} (hc : Q c) : ∀ {ps : List (List UInt8)}, (∀ p ∈ ps, ∀ x ∈ p, Q x) → ∀ x ∈ Lib.join ps [c], Q x
  | [], _ => fun x hx => by simp [Lib.join] at hx
  | [p], h => by rw [Lib.join_one]; exact h p (by simp)
  | p :: q :: r, h => by
    rw [join_two]
    intro x hx
    rcases List.mem_append.1 hx with hx | hx
    · exact h p (by simp) x hx
    · rcases List.mem_cons.1 hx with rfl | hx
      · exact hc
      · exact join_each hc (ps := q :: r) (fun y hy => h y (by simp [List.mem_cons.1 hy])) x hx
theorem dns_bytes {L : List UInt8} (h : dnsB L = true) : ∀ c ∈ L, lblB c = true ∨ c = 46 := by
  unfold dnsB at h
  rw [Bool.and_eq_true] at h
  have := join_each (c := 46) (Q := fun c => lblB c = true ∨ c = 46) (.inr rfl) (ps := pcsL 46 L) (fun p hp x hx => .inl (by
    have hl := List.all_eq_true.1 h.2 p hp
    rw [lbl_def] at hl
    simp only [Bool.and_eq_true] at hl
    exact List.all_eq_true.1 hl.2 x hx))
  rwa [(pcsL_spl 46 L).2.1] at this
theorem dns_head {L : List UInt8} (h : dnsB L = true) : L.head? ≠ some 42 := by
  cases L with
  | nil => simp
  | cons x r =>
    intro e
    obtain rfl : x = 42 := Option.some.inj e
    rcases dns_bytes h 42 (by simp) with k | k
    · exact absurd k (by decide)
    · exact absurd k (by decide)
theorem ct_at {s : List UInt8} (h : ctK 46 s < s.length) : s.drop (ctK 46 s) = 46 :: s.drop (ctK 46 s + 1) := by
  rcases index_cases s 46 with ⟨_, hno⟩ | ⟨i, hi, hlt⟩
  · rw [ctK_miss hno] at h; omega
  · rw [ctK_hit hi hlt]
    obtain ⟨h1, _⟩ := Lib.indexByte_some hi
    exact drop_cons h1
theorem match_cut {r s : List UInt8} (h1 : patB (42 :: 46 :: r) = true) (h2 : dnsB s = true) : dnsMatchB (42 :: 46 :: r) s = alikeB (s.drop (ctK 46 s + 1)) r := by
  rw [match_star h1 h2 rfl, firstK_ct]
  by_cases h : ctK 46 s < s.length
  · rw [decide_eq_true h, Bool.true_and, ct_at h]
    show alikeB (46 :: _) (46 :: r) = _
    unfold alikeB lowL
    rw [List.map_cons, List.map_cons, Bool.eq_iff_iff, decide_eq_true_iff, decide_eq_true_iff, List.cons.injEq]
    exact ⟨fun h => h.2, fun h => ⟨rfl, h⟩⟩
  · rw [decide_eq_false h, Bool.false_and, List.drop_eq_nil_of_le (by omega)]
    rw [pat_star] at h1
    simp only [Bool.and_eq_true] at h1
    cases r with
    | nil => rw [dns_nil] at h1; exact absurd h1.1.2 (by simp)
    | cons x q => symm; unfold alikeB; rw [decide_eq_false (fun k => by cases k)]

set_option maxRecDepth 100000 in
set_option maxHeartbeats 2000000 in
theorem pmatch_any (a b : List UInt8) (ha : a.length ≤ 150000) (hb : b.length ≤ 150000) (w : World) :
    Calls Tryz.prog 68 #[.string (strOf a), .string (strOf b)] w fun e w' => e = .returned (.bool (dnsMatchB a b)) ∧ Below w.heap.size w w' := by
  cases h1 : patB a with
  | false =>
    have HE := Lib.hid (match_no1 (s := b) h1)
    have HP := Lib.hid (fun w => ppat_is h1 ha w)
    clear h1
    go_enter Tryz.func68, Tryz.ntmps68
    go_wp2_with (go_at_call 112; (with_reducible refine (HP.out _).mono ?_); rintro e w1 ⟨rfl, hb1⟩; have HB1 := Lib.hid hb1; clear hb1)
    go_ret
    exact ⟨by rw [HE.out]; rfl, HB1.out⟩
  | true =>
    have HP := Lib.hid (fun w => ppat_is h1 ha w)
    cases h2 : dnsB b with
    | false =>
      have HE := Lib.hid (match_no2 (p := a) h2)
      have HD := Lib.hid (fun w => pdns_is h2 hb w)
      clear h1 h2
      go_enter Tryz.func68, Tryz.ntmps68
      go_wp2_with (first
        | (go_at_call 112; (with_reducible refine (HP.out _).mono ?_); rintro e w1 ⟨rfl, hb1⟩; have HB1 := Lib.hid hb1; clear hb1)
        | (go_at_call 113; (with_reducible refine (HD.out _).mono ?_); rintro e w2 ⟨rfl, hb2⟩; have HB2 := Lib.hid (below_next HB1.out hb2); clear hb2))
      go_ret
      exact ⟨by rw [HE.out]; rfl, HB2.out⟩
    | true =>
      have HD := Lib.hid (fun w => pdns_is h2 hb w)
      rcases pat_form a with ⟨r, rfl⟩ | hn
      · have HE := Lib.hid (match_cut h1 h2)
        have hr : r.length ≤ 150000 := by have : (42 :: 46 :: r : List UInt8).length = r.length + 2 := rfl; omega
        have ar : Asc r := fun c hc => pat_asc h1 c (by simp [hc])
        have HC := Lib.hid (fun w => pcut_any b 46 (by omega) w)
        have HQ := Lib.hid (fun w => peq_any (b.drop (ctK 46 b + 1)) r (by rw [List.length_drop]; omega) ((dns_asc h2).drop _) ar w)
        have HS := Lib.hid (fun w => pstar_yes r w)
        obtain ⟨S, hS⟩ : ∃ S, strOf (42 :: 46 :: r) = S := ⟨_, rfl⟩
        rw [hS] at HS HP ⊢
        generalize b.take (ctK 46 b) = A at HC
        generalize b.drop (ctK 46 b + 1) = B at HC HQ HE
        generalize decide (ctK 46 b < b.length) = t at HC
        clear h1 h2 ar hS
        go_enter Tryz.func68, Tryz.ntmps68
        go_wp2_with (first
          | (go_at_call 112; (with_reducible refine (HP.out _).mono ?_); rintro e w1 ⟨rfl, hb1⟩; have HB1 := Lib.hid hb1; clear hb1)
          | (go_at_call 113; (with_reducible refine (HD.out _).mono ?_); rintro e w2 ⟨rfl, hb2⟩; have HB2 := Lib.hid (below_next HB1.out hb2); clear hb2)
          | (go_at_call 94; (with_reducible refine (HS.out _).mono ?_); rintro e w3 ⟨rfl, rfl⟩)
          | (go_at_call 114; (with_reducible refine (HC.out _).mono ?_); rintro e w4 ⟨rfl, hb4⟩; have HB4 := Lib.hid (below_next HB2.out hb4); clear hb4)
          | (go_at_call 115; (with_reducible refine (HQ.out _).mono ?_); rintro e w5 ⟨rfl, rfl⟩))
        go_ret
        exact ⟨by rw [HE.out]; rfl, HB4.out⟩
      · have h3 : dnsB a = true := by rw [← pat_plain hn]; exact h1
        have HE := Lib.hid (match_plain h1 h2 (dns_head h3))
        have HS := Lib.hid (fun w => pstar_no hn w)
        have HQ := Lib.hid (fun w => peq_any a b ha (dns_asc h3) (dns_asc h2) w)
        clear h1 h2 h3 hn
        go_enter Tryz.func68, Tryz.ntmps68
        go_wp2_with (first
          | (go_at_call 112; (with_reducible refine (HP.out _).mono ?_); rintro e w1 ⟨rfl, hb1⟩; have HB1 := Lib.hid hb1; clear hb1)
          | (go_at_call 113; (with_reducible refine (HD.out _).mono ?_); rintro e w2 ⟨rfl, hb2⟩; have HB2 := Lib.hid (below_next HB1.out hb2); clear hb2)
          | (go_at_call 94; (with_reducible refine (HS.out _).mono ?_); rintro e w3 ⟨rfl, rfl⟩)
          | (go_at_call 115; (with_reducible refine (HQ.out _).mono ?_); rintro e w5 ⟨rfl, rfl⟩))
        go_ret
        exact ⟨by rw [HE.out]; rfl, HB2.out⟩

end Go.Proofs.YtflpajbcomhkpaaGreatDoor
