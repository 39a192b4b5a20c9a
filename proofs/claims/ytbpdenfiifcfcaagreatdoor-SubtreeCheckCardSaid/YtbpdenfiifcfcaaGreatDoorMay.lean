/-
  The contract of DNS of the program: whether a text is a DNS name.
  The contracts of equal and of ends of the program: whether two ASCII texts differ in case only; whether one ends with the other.
  The contracts of strings.Cut at one byte, of strings.CutPrefix and TrimPrefix and of strings.Contains at one byte.
  The contracts of Pattern, Base, DNSMatch and DNSWithin of the program.
  The contracts of DNSMatch and DNSWithin of the program.
-/
import Derived.Test.YtbpdenfiifcfcaaGreatDoorMax
import Derived.Test.YtbpdenfiifcfcaaGreatDoorMab
import Derived.Test.YtbpdenfiifcfcaaGreatDoorMal
namespace Go.Proofs.YtbpdenfiifcfcaaGreatDoor
open Go.RowKit Go.Shelf
attribute [local go_sem] Oper.semAt_some

theorem piece_le {c : UInt8} : ∀ {ps : List (List UInt8)} {x : List UInt8}, x ∈ ps → x.length ≤ (Lib.join ps [c]).length
  | [], _, h => by simp at h
  | [p], x, h => by
    rw [List.mem_singleton.1 h, Lib.join_one]
    exact Nat.le_refl _
  | p :: q :: r, x, h => by
    rw [join_two, List.length_append, List.length_cons]
    rcases List.mem_cons.1 h with rfl | h
    · omega
    · have := piece_le (c := c) (ps := q :: r) h
      omega
theorem pcs_short {L : List UInt8} {x : List UInt8} (h : x ∈ pcsL 46 L) : x.length ≤ L.length := by
  have := piece_le (c := 46) h
  rwa [(pcsL_spl 46 L).2.1] at this
theorem cell_made (W : World) (v : Value) (t : TypeId) : (W.alloc (.cells #[v] t)).cell? ⟨W.heap.size, 0, none⟩ = some v ∧ (W.alloc (.cells #[v] t)).frozen? ⟨W.heap.size, 0, none⟩ = false := by
  have h := World.alloc_heap_new W (.cells #[v] t)
  constructor
  · unfold World.cell?
    rw [h]
    rfl
  · unfold World.frozen?
    rw [h]
    rfl

set_option maxRecDepth 100000 in
set_option maxHeartbeats 2000000 in
theorem pdns_any (L : List UInt8) (hL : L.length ≤ 150000) (w : World) :
    Calls Tryz.prog 150 #[.string (strOf L)] w fun e w' => e = .returned (.bool (dnsB L)) ∧ Below w.heap.size w w' := by
  have e0 := strOf_size L
  refine (callsIn_wide (n := 6)).1 ?_
  refine callsIn_of_wp_marks Tryz.func150 rfl trivial ?_ rfl
  simp only [Tryz.ntmps150, List.size_toArray, List.length_cons, List.length_nil, Nat.reduceAdd, Nat.reduceSub, Array.replicate_succ, Array.replicate_zero, List.push_toArray, List.append_toArray, List.nil_append, List.cons_append]
  by_cases h : 128 < L.length
  · have d1 : decide ((128 : Int) < (L.length : Int)) = true := by simp; omega
    have HE := Lib.hid (dnsB_long h)
    gi_wp2
    refine ⟨_, ?_, by rw [HE.out], (Below.refl _ w).alloc (Nat.le_refl _) _⟩
    have hc := (cell_made w (.bool false) 4).1
    simp [results, Tryz.f150, go_sem, hc]
  · have d1 : decide ((128 : Int) < (L.length : Int)) = false := by simp; omega
    have HD := Lib.hid (dnsB_all (L := L) (by omega))
    have HL := Lib.hid hL
    have HLE := Lib.hid e0
    gi_wp2_with (refine ⟨trivial, ?_⟩; gi_at_call 172; (with_reducible refine (callsIn_wide.2 (pseq_any L _)).mono ?_); rintro e w1 ⟨rfl, rfl⟩)
    obtain ⟨K, hK⟩ : ∃ K, w.heap.size = K := ⟨_, rfl⟩
    obtain ⟨w1, hw1⟩ : ∃ w1, w.alloc (.cells #[.bool false] 4) = w1 := ⟨_, rfl⟩
    obtain ⟨w2, hw2⟩ : ∃ w2, w1.alloc (.cells #[.string (strOf L)] 9) = w2 := ⟨_, rfl⟩
    obtain ⟨w3, hw3⟩ : ∃ w3, w2.alloc (.cells #[.string ⟨#[46]⟩] 9) = w3 := ⟨_, rfl⟩
    obtain ⟨w4, hw4⟩ : ∃ w4, w3.alloc (.cells #[.int .i64 0] 3) = w4 := ⟨_, rfl⟩
    rw [hw1, hw2, hw3, hw4, hK]
    have s1 : w1.heap.size = K + 1 := by rw [← hw1, World.size_alloc, hK]
    have s2 : w2.heap.size = K + 2 := by rw [← hw2, World.size_alloc, s1]
    have s3 : w3.heap.size = K + 3 := by rw [← hw3, World.size_alloc, s2]
    have s4 : w4.heap.size = K + 4 := by rw [← hw4, World.size_alloc, s3]
    have c1 := cell_made w (.bool false) 4
    have c2 := cell_made w1 (.string (strOf L)) 9
    have c3 := cell_made w2 (.string ⟨#[46]⟩) 9
    have c4 := cell_made w3 (.int .i64 0) 3
    rw [hw1, hK] at c1
    rw [hw2, s1] at c2
    rw [hw3, s2] at c3
    rw [hw4, s3] at c4
    have b1 : Below K w w1 := by rw [← hw1]; exact (Below.refl K w).alloc (by omega) _
    have b2 : Below (K + 1) w1 w2 := by rw [← hw2]; exact (Below.refl _ w1).alloc (by omega) _
    have b3 : Below (K + 2) w2 w3 := by rw [← hw3]; exact (Below.refl _ w2).alloc (by omega) _
    have b4 : Below (K + 3) w3 w4 := by rw [← hw4]; exact (Below.refl _ w3).alloc (by omega) _
    have b34 : Below (K + 2) w2 w4 := b3.trans (b4.mono (by omega))
    have b24 : Below (K + 1) w1 w4 := b2.trans (b34.mono (by omega))
    have HB := Lib.hid (b1.trans (b24.mono (by omega)))
    have hp0 := (b24.cell (p := ⟨K, 0, none⟩) (show K < K + 1 by omega)).trans c1.1
    have hp1 := (b24.frozen (p := ⟨K, 0, none⟩) (show K < K + 1 by omega)).trans c1.2
    refine range_seq (n := 6) (bs := K + 1) (by omega) L HL.out rfl (by omega) ((b34.cell (p := ⟨K + 1, 0, none⟩) (show K + 1 < K + 2 by omega)).trans c2.1) ((b34.frozen (p := ⟨K + 1, 0, none⟩) (show K + 1 < K + 2 by omega)).trans c2.2)
      ((b4.cell (p := ⟨K + 2, 0, none⟩) (show K + 2 < K + 3 by omega)).trans c3.1) c4.1
      (fun pre W => (∀ y ∈ pre, lbl y = true) ∧ W.cell? ⟨K, 0, none⟩ = some (.bool false) ∧ W.frozen? ⟨K, 0, none⟩ = false ∧ Below K w W)
      (fun W => dnsB L = false ∧ W.cell? ⟨K, 0, none⟩ = some (.bool false) ∧ Below K w W)
      (fun pre {W W'} ⟨i1, i2, i3, i4⟩ hb => ⟨i1, (hb.cell (p := ⟨K, 0, none⟩) (show K < K + 1 by omega)).trans i2, (hb.frozen (p := ⟨K, 0, none⟩) (show K < K + 1 by omega)).trans i3, i4.trans (hb.mono (by omega))⟩)
      (fun {W W'} ⟨i1, i2, i4⟩ hb => ⟨i1, (hb.cell (p := ⟨K, 0, none⟩) (show K < K + 1 by omega)).trans i2, i4.trans (hb.mono (by omega))⟩)
      ⟨fun y hy => by simp at hy, hp0, hp1, HB.out⟩
      (fun x => { tmps := #[.string (strOf L), undef, .pointer (some ⟨K, 0, none⟩), .string (strOf x), .string (strOf L), .int .i64 (L.length : Int), .bool false, .string (strOf L),
          .func (.func 226) #[] #[.pointer (some ⟨K + 1 + 1, 0, none⟩), .pointer (some ⟨K + 1, 0, none⟩), .pointer (some ⟨K + 1 + 2, 0, none⟩)], .string (strOf x), undef, undef, undef], defers := [] }) ?assign ?body ?done ?stop
    case assign =>
      intro l x W KK hKK
      gi_wp2
      exact hKK
    case body =>
      rintro l pre x rest W ⟨i1, i2, i3, i4⟩ hpc
      have hm : x ∈ pcsL 46 L := by rw [hpc]; simp
      have hx : x.length ≤ 150000 := Nat.le_trans (pcs_short hm) HL.out
      have I1 := Lib.hid i1
      have I4 := Lib.hid i4
      have HM := Lib.hid hm
      clear i1 i4 hpc hm
      cases hlb : lbl x with
      | true =>
        have HC := Lib.hid (fun w => plabel_is hlb hx w)
        have HLB := Lib.hid hlb
        clear hlb
        gi_wp2_with (refine ⟨trivial, ?_⟩; gi_at_call 173; (with_reducible refine (CallsIn.inRound l (callsIn_wide.2 (HC.out _))).mono ?_); rintro e w5 ⟨rfl, rfl⟩)
        refine ⟨KeepsOthers.refl _, Below.refl _ _, fun y hy => ?_, i2, i3, I4.out⟩
        rcases List.mem_append.1 hy with h | h
        · exact I1.out y h
        · rw [List.mem_singleton.1 h]; exact HLB.out
      | false =>
        have HC := Lib.hid (fun w => plabel_is hlb hx w)
        have HF := Lib.hid (show dnsB L = false by
          rw [HD.out, Bool.eq_false_iff]
          intro k
          have := List.all_eq_true.1 k x HM.out
          rw [hlb] at this
          cases this)
        clear hlb
        gi_wp2_with (refine ⟨trivial, ?_⟩; gi_at_call 173; (with_reducible refine (CallsIn.inRound l (callsIn_wide.2 (HC.out _))).mono ?_); rintro e w5 ⟨rfl, rfl⟩)
        exact ⟨KeepsOthers.setCell _ _ _, HF.out, World.cell?_setCell_same _ _ _ i2, I4.out.setCell (p := ⟨K, 0, none⟩) (Nat.le_refl _) _⟩
    case done =>
      rintro W ⟨i1, i2, i3, i4⟩ hd
      have HE := Lib.hid (show dnsB L = true by rw [HD.out]; exact List.all_eq_true.2 i1)
      have I4 := Lib.hid i4
      have HDD := Lib.hid hd
      have hd' := (KeepsOthers.setCell W ⟨K, 0, none⟩ (.bool true)).same _ _ hd rfl
      have hc := World.cell?_setCell_same W ⟨K, 0, none⟩ (.bool true) i2
      have HC := Lib.hid ((put_low (b := K + 1) (k := K + 1 + 3) (by omega) _ (.deferred none)).cell (p := ⟨K, 0, none⟩) (show K < K + 1 by omega) |>.trans hc)
      have HT := Lib.hid (run_takeDeferred (P := Tryz.prog) hd')
      clear i1 i4 hd hd' hc
      gi_wp2
      refine ⟨by simp, .inl ⟨_, _, rfl, HT.out, ?_⟩⟩
      refine ⟨.bool true, ?_, by rw [HE.out], by rw [hK]; exact put_lowest (I4.out.setCell (p := ⟨K, 0, none⟩) (Nat.le_refl _) _) (by omega) _⟩
      have hc := HC.out
      simp [results, Tryz.f150, go_sem, hc]
    case stop =>
      rintro W ⟨i1, i2, i4⟩ hd
      have HE := Lib.hid i1
      have I4 := Lib.hid i4
      have HC := Lib.hid ((put_low (b := K + 1) (k := K + 1 + 3) (by omega) W (.deferred none)).cell (p := ⟨K, 0, none⟩) (show K < K + 1 by omega) |>.trans i2)
      have HT := Lib.hid (run_takeDeferred (P := Tryz.prog) hd)
      clear i1 i4 i2 hd
      gi_wp2
      refine ⟨by simp, .inl ⟨_, _, rfl, HT.out, ?_⟩⟩
      refine ⟨.bool false, ?_, by rw [HE.out], by rw [hK]; exact put_lowest I4.out (by omega) _⟩
      have hc := HC.out
      simp [results, Tryz.f150, go_sem, hc]
end Go.Proofs.YtbpdenfiifcfcaaGreatDoor
namespace Go.Proofs.YtbpdenfiifcfcaaGreatDoor
open Go.RowKit

def Asc (l : List UInt8) : Prop := ∀ c ∈ l, c.toNat < 128
theorem Asc.at {l : List UInt8} (h : Asc l) (j : Nat) (b : UInt8) (e : l[j]? = some b) : b.toNat < 128 := h b (List.mem_of_getElem? e)
theorem Asc.drop {l : List UInt8} (h : Asc l) (k : Nat) : Asc (l.drop k) := fun c hc => h c (List.mem_of_mem_drop hc)
theorem Asc.take {l : List UInt8} (h : Asc l) (k : Nat) : Asc (l.take k) := fun c hc => h c (List.mem_of_mem_take hc)
theorem Asc.cons {c : UInt8} {l : List UInt8} (hc : c.toNat < 128) (h : Asc l) : Asc (c :: l) := fun x hx => by
  rcases List.mem_cons.1 hx with rfl | hx
  · exact hc
  · exact h x hx
theorem fold_small (x y : UInt8) : Lib.foldEq x y = decide (small x = small y) := by
  unfold Lib.foldEq
  rw [decide_eq_decide]
  by_cases hx : 65 ≤ x.toNat ∧ x.toNat ≤ 90 <;> by_cases hy : 65 ≤ y.toNat ∧ y.toNat ≤ 90
  · rw [← UInt8.toNat_inj, small_big hx, small_big hy]; omega
  · rw [← UInt8.toNat_inj, small_big hx, small_low hy]; omega
  · rw [← UInt8.toNat_inj, small_low hx, small_big hy]; omega
  · rw [← UInt8.toNat_inj, small_low hx, small_low hy]; omega
theorem fold_alike : ∀ (a b : List UInt8), Lib.equalFold a b = alikeB a b
  | [], [] => rfl
  | [], _ :: _ => by unfold alikeB; rw [decide_eq_false (fun h => by cases h)]; rfl
  | _ :: _, [] => by unfold alikeB; rw [decide_eq_false (fun h => by cases h)]; rfl
  | x :: s, y :: t => by
    have ih := fold_alike s t
    show (Lib.foldEq x y && Lib.equalFold s t) = alikeB (x :: s) (y :: t)
    rw [ih, fold_small]
    unfold alikeB lowL
    rw [List.map_cons, List.map_cons, Bool.eq_iff_iff, Bool.and_eq_true, decide_eq_true_iff, decide_eq_true_iff, decide_eq_true_iff, List.cons.injEq]

theorem peq_any (a b : List UInt8) (ha : a.length ≤ 150000) (aa : Asc a) (ab : Asc b) (w : World) :
    Calls Tryz.prog 141 #[.string (strOf a), .string (strOf b)] w fun e w' => e = .returned (.bool (alikeB a b)) ∧ w' = w := by
  have h : ∀ w, Calls Tryz.prog 165 #[.string (strOf a), .string (strOf b)] w fun e w' => e = .returned (.bool (Lib.equalFold a b)) ∧ w' = w :=
    fun w => Any.strings_EqualFold lays164 (strOf a) (strOf b) w (by rw [strOf_size]; omega) (by rw [strOf_list]; exact aa.at) (by rw [strOf_list]; exact ab.at)
  rw [fold_alike] at h
  have H := Lib.hid h
  clear h aa ab
  go_enter Tryz.func141, Tryz.ntmps141
  go_wp2_with (go_at_call 165; (with_reducible refine (H.out _).mono ?_); rintro e w1 ⟨rfl, rfl⟩)
  go_ret
  exact ⟨rfl, rfl⟩
set_option maxRecDepth 100000 in
set_option maxHeartbeats 1000000 in
theorem pends_any (s t : List UInt8) (hs : s.length ≤ 150000) (ht : t.length ≤ 1000000) (hs1 : Asc s) (ht1 : Asc t) (w : World) :
    Calls Tryz.prog 142 #[.string (strOf s), .string (strOf t)] w fun e w' => e = .returned (.bool (endsB s t)) ∧ w' = w := by
  have e1 := strOf_size s
  have e2 := strOf_size t
  by_cases h : t.length ≤ s.length
  · have d0 : decide ((0 : Int) ≤ (s.length : Int) - (t.length : Int)) = true := by simp; omega
    have hw : wrap64 ((s.length : Int) - (t.length : Int)) = (s.length : Int) - (t.length : Int) := by unfold wrap64; omega
    have hsl := slice_back s (s.length - t.length) (by omega) ((s.length : Int) - (t.length : Int)) (by omega)
    have HR := Lib.hid (show endsB s t = alikeB (s.drop (s.length - t.length)) t by unfold endsB; rw [decide_eq_true h, Bool.true_and])
    have HQ := Lib.hid (fun w => peq_any (s.drop (s.length - t.length)) t (by rw [List.length_drop]; omega) (hs1.drop _) ht1 w)
    generalize s.drop (s.length - t.length) = r at hsl HR HQ
    clear hs1 ht1
    go_enter Tryz.func142, Tryz.ntmps142
    go_wp2_with (go_at_call 141; (with_reducible refine (HQ.out _).mono ?_); rintro e w1 ⟨rfl, rfl⟩)
    go_ret
    exact ⟨by rw [HR.out]; rfl, rfl⟩
  · have d0 : decide ((0 : Int) ≤ (s.length : Int) - (t.length : Int)) = false := by simp; omega
    have hw : wrap64 ((s.length : Int) - (t.length : Int)) = (s.length : Int) - (t.length : Int) := by unfold wrap64; omega
    have HR := Lib.hid (show endsB s t = false by unfold endsB; rw [decide_eq_false h, Bool.false_and])
    clear hs1 ht1
    go_enter Tryz.func142, Tryz.ntmps142
    go_wp2_with fail
    go_ret
    exact ⟨by rw [HR.out]; rfl, rfl⟩

/-! ### What holds letters of ASCII alone -/
theorem lblB_asc {c : UInt8} (h : lblB c = true) : c.toNat < 128 := by
  unfold lblB alnum at h
  simp only [Bool.or_eq_true, decide_eq_true_eq, beq_iff_eq] at h
  rcases h with (h | h | h) | h
  · omega
  · omega
  · omega
  · rw [h]; decide
theorem lbl_asc {p : List UInt8} (h : lbl p = true) : Asc p := by
  rw [lbl_def] at h
  simp only [Bool.and_eq_true] at h
  exact fun c hc => lblB_asc (List.all_eq_true.1 h.2 c hc)
theorem join_asc {c : UInt8} (hc : c.toNat < 128) : ∀ {ps : List (List UInt8)}, (∀ p ∈ ps, Asc p) → Asc (Lib.join ps [c])
  | [], _ => fun x hx => by simp [Lib.join] at hx
  | [p], h => by rw [Lib.join_one]; exact h p (by simp)
  | p :: q :: r, h => by
    rw [join_two]
    intro x hx
    rcases List.mem_append.1 hx with hx | hx
    · exact h p (by simp) x hx
    · rcases List.mem_cons.1 hx with rfl | hx
      · exact hc
      · exact join_asc hc (ps := q :: r) (fun y hy => h y (by simp [List.mem_cons.1 hy])) x hx
theorem dns_asc {L : List UInt8} (h : dnsB L = true) : Asc L := by
  unfold dnsB at h
  rw [Bool.and_eq_true] at h
  have := join_asc (c := 46) (by decide) (ps := pcsL 46 L) (fun p hp => lbl_asc (List.all_eq_true.1 h.2 p hp))
  rwa [(pcsL_spl 46 L).2.1] at this
end Go.Proofs.YtbpdenfiifcfcaaGreatDoor
namespace Go.Proofs.YtbpdenfiifcfcaaGreatDoor
open Go.RowKit

def ctK (c : UInt8) (l : List UInt8) : Nat := (l.takeWhile (fun x => x != c)).length
theorem ctK_cons (c x : UInt8) (l : List UInt8) : ctK c (x :: l) = if x = c then 0 else ctK c l + 1 := by
  unfold ctK
  by_cases h : x = c
  · rw [if_pos h, List.takeWhile_cons, if_neg (by simp [h])]
    rfl
  · rw [if_neg h, List.takeWhile_cons, if_pos (by simp [h])]
    rfl
theorem ctK_miss {c : UInt8} : ∀ {l : List UInt8}, c ∉ l → ctK c l = l.length
  | [], _ => rfl
  | x :: l, h => by
    rw [ctK_cons, if_neg (fun e => h (by simp [e])), ctK_miss (fun m => h (by simp [m]))]
    rfl
theorem ctK_at {c : UInt8} {r : List UInt8} : ∀ {p : List UInt8}, c ∉ p → ctK c (p ++ c :: r) = p.length
  | [], _ => by
    rw [List.nil_append, ctK_cons, if_pos rfl]
    rfl
  | x :: p, h => by
    rw [List.cons_append, ctK_cons, if_neg (fun e => h (by simp [e])), ctK_at (fun m => h (by simp [m]))]
    rfl
theorem ctK_hit {c : UInt8} {l : List UInt8} {i : Nat} (h : Lib.indexByte l c = i) (hi : i < l.length) : ctK c l = i := by
  obtain ⟨e1, e2⟩ := first_cut h
  conv => lhs; rw [e1]
  rw [ctK_at e2, List.length_take]
  omega
theorem ctK_le (c : UInt8) (l : List UInt8) : ctK c l ≤ l.length := by
  rcases index_cases l c with ⟨_, h⟩ | ⟨i, h, hi⟩
  · rw [ctK_miss h]; exact Nat.le_refl _
  · rw [ctK_hit h hi]; omega
set_option maxRecDepth 100000 in
set_option maxHeartbeats 1000000 in
theorem pcut_hit (L : List UInt8) (c : UInt8) (i : Nat) (h : Lib.indexByte L c = i) (hi : i < L.length) (hL : L.length ≤ 1000000) (w : World) :
    Calls Tryz.prog 163 #[.string (strOf L), .string ⟨#[c]⟩] w fun e w' => e = .returned (.tuple #[.string (strOf (L.take i)), .string (strOf (L.drop (i + 1))), .bool true]) ∧ Below w.heap.size w w' := by
  have hx := fun w => index_byte (strOf L) c w
  rw [strOf_list, h] at hx
  have HX := Lib.hid hx
  have es := strOf_size L
  have c1 : (0 : Int) ≤ (i : Int) := by omega
  have c2 : (i : Int) ≤ (L.length : Int) := by omega
  have c3 : (i : Int) + 1 ≤ (L.length : Int) := by omega
  have d0 : decide ((0 : Int) ≤ (i : Int)) = true := by simp
  have hw1 : wrap64 ((i : Int) + 1) = (i : Int) + 1 := by unfold wrap64; omega
  have hs1 := slice_front L i (by omega)
  have hs2 := slice_back L (i + 1) (by omega) ((i : Int) + 1) (by omega)
  generalize L.take i = A at hs1
  generalize L.drop (i + 1) = B at hs2
  clear hx h
  go_enter Tryz.func163, Tryz.ntmps163
  go_wp2_with (go_at_call 188; (with_reducible refine (HX.out _).mono ?_); rintro e w1 ⟨rfl, rfl⟩)
  go_region_o
  go_wp2
  go_ret3
  exact ⟨rfl, (Below.refl _ _).drew⟩
set_option maxRecDepth 100000 in
set_option maxHeartbeats 1000000 in
theorem pcut_miss (L : List UInt8) (c : UInt8) (h : Lib.indexByte L c = -1) (w : World) :
    Calls Tryz.prog 163 #[.string (strOf L), .string ⟨#[c]⟩] w fun e w' => e = .returned (.tuple #[.string (strOf L), .string ⟨#[]⟩, .bool false]) ∧ Below w.heap.size w w' := by
  have hx := fun w => index_byte (strOf L) c w
  rw [strOf_list, h] at hx
  have HX := Lib.hid hx
  clear hx h
  go_enter Tryz.func163, Tryz.ntmps163
  go_wp2_with (go_at_call 188; (with_reducible refine (HX.out _).mono ?_); rintro e w1 ⟨rfl, rfl⟩)
  go_ret3
  exact ⟨rfl, Below.refl _ _⟩
theorem pcutl_any (L : List UInt8) (c : UInt8) (hL : L.length ≤ 1000000) (w : World) :
    Calls Tryz.prog 163 #[.string (strOf L), .string ⟨#[c]⟩] w fun e w' =>
      e = .returned (.tuple #[.string (strOf (L.take (ctK c L))), .string (strOf (L.drop (ctK c L + 1))), .bool (decide (ctK c L < L.length))]) ∧ Below w.heap.size w w' := by
  rcases index_cases L c with ⟨h, hno⟩ | ⟨i, h, hi⟩
  · rw [ctK_miss hno, List.take_length, List.drop_eq_nil_of_le (by omega), decide_eq_false (by omega)]
    exact pcut_miss L c h w
  · rw [ctK_hit h hi, decide_eq_true hi]
    exact pcut_hit L c i h hi hL w
set_option maxRecDepth 100000 in
theorem pcut_any (L : List UInt8) (c : UInt8) (hL : L.length ≤ 1000000) (w : World) :
    Calls Tryz.prog 139 #[.string (strOf L), .string ⟨#[c]⟩] w fun e w' =>
      e = .returned (.tuple #[.string (strOf (L.take (ctK c L))), .string (strOf (L.drop (ctK c L + 1))), .bool (decide (ctK c L < L.length))]) ∧ Below w.heap.size w w' := by
  have HC := Lib.hid (fun w => pcutl_any L c hL w)
  generalize L.take (ctK c L) = A at HC
  generalize L.drop (ctK c L + 1) = B at HC
  generalize decide (ctK c L < L.length) = b at HC
  go_enter Tryz.func139, Tryz.ntmps139
  go_wp2_with (go_at_call 163; (with_reducible refine (HC.out _).mono ?_); rintro e w1 ⟨rfl, hb⟩; have HB := Lib.hid hb; clear hb)
  go_ret3
  exact ⟨rfl, HB.out⟩

theorem pstar_yes (r : List UInt8) (w : World) : Calls Tryz.prog 154 #[.string (strOf (42 :: 46 :: r)), .string ⟨#[42, 46]⟩] w fun e w' => e = .returned (.tuple #[.string (strOf r), .bool true]) ∧ w' = w := by
  have h := Any.strings_CutPrefix lays103 (strOf (42 :: 46 :: r)) ⟨#[42, 46]⟩ w
  have e1 : Lib.hasPrefix (strOf (42 :: 46 :: r)).data.toList (⟨#[42, 46]⟩ : ByteArray).data.toList = true := by rw [strOf_list]; rfl
  have e2 : Lib.trimPrefix (strOf (42 :: 46 :: r)).data.toList (⟨#[42, 46]⟩ : ByteArray).data.toList = r := by unfold Lib.trimPrefix; rw [if_pos e1, strOf_list]; rfl
  rw [e1, e2] at h
  exact h
theorem pstar_no {L : List UInt8} (hn : ∀ r, L ≠ 42 :: 46 :: r) (w : World) : Calls Tryz.prog 154 #[.string (strOf L), .string ⟨#[42, 46]⟩] w fun e w' => e = .returned (.tuple #[.string (strOf L), .bool false]) ∧ w' = w := by
  have h := Any.strings_CutPrefix lays103 (strOf L) ⟨#[42, 46]⟩ w
  have e1 : Lib.hasPrefix (strOf L).data.toList (⟨#[42, 46]⟩ : ByteArray).data.toList = false := by
    rw [strOf_list, Bool.eq_false_iff]
    intro k
    obtain ⟨r, hr⟩ := List.isPrefixOf_iff_prefix.1 k
    exact hn r hr.symm
  have e2 : Lib.trimPrefix (strOf L).data.toList (⟨#[42, 46]⟩ : ByteArray).data.toList = L := by unfold Lib.trimPrefix; rw [if_neg (by rw [e1]; simp), strOf_list]
  rw [e1, e2] at h
  exact h
theorem pdot_yes (r : List UInt8) (w : World) : Calls Tryz.prog 151 #[.string (strOf (46 :: r)), .string ⟨#[46]⟩] w fun e w' => e = .returned (.string (strOf r)) ∧ w' = w := by
  have h := Any.strings_TrimPrefix lays101 (strOf (46 :: r)) ⟨#[46]⟩ w
  have e1 : Lib.hasPrefix (strOf (46 :: r)).data.toList (⟨#[46]⟩ : ByteArray).data.toList = true := by rw [strOf_list]; rfl
  have e2 : Lib.trimPrefix (strOf (46 :: r)).data.toList (⟨#[46]⟩ : ByteArray).data.toList = r := by unfold Lib.trimPrefix; rw [if_pos e1, strOf_list]; rfl
  rw [e2] at h
  exact h
theorem pdot_no {L : List UInt8} (hn : L.head? ≠ some 46) (w : World) : Calls Tryz.prog 151 #[.string (strOf L), .string ⟨#[46]⟩] w fun e w' => e = .returned (.string (strOf L)) ∧ w' = w := by
  have h := Any.strings_TrimPrefix lays101 (strOf L) ⟨#[46]⟩ w
  have e1 : Lib.hasPrefix (strOf L).data.toList (⟨#[46]⟩ : ByteArray).data.toList = false := by
    rw [strOf_list, Bool.eq_false_iff]
    intro k
    obtain ⟨r, hr⟩ := List.isPrefixOf_iff_prefix.1 k
    exact hn (by rw [← hr]; rfl)
  have e2 : Lib.trimPrefix (strOf L).data.toList (⟨#[46]⟩ : ByteArray).data.toList = L := by unfold Lib.trimPrefix; rw [if_neg (by rw [e1]; simp), strOf_list]
  rw [e2] at h
  exact h
theorem phas_dot (L : List UInt8) (w : World) : Calls Tryz.prog 155 #[.string (strOf L), .string ⟨#[46]⟩] w fun e w' => e = .returned (.bool (L.contains 46)) ∧ w' = w := by
  rw [idx_has]
  exact Any.strings_Contains_one lays144 (strOf L) 46 w
theorem ppre_dot (L : List UInt8) (w : World) : Calls Tryz.prog 164 #[.string (strOf L), .string ⟨#[46]⟩] w fun e w' => e = .returned (.bool (L.head? == some 46)) ∧ w' = w := by
  have h := Any.strings_HasPrefix lays99 (strOf L) ⟨#[46]⟩ w
  have e1 : Lib.hasPrefix (strOf L).data.toList (⟨#[46]⟩ : ByteArray).data.toList = (L.head? == some 46) := by
    rw [strOf_list]
    cases L with
    | nil => rfl
    | cons x r =>
      show (List.isPrefixOf [46] (x :: r)) = _
      rw [Bool.eq_iff_iff, List.isPrefixOf_iff_prefix, beq_iff_eq]
      constructor
      · rintro ⟨q, hq⟩
        rw [← hq]
        rfl
      · intro k
        have k2 : x = 46 := Option.some.inj k
        rw [k2]
        exact ⟨r, rfl⟩
  rw [e1] at h
  exact h
theorem psuf_dot (L : List UInt8) (hL : L.length ≤ 1000000) (w : World) : Calls Tryz.prog 175 #[.string (strOf L), .string ⟨#[46]⟩] w fun e w' => e = .returned (.bool (L.getLast? == some 46)) ∧ w' = w := by
  have h := Any.strings_HasSuffix lays100 (strOf L) ⟨#[46]⟩ w (by rw [strOf_size]; omega)
  have e1 : Lib.hasSuffix (strOf L).data.toList (⟨#[46]⟩ : ByteArray).data.toList = (L.getLast? == some 46) := by
    rw [strOf_list]
    show (List.isSuffixOf [46] L) = _
    rw [Bool.eq_iff_iff, List.isSuffixOf_iff_suffix, beq_iff_eq]
    constructor
    · rintro ⟨p, rfl⟩
      simp
    · intro k
      obtain ⟨p, rfl⟩ := List.getLast?_eq_some_iff.1 k
      exact List.suffix_append _ _
  rw [e1] at h
  exact h
end Go.Proofs.YtbpdenfiifcfcaaGreatDoor
namespace Go.Proofs.YtbpdenfiifcfcaaGreatDoor
open Go.RowKit

theorem pdns_is {L : List UInt8} {b : Bool} (h : dnsB L = b) (hL : L.length ≤ 150000) (w : World) :
    Calls Tryz.prog 150 #[.string (strOf L)] w fun e w' => e = .returned (.bool b) ∧ Below w.heap.size w w' := by
  have := pdns_any L hL w
  rwa [h] at this
theorem phas_is {L : List UInt8} {b : Bool} (h : L.contains 46 = b) (w : World) : Calls Tryz.prog 155 #[.string (strOf L), .string ⟨#[46]⟩] w fun e w' => e = .returned (.bool b) ∧ w' = w := by
  have := phas_dot L w
  rwa [h] at this
theorem idx_star (r : List UInt8) : Lib.indexByte (42 :: 46 :: r) 46 = ((1 : Nat) : Int) := by simp [Lib.indexByte]
theorem pcs_star (r : List UInt8) : pcsL 46 (42 :: 46 :: r) = [42] :: pcsL 46 r := pcs_more (idx_star r)
theorem dns_star (r : List UInt8) : dnsB (42 :: 46 :: r) = false := by
  unfold dnsB
  rw [pcs_star, List.all_cons, show lbl [42] = false by decide]
  simp
theorem pcs_many (r : List UInt8) : decide (2 < (pcsL 46 (42 :: 46 :: r)).length) = r.contains 46 := by
  rw [pcs_star, List.length_cons]
  by_cases h : (46 : UInt8) ∈ r
  · rw [List.contains_iff_mem.2 h]
    rcases index_cases r 46 with ⟨_, k⟩ | ⟨i, k, _⟩
    · exact absurd h k
    · rw [pcs_more k, List.length_cons]
      have := List.length_pos_iff.2 (pcsL_ne 46 (r.drop (i + 1)))
      simp; omega
  · rw [pcs_last h, show r.contains 46 = false by rw [Bool.eq_false_iff]; exact fun k => h (List.contains_iff_mem.1 k)]
    rfl
theorem dns_nil : dnsB [] = false := by decide +kernel
theorem pat_star (r : List UInt8) : patB (42 :: 46 :: r) = (decide (r.length + 2 ≤ 128) && dnsB r && r.contains 46) := by
  unfold patB
  rw [dns_star, Bool.false_or, pcs_many, show decide ((42 :: 46 :: r : List UInt8).take 2 = [42, 46]) = true from rfl, Bool.and_true]
  show (decide (r.length + 2 ≤ 128) && decide (2 < r.length + 2) && dnsB r && r.contains 46) = _
  cases r with
  | nil => rw [dns_nil]; simp
  | cons x q => rw [show decide (2 < (x :: q).length + 2) = true by simp, Bool.and_true]
theorem pat_plain {L : List UInt8} (h : ∀ r, L ≠ 42 :: 46 :: r) : patB L = dnsB L := by
  have e : decide (L.take 2 = [42, 46]) = false := decide_eq_false fun k => h (L.drop 2) (by
    conv => lhs; rw [← List.take_append_drop 2 L, k]
    rfl)
  unfold patB
  rw [e]
  simp
theorem pat_form (L : List UInt8) : (∃ r, L = 42 :: 46 :: r) ∨ ∀ r, L ≠ 42 :: 46 :: r := by
  by_cases h : ∃ r, L = 42 :: 46 :: r
  · exact .inl h
  · exact .inr fun r e => h ⟨r, e⟩
theorem pat_asc {L : List UInt8} (h : patB L = true) : Asc L := by
  rcases pat_form L with ⟨r, rfl⟩ | hn
  · rw [pat_star] at h
    simp only [Bool.and_eq_true] at h
    exact (Asc.cons (by decide) (Asc.cons (by decide) (dns_asc h.1.2)))
  · rw [pat_plain hn] at h
    exact dns_asc h
theorem base_asc {L : List UInt8} (h : baseB L = true) : Asc L := by
  unfold baseB at h
  rw [Bool.or_eq_true, decide_eq_true_iff] at h
  rcases h with rfl | h
  · exact fun c hc => by simp at hc
  · exact dns_asc h

set_option maxRecDepth 100000 in
set_option maxHeartbeats 2000000 in
theorem ppat_any (L : List UInt8) (hL : L.length ≤ 150000) (w : World) :
    Calls Tryz.prog 131 #[.string (strOf L)] w fun e w' => e = .returned (.bool (patB L)) ∧ Below w.heap.size w w' := by
  rcases pat_form L with ⟨r, rfl⟩ | hn
  · have es : (strOf (42 :: 46 :: r)).size = r.length + 2 := strOf_size _
    have HS := Lib.hid (fun w => pstar_yes r w)
    have HP := Lib.hid (pat_star r)
    obtain ⟨S, hS⟩ : ∃ S, strOf (42 :: 46 :: r) = S := ⟨_, rfl⟩
    have hr : r.length ≤ 150000 := by have : (42 :: 46 :: r : List UInt8).length = r.length + 2 := rfl; omega
    rw [hS] at HS es ⊢
    by_cases h1 : r.length + 2 ≤ 128
    · have d1 : decide ((r.length : Int) + 2 ≤ 128) = true := by simp; omega
      have d2 : decide (((r.length + 2 : Nat) : Int) ≤ 128) = true := by simp; omega
      have HP2 := Lib.hid (show patB (42 :: 46 :: r) = (dnsB r && r.contains 46) by rw [HP.out, decide_eq_true h1]; rfl)
      cases h2 : dnsB r with
      | true =>
        obtain ⟨b, hb⟩ : ∃ b, r.contains 46 = b := ⟨_, rfl⟩
        have HP3 := Lib.hid (show patB (42 :: 46 :: r) = b by rw [HP2.out, h2, hb]; rfl)
        have HD := Lib.hid (fun w => pdns_is h2 hr w)
        have HC := Lib.hid (fun w => phas_is hb w)
        clear h2 hS hb
        go_enter Tryz.func131, Tryz.ntmps131
        go_wp2_with (first
          | (go_at_call 154; (with_reducible refine (HS.out _).mono ?_); rintro e w1 ⟨rfl, rfl⟩)
          | (go_at_call 150; (with_reducible refine (HD.out _).mono ?_); rintro e w2 ⟨rfl, hb2⟩; have HB2 := Lib.hid hb2; clear hb2)
          | (go_at_call 155; (with_reducible refine (HC.out _).mono ?_); rintro e w3 ⟨rfl, rfl⟩))
        go_ret
        exact ⟨by rw [HP3.out]; rfl, HB2.out⟩
      | false =>
        have HP3 := Lib.hid (show patB (42 :: 46 :: r) = false by rw [HP2.out, h2]; rfl)
        have HD := Lib.hid (fun w => pdns_is h2 hr w)
        clear h2 hS
        go_enter Tryz.func131, Tryz.ntmps131
        go_wp2_with (first
          | (go_at_call 154; (with_reducible refine (HS.out _).mono ?_); rintro e w1 ⟨rfl, rfl⟩)
          | (go_at_call 150; (with_reducible refine (HD.out _).mono ?_); rintro e w2 ⟨rfl, hb2⟩; have HB2 := Lib.hid hb2; clear hb2))
        go_ret
        exact ⟨by rw [HP3.out]; rfl, HB2.out⟩
    · have d1 : decide ((r.length : Int) + 2 ≤ 128) = false := by simp; omega
      have d2 : decide (((r.length + 2 : Nat) : Int) ≤ 128) = false := by simp; omega
      have HP2 := Lib.hid (show patB (42 :: 46 :: r) = false by rw [HP.out, decide_eq_false h1]; rfl)
      clear hS
      go_enter Tryz.func131, Tryz.ntmps131
      go_wp2_with (go_at_call 154; (with_reducible refine (HS.out _).mono ?_); rintro e w1 ⟨rfl, rfl⟩)
      go_ret
      exact ⟨by rw [HP2.out]; rfl, Below.refl _ _⟩
  · have HS := Lib.hid (fun w => pstar_no hn w)
    have HP := Lib.hid (pat_plain hn)
    have HD := Lib.hid (fun w => pdns_any L hL w)
    clear hn
    go_enter Tryz.func131, Tryz.ntmps131
    go_wp2_with (first
      | (go_at_call 154; (with_reducible refine (HS.out _).mono ?_); rintro e w1 ⟨rfl, rfl⟩)
      | (go_at_call 150; (with_reducible refine (HD.out _).mono ?_); rintro e w2 ⟨rfl, hb2⟩; have HB2 := Lib.hid hb2; clear hb2))
    go_ret
    exact ⟨by rw [HP.out]; rfl, HB2.out⟩

set_option maxRecDepth 100000 in
set_option maxHeartbeats 2000000 in
theorem pbase_any (L : List UInt8) (hL : L.length ≤ 150000) (w : World) :
    Calls Tryz.prog 128 #[.string (strOf L)] w fun e w' => e = .returned (.bool (baseB L)) ∧ Below w.heap.size w w' := by
  have HD := Lib.hid (fun w => pdns_any L hL w)
  by_cases h : L = []
  · obtain ⟨hbe, hbp⟩ := empty_is h
    have HE := Lib.hid (show baseB L = true by unfold baseB; rw [decide_eq_true h]; rfl)
    clear h
    go_enter Tryz.func128, Tryz.ntmps128
    go_wp2_with fail
    go_ret
    exact ⟨by rw [HE.out]; rfl, Below.refl _ _⟩
  · obtain ⟨hbe, hbp⟩ := empty_not h
    have HE := Lib.hid (show baseB L = dnsB L by unfold baseB; rw [decide_eq_false h]; rfl)
    clear h
    go_enter Tryz.func128, Tryz.ntmps128
    go_wp2_with (go_at_call 150; (with_reducible refine (HD.out _).mono ?_); rintro e w1 ⟨rfl, hb1⟩; have HB1 := Lib.hid hb1; clear hb1)
    go_ret
    exact ⟨by rw [HE.out]; rfl, HB1.out⟩
theorem ppat_is {L : List UInt8} {b : Bool} (h : patB L = b) (hL : L.length ≤ 150000) (w : World) :
    Calls Tryz.prog 131 #[.string (strOf L)] w fun e w' => e = .returned (.bool b) ∧ Below w.heap.size w w' := by
  have := ppat_any L hL w
  rwa [h] at this
theorem pbase_is {L : List UInt8} {b : Bool} (h : baseB L = b) (hL : L.length ≤ 150000) (w : World) :
    Calls Tryz.prog 128 #[.string (strOf L)] w fun e w' => e = .returned (.bool b) ∧ Below w.heap.size w w' := by
  have := pbase_any L hL w
  rwa [h] at this
end Go.Proofs.YtbpdenfiifcfcaaGreatDoor
namespace Go.Proofs.YtbpdenfiifcfcaaGreatDoor
open Go.RowKit

theorem peq_is {a b : List UInt8} {c : Bool} (h : alikeB a b = c) (ha : a.length ≤ 150000) (aa : Asc a) (ab : Asc b) (w : World) :
    Calls Tryz.prog 141 #[.string (strOf a), .string (strOf b)] w fun e w' => e = .returned (.bool c) ∧ w' = w := by
  have := peq_any a b ha aa ab w
  rwa [h] at this

set_option maxRecDepth 100000 in
set_option maxHeartbeats 2000000 in
theorem pwithin_any (a b : List UInt8) (ha : a.length ≤ 150000) (hb : b.length ≤ 150000) (w : World) :
    Calls Tryz.prog 119 #[.string (strOf a), .string (strOf b)] w fun e w' => e = .returned (.bool (dnsWithinB a b)) ∧ Below w.heap.size w w' := by
  have hdot := dot_of b hb
  by_cases h1 : a = []
  · have hfa : firstArg a = true := by unfold firstArg; rw [decide_eq_true h1]; rfl
    obtain ⟨hae, hap⟩ := empty_is h1
    cases h2 : baseB b with
    | false =>
      have HE := Lib.hid (show dnsWithinB a b = false by rw [within_def, h2]; simp)
      have HB := Lib.hid (fun w => pbase_is h2 hb w)
      clear h1 h2 hdot
      go_enter Tryz.func119, Tryz.ntmps119
      go_wp2_with (go_at_call 128; (with_reducible refine (HB.out _).mono ?_); rintro e w2 ⟨rfl, hb2⟩; have HB2 := Lib.hid hb2; clear hb2)
      go_ret
      exact ⟨by rw [HE.out]; rfl, HB2.out⟩
    | true =>
      have HB := Lib.hid (fun w => pbase_is h2 hb w)
      by_cases h3 : b = []
      · have HE := Lib.hid (show dnsWithinB a b = true by rw [within_def, h2, hfa, decide_eq_true h3]; rfl)
        obtain ⟨hbe, hbp⟩ := empty_is h3
        clear h1 h2 h3 hfa hdot
        go_enter Tryz.func119, Tryz.ntmps119
        go_wp2_with (go_at_call 128; (with_reducible refine (HB.out _).mono ?_); rintro e w2 ⟨rfl, hb2⟩; have HB2 := Lib.hid hb2; clear hb2)
        go_ret
        exact ⟨by rw [HE.out]; rfl, HB2.out⟩
      · have HE0 := Lib.hid (show dnsWithinB a b = (alikeB a b || endsB a (46 :: b)) by rw [within_def, h2, hfa, decide_eq_false h3]; rfl)
        obtain ⟨hbe, hbp⟩ := empty_not h3
        have aa : Asc a := by rw [h1]; exact fun c hc => by simp at hc
        have ab : Asc b := base_asc h2
        have HN := Lib.hid (fun w => pends_any a (46 :: b) ha (by simp only [List.length_cons]; omega) aa (ab.cons (by decide)) w)
        cases h4 : alikeB a b with
        | true =>
          have HE := Lib.hid (show dnsWithinB a b = true by rw [HE0.out, h4]; rfl)
          have HQ := Lib.hid (fun w => peq_is h4 ha aa ab w)
          clear h1 h2 h3 h4 hfa aa ab hdot
          go_enter Tryz.func119, Tryz.ntmps119
          go_wp2_with (first
            | (go_at_call 128; (with_reducible refine (HB.out _).mono ?_); rintro e w2 ⟨rfl, hb2⟩; have HB2 := Lib.hid hb2; clear hb2)
            | (go_at_call 141; (with_reducible refine (HQ.out _).mono ?_); rintro e w3 ⟨rfl, rfl⟩))
          go_ret
          exact ⟨by rw [HE.out]; rfl, HB2.out⟩
        | false =>
          have HE := Lib.hid (show dnsWithinB a b = endsB a (46 :: b) by rw [HE0.out, h4]; rfl)
          have HQ := Lib.hid (fun w => peq_is h4 ha aa ab w)
          obtain ⟨T, hT⟩ : ∃ T, strOf (46 :: b) = T := ⟨_, rfl⟩
          generalize endsB a (46 :: b) = t at HN HE
          rw [hT] at HN hdot
          clear h1 h2 h3 h4 hfa aa ab hT
          go_enter Tryz.func119, Tryz.ntmps119
          go_wp2_with (first
            | (go_at_call 128; (with_reducible refine (HB.out _).mono ?_); rintro e w2 ⟨rfl, hb2⟩; have HB2 := Lib.hid hb2; clear hb2)
            | (go_at_call 141; (with_reducible refine (HQ.out _).mono ?_); rintro e w3 ⟨rfl, rfl⟩)
            | (go_at_call 142; (with_reducible refine (HN.out _).mono ?_); rintro e w4 ⟨rfl, rfl⟩))
          go_ret
          exact ⟨by rw [HE.out]; rfl, HB2.out⟩
  · obtain ⟨hae, hap⟩ := empty_not h1
    cases h0 : patB a with
    | false =>
      have HE := Lib.hid (show dnsWithinB a b = false by rw [within_def, show firstArg a = false by unfold firstArg; rw [decide_eq_false h1, h0]; rfl]; rfl)
      have HP := Lib.hid (fun w => ppat_is h0 ha w)
      clear h0 h1 hdot
      go_enter Tryz.func119, Tryz.ntmps119
      go_wp2_with (go_at_call 131; (with_reducible refine (HP.out _).mono ?_); rintro e w1 ⟨rfl, hb1⟩; have HB1 := Lib.hid hb1; clear hb1)
      go_ret
      exact ⟨by rw [HE.out]; rfl, HB1.out⟩
    | true =>
      have HP := Lib.hid (fun w => ppat_is h0 ha w)
      have hfa : firstArg a = true := by unfold firstArg; rw [h0]; simp
      have ha0 : Asc a := pat_asc h0
      clear h0
      cases h2 : baseB b with
      | false =>
        have HE := Lib.hid (show dnsWithinB a b = false by rw [within_def, h2]; simp)
        have HB := Lib.hid (fun w => pbase_is h2 hb w)
        clear h1 h2 hdot
        go_enter Tryz.func119, Tryz.ntmps119
        go_wp2_with (first
          | (go_at_call 131; (with_reducible refine (HP.out _).mono ?_); rintro e w1 ⟨rfl, hb1⟩; have HB1 := Lib.hid hb1; clear hb1)
          | (go_at_call 128; (with_reducible refine (HB.out _).mono ?_); rintro e w2 ⟨rfl, hb2⟩; have HB2 := Lib.hid (below_next HB1.out hb2); clear hb2))
        go_ret
        exact ⟨by rw [HE.out]; rfl, HB2.out⟩
      | true =>
        have HB := Lib.hid (fun w => pbase_is h2 hb w)
        by_cases h3 : b = []
        · have HE := Lib.hid (show dnsWithinB a b = true by rw [within_def, h2, hfa, decide_eq_true h3]; rfl)
          obtain ⟨hbe, hbp⟩ := empty_is h3
          clear h1 h2 h3 hfa hdot
          go_enter Tryz.func119, Tryz.ntmps119
          go_wp2_with (first
            | (go_at_call 131; (with_reducible refine (HP.out _).mono ?_); rintro e w1 ⟨rfl, hb1⟩; have HB1 := Lib.hid hb1; clear hb1)
            | (go_at_call 128; (with_reducible refine (HB.out _).mono ?_); rintro e w2 ⟨rfl, hb2⟩; have HB2 := Lib.hid (below_next HB1.out hb2); clear hb2))
          go_ret
          exact ⟨by rw [HE.out]; rfl, HB2.out⟩
        · have HE0 := Lib.hid (show dnsWithinB a b = (alikeB a b || endsB a (46 :: b)) by rw [within_def, h2, hfa, decide_eq_false h3]; rfl)
          obtain ⟨hbe, hbp⟩ := empty_not h3
          have aa : Asc a := ha0
          have ab : Asc b := base_asc h2
          have HN := Lib.hid (fun w => pends_any a (46 :: b) ha (by simp only [List.length_cons]; omega) aa (ab.cons (by decide)) w)
          cases h4 : alikeB a b with
          | true =>
            have HE := Lib.hid (show dnsWithinB a b = true by rw [HE0.out, h4]; rfl)
            have HQ := Lib.hid (fun w => peq_is h4 ha aa ab w)
            clear h1 h2 h3 h4 hfa aa ab hdot
            go_enter Tryz.func119, Tryz.ntmps119
            go_wp2_with (first
              | (go_at_call 131; (with_reducible refine (HP.out _).mono ?_); rintro e w1 ⟨rfl, hb1⟩; have HB1 := Lib.hid hb1; clear hb1)
              | (go_at_call 128; (with_reducible refine (HB.out _).mono ?_); rintro e w2 ⟨rfl, hb2⟩; have HB2 := Lib.hid (below_next HB1.out hb2); clear hb2)
              | (go_at_call 141; (with_reducible refine (HQ.out _).mono ?_); rintro e w3 ⟨rfl, rfl⟩))
            go_ret
            exact ⟨by rw [HE.out]; rfl, HB2.out⟩
          | false =>
            have HE := Lib.hid (show dnsWithinB a b = endsB a (46 :: b) by rw [HE0.out, h4]; rfl)
            have HQ := Lib.hid (fun w => peq_is h4 ha aa ab w)
            obtain ⟨T, hT⟩ : ∃ T, strOf (46 :: b) = T := ⟨_, rfl⟩
            generalize endsB a (46 :: b) = t at HN HE
            rw [hT] at HN hdot
            clear h1 h2 h3 h4 hfa aa ab hT
            go_enter Tryz.func119, Tryz.ntmps119
            go_wp2_with (first
              | (go_at_call 131; (with_reducible refine (HP.out _).mono ?_); rintro e w1 ⟨rfl, hb1⟩; have HB1 := Lib.hid hb1; clear hb1)
              | (go_at_call 128; (with_reducible refine (HB.out _).mono ?_); rintro e w2 ⟨rfl, hb2⟩; have HB2 := Lib.hid (below_next HB1.out hb2); clear hb2)
              | (go_at_call 141; (with_reducible refine (HQ.out _).mono ?_); rintro e w3 ⟨rfl, rfl⟩)
              | (go_at_call 142; (with_reducible refine (HN.out _).mono ?_); rintro e w4 ⟨rfl, rfl⟩))
            go_ret
            exact ⟨by rw [HE.out]; rfl, HB2.out⟩
end Go.Proofs.YtbpdenfiifcfcaaGreatDoor
