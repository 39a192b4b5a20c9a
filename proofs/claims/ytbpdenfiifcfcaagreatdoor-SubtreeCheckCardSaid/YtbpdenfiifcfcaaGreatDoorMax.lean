/-
  The contract of isLabel of the program: whether a text is a label of a DNS name.
  The contract of strings.SplitSeq at a point: the function that it hands back gives the pieces of the text, one after the other, to whatever function it is handed, until that one says no.
  A loop over the pieces that strings.SplitSeq gives: what holds behind it, out of one walk of the loop's body.
-/
import Derived.Test.YtbpdenfiifcfcaaGreatDoorMaw
import Derived.RangeFuncOwn
import Derived.RangeFuncLeaves
import Derived.RangeFuncCalls
import Derived.Shelf.Abstract
import Derived.Shelf.RegionOpen
import Derived.OwnWalkIn
import Derived.TacticsInMore
import Derived.LoopNIn
import Derived.LoopIn
namespace Go.Proofs.YtbpdenfiifcfcaaGreatDoor
open Go.RowKit

set_option maxRecDepth 100000 in
set_option maxHeartbeats 2000000 in
theorem plabel_any (p : List UInt8) (hL : p.length ≤ 150000) (w : World) :
    Calls Tryz.prog 173 #[.string (strOf p)] w fun e w' => e = .returned (.bool (lbl p)) ∧ w' = w := by
  have es := strOf_size p
  by_cases h1 : p.length < 1
  · have HF2 := Lib.hid (show lbl p = false by rw [List.eq_nil_of_length_eq_zero (show p.length = 0 by omega)]; exact lbl_nil)
    have dl : decide ((0 : Int) ≤ (p.length : Int) - 1) = false := decide_eq_false (by omega)
    go_enter Tryz.func173, Tryz.ntmps173
    go_wp2_with fail
    go_ret
    exact ⟨by rw [HF2.out]; rfl, rfl⟩
  · have dl : decide ((0 : Int) ≤ (p.length : Int) - 1) = true := decide_eq_true (by omega)
    by_cases h2 : 63 < p.length
    · have HF2 := Lib.hid (lbl_long h2)
      have dm : decide ((p.length : Int) - 1 < (63 : Int)) = false := decide_eq_false (by omega)
      go_enter Tryz.func173, Tryz.ntmps173
      go_wp2_with fail
      go_ret
      exact ⟨by rw [HF2.out]; rfl, rfl⟩
    · have dm : decide ((p.length : Int) - 1 < (63 : Int)) = true := decide_eq_true (by omega)
      obtain ⟨x, hx, hxn⟩ := u8at_list (strOf p) 0 (by rw [es]; omega)
      have hix := run_index_u8 (P := Tryz.prog) Tryz.underlying9 (strOf p) 0 (by rw [es]; omega) 0 rfl
      rw [hxn] at hix
      obtain ⟨y, hy, hyn⟩ := u8at_list (strOf p) (p.length - 1) (by rw [es]; omega)
      have hiy := run_index_u8 (P := Tryz.prog) Tryz.underlying9 (strOf p) (p.length - 1) (by rw [es]; omega) ((p.length : Int) - 1) (by omega)
      rw [hyn] at hiy
      rw [strOf_list] at hx hy
      by_cases h3 : x = 45
      · have HF2 := Lib.hid (lbl_head (p := p) (by rw [List.head?_eq_getElem?, hx, h3]))
        have dx : (((x.toNat : Nat) : Int) != (45 : Int)) = false := by rw [h3]; rfl
        clear hx hy hxn hyn hiy
        go_enter Tryz.func173, Tryz.ntmps173
        go_wp2_with fail
        go_ret
        exact ⟨by rw [HF2.out]; rfl, rfl⟩
      · have dx : (((x.toNat : Nat) : Int) != (45 : Int)) = true := by
          have : ¬ x.toNat = 45 := fun h => h3 (UInt8.toNat_inj.1 h)
          simp; omega
        by_cases h4 : y = 45
        · have HF2 := Lib.hid (lbl_last (p := p) (by rw [List.getLast?_eq_getElem?, hy, h4]))
          have dy : (((y.toNat : Nat) : Int) != (45 : Int)) = false := by rw [h4]; rfl
          clear hx hy hxn hyn
          go_enter Tryz.func173, Tryz.ntmps173
          go_wp2_with fail
          go_ret
          exact ⟨by rw [HF2.out]; rfl, rfl⟩
        · have dy : (((y.toNat : Nat) : Int) != (45 : Int)) = true := by
            have : ¬ y.toNat = 45 := fun h => h4 (UInt8.toNat_inj.1 h)
            simp; omega
          have HQ := Lib.hid (show lbl p = p.all lblB from lbl_all (by omega) (by omega) (by rw [List.head?_eq_getElem?, hx]; exact fun h => h3 (Option.some.inj h)) (by rw [List.getLast?_eq_getElem?, hy]; exact fun h => h4 (Option.some.inj h)))
          have HC := Lib.hid (fun w => pcons_lb p hL w)
          clear hx hy hxn hyn h3 h4
          go_enter Tryz.func173, Tryz.ntmps173
          go_wp2_with (go_at_call 176; (with_reducible refine (HC.out _).mono ?_); rintro e w2 ⟨rfl, rfl⟩)
          go_ret
          exact ⟨by rw [HQ.out]; rfl, rfl⟩
theorem plabel_is {p : List UInt8} {b : Bool} (h : lbl p = b) (hL : p.length ≤ 150000) (w : World) :
    Calls Tryz.prog 173 #[.string (strOf p)] w fun e w' => e = .returned (.bool b) ∧ w' = w := by
  have := plabel_any p hL w
  rwa [h] at this
end Go.Proofs.YtbpdenfiifcfcaaGreatDoor
namespace Go.Proofs.YtbpdenfiifcfcaaGreatDoor
open Go.RowKit Go.Shelf
attribute [local go_sem] Oper.semAt_some

theorem pcs_more {c : UInt8} {l : List UInt8} {i : Nat} (h : Lib.indexByte l c = i) : pcsL c l = l.take i :: pcsL c (l.drop (i + 1)) := by
  obtain ⟨e1, e2⟩ := first_cut h
  have := spl_cons e2 (pcsL_spl c (l.drop (i + 1)))
  rw [← e1] at this
  exact spl_inj (pcsL_spl c l) this
theorem pcs_last {c : UInt8} {l : List UInt8} (h : c ∉ l) : pcsL c l = [l] := spl_inj (pcsL_spl c l) (spl_one h)
theorem psindex_any (L : List UInt8) (w : World) :
    Calls Tryz.prog 179 #[.string (strOf L), .string ⟨#[46]⟩] w fun e w' => e = .returned (.int .i64 (Lib.indexByte L 46)) ∧ w' = w :=
  Any.strings_Index_one { lays144 with } (strOf L) 46 w
theorem psindex_is {L : List UInt8} {z : Int} (h : Lib.indexByte L 46 = z) (w : World) :
    Calls Tryz.prog 179 #[.string (strOf L), .string ⟨#[46]⟩] w fun e w' => e = .returned (.int .i64 z) ∧ w' = w := by
  have := psindex_any L w
  rwa [h] at this
def sLen (b : Nat) (W : World) : Nat := match W.cell? ⟨b, 0, none⟩ with | some (.string s) => s.size | _ => 0
theorem sLen_of {b : Nat} {W : World} {s : ByteArray} (h : W.cell? ⟨b, 0, none⟩ = some (.string s)) : sLen b W = s.size := by unfold sLen; rw [h]

theorem slice_front (L : List UInt8) (j : Nat) (hj : j ≤ L.length) (w : World) :
    (Instr.slice 9 (.string (strOf L)) none (some (.int .i64 (j : Int))) none).run Tryz.prog w = .ok (.string (strOf (L.take j))) w := by
  have := run_slice_string_to_if (P := Tryz.prog) w 9 (strOf L) .i64 (j : Int) Tryz.underlying9
  rw [this, if_pos ⟨by omega, by rw [strOf_size]; omega⟩]
  have e : ((strOf L).extract 0 j).data.toList = L.take j := by
    rw [ext_list_h, strOf_list, List.drop_zero, Nat.sub_zero]
  rw [← strOf_of e]
  simp
theorem slice_back (L : List UInt8) (j : Nat) (hj : j ≤ L.length) (a : Int) (ha : a = (j : Int)) (w : World) :
    (Instr.slice 9 (.string (strOf L)) (some (.int .i64 a)) none none).run Tryz.prog w = .ok (.string (strOf (L.drop j))) w := by
  have := slice_tail_h (strOf L) j (by rw [strOf_size]; exact hj) a ha w
  rwa [strOf_list] at this
theorem pseq_made (L : List UInt8) (w : World) :
    Calls Tryz.prog 196 #[.string (strOf L), .string ⟨#[46]⟩, .int .i64 0] w fun e w' =>
      e = .returned (.func (.func 226) #[] #[.pointer (some ⟨w.heap.size + 1, 0, none⟩), .pointer (some ⟨w.heap.size, 0, none⟩), .pointer (some ⟨w.heap.size + 2, 0, none⟩)]) ∧
      w' = ((w.alloc (.cells #[.string (strOf L)] 9)).alloc (.cells #[.string ⟨#[46]⟩] 9)).alloc (.cells #[.int .i64 0] 3) := by
  go_enter Tryz.func196, Tryz.ntmps196
  go_wp2
  go_ret
  exact ⟨rfl, rfl⟩
theorem pseq_any (L : List UInt8) (w : World) :
    Calls Tryz.prog 172 #[.string (strOf L), .string ⟨#[46]⟩] w fun e w' =>
      e = .returned (.func (.func 226) #[] #[.pointer (some ⟨w.heap.size + 1, 0, none⟩), .pointer (some ⟨w.heap.size, 0, none⟩), .pointer (some ⟨w.heap.size + 2, 0, none⟩)]) ∧
      w' = ((w.alloc (.cells #[.string (strOf L)] 9)).alloc (.cells #[.string ⟨#[46]⟩] 9)).alloc (.cells #[.int .i64 0] 3) := by
  go_enter Tryz.func172, Tryz.ntmps172
  go_wp2_with (go_at_call 196; (with_reducible refine (pseq_made L _).mono ?_); rintro e w1 ⟨rfl, rfl⟩)
  go_ret
  exact ⟨rfl, rfl⟩

set_option maxRecDepth 100000 in
set_option maxHeartbeats 2000000 in
theorem iter_any (l bs n : Nat) (hn : 1 ≤ n) (L : List UInt8) (hL : L.length ≤ 150000) (J : List (List UInt8) → World → Prop) (Jx : World → Prop)
    (hset : ∀ pre W v, J pre W → J pre (W.setCell ⟨bs, 0, none⟩ v))
    (hY : ∀ pre x rest W, J pre W → pcsL 46 L = pre ++ x :: rest → YieldAt Fence.wide (n - 1) Tryz.prog l #[.string (strOf x)] W fun e W' =>
      (e = .returned (.bool true) ∧ J (pre ++ [x]) W' ∧ Below (bs + 3) W W') ∨ (e = .returned (.bool false) ∧ Jx W'))
    (W : World) (hs : W.cell? ⟨bs, 0, none⟩ = some (.string (strOf L))) (hf : W.frozen? ⟨bs, 0, none⟩ = false) (hp : W.cell? ⟨bs + 1, 0, none⟩ = some (.string ⟨#[46]⟩)) (hv : W.cell? ⟨bs + 2, 0, none⟩ = some (.int .i64 0)) (h0 : J [] W) :
    CallsIn Fence.wide n Tryz.prog 226 #[.func (.yield l) #[] #[], .pointer (some ⟨bs + 1, 0, none⟩), .pointer (some ⟨bs, 0, none⟩), .pointer (some ⟨bs + 2, 0, none⟩)] W fun e W' => (∃ v, e = .returned v) ∧ (J (pcsL 46 L) W' ∨ Jx W') := by
  have HSET := Lib.hid hset
  have HY := Lib.hid hY
  have HJ := Lib.hid h0
  have HL := Lib.hid hL
  clear hset hY h0 hL
  refine callsIn_of_wp Tryz.func226 rfl trivial ?_ rfl
  simp only [Tryz.ntmps226, List.size_toArray, List.length_cons, List.length_nil, Nat.reduceAdd, Nat.reduceSub, Array.replicate_succ, Array.replicate_zero, List.push_toArray, List.append_toArray, List.nil_append, List.cons_append]
  gi_wp2
  gi_loopw [] (fun wr => ∃ (pre : List (List UInt8)) (r : List UInt8), pcsL 46 L = pre ++ pcsL 46 r ∧ r.length ≤ L.length ∧ J pre wr ∧ wr.cell? ⟨bs, 0, none⟩ = some (.string (strOf r)) ∧ wr.frozen? ⟨bs, 0, none⟩ = false ∧ wr.cell? ⟨bs + 1, 0, none⟩ = some (.string ⟨#[46]⟩) ∧ wr.cell? ⟨bs + 2, 0, none⟩ = some (.int .i64 0))
    (fun wr => sLen bs wr)
  case atStart => exact ⟨[], L, rfl, Nat.le_refl _, HJ.out, hs, hf, hp, hv⟩
  case round =>
    obtain ⟨pre, r, hpc, hrl, hj, hs, hf, hp, hv⟩ := hrel
    have HJ1 := Lib.hid hj
    have HPC := Lib.hid hpc
    have es := strOf_size r
    have hsl := sLen_of hs
    clear hj hpc
    rcases index_cases r 46 with ⟨hi, hno⟩ | ⟨i, hi, hlt⟩
    · have HI := Lib.hid (fun w => psindex_is hi w)
      have HP1 := Lib.hid (show pcsL 46 L = pre ++ r :: [] by rw [HPC.out, pcs_last hno])
      obtain ⟨fn, tmps, assign, body, hy, hR⟩ := HY.out pre r [] wr HJ1.out HP1.out
      clear hi hno
      gi_wp2_with (refine ⟨trivial, ?_⟩; gi_at_call 179; (with_reducible refine (callsIn_wide.2 (HI.out _)).mono ?_); rintro e w1 ⟨rfl, rfl⟩)
      refine hR.mono ?_
      rintro e W3 (⟨rfl, hj3, _⟩ | ⟨rfl, hjx⟩)
      · gi_wp2
        go_end0
        exact ⟨⟨_, rfl⟩, .inl (by rw [HP1.out]; exact hj3)⟩
      · gi_wp2
        go_end0
        exact ⟨⟨_, rfl⟩, .inr hjx⟩
    · have HI := Lib.hid (fun w => psindex_is hi w)
      have HP1 := Lib.hid (show pcsL 46 L = pre ++ r.take i :: pcsL 46 (r.drop (i + 1)) by rw [HPC.out, pcs_more hi])
      obtain ⟨fn, tmps, assign, body, hy, hR⟩ := HY.out pre (r.take i) _ wr HJ1.out HP1.out
      have hb : r.length ≤ 150000 := by have := HL.out; omega
      have d0 : decide ((i : Int) < 0) = false := by simp
      have hw0 : wrap64 ((i : Int) + 0) = (i : Int) := by unfold wrap64; omega
      have hw1 : wrap64 ((i : Int) + 1) = (i : Int) + 1 := by unfold wrap64; omega
      have hs1 := slice_front r i (by omega)
      have hs2 := slice_back r (i + 1) (by omega) ((i : Int) + 1) (by omega)
      clear hi
      gi_wp2_with (refine ⟨trivial, ?_⟩; gi_at_call 179; (with_reducible refine (callsIn_wide.2 (HI.out _)).mono ?_); rintro e w1 ⟨rfl, rfl⟩)
      refine hR.mono ?_
      rintro e W3 (⟨rfl, hj3, hk3⟩ | ⟨rfl, hjx⟩)
      · have hs3 := (hk3.cell (p := ⟨bs, 0, none⟩) (show bs < bs + 3 by omega)).trans hs
        have hf3 := (hk3.frozen (p := ⟨bs, 0, none⟩) (show bs < bs + 3 by omega)).trans hf
        have hp3 := (hk3.cell (p := ⟨bs + 1, 0, none⟩) (show bs + 1 < bs + 3 by omega)).trans hp
        have hv3 := (hk3.cell (p := ⟨bs + 2, 0, none⟩) (show bs + 2 < bs + 3 by omega)).trans hv
        have HJ3 := Lib.hid (HSET.out _ _ (.string (strOf (r.drop (i + 1)))) hj3)
        have hs4 := World.cell?_setCell_same W3 ⟨bs, 0, none⟩ (.string (strOf (r.drop (i + 1)))) hs3
        have hp4 := (World.cell?_setCell_other W3 ⟨bs, 0, none⟩ ⟨bs + 1, 0, none⟩ (.string (strOf (r.drop (i + 1)))) (addr_ne (by omega))).trans hp3
        have hv4 := (World.cell?_setCell_other W3 ⟨bs, 0, none⟩ ⟨bs + 2, 0, none⟩ (.string (strOf (r.drop (i + 1)))) (addr_ne (by omega))).trans hv3
        have HS4 := Lib.hid hs4
        have HP4 := Lib.hid hp4
        have HV4 := Lib.hid hv4
        have HF4 := Lib.hid ((by rw [World.frozen?_setCell]; exact hf3 : (W3.setCell ⟨bs, 0, none⟩ (.string (strOf (r.drop (i + 1))))).frozen? ⟨bs, 0, none⟩ = false))
        clear hs4 hp4 hv4 hj3 hk3 hs hf hp hv
        gi_wp2
        go_roundw
        case rel => exact ⟨pre ++ [r.take i], r.drop (i + 1), by rw [HP1.out]; simp, by simp; omega, HJ3.out, HS4.out, HF4.out, HP4.out, HV4.out⟩
        case measure => rw [sLen_of HS4.out, hsl, strOf_size, strOf_size, List.length_drop]; omega
      · gi_wp2
        refine bodyPost_ret (results_none rfl _ _ _) rfl ?_
        exact ⟨⟨_, rfl⟩, .inr hjx⟩
end Go.Proofs.YtbpdenfiifcfcaaGreatDoor
namespace Go.Proofs.YtbpdenfiifcfcaaGreatDoor
open Go.RowKit Go.Shelf

/-- How a round of the loop may end: off its end, or by a return. -/
def rndEnd (bs : Nat) (I Ix : World → Prop) (W : World) : Exit → Act → World → Prop
  | .normal, _, W' => KeepsOthers W W' ∧ Below (bs + 3) W W' ∧ I W'
  | .ret, _, W' => KeepsOthers W W' ∧ Ix W'
  | _, _, _ => False

theorem put_low {b k : Nat} (hk : b ≤ k) (W : World) (o : Obj) : Below b W (W.putObj k o) :=
  ⟨rfl, rfl, rfl, by simp, fun _ hi => World.putObj_heap_other (by omega)⟩
theorem put_lowest {b k : Nat} {A W : World} (h : Below b A W) (hk : b ≤ k) (o : Obj) : Below b A (W.putObj k o) := h.trans (put_low hk W o)

set_option maxRecDepth 100000 in
set_option maxHeartbeats 2000000 in
theorem range_seq {g : Operand} {p : Tmp} {assign body : Go.Code} {Q : Exit → Act → World → Prop} {a : Act} {w : World} {n bs : Nat} (h2 : 2 ≤ n) (L : List UInt8) (hL : L.length ≤ 150000)
    (hg : a.eval g = .func (.func 226) #[] #[.pointer (some ⟨bs + 1, 0, none⟩), .pointer (some ⟨bs, 0, none⟩), .pointer (some ⟨bs + 2, 0, none⟩)])
    (hsz : w.heap.size = bs + 3) (hs : w.cell? ⟨bs, 0, none⟩ = some (.string (strOf L))) (hf : w.frozen? ⟨bs, 0, none⟩ = false) (hp : w.cell? ⟨bs + 1, 0, none⟩ = some (.string ⟨#[46]⟩)) (hv : w.cell? ⟨bs + 2, 0, none⟩ = some (.int .i64 0))
    (I : List (List UInt8) → World → Prop) (Ix : World → Prop) (hI : ∀ pre {W W' : World}, I pre W → Below bs W W' → I pre W') (hIx : ∀ {W W' : World}, Ix W → Below bs W W' → Ix W') (h0 : I [] w) (a1 : List UInt8 → Act)
    (hassign : ∀ (l : Nat) (x : List UInt8) (W : World) (K : Act → World → Prop), K (a1 x) W →
      assign.wpIn (Fence.wide.inRound l) (n - 1 - 1) Tryz.prog (Exit.then K (fun _ _ _ => False)) { tmps := a.tmps.setIfInBounds p (.string (strOf x)), defers := [] } W)
    (hbody : ∀ (l : Nat) (pre : List (List UInt8)) (x : List UInt8) (rest : List (List UInt8)) (W : World), I pre W → pcsL 46 L = pre ++ x :: rest →
      body.wpIn (Fence.wide.inRound l) (n - 1 - 1) Tryz.prog (rndEnd bs (I (pre ++ [x])) Ix W) (a1 x) W)
    (hdone : ∀ W : World, I (pcsL 46 L) W → W.heap[bs + 3]? = some (.deferred (some [])) → Q .normal { a with defers := { target := .collected (bs + 3), args := #[] } :: a.defers } W)
    (hstop : ∀ W : World, Ix W → W.heap[bs + 3]? = some (.deferred (some [])) → Go.Code.ret.wpIn Fence.wide n Tryz.prog Q { a with defers := { target := .collected (bs + 3), args := #[] } :: a.defers } W) :
    (Go.Code.rangeFunc g #[p] assign body).wpIn Fence.wide n Tryz.prog Q a w := by
  refine wpIn_rangeFunc fun fn hfn => ?_
  obtain ⟨R, hR⟩ : ∃ R : LoopState → Option Go.Code → Loop, ∀ st pe, R st pe = { state := st, pending := pe, fn, tmps := a.tmps, params := #[p], assign, body, defers := bs + 3 } := ⟨_, fun _ _ => rfl⟩
  have e0 := run_enterLoop_outer (P := Tryz.prog) (w := w) fn a.tmps #[p] assign body
  rw [hsz, ← hR] at e0
  obtain ⟨W1, hW1⟩ : ∃ W1, (w.alloc (.deferred (some []))).alloc (.loop (R .ready none)) = W1 := ⟨_, rfl⟩
  rw [hW1] at e0
  have hB1 : Below (bs + 3) w W1 := by
    rw [← hW1, ← hsz]
    exact ((Below.refl _ w).alloc (Nat.le_refl _) _).alloc (by simp) _
  have hl1 : W1.heap[bs + 4]? = some (.loop (R .ready none)) := by
    rw [← hW1]
    have := World.alloc_heap_new (w.alloc (.deferred (some []))) (.loop (R .ready none))
    rwa [World.size_alloc, hsz] at this
  have hd1 : W1.heap[bs + 3]? = some (.deferred (some [])) := by
    have h := World.alloc_heap_new w (.deferred (some []))
    rw [hsz] at h
    rw [← hW1]
    exact (Below.heap_alloc _ _ _ (by simp [hsz])).trans h
  refine ⟨bs + 4, _, W1, { target := .fn (.func 226) #[.pointer (some ⟨bs + 1, 0, none⟩), .pointer (some ⟨bs, 0, none⟩), .pointer (some ⟨bs + 2, 0, none⟩)], args := #[.func (.yield (bs + 4)) #[] #[]] }, W1, 226,
    #[.func (.yield (bs + 4)) #[] #[], .pointer (some ⟨bs + 1, 0, none⟩), .pointer (some ⟨bs, 0, none⟩), .pointer (some ⟨bs + 2, 0, none⟩)], W1, e0, ?_, fun _ _ => trivial, ?_, fun _ => by omega, ?_⟩
  · simp only [resolve, hg]
    simp [go_sem]
  · simp [invoke, go_sem]
  · refine (iter_any (bs + 4) bs (n - 1) (by omega) L hL
      (fun pre W => I pre W ∧ W.heap[bs + 4]? = some (.loop (R .ready none)) ∧ W.heap[bs + 3]? = some (.deferred (some [])))
      (fun W => Ix W ∧ W.heap[bs + 4]? = some (.loop (R .done (some .ret))) ∧ W.heap[bs + 3]? = some (.deferred (some [])))
      (fun pre W v ⟨i1, i2, i3⟩ => ⟨hI pre i1 ((Below.refl bs W).setCell (p := ⟨bs, 0, none⟩) (Nat.le_refl _) v), (Below.heap_setCell W ⟨bs, 0, none⟩ v (bs + 4) (by show bs + 4 ≠ bs; omega)).trans i2, (Below.heap_setCell W ⟨bs, 0, none⟩ v (bs + 3) (by show bs + 3 ≠ bs; omega)).trans i3⟩)
      ?_ W1 ((hB1.cell (p := ⟨bs, 0, none⟩) (show bs < bs + 3 by omega)).trans hs) ((hB1.frozen (p := ⟨bs, 0, none⟩) (show bs < bs + 3 by omega)).trans hf)
      ((hB1.cell (p := ⟨bs + 1, 0, none⟩) (show bs + 1 < bs + 3 by omega)).trans hp) ((hB1.cell (p := ⟨bs + 2, 0, none⟩) (show bs + 2 < bs + 3 by omega)).trans hv)
      ⟨hI [] h0 (hB1.mono (by omega)), hl1, hd1⟩).mono ?_
    · rintro pre x rest W ⟨i1, i2, i3⟩ hpc
      have hlt : bs + 4 < W.heap.size := (Array.getElem?_eq_some_iff.1 i2).1
      have hy := run_yield (P := Tryz.prog) (args := #[.string (strOf x)]) i2 (by rw [hR]; rfl)
      rw [hR] at hy
      have ht : (#[p].zip #[Value.string (strOf x)]).foldl (fun (t : Array Value) ((q, v) : Tmp × Value) => t.setIfInBounds q v) a.tmps = a.tmps.setIfInBounds p (.string (strOf x)) := by simp
      simp only [ht] at hy
      have hbusy := run_beginRound (P := Tryz.prog) i2 (by rw [hR])
      rw [show ({ R .ready none with state := .busy } : Loop) = R .busy none by rw [hR, hR]] at hbusy
      obtain ⟨W2, hW2⟩ : ∃ W2, W.putObj (bs + 4) (.loop (R .busy none)) = W2 := ⟨_, rfl⟩
      rw [hW2] at hbusy
      have hl2 : W2.heap[bs + 4]? = some (.loop (R .busy none)) := by rw [← hW2]; exact World.putObj_heap_same hlt
      have hd2 : W2.heap[bs + 3]? = some (.deferred (some [])) := by rw [← hW2]; exact (World.putObj_heap_other (by omega)).trans i3
      have hb2 : Below (bs + 3) W W2 := by rw [← hW2]; exact put_low (by omega) _ _
      refine ⟨fn, _, assign, body, hy, roundIn_of_wpIn hfn ?_⟩
      refine hassign _ x W _ ?_
      refine ⟨W2, hbusy, ?_⟩
      refine wpIn_mono (hbody _ pre x rest W2 (hI pre i1 (hb2.mono (by omega))) hpc) ?_
      intro e a3 W3 h3
      cases e with
      | normal =>
        obtain ⟨k1, k2, k3⟩ := h3
        have hl3 := k1.same _ _ hl2 rfl
        have hd3 := k1.same _ _ hd2 rfl
        have he := run_endRound (P := Tryz.prog) none hl3
        have hb3 : Below (bs + 3) W3 (W3.putObj (bs + 4) (.loop (R .ready none))) := put_low (by omega) _ _
        refine ⟨_, _, he, .inl ⟨rfl, ?_, ?_⟩⟩
        · rw [show ({ R .busy none with state := if (none : Option Go.Code).isNone then .ready else .done, pending := none } : Loop) = R .ready none by rw [hR, hR]; rfl]
          exact ⟨hI _ k3 (hb3.mono (by omega)), World.putObj_heap_same (Array.getElem?_eq_some_iff.1 hl3).1, (World.putObj_heap_other (by omega)).trans hd3⟩
        · exact put_lowest (hb2.trans k2) (by omega) _
      | ret =>
        obtain ⟨k1, k3⟩ := h3
        have hl3 := k1.same _ _ hl2 rfl
        have hd3 := k1.same _ _ hd2 rfl
        have he := run_endRound (P := Tryz.prog) (some .ret) hl3
        refine ⟨_, _, he, .inr ⟨rfl, ?_⟩⟩
        rw [show ({ R .busy none with state := if (some Go.Code.ret).isNone then .ready else .done, pending := some .ret } : Loop) = R .done (some .ret) by rw [hR, hR]; rfl]
        exact ⟨hIx k3 (put_low (by omega) _ _), World.putObj_heap_same (Array.getElem?_eq_some_iff.1 hl3).1, (World.putObj_heap_other (by omega)).trans hd3⟩
      | exit id => exact h3.elim
      | goto t => exact h3.elim
      | panic c => exact h3.elim
      | outgrown => exact h3.elim
    · rintro e W2 ⟨⟨v, rfl⟩, ⟨i1, i2, i3⟩ | ⟨i1, i2, i3⟩⟩
      · have he := run_endLoop (P := Tryz.prog) i2 (by rw [hR]; simp)
        rw [show (R .ready none).pending = none by rw [hR]] at he
        exact ⟨none, _, he, hdone _ (hI _ i1 (put_low (by omega) _ _)) ((World.putObj_heap_other (by omega)).trans i3)⟩
      · have he := run_endLoop (P := Tryz.prog) i2 (by rw [hR]; simp)
        rw [show (R .done (some .ret)).pending = some .ret by rw [hR]] at he
        exact ⟨some .ret, _, he, hstop _ (hIx i1 (put_low (by omega) _ _)) ((World.putObj_heap_other (by omega)).trans i3)⟩
end Go.Proofs.YtbpdenfiifcfcaaGreatDoor
