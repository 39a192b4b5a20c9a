/-
  The contract of (*hash.Stream).Sum on a stream that is not nil: it returns the SHA-256 of the bytes that the stream stands for; nothing that was there before the call has changed.
  The contracts of hash.Sum, hash.Short, hash.Start and the stream's Len: for every list of strings of fewer than 2^61 bytes together, the SHA-256 of its strings, one after the other.
  Nothing is left of this text.
  The contract of the law package's sanity check: the two examples of the chapter hold.
-/
import Derived.Test.YtpmlkofceidnjaaGreatDoorAam
import Derived.Deep.DeepCutAuto
import Derived.Test.YtpmlkofceidnjaaGreatDoorAaa
import Derived.Test.YtpmlkofceidnjaaGreatDoorAal
import Derived.OwnWalk
import Derived.Laws.BytesString
import Derived.Deep.RegionLaw
namespace Go.Proofs.YtpmlkofceidnjaaGreatDoor
open Go.RowKit

/-- Loads, stores and new variables of whole arrays under names of their own, so that the walk's simp does not take them apart cell by cell. -/
def storeBlk (x v : Value) : Sem Unit := Instr.storeAt 104 x v
theorem storeBlk_eq (x v : Value) : Instr.storeAt 104 x v = storeBlk x v := rfl
def newBlk (h : Bool) (old : Value) : Sem Value := Instr.alloc 104 h old
theorem newBlk_eq (h : Bool) (old : Value) : Instr.alloc 104 h old = newBlk h old := rfl
def newSt (h : Bool) (old : Value) : Sem Value := Instr.alloc 103 h old
theorem newSt_eq (h : Bool) (old : Value) : Instr.alloc 103 h old = newSt h old := rfl
theorem zeroBlk : ∀ w, (zeroValue 104).run Tryz.prog w = .ok (.agg (byteRow [])) w := by intro w; kernel_rfl
theorem run_newBlk (w : World) : (newBlk true (.tuple #[])).run Tryz.prog w = .ok (.pointer (some ⟨w.heap.size, 0, none⟩)) (w.alloc (.cells (byteRow []) 104)) := by
  unfold newBlk
  simp only [Instr.alloc, Sem.run_bind, zeroBlk, Result.andThen_ok, newVar, newRow, run_newObj_alloc, Sem.run_pure, Value.cells]
theorem run_newSt (w : World) : (newSt true (.tuple #[])).run Tryz.prog w = .ok (.pointer (some ⟨w.heap.size, 0, none⟩)) (w.alloc (.cells zero8 103)) := by
  unfold newSt
  simp only [Instr.alloc, Sem.run_bind, zeroSt, Result.andThen_ok, newVar, newRow, run_newObj_alloc, Sem.run_pure, Value.cells]

/-! What a call has made since the world w: rules by which simp sees what a store meets (each an equivalence, for simp's conditions may not be nested deep). -/
def NewIn (w W : World) : Prop := Below w.heap.size w W
def OwnSt (W : World) (n : Nat) : Prop := ∃ cs, cs.size = 8 ∧ W.heap[n]? = some (.cells cs 103 (0, 0))
def OwnBlk (W : World) (n : Nat) : Prop := ∃ cs, cs.size = 64 ∧ W.heap[n]? = some (.cells cs 104 (0, 0))
def AtStr (p : Nat) (s : St) (blk : List UInt8) (N : Nat) (W : World) : Prop := W.heap[p]? = some (.cells (strRow s blk N) 106 (0, 0))
theorem newIn_self (w : World) : NewIn w w := Below.refl _ _
theorem newIn_drew (w W : World) (h : NewIn w W) : NewIn w W.drew := Below.drew h
theorem newIn_alloc (w W : World) (o : Obj) (h : NewIn w W) : NewIn w (W.alloc o) := Below.alloc h (Below.size h) o
theorem newIn_call {w W W' : World} (hb : Below W.heap.size W W') (h : NewIn w W) : NewIn w W' := Below.trans h (hb.mono (Below.size h))
theorem lt_of_some {w : World} {n : Nat} {o : Obj} (h : w.heap[n]? = some o) : n < w.heap.size := (Array.getElem?_eq_some_iff.1 h).1
theorem heap_alloc_if (W : World) (o : Obj) (n : Nat) : (W.alloc o).heap[n]? = if n = W.heap.size then some o else W.heap[n]? := by
  show (W.heap.push o)[n]? = _
  rw [Array.getElem?_push]
theorem ownSt_new (W : World) (n : Nat) : OwnSt (W.alloc (.cells zero8 103)) n ↔ n = W.heap.size ∨ OwnSt W n := by
  unfold OwnSt; rw [heap_alloc_if]
  by_cases h : n = W.heap.size
  · simp only [h, if_true, true_or, iff_true]; exact ⟨zero8, rfl, rfl⟩
  · simp [h]
theorem ownBlk_new (W : World) (n : Nat) : OwnBlk (W.alloc (.cells (byteRow []) 104)) n ↔ n = W.heap.size ∨ OwnBlk W n := by
  unfold OwnBlk; rw [heap_alloc_if]
  by_cases h : n = W.heap.size
  · simp only [h, if_true, true_or, iff_true]; exact ⟨byteRow [], byteRow_size _, rfl⟩
  · simp [h]
theorem ownSt_blk (W : World) (n : Nat) (cs : Array Value) : OwnSt (W.alloc (.cells cs 104)) n ↔ OwnSt W n := by
  unfold OwnSt; rw [heap_alloc_if]
  by_cases h : n = W.heap.size
  · subst h; simp
  · simp [h]
theorem ownBlk_st (W : World) (n : Nat) (cs : Array Value) : OwnBlk (W.alloc (.cells cs 103)) n ↔ OwnBlk W n := by
  unfold OwnBlk; rw [heap_alloc_if]
  by_cases h : n = W.heap.size
  · subst h; simp
  · simp [h]
theorem atStr_st (W : World) (p : Nat) (s : St) (blk : List UInt8) (N : Nat) (cs : Array Value) : AtStr p s blk N (W.alloc (.cells cs 103)) ↔ AtStr p s blk N W := by
  unfold AtStr; rw [heap_alloc_if]
  by_cases h : p = W.heap.size
  · subst h; simp
  · simp [h]
theorem atStr_blk (W : World) (p : Nat) (s : St) (blk : List UInt8) (N : Nat) (cs : Array Value) : AtStr p s blk N (W.alloc (.cells cs 104)) ↔ AtStr p s blk N W := by
  unfold AtStr; rw [heap_alloc_if]
  by_cases h : p = W.heap.size
  · subst h; simp
  · simp [h]
theorem ownSt_drew (W : World) (n : Nat) : OwnSt W.drew n ↔ OwnSt W n := Iff.rfl
theorem ownBlk_drew (W : World) (n : Nat) : OwnBlk W.drew n ↔ OwnBlk W n := Iff.rfl
theorem atStr_drew (W : World) (p : Nat) (s : St) (blk : List UInt8) (N : Nat) : AtStr p s blk N W.drew ↔ AtStr p s blk N W := Iff.rfl
theorem ownSt_call {W W' : World} (n : Nat) (hb : Below W.heap.size W W') (h : OwnSt W n) : OwnSt W' n := by
  obtain ⟨cs, h2, h3⟩ := h
  exact ⟨cs, h2, (hb.block n (lt_of_some h3)).trans h3⟩
theorem ownBlk_call {W W' : World} (n : Nat) (hb : Below W.heap.size W W') (h : OwnBlk W n) : OwnBlk W' n := by
  obtain ⟨cs, h2, h3⟩ := h
  exact ⟨cs, h2, (hb.block n (lt_of_some h3)).trans h3⟩
theorem atStr_call {W W' : World} {p : Nat} {s : St} {blk : List UInt8} {N : Nat} (hb : Below W.heap.size W W') (h : AtStr p s blk N W) : AtStr p s blk N W' := (hb.block p (lt_of_some h)).trans h
theorem own_ne {W : World} {n m : Nat} (h : OwnBlk W n) (k : OwnSt W m) : n ≠ m := by
  rintro rfl
  obtain ⟨_, _, h3⟩ := h
  obtain ⟨_, _, k3⟩ := k
  rw [h3] at k3
  simp at k3

theorem atStr_row {W : World} {p : Nat} {s : St} {blk : List UInt8} {N a : Nat} {c : Array Value} (h : AtStr p s blk N W) (k : OwnSt W a) : AtStr p s blk N (W.setRow a c) := by
  have hne : p ≠ a := by
    rintro rfl
    obtain ⟨_, _, k3⟩ := k
    unfold AtStr at h
    rw [h] at k3
    simp at k3
  exact (setRow_other _ _ _ _ hne).trans h

/-- What the statement that copies state and block leaves. -/
theorem copied {w W : World} {a b : Nat} {c d : Array Value} (hW : NewIn w W) (ha : OwnSt W a) (hb : OwnBlk W b) (h1 : w.heap.size ≤ a) (h2 : w.heap.size ≤ b) :
    ((W.setRow a c).setRow b d).heap[a]? = some (.cells c 103 (0, 0)) ∧ ((W.setRow a c).setRow b d).heap[b]? = some (.cells d 104 (0, 0)) ∧ Below w.heap.size w ((W.setRow a c).setRow b d) ∧ w.heap.size ≤ a ∧ w.heap.size ≤ b ∧ b ≠ a := by
  have hne := own_ne hb ha
  refine ⟨?_, ?_, below_setRow (below_setRow hW _ _ h1) _ _ h2, h1, h2, hne⟩
  · obtain ⟨cs, _, h3⟩ := ha
    rw [setRow_other _ _ _ _ (Ne.symm hne)]; exact setRow_heap _ _ _ _ _ _ h3
  · obtain ⟨cs, _, h3⟩ := hb
    exact setRow_heap _ _ _ _ _ _ ((setRow_other _ _ _ _ hne).trans h3)

theorem run_stSt (W : World) (n : Nat) (s : St) (h : OwnSt W n) : (storeSt (.pointer (some ⟨n, 0, none⟩)) (.agg (stRow s))).run Tryz.prog W = .ok () (W.setRow n (stRow s)) := by
  obtain ⟨cs, h2, h3⟩ := h
  have := run_storeVar_row (P := Tryz.prog) W n _ 103 cs (stRow s) h3 (by kernel_rfl) (by rw [h2]; rfl) (stRow_one s)
  unfold storeSt
  simp only [Instr.storeAt, Instr.sureAddr, Sem.run_bind, Sem.run_pure, Result.andThen_ok, this]
theorem run_stBlk (W : World) (n a : Nat) (c : Array Value) (l : List UInt8) (h : OwnBlk W n) (k : OwnSt W a) : (storeBlk (.pointer (some ⟨n, 0, none⟩)) (.agg (byteRow l))).run Tryz.prog (W.setRow a c) = .ok () ((W.setRow a c).setRow n (byteRow l)) := by
  have hne := own_ne h k
  obtain ⟨cs, h2, h3⟩ := h
  have := run_storeVar_row (P := Tryz.prog) (W.setRow a c) n _ 104 cs (byteRow l) ((setRow_other _ _ _ _ hne).trans h3) (by rw [byteRow_size]; kernel_rfl) (by rw [h2, byteRow_size]) (byteRow_one l)
  unfold storeBlk
  simp only [Instr.storeAt, Instr.sureAddr, Sem.run_bind, Sem.run_pure, Result.andThen_ok, this]

attribute [local go_sem ↓] loadBlk_eq storeSt_eq storeBlk_eq newBlk_eq newSt_eq
attribute [local go_sem] run_newBlk run_newSt ownSt_new ownBlk_new ownSt_blk ownBlk_st atStr_st atStr_blk ownSt_drew ownBlk_drew atStr_drew

theorem cleared {w wc : World} {a b u : Nat} {C R : Array Value} {v : Value} (hB : wc.heap[b]? = some (.cells C 104 (0, 0))) (hne : b ≠ a) (hbl : Below w.heap.size w wc) (hb : w.heap.size ≤ b) :
    ((wc.setCell ⟨b, u, none⟩ v).setRow b R).heap[a]? = wc.heap[a]? ∧ ((wc.setCell ⟨b, u, none⟩ v).setRow b R).heap[b]? = some (.cells R 104 (0, 0)) ∧ Below w.heap.size w ((wc.setCell ⟨b, u, none⟩ v).setRow b R) :=
  ⟨(setRow_other _ _ _ _ (Ne.symm hne)).trans (heap_setCell_other _ _ _ _ (Ne.symm hne)), setRow_heap _ _ _ _ _ _ (heap_setCell_same _ _ _ _ _ _ hB), below_setRow (Below.setCell hbl (p := ⟨b, u, none⟩) hb v) _ _ hb⟩

theorem zeroByte : ∀ w, (zeroValue 5).run Tryz.prog w = .ok (.int .u8 0) w := by intro w; kernel_rfl

set_option maxRecDepth 100000 in
set_option maxHeartbeats 2000000 in
theorem sum_any (p : Nat) (m : List UInt8) (w : World) (hs : IsStr 106 w p m) (hK : Holds w 0 kWords) (hm : m.length < 2305843009213693952) :
    Calls Tryz.prog 77 #[.pointer (some ⟨p, 0, none⟩)] w fun e w' => e = .returned (.string ⟨(sha m).toArray⟩) ∧ Below w.heap.size w w' := by
  obtain ⟨s, blk, hl, hg, h1, h2⟩ := hs
  obtain ⟨N, hN⟩ : ∃ N, N = m.length := ⟨_, rfl⟩
  rw [← hN] at hg h2 h1 hm
  have hp : p < w.heap.size := (Array.getElem?_eq_some_iff.1 hg).1
  have HL := Lib.hid hl
  have HN := Lib.hid hN
  have H1 := Lib.hid h1
  have H2 := Lib.hid h2
  have HG := Lib.hid hg
  have HK := Lib.hid hK
  have hP : AtStr p s blk N w := hg
  have hT : ∀ W, AtStr p s blk N W → (loadBlk (.pointer (some ⟨p, 8, none⟩))).run Tryz.prog W = .ok (.agg (byteRow blk)) W := fun W h => run_loadBlk HL.out h
  have hT2 : ∀ W a c, AtStr p s blk N W → OwnSt W a → (loadBlk (.pointer (some ⟨p, 8, none⟩))).run Tryz.prog (W.setRow a c) = .ok (.agg (byteRow blk)) (W.setRow a c) := fun W a c h k => run_loadBlk HL.out (atStr_row h k)
  have hS1 : ∀ W n, OwnSt W n → (storeSt (.pointer (some ⟨n, 0, none⟩)) (.agg (stRow (nextSt s N)))).run Tryz.prog W = .ok () (W.setRow n (stRow (nextSt s N))) := fun W n => run_stSt W n (nextSt s N)
  have hS2 : ∀ W n a c, OwnBlk W n → OwnSt W a → (storeBlk (.pointer (some ⟨n, 0, none⟩)) (.agg (byteRow blk))).run Tryz.prog (W.setRow a c) = .ok () ((W.setRow a c).setRow n (byteRow blk)) := fun W n a c => run_stBlk W n a c blk
  clear hl hN h1 h2 hg hK
  go_enter Tryz.func77, Tryz.ntmps77
  go_upto_region 3 with fail
  go_cut [3, 4] (fun s3 s4 wx => ∃ a b : Nat, s3 = .pointer (some ⟨a, 0, none⟩) ∧ s4 = .pointer (some ⟨b, 0, none⟩) ∧ wx.heap[a]? = some (.cells (stRow (nextSt s N)) 103 (0, 0)) ∧ wx.heap[b]? = some (.cells (byteRow blk) 104 (0, 0)) ∧ Below w.heap.size w wx ∧ w.heap.size ≤ a ∧ w.heap.size ≤ b ∧ b ≠ a)
  case first =>
    --DEVCUT
    go_region_law (first | (go_simp; go_at_call 89; refine (chain_any p s blk N HL.out (by omega) _ ?_).mono ?_; (show AtStr p s blk N _; go_simp); rintro e w1 ⟨rfl, hb1⟩; have hn1 : NewIn w w1 := (newIn_call hb1 (by repeat (first | exact newIn_self _ | apply newIn_drew | apply newIn_alloc))); have hz1 := Below.size hn1; have ho1 := (fun n => ownSt_call n hb1); have ho2 := (fun n => ownBlk_call n hb1); have ho3 : AtStr p s blk N w1 := (atStr_call hb1 (by go_simp)); clear hb1))
    all_goals
      clear hT hT2 hS1 hS2
      go_wp2_with fail
      go_meet
      refine ⟨_, _, rfl, rfl, copied ?_ ?_ ?_ ?_ ?_⟩
      · repeat (first | assumption | exact newIn_self _ | apply newIn_drew | apply newIn_alloc)
      · go_simp
      · go_simp
      · omega
      · omega
    --DEVEND
  case rest =>
    obtain ⟨a, b, rfl, rfl, hA, hB, hbl, ha, hb, hne⟩ := hcut
    obtain ⟨u, hu⟩ : ∃ u, u = N % 64 := ⟨_, rfl⟩
    have hrem : (N : Int) % 64 = (u : Int) := by omega
    have hu64 : u < 64 := by omega
    have HU := Lib.hid hu
    have hgp : wc.heap[p]? = some (.cells (strRow s blk N) 106 (0, 0)) := (hbl.block p hp).trans HG.out
    have hlen := str_len HL.out hgp
    have hcb : wc.cell? ⟨b, u, none⟩ = some (.int .u8 ((at8 blk u).toNat : Nat)) := by rw [cell_of_row wc b u _ _ _ hB, byteRow_get _ _ hu64]
    have hfb := frozen_of_row wc b u _ _ hB
    obtain ⟨off, n, hsl, hon, hres⟩ : ∃ off n : Nat, (∀ wx, (Instr.sliceAt 104 (.pointer (some ⟨b, 0, none⟩)) (some (.int .i64 ((u : Int) + 1))) none none).run Tryz.prog wx = .ok (.slice (some ⟨b, off, none⟩) n n) wx) ∧ off + n ≤ 64 ∧
        splice (byteRow (blk.set u 128)).toList off ((List.replicate n (0 : UInt8)).map bcell) = byteRow (tailBlk blk u) := by
      have hsetl : (blk.set u 128).length = 64 := by simp [HL.out]
      by_cases h63 : u = 63
      · refine ⟨0, 0, fun wx => ?_, by omega, ?_⟩
        · subst h63; exact run_sliceAt_end Tryz.underlying104 sizeByte b 0 wx
        · rw [splice_bytes _ _ _ hsetl (by simp), ← set_take_drop blk u HL.out hu64, h63]
          simp [List.take_of_length_le, HL.out]
      · refine ⟨u + 1, 63 - u, fun wx => ?_, by omega, ?_⟩
        · have := run_sliceAt_low (P := Tryz.prog) Tryz.underlying104 sizeByte b 0 (u + 1) (by omega) wx
          rw [show 64 - (u + 1) = 63 - u by omega, Nat.zero_add] at this
          exact this
        · rw [splice_bytes _ _ _ hsetl (by simp; omega), ← set_take_drop blk u HL.out hu64, List.drop_eq_nil_of_le (by simp [HL.out]; omega), List.append_nil]
    have HA := Lib.hid hA
    have HB := Lib.hid hB
    have HP := Lib.hid hgp
    have HBL := Lib.hid hbl
    have HRES := Lib.hid hres
    clear hA hB hgp hu hres hP hT hT2 hS1 hS2 hbl
    go_upto_if 26 with (refine wpList_clear_bytes rfl (.tmp 24) 53 5 rfl Tryz.underlying53 zeroByte b off n n rfl 104 (byteRow (blk.set u 128)) ((heap_setCell_same _ _ _ _ _ _ HB.out).trans (by rw [← byteRow_set blk u 128 HL.out hu64]; rfl)) (by rw [byteRow_size]; exact hon) ?_; rw [HRES.out]; obtain ⟨k1, k2, k3⟩ := cleared (u := u) (v := .int .u8 128) (R := byteRow (tailBlk blk u)) HB.out hne HBL.out hb; obtain ⟨wd, hwd⟩ : ∃ wd, wd = (wc.setCell ⟨b, u, none⟩ (.int .u8 128)).setRow b (byteRow (tailBlk blk u)) := ⟨_, rfl⟩; rw [← hwd] at k1 k2 k3 ⊢; have HDA := Lib.hid (k1.trans HA.out); have HDB := Lib.hid k2; have HDL := Lib.hid k3; clear k1 k2 k3 hwd hlen hcb hfb hsl)
    go_cut [26] (fun _ wx => ∃ (s1 : St) (blkX : List UInt8), blkX.length = 64 ∧ wx.heap[a]? = some (.cells (stRow s1) 103 (0, 0)) ∧ wx.heap[b]? = some (.cells (byteRow blkX) 104 (0, 0)) ∧ Below w.heap.size w wx ∧ sha m = stBytes (compress s1 (lenBlk blkX N 8)))
    case first =>
      have hslw := fun wx => run_sliceAt_whole (P := Tryz.prog) (n := 63) Tryz.underlying104 sizeByte b 0 wx
      go_wp2_with (first | (refine wpList_load_row rfl 103 (.tmp 3) rfl a rfl 103 (stRow (nextSt s N)) (0, 0) _ HDA.out Tryz.underlying103 rfl (by kernel_rfl) ?_) | (refine wpList_load_row rfl 104 (.tmp 4) rfl b rfl 104 (byteRow (tailBlk blk u)) (0, 0) _ HDB.out Tryz.underlying104 rfl (by kernel_rfl) ?_) | (go_at_call 88; (with_reducible refine (compress_any (nextSt s N) (tailBlk blk u) (tailBlk_length blk u HL.out hu64) _ (HK.out.old HDL.out)).mono ?_); rintro e w2 ⟨rfl, hb2⟩; have HB2 := Lib.hid hb2; clear hb2) | (refine wpList_store_row rfl 103 (.tmp 3) (.tmp 29) rfl a (stRow (compress (nextSt s N) (tailBlk blk u))) rfl rfl 103 (stRow (nextSt s N)) ((HB2.out.block a (lt_of_some HDA.out)).trans HDA.out) (by kernel_rfl) (by rw [stRow_size, stRow_size]) (stRow_one _) ?_) | (refine wpList_clear_bytes rfl (.tmp 30) 53 5 rfl Tryz.underlying53 zeroByte b 0 64 64 rfl 104 (byteRow (tailBlk blk u)) ((setRow_other _ _ _ _ hne).trans ((HB2.out.block b (lt_of_some HDB.out)).trans HDB.out)) (by rw [byteRow_size]; omega) ?_))
      · go_meet
        have h56 : 56 ≤ u := by omega
        have ga2 := (HB2.out.block a (lt_of_some HDA.out)).trans HDA.out
        have gb2 := (HB2.out.block b (lt_of_some HDB.out)).trans HDB.out
        refine ⟨compress (nextSt s N) (tailBlk blk u), List.replicate 64 0, by simp, ?_, ?_, ?_, ?_⟩
        · rw [setRow_other _ _ _ _ (Ne.symm hne)]; exact setRow_heap _ _ _ _ _ _ ga2
        · rw [setRow_heap _ _ _ _ _ _ ((setRow_other _ _ _ _ hne).trans gb2), splice_bytes _ _ _ (tailBlk_length blk u HL.out hu64) (by simp)]
          rw [List.drop_eq_nil_of_le (by rw [tailBlk_length blk u HL.out hu64]; simp)]
          simp
        · exact below_setRow (below_setRow (HDL.out.trans (HB2.out.mono HDL.out.size)) _ _ ha) _ _ hb
        · have := sha_long (m := m) (s := s) HL.out (by rw [← HN.out]; exact H1.out) (by rw [← HN.out]; exact H2.out) (by rw [← HN.out, ← HU.out]; exact h56)
          rw [← HN.out, ← HU.out] at this
          exact this
      · go_meet
        have h56 : u < 56 := by omega
        refine ⟨nextSt s N, tailBlk blk u, tailBlk_length blk u HL.out hu64, HDA.out, HDB.out, HDL.out, ?_⟩
        have := sha_short (m := m) (s := s) HL.out (by rw [← HN.out]; exact H1.out) (by rw [← HN.out]; exact H2.out) (by rw [← HN.out, ← HU.out]; exact h56)
        rw [← HN.out, ← HU.out] at this
        exact this
    case rest =>
      obtain ⟨s1, blkX, hXl, hXA, hXB, hXL, hsha⟩ := hcut
      have hlen := str_len HL.out ((hXL.block p hp).trans HG.out)
      have h0b : 0 ≠ b := by have := HK.out.lt; omega
      have HXl := Lib.hid hXl
      have HXA := Lib.hid hXA
      have HXB := Lib.hid hXB
      have HXL := Lib.hid hXL
      have HSH := Lib.hid hsha
      clear hXl hXA hXB hXL hsha
      go_wp2_with (first | (go_at_call 90; (with_reducible refine (put_any b blkX N HXl.out hm _ HXB.out).mono ?_); rintro e w3 ⟨rfl, hb3, hg3⟩; have HB3 := Lib.hid hb3; have HG3 := Lib.hid hg3; have HA3 := Lib.hid ((hg3.block a (lt_of_some HXA.out) (fun e => hne (Option.some.inj e).symm)).trans HXA.out); have HK3 := Lib.hid ((HK.out.old HXL.out).grown hg3 h0b); clear hb3 hg3) | (go_at_call 88; (with_reducible refine (compress_any s1 (lenBlk blkX N 8) (lenBlk_length _ _ _ HXl.out (by omega)) _ HK3.out).mono ?_); rintro e w4 ⟨rfl, hb4⟩; have HB4 := Lib.hid hb4; clear hb4) | (go_at_call 91; (with_reducible refine (digest_any (compress s1 (lenBlk blkX N 8)) _).mono ?_); rintro e w5 ⟨rfl, hb5⟩; have HB5 := Lib.hid hb5; clear hb5) | (refine wpList_load_row rfl 103 (.tmp 3) rfl a rfl 103 (stRow s1) (0, 0) _ HA3.out Tryz.underlying103 rfl (by kernel_rfl) ?_) | (refine wpList_load_row rfl 104 (.tmp 4) rfl b rfl 104 (byteRow (lenBlk blkX N 8)) (0, 0) _ HB3.out Tryz.underlying104 rfl (by kernel_rfl) ?_) | (refine wpList_store_row rfl 103 (.tmp 3) (.tmp 38) rfl a (stRow (compress s1 (lenBlk blkX N 8))) rfl rfl 103 (stRow s1) ((HB4.out.block a (lt_of_some HA3.out)).trans HA3.out) (by kernel_rfl) (by rw [stRow_size, stRow_size]) (stRow_one _) ?_) | (refine wpList_load_row rfl 103 (.tmp 3) rfl a rfl 103 (stRow (compress s1 (lenBlk blkX N 8))) (0, 0) _ (setRow_heap _ _ _ _ _ _ ((HB4.out.block a (lt_of_some HA3.out)).trans HA3.out)) Tryz.underlying103 rfl (by kernel_rfl) ?_))
      go_ret
      refine ⟨by rw [HSH.out]; rfl, ?_⟩
      have b3 : Below w.heap.size w w3 := HXL.out.trans ⟨HG3.out.os, HG3.out.tape, HG3.out.output, HG3.out.size, fun k hk => HG3.out.block k (Nat.lt_of_lt_of_le hk HXL.out.size) (fun e => by have := Option.some.inj e; omega)⟩
      have b4 := b3.trans (HB4.out.mono b3.size)
      have b5 := below_setRow b4 a (stRow (compress s1 (lenBlk blkX N 8))) ha
      exact b5.trans (HB5.out.mono b5.size)
end Go.Proofs.YtpmlkofceidnjaaGreatDoor
namespace Go.Proofs.YtpmlkofceidnjaaGreatDoor
open Go.RowKit

def cat_z (ss : List ByteArray) : List UInt8 := ss.flatMap fun s => s.data.toList
theorem cat_append_z (a b : List ByteArray) : cat_z (a ++ b) = cat_z a ++ cat_z b := by simp [cat_z]
theorem cat_take_succ_z (ss : List ByteArray) (k : Nat) (h : k < ss.length) : cat_z (ss.take (k + 1)) = cat_z (ss.take k) ++ (ss.getD k ByteArray.empty).data.toList := by
  rw [List.take_succ_eq_append_getElem h, cat_append_z]
  simp [cat_z, h]
theorem cat_take_le_z (ss : List ByteArray) (k : Nat) : (cat_z (ss.take k)).length ≤ (cat_z ss).length := by
  have : cat_z ss = cat_z (ss.take k) ++ cat_z (ss.drop k) := by rw [← cat_append_z, List.take_append_drop]
  rw [this, List.length_append]; omega

/-- The slice value v reads as the strings ss. -/
def Reads_z (w : World) (v : Value) (ss : List ByteArray) : Prop := ∃ a cap, v = .slice a ss.length cap ∧ (ss = [] ∨ ∃ b o, a = some ⟨b, o, none⟩ ∧ ∀ i, i < ss.length → w.cell? ⟨b, o + i, none⟩ = some (.string (ss.getD i ByteArray.empty)))
theorem Reads_z.old {w w' : World} {v : Value} {ss : List ByteArray} (h : Reads_z w v ss) (hb : Below w.heap.size w w') : Reads_z w' v ss := by
  obtain ⟨a, cap, rfl, h⟩ := h
  refine ⟨a, cap, rfl, ?_⟩
  rcases h with h | ⟨b, o, rfl, h⟩
  · exact Or.inl h
  · exact Or.inr ⟨b, o, rfl, fun i hi => (hb.cell (p := ⟨b, o + i, none⟩) (block_lt_of_cell (h i hi))).trans (h i hi)⟩

def zSt : St := ⟨0, 0, 0, 0, 0, 0, 0, 0⟩
theorem zeroStr : ∀ w, (zeroValue 106).run Tryz.prog w = .ok (.agg (strRow zSt (List.replicate 64 0) 0)) w := by intro w; kernel_rfl
theorem isStr_new (w : World) : IsStr 106 (w.alloc (.cells (strRow zSt (List.replicate 64 0) 0) 106)) w.heap.size [] :=
  ⟨zSt, List.replicate 64 0, by simp, heap_alloc_new _ _, by simp, rfl⟩
theorem below_of_grown {B : Nat} {a w w' : World} {p : Nat} (h : Below B a w) (hg : w.grownBy w' (some p)) (hB : B ≤ w.heap.size) (hp : B ≤ p) : Below B a w' :=
  h.grown hg hB (fun k e => by obtain rfl := Option.some.inj e; exact hp)

set_option maxRecDepth 100000 in
set_option maxHeartbeats 1000000 in
theorem hsum_core (a0 : Option Addr) (cap : Nat) (ss : List ByteArray) (w : World) (hv : ss = [] ∨ ∃ b o, a0 = some ⟨b, o, none⟩ ∧ ∀ i, i < ss.length → w.cell? ⟨b, o + i, none⟩ = some (.string (ss.getD i ByteArray.empty)))
    (hn : ss.length < 4611686018427387904) (hK : Holds w 0 kWords) (hm : (cat_z ss).length < 2305843009213693952) :
    Calls Tryz.prog 54 #[.slice a0 ss.length cap] w fun e w' => e = .returned (.string ⟨(sha (cat_z ss)).toArray⟩) ∧ Below w.heap.size w w' := by
  have h0 := hK.lt
  obtain ⟨n, hln⟩ : ∃ n, n = ss.length := ⟨_, rfl⟩
  rw [← hln] at hn ⊢
  have HLN := Lib.hid hln
  have HV := Lib.hid hv
  clear hln hv
  go_enter Tryz.func54, Tryz.ntmps54
  go_wp2_with (refine wpList_alloc_row rfl 106 rfl (strRow zSt (List.replicate 64 0) 0) zeroStr ?_)
  go_loopw [8] (fun i wr => ∃ k : Nat, k ≤ n ∧ i = .int .i64 k ∧ IsStr 106 wr w.heap.size (cat_z (ss.take k)) ∧ Below w.heap.size w wr ∧ Holds wr 0 kWords) (fun i _ => n - (intOf i).toNat)
  case atStart => exact ⟨0, Nat.zero_le _, rfl, isStr_new w, (Below.refl _ _).alloc (Nat.le_refl _) _, hK.old ((Below.refl _ _).alloc (Nat.le_refl _) _)⟩
  case round =>
    obtain ⟨k, hk, rfl, hs, hb, hKr⟩ := hrel
    have HS := Lib.hid hs
    have HB := Lib.hid hb
    have HK := Lib.hid hKr
    clear hs hb hKr
    by_cases hlt : k < n
    · have hd : decide ((k : Int) < (n : Int)) = true := by simp; omega
      obtain ⟨b, o, ha, hc⟩ : ∃ b o, a0 = some ⟨b, o, none⟩ ∧ wr.cell? ⟨b, o + k, none⟩ = some (.string (ss.getD k ByteArray.empty)) := by
        rcases HV.out with h | ⟨b, o, h1, h2⟩
        · have := HLN.out; rw [h] at this; simp at this; omega
        · exact ⟨b, o, h1, (HB.out.cell (p := ⟨b, o + k, none⟩) (block_lt_of_cell (h2 k (by rw [← HLN.out]; exact hlt)))).trans (h2 k (by rw [← HLN.out]; exact hlt))⟩
      obtain ⟨x, hx⟩ : ∃ x, x = ss.getD k ByteArray.empty := ⟨_, rfl⟩
      rw [← hx] at hc
      have HX := Lib.hid hx
      clear hx
      subst ha
      have hsz : (cat_z (ss.take k)).length + x.size < 4611686018427387904 := by
        have h1 := cat_take_succ_z ss k (by rw [← HLN.out]; exact hlt)
        have h2 := cat_take_le_z ss (k + 1)
        rw [h1, List.length_append, ← HX.out] at h2
        have h3 : x.data.toList.length = x.size := rfl
        omega
      have HSZ := Lib.hid hsz
      clear hsz
      go_wp2_with (go_at_call 76; (with_reducible refine (write_any_z w.heap.size x (cat_z (ss.take k)) _ HS.out HK.out (by omega) HSZ.out).mono ?_); rintro e w1 ⟨rfl, hs1, hg1⟩; have HS1 := Lib.hid hs1; have HG1 := Lib.hid hg1; clear hs1 hg1)
      go_roundw
      case rel =>
        refine ⟨k + 1, by omega, by go_num, ?_, below_of_grown HB.out HG1.out HB.out.size (Nat.le_refl _), HK.out.grown HG1.out (by omega)⟩
        rw [cat_take_succ_z ss k (by rw [← HLN.out]; exact hlt), ← HX.out]; exact HS1.out
      case measure => simp [intOf]; omega
    · have ek : k = n := by omega
      subst ek
      have hd : decide ((k : Int) < (k : Int)) = false := by simp
      go_wp2_with (go_at_call 77; (with_reducible refine (sum_any w.heap.size (cat_z (ss.take k)) _ HS.out HK.out (Nat.lt_of_le_of_lt (cat_take_le_z ss k) hm)).mono ?_); rintro e w1 ⟨rfl, hb1⟩; have HB1 := Lib.hid hb1; clear hb1)
      go_ret
      have et : ss.take k = ss := List.take_of_length_le (by rw [← HLN.out]; exact Nat.le_refl _)
      refine ⟨?_, HB.out.trans (HB1.out.mono HB.out.size)⟩
      rw [et]; rfl

theorem hsum_any (v : Value) (ss : List ByteArray) (w : World) (hv : Reads_z w v ss) (hn : ss.length < 4611686018427387904) (hK : Holds w 0 kWords) (hm : (cat_z ss).length < 2305843009213693952) :
    Calls Tryz.prog 54 #[v] w fun e w' => e = .returned (.string ⟨(sha (cat_z ss)).toArray⟩) ∧ Below w.heap.size w w' := by
  obtain ⟨a, cap, rfl, h⟩ := hv
  exact hsum_core a cap ss w h hn hK hm

def shaStr (m : List UInt8) : ByteArray := ⟨(sha m).toArray⟩
theorem sha_length (m : List UInt8) : (sha m).length = 32 := by unfold sha; exact stBytes_length _
theorem shaStr_size (m : List UInt8) : (shaStr m).size = 32 := by
  show (sha m).toArray.size = 32
  rw [List.size_toArray, sha_length]
def shortStr (m : List UInt8) : ByteArray := ⟨((sha m).take 16).toArray⟩
theorem short_extract (m : List UInt8) : (shaStr m).extract 0 16 = shortStr m := by
  unfold shaStr shortStr
  apply ByteArray.ext
  simp

set_option maxHeartbeats 400000 in
theorem short_any (v : Value) (ss : List ByteArray) (w : World) (hv : Reads_z w v ss) (hn : ss.length < 4611686018427387904) (hK : Holds w 0 kWords) (hm : (cat_z ss).length < 2305843009213693952) :
    Calls Tryz.prog 32 #[v] w fun e w' => e = .returned (.string (shortStr (cat_z ss))) ∧ Below w.heap.size w w' := by
  have HV := Lib.hid hv
  have HK := Lib.hid hK
  have HM := Lib.hid hm
  have hsz : (shaStr (cat_z ss)).size = 32 := shaStr_size _
  have hex := short_extract (cat_z ss)
  clear hv hK hm
  go_enter Tryz.func32, Tryz.ntmps32
  go_wp2_with (go_at_call 54; refine (hsum_any v ss _ HV.out hn HK.out HM.out).mono ?_; rintro e w1 ⟨he, hb1⟩; obtain rfl : e = .returned (.string (shaStr (cat_z ss))) := he; have HB1 := Lib.hid hb1; clear hb1)
  go_ret
  exact ⟨rfl, HB1.out⟩

end Go.Proofs.YtpmlkofceidnjaaGreatDoor

namespace Go.Proofs.YtpmlkofceidnjaaGreatDoor
open Go.RowKit

theorem _root_.Go.RowKit.Below.next {a w w' : World} (h : Below a.heap.size a w) (k : Below w.heap.size w w') : Below a.heap.size a w' := h.trans (k.mono h.size)

theorem reads_row (W : World) (ss : List ByteArray) (E : TypeId) : Reads_z (W.alloc (.cells (ss.map Value.string).toArray E)) (.slice (some ⟨W.heap.size, 0, none⟩) ss.length ss.length) ss :=
  ⟨_, _, rfl, Or.inr ⟨W.heap.size, 0, rfl, fun i hi => by
    rw [Nat.zero_add, cell_of_row _ _ _ _ _ _ (heap_alloc_new W _)]
    simp [hi]⟩⟩
end Go.Proofs.YtpmlkofceidnjaaGreatDoor
