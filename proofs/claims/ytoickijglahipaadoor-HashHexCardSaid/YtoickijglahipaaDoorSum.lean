/-
  The contract of (*hash.Stream).Sum on a stream that is not nil: it returns the SHA-256 of the bytes that the stream stands for; nothing that was there before the call has changed.
-/
import Derived.Test.YtoickijglahipaaDoorPut
import Derived.Deep.DeepCutAuto
namespace Go.Proofs.YtoickijglahipaaDoor
open Go.RowKit

/-- Loads, stores and new variables of whole arrays under names of their own, so that the walk's simp does not take them apart cell by cell. -/
def storeBlk (x v : Value) : Sem Unit := Instr.storeAt 38 x v
theorem storeBlk_eq (x v : Value) : Instr.storeAt 38 x v = storeBlk x v := rfl
def newBlk (h : Bool) (old : Value) : Sem Value := Instr.alloc 38 h old
theorem newBlk_eq (h : Bool) (old : Value) : Instr.alloc 38 h old = newBlk h old := rfl
def newSt (h : Bool) (old : Value) : Sem Value := Instr.alloc 37 h old
theorem newSt_eq (h : Bool) (old : Value) : Instr.alloc 37 h old = newSt h old := rfl
theorem zeroBlk : ∀ w, (zeroValue 38).run Tryd.prog w = .ok (.agg (byteRow [])) w := by intro w; kernel_rfl
theorem run_newBlk (w : World) : (newBlk true (.tuple #[])).run Tryd.prog w = .ok (.pointer (some ⟨w.heap.size, 0, none⟩)) (w.alloc (.cells (byteRow []) 38)) := by
  unfold newBlk
  simp only [Instr.alloc, Sem.run_bind, zeroBlk, Result.andThen_ok, newVar, newRow, run_newObj_alloc, Sem.run_pure, Value.cells]
theorem run_newSt (w : World) : (newSt true (.tuple #[])).run Tryd.prog w = .ok (.pointer (some ⟨w.heap.size, 0, none⟩)) (w.alloc (.cells zero8 37)) := by
  unfold newSt
  simp only [Instr.alloc, Sem.run_bind, zeroSt, Result.andThen_ok, newVar, newRow, run_newObj_alloc, Sem.run_pure, Value.cells]

/-! What a call has made since the world w: rules by which simp sees what a store meets (each an equivalence, for simp's conditions may not be nested deep). -/
def NewIn (w W : World) : Prop := Below w.heap.size w W
def OwnSt (W : World) (n : Nat) : Prop := ∃ cs, cs.size = 8 ∧ W.heap[n]? = some (.cells cs 37 (0, 0))
def OwnBlk (W : World) (n : Nat) : Prop := ∃ cs, cs.size = 64 ∧ W.heap[n]? = some (.cells cs 38 (0, 0))
def AtStr (p : Nat) (s : St) (blk : List UInt8) (N : Nat) (W : World) : Prop := W.heap[p]? = some (.cells (strRow s blk N) 40 (0, 0))
theorem newIn_self (w : World) : NewIn w w := Below.refl _ _
theorem newIn_drew (w W : World) (h : NewIn w W) : NewIn w W.drew := Below.drew h
theorem newIn_alloc (w W : World) (o : Obj) (h : NewIn w W) : NewIn w (W.alloc o) := Below.alloc h (Below.size h) o
theorem newIn_call {w W W' : World} (hb : Below W.heap.size W W') (h : NewIn w W) : NewIn w W' := Below.trans h (hb.mono (Below.size h))
theorem lt_of_some {w : World} {n : Nat} {o : Obj} (h : w.heap[n]? = some o) : n < w.heap.size := (Array.getElem?_eq_some_iff.1 h).1
theorem heap_alloc_if (W : World) (o : Obj) (n : Nat) : (W.alloc o).heap[n]? = if n = W.heap.size then some o else W.heap[n]? := by
  show (W.heap.push o)[n]? = _
  rw [Array.getElem?_push]
theorem ownSt_new (W : World) (n : Nat) : OwnSt (W.alloc (.cells zero8 37)) n ↔ n = W.heap.size ∨ OwnSt W n := by
  unfold OwnSt; rw [heap_alloc_if]
  by_cases h : n = W.heap.size
  · simp only [h, if_true, true_or, iff_true]; exact ⟨zero8, rfl, rfl⟩
  · simp [h]
theorem ownBlk_new (W : World) (n : Nat) : OwnBlk (W.alloc (.cells (byteRow []) 38)) n ↔ n = W.heap.size ∨ OwnBlk W n := by
  unfold OwnBlk; rw [heap_alloc_if]
  by_cases h : n = W.heap.size
  · simp only [h, if_true, true_or, iff_true]; exact ⟨byteRow [], byteRow_size _, rfl⟩
  · simp [h]
theorem ownSt_blk (W : World) (n : Nat) (cs : Array Value) : OwnSt (W.alloc (.cells cs 38)) n ↔ OwnSt W n := by
  unfold OwnSt; rw [heap_alloc_if]
  by_cases h : n = W.heap.size
  · subst h; simp
  · simp [h]
theorem ownBlk_st (W : World) (n : Nat) (cs : Array Value) : OwnBlk (W.alloc (.cells cs 37)) n ↔ OwnBlk W n := by
  unfold OwnBlk; rw [heap_alloc_if]
  by_cases h : n = W.heap.size
  · subst h; simp
  · simp [h]
theorem atStr_st (W : World) (p : Nat) (s : St) (blk : List UInt8) (N : Nat) (cs : Array Value) : AtStr p s blk N (W.alloc (.cells cs 37)) ↔ AtStr p s blk N W := by
  unfold AtStr; rw [heap_alloc_if]
  by_cases h : p = W.heap.size
  · subst h; simp
  · simp [h]
theorem atStr_blk (W : World) (p : Nat) (s : St) (blk : List UInt8) (N : Nat) (cs : Array Value) : AtStr p s blk N (W.alloc (.cells cs 38)) ↔ AtStr p s blk N W := by
  unfold AtStr; rw [heap_alloc_if]
  by_cases h : p = W.heap.size
  · subst h; simp
  · simp [h]
theorem ownSt_drew (W : World) (n : Nat) : OwnSt W.drew n ↔ OwnSt W n := Iff.rfl
theorem ownBlk_drew (W : World) (n : Nat) : OwnBlk W.drew n ↔ OwnBlk W n := Iff.rfl
theorem atStr_drew (W : World) (p : Nat) (s : St) (blk : List UInt8) (N : Nat) : AtStr p s blk N W.drew ↔ AtStr p s blk N W := Iff.rfl
theorem ownSt_call {W W' : World} (n : Nat) (hb : Below W.heap.size W W') (h : OwnSt W n) : OwnSt W' n := by
  obtain ⟨cs, h2, h3⟩ := h
  exact ⟨cs, h2, (hb.block n (lt_of_some h3)).trans h3⟩
theorem ownBlk_call {W W' : World} (n : Nat) (hb : Below W.heap.size W W') (h : OwnBlk W n) : OwnBlk W' n := by
  obtain ⟨cs, h2, h3⟩ := h
  exact ⟨cs, h2, (hb.block n (lt_of_some h3)).trans h3⟩
theorem atStr_call {W W' : World} {p : Nat} {s : St} {blk : List UInt8} {N : Nat} (hb : Below W.heap.size W W') (h : AtStr p s blk N W) : AtStr p s blk N W' := (hb.block p (lt_of_some h)).trans h
theorem own_ne {W : World} {n m : Nat} (h : OwnBlk W n) (k : OwnSt W m) : n ≠ m := by
  rintro rfl
  obtain ⟨_, _, h3⟩ := h
  obtain ⟨_, _, k3⟩ := k
  rw [h3] at k3
  simp at k3

theorem atStr_row {W : World} {p : Nat} {s : St} {blk : List UInt8} {N a : Nat} {c : Array Value} (h : AtStr p s blk N W) (k : OwnSt W a) : AtStr p s blk N (W.setRow a c) := by
  have hne : p ≠ a := by
    rintro rfl
    obtain ⟨_, _, k3⟩ := k
    unfold AtStr at h
    rw [h] at k3
    simp at k3
  exact (setRow_other _ _ _ _ hne).trans h

/-- What the statement that copies state and block leaves. -/
theorem copied {w W : World} {a b : Nat} {c d : Array Value} (hW : NewIn w W) (ha : OwnSt W a) (hb : OwnBlk W b) (h1 : w.heap.size ≤ a) (h2 : w.heap.size ≤ b) :
    ((W.setRow a c).setRow b d).heap[a]? = some (.cells c 37 (0, 0)) ∧ ((W.setRow a c).setRow b d).heap[b]? = some (.cells d 38 (0, 0)) ∧ Below w.heap.size w ((W.setRow a c).setRow b d) ∧ w.heap.size ≤ a ∧ w.heap.size ≤ b ∧ b ≠ a := by
  have hne := own_ne hb ha
  refine ⟨?_, ?_, below_setRow (below_setRow hW _ _ h1) _ _ h2, h1, h2, hne⟩
  · obtain ⟨cs, _, h3⟩ := ha
    rw [setRow_other _ _ _ _ (Ne.symm hne)]; exact setRow_heap _ _ _ _ _ _ h3
  · obtain ⟨cs, _, h3⟩ := hb
    exact setRow_heap _ _ _ _ _ _ ((setRow_other _ _ _ _ hne).trans h3)

theorem run_stSt (W : World) (n : Nat) (s : St) (h : OwnSt W n) : (storeSt (.pointer (some ⟨n, 0, none⟩)) (.agg (stRow s))).run Tryd.prog W = .ok () (W.setRow n (stRow s)) := by
  obtain ⟨cs, h2, h3⟩ := h
  have := run_storeVar_row (P := Tryd.prog) W n _ 37 cs (stRow s) h3 (by kernel_rfl) (by rw [h2]; rfl) (stRow_one s)
  unfold storeSt
  simp only [Instr.storeAt, Instr.sureAddr, Sem.run_bind, Sem.run_pure, Result.andThen_ok, this]
theorem run_stBlk (W : World) (n a : Nat) (c : Array Value) (l : List UInt8) (h : OwnBlk W n) (k : OwnSt W a) : (storeBlk (.pointer (some ⟨n, 0, none⟩)) (.agg (byteRow l))).run Tryd.prog (W.setRow a c) = .ok () ((W.setRow a c).setRow n (byteRow l)) := by
  have hne := own_ne h k
  obtain ⟨cs, h2, h3⟩ := h
  have := run_storeVar_row (P := Tryd.prog) (W.setRow a c) n _ 38 cs (byteRow l) ((setRow_other _ _ _ _ hne).trans h3) (by rw [byteRow_size]; kernel_rfl) (by rw [h2, byteRow_size]) (byteRow_one l)
  unfold storeBlk
  simp only [Instr.storeAt, Instr.sureAddr, Sem.run_bind, Sem.run_pure, Result.andThen_ok, this]

attribute [local go_sem ↓] loadBlk_eq storeSt_eq storeBlk_eq newBlk_eq newSt_eq
attribute [local go_sem] run_newBlk run_newSt ownSt_new ownBlk_new ownSt_blk ownBlk_st atStr_st atStr_blk ownSt_drew ownBlk_drew atStr_drew

theorem cleared {w wc : World} {a b u : Nat} {C R : Array Value} {v : Value} (hB : wc.heap[b]? = some (.cells C 38 (0, 0))) (hne : b ≠ a) (hbl : Below w.heap.size w wc) (hb : w.heap.size ≤ b) :
    ((wc.setCell ⟨b, u, none⟩ v).setRow b R).heap[a]? = wc.heap[a]? ∧ ((wc.setCell ⟨b, u, none⟩ v).setRow b R).heap[b]? = some (.cells R 38 (0, 0)) ∧ Below w.heap.size w ((wc.setCell ⟨b, u, none⟩ v).setRow b R) :=
  ⟨(setRow_other _ _ _ _ (Ne.symm hne)).trans (heap_setCell_other _ _ _ _ (Ne.symm hne)), setRow_heap _ _ _ _ _ _ (heap_setCell_same _ _ _ _ _ _ hB), below_setRow (Below.setCell hbl (p := ⟨b, u, none⟩) hb v) _ _ hb⟩

theorem zeroByte : ∀ w, (zeroValue 5).run Tryd.prog w = .ok (.int .u8 0) w := by intro w; kernel_rfl

set_option maxRecDepth 100000 in
set_option maxHeartbeats 2000000 in
theorem sum_any (p : Nat) (m : List UInt8) (w : World) (hs : IsStr 40 w p m) (hK : Holds w 0 kWords) (hm : m.length < 2305843009213693952) :
    Calls Tryd.prog 20 #[.pointer (some ⟨p, 0, none⟩)] w fun e w' => e = .returned (.string ⟨(sha m).toArray⟩) ∧ Below w.heap.size w w' := by
  obtain ⟨s, blk, hl, hg, h1, h2⟩ := hs
  obtain ⟨N, hN⟩ : ∃ N, N = m.length := ⟨_, rfl⟩
  rw [← hN] at hg h2 h1 hm
  have hp : p < w.heap.size := (Array.getElem?_eq_some_iff.1 hg).1
  have HL := Lib.hid hl
  have HN := Lib.hid hN
  have H1 := Lib.hid h1
  have H2 := Lib.hid h2
  have HG := Lib.hid hg
  have HK := Lib.hid hK
  have hP : AtStr p s blk N w := hg
  have hT : ∀ W, AtStr p s blk N W → (loadBlk (.pointer (some ⟨p, 8, none⟩))).run Tryd.prog W = .ok (.agg (byteRow blk)) W := fun W h => run_loadBlk HL.out h
  have hT2 : ∀ W a c, AtStr p s blk N W → OwnSt W a → (loadBlk (.pointer (some ⟨p, 8, none⟩))).run Tryd.prog (W.setRow a c) = .ok (.agg (byteRow blk)) (W.setRow a c) := fun W a c h k => run_loadBlk HL.out (atStr_row h k)
  have hS1 : ∀ W n, OwnSt W n → (storeSt (.pointer (some ⟨n, 0, none⟩)) (.agg (stRow (nextSt s N)))).run Tryd.prog W = .ok () (W.setRow n (stRow (nextSt s N))) := fun W n => run_stSt W n (nextSt s N)
  have hS2 : ∀ W n a c, OwnBlk W n → OwnSt W a → (storeBlk (.pointer (some ⟨n, 0, none⟩)) (.agg (byteRow blk))).run Tryd.prog (W.setRow a c) = .ok () ((W.setRow a c).setRow n (byteRow blk)) := fun W n a c => run_stBlk W n a c blk
  clear hl hN h1 h2 hg hK
  go_enter Tryd.func20, Tryd.ntmps20
  go_upto_region 3 with fail
  go_cut [3, 4] (fun s3 s4 wx => ∃ a b : Nat, s3 = .pointer (some ⟨a, 0, none⟩) ∧ s4 = .pointer (some ⟨b, 0, none⟩) ∧ wx.heap[a]? = some (.cells (stRow (nextSt s N)) 37 (0, 0)) ∧ wx.heap[b]? = some (.cells (byteRow blk) 38 (0, 0)) ∧ Below w.heap.size w wx ∧ w.heap.size ≤ a ∧ w.heap.size ≤ b ∧ b ≠ a)
  case first =>
    --DEVCUT
    go_region_law (first | (go_simp; go_at_call 26; refine (chain_any p s blk N HL.out (by omega) _ ?_).mono ?_; (show AtStr p s blk N _; go_simp); rintro e w1 ⟨rfl, hb1⟩; have hn1 : NewIn w w1 := (newIn_call hb1 (by repeat (first | exact newIn_self _ | apply newIn_drew | apply newIn_alloc))); have hz1 := Below.size hn1; have ho1 := (fun n => ownSt_call n hb1); have ho2 := (fun n => ownBlk_call n hb1); have ho3 : AtStr p s blk N w1 := (atStr_call hb1 (by go_simp)); clear hb1))
    all_goals
      clear hT hT2 hS1 hS2
      go_wp2_with fail
      go_meet
      refine ⟨_, _, rfl, rfl, copied ?_ ?_ ?_ ?_ ?_⟩
      · repeat (first | assumption | exact newIn_self _ | apply newIn_drew | apply newIn_alloc)
      · go_simp
      · go_simp
      · omega
      · omega
    --DEVEND
  case rest =>
    obtain ⟨a, b, rfl, rfl, hA, hB, hbl, ha, hb, hne⟩ := hcut
    obtain ⟨u, hu⟩ : ∃ u, u = N % 64 := ⟨_, rfl⟩
    have hrem : (N : Int) % 64 = (u : Int) := by omega
    have hu64 : u < 64 := by omega
    have HU := Lib.hid hu
    have hgp : wc.heap[p]? = some (.cells (strRow s blk N) 40 (0, 0)) := (hbl.block p hp).trans HG.out
    have hlen := str_len HL.out hgp
    have hcb : wc.cell? ⟨b, u, none⟩ = some (.int .u8 ((at8 blk u).toNat : Nat)) := by rw [cell_of_row wc b u _ _ _ hB, byteRow_get _ _ hu64]
    have hfb := frozen_of_row wc b u _ _ hB
    obtain ⟨off, n, hsl, hon, hres⟩ : ∃ off n : Nat, (∀ wx, (Instr.sliceAt 38 (.pointer (some ⟨b, 0, none⟩)) (some (.int .i64 ((u : Int) + 1))) none none).run Tryd.prog wx = .ok (.slice (some ⟨b, off, none⟩) n n) wx) ∧ off + n ≤ 64 ∧
        splice (byteRow (blk.set u 128)).toList off ((List.replicate n (0 : UInt8)).map bcell) = byteRow (tailBlk blk u) := by
      have hsetl : (blk.set u 128).length = 64 := by simp [HL.out]
      by_cases h63 : u = 63
      · refine ⟨0, 0, fun wx => ?_, by omega, ?_⟩
        · subst h63; exact run_sliceAt_end Tryd.underlying38 sizeByte b 0 wx
        · rw [splice_bytes _ _ _ hsetl (by simp), ← set_take_drop blk u HL.out hu64, h63]
          simp [List.take_of_length_le, HL.out]
      · refine ⟨u + 1, 63 - u, fun wx => ?_, by omega, ?_⟩
        · have := run_sliceAt_low (P := Tryd.prog) Tryd.underlying38 sizeByte b 0 (u + 1) (by omega) wx
          rw [show 64 - (u + 1) = 63 - u by omega, Nat.zero_add] at this
          exact this
        · rw [splice_bytes _ _ _ hsetl (by simp; omega), ← set_take_drop blk u HL.out hu64, List.drop_eq_nil_of_le (by simp [HL.out]; omega), List.append_nil]
    have HA := Lib.hid hA
    have HB := Lib.hid hB
    have HP := Lib.hid hgp
    have HBL := Lib.hid hbl
    have HRES := Lib.hid hres
    clear hA hB hgp hu hres hP hT hT2 hS1 hS2 hbl
    go_upto_if 26 with (refine wpList_clear_bytes rfl (.tmp 24) 28 5 rfl Tryd.underlying28 zeroByte b off n n rfl 38 (byteRow (blk.set u 128)) ((heap_setCell_same _ _ _ _ _ _ HB.out).trans (by rw [← byteRow_set blk u 128 HL.out hu64]; rfl)) (by rw [byteRow_size]; exact hon) ?_; rw [HRES.out]; obtain ⟨k1, k2, k3⟩ := cleared (u := u) (v := .int .u8 128) (R := byteRow (tailBlk blk u)) HB.out hne HBL.out hb; obtain ⟨wd, hwd⟩ : ∃ wd, wd = (wc.setCell ⟨b, u, none⟩ (.int .u8 128)).setRow b (byteRow (tailBlk blk u)) := ⟨_, rfl⟩; rw [← hwd] at k1 k2 k3 ⊢; have HDA := Lib.hid (k1.trans HA.out); have HDB := Lib.hid k2; have HDL := Lib.hid k3; clear k1 k2 k3 hwd hlen hcb hfb hsl)
    go_cut [26] (fun _ wx => ∃ (s1 : St) (blkX : List UInt8), blkX.length = 64 ∧ wx.heap[a]? = some (.cells (stRow s1) 37 (0, 0)) ∧ wx.heap[b]? = some (.cells (byteRow blkX) 38 (0, 0)) ∧ Below w.heap.size w wx ∧ sha m = stBytes (compress s1 (lenBlk blkX N 8)))
    case first =>
      have hslw := fun wx => run_sliceAt_whole (P := Tryd.prog) (n := 63) Tryd.underlying38 sizeByte b 0 wx
      go_wp2_with (first | (refine wpList_load_row rfl 37 (.tmp 3) rfl a rfl 37 (stRow (nextSt s N)) (0, 0) _ HDA.out Tryd.underlying37 rfl (by kernel_rfl) ?_) | (refine wpList_load_row rfl 38 (.tmp 4) rfl b rfl 38 (byteRow (tailBlk blk u)) (0, 0) _ HDB.out Tryd.underlying38 rfl (by kernel_rfl) ?_) | (go_at_call 25; (with_reducible refine (compress_any (nextSt s N) (tailBlk blk u) (tailBlk_length blk u HL.out hu64) _ (HK.out.old HDL.out)).mono ?_); rintro e w2 ⟨rfl, hb2⟩; have HB2 := Lib.hid hb2; clear hb2) | (refine wpList_store_row rfl 37 (.tmp 3) (.tmp 29) rfl a (stRow (compress (nextSt s N) (tailBlk blk u))) rfl rfl 37 (stRow (nextSt s N)) ((HB2.out.block a (lt_of_some HDA.out)).trans HDA.out) (by kernel_rfl) (by rw [stRow_size, stRow_size]) (stRow_one _) ?_) | (refine wpList_clear_bytes rfl (.tmp 30) 28 5 rfl Tryd.underlying28 zeroByte b 0 64 64 rfl 38 (byteRow (tailBlk blk u)) ((setRow_other _ _ _ _ hne).trans ((HB2.out.block b (lt_of_some HDB.out)).trans HDB.out)) (by rw [byteRow_size]; omega) ?_))
      · go_meet
        have h56 : 56 ≤ u := by omega
        have ga2 := (HB2.out.block a (lt_of_some HDA.out)).trans HDA.out
        have gb2 := (HB2.out.block b (lt_of_some HDB.out)).trans HDB.out
        refine ⟨compress (nextSt s N) (tailBlk blk u), List.replicate 64 0, by simp, ?_, ?_, ?_, ?_⟩
        · rw [setRow_other _ _ _ _ (Ne.symm hne)]; exact setRow_heap _ _ _ _ _ _ ga2
        · rw [setRow_heap _ _ _ _ _ _ ((setRow_other _ _ _ _ hne).trans gb2), splice_bytes _ _ _ (tailBlk_length blk u HL.out hu64) (by simp)]
          rw [List.drop_eq_nil_of_le (by rw [tailBlk_length blk u HL.out hu64]; simp)]
          simp
        · exact below_setRow (below_setRow (HDL.out.trans (HB2.out.mono HDL.out.size)) _ _ ha) _ _ hb
        · have := sha_long (m := m) (s := s) HL.out (by rw [← HN.out]; exact H1.out) (by rw [← HN.out]; exact H2.out) (by rw [← HN.out, ← HU.out]; exact h56)
          rw [← HN.out, ← HU.out] at this
          exact this
      · go_meet
        have h56 : u < 56 := by omega
        refine ⟨nextSt s N, tailBlk blk u, tailBlk_length blk u HL.out hu64, HDA.out, HDB.out, HDL.out, ?_⟩
        have := sha_short (m := m) (s := s) HL.out (by rw [← HN.out]; exact H1.out) (by rw [← HN.out]; exact H2.out) (by rw [← HN.out, ← HU.out]; exact h56)
        rw [← HN.out, ← HU.out] at this
        exact this
    case rest =>
      obtain ⟨s1, blkX, hXl, hXA, hXB, hXL, hsha⟩ := hcut
      have hlen := str_len HL.out ((hXL.block p hp).trans HG.out)
      have h0b : 0 ≠ b := by have := HK.out.lt; omega
      have HXl := Lib.hid hXl
      have HXA := Lib.hid hXA
      have HXB := Lib.hid hXB
      have HXL := Lib.hid hXL
      have HSH := Lib.hid hsha
      clear hXl hXA hXB hXL hsha
      go_wp2_with (first | (go_at_call 27; (with_reducible refine (put_any b blkX N HXl.out hm _ HXB.out).mono ?_); rintro e w3 ⟨rfl, hb3, hg3⟩; have HB3 := Lib.hid hb3; have HG3 := Lib.hid hg3; have HA3 := Lib.hid ((hg3.block a (lt_of_some HXA.out) (fun e => hne (Option.some.inj e).symm)).trans HXA.out); have HK3 := Lib.hid ((HK.out.old HXL.out).grown hg3 h0b); clear hb3 hg3) | (go_at_call 25; (with_reducible refine (compress_any s1 (lenBlk blkX N 8) (lenBlk_length _ _ _ HXl.out (by omega)) _ HK3.out).mono ?_); rintro e w4 ⟨rfl, hb4⟩; have HB4 := Lib.hid hb4; clear hb4) | (go_at_call 28; (with_reducible refine (digest_any (compress s1 (lenBlk blkX N 8)) _).mono ?_); rintro e w5 ⟨rfl, hb5⟩; have HB5 := Lib.hid hb5; clear hb5) | (refine wpList_load_row rfl 37 (.tmp 3) rfl a rfl 37 (stRow s1) (0, 0) _ HA3.out Tryd.underlying37 rfl (by kernel_rfl) ?_) | (refine wpList_load_row rfl 38 (.tmp 4) rfl b rfl 38 (byteRow (lenBlk blkX N 8)) (0, 0) _ HB3.out Tryd.underlying38 rfl (by kernel_rfl) ?_) | (refine wpList_store_row rfl 37 (.tmp 3) (.tmp 38) rfl a (stRow (compress s1 (lenBlk blkX N 8))) rfl rfl 37 (stRow s1) ((HB4.out.block a (lt_of_some HA3.out)).trans HA3.out) (by kernel_rfl) (by rw [stRow_size, stRow_size]) (stRow_one _) ?_) | (refine wpList_load_row rfl 37 (.tmp 3) rfl a rfl 37 (stRow (compress s1 (lenBlk blkX N 8))) (0, 0) _ (setRow_heap _ _ _ _ _ _ ((HB4.out.block a (lt_of_some HA3.out)).trans HA3.out)) Tryd.underlying37 rfl (by kernel_rfl) ?_))
      go_ret
      refine ⟨by rw [HSH.out]; rfl, ?_⟩
      have b3 : Below w.heap.size w w3 := HXL.out.trans ⟨HG3.out.os, HG3.out.tape, HG3.out.output, HG3.out.size, fun k hk => HG3.out.block k (Nat.lt_of_lt_of_le hk HXL.out.size) (fun e => by have := Option.some.inj e; omega)⟩
      have b4 := b3.trans (HB4.out.mono b3.size)
      have b5 := below_setRow b4 a (stRow (compress s1 (lenBlk blkX N 8))) ha
      exact b5.trans (HB5.out.mono b5.size)
end Go.Proofs.YtoickijglahipaaDoor
