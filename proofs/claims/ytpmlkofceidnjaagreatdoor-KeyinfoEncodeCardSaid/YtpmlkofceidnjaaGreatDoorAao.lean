/-
  The contract of the reference's Sum: for every list of strings of at most 2^40 bytes together, the SHA-256 of its strings, one after the other; nothing that was there before the call has changed.
  The walk of the law HashSum: for every slice of strings it returns true, and leaves all that was there as it was.
  The contracts of the reference's numbers as bytes (B4, B1), and of its hash over a literal row of strings.
  Nothing is left of this text.
  Nothing is left of this text.
  Nothing is left of this text.
  Keys, signatures and what a signature leads to, as rows of chains that are put one behind the other. Nothing is claimed of the program here.
  Trees of one-time keys: ids, nodes, levels, signatures and what a signature leads to. Nothing is claimed of the program here.
  Nothing is left of this text.
  Nothing is left of this text.
  The contracts of the reference's CheckKey, Leaf and Verify's parts.
  Bit strings: what Bits and PutBits answer; the contracts of the program's and of the reference's. (Layer 3's texts over the common base.)
-/
import Derived.Test.YtpmlkofceidnjaaGreatDoorAal
import Derived.Test.YtpmlkofceidnjaaGreatDoorAan
import Derived.Deep.DeepCutAuto
import Derived.Test.YtpmlkofceidnjaaGreatDoorAak
import Derived.Test.YtpmlkofceidnjaaGreatDoorAac
import Derived.Shelf.Small.Bits
import Derived.WalkKit
import Derived.BigQuiet
import Derived.Test.YtpmlkofceidnjaaGreatDoorAaa
namespace Go.Proofs.YtpmlkofceidnjaaGreatDoor
open Go.RowKit

theorem refByteInfo : (Tryz.prog.info? 5).map (fun i => (i.zero, i.size, i.bytes)) = some (some (.int .u8 0), 1, 1) := by kernel_rfl
theorem ivRow : (#[.int .u32 1779033703, .int .u32 3144134277, .int .u32 1013904242, .int .u32 2773480762, .int .u32 1359893119, .int .u32 2600822924, .int .u32 528734635, .int .u32 1541459225] : Array Value) = stRow iv := by kernel_rfl

/-- The bytes that are put behind, when k bytes of the number of bits have been put. -/
def tailB (N m k : Nat) : List UInt8 := (128 :: List.replicate (m + (8 - k)) 0) ++ (lenBytes N).drop (8 - k)
theorem tailB_length (N m k : Nat) (hk : k ≤ 8) : (tailB N m k).length = 9 + m := by simp [tailB, lenBytes]; omega
theorem tail_made {w : World} {B : Nat} {v : Value} (m : Nat) (h : w.ownsRow B 5 1 v (9 + m) (madeCells (Value.int .u8 0).cells ((9 + m) * 1)).toList) : OwnB 5 w B v (List.replicate (9 + m) 0) := by
  unfold OwnB
  rw [List.length_replicate]
  have e : (madeCells (Value.int .u8 0).cells ((9 + m) * 1)).toList = (List.replicate (9 + m) (0 : UInt8)).map bcell := by
    simp only [madeCells, Value.cells, Nat.mul_one]
    apply List.ext_getElem
    · simp
    · intro i h1 h2
      simp [Nat.mod_one, bcell]
  rw [← e]; exact h

theorem tail_made_at {w : World} {B g g' n cap : Nat} (m : Nat) (hg : g = g') (h : w.ownsRow B 5 1 (.slice (some ⟨g, 0, none⟩) n cap) (9 + m) (madeCells (Value.int .u8 0).cells ((9 + m) * 1)).toList) : OwnB 5 w B (.slice (some ⟨g', 0, none⟩) n cap) (List.replicate (9 + m) 0) := by
  rw [← hg]; exact tail_made m h
theorem tail_cell {w : World} {B g n cap : Nat} {l : List UInt8} (h : OwnB 5 w B (.slice (some ⟨g, 0, none⟩) n cap) l) (hl : l.length = n) (j : Nat) (hj : j < n) : w.cell? ⟨g, j, none⟩ = some (bcell (at8 l j)) := by
  subst hl
  have := World.ownsRow.cellAt h j (by omega)
  rw [this]
  simp [at8, hj]
theorem tail_free {w : World} {B g n cap : Nat} {l : List UInt8} (h : OwnB 5 w B (.slice (some ⟨g, 0, none⟩) n cap) l) (hl : l.length = n) (j : Nat) : w.frozen? ⟨g, j, none⟩ = false := by
  subst hl
  exact World.ownsRow.frozenAt h j
theorem tail_set {w : World} {B g N m : Nat} (h : OwnB 5 w B (.slice (some ⟨g, 0, none⟩) (9 + m) (9 + m)) (List.replicate (9 + m) 0)) :
    OwnB 5 (w.setCell ⟨g, 0, none⟩ (.int .u8 128)) B (.slice (some ⟨g, 0, none⟩) (9 + m) (9 + m)) (tailB N m 0) := by
  unfold OwnB at h ⊢
  rw [List.length_replicate] at h
  rw [tailB_length _ _ _ (by omega)]
  have := (h.stored 0 (.int .u8 128)).1
  have e : ((List.replicate (9 + m) (0 : UInt8)).map bcell).set 0 (.int .u8 128) = (tailB N m 0).map bcell := by
    have e8 : (lenBytes N).drop (8 - 0) = [] := List.drop_eq_nil_of_le (by simp [lenBytes])
    unfold tailB
    rw [e8, show 9 + m = (m + (8 - 0)) + 1 by omega, List.replicate_succ]
    simp
    rfl
  rw [← e]; exact this
theorem tail_step {w : World} {B g N m j : Nat} (h : OwnB 5 w B (.slice (some ⟨g, 0, none⟩) (9 + m) (9 + m)) (tailB N m j)) (hj : j < 8) :
    OwnB 5 (w.setCell ⟨g, 8 + m - j, none⟩ (bcell (UInt8.ofNat (8 * N / 256 ^ j)))) B (.slice (some ⟨g, 0, none⟩) (9 + m) (9 + m)) (tailB N m (j + 1)) := by
  unfold OwnB at h ⊢
  rw [tailB_length _ _ _ (by omega)] at h ⊢
  have := (h.stored (8 + m - j) (bcell (UInt8.ofNat (8 * N / 256 ^ j)))).1
  have e : ((tailB N m j).map bcell).set (8 + m - j) (bcell (UInt8.ofNat (8 * N / 256 ^ j))) = (tailB N m (j + 1)).map bcell := by
    rw [← List.map_set]
    congr 1
    unfold tailB
    have hl : (lenBytes N).length = 8 := by simp [lenBytes]
    have hp : ((128 : UInt8) :: List.replicate (m + (8 - j)) 0).length = m + (8 - j) + 1 := by simp
    rw [List.set_append_left _ _ (by rw [hp]; omega)]
    have h1 : ((128 : UInt8) :: List.replicate (m + (8 - j)) 0) = ((128 : UInt8) :: List.replicate (m + (8 - (j + 1))) 0) ++ [0] := by
      rw [show m + (8 - j) = (m + (8 - (j + 1))) + 1 by omega, List.replicate_succ']
      simp
    have h2 : (lenBytes N).drop (8 - (j + 1)) = UInt8.ofNat (8 * N / 256 ^ j) :: (lenBytes N).drop (8 - j) := by
      rw [List.drop_eq_getElem_cons (by omega)]
      congr 1
      · simp only [lenBytes, List.getElem_map, List.getElem_range]
        rw [show 7 - (8 - (j + 1)) = j by omega]
      · congr 1; omega
    rw [h1, h2, List.set_append_right _ _ (by simp; omega)]
    have h3 : 8 + m - j - ((128 : UInt8) :: List.replicate (m + (8 - (j + 1))) 0).length = 0 := by simp; omega
    rw [h3]
    simp
  rw [← e]; exact this

theorem stRow_get (s : St) (q : Nat) (h : q < 8) : (stRow s)[q]? = some (.int .u32 (u32 (at32 (stWords s) q))) := by
  match q, h with
  | 0, _ => rfl
  | 1, _ => rfl
  | 2, _ => rfl
  | 3, _ => rfl
  | 4, _ => rfl
  | 5, _ => rfl
  | 6, _ => rfl
  | 7, _ => rfl
theorem words_take (s : St) (q : Nat) (h : q < 8) : (stWords s).take (q + 1) = (stWords s).take q ++ [at32 (stWords s) q] := by
  rw [List.take_succ_eq_append_getElem (by simpa [stWords] using h)]
  congr 1
  simp [at32, stWords, h]
theorem words_length (s : St) (q : Nat) (h : q ≤ 8) : (((stWords s).take q).flatMap wordBytes).length = 4 * q := by
  induction q with
  | zero => rfl
  | succ q ih => rw [words_take s q (by omega), List.flatMap_append, List.length_append, ih (by omega)]; simp [wordBytes]; omega
/-- The four bytes of a word as the walk spells them. -/
theorem word_row (x : BitVec 32) : (wordBytes x).map bcell = (#[.int .u8 (u32 (x >>> 24) % 256), .int .u8 (u32 (x >>> 16) % 256), .int .u8 (u32 (x >>> 8) % 256), .int .u8 (u32 x % 256)] : Array Value).toList := by
  have h : ∀ y : BitVec 32, u32 y % 256 = (((UInt8.ofNat y.toNat).toNat : Nat) : Int) := fun y => by rw [← byte_wrap_u32]; simp [IntKind.wrap, IntKind.bits, IntKind.signed]
  rw [h, h, h, h]
  rfl

def RefSum (w : World) (E : ByteArray) (e : Ending) (w' : World) : Prop := e = .returned (.string E) ∧ Below w.heap.size w w'
def RoundPost (w : World) (s : St) (l : List UInt8) (e : Ending) (w' : World) : Prop := ∃ g, e = .returned (.slice (some ⟨g, 0, none⟩) 8 8) ∧ w'.heap[g]? = some (.cells (stRow (compress s l)) 88 (0, 0)) ∧ Below w.heap.size w w'
theorem round_post (hb : Nat) (s : St) (b : ByteArray) (hbs : b.size = 64) (w : World) (hg : w.heap[hb]? = some (.cells (stRow s) 88 (0, 0))) :
    Calls Tryz.prog 67 #[.slice (some ⟨hb, 0, none⟩) 8 8, .string b] w (RoundPost w s b.data.toList) := round_any hb s b hbs w hg

set_option maxRecDepth 100000 in
set_option maxHeartbeats 2000000 in
theorem refsum_core (a0 : Option Addr) (cap : Nat) (ss : List ByteArray) (w : World) (hv : ss = [] ∨ ∃ b o, a0 = some ⟨b, o, none⟩ ∧ ∀ i, i < ss.length → w.cell? ⟨b, o + i, none⟩ = some (.string (ss.getD i ByteArray.empty)))
    (hn : ss.length < 4611686018427387904) (hm : (cat_z ss).length ≤ 1099511627776) :
    Calls Tryz.prog 48 #[.slice a0 ss.length cap] w (RefSum w (shaStr (cat_z ss))) := by
  obtain ⟨i0, hi, hz0, hz1, hz2⟩ := info_parts refByteInfo
  obtain ⟨n, hln⟩ : ∃ n, n = ss.length := ⟨_, rfl⟩
  rw [← hln] at hn ⊢
  have HLN := Lib.hid hln
  have HV := Lib.hid hv
  have HM := Lib.hid hm
  clear hln hv hm
  go_enter Tryz.func48, Tryz.ntmps48
  go_wp2_with fail
  go_loopw [3, 17] (fun t i wr => ∃ (k : Nat) (c : ByteArray), k ≤ n ∧ i = .int .i64 k ∧ t = .string c ∧ c.data.toList = cat_z (ss.take k) ∧ wr = w) (fun _ i _ => n - (intOf i).toNat)
  case atStart => exact ⟨0, ⟨#[]⟩, Nat.zero_le _, rfl, rfl, rfl, rfl⟩
  case round =>
    obtain ⟨k, c, hk, rfl, rfl, hcc, hwr⟩ := hrel
    subst hwr
    have HCC := Lib.hid hcc
    clear hcc
    by_cases hlt : k < n
    · have hd : decide ((k : Int) < (n : Int)) = true := by simp; omega
      obtain ⟨b, o, ha, hc⟩ : ∃ b o, a0 = some ⟨b, o, none⟩ ∧ wr.cell? ⟨b, o + k, none⟩ = some (.string (ss.getD k ByteArray.empty)) := by
        rcases HV.out with h | ⟨b, o, h1, h2⟩
        · have := HLN.out; rw [h] at this; simp at this; omega
        · exact ⟨b, o, h1, h2 k (by rw [← HLN.out]; exact hlt)⟩
      obtain ⟨x, hx⟩ : ∃ x, x = ss.getD k ByteArray.empty := ⟨_, rfl⟩
      rw [← hx] at hc
      have HX := Lib.hid hx
      clear hx
      subst ha
      have hcx : c.size + x.size ≤ 1099511627776 := by
        have h1 := cat_take_succ_z ss k (by rw [← HLN.out]; exact hlt)
        have h2 := cat_take_le_z ss (k + 1)
        rw [h1, List.length_append, ← HX.out, ← HCC.out] at h2
        have h3 : x.data.toList.length = x.size := rfl
        have h4 : c.data.toList.length = c.size := rfl
        have h5 := HM.out
        omega
      have hcy : ((c.size : Nat) : Int) + ((x.size : Nat) : Int) ≤ 9223372036854775807 := by omega
      go_wp2_with fail
      go_roundw
      case rel =>
        refine ⟨k + 1, c ++ x, by omega, by go_num, rfl, ?_, (by first | exact trivial | rfl)⟩
        rw [cat_take_succ_z ss k (by rw [← HLN.out]; exact hlt), ← HX.out, ← HCC.out]
        simp
      case measure => simp [intOf]; omega
    · have ek : k = n := by omega
      subst ek
      obtain ⟨wo, rfl⟩ : ∃ wo : World, wo = wr := ⟨_, rfl⟩
      have hd : decide ((k : Int) < (k : Int)) = false := by simp
      obtain ⟨N, hN⟩ : ∃ N, N = c.size := ⟨_, rfl⟩
      have hN2 : N ≤ 1099511627776 := by
        have h2 := cat_take_le_z ss k
        rw [← HCC.out] at h2
        have h4 : c.data.toList.length = c.size := rfl
        have h5 := HM.out
        omega
      obtain ⟨m, hm⟩ : ∃ m, m = (119 - N % 64) % 64 := ⟨_, rfl⟩
      obtain ⟨q, hq⟩ : ∃ q, q = (N + 9) % 64 := ⟨_, rfl⟩
      have hcs : c.size = N := hN.symm
      have hqi : ((N : Int) + 9) % 64 = (q : Int) := by omega
      have hm64 : m < 64 := by omega
      have HQ := Lib.hid hq
      have HMM := Lib.hid hm
      have HN := Lib.hid hN
      clear hq hm hN
      go_upto_if 33 with (fail)
      rw [ivRow]
      go_cut [8] (fun s8 wx => s8 = .int .i64 (m : Int) ∧ wx = wo.alloc (.cells (stRow iv) 88))
      case first =>
        go_wp2_with fail
        all_goals go_meet
        · have h1 := HQ.out
          have h2 := HMM.out
          have h3 : ((64 : Int) - (q : Int) == 64) = true := by assumption
          have h4 : q = 0 := by simp at h3; omega
          refine ⟨?_, rfl⟩
          have : (0 : Int) = (m : Int) := by omega
          rw [← this]
        · have h1 := HQ.out
          have h2 := HMM.out
          have h3 : ((64 : Int) - (q : Int) == 64) = false := by assumption
          have h4 : q ≠ 0 := by simp at h3; omega
          refine ⟨?_, rfl⟩
          have : (64 : Int) - (q : Int) = (m : Int) := by omega
          rw [← this]
      case rest =>
        obtain ⟨rfl, rfl⟩ := hcut
        go_wp2_with (at_make; refine wpList_make_full _ rfl _ _ 53 rfl wo.heap.size 5 i0 (.int .u8 0) 1 Tryz.underlying53 hi hz0 hz1 .i64 .i64 (9 + (m : Int)) (9 + (m : Int)) (9 + m) rfl rfl (by omega) (by omega) (by rw [hz2]; omega) (by unfold maxLen; omega) (by simp) ?_; intro w1 hown1 hgr1; have ho1 : OwnB 5 w1 wo.heap.size (.slice (some ⟨wo.heap.size + 1, 0, none⟩) (9 + m) (9 + m)) (List.replicate (9 + m) 0) := (tail_made_at m (by simp) hown1); have HO1 := Lib.hid ho1; have HG1 := Lib.hid hgr1; have hc0 := tail_cell ho1 (by simp) 0 (by omega); have hf0 := tail_free ho1 (by simp) 0; clear ho1 hown1 hgr1)
        have hb1 : Below wo.heap.size wo w1 := ((Below.refl _ _).alloc (Nat.le_refl _) _).grown HG1.out (by simp) (fun _ e => by cases e)
        have hh1 : w1.heap[wo.heap.size]? = some (.cells (stRow iv) 88 (0, 0)) := (HG1.out.block _ (by simp) (by simp)).trans (heap_alloc_new _ _)
        have hs1 := tail_set HO1.out (N := N) (m := m)
        obtain ⟨T, hT⟩ : ∃ T, T = wo.heap.size + 1 := ⟨_, rfl⟩
        have hsz1 := HG1.out.size
        simp at hsz1
        have HB1 := Lib.hid hb1
        have HH1 := Lib.hid hh1
        have HS1 := Lib.hid hs1
        clear hb1 hh1 hs1
        go_loopw [10] (fun i wx => ∃ j : Nat, j ≤ 8 ∧ i = .int .i64 j ∧ OwnB 5 wx wo.heap.size (.slice (some ⟨wo.heap.size + 1, 0, none⟩) (9 + m) (9 + m)) (tailB N m j) ∧ Below wo.heap.size wo wx ∧ wx.heap[wo.heap.size]? = some (.cells (stRow iv) 88 (0, 0))) (fun i _ => 8 - (intOf i).toNat)
        case atStart => exact ⟨0, by omega, rfl, HS1.out, HB1.out.setCell (by simp) _, (heap_setCell_other _ _ _ _ (by simp)).trans HH1.out⟩
        case round =>
          obtain ⟨j, hj, rfl, ho, hb, hh⟩ := hrel
          have HO := Lib.hid ho
          have HB := Lib.hid hb
          have HH := Lib.hid hh
          by_cases hjt : j < 8
          · have hd2 : decide ((j : Int) < 8) = true := by simp; omega
            have hcj := tail_cell ho (tailB_length N m j (by omega)) (8 + m - j) (by omega)
            have hfj := tail_free ho (tailB_length N m j (by omega)) (8 + m - j)
            have hsj := tail_step (N := N) (m := m) (j := j) ho hjt
            have HSJ := Lib.hid hsj
            clear ho hb hh hsj
            go_wp2_with fail
            go_roundw
            case rel =>
              have ev : Value.int .u8 (8 * (N : Int) / 2 ^ (8 * j) % 256) = bcell (UInt8.ofNat (8 * N / 256 ^ j)) := by
                unfold bcell
                congr 1
                rw [← byte_wrap, show (256 : Nat) ^ j = 2 ^ (8 * j) by rw [Nat.pow_mul]]
                simp [IntKind.wrap, IntKind.bits, IntKind.signed]
              rw [ev]
              exact ⟨j + 1, by omega, by go_num, HSJ.out, HB.out.setCell (by simp) _, (heap_setCell_other _ _ _ _ (by simp)).trans HH.out⟩
            case measure => simp [intOf]; omega
          · have ej : j = 8 := by omega
            subst ej
            clear ho hb hh
            rw [show ((8 : Nat) : Int) = 8 from rfl]
            obtain ⟨tl, htl⟩ : ∃ tl : ByteArray, (⟨(tailB N m 8).toArray⟩ : ByteArray) = tl := ⟨_, rfl⟩
            have hconv := run_convert_own (P := Tryz.prog) (src := 53) (dst := 9) Tryz.underlying53 Tryz.underlying5 Tryz.underlying9 HO.out
            rw [htl] at hconv
            have htd : tl.data.toList = tailB N m 8 := by rw [← htl]
            have hts : tl.size = 9 + m := by
              have h1 : tl.data.toList.length = tl.size := rfl
              rw [← h1, htd, tailB_length _ _ _ (by omega)]
            obtain ⟨D, hD⟩ : ∃ D : ByteArray, c ++ tl = D := ⟨_, rfl⟩
            have et : ss.take k = ss := List.take_of_length_le (by rw [← HLN.out]; exact Nat.le_refl _)
            have hDd : D.data.toList = padded (cat_z ss) := by
              rw [← hD, show (c ++ tl).data.toList = c.data.toList ++ tl.data.toList by simp, htd, HCC.out, et]
              have hN3 : N = (cat_z ss).length := by
                rw [HN.out, ← et, ← HCC.out]; rfl
              rw [padded, ← hN3, HMM.out]
              unfold tailB padding
              simp
            obtain ⟨M, hM⟩ : ∃ M, M = (padded (cat_z ss)).length / 64 := ⟨_, rfl⟩
            have hDs : D.size = 64 * M := by
              have h1 : D.data.toList.length = D.size := rfl
              have h2 := padded_length (cat_z ss)
              rw [← h1, hDd]; omega
            have hMb : 64 * M ≤ 1099511627776 + 200 := by
              have h1 : D.size = c.size + tl.size := by rw [← hD]; simp
              omega
            have HDD := Lib.hid hDd
            have HM2 := Lib.hid hM
            have hcat2 : ((c.size : Nat) : Int) + ((tl.size : Nat) : Int) ≤ 9223372036854775807 := by omega
            clear htl htd et hDd hM
            go_wp2_with fail
            obtain ⟨w2, rfl⟩ : ∃ w2 : World, w2 = wr := ⟨_, rfl⟩
            go_loopw [6, 11] (fun t i wx => ∃ j g : Nat, j ≤ M ∧ i = .int .i64 (64 * (j : Int)) ∧ t = .slice (some ⟨g, 0, none⟩) 8 8 ∧ wx.heap[g]? = some (.cells (stRow (chain (padded (cat_z ss)) j)) 88 (0, 0)) ∧ Below wo.heap.size wo wx) (fun _ i _ => (64 * M - (intOf i).toNat))
            case atStart => exact ⟨0, wo.heap.size, Nat.zero_le _, rfl, rfl, HH.out, HB.out⟩
            case round =>
              obtain ⟨j, g, hj, rfl, rfl, hg, hb⟩ := hrel
              have HG := Lib.hid hg
              have HB2 := Lib.hid hb
              clear hg hb
              by_cases hjt : j < M
              · have hd3 : decide ((64 : Int) * (j : Int) < 64 * (M : Int)) = true := by simp; omega
                have hex : (D.extract (64 * j) (64 * j + 64)).size = 64 := by rw [ByteArray.size_extract]; omega
                have hexd : (D.extract (64 * j) (64 * j + 64)).data.toList = ((padded (cat_z ss)).drop (64 * j)).take 64 := by
                  rw [← HDD.out]
                  simp only [ByteArray.data_extract, Array.toList_extract, List.extract_eq_take_drop]
                  rw [show 64 * j + 64 - 64 * j = 64 by omega]
                have HEX := Lib.hid hex
                have HEXD := Lib.hid hexd
                clear hex hexd
                go_wp2_with (go_at_call 67; refine (round_post g (chain (padded (cat_z ss)) j) (D.extract (64 * j) (64 * j + 64)) HEX.out _ HG.out).mono ?_; rintro e w3 ⟨g', rfl, hg', hb'⟩; have HG2 := Lib.hid hg'; have HB3 := Lib.hid hb'; clear hg' hb')
                go_roundw
                case rel =>
                  refine ⟨j + 1, g', by omega, by go_num, rfl, ?_, HB2.out.next HB3.out⟩
                  rw [chain, ← HEXD.out]; exact HG2.out
                case measure => simp [intOf]; omega
              · have ej : j = M := by omega
                subst ej
                have hd3 : decide ((64 : Int) * (j : Int) < 64 * (j : Int)) = false := by simp
                obtain ⟨S, hS⟩ : ∃ S, S = chain (padded (cat_z ss)) j := ⟨_, rfl⟩
                have hgs : wr.heap[g]? = some (.cells (stRow S) 88 (0, 0)) := by rw [hS]; exact HG.out
                have HGS := Lib.hid hgs
                have HSS := Lib.hid hS
                clear hgs hS
                obtain ⟨w4, rfl⟩ : ∃ w4 : World, w4 = wr := ⟨_, rfl⟩
                go_wp2_with (at_make; refine wpList_make_own _ rfl _ _ 53 rfl w4.heap.size 5 i0 (.int .u8 0) 1 Tryz.underlying53 hi hz0 hz1 .i64 .i64 32 32 rfl rfl rfl (by rw [hz2]; omega) (by unfold maxLen; omega) (Nat.le_refl _) ?_; intro w5 hown5 hgr5; have HO5 := Lib.hid hown5; have HG5 := Lib.hid hgr5; clear hown5 hgr5)
                go_loopw [12, 76] (fun v i wx => ∃ q : Nat, q ≤ 8 ∧ i = .int .i64 q ∧ OwnB 5 wx w4.heap.size v (((stWords S).take q).flatMap wordBytes) ∧ Below w4.heap.size w4 wx) (fun _ i _ => 8 - (intOf i).toNat)
                case atStart => exact ⟨0, by omega, rfl, HO5.out, (Below.refl _ _).grown HG5.out (Nat.le_refl _) (fun _ e => by cases e)⟩
                case round =>
                  obtain ⟨q, hq, rfl, ho, hb⟩ := hrel
                  have HO6 := Lib.hid ho
                  have HB6 := Lib.hid hb
                  have hsb := hb.size
                  clear ho hb
                  by_cases hqt : q < 8
                  · have hd4 : decide ((q : Int) < 8) = true := by simp; omega
                    have hcell : wr.cell? ⟨g, q, none⟩ = some (.int .u32 (Go.Proofs.YtpmlkofceidnjaaGreatDoor.u32 (at32 (stWords S) q))) := by
                      rw [cell_of_row wr g q _ _ _ ((HB6.out.block g (Array.getElem?_eq_some_iff.1 HGS.out).1).trans HGS.out)]
                      exact stRow_get S q hqt
                    have hlen : (((stWords S).take q).flatMap wordBytes).length = 4 * q := words_length S q (by omega)
                    have HLQ := Lib.hid hlen
                    clear hlen
                    go_wp2_with (at_builtin; refine wpList_append_own _ rfl (.tmp 80) (.tmp 92) 53 rfl w4.heap.size 5 i0 (.int .u8 0) 1 1 Tryz.underlying53 hi hz0 hz1 hz2 rfl (by decide) _ _ _ rfl (HO6.out.alloc _) ⟨wr.heap.size, 0, none⟩ 4 4 ((wordBytes (at32 (stWords S) q)).map bcell) rfl rfl ?_ (bcells_one _) (by rw [HLQ.out]; unfold maxLen; omega) (by rw [HLQ.out]; omega) (by simp; omega) ?_; (rw [word_row]; exact news_row _ _ _); intro v' w6 hown6 hgr6 _)
                    have hfl : ((stWords S).take (q + 1)).flatMap wordBytes = ((stWords S).take q).flatMap wordBytes ++ wordBytes (at32 (stWords S) q) := by rw [words_take S q hqt, List.flatMap_append]; simp
                    have ho6 : OwnB 5 w6 w4.heap.size v' (((stWords S).take (q + 1)).flatMap wordBytes) := by
                      unfold OwnB
                      rw [hfl, List.length_append, List.map_append]; exact hown6
                    have hb6 : Below w4.heap.size w4 w6 := OwnB.grown (HO6.out.alloc _) (Below.alloc HB6.out hsb _) hgr6 (by simp; omega) (Nat.le_refl _)
                    clear hown6 hgr6 hfl
                    have HO7 := Lib.hid ho6
                    have HB7 := Lib.hid hb6
                    clear ho6 hb6
                    go_wp2_with fail
                    go_roundw
                    case rel => exact ⟨q + 1, by omega, by go_num, HO7.out, HB7.out⟩
                    case measure => simp [intOf]; omega
                  · have eq8 : q = 8 := by omega
                    subst eq8
                    have hd4 : decide (((8 : Nat) : Int) < 8) = false := by decide
                    have hconv2 := run_convert_own (P := Tryz.prog) (src := 53) (dst := 9) Tryz.underlying53 Tryz.underlying5 Tryz.underlying9 HO6.out
                    have HBX := Lib.hid (HB2.out.next HB6.out)
                    go_wp2_with fail
                    go_ret
                    refine ⟨?_, HBX.out⟩
                    have e1 : ((stWords S).take 8).flatMap wordBytes = sha (cat_z ss) := by
                      rw [List.take_of_length_le (by simp [stWords]), HSS.out, HM2.out]; rfl
                    rw [e1]; rfl
end Go.Proofs.YtpmlkofceidnjaaGreatDoor
namespace Go.Proofs.YtpmlkofceidnjaaGreatDoor
open Go.RowKit

theorem refsum_any (v : Value) (ss : List ByteArray) (w : World) (hv : Reads_z w v ss) (hn : ss.length < 4611686018427387904) (hm : (cat_z ss).length ≤ 1099511627776) :
    Calls Tryz.prog 48 #[v] w fun e w' => e = .returned (.string (shaStr (cat_z ss))) ∧ Below w.heap.size w w' := by
  obtain ⟨a, cap, rfl, h⟩ := hv
  exact refsum_core a cap ss w h hn hm

set_option maxHeartbeats 400000 in
theorem refshort_any (v : Value) (ss : List ByteArray) (w : World) (hv : Reads_z w v ss) (hn : ss.length < 4611686018427387904) (hm : (cat_z ss).length ≤ 1099511627776) :
    Calls Tryz.prog 33 #[v] w fun e w' => e = .returned (.string (shortStr (cat_z ss))) ∧ Below w.heap.size w w' := by
  have HV := Lib.hid hv
  have HM := Lib.hid hm
  have hsz : (shaStr (cat_z ss)).size = 32 := shaStr_size _
  have hex := short_extract (cat_z ss)
  clear hv hm
  go_enter Tryz.func33, Tryz.ntmps33
  go_wp2_with (go_at_call 48; refine (refsum_any v ss _ HV.out hn HM.out).mono ?_; rintro e w1 ⟨he, hb1⟩; obtain rfl : e = .returned (.string (shaStr (cat_z ss))) := he; have HB1 := Lib.hid hb1; clear hb1)
  go_ret
  exact ⟨rfl, HB1.out⟩

end Go.Proofs.YtpmlkofceidnjaaGreatDoor
namespace Go.Proofs.YtpmlkofceidnjaaGreatDoor
open Go.RowKit

theorem text_four (a b c d : UInt8) (w : World) : (convert 53 9 (.slice (some ⟨w.heap.size, 0, none⟩) 4 4)).run Tryz.prog (w.alloc (.cells #[bcell a, bcell b, bcell c, bcell d] 5)) = .ok (.string (strOf [a, b, c, d])) (w.alloc (.cells #[bcell a, bcell b, bcell c, bcell d] 5)) :=
  own_str (l := [a, b, c, d]) ⟨rfl, .inr ⟨w.heap.size, 4, _, rfl, Nat.le_refl _, heap_alloc_new w _, Nat.le_refl _, by decide, rfl, rfl⟩⟩
theorem text_one (a : UInt8) (w : World) : (convert 53 9 (.slice (some ⟨w.heap.size, 0, none⟩) 1 1)).run Tryz.prog (w.alloc (.cells #[bcell a] 5)) = .ok (.string (strOf [a])) (w.alloc (.cells #[bcell a] 5)) :=
  own_str (l := [a]) ⟨rfl, .inr ⟨w.heap.size, 1, _, rfl, Nat.le_refl _, heap_alloc_new w _, Nat.le_refl _, by decide, rfl, rfl⟩⟩

theorem bcell_of (m : Nat) (z : Int) (h : z = ((m % 256 : Nat) : Int)) : bcell (UInt8.ofNat m) = .int .u8 z := by
  subst h
  rfl

set_option maxRecDepth 100000 in
set_option maxHeartbeats 1000000 in
theorem rb1_any (n : Nat) (hn : n < 256) (w : World) :
    Calls Tryz.prog 53 #[.int .i64 (n : Int)] w fun e w' => e = .returned (.string (strOf (b1 n))) ∧ Below w.heap.size w w' := by
  have h1 := text_one (UInt8.ofNat (n % 256))
  rw [bcell_of (n % 256) (n : Int) (by omega)] at h1
  go_enter Tryz.func53, Tryz.ntmps53
  go_wp2_with fail
  go_ret
  exact ⟨rfl, belowNew _ _⟩
set_option maxRecDepth 100000 in
set_option maxHeartbeats 1000000 in
theorem rb4_any (n : Nat) (hn : n < 4294967296) (w : World) :
    Calls Tryz.prog 49 #[.int .i64 (n : Int)] w fun e w' => e = .returned (.string (strOf (b4 n))) ∧ Below w.heap.size w w' := by
  have h1 := text_four (UInt8.ofNat (n / 16777216 % 256)) (UInt8.ofNat (n / 65536 % 256)) (UInt8.ofNat (n / 256 % 256)) (UInt8.ofNat (n % 256))
  rw [bcell_of (n / 16777216 % 256) ((n : Int) / 16777216) (by omega), bcell_of (n / 65536 % 256) ((n : Int) / 65536 % 256) (by omega), bcell_of (n / 256 % 256) ((n : Int) / 256 % 256) (by omega), bcell_of (n % 256) ((n : Int) % 256) (by omega)] at h1
  go_enter Tryz.func49, Tryz.ntmps49
  go_wp2_with fail
  go_ret
  exact ⟨rfl, belowNew _ _⟩

/-! ### What the hash is handed -/
abbrev hQ : List UInt8 → ByteArray := shortStr
def stepS (id : ByteArray) (leaf c p : Nat) (v : ByteArray) : ByteArray := stepQ hQ id.data.toList leaf c p v
def secS (seed : ByteArray) (leaf c : Nat) : ByteArray := secQ hQ seed.data.toList leaf c
end Go.Proofs.YtpmlkofceidnjaaGreatDoor



namespace Go.Proofs.YtpmlkofceidnjaaGreatDoor
open Go.RowKit

/-- The first n strings, one behind the other. -/
def rowB (f : Nat → ByteArray) : Nat → ByteArray
  | 0 => ⟨#[]⟩
  | n + 1 => rowB f n ++ f n
/-- The value of chain c at position d. -/
def valS (id seed : ByteArray) (leaf c d : Nat) : ByteArray := stepsF (stepS id leaf c) 0 d (secS seed leaf c)
def keySq (id : ByteArray) (leaf : Nat) (ends : ByteArray) : ByteArray := shortStr (76 :: (id.data.toList ++ b4 leaf ++ ends.data.toList))
def pubS (id seed : ByteArray) (leaf : Nat) : ByteArray := keySq id leaf (rowB (fun c => valS id seed leaf c 15) 35)
/-! ### What the functions return -/
end Go.Proofs.YtpmlkofceidnjaaGreatDoor
namespace Go.Proofs.YtpmlkofceidnjaaGreatDoor
open Go.RowKit

/-- The id of a seed. -/
def idT (seed : ByteArray) : ByteArray := shortStr (73 :: seed.data.toList)
/-- Node i of level l of the tree of a seed. -/
def nodeS (seed : ByteArray) (l i : Nat) : ByteArray := nodeQ hQ (idT seed).data.toList (fun j => pubS (idT seed) seed j) l i
/-- Level l of the tree of a seed with height h. -/
def levelS (seed : ByteArray) (h l : Nat) : List ByteArray := (List.range (2 ^ (h - l))).map (nodeS seed l)
def levelsS (seed : ByteArray) (h n : Nat) : List (List ByteArray) := (List.range n).map (levelS seed h)
theorem levelS_len (seed : ByteArray) (h l : Nat) : (levelS seed h l).length = 2 ^ (h - l) := by unfold levelS; rw [List.length_map, List.length_range]
theorem levelS_at (seed : ByteArray) (h l i : Nat) (hi : i < 2 ^ (h - l)) : (levelS seed h l).getD i ByteArray.empty = nodeS seed l i := by
  unfold levelS
  rw [List.getD_eq_getElem?_getD, List.getElem?_map, List.getElem?_range hi]
  rfl
theorem levelsS_len (seed : ByteArray) (h n : Nat) : (levelsS seed h n).length = n := by unfold levelsS; rw [List.length_map, List.length_range]
theorem levelsS_at (seed : ByteArray) (h n l : Nat) (hl : l < n) : (levelsS seed h n).getD l [] = levelS seed h l := by
  unfold levelsS
  rw [List.getD_eq_getElem?_getD, List.getElem?_map, List.getElem?_range hl]
  rfl
/-! ### Signatures -/
/-- The first error of a key. -/
def keyE (h : Int) (id root : ByteArray) : Nat := if 0 ≤ h ∧ h ≤ 8 ∧ id.size = 16 ∧ root.size = 16 then 0 else 18
end Go.Proofs.YtpmlkofceidnjaaGreatDoor


namespace Go.Proofs.YtpmlkofceidnjaaGreatDoor
open Go.RowKit

def keyV (h : Int) (id root : ByteArray) : Value := .agg #[.int .i64 h, .string id, .string root]
set_option maxRecDepth 100000 in
set_option maxHeartbeats 1000000 in
theorem rckey_any (h : Int) (id root : ByteArray) (w : World) :
    Calls Tryz.prog 29 #[keyV h id root] w fun e w' => e = .returned (.int .i64 ((keyE h id root : Nat) : Int)) ∧ Below w.heap.size w w' := by
  unfold keyV
  obtain ⟨n, hn⟩ : ∃ n, n = id.size := ⟨_, rfl⟩
  obtain ⟨m, hm⟩ : ∃ m, m = root.size := ⟨_, rfl⟩
  have hni : (id.size : Int) = (n : Int) := by rw [hn]
  have hmi : (root.size : Int) = (m : Int) := by rw [hm]
  have HQ := Lib.hid (show keyE h id root = if 0 ≤ h ∧ h ≤ 8 ∧ n = 16 ∧ m = 16 then 0 else 18 by unfold keyE; rw [hn, hm])
  clear hn hm
  by_cases h1 : h < 0
  · have d1 : decide (h < 0) = true := by simp; omega
    have HR := Lib.hid (show keyE h id root = 18 by rw [HQ.out, if_neg (by omega)])
    clear HQ
    go_enter Tryz.func29, Tryz.ntmps29
    go_wp2_with fail
    go_ret
    rw [HR.out]
    exact ⟨rfl, belowNew _ _⟩
  · have d1 : decide (h < 0) = false := by simp; omega
    by_cases h2 : 8 < h
    · have d2 : decide (8 < h) = true := by simp; omega
      have HR := Lib.hid (show keyE h id root = 18 by rw [HQ.out, if_neg (by omega)])
      clear HQ
      go_enter Tryz.func29, Tryz.ntmps29
      go_wp2_with fail
      go_ret
      rw [HR.out]
      exact ⟨rfl, belowNew _ _⟩
    · have d2 : decide (8 < h) = false := by simp; omega
      rcases Nat.decEq n 16 with h3 | h3
      · have d3 : ((n : Int) == 16) = false := by simp; omega
        have HR := Lib.hid (show keyE h id root = 18 by rw [HQ.out, if_neg (by omega)])
        clear HQ
        go_enter Tryz.func29, Tryz.ntmps29
        go_wp2_with fail
        go_ret
        rw [HR.out]
        exact ⟨rfl, belowNew _ _⟩
      · subst h3
        rcases Nat.decEq m 16 with h4 | h4
        · have d4 : ((m : Int) == 16) = false := by simp; omega
          have HR := Lib.hid (show keyE h id root = 18 by rw [HQ.out, if_neg (by omega)])
          clear HQ
          go_enter Tryz.func29, Tryz.ntmps29
          go_wp2_with fail
          go_ret
          rw [HR.out]
          exact ⟨rfl, belowNew _ _⟩
        · subst h4
          have HR := Lib.hid (show keyE h id root = 0 by rw [HQ.out, if_pos (by omega)])
          clear HQ
          go_enter Tryz.func29, Tryz.ntmps29
          go_wp2_with fail
          go_ret
          rw [HR.out]
          exact ⟨rfl, belowNew _ _⟩

end Go.Proofs.YtpmlkofceidnjaaGreatDoor
namespace Go.Proofs.YtpmlkofceidnjaaGreatDoor
open Go.Shelf Go.RowKit

def renP : Go.Shelf.Ren := ⟨fun | 136 => 68 | n => n, fun | 3 => 3 | 4 => 4 | 5 => 5 | 9 => 9 | n => n, fun | n => n⟩
theorem lays136 : Go.Proofs.Lays.n136 Tryz.prog renP := {
  mixed := by kernel_rfl
  f136 := Tryz.func68.trans (congrArg some (by kernel_rfl))
  t3 := Tryz.underlying3
  a3 := Tryz.isAgg3
  z3 := Tryz.sizeOf3
  v3 := Tryz.zeroValue3
  t5 := Tryz.underlying5
  a5 := Tryz.isAgg5
  z5 := Tryz.sizeOf5
  v5 := Tryz.zeroValue5
  t9 := Tryz.underlying9
  a9 := Tryz.isAgg9
  z9 := Tryz.sizeOf9
  v9 := Tryz.zeroValue9 }
theorem tz_any (n : Nat) (w : World) (h : n < 256) :
    Calls Tryz.prog 68 #[.int .u8 (n : Nat)] w fun e w' => e = .returned (.int .i64 ((Lib.trailingZeros8 n : Nat) : Int)) ∧ w' = w := by
  have h2 := Any.bits_TrailingZeros8 lays136 (n : Int) w (by omega) (by omega)
  exact h2

def unusedOk (b : ByteArray) (u : Nat) : Bool := decide (u = 0) || (decide (b.size ≠ 0) && decide (u8at b (b.size - 1) % 2 ^ u = 0))
def bitsErr (c : ByteArray) : Nat := if c.size = 0 ∨ 7 < u8at c 0 ∨ unusedOk (c.extract 1 c.size) (u8at c 0) = false then 7 else 0
def bitsStr (c : ByteArray) : ByteArray := if bitsErr c = 0 then c.extract 1 c.size else ⟨#[]⟩
def bitsNum (c : ByteArray) : Nat := if bitsErr c = 0 then u8at c 0 else 0
def bitsVal (c : ByteArray) : Value := .tuple #[.string (bitsStr c), .int .i64 ((bitsNum c : Nat) : Int), .int .i64 ((bitsErr c : Nat) : Int)]
def putBitsErr (b : ByteArray) (u : Int) : Nat := if u < 0 ∨ 7 < u then 1 else if unusedOk b u.toNat = false then 7 else 0
def putBitsStr (b : ByteArray) (u : Int) : ByteArray := if putBitsErr b u = 0 then strOf (UInt8.ofNat u.toNat :: b.data.toList) else ⟨#[]⟩
def putBitsVal (b : ByteArray) (u : Int) : Value := .tuple #[.string (putBitsStr b u), .int .i64 ((putBitsErr b u : Nat) : Int)]
theorem tz_all : ∀ x : Fin 256, ∀ u : Fin 8, decide (u.val ≤ Lib.trailingZeros8 x.val) = decide (x.val % 2 ^ u.val = 0) := by decide +kernel
theorem tz_iff {x u : Nat} (hx : x < 256) (hu : u ≤ 7) : decide (u ≤ Lib.trailingZeros8 x) = decide (x % 2 ^ u = 0) := tz_all ⟨x, hx⟩ ⟨u, by omega⟩
theorem last_u8 (b : ByteArray) (h : b.size ≠ 0) (w : World) : (Instr.index 9 (.string b) (.int .i64 ((b.size : Int) - 1))).run Tryz.prog w = .ok (.int .u8 ((u8at b (b.size - 1) : Nat) : Int)) w :=
  run_index_u8 (P := Tryz.prog) Tryz.underlying9 b (b.size - 1) (by omega) ((b.size : Int) - 1) (by omega) w
theorem unusedOk_zero (b : ByteArray) : unusedOk b 0 = true := by unfold unusedOk; simp
theorem unusedOk_empty {u : Nat} (h : u ≠ 0) : unusedOk ⟨#[]⟩ u = false := by
  unfold unusedOk
  rw [decide_eq_false h]; rfl
theorem unusedOk_some {b : ByteArray} {u : Nat} (h : u ≠ 0) (hb : b.size ≠ 0) : unusedOk b u = decide (u8at b (b.size - 1) % 2 ^ u = 0) := by
  unfold unusedOk
  rw [decide_eq_false h, decide_eq_true hb]; rfl

set_option maxRecDepth 100000 in
set_option maxHeartbeats 1000000 in
theorem unused_any (b : ByteArray) (u : Nat) (w : World) (hu : u ≤ 7) (hs : b.size ≤ 1099511627776) :
    Calls Tryz.prog 51 #[.string b, .int .i64 (u : Int)] w fun e w' => e = .returned (.bool (unusedOk b u)) ∧ w' = w := by
  by_cases h0 : u = 0
  · subst h0
    rw [unusedOk_zero]
    go_enter Tryz.func51, Tryz.ntmps51
    go_wp2_with fail
    go_ret
    exact ⟨rfl, rfl⟩
  · have d0 : ((u : Int) == 0) = false := beq_eq_false_iff_ne.2 (by omega)
    by_cases hb : b.size = 0
    · obtain rfl := empty_of_size hb
      rw [unusedOk_empty h0]
      clear hb h0 hs
      go_enter Tryz.func51, Tryz.ntmps51
      go_wp2_with fail
      go_ret
      exact ⟨rfl, rfl⟩
    · have he := nonempty_list hb
      have xl := last_u8 b hb
      have hx := u8at_lt b (b.size - 1)
      rw [unusedOk_some h0 hb]
      generalize u8at b (b.size - 1) = x at xl hx
      have ht := tz_iff hx hu
      rw [← ht]
      have HT := Lib.hid (fun w => tz_any x w (by omega))
      generalize Lib.trailingZeros8 x = t at HT
      have hb1 : 1 ≤ b.size := by omega
      clear ht h0 hb hx
      go_enter Tryz.func51, Tryz.ntmps51
      go_wp2_with (go_at_call 68; (with_reducible refine (HT.out _).mono ?_); rintro e w1 ⟨rfl, rfl⟩)
      go_ret
      exact ⟨rfl, rfl⟩
theorem bits_bad {c : ByteArray} (h : c.size = 0 ∨ 7 < u8at c 0 ∨ unusedOk (c.extract 1 c.size) (u8at c 0) = false) : bitsVal c = .tuple #[.string ⟨#[]⟩, .int .i64 0, .int .i64 7] := by
  have e : bitsErr c = 7 := by unfold bitsErr; exact if_pos h
  unfold bitsVal bitsStr bitsNum
  rw [e]; rfl
theorem bits_good {c : ByteArray} (h0 : c.size ≠ 0) (h1 : ¬ 7 < u8at c 0) (h2 : unusedOk (c.extract 1 c.size) (u8at c 0) = true) : bitsVal c = .tuple #[.string (c.extract 1 c.size), .int .i64 ((u8at c 0 : Nat) : Int), .int .i64 0] := by
  have e : bitsErr c = 0 := by
    unfold bitsErr
    refine if_neg fun h => ?_
    rcases h with h | h | h
    · exact h0 h
    · exact h1 h
    · rw [h2] at h; cases h
  unfold bitsVal bitsStr bitsNum
  rw [e]; rfl
set_option maxRecDepth 100000 in
set_option maxHeartbeats 1000000 in
theorem bits_any (c : ByteArray) (w : World) (hs : c.size ≤ 1099511627776) :
    Calls Tryz.prog 79 #[.string c] w fun e w' => e = .returned (bitsVal c) ∧ Below w.heap.size w w' := by
  by_cases h0 : c.size = 0
  · rw [bits_bad (.inl h0)]
    obtain rfl := empty_of_size h0
    clear h0 hs
    go_enter Tryz.func79, Tryz.ntmps79
    go_wp2_with fail
    refine bodyPost_ret (results_tmp3 rfl _ _ _) rfl ?_
    exact ⟨rfl, Below.refl _ _⟩
  · have he := nonempty_list h0
    have x0 := fun w => run_index_u8 (P := Tryz.prog) Tryz.underlying9 c 0 (by omega) (0 : Int) rfl w
    have h0' : 1 ≤ c.size := by omega
    have dsz : decide ((c.size : Int) < 1) = false := by simp; omega
    obtain ⟨x, hx⟩ : ∃ x, x = u8at c 0 := ⟨_, rfl⟩
    have hxl : x < 256 := by rw [hx]; exact u8at_lt c 0
    rw [← hx] at x0
    by_cases h7 : 7 < x
    · rw [bits_bad (.inr (.inl (by rw [← hx]; exact h7)))]
      have d7 : decide ((7 : Int) < (x : Int)) = true := by simp; omega
      clear h0 hx h7
      go_enter Tryz.func79, Tryz.ntmps79
      go_wp2_with fail
      go_region
      go_wp2_with fail
      refine bodyPost_ret (results_tmp3 rfl _ _ _) rfl ?_
      exact ⟨rfl, (Below.refl _ _).drew⟩
    · have d7 : decide ((7 : Int) < (x : Int)) = false := by simp; omega
      have hes : (c.extract 1 c.size).size ≤ 1099511627776 := by rw [ByteArray.size_extract]; omega
      have HU := Lib.hid (fun w => unused_any (c.extract 1 c.size) x w (by omega) hes)
      cases hB : unusedOk (c.extract 1 c.size) x with
      | false =>
        rw [bits_bad (.inr (.inr (by rw [← hx]; exact hB)))]
        rw [hB] at HU
        clear h0 hx h7 hB hes
        go_enter Tryz.func79, Tryz.ntmps79
        go_wp2_with fail
        go_region
        go_wp2_with (go_at_call 51; (with_reducible refine (HU.out _).mono ?_); rintro e w1 ⟨rfl, rfl⟩)
        refine bodyPost_ret (results_tmp3 rfl _ _ _) rfl ?_
        exact ⟨rfl, (Below.refl _ _).drew⟩
      | true =>
        rw [bits_good h0 (by rw [← hx]; exact h7) (by rw [← hx]; exact hB), ← hx]
        rw [hB] at HU
        clear h0 hx h7 hB hes
        go_enter Tryz.func79, Tryz.ntmps79
        go_wp2_with fail
        go_region
        go_wp2_with (go_at_call 51; (with_reducible refine (HU.out _).mono ?_); rintro e w1 ⟨rfl, rfl⟩)
        refine bodyPost_ret (results_tmp3 rfl _ _ _) rfl ?_
        exact ⟨rfl, (Below.refl _ _).drew⟩
theorem tail_size (b : ByteArray) : (b.extract 1 b.size).size = b.size - 1 := by rw [ByteArray.size_extract]; omega
theorem unusedOk_tail {c : ByteArray} {x : Nat} (h : x ≠ 0) (hs : 2 ≤ c.size) : unusedOk (c.extract 1 c.size) x = decide (u8at c (c.size - 1) % 2 ^ x = 0) := by
  rw [unusedOk_some h (by rw [tail_size]; omega), tail_size, u8at_tail, show 1 + (c.size - 1 - 1) = c.size - 1 by omega]
theorem unusedOk_one {c : ByteArray} {x : Nat} (h : x ≠ 0) (hs : c.size = 1) : unusedOk (c.extract 1 c.size) x = false := by
  have e : c.extract 1 c.size = ⟨#[]⟩ := empty_of_size (by rw [tail_size]; omega)
  rw [e, unusedOk_empty h]

set_option maxRecDepth 100000 in
set_option maxHeartbeats 4000000 in
theorem rbits_any (c : ByteArray) (w : World) (hs : c.size ≤ 1099511627776) :
    Calls Tryz.prog 41 #[.string c] w fun e w' => e = .returned (bitsVal c) ∧ Below w.heap.size w w' := by
  by_cases h0 : c.size = 0
  · rw [bits_bad (.inl h0)]
    obtain rfl := empty_of_size h0
    clear h0 hs
    go_enter Tryz.func41, Tryz.ntmps41
    go_wp2_with fail
    go_quiet (fail)
    go_wp2_with fail
    refine bodyPost_ret (results_tmp3 rfl _ _ _) rfl ?_
    exact ⟨rfl, Below.drawn (Below.refl _ _) _⟩
  · have x0 := fun w => run_index_u8 (P := Tryz.prog) Tryz.underlying9 c 0 (by omega) (0 : Int) rfl w
    have e0 : ((c.size : Int) == 0) = false := beq_eq_false_iff_ne.2 (by omega)
    have h0' : 1 ≤ c.size := by omega
    have dsz : decide ((c.size : Int) < 1) = false := by simp; omega
    obtain ⟨x, hx⟩ : ∃ x, x = u8at c 0 := ⟨_, rfl⟩
    have hxl : x < 256 := by rw [hx]; exact u8at_lt c 0
    rw [← hx] at x0
    by_cases h7 : 7 < x
    · rw [bits_bad (.inr (.inl (by rw [← hx]; exact h7)))]
      have d7 : decide ((7 : Int) < (x : Int)) = true := by simp; omega
      clear h0 hx h7
      go_enter Tryz.func41, Tryz.ntmps41
      go_wp2_with fail
      go_quiet (fail)
      go_wp2_with fail
      refine bodyPost_ret (results_tmp3 rfl _ _ _) rfl ?_
      exact ⟨rfl, Below.drawn (Below.refl _ _) _⟩
    · have d7 : decide ((7 : Int) < (x : Int)) = false := by simp; omega
      by_cases hz : x = 0
      · subst hz
        rw [bits_good h0 (by rw [← hx]; exact h7) (by rw [← hx]; exact unusedOk_zero _), ← hx]
        clear h0 hx h7 d7
        go_enter Tryz.func41, Tryz.ntmps41
        go_wp2_with fail
        go_quiet (fail)
        go_wp2_with fail
        go_region
        go_wp2_with fail
        refine bodyPost_ret (results_tmp3 rfl _ _ _) rfl ?_
        exact ⟨rfl, (Below.drawn (Below.refl _ _) _).drew⟩
      · have dz : decide ((0 : Int) < (x : Int)) = true := by simp; omega
        by_cases h1 : c.size = 1
        · rw [bits_bad (.inr (.inr (by rw [← hx]; exact unusedOk_one hz h1)))]
          have e1 : ((c.size : Int) == 1) = true := beq_iff_eq.2 (by omega)
          have dn : decide (0 < x) = true := by simp; omega
          clear h0 hx h7 h1
          go_enter Tryz.func41, Tryz.ntmps41
          go_wp2_with fail
          go_quiet (fail)
          go_wp2_with fail
          refine bodyPost_ret (results_tmp3 rfl _ _ _) rfl ?_
          exact ⟨rfl, Below.drawn (Below.refl _ _) _⟩
        · have e1 : ((c.size : Int) == 1) = false := beq_eq_false_iff_ne.2 (by omega)
          have hu := unusedOk_tail (c := c) hz (by omega)
          have xl := last_u8 c h0
          obtain ⟨y, hy⟩ : ∃ y, y = u8at c (c.size - 1) := ⟨_, rfl⟩
          have hyl : y < 256 := by rw [hy]; exact u8at_lt c _
          rw [← hy] at xl hu
          by_cases hm : y % 2 ^ x = 0
          · rw [decide_eq_true hm] at hu
            rw [bits_good h0 (by rw [← hx]; exact h7) (by rw [← hx]; exact hu), ← hx]
            clear hx h0 hu hy
            rcases (by omega : x = 1 ∨ x = 2 ∨ x = 3 ∨ x = 4 ∨ x = 5 ∨ x = 6 ∨ x = 7) with rfl | rfl | rfl | rfl | rfl | rfl | rfl
            · have em : ((y : Int) % 2 != 0) = false := by simp; omega
              clear hm hz h7
              go_enter Tryz.func41, Tryz.ntmps41
              go_wp2_with fail
              go_quiet (fail)
              go_wp2_with fail
              go_region
              go_wp2_with fail
              refine bodyPost_ret (results_tmp3 rfl _ _ _) rfl ?_
              exact ⟨rfl, (Below.drawn (Below.refl _ _) _).drew⟩
            · have em : ((y : Int) % 4 != 0) = false := by simp; omega
              clear hm hz h7
              go_enter Tryz.func41, Tryz.ntmps41
              go_wp2_with fail
              go_quiet (fail)
              go_wp2_with fail
              go_region
              go_wp2_with fail
              refine bodyPost_ret (results_tmp3 rfl _ _ _) rfl ?_
              exact ⟨rfl, (Below.drawn (Below.refl _ _) _).drew⟩
            · have em : ((y : Int) % 8 != 0) = false := by simp; omega
              clear hm hz h7
              go_enter Tryz.func41, Tryz.ntmps41
              go_wp2_with fail
              go_quiet (fail)
              go_wp2_with fail
              go_region
              go_wp2_with fail
              refine bodyPost_ret (results_tmp3 rfl _ _ _) rfl ?_
              exact ⟨rfl, (Below.drawn (Below.refl _ _) _).drew⟩
            · have em : ((y : Int) % 16 != 0) = false := by simp; omega
              clear hm hz h7
              go_enter Tryz.func41, Tryz.ntmps41
              go_wp2_with fail
              go_quiet (fail)
              go_wp2_with fail
              go_region
              go_wp2_with fail
              refine bodyPost_ret (results_tmp3 rfl _ _ _) rfl ?_
              exact ⟨rfl, (Below.drawn (Below.refl _ _) _).drew⟩
            · have em : ((y : Int) % 32 != 0) = false := by simp; omega
              clear hm hz h7
              go_enter Tryz.func41, Tryz.ntmps41
              go_wp2_with fail
              go_quiet (fail)
              go_wp2_with fail
              go_region
              go_wp2_with fail
              refine bodyPost_ret (results_tmp3 rfl _ _ _) rfl ?_
              exact ⟨rfl, (Below.drawn (Below.refl _ _) _).drew⟩
            · have em : ((y : Int) % 64 != 0) = false := by simp; omega
              clear hm hz h7
              go_enter Tryz.func41, Tryz.ntmps41
              go_wp2_with fail
              go_quiet (fail)
              go_wp2_with fail
              go_region
              go_wp2_with fail
              refine bodyPost_ret (results_tmp3 rfl _ _ _) rfl ?_
              exact ⟨rfl, (Below.drawn (Below.refl _ _) _).drew⟩
            · have em : ((y : Int) % 128 != 0) = false := by simp; omega
              clear hm hz h7
              go_enter Tryz.func41, Tryz.ntmps41
              go_wp2_with fail
              go_quiet (fail)
              go_wp2_with fail
              go_region
              go_wp2_with fail
              refine bodyPost_ret (results_tmp3 rfl _ _ _) rfl ?_
              exact ⟨rfl, (Below.drawn (Below.refl _ _) _).drew⟩
          · rw [decide_eq_false hm] at hu
            rw [bits_bad (.inr (.inr (by rw [← hx]; exact hu)))]
            clear hx h0 hu hy
            rcases (by omega : x = 1 ∨ x = 2 ∨ x = 3 ∨ x = 4 ∨ x = 5 ∨ x = 6 ∨ x = 7) with rfl | rfl | rfl | rfl | rfl | rfl | rfl
            · have em : ((y : Int) % 2 != 0) = true := by simp; omega
              clear hm hz h7
              go_enter Tryz.func41, Tryz.ntmps41
              go_wp2_with fail
              go_quiet (fail)
              go_wp2_with fail
              refine bodyPost_ret (results_tmp3 rfl _ _ _) rfl ?_
              exact ⟨rfl, Below.drawn (Below.refl _ _) _⟩
            · have em : ((y : Int) % 4 != 0) = true := by simp; omega
              clear hm hz h7
              go_enter Tryz.func41, Tryz.ntmps41
              go_wp2_with fail
              go_quiet (fail)
              go_wp2_with fail
              refine bodyPost_ret (results_tmp3 rfl _ _ _) rfl ?_
              exact ⟨rfl, Below.drawn (Below.refl _ _) _⟩
            · have em : ((y : Int) % 8 != 0) = true := by simp; omega
              clear hm hz h7
              go_enter Tryz.func41, Tryz.ntmps41
              go_wp2_with fail
              go_quiet (fail)
              go_wp2_with fail
              refine bodyPost_ret (results_tmp3 rfl _ _ _) rfl ?_
              exact ⟨rfl, Below.drawn (Below.refl _ _) _⟩
            · have em : ((y : Int) % 16 != 0) = true := by simp; omega
              clear hm hz h7
              go_enter Tryz.func41, Tryz.ntmps41
              go_wp2_with fail
              go_quiet (fail)
              go_wp2_with fail
              refine bodyPost_ret (results_tmp3 rfl _ _ _) rfl ?_
              exact ⟨rfl, Below.drawn (Below.refl _ _) _⟩
            · have em : ((y : Int) % 32 != 0) = true := by simp; omega
              clear hm hz h7
              go_enter Tryz.func41, Tryz.ntmps41
              go_wp2_with fail
              go_quiet (fail)
              go_wp2_with fail
              refine bodyPost_ret (results_tmp3 rfl _ _ _) rfl ?_
              exact ⟨rfl, Below.drawn (Below.refl _ _) _⟩
            · have em : ((y : Int) % 64 != 0) = true := by simp; omega
              clear hm hz h7
              go_enter Tryz.func41, Tryz.ntmps41
              go_wp2_with fail
              go_quiet (fail)
              go_wp2_with fail
              refine bodyPost_ret (results_tmp3 rfl _ _ _) rfl ?_
              exact ⟨rfl, Below.drawn (Below.refl _ _) _⟩
            · have em : ((y : Int) % 128 != 0) = true := by simp; omega
              clear hm hz h7
              go_enter Tryz.func41, Tryz.ntmps41
              go_wp2_with fail
              go_quiet (fail)
              go_wp2_with fail
              refine bodyPost_ret (results_tmp3 rfl _ _ _) rfl ?_
              exact ⟨rfl, Below.drawn (Below.refl _ _) _⟩
theorem str_cons (y : UInt8) (b : ByteArray) : strOf [y] ++ b = strOf (y :: b.data.toList) := by
  apply ByteArray.ext
  rw [ByteArray.data_append]
  apply Array.ext'
  rw [Array.toList_append]
  rfl
theorem pbits_out {b : ByteArray} {u : Int} (h : u < 0 ∨ 7 < u) : putBitsVal b u = .tuple #[.string ⟨#[]⟩, .int .i64 1] := by
  have e : putBitsErr b u = 1 := by unfold putBitsErr; exact if_pos h
  unfold putBitsVal putBitsStr
  rw [e]; rfl
theorem pbits_bad {b : ByteArray} {u : Nat} (h : u ≤ 7) (k : unusedOk b u = false) : putBitsVal b (u : Int) = .tuple #[.string ⟨#[]⟩, .int .i64 7] := by
  have e : putBitsErr b (u : Int) = 7 := by unfold putBitsErr; rw [if_neg (by omega), Int.toNat_natCast]; exact if_pos k
  unfold putBitsVal putBitsStr
  rw [e]; rfl
theorem pbits_good {b : ByteArray} {y : UInt8} (h : y.toNat ≤ 7) (k : unusedOk b y.toNat = true) : putBitsVal b ((y.toNat : Nat) : Int) = .tuple #[.string (strOf [y] ++ b), .int .i64 0] := by
  have e : putBitsErr b ((y.toNat : Nat) : Int) = 0 := by unfold putBitsErr; rw [if_neg (by omega), Int.toNat_natCast]; exact if_neg (by rw [k]; decide)
  unfold putBitsVal putBitsStr
  rw [e, Int.toNat_natCast, UInt8.ofNat_toNat, str_cons]; rfl

set_option maxRecDepth 100000 in
set_option maxHeartbeats 1000000 in
theorem pbits_any (b : ByteArray) (u : Int) (w : World) (hs : b.size ≤ 1099511627776) :
    Calls Tryz.prog 26 #[.string b, .int .i64 u] w fun e w' => e = .returned (putBitsVal b u) ∧ Below w.heap.size w w' := by
  by_cases h0 : u < 0
  · rw [pbits_out (.inl h0)]
    have d0 : decide (u < 0) = true := by simpa using h0
    clear h0
    go_enter Tryz.func26, Tryz.ntmps26
    go_wp2_with fail
    go_ret2
    exact ⟨rfl, Below.refl _ _⟩
  · by_cases h7 : 7 < u
    · rw [pbits_out (.inr h7)]
      have d0 : decide (u < 0) = false := by simpa using h0
      have d7 : decide (7 < u) = true := by simpa using h7
      clear h0 h7
      go_enter Tryz.func26, Tryz.ntmps26
      go_wp2_with fail
      go_ret2
      exact ⟨rfl, Below.refl _ _⟩
    · obtain ⟨n, rfl⟩ : ∃ n : Nat, u = (n : Int) := ⟨u.toNat, by omega⟩
      have hn : n ≤ 7 := by omega
      obtain ⟨y, rfl⟩ : ∃ y : UInt8, n = y.toNat := ⟨UInt8.ofNat n, by simp; omega⟩
      have d7 : decide ((7 : Int) < ((y.toNat : Nat) : Int)) = false := by simp; omega
      have HU := Lib.hid (fun w => unused_any b y.toNat w hn hs)
      clear h0 h7
      cases hB : unusedOk b y.toNat with
      | false =>
        rw [pbits_bad hn hB]
        rw [hB] at HU
        clear hB
        go_enter Tryz.func26, Tryz.ntmps26
        go_wp2_with (go_at_call 51; (with_reducible refine (HU.out _).mono ?_); rintro e w1 ⟨rfl, rfl⟩)
        go_ret2
        exact ⟨rfl, Below.refl _ _⟩
      | true =>
        rw [pbits_good hn hB]
        rw [hB] at HU
        have hmod : ((y.toNat : Nat) : Int) % 256 = ((y.toNat : Nat) : Int) := by omega
        have hcv := own_str (own_one w y)
        have hsz : (strOf [y]).size = 1 := rfl
        clear hB
        go_enter Tryz.func26, Tryz.ntmps26
        go_wp2_with (go_at_call 51; (with_reducible refine (HU.out _).mono ?_); rintro e w1 ⟨rfl, rfl⟩)
        go_ret2
        exact ⟨rfl, belowNew _ _⟩
end Go.Proofs.YtpmlkofceidnjaaGreatDoor
