/-
  The contract of the reference's Sum: for every list of strings of at most 2^40 bytes together, the SHA-256 of its strings, one after the other; nothing that was there before the call has changed.
-/
import Derived.Test.YtpmlkofceidnjaaDoorAar
import Derived.Deep.DeepCutAuto
namespace Go.Proofs.YtpmlkofceidnjaaDoor
open Go.RowKit

theorem refByteInfo : (Tryd.prog.info? 5).map (fun i => (i.zero, i.size, i.bytes)) = some (some (.int .u8 0), 1, 1) := by kernel_rfl
theorem ivRow : (#[.int .u32 1779033703, .int .u32 3144134277, .int .u32 1013904242, .int .u32 2773480762, .int .u32 1359893119, .int .u32 2600822924, .int .u32 528734635, .int .u32 1541459225] : Array Value) = stRow iv := by kernel_rfl

/-- The bytes that are put behind, when k bytes of the number of bits have been put. -/
def tailB (N m k : Nat) : List UInt8 := (128 :: List.replicate (m + (8 - k)) 0) ++ (lenBytes N).drop (8 - k)
theorem tailB_length (N m k : Nat) (hk : k ≤ 8) : (tailB N m k).length = 9 + m := by simp [tailB, lenBytes]; omega
theorem tail_made {w : World} {B : Nat} {v : Value} (m : Nat) (h : w.ownsRow B 5 1 v (9 + m) (madeCells (Value.int .u8 0).cells ((9 + m) * 1)).toList) : OwnB 5 w B v (List.replicate (9 + m) 0) := by
  unfold OwnB
  rw [List.length_replicate]
  have e : (madeCells (Value.int .u8 0).cells ((9 + m) * 1)).toList = (List.replicate (9 + m) (0 : UInt8)).map bcell := by
    simp only [madeCells, Value.cells, Nat.mul_one]
    apply List.ext_getElem
    · simp
    · intro i h1 h2
      simp [Nat.mod_one, bcell]
  rw [← e]; exact h

theorem tail_made_at {w : World} {B g g' n cap : Nat} (m : Nat) (hg : g = g') (h : w.ownsRow B 5 1 (.slice (some ⟨g, 0, none⟩) n cap) (9 + m) (madeCells (Value.int .u8 0).cells ((9 + m) * 1)).toList) : OwnB 5 w B (.slice (some ⟨g', 0, none⟩) n cap) (List.replicate (9 + m) 0) := by
  rw [← hg]; exact tail_made m h
theorem tail_cell {w : World} {B g n cap : Nat} {l : List UInt8} (h : OwnB 5 w B (.slice (some ⟨g, 0, none⟩) n cap) l) (hl : l.length = n) (j : Nat) (hj : j < n) : w.cell? ⟨g, j, none⟩ = some (bcell (at8 l j)) := by
  subst hl
  have := World.ownsRow.cellAt h j (by omega)
  rw [this]
  simp [at8, hj]
theorem tail_free {w : World} {B g n cap : Nat} {l : List UInt8} (h : OwnB 5 w B (.slice (some ⟨g, 0, none⟩) n cap) l) (hl : l.length = n) (j : Nat) : w.frozen? ⟨g, j, none⟩ = false := by
  subst hl
  exact World.ownsRow.frozenAt h j
theorem tail_set {w : World} {B g N m : Nat} (h : OwnB 5 w B (.slice (some ⟨g, 0, none⟩) (9 + m) (9 + m)) (List.replicate (9 + m) 0)) :
    OwnB 5 (w.setCell ⟨g, 0, none⟩ (.int .u8 128)) B (.slice (some ⟨g, 0, none⟩) (9 + m) (9 + m)) (tailB N m 0) := by
  unfold OwnB at h ⊢
  rw [List.length_replicate] at h
  rw [tailB_length _ _ _ (by omega)]
  have := (h.stored 0 (.int .u8 128)).1
  have e : ((List.replicate (9 + m) (0 : UInt8)).map bcell).set 0 (.int .u8 128) = (tailB N m 0).map bcell := by
    have e8 : (lenBytes N).drop (8 - 0) = [] := List.drop_eq_nil_of_le (by simp [lenBytes])
    unfold tailB
    rw [e8, show 9 + m = (m + (8 - 0)) + 1 by omega, List.replicate_succ]
    simp
    rfl
  rw [← e]; exact this
theorem tail_step {w : World} {B g N m j : Nat} (h : OwnB 5 w B (.slice (some ⟨g, 0, none⟩) (9 + m) (9 + m)) (tailB N m j)) (hj : j < 8) :
    OwnB 5 (w.setCell ⟨g, 8 + m - j, none⟩ (bcell (UInt8.ofNat (8 * N / 256 ^ j)))) B (.slice (some ⟨g, 0, none⟩) (9 + m) (9 + m)) (tailB N m (j + 1)) := by
  unfold OwnB at h ⊢
  rw [tailB_length _ _ _ (by omega)] at h ⊢
  have := (h.stored (8 + m - j) (bcell (UInt8.ofNat (8 * N / 256 ^ j)))).1
  have e : ((tailB N m j).map bcell).set (8 + m - j) (bcell (UInt8.ofNat (8 * N / 256 ^ j))) = (tailB N m (j + 1)).map bcell := by
    rw [← List.map_set]
    congr 1
    unfold tailB
    have hl : (lenBytes N).length = 8 := by simp [lenBytes]
    have hp : ((128 : UInt8) :: List.replicate (m + (8 - j)) 0).length = m + (8 - j) + 1 := by simp
    rw [List.set_append_left _ _ (by rw [hp]; omega)]
    have h1 : ((128 : UInt8) :: List.replicate (m + (8 - j)) 0) = ((128 : UInt8) :: List.replicate (m + (8 - (j + 1))) 0) ++ [0] := by
      rw [show m + (8 - j) = (m + (8 - (j + 1))) + 1 by omega, List.replicate_succ']
      simp
    have h2 : (lenBytes N).drop (8 - (j + 1)) = UInt8.ofNat (8 * N / 256 ^ j) :: (lenBytes N).drop (8 - j) := by
      rw [List.drop_eq_getElem_cons (by omega)]
      congr 1
      · simp only [lenBytes, List.getElem_map, List.getElem_range]
        rw [show 7 - (8 - (j + 1)) = j by omega]
      · congr 1; omega
    rw [h1, h2, List.set_append_right _ _ (by simp; omega)]
    have h3 : 8 + m - j - ((128 : UInt8) :: List.replicate (m + (8 - (j + 1))) 0).length = 0 := by simp; omega
    rw [h3]
    simp
  rw [← e]; exact this

theorem stRow_get (s : St) (q : Nat) (h : q < 8) : (stRow s)[q]? = some (.int .u32 (u32 (at32 (stWords s) q))) := by
  match q, h with
  | 0, _ => rfl
  | 1, _ => rfl
  | 2, _ => rfl
  | 3, _ => rfl
  | 4, _ => rfl
  | 5, _ => rfl
  | 6, _ => rfl
  | 7, _ => rfl
theorem words_take (s : St) (q : Nat) (h : q < 8) : (stWords s).take (q + 1) = (stWords s).take q ++ [at32 (stWords s) q] := by
  rw [List.take_succ_eq_append_getElem (by simpa [stWords] using h)]
  congr 1
  simp [at32, stWords, h]
theorem words_length (s : St) (q : Nat) (h : q ≤ 8) : (((stWords s).take q).flatMap wordBytes).length = 4 * q := by
  induction q with
  | zero => rfl
  | succ q ih => rw [words_take s q (by omega), List.flatMap_append, List.length_append, ih (by omega)]; simp [wordBytes]; omega
/-- The four bytes of a word as the walk spells them. -/
theorem word_row (x : BitVec 32) : (wordBytes x).map bcell = (#[.int .u8 (u32 (x >>> 24) % 256), .int .u8 (u32 (x >>> 16) % 256), .int .u8 (u32 (x >>> 8) % 256), .int .u8 (u32 x % 256)] : Array Value).toList := by
  have h : ∀ y : BitVec 32, u32 y % 256 = (((UInt8.ofNat y.toNat).toNat : Nat) : Int) := fun y => by rw [← byte_wrap_u32]; simp [IntKind.wrap, IntKind.bits, IntKind.signed]
  rw [h, h, h, h]
  rfl

def RefSum (w : World) (E : ByteArray) (e : Ending) (w' : World) : Prop := e = .returned (.string E) ∧ Below w.heap.size w w'
def RoundPost (w : World) (s : St) (l : List UInt8) (e : Ending) (w' : World) : Prop := ∃ g, e = .returned (.slice (some ⟨g, 0, none⟩) 8 8) ∧ w'.heap[g]? = some (.cells (stRow (compress s l)) 69 (0, 0)) ∧ Below w.heap.size w w'
theorem round_post (hb : Nat) (s : St) (b : ByteArray) (hbs : b.size = 64) (w : World) (hg : w.heap[hb]? = some (.cells (stRow s) 69 (0, 0))) :
    Calls Tryd.prog 37 #[.slice (some ⟨hb, 0, none⟩) 8 8, .string b] w (RoundPost w s b.data.toList) := round_any hb s b hbs w hg

set_option maxRecDepth 100000 in
set_option maxHeartbeats 2000000 in
theorem refsum_core (a0 : Option Addr) (cap : Nat) (ss : List ByteArray) (w : World) (hv : ss = [] ∨ ∃ b o, a0 = some ⟨b, o, none⟩ ∧ ∀ i, i < ss.length → w.cell? ⟨b, o + i, none⟩ = some (.string (ss.getD i ByteArray.empty)))
    (hn : ss.length < 4611686018427387904) (hm : (cat_z ss).length ≤ 1099511627776) :
    Calls Tryd.prog 24 #[.slice a0 ss.length cap] w (RefSum w (shaStr (cat_z ss))) := by
  obtain ⟨i0, hi, hz0, hz1, hz2⟩ := info_parts refByteInfo
  obtain ⟨n, hln⟩ : ∃ n, n = ss.length := ⟨_, rfl⟩
  rw [← hln] at hn ⊢
  have HLN := Lib.hid hln
  have HV := Lib.hid hv
  have HM := Lib.hid hm
  clear hln hv hm
  go_enter Tryd.func24, Tryd.ntmps24
  go_wp2_with fail
  go_loopw [3, 17] (fun t i wr => ∃ (k : Nat) (c : ByteArray), k ≤ n ∧ i = .int .i64 k ∧ t = .string c ∧ c.data.toList = cat_z (ss.take k) ∧ wr = w) (fun _ i _ => n - (intOf i).toNat)
  case atStart => exact ⟨0, ⟨#[]⟩, Nat.zero_le _, rfl, rfl, rfl, rfl⟩
  case round =>
    obtain ⟨k, c, hk, rfl, rfl, hcc, hwr⟩ := hrel
    subst hwr
    have HCC := Lib.hid hcc
    clear hcc
    by_cases hlt : k < n
    · have hd : decide ((k : Int) < (n : Int)) = true := by simp; omega
      obtain ⟨b, o, ha, hc⟩ : ∃ b o, a0 = some ⟨b, o, none⟩ ∧ wr.cell? ⟨b, o + k, none⟩ = some (.string (ss.getD k ByteArray.empty)) := by
        rcases HV.out with h | ⟨b, o, h1, h2⟩
        · have := HLN.out; rw [h] at this; simp at this; omega
        · exact ⟨b, o, h1, h2 k (by rw [← HLN.out]; exact hlt)⟩
      obtain ⟨x, hx⟩ : ∃ x, x = ss.getD k ByteArray.empty := ⟨_, rfl⟩
      rw [← hx] at hc
      have HX := Lib.hid hx
      clear hx
      subst ha
      have hcx : c.size + x.size ≤ 1099511627776 := by
        have h1 := cat_take_succ_z ss k (by rw [← HLN.out]; exact hlt)
        have h2 := cat_take_le_z ss (k + 1)
        rw [h1, List.length_append, ← HX.out, ← HCC.out] at h2
        have h3 : x.data.toList.length = x.size := rfl
        have h4 : c.data.toList.length = c.size := rfl
        have h5 := HM.out
        omega
      have hcy : ((c.size : Nat) : Int) + ((x.size : Nat) : Int) ≤ 9223372036854775807 := by omega
      go_wp2_with fail
      go_roundw
      case rel =>
        refine ⟨k + 1, c ++ x, by omega, by go_num, rfl, ?_, (by first | exact trivial | rfl)⟩
        rw [cat_take_succ_z ss k (by rw [← HLN.out]; exact hlt), ← HX.out, ← HCC.out]
        simp
      case measure => simp [intOf]; omega
    · have ek : k = n := by omega
      subst ek
      obtain ⟨wo, rfl⟩ : ∃ wo : World, wo = wr := ⟨_, rfl⟩
      have hd : decide ((k : Int) < (k : Int)) = false := by simp
      obtain ⟨N, hN⟩ : ∃ N, N = c.size := ⟨_, rfl⟩
      have hN2 : N ≤ 1099511627776 := by
        have h2 := cat_take_le_z ss k
        rw [← HCC.out] at h2
        have h4 : c.data.toList.length = c.size := rfl
        have h5 := HM.out
        omega
      obtain ⟨m, hm⟩ : ∃ m, m = (119 - N % 64) % 64 := ⟨_, rfl⟩
      obtain ⟨q, hq⟩ : ∃ q, q = (N + 9) % 64 := ⟨_, rfl⟩
      have hcs : c.size = N := hN.symm
      have hqi : ((N : Int) + 9) % 64 = (q : Int) := by omega
      have hm64 : m < 64 := by omega
      have HQ := Lib.hid hq
      have HMM := Lib.hid hm
      have HN := Lib.hid hN
      clear hq hm hN
      go_upto_if 33 with (fail)
      rw [ivRow]
      go_cut [8] (fun s8 wx => s8 = .int .i64 (m : Int) ∧ wx = wo.alloc (.cells (stRow iv) 69))
      case first =>
        go_wp2_with fail
        all_goals go_meet
        · have h1 := HQ.out
          have h2 := HMM.out
          have h3 : ((64 : Int) - (q : Int) == 64) = true := by assumption
          have h4 : q = 0 := by simp at h3; omega
          refine ⟨?_, rfl⟩
          have : (0 : Int) = (m : Int) := by omega
          rw [← this]
        · have h1 := HQ.out
          have h2 := HMM.out
          have h3 : ((64 : Int) - (q : Int) == 64) = false := by assumption
          have h4 : q ≠ 0 := by simp at h3; omega
          refine ⟨?_, rfl⟩
          have : (64 : Int) - (q : Int) = (m : Int) := by omega
          rw [← this]
      case rest =>
        obtain ⟨rfl, rfl⟩ := hcut
        go_wp2_with (at_make; refine wpList_make_full _ rfl _ _ 59 rfl wo.heap.size 5 i0 (.int .u8 0) 1 Tryd.underlying59 hi hz0 hz1 .i64 .i64 (9 + (m : Int)) (9 + (m : Int)) (9 + m) rfl rfl (by omega) (by omega) (by rw [hz2]; omega) (by unfold maxLen; omega) (by simp) ?_; intro w1 hown1 hgr1; have ho1 : OwnB 5 w1 wo.heap.size (.slice (some ⟨wo.heap.size + 1, 0, none⟩) (9 + m) (9 + m)) (List.replicate (9 + m) 0) := (tail_made_at m (by simp) hown1); have HO1 := Lib.hid ho1; have HG1 := Lib.hid hgr1; have hc0 := tail_cell ho1 (by simp) 0 (by omega); have hf0 := tail_free ho1 (by simp) 0; clear ho1 hown1 hgr1)
        have hb1 : Below wo.heap.size wo w1 := ((Below.refl _ _).alloc (Nat.le_refl _) _).grown HG1.out (by simp) (fun _ e => by cases e)
        have hh1 : w1.heap[wo.heap.size]? = some (.cells (stRow iv) 69 (0, 0)) := (HG1.out.block _ (by simp) (by simp)).trans (heap_alloc_new _ _)
        have hs1 := tail_set HO1.out (N := N) (m := m)
        obtain ⟨T, hT⟩ : ∃ T, T = wo.heap.size + 1 := ⟨_, rfl⟩
        have hsz1 := HG1.out.size
        simp at hsz1
        have HB1 := Lib.hid hb1
        have HH1 := Lib.hid hh1
        have HS1 := Lib.hid hs1
        clear hb1 hh1 hs1
        go_loopw [10] (fun i wx => ∃ j : Nat, j ≤ 8 ∧ i = .int .i64 j ∧ OwnB 5 wx wo.heap.size (.slice (some ⟨wo.heap.size + 1, 0, none⟩) (9 + m) (9 + m)) (tailB N m j) ∧ Below wo.heap.size wo wx ∧ wx.heap[wo.heap.size]? = some (.cells (stRow iv) 69 (0, 0))) (fun i _ => 8 - (intOf i).toNat)
        case atStart => exact ⟨0, by omega, rfl, HS1.out, HB1.out.setCell (by simp) _, (heap_setCell_other _ _ _ _ (by simp)).trans HH1.out⟩
        case round =>
          obtain ⟨j, hj, rfl, ho, hb, hh⟩ := hrel
          have HO := Lib.hid ho
          have HB := Lib.hid hb
          have HH := Lib.hid hh
          by_cases hjt : j < 8
          · have hd2 : decide ((j : Int) < 8) = true := by simp; omega
            have hcj := tail_cell ho (tailB_length N m j (by omega)) (8 + m - j) (by omega)
            have hfj := tail_free ho (tailB_length N m j (by omega)) (8 + m - j)
            have hsj := tail_step (N := N) (m := m) (j := j) ho hjt
            have HSJ := Lib.hid hsj
            clear ho hb hh hsj
            go_wp2_with fail
            go_roundw
            case rel =>
              have ev : Value.int .u8 (8 * (N : Int) / 2 ^ (8 * j) % 256) = bcell (UInt8.ofNat (8 * N / 256 ^ j)) := by
                unfold bcell
                congr 1
                rw [← byte_wrap, show (256 : Nat) ^ j = 2 ^ (8 * j) by rw [Nat.pow_mul]]
                simp [IntKind.wrap, IntKind.bits, IntKind.signed]
              rw [ev]
              exact ⟨j + 1, by omega, by go_num, HSJ.out, HB.out.setCell (by simp) _, (heap_setCell_other _ _ _ _ (by simp)).trans HH.out⟩
            case measure => simp [intOf]; omega
          · have ej : j = 8 := by omega
            subst ej
            clear ho hb hh
            rw [show ((8 : Nat) : Int) = 8 from rfl]
            obtain ⟨tl, htl⟩ : ∃ tl : ByteArray, (⟨(tailB N m 8).toArray⟩ : ByteArray) = tl := ⟨_, rfl⟩
            have hconv := run_convert_own (P := Tryd.prog) (src := 59) (dst := 9) Tryd.underlying59 Tryd.underlying5 Tryd.underlying9 HO.out
            rw [htl] at hconv
            have htd : tl.data.toList = tailB N m 8 := by rw [← htl]
            have hts : tl.size = 9 + m := by
              have h1 : tl.data.toList.length = tl.size := rfl
              rw [← h1, htd, tailB_length _ _ _ (by omega)]
            obtain ⟨D, hD⟩ : ∃ D : ByteArray, c ++ tl = D := ⟨_, rfl⟩
            have et : ss.take k = ss := List.take_of_length_le (by rw [← HLN.out]; exact Nat.le_refl _)
            have hDd : D.data.toList = padded (cat_z ss) := by
              rw [← hD, show (c ++ tl).data.toList = c.data.toList ++ tl.data.toList by simp, htd, HCC.out, et]
              have hN3 : N = (cat_z ss).length := by
                rw [HN.out, ← et, ← HCC.out]; rfl
              rw [padded, ← hN3, HMM.out]
              unfold tailB padding
              simp
            obtain ⟨M, hM⟩ : ∃ M, M = (padded (cat_z ss)).length / 64 := ⟨_, rfl⟩
            have hDs : D.size = 64 * M := by
              have h1 : D.data.toList.length = D.size := rfl
              have h2 := padded_length (cat_z ss)
              rw [← h1, hDd]; omega
            have hMb : 64 * M ≤ 1099511627776 + 200 := by
              have h1 : D.size = c.size + tl.size := by rw [← hD]; simp
              omega
            have HDD := Lib.hid hDd
            have HM2 := Lib.hid hM
            have hcat2 : ((c.size : Nat) : Int) + ((tl.size : Nat) : Int) ≤ 9223372036854775807 := by omega
            clear htl htd et hDd hM
            go_wp2_with fail
            obtain ⟨w2, rfl⟩ : ∃ w2 : World, w2 = wr := ⟨_, rfl⟩
            go_loopw [6, 11] (fun t i wx => ∃ j g : Nat, j ≤ M ∧ i = .int .i64 (64 * (j : Int)) ∧ t = .slice (some ⟨g, 0, none⟩) 8 8 ∧ wx.heap[g]? = some (.cells (stRow (chain (padded (cat_z ss)) j)) 69 (0, 0)) ∧ Below wo.heap.size wo wx) (fun _ i _ => (64 * M - (intOf i).toNat))
            case atStart => exact ⟨0, wo.heap.size, Nat.zero_le _, rfl, rfl, HH.out, HB.out⟩
            case round =>
              obtain ⟨j, g, hj, rfl, rfl, hg, hb⟩ := hrel
              have HG := Lib.hid hg
              have HB2 := Lib.hid hb
              clear hg hb
              by_cases hjt : j < M
              · have hd3 : decide ((64 : Int) * (j : Int) < 64 * (M : Int)) = true := by simp; omega
                have hex : (D.extract (64 * j) (64 * j + 64)).size = 64 := by rw [ByteArray.size_extract]; omega
                have hexd : (D.extract (64 * j) (64 * j + 64)).data.toList = ((padded (cat_z ss)).drop (64 * j)).take 64 := by
                  rw [← HDD.out]
                  simp only [ByteArray.data_extract, Array.toList_extract, List.extract_eq_take_drop]
                  rw [show 64 * j + 64 - 64 * j = 64 by omega]
                have HEX := Lib.hid hex
                have HEXD := Lib.hid hexd
                clear hex hexd
                go_wp2_with (go_at_call 37; refine (round_post g (chain (padded (cat_z ss)) j) (D.extract (64 * j) (64 * j + 64)) HEX.out _ HG.out).mono ?_; rintro e w3 ⟨g', rfl, hg', hb'⟩; have HG2 := Lib.hid hg'; have HB3 := Lib.hid hb'; clear hg' hb')
                go_roundw
                case rel =>
                  refine ⟨j + 1, g', by omega, by go_num, rfl, ?_, HB2.out.next HB3.out⟩
                  rw [chain, ← HEXD.out]; exact HG2.out
                case measure => simp [intOf]; omega
              · have ej : j = M := by omega
                subst ej
                have hd3 : decide ((64 : Int) * (j : Int) < 64 * (j : Int)) = false := by simp
                obtain ⟨S, hS⟩ : ∃ S, S = chain (padded (cat_z ss)) j := ⟨_, rfl⟩
                have hgs : wr.heap[g]? = some (.cells (stRow S) 69 (0, 0)) := by rw [hS]; exact HG.out
                have HGS := Lib.hid hgs
                have HSS := Lib.hid hS
                clear hgs hS
                obtain ⟨w4, rfl⟩ : ∃ w4 : World, w4 = wr := ⟨_, rfl⟩
                go_wp2_with (at_make; refine wpList_make_own _ rfl _ _ 59 rfl w4.heap.size 5 i0 (.int .u8 0) 1 Tryd.underlying59 hi hz0 hz1 .i64 .i64 32 32 rfl rfl rfl (by rw [hz2]; omega) (by unfold maxLen; omega) (Nat.le_refl _) ?_; intro w5 hown5 hgr5; have HO5 := Lib.hid hown5; have HG5 := Lib.hid hgr5; clear hown5 hgr5)
                go_loopw [12, 76] (fun v i wx => ∃ q : Nat, q ≤ 8 ∧ i = .int .i64 q ∧ OwnB 5 wx w4.heap.size v (((stWords S).take q).flatMap wordBytes) ∧ Below w4.heap.size w4 wx) (fun _ i _ => 8 - (intOf i).toNat)
                case atStart => exact ⟨0, by omega, rfl, HO5.out, (Below.refl _ _).grown HG5.out (Nat.le_refl _) (fun _ e => by cases e)⟩
                case round =>
                  obtain ⟨q, hq, rfl, ho, hb⟩ := hrel
                  have HO6 := Lib.hid ho
                  have HB6 := Lib.hid hb
                  have hsb := hb.size
                  clear ho hb
                  by_cases hqt : q < 8
                  · have hd4 : decide ((q : Int) < 8) = true := by simp; omega
                    have hcell : wr.cell? ⟨g, q, none⟩ = some (.int .u32 (Go.Proofs.YtpmlkofceidnjaaDoor.u32 (at32 (stWords S) q))) := by
                      rw [cell_of_row wr g q _ _ _ ((HB6.out.block g (Array.getElem?_eq_some_iff.1 HGS.out).1).trans HGS.out)]
                      exact stRow_get S q hqt
                    have hlen : (((stWords S).take q).flatMap wordBytes).length = 4 * q := words_length S q (by omega)
                    have HLQ := Lib.hid hlen
                    clear hlen
                    go_wp2_with (at_builtin; refine wpList_append_own _ rfl (.tmp 80) (.tmp 92) 59 rfl w4.heap.size 5 i0 (.int .u8 0) 1 1 Tryd.underlying59 hi hz0 hz1 hz2 rfl (by decide) _ _ _ rfl (HO6.out.alloc _) ⟨wr.heap.size, 0, none⟩ 4 4 ((wordBytes (at32 (stWords S) q)).map bcell) rfl rfl ?_ (bcells_one _) (by rw [HLQ.out]; unfold maxLen; omega) (by rw [HLQ.out]; omega) (by simp; omega) ?_; (rw [word_row]; exact news_row _ _ _); intro v' w6 hown6 hgr6 _)
                    have hfl : ((stWords S).take (q + 1)).flatMap wordBytes = ((stWords S).take q).flatMap wordBytes ++ wordBytes (at32 (stWords S) q) := by rw [words_take S q hqt, List.flatMap_append]; simp
                    have ho6 : OwnB 5 w6 w4.heap.size v' (((stWords S).take (q + 1)).flatMap wordBytes) := by
                      unfold OwnB
                      rw [hfl, List.length_append, List.map_append]; exact hown6
                    have hb6 : Below w4.heap.size w4 w6 := OwnB.grown (HO6.out.alloc _) (Below.alloc HB6.out hsb _) hgr6 (by simp; omega) (Nat.le_refl _)
                    clear hown6 hgr6 hfl
                    have HO7 := Lib.hid ho6
                    have HB7 := Lib.hid hb6
                    clear ho6 hb6
                    go_wp2_with fail
                    go_roundw
                    case rel => exact ⟨q + 1, by omega, by go_num, HO7.out, HB7.out⟩
                    case measure => simp [intOf]; omega
                  · have eq8 : q = 8 := by omega
                    subst eq8
                    have hd4 : decide (((8 : Nat) : Int) < 8) = false := by decide
                    have hconv2 := run_convert_own (P := Tryd.prog) (src := 59) (dst := 9) Tryd.underlying59 Tryd.underlying5 Tryd.underlying9 HO6.out
                    have HBX := Lib.hid (HB2.out.next HB6.out)
                    go_wp2_with fail
                    go_ret
                    refine ⟨?_, HBX.out⟩
                    have e1 : ((stWords S).take 8).flatMap wordBytes = sha (cat_z ss) := by
                      rw [List.take_of_length_le (by simp [stWords]), HSS.out, HM2.out]; rfl
                    rw [e1]; rfl
end Go.Proofs.YtpmlkofceidnjaaDoor
