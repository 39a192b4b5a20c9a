/-
  The contract of the reference's round: the state behind a block of 64 bytes, in a new slice of eight words; nothing that was there before the call has changed.
  Nothing is left of this text.
  Nothing is left of this text.
  A hash.Stream in memory: its 73 cells, and what it stands for. Nothing is claimed of the program here.
  Nothing is left of this text.
  The contract of (*hash.Stream).Write on a stream that is not nil: the bytes are put behind those that it stands for; of what was there before the call only the stream has changed.
  Nothing is left of this text.
  Nothing is left of this text.
  The contracts of hash.Sum, hash.Short, hash.Start and the stream's Len: for every list of strings of fewer than 2^61 bytes together, the SHA-256 of its strings, one after the other.
  Nothing is left of this text.
  The contract of the law package's sanity check: the two examples of the chapter hold.
-/
import Derived.Test.YtpmlkofceidnjaaDoorAaa
import Derived.Test.YtpmlkofceidnjaaDoorAaq
import Derived.Deep.RegionHeld3
import Derived.Laws.CopyRow
import Derived.Deep.OwnRows
import Derived.Deep.RegionLaw
import Derived.Lib.Bytes
import Derived.WalkSpells
import Derived.Deep.DeepCutAuto
import Derived.OwnWalk
import Derived.Laws.BytesString
namespace Go.Proofs.YtpmlkofceidnjaaDoor
open Go.RowKit

theorem kRow : (#[.int .u32 1116352408, .int .u32 1899447441, .int .u32 3049323471, .int .u32 3921009573, .int .u32 961987163, .int .u32 1508970993, .int .u32 2453635748, .int .u32 2870763221, .int .u32 3624381080, .int .u32 310598401, .int .u32 607225278, .int .u32 1426881987, .int .u32 1925078388, .int .u32 2162078206, .int .u32 2614888103, .int .u32 3248222580, .int .u32 3835390401, .int .u32 4022224774, .int .u32 264347078, .int .u32 604807628, .int .u32 770255983, .int .u32 1249150122, .int .u32 1555081692, .int .u32 1996064986, .int .u32 2554220882, .int .u32 2821834349, .int .u32 2952996808, .int .u32 3210313671, .int .u32 3336571891, .int .u32 3584528711, .int .u32 113926993, .int .u32 338241895, .int .u32 666307205, .int .u32 773529912, .int .u32 1294757372, .int .u32 1396182291, .int .u32 1695183700, .int .u32 1986661051, .int .u32 2177026350, .int .u32 2456956037, .int .u32 2730485921, .int .u32 2820302411, .int .u32 3259730800, .int .u32 3345764771, .int .u32 3516065817, .int .u32 3600352804, .int .u32 4094571909, .int .u32 275423344, .int .u32 430227734, .int .u32 506948616, .int .u32 659060556, .int .u32 883997877, .int .u32 958139571, .int .u32 1322822218, .int .u32 1537002063, .int .u32 1747873779, .int .u32 1955562222, .int .u32 2024104815, .int .u32 2227730452, .int .u32 2361852424, .int .u32 2428436474, .int .u32 2756734187, .int .u32 3204031479, .int .u32 3329325298] : Array Value) = wordRow kWords := by kernel_rfl

theorem at32_take_step (L : List (BitVec 32)) (k j : Nat) (hk : k < L.length) : at32 (L.take (k + 1)) j = if j = k then at32 L k else at32 (L.take k) j := by
  unfold at32
  rw [List.getD_eq_getElem?_getD, List.getD_eq_getElem?_getD, List.getD_eq_getElem?_getD]
  by_cases e : j = k
  · subst e; rw [if_pos rfl, List.getElem?_take_of_lt (by omega)]
  · rw [if_neg e]
    by_cases h : j < k
    · rw [List.getElem?_take_of_lt (by omega), List.getElem?_take_of_lt h]
    · rw [List.getElem?_eq_none (by rw [List.length_take]; omega), List.getElem?_eq_none (by rw [List.length_take]; omega)]
theorem words16_at (l : List UInt8) (hl : l.length = 64) (k : Nat) (hk : k < 16) : at32 (words16 l) k = bw (at8 l (4 * k)) <<< 24 ||| bw (at8 l (4 * k + 1)) <<< 16 ||| bw (at8 l (4 * k + 2)) <<< 8 ||| bw (at8 l (4 * k + 3)) := by
  have e : (l.drop (4 * k)).take 4 = [at8 l (4 * k), at8 l (4 * k + 1), at8 l (4 * k + 2), at8 l (4 * k + 3)] := by
    apply List.ext_getElem?
    intro i
    rcases i with _ | _ | _ | _ | i
    · simp [at8, show 4 * k < l.length by omega]
    · simp [at8, show 4 * k + 1 < l.length by omega]
    · simp [at8, show 4 * k + 2 < l.length by omega]
    · simp [at8, show 4 * k + 3 < l.length by omega]
    · rw [List.getElem?_eq_none (by simp; omega), List.getElem?_eq_none (by simp)]
  rw [← wordOf_four, ← e]
  simp [at32, words16, hk]
theorem byte_at8 (b : ByteArray) (j : Nat) (h : j < b.size) : at8 b.data.toList j = b[j] := by
  have : j < b.data.toList.length := h
  show b.data.toList.getD j 0 = b[j]
  rw [List.getD_eq_getElem?_getD, List.getElem?_eq_getElem this]
  rfl

set_option maxRecDepth 100000 in
set_option maxHeartbeats 2000000 in
theorem round_any (hb : Nat) (s : St) (b : ByteArray) (hbs : b.size = 64) (w : World) (hg : w.heap[hb]? = some (.cells (stRow s) 69 (0, 0))) :
    Calls Tryd.prog 37 #[.slice (some ⟨hb, 0, none⟩) 8 8, .string b] w fun e w' => ∃ g, e = .returned (.slice (some ⟨g, 0, none⟩) 8 8) ∧ w'.heap[g]? = some (.cells (stRow (compress s b.data.toList)) 69 (0, 0)) ∧ Below w.heap.size w w' := by
  go_enter Tryd.func37, Tryd.ntmps37
  go_wp2_with (refine wpList_alloc_row rfl 92 rfl (wordRow []) zeroWords ?_)
  rw [kRow]
  go_loopw [7] (fun i wr => ∃ k n : Nat, k ≤ 16 ∧ i = .int .i64 k ∧ wr = ((w.alloc (.cells (wordRow kWords) 69)).alloc (.cells (wordRow ((words16 b.data.toList).take k)) 92)).drewN n) (fun i _ => 16 - (intOf i).toNat)
  case atStart => exact ⟨0, 0, by omega, rfl, rfl⟩
  case round =>
    obtain ⟨k, n, hk, rfl, rfl⟩ := hrel
    by_cases hlt : k < 16
    · --DEVCUT
      have hd : decide ((k : Int) < 16) = true := by simp; omega
      obtain ⟨x0, hx0⟩ : ∃ x, b[4 * k]'(by omega) = x := ⟨_, rfl⟩
      obtain ⟨x1, hx1⟩ : ∃ x, b[4 * k + 1]'(by omega) = x := ⟨_, rfl⟩
      obtain ⟨x2, hx2⟩ : ∃ x, b[4 * k + 2]'(by omega) = x := ⟨_, rfl⟩
      obtain ⟨x3, hx3⟩ : ∃ x, b[4 * k + 3]'(by omega) = x := ⟨_, rfl⟩
      have i0 := fun wx => run_index_at (P := Tryd.prog) Tryd.underlying9 b (4 * k) x0 (by omega) hx0 ((4 : Int) * (k : Int)) (by omega) wx
      have i1 := fun wx => run_index_at (P := Tryd.prog) Tryd.underlying9 b (4 * k + 1) x1 (by omega) hx1 ((4 : Int) * (k : Int) + 1) (by omega) wx
      have i2 := fun wx => run_index_at (P := Tryd.prog) Tryd.underlying9 b (4 * k + 2) x2 (by omega) hx2 ((4 : Int) * (k : Int) + 2) (by omega) wx
      have i3 := fun wx => run_index_at (P := Tryd.prog) Tryd.underlying9 b (4 * k + 3) x3 (by omega) hx3 ((4 : Int) * (k : Int) + 3) (by omega) wx
      have gst := wordRow_get ((words16 b.data.toList).take k) k (by omega)
      have HX0 := Lib.hid hx0
      have HX1 := Lib.hid hx1
      have HX2 := Lib.hid hx2
      have HX3 := Lib.hid hx3
      clear hx0 hx1 hx2 hx3
      go_wp2_with fail
      go_region
      all_goals go_wp2_with fail
      go_roundw
      case rel =>
        refine ⟨k + 1, n + 1, by omega, by go_num, ?_⟩
        rw [setCell_last _ _ _ _ _ _ _ (by simp)]
        have hll : b.data.toList.length = 64 := hbs
        have e : bw x0 <<< 24 ||| bw x1 <<< 16 ||| bw x2 <<< 8 ||| bw x3 = at32 (words16 b.data.toList) k := by
          rw [words16_at _ hll k hlt, byte_at8 b _ (by omega), byte_at8 b _ (by omega), byte_at8 b _ (by omega), byte_at8 b _ (by omega), HX0.out, HX1.out, HX2.out, HX3.out]
        rw [e, wordRow_put _ _ _ (by omega) ((words16 b.data.toList).take (k + 1)) (fun i _ => at32_take_step _ k i (by simp [words16]; exact hlt))]
      case measure => simp [intOf]; omega
      --DEVEND
    · have e16 : k = 16 := by omega
      subst e16
      have hd : decide (((16 : Nat) : Int) < 16) = false := by decide
      rw [show (words16 b.data.toList).take 16 = sched b.data.toList 0 from List.take_of_length_le (by simp [words16])]
      clear hlt hk
      go_wp2_with fail
      go_loopw [8] (fun i wr => ∃ k n : Nat, k ≤ 48 ∧ i = .int .i64 (16 + k : Nat) ∧ wr = ((w.alloc (.cells (wordRow kWords) 69)).alloc (.cells (wordRow (sched b.data.toList k)) 92)).drewN n) (fun i _ => 64 - (intOf i).toNat)
      case atStart => exact ⟨0, _, by omega, rfl, rfl⟩
      case round =>
        obtain ⟨k, n, hk, rfl, rfl⟩ := hrel
        by_cases hlt : k < 48
        · --DEVCUT
          have hd : decide ((16 : Int) + (k : Int) < 64) = true := by simp; omega
          have g16 := wordRow_get (sched b.data.toList k) k (by omega)
          have gst := wordRow_get (sched b.data.toList k) (16 + k) (by omega)
          have g15 := wordRow_get (sched b.data.toList k) (16 + k - 15) (by omega)
          have g7 := wordRow_get (sched b.data.toList k) (16 + k - 7) (by omega)
          have g2 := wordRow_get (sched b.data.toList k) (16 + k - 2) (by omega)
          go_wp2_with fail
          go_quiet (fail)
          go_wp2_with fail
          go_region
          all_goals go_wp2_with fail
          go_roundw
          case rel =>
            refine ⟨k + 1, n + nq + 1, by omega, by go_num, ?_⟩
            rw [setCell_last _ _ _ _ _ _ _ (by simp)]
            rw [wordRow_put _ _ _ (by omega) (sched b.data.toList (k + 1)) (fun i _ => ?_)]
            rw [at32_sched_step]
            simp only [newWord, small0, small1, Nat.add_sub_cancel_left]
          case measure => simp [intOf]; omega
          --DEVEND
        · have e48 : k = 48 := by omega
          subst e48
          have hd : decide ((16 : Int) + ((48 : Nat) : Int) < 64) = false := by decide
          clear hlt hk
          obtain ⟨wa, hwa⟩ : ∃ wa, wa = (w.alloc (.cells (wordRow kWords) 69)).alloc (.cells (wordRow (sched b.data.toList 48)) 92) := ⟨_, rfl⟩
          have hKa : Holds wa w.heap.size kWords := by rw [hwa]; exact Holds.of_row (heap_alloc2_old _ _ _)
          have hWa : Holds wa (w.heap.size + 1) (sched b.data.toList 48) := by rw [hwa]; exact Holds.of_row (heap_alloc2_new _ _ _)
          have hba : Below w.heap.size w wa := by rw [hwa]; exact ((Below.refl _ _).alloc (Nat.le_refl _) _).alloc (by simp) _
          have hga : wa.heap[hb]? = some (.cells (stRow s) 69 (0, 0)) := (hba.block hb (Array.getElem?_eq_some_iff.1 hg).1).trans hg
          have c0 := cell_of_row wa _ 0 _ _ _ hga
          have c1 := cell_of_row wa _ 1 _ _ _ hga
          have c2 := cell_of_row wa _ 2 _ _ _ hga
          have c3 := cell_of_row wa _ 3 _ _ _ hga
          have c4 := cell_of_row wa _ 4 _ _ _ hga
          have c5 := cell_of_row wa _ 5 _ _ _ hga
          have c6 := cell_of_row wa _ 6 _ _ _ hga
          have c7 := cell_of_row wa _ 7 _ _ _ hga
          simp at c0 c1 c2 c3 c4 c5 c6 c7
          rw [← hwa]
          have HKa := Lib.hid hKa
          have HWa := Lib.hid hWa
          have HBa := Lib.hid hba
          clear hwa hKa hWa hba hga
          go_wp2_with fail
          go_quiet (fail)
          go_wp2_with fail
          go_loopw [13, 14, 15, 16, 17, 18, 19, 20, 21] (fun a b' c d e f g h i wr => ∃ k n : Nat, ∃ r : St, k ≤ 64 ∧ i = .int .i64 k ∧ r = rounds (sched b.data.toList 48) s k ∧ a = .int .u32 (Go.Proofs.YtpmlkofceidnjaaDoor.u32 r.a) ∧ b' = .int .u32 (Go.Proofs.YtpmlkofceidnjaaDoor.u32 r.b) ∧ c = .int .u32 (Go.Proofs.YtpmlkofceidnjaaDoor.u32 r.c) ∧ d = .int .u32 (Go.Proofs.YtpmlkofceidnjaaDoor.u32 r.d) ∧ e = .int .u32 (Go.Proofs.YtpmlkofceidnjaaDoor.u32 r.e) ∧ f = .int .u32 (Go.Proofs.YtpmlkofceidnjaaDoor.u32 r.f) ∧ g = .int .u32 (Go.Proofs.YtpmlkofceidnjaaDoor.u32 r.g) ∧ h = .int .u32 (Go.Proofs.YtpmlkofceidnjaaDoor.u32 r.h) ∧ wr = wa.drewN n) (fun _ _ _ _ _ _ _ _ i _ => 64 - (intOf i).toNat)
          case atStart => exact ⟨0, _, s, by omega, rfl, rfl, rfl, rfl, rfl, rfl, rfl, rfl, rfl, rfl, by first | exact World.drewN_drewN _ _ _ | rfl⟩
          case round =>
            obtain ⟨k, n, r, hk, rfl, hr, rfl, rfl, rfl, rfl, rfl, rfl, rfl, rfl, rfl⟩ := hrel
            have HR := Lib.hid hr
            clear hr
            by_cases hlt : k < 64
            · --DEVCUT
              have hd : decide ((k : Int) < 64) = true := by simp; omega
              have gK := HKa.out k hlt
              have gW := HWa.out k hlt
              clear c0 c1 c2 c3 c4 c5 c6 c7
              go_wp2_with fail
              go_quiet (fail)
              go_wp2_with fail
              go_roundw
              case rel =>
                refine ⟨k + 1, _, step (at32 kWords k) (at32 (sched b.data.toList 48) k) r, by omega, by go_num, by rw [HR.out]; rfl, ?_, rfl, rfl, rfl, ?_, rfl, rfl, rfl, rfl⟩
                · simp only [step, big0, big1, choose, major]
                · simp only [step, big0, big1, choose, major]
              case measure => simp [intOf]; omega
              --DEVEND
            · have e64 : k = 64 := by omega
              subst e64
              have hd : decide (((64 : Nat) : Int) < 64) = false := by decide
              clear hlt hk
              go_wp2_with fail
              go_region_held3 (fun w' => w'.cell? ⟨hb, 0, none⟩ = some (.int .u32 (Go.Proofs.YtpmlkofceidnjaaDoor.u32 s.a)) ∧ w'.cell? ⟨hb, 1, none⟩ = some (.int .u32 (Go.Proofs.YtpmlkofceidnjaaDoor.u32 s.b)) ∧ w'.cell? ⟨hb, 2, none⟩ = some (.int .u32 (Go.Proofs.YtpmlkofceidnjaaDoor.u32 s.c)) ∧ w'.cell? ⟨hb, 3, none⟩ = some (.int .u32 (Go.Proofs.YtpmlkofceidnjaaDoor.u32 s.d)) ∧ w'.cell? ⟨hb, 4, none⟩ = some (.int .u32 (Go.Proofs.YtpmlkofceidnjaaDoor.u32 s.e)) ∧ w'.cell? ⟨hb, 5, none⟩ = some (.int .u32 (Go.Proofs.YtpmlkofceidnjaaDoor.u32 s.f)) ∧ w'.cell? ⟨hb, 6, none⟩ = some (.int .u32 (Go.Proofs.YtpmlkofceidnjaaDoor.u32 s.g)) ∧ w'.cell? ⟨hb, 7, none⟩ = some (.int .u32 (Go.Proofs.YtpmlkofceidnjaaDoor.u32 s.h))) (go_keep) (fail)
              go_wp2_with fail
              have hr := HR.out
              subst hr
              go_ret
              refine ⟨wa.heap.size, rfl, ?_, ?_⟩
              · first | exact heap_alloc_new _ _ | (simp only [World.heap_drewN, World.heap_drew]; exact heap_alloc_new _ _)
              · first | exact below_drewN (HBa.out.alloc HBa.out.size _) _ | exact (below_drewN HBa.out _).alloc HBa.out.size _ | exact Below.drew (HBa.out.alloc HBa.out.size _)
end Go.Proofs.YtpmlkofceidnjaaDoor


namespace Go.Proofs.YtpmlkofceidnjaaDoor
open Go.RowKit

def strCells (s : St) (blk : List UInt8) (n : Nat) : List Value := (stRow s).toList ++ (blk.map bcell ++ [.int .i64 (n : Int)])
def strRow (s : St) (blk : List UInt8) (n : Nat) : Array Value := (strCells s blk n).toArray
/-- The state with which the next block is compressed. -/
def nextSt (s : St) (n : Nat) : St := if n < 64 then iv else s

/-- The stream in block p stands for the bytes m. -/
def IsStr (T : TypeId) (w : World) (p : Nat) (m : List UInt8) : Prop := ∃ s blk, blk.length = 64 ∧ w.heap[p]? = some (.cells (strRow s blk m.length) T (0, 0)) ∧
  blk.take (m.length % 64) = m.drop (64 * (m.length / 64)) ∧ nextSt s m.length = chain m (m.length / 64)
theorem IsStr.lt {T : TypeId} {w : World} {p : Nat} {m : List UInt8} (h : IsStr T w p m) : p < w.heap.size := by
  obtain ⟨s, blk, _, hg, _⟩ := h; exact (Array.getElem?_eq_some_iff.1 hg).1
/-! The blocks of a list, and of a longer one. -/
/-! The end of a stream's bytes, padded. -/
end Go.Proofs.YtpmlkofceidnjaaDoor

namespace Go.Proofs.YtpmlkofceidnjaaDoor
open Go.RowKit

theorem Holds.grown {w w' : World} {b p : Nat} {L : List (BitVec 32)} (h : Holds w b L) (hg : w.grownBy w' (some p)) (hb : b ≠ p) : Holds w' b L := fun i hi =>
  hg.cell (h i hi) (by simpa using hb)

end Go.Proofs.YtpmlkofceidnjaaDoor


namespace Go.Proofs.YtpmlkofceidnjaaDoor
open Go.RowKit

def cat_z (ss : List ByteArray) : List UInt8 := ss.flatMap fun s => s.data.toList
theorem cat_append_z (a b : List ByteArray) : cat_z (a ++ b) = cat_z a ++ cat_z b := by simp [cat_z]
theorem cat_take_succ_z (ss : List ByteArray) (k : Nat) (h : k < ss.length) : cat_z (ss.take (k + 1)) = cat_z (ss.take k) ++ (ss.getD k ByteArray.empty).data.toList := by
  rw [List.take_succ_eq_append_getElem h, cat_append_z]
  simp [cat_z, h]
theorem cat_take_le_z (ss : List ByteArray) (k : Nat) : (cat_z (ss.take k)).length ≤ (cat_z ss).length := by
  have : cat_z ss = cat_z (ss.take k) ++ cat_z (ss.drop k) := by rw [← cat_append_z, List.take_append_drop]
  rw [this, List.length_append]; omega

/-- The slice value v reads as the strings ss. -/
def Reads_z (w : World) (v : Value) (ss : List ByteArray) : Prop := ∃ a cap, v = .slice a ss.length cap ∧ (ss = [] ∨ ∃ b o, a = some ⟨b, o, none⟩ ∧ ∀ i, i < ss.length → w.cell? ⟨b, o + i, none⟩ = some (.string (ss.getD i ByteArray.empty)))
theorem Reads_z.old {w w' : World} {v : Value} {ss : List ByteArray} (h : Reads_z w v ss) (hb : Below w.heap.size w w') : Reads_z w' v ss := by
  obtain ⟨a, cap, rfl, h⟩ := h
  refine ⟨a, cap, rfl, ?_⟩
  rcases h with h | ⟨b, o, rfl, h⟩
  · exact Or.inl h
  · exact Or.inr ⟨b, o, rfl, fun i hi => (hb.cell (p := ⟨b, o + i, none⟩) (block_lt_of_cell (h i hi))).trans (h i hi)⟩

def shaStr (m : List UInt8) : ByteArray := ⟨(sha m).toArray⟩
theorem sha_length (m : List UInt8) : (sha m).length = 32 := by unfold sha; exact stBytes_length _
theorem shaStr_size (m : List UInt8) : (shaStr m).size = 32 := by
  show (sha m).toArray.size = 32
  rw [List.size_toArray, sha_length]
def shortStr (m : List UInt8) : ByteArray := ⟨((sha m).take 16).toArray⟩
end Go.Proofs.YtpmlkofceidnjaaDoor

namespace Go.Proofs.YtpmlkofceidnjaaDoor
open Go.RowKit

theorem _root_.Go.RowKit.Below.next {a w w' : World} (h : Below a.heap.size a w) (k : Below w.heap.size w w') : Below a.heap.size a w' := h.trans (k.mono h.size)

theorem reads_row (W : World) (ss : List ByteArray) (E : TypeId) : Reads_z (W.alloc (.cells (ss.map Value.string).toArray E)) (.slice (some ⟨W.heap.size, 0, none⟩) ss.length ss.length) ss :=
  ⟨_, _, rfl, Or.inr ⟨W.heap.size, 0, rfl, fun i hi => by
    rw [Nat.zero_add, cell_of_row _ _ _ _ _ _ (heap_alloc_new W _)]
    simp [hi]⟩⟩
end Go.Proofs.YtpmlkofceidnjaaDoor
