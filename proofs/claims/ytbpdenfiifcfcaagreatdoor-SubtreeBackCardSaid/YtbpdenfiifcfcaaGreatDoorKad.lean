/-
  The contracts of strings.IndexByte and of strings.ContainsRune at an ASCII character: the library's theorems, laid at the program's own numbers. Nothing is claimed of the program beyond its bodies.
  Plain laws of texts as sequences of characters: which texts consist of characters of a set, and which are well-formed without control characters. Nothing is claimed of the program here.
  The contracts of isPlain of the program, and of Among and plain of the reference: whether a byte is one that is not escaped.
  The contract of text.Escape: the escaped form of a string; nothing that was there before the call has changed.
  The contracts of escaped and text.Unescape of the program: the string whose escaped form is the given one, if there is one; nothing that was there before the call has changed.
  The contracts of isPrintable (with strings.ContainsRune at characters beyond ASCII) and of consists: whether each character of a text is in a set; nothing that was there before the call has changed.
-/
import Derived.Shelf.Strings.Runes
import Derived.Test.YtbpdenfiifcfcaaGreatDoorKac
import Derived.Lib.ValidLaws
import Derived.Deep.QuietTactic
import Derived.BigQuiet
import Derived.Laws.Runes
import Derived.Lib.OthersKept
import Derived.Deep.LoopGhost
import Derived.Deep.RegionWith
namespace Go.Proofs.YtbpdenfiifcfcaaGreatDoor
open Go.Shelf Go.RowKit

def lays137_ren : Go.Shelf.Ren := ⟨fun | 137 => 200 | 217 => 207 | 266 => 231 | n => n, fun | 3 => 3 | 5 => 5 | 9 => 9 | n => n, fun | n => n⟩
theorem lays137 : Go.Proofs.Lays.n137 Tryz.prog lays137_ren := {
  mixed := by kernel_rfl
  f137 := Tryz.func200.trans (congrArg some (by kernel_rfl))
  f217 := Tryz.func207.trans (congrArg some (by kernel_rfl))
  f266 := Tryz.func231.trans (congrArg some (by kernel_rfl))
  t3 := Tryz.underlying3
  a3 := Tryz.isAgg3
  z3 := Tryz.sizeOf3
  v3 := Tryz.zeroValue3
  t5 := Tryz.underlying5
  a5 := Tryz.isAgg5
  z5 := Tryz.sizeOf5
  v5 := Tryz.zeroValue5
  t9 := Tryz.underlying9
  a9 := Tryz.isAgg9
  z9 := Tryz.sizeOf9
  v9 := Tryz.zeroValue9 }
def lays151_ren : Go.Shelf.Ren := ⟨fun | 119 => 241 | 137 => 200 | 151 => 205 | 152 => 228 | 217 => 207 | 224 => 209 | 225 => 208 | 266 => 231 | n => n, fun | 0 => 0 | 3 => 3 | 4 => 4 | 5 => 5 | 9 => 9 | 21 => 21 | 46 => 127 | n => n, fun | n => n⟩
theorem lays151 : Go.Proofs.Lays.n151 Tryz.prog lays151_ren := {
  mixed := by kernel_rfl
  f119 := Tryz.func241.trans (congrArg some (by kernel_rfl))
  f137 := Tryz.func200.trans (congrArg some (by kernel_rfl))
  f151 := Tryz.func205.trans (congrArg some (by kernel_rfl))
  f152 := Tryz.func228.trans (congrArg some (by kernel_rfl))
  f217 := Tryz.func207.trans (congrArg some (by kernel_rfl))
  f224 := Tryz.func209.trans (congrArg some (by kernel_rfl))
  f225 := Tryz.func208.trans (congrArg some (by kernel_rfl))
  f266 := Tryz.func231.trans (congrArg some (by kernel_rfl))
  t0 := Tryz.underlying0
  a0 := Tryz.isAgg0
  z0 := Tryz.sizeOf0
  v0 := Tryz.zeroValue0
  t3 := Tryz.underlying3
  a3 := Tryz.isAgg3
  z3 := Tryz.sizeOf3
  v3 := Tryz.zeroValue3
  t4 := Tryz.underlying4
  a4 := Tryz.isAgg4
  z4 := Tryz.sizeOf4
  v4 := Tryz.zeroValue4
  t5 := Tryz.underlying5
  a5 := Tryz.isAgg5
  z5 := Tryz.sizeOf5
  v5 := Tryz.zeroValue5
  t9 := Tryz.underlying9
  a9 := Tryz.isAgg9
  z9 := Tryz.sizeOf9
  v9 := Tryz.zeroValue9
  t21 := Tryz.underlying21
  a21 := Tryz.isAgg21
  z21 := Tryz.sizeOf21
  v21 := Tryz.zeroValue21
  t46 := Tryz.underlying127
  a46 := Tryz.isAgg127
  z46 := Tryz.sizeOf127
  v46 := Tryz.zeroValue127 }

theorem idx_ge : ∀ (l : List UInt8) (b : UInt8), -1 ≤ Lib.indexByte l b
  | [], _ => by simp [Lib.indexByte]
  | c :: l, b => by
    have := idx_ge l b
    simp only [Lib.indexByte]
    split
    · omega
    · split <;> omega
theorem idx_has : ∀ (l : List UInt8) (b : UInt8), l.contains b = decide (0 ≤ Lib.indexByte l b)
  | [], _ => rfl
  | c :: l, b => by
    have ih := idx_has l b
    have hg := idx_ge l b
    rw [List.contains_cons, ih, Bool.eq_iff_iff]
    simp only [Lib.indexByte, Bool.or_eq_true, decide_eq_true_eq, beq_iff_eq]
    by_cases e : c = b
    · subst e; simp
    · rw [if_neg e]
      have e1 : ¬ b = c := fun h => e h.symm
      by_cases k : Lib.indexByte l b = -1
      · rw [if_pos k, k]; simp [e1]
      · rw [if_neg k]
        constructor
        · rintro (h | h)
          · exact absurd h e1
          · omega
        · intro h
          right; omega
theorem idx_any (s : ByteArray) (c : UInt8) (w : World) : Calls Tryz.prog 200 #[.string s, .int .u8 ((c.toNat : Nat) : Int)] w fun e w' => e = .returned (.int .i64 (Lib.indexByte s.data.toList c)) ∧ w' = w := by
  have h := Any.strings_IndexByte lays137 s ((c.toNat : Nat) : Int) w
  have e : ((c.toNat : Nat) : Int).toNat.toUInt8 = c := by simp
  rw [e] at h
  exact h
theorem crune_any (s : ByteArray) (n : Nat) (hn : n < 128) (w : World) : Calls Tryz.prog 205 #[.string s, .int .i32 ((n : Nat) : Int)] w fun e w' => e = .returned (.bool (s.data.toList.contains (UInt8.ofNat n))) ∧ w' = w := by
  have h := Any.strings_ContainsRune_ascii lays151 s ((n : Nat) : Int) w (by omega) (by omega)
  have e : ((n : Nat) : Int).toNat.toUInt8 = UInt8.ofNat n := rfl
  rw [e, ← idx_has] at h
  exact h
end Go.Proofs.YtbpdenfiifcfcaaGreatDoor
namespace Go.Proofs.YtbpdenfiifcfcaaGreatDoor
open Go.RowKit

/-- Whether each character of a text is in a set. -/
def allGo (p : Nat → Bool) : Nat → List UInt8 → Bool
  | 0, _ => true
  | n + 1, l => if l = [] then true else p (Lib.decodeL l).1 && allGo p n (l.drop (Lib.decodeL l).2)
def allD (p : Nat → Bool) (l : List UInt8) : Bool := allGo p l.length l
theorem allGo_nil (p : Nat → Bool) : ∀ n, allGo p n [] = true
  | 0 => rfl
  | _ + 1 => by simp [allGo]
theorem allGo_fuel (p : Nat → Bool) : ∀ (n m : Nat) (l : List UInt8), l.length ≤ n → l.length ≤ m → allGo p n l = allGo p m l
  | 0, m, l, hn, _ => by
    obtain rfl : l = [] := List.eq_nil_of_length_eq_zero (by omega)
    rw [allGo_nil, allGo_nil]
  | n + 1, 0, l, _, hm => by
    obtain rfl : l = [] := List.eq_nil_of_length_eq_zero (by omega)
    rw [allGo_nil, allGo_nil]
  | n + 1, m + 1, l, hn, hm => by
    unfold allGo
    by_cases hne : l = []
    · simp [hne]
    · have hw := Lib.decodeL_width l
      have hl : 0 < l.length := List.length_pos_iff.2 hne
      rw [if_neg hne, if_neg hne, allGo_fuel p n m (l.drop (Lib.decodeL l).2) (by rw [List.length_drop]; omega) (by rw [List.length_drop]; omega)]
theorem allD_step (p : Nat → Bool) (l : List UInt8) (hne : l ≠ []) : allD p l = (p (Lib.decodeL l).1 && allD p (l.drop (Lib.decodeL l).2)) := by
  have hl : 0 < l.length := List.length_pos_iff.2 hne
  have hw := Lib.decodeL_width l
  obtain ⟨n, hn⟩ : ∃ n, l.length = n + 1 := ⟨l.length - 1, by omega⟩
  unfold allD
  rw [hn]
  show (if l = [] then true else _) = _
  rw [if_neg hne, allGo_fuel p n (l.drop (Lib.decodeL l).2).length _ (by rw [List.length_drop]; omega) (Nat.le_refl _)]
theorem high_rune (b : UInt8) (t : List UInt8) (h : 128 ≤ b.toNat) : 128 ≤ (Lib.decodeL (b :: t)).1 :=
  (decode_high ⟨(b :: t).toArray⟩ 0 (by show 0 < (b :: t).length; simp) h).1
/-- A set of ASCII characters is asked byte by byte. -/
theorem allD_ascii (p : Nat → Bool) (hp : ∀ n, 128 ≤ n → p n = false) : ∀ (n : Nat) (l : List UInt8), l.length ≤ n → allD p l = l.all fun b => p b.toNat
  | _, [], _ => rfl
  | 0, b :: t, h => by simp at h
  | n + 1, b :: t, h => by
    rw [allD_step p _ (by simp), List.all_cons]
    by_cases hb : b.toNat < 128
    · rw [Lib.decodeL_ascii b t hb]
      show (p b.toNat && allD p t) = _
      rw [allD_ascii p hp n t (by simp at h; omega)]
    · rw [hp _ (high_rune b t (by omega)), hp b.toNat (by omega), Bool.false_and, Bool.false_and]

/-- The texts that may be contents of a string of TagUTF8. -/
def okU (l : List UInt8) : Bool := Lib.validD l && allD isU l
end Go.Proofs.YtbpdenfiifcfcaaGreatDoor
namespace Go.Proofs.YtbpdenfiifcfcaaGreatDoor
open Go.RowKit

theorem isal_is {n : Nat} {b : Bool} (h : alnum n = b) (w : World) : Calls Tryz.prog 204 #[.int .i32 (n : Int)] w fun e w' => e = .returned (.bool b) ∧ w' = w := by
  have := isal_any n w
  rwa [h] at this
theorem idx_is {s : ByteArray} {c : UInt8} {b : Int} (h : Lib.indexByte s.data.toList c = b) (w : World) : Calls Tryz.prog 200 #[.string s, .int .u8 ((c.toNat : Nat) : Int)] w fun e w' => e = .returned (.int .i64 b) ∧ w' = w := by
  have := idx_any s c w
  rwa [h] at this

end Go.Proofs.YtbpdenfiifcfcaaGreatDoor
namespace Go.Proofs.YtbpdenfiifcfcaaGreatDoor
open Go.RowKit

end Go.Proofs.YtbpdenfiifcfcaaGreatDoor
namespace Go.Proofs.YtbpdenfiifcfcaaGreatDoor
open Go.RowKit

theorem ext_list_x (r : ByteArray) (i j : Nat) : (r.extract i j).data.toList = (r.data.toList.drop i).take (j - i) := by
  rw [ByteArray.data_extract, Array.toList_extract, List.extract_eq_take_drop]
/-! ### One byte in digits -/
end Go.Proofs.YtbpdenfiifcfcaaGreatDoor
namespace Go.Proofs.YtbpdenfiifcfcaaGreatDoor
open Go.RowKit

def printL : List UInt8 := [32, 39, 40, 41, 43, 44, 45, 46, 47, 58, 61, 63]
def isP (n : Nat) : Bool := alnum n || (decide (n < 128) && printL.contains (UInt8.ofNat n))

set_option maxHeartbeats 1000000 in
theorem vrune_any (n : Nat) (h : n ≤ 1114111) (w : World) :
    Calls Tryz.prog 241 #[.int .i32 (n : Int)] w fun e w' => e = .returned (.bool (Utf8.valid (n : Int))) ∧ w' = w := by
  rcases (by omega : (n < 55296) ∨ (55296 ≤ n ∧ n ≤ 57343) ∨ (57344 ≤ n)) with h1 | h1 | h1
  · have d0 : decide ((0 : Int) ≤ (n : Int)) = true := by simp
    have d1 : decide ((n : Int) < 55296) = true := by simp; omega
    have HR := Lib.hid (show Utf8.valid (n : Int) = true by unfold Utf8.valid; simp; omega)
    clear h1
    go_enter Tryz.func241, Tryz.ntmps241
    go_wp2_with fail
    go_ret
    exact ⟨by rw [HR.out]; rfl, rfl⟩
  · have d0 : decide ((0 : Int) ≤ (n : Int)) = true := by simp
    have d1 : decide ((n : Int) < 55296) = false := by simp; omega
    have d2 : decide ((57343 : Int) < (n : Int)) = false := by simp; omega
    have HR := Lib.hid (show Utf8.valid (n : Int) = false by unfold Utf8.valid; simp; omega)
    clear h1
    go_enter Tryz.func241, Tryz.ntmps241
    go_wp2_with fail
    go_ret
    exact ⟨by rw [HR.out]; rfl, rfl⟩
  · have d0 : decide ((0 : Int) ≤ (n : Int)) = true := by simp
    have d1 : decide ((n : Int) < 55296) = false := by simp; omega
    have d2 : decide ((57343 : Int) < (n : Int)) = true := by simp; omega
    have d3 : decide ((n : Int) ≤ 1114111) = true := by simp; omega
    have HR := Lib.hid (show Utf8.valid (n : Int) = true by unfold Utf8.valid; simp; omega)
    clear h1
    go_enter Tryz.func241, Tryz.ntmps241
    go_wp2_with fail
    go_ret
    exact ⟨by rw [HR.out]; rfl, rfl⟩
theorem vrune_is {n : Nat} {b : Bool} (hb : Utf8.valid (n : Int) = b) (h : n ≤ 1114111) (w : World) :
    Calls Tryz.prog 241 #[.int .i32 (n : Int)] w fun e w' => e = .returned (.bool b) ∧ w' = w := by
  have := vrune_any n h w
  rwa [hb] at this
theorem idx_absent {l : List UInt8} {c : UInt8} (h : l.contains c = false) : Lib.indexByte l c = -1 := by
  have h1 := idx_has l c
  have h2 := idx_ge l c
  rw [h] at h1
  have := of_decide_eq_false h1.symm
  omega

/-! ### A character beyond ASCII in an ASCII text -/
set_option maxRecDepth 100000 in
set_option maxHeartbeats 4000000 in
theorem irune_big (s : ByteArray) (hs : 4 ≤ s.size ∧ s.size ≤ 1000) (hasc : ∀ j, j < s.size → u8at s j < 128) (n : Nat) (h128 : 128 ≤ n) (hmax : n ≤ 1114111) (w : World) :
    Calls Tryz.prog 228 #[.string s, .int .i32 (n : Int)] w fun e w' => e = .returned (.int .i64 (-1)) ∧ Below w.heap.size w w' := by
  have HAS := Lib.hid hasc
  have d0 : decide ((0 : Int) ≤ (n : Int)) = true := by simp
  have d1 : decide ((n : Int) < 128) = false := by simp; omega
  clear hasc
  by_cases he : n = 65533
  · have d2 : ((n : Int) == 65533) = true := by rw [he]; rfl
    clear he
    go_enter Tryz.func228, Tryz.ntmps228
    go_wp2_with fail
    go_loopg [] s.size (fun gf wx => ∃ pos : Nat, wx.heap[w.heap.size]? = some (.stringIter s pos) ∧ Below w.heap.size w wx ∧ s.size ≤ pos + gf)
    case atStart => exact ⟨0, World.iter_heap w s 0, (Below.refl _ w).alloc (Nat.le_refl _) _, by omega⟩
    case round =>
      obtain ⟨pos, hit, hbw, hfu⟩ := hrel
      by_cases hps : pos < s.size
      · obtain ⟨g', rfl⟩ : ∃ g', gk = g' + 1 := ⟨gk - 1, by omega⟩
        have hnx : ∀ ty, (Instr.next (.pointer (some ⟨w.heap.size, 0, none⟩)) true ty).run Tryz.prog wr = _ := fun ty => Lib.run_next_any_at wr w.heap.size s pos ty hit hps
        have ha := HAS.out pos hps
        rw [u8at_get s pos hps] at ha
        rw [decode_ascii s pos hps ha] at hnx
        have hit2 := Lib.iterAt_heap wr w.heap.size s pos (pos + 1) hit
        have hbw2 := Lib.below_iterAt hbw (k := w.heap.size) (Nat.le_refl _) s (pos + 1)
        obtain ⟨W, hWd⟩ : ∃ W, wr.iterAt w.heap.size s (pos + 1) = W := ⟨_, rfl⟩
        simp only [hWd] at hnx hit2 hbw2
        generalize (s[pos]'hps).toNat = R at hnx ha
        have d3 : ((R : Int) == 65533) = false := by simp; omega
        have HIT := Lib.hid hit2
        have HBW := Lib.hid hbw2
        clear hit hbw hit2 hbw2 hWd
        go_wp2_with fail
        go_roundg g'
        case measure => omega
        case rel => exact ⟨pos + 1, HIT.out, HBW.out, by omega⟩
      · have hnx : ∀ ty, (Instr.next (.pointer (some ⟨w.heap.size, 0, none⟩)) true ty).run Tryz.prog wr = _ := fun ty => Lib.run_next_end_at wr w.heap.size s pos ty hit hps
        have HBW := Lib.hid hbw
        clear hbw
        go_wp2_with fail
        go_ret
        exact ⟨rfl, HBW.out⟩
  · have d2 : ((n : Int) == 65533) = false := by simp; omega
    clear he
    cases hv : Utf8.valid (n : Int) with
    | false =>
      have HV := Lib.hid (fun w => vrune_is hv hmax w)
      clear hv
      go_enter Tryz.func228, Tryz.ntmps228
      go_wp2_with (go_at_call 241; (with_reducible refine (HV.out _).mono ?_); rintro e w3 ⟨rfl, rfl⟩)
      go_ret
      exact ⟨rfl, Below.refl _ _⟩
    | true =>
      have HV := Lib.hid (fun w => vrune_is hv hmax w)
      obtain ⟨he1, he2, he3⟩ := encode_facts (n : Int) hv (by omega)
      have hcv := fun w => run_convert_int_string (P := Tryz.prog) w 21 9 .i32 (n : Int) (by kernel_rfl) Tryz.underlying9
      generalize Utf8.encode (n : Int) = E at he1 he2 he3 hcv
      obtain ⟨m, hm⟩ : ∃ m, E.size = m + 1 := ⟨E.size - 1, by omega⟩
      have hmi : (E.size : Int) - 1 = (m : Int) := by omega
      have hm3 : m ≤ 3 := by omega
      have hmE : m < E.size := by omega
      have hms : m < s.size := by omega
      have hx0 : 128 ≤ u8at E m := by
        rw [u8at_get E m hmE]
        have := he3 (by omega)
        simpa only [show E.size - 1 = m by omega] using this
      obtain ⟨x, hx, hxn⟩ := u8at_list E m hmE
      have hiE := fun w => run_index_u8 (P := Tryz.prog) Tryz.underlying9 E m hmE (m : Int) rfl w
      have hiS := fun w => run_index_u8 (P := Tryz.prog) Tryz.underlying9 s m hms (m : Int) rfl w
      have hp := HAS.out m hms
      rw [hxn] at hiE hx0
      generalize u8at s m = p at hiS hp
      have hne : ((p : Int) != ((x.toNat : Nat) : Int)) = true := by simp; omega
      obtain ⟨k1, hk1⟩ : ∃ k1, k1 = m + 1 := ⟨_, rfl⟩
      have hk1i : (m : Int) + 1 = (k1 : Int) := by omega
      have hk1b : (k1 : Int) ≤ (s.size : Int) := by omega
      have hk1n : k1 ≤ s.size := by omega
      have hmEi : (m : Int) < (E.size : Int) := by omega
      have hwr : IntKind.i64.wrap (k1 : Int) = (k1 : Int) := by rw [wrap_i64]; omega
      have hlt : decide ((m : Int) < (s.size : Int)) = true := by simp; omega
      have HI := Lib.hid (show Lib.indexByte (s.extract k1 s.size).data.toList x = -1 by
        have hex : (s.extract k1 s.size).data.toList = s.data.toList.drop k1 := by
          rw [ext_list_x]
          exact List.take_of_length_le (by rw [List.length_drop]; exact Nat.le_refl _)
        rw [hex]
        refine idx_absent ?_
        rw [List.contains_eq_any_beq, List.any_eq_false]
        intro b hb hbe
        have hb2 := List.mem_of_mem_drop hb
        obtain ⟨j, hj, hjb⟩ := List.getElem_of_mem hb2
        have h1 := HAS.out j hj
        rw [u8at_get s j hj] at h1
        have e3 : (s[j]'hj).toNat = (s.data.toList[j]).toNat := rfl
        have e4 : x = b := by first | exact eq_of_beq hbe | exact (eq_of_beq hbe).symm
        rw [e3, hjb, ← e4] at h1
        omega)
      clear hv he1 he2 he3 hm hx hxn hx0 hp hk1
      go_enter Tryz.func228, Tryz.ntmps228
      go_wp2_with (go_at_call 241; (with_reducible refine (HV.out _).mono ?_); rintro e w3 ⟨rfl, rfl⟩)
      go_step3
      go_wp2_with fail
      go_loopw [9] (fun i wx => i = .int .i64 (m : Int) ∧ wx = w3) (fun _ _ => 0)
      case atStart => exact ⟨rfl, rfl⟩
      case round =>
        obtain ⟨rfl, rfl⟩ := hrel
        go_wp2_with fail
        go_step3
        go_wp2_with fail
        go_region
        go_wp2_with fail
        have HBQ := Lib.hid (Below.drew (Below.refl wr.heap.size wr))
        generalize wr.drew = wq at HBQ ⊢
        go_quiet (first | (go_at_call 200; with_reducible refine Calls.quiet_of_same (idx_is HI.out _)))
        go_wp2_with fail
        rw [Exit.noGoto_ret]
        simp only [Exit.inBlock]
        simp +zetaDelta only [Exit.inBlock, Exit.then, Exit.noGoto_ret]
        go_ret
        exact ⟨rfl, Below.drawn HBQ.out _⟩
end Go.Proofs.YtbpdenfiifcfcaaGreatDoor
