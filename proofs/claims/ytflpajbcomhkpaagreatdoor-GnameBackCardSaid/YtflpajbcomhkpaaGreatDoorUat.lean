/-
  The contract of the reference's Wrap: the same answer as that of tlv.Wrap.
  The contract of the reference's EncodeOID: the contents of the object identifier that the text is, if it is one.
  The contracts of slices.Clone, slices.Sort, strings.Join and strings.Compare at strings: the library's theorems, laid at the program's own numbers. Nothing is claimed of the program beyond its bodies.
-/
import Derived.Test.YtflpajbcomhkpaaGreatDoorUas
import Derived.Test.YtflpajbcomhkpaaGreatDoorUap
import Derived.Test.YtflpajbcomhkpaaGreatDoorUar
import Derived.Test.YtflpajbcomhkpaaGreatDoorUaa
import Derived.Shelf.Strings.Builder1
import Derived.Shelf.Strings.Builder2
import Derived.Shelf.Strings.OnBuilder
import Derived.Shelf.Small.Strs
import Derived.Shelf.Sort.Plain
import Derived.Ground.Names2Prog
import Derived.Shelf.Slices.Clone
import Derived.Shelf.Slices.In.SortNone
import Derived.Sort.OwnSorted
import Derived.Test.YtflpajbcomhkpaaGreatDoorChecked
namespace Go.Proofs.YtflpajbcomhkpaaGreatDoor
open Go.RowKit

set_option maxRecDepth 100000 in
set_option maxHeartbeats 1000000 in
theorem rwrap_out (T : Int) (v : Value) (w : World) (h : T < 0 ∨ 255 < T) :
    Calls Tryz.prog 79 #[.int .i64 T, v] w fun e w' => e = .returned (.tuple #[.string ⟨#[]⟩, .int .i64 5]) ∧ w' = w := by
  by_cases h0 : T < 0
  · have d0 : decide (T < 0) = true := by simpa using h0
    clear h h0
    go_enter Tryz.func79, Tryz.ntmps79
    go_wp2_with fail
    go_ret2
    exact ⟨rfl, rfl⟩
  · have h1 : 255 < T := by omega
    have d0 : decide (T < 0) = false := by simpa using h0
    have d1 : decide (255 < T) = true := by simpa using h1
    clear h h0 h1
    go_enter Tryz.func79, Tryz.ntmps79
    go_wp2_with fail
    go_ret2
    exact ⟨rfl, rfl⟩
set_option maxRecDepth 100000 in
set_option maxHeartbeats 1000000 in
theorem rwrap_tag (t : Nat) (v : Value) (w : World) (ht : t < 256) (h : t % 32 = 31) :
    Calls Tryz.prog 79 #[.int .i64 (t : Nat), v] w fun e w' => e = .returned (.tuple #[.string ⟨#[]⟩, .int .i64 5]) ∧ w' = w := by
  have d1 : decide (255 < (t : Int)) = false := by simp; omega
  have dt : ((t : Int) % 32 == 31) = true := beq_iff_eq.2 (by omega)
  clear h
  go_enter Tryz.func79, Tryz.ntmps79
  go_wp2_with fail
  go_ret2
  exact ⟨rfl, rfl⟩
theorem wrap_string (y : UInt8) (c : List UInt8) (S : ByteArray) (L : List UInt8) (hS : S.data.toList = c) (hL : L = y :: lenO c.length) : (⟨L.toArray⟩ : ByteArray) ++ S = ⟨(wrapL y.toNat c).toArray⟩ := by
  apply ByteArray.ext
  rw [ByteArray.data_append, ← Array.toList_inj]
  simp only [Array.toList_append, hS, hL]
  unfold wrapL
  rw [UInt8.ofNat_toNat]
  rfl
theorem lenO1 {x : UInt8} (h : x.toNat < 128) : lenO x.toNat = [x] := by unfold lenO; rw [if_pos (lsz1 h), UInt8.ofNat_toNat]
theorem lenO2 {x : UInt8} (h : 128 ≤ x.toNat) : lenO x.toNat = [129, x] := by
  have hz := lsz2 h x.toNat_lt
  unfold lenO
  rw [if_neg (by omega), hz]
  show [UInt8.ofNat 129, UInt8.ofNat (x.toNat / 256 ^ 0)] = _
  rw [Nat.pow_zero, Nat.div_one, UInt8.ofNat_toNat]
  rfl
theorem lenO3 {n : Nat} {x1 x0 : UInt8} (h : 256 ≤ n) (h' : n < 65536) (h1 : (n : Int) / 256 = ((x1.toNat : Nat) : Int)) (h0 : (n : Int) % 256 = ((x0.toNat : Nat) : Int)) : lenO n = [130, x1, x0] := by
  have hz := lsz3 h h'
  unfold lenO
  rw [if_neg (by omega), hz]
  show [UInt8.ofNat 130, UInt8.ofNat (n / 256 ^ 1), UInt8.ofNat (n / 256 ^ 0)] = _
  have q1 : UInt8.ofNat (n / 256 ^ 1) = x1 := by rw [← UInt8.toNat_inj]; simp; omega
  have q2 : UInt8.ofNat (n / 256 ^ 0) = x0 := by rw [← UInt8.toNat_inj]; simp; omega
  rw [q1, q2]
  rfl
theorem lenO4 {n : Nat} {x2 x1 x0 : UInt8} (h : 65536 ≤ n) (h2 : (n : Int) / 65536 = ((x2.toNat : Nat) : Int)) (h1 : (n : Int) / 256 % 256 = ((x1.toNat : Nat) : Int)) (h0 : (n : Int) % 256 = ((x0.toNat : Nat) : Int)) : lenO n = [131, x2, x1, x0] := by
  have hz := lsz4 h
  unfold lenO
  rw [if_neg (by omega), hz]
  show [UInt8.ofNat 131, UInt8.ofNat (n / 256 ^ 2), UInt8.ofNat (n / 256 ^ 1), UInt8.ofNat (n / 256 ^ 0)] = _
  have l2 := x2.toNat_lt
  have q1 : UInt8.ofNat (n / 256 ^ 2) = x2 := by rw [← UInt8.toNat_inj]; simp; omega
  have q2 : UInt8.ofNat (n / 256 ^ 1) = x1 := by rw [← UInt8.toNat_inj]; simp; omega
  have q3 : UInt8.ofNat (n / 256 ^ 0) = x0 := by rw [← UInt8.toNat_inj]; simp; omega
  rw [q1, q2, q3]
  rfl
theorem row_conv (W : World) (g k : Nat) (hg : g = W.heap.size) (L : List UInt8) (hk : k = L.length) (cs : Array Value) (hcs : cs = (L.map bcell).toArray) :
    (convert 55 9 (.slice (some ⟨g, 0, none⟩) k k)).run Tryz.prog (W.alloc (.cells cs 5)) = .ok (.string ⟨L.toArray⟩) (W.alloc (.cells cs 5)) := by
  subst hk
  exact run_convert_lies (P := Tryz.prog) Tryz.underlying55 Tryz.underlying5 Tryz.underlying9 (row_lies W g hg L cs hcs) (Below.refl _ _)

set_option maxRecDepth 100000 in
set_option maxHeartbeats 4000000 in
theorem rwrap_fits (y : UInt8) (a0 : Option Addr) (cap : Nat) (ss : List ByteArray) (w : World) (h : y.toNat % 32 ≠ 31) (hv : Lies w a0 ss) (hn : ss.length < 4611686018427387904) (hb : (cat_t ss).length ≤ 1099511627776) (R : Value)
    (hR : R = if 131072 < (cat_t ss).length then .tuple #[.string ⟨#[]⟩, .int .i64 6] else .tuple #[.string ⟨(wrapL y.toNat (cat_t ss)).toArray⟩, .int .i64 0]) :
    Calls Tryz.prog 79 #[.int .i64 ((y.toNat : Nat) : Int), .slice a0 ss.length cap] w fun e w' => e = .returned R ∧ Below w.heap.size w w' := by
  have hy := y.toNat_lt
  have d1 : decide (255 < ((y.toNat : Nat) : Int)) = false := by simp; omega
  have dt : (((y.toNat : Nat) : Int) % 32 == 31) = false := beq_eq_false_iff_ne.2 (by omega)
  obtain ⟨n, hln⟩ : ∃ n, n = ss.length := ⟨_, rfl⟩
  rw [← hln] at hn ⊢
  have HLN := Lib.hid hln
  have HV := Lib.hid hv
  have HB := Lib.hid hb
  have HR := Lib.hid hR
  have HY := Lib.hid hy
  clear hln hv hb hR h
  go_enter Tryz.func79, Tryz.ntmps79
  go_wp2_with fail
  clear d1 dt
  go_loopw [6, 24] (fun s i wr => ∃ (k : Nat) (S : ByteArray), k ≤ n ∧ i = .int .i64 k ∧ s = .string S ∧ S.data.toList = cat_t (ss.take k) ∧ wr = w) (fun _ i _ => n - (intOf i).toNat)
  case atStart => exact ⟨0, ⟨#[]⟩, Nat.zero_le _, rfl, rfl, rfl, rfl⟩
  case round =>
    obtain ⟨k, S, hk, rfl, rfl, hS, rfl⟩ := hrel
    have HS := Lib.hid hS
    clear hS
    by_cases hlt : k < n
    · have hd : decide ((k : Int) < (n : Int)) = true := by simp; omega
      obtain ⟨b, o, ha, hc⟩ := HV.out.at k (by rw [← HLN.out]; exact hlt)
      have hcs := cat_take_succ ss k (by rw [← HLN.out]; exact hlt)
      have hle := cat_take_le ss (k + 1)
      generalize ss.getD k ByteArray.empty = x at hc hcs
      subst ha
      have hsz : S.size + x.size ≤ 1099511627776 := by
        have h2 := HB.out
        rw [hcs, List.length_append, ← HS.out] at hle
        have h3 : x.data.toList.length = x.size := rfl
        have h4 : S.data.toList.length = S.size := rfl
        omega
      have HCS := Lib.hid hcs
      clear hcs hle
      go_wp2_with fail
      go_roundw
      case rel =>
        refine ⟨k + 1, S ++ x, by omega, by go_num, rfl, ?_, trivial⟩
        rw [HCS.out, ← HS.out]
        simp
      case measure => simp [intOf]; omega
    · have ek : k = n := by omega
      subst ek
      have hd : decide ((k : Int) < (k : Int)) = false := by simp
      have hS : S.data.toList = cat_t ss := by rw [HS.out, List.take_of_length_le (by rw [← HLN.out]; exact Nat.le_refl _)]
      have hsl : (cat_t ss).length = S.size := by rw [← hS]; rfl
      rw [hsl] at HR HB
      have HSS := Lib.hid hS
      have HSL := Lib.hid hsl
      have hsb : S.size ≤ 1099511627776 := HB.out
      have hymod : ((y.toNat : Nat) : Int) % 256 = ((y.toNat : Nat) : Int) := by have := HY.out; omega
      clear hS hsl
      by_cases c0 : 131072 < S.size
      · have e0 : decide (131072 < (S.size : Int)) = true := by simp; omega
        have HF := Lib.hid (HR.out.trans (if_pos c0))
        clear c0
        go_wp2_with fail
        go_ret2
        exact ⟨by rw [HF.out]; rfl, Below.refl _ _⟩
      · have e0 : decide (131072 < (S.size : Int)) = false := by simp; omega
        have HF := Lib.hid (HR.out.trans (if_neg c0))
        have hSm : S.size ≤ 131072 := by omega
        clear c0
        by_cases c1 : S.size < 128
        · have e65536 : decide (65536 ≤ (S.size : Int)) = false := by simp; omega
          have e256 : decide (256 ≤ (S.size : Int)) = false := by simp; omega
          have e128 : decide (128 ≤ (S.size : Int)) = false := by simp; omega
          obtain ⟨x0, hx0⟩ : ∃ x : UInt8, S.size = x.toNat := ⟨UInt8.ofNat S.size, by simp; omega⟩
          have HW := Lib.hid (wrap_string y (cat_t ss) S [y, x0] HSS.out (by rw [HSL.out, hx0, lenO1 (by omega)]))
          have cv := row_conv wr wr.heap.size 2 rfl [y, x0] rfl #[.int .u8 ((y.toNat : Nat) : Int), .int .u8 (S.size : Int)] (by simp [bcell, hx0])
          obtain ⟨B1, hB1⟩ : ∃ B1 : ByteArray, B1 = ⟨[y, x0].toArray⟩ := ⟨_, rfl⟩
          rw [← hB1] at cv HW
          have hb1 : B1.size ≤ 6 := by rw [hB1]; show 2 ≤ 6; omega
          clear hB1 hx0
          go_wp2_with fail
          go_ret2
          exact ⟨by rw [HF.out, ← HW.out]; rfl, belowNew _ _⟩
        · by_cases c2 : S.size < 256
          · have e65536 : decide (65536 ≤ (S.size : Int)) = false := by simp; omega
            have e256 : decide (256 ≤ (S.size : Int)) = false := by simp; omega
            have e128 : decide (128 ≤ (S.size : Int)) = true := by simp; omega
            obtain ⟨x0, hx0⟩ : ∃ x : UInt8, S.size = x.toNat := ⟨UInt8.ofNat S.size, by simp; omega⟩
            have HW := Lib.hid (wrap_string y (cat_t ss) S [y, 129, x0] HSS.out (by rw [HSL.out, hx0, lenO2 (by omega)]))
            have cv := row_conv (wr.alloc (.cells #[.int .u8 ((y.toNat : Nat) : Int), .int .u8 (S.size : Int)] 5)) (wr.heap.size + 1) 3 (by simp) [y, 129, x0] rfl #[.int .u8 ((y.toNat : Nat) : Int), .int .u8 129, .int .u8 (S.size : Int)] (by simp [bcell, hx0])
            obtain ⟨B1, hB1⟩ : ∃ B1 : ByteArray, B1 = ⟨[y, 129, x0].toArray⟩ := ⟨_, rfl⟩
            rw [← hB1] at cv HW
            have hb1 : B1.size ≤ 6 := by rw [hB1]; show 3 ≤ 6; omega
            clear hB1 hx0
            go_wp2_with fail
            go_ret2
            exact ⟨by rw [HF.out, ← HW.out]; rfl, belowNew2 _ _ _⟩
          · by_cases c3 : S.size < 65536
            · have e65536 : decide (65536 ≤ (S.size : Int)) = false := by simp; omega
              have e256 : decide (256 ≤ (S.size : Int)) = true := by simp; omega
              obtain ⟨x0, hx0⟩ : ∃ x : UInt8, (S.size : Int) % 256 = ((x.toNat : Nat) : Int) := ⟨UInt8.ofNat S.size, by simp⟩
              obtain ⟨x1, hx1⟩ : ∃ x : UInt8, (S.size : Int) / 256 = ((x.toNat : Nat) : Int) := ⟨UInt8.ofNat (S.size / 256), by simp; omega⟩
              have HW := Lib.hid (wrap_string y (cat_t ss) S [y, 130, x1, x0] HSS.out (by rw [HSL.out, lenO3 (by omega) (by omega) hx1 hx0]))
              have cv := row_conv (wr.alloc (.cells #[.int .u8 ((y.toNat : Nat) : Int), .int .u8 ((S.size : Int) % 256)] 5)) (wr.heap.size + 1) 4 (by simp) [y, 130, x1, x0] rfl #[.int .u8 ((y.toNat : Nat) : Int), .int .u8 130, .int .u8 ((S.size : Int) / 256), .int .u8 ((S.size : Int) % 256)] (by simp [bcell, hx0, hx1])
              obtain ⟨B1, hB1⟩ : ∃ B1 : ByteArray, B1 = ⟨[y, 130, x1, x0].toArray⟩ := ⟨_, rfl⟩
              rw [← hB1] at cv HW
              have hb1 : B1.size ≤ 6 := by rw [hB1]; show 4 ≤ 6; omega
              clear hB1 hx0 hx1
              go_wp2_with fail
              go_ret2
              exact ⟨by rw [HF.out, ← HW.out]; rfl, belowNew2 _ _ _⟩
            · have e65536 : decide (65536 ≤ (S.size : Int)) = true := by simp; omega
              obtain ⟨x0, hx0⟩ : ∃ x : UInt8, (S.size : Int) % 256 = ((x.toNat : Nat) : Int) := ⟨UInt8.ofNat S.size, by simp⟩
              obtain ⟨x1, hx1⟩ : ∃ x : UInt8, (S.size : Int) / 256 % 256 = ((x.toNat : Nat) : Int) := ⟨UInt8.ofNat (S.size / 256), by simp⟩
              obtain ⟨x2, hx2⟩ : ∃ x : UInt8, (S.size : Int) / 65536 = ((x.toNat : Nat) : Int) := ⟨UInt8.ofNat (S.size / 65536), by simp; omega⟩
              have HW := Lib.hid (wrap_string y (cat_t ss) S [y, 131, x2, x1, x0] HSS.out (by rw [HSL.out, lenO4 (by omega) hx2 hx1 hx0]))
              have cv := row_conv (wr.alloc (.cells #[.int .u8 ((y.toNat : Nat) : Int), .int .u8 ((S.size : Int) % 256)] 5)) (wr.heap.size + 1) 5 (by simp) [y, 131, x2, x1, x0] rfl #[.int .u8 ((y.toNat : Nat) : Int), .int .u8 131, .int .u8 ((S.size : Int) / 65536), .int .u8 ((S.size : Int) / 256 % 256), .int .u8 ((S.size : Int) % 256)] (by simp [bcell, hx0, hx1, hx2])
              obtain ⟨B1, hB1⟩ : ∃ B1 : ByteArray, B1 = ⟨[y, 131, x2, x1, x0].toArray⟩ := ⟨_, rfl⟩
              rw [← hB1] at cv HW
              have hb1 : B1.size ≤ 6 := by rw [hB1]; show 5 ≤ 6; omega
              clear hB1 hx0 hx1 hx2
              go_wp2_with fail
              go_ret2
              exact ⟨by rw [HF.out, ← HW.out]; rfl, belowNew2 _ _ _⟩

theorem rwrap_any (T : Int) (v : Value) (ss : List ByteArray) (w : World) (hv : Reads w v ss) (hn : ss.length < 4611686018427387904) (hb : (cat_t ss).length ≤ 1099511627776) :
    Calls Tryz.prog 79 #[.int .i64 T, v] w fun e w' => e = .returned (wrapVal T (cat_t ss)) ∧ Below w.heap.size w w' := by
  by_cases h0 : T < 0 ∨ 255 < T
  · have e : wrapErr T (cat_t ss).length = 5 := if_pos (by omega)
    unfold wrapVal wrapStr
    rw [e]
    exact (rwrap_out T v w h0).mono fun _ _ h => ⟨h.1, by rw [h.2]; exact Below.refl _ _⟩
  · obtain ⟨t, rfl⟩ := Int.eq_ofNat_of_zero_le (show 0 ≤ T by omega)
    have ht : t < 256 := by omega
    by_cases h1 : t % 32 = 31
    · have e : wrapErr (t : Int) (cat_t ss).length = 5 := if_pos (by omega)
      unfold wrapVal wrapStr
      rw [e]
      exact (rwrap_tag t v w ht h1).mono fun _ _ h => ⟨h.1, by rw [h.2]; exact Below.refl _ _⟩
    · obtain ⟨a, cap, rfl, hl⟩ := hv
      obtain ⟨y, rfl⟩ : ∃ y : UInt8, t = y.toNat := ⟨UInt8.ofNat t, by simp; omega⟩
      refine rwrap_fits y a cap ss w h1 hl hn hb _ ?_
      by_cases h2 : (cat_t ss).length ≤ 131072
      · have e : wrapErr ((y.toNat : Nat) : Int) (cat_t ss).length = 0 := by unfold wrapErr; rw [if_neg (by omega), if_neg (by omega)]
        unfold wrapVal wrapStr
        rw [e, if_neg (show ¬ 131072 < (cat_t ss).length by omega)]
        rfl
      · have e : wrapErr ((y.toNat : Nat) : Int) (cat_t ss).length = 6 := by unfold wrapErr; rw [if_neg (by omega), if_pos (by omega)]
        unfold wrapVal wrapStr
        rw [e, if_pos (show 131072 < (cat_t ss).length by omega)]
        rfl
end Go.Proofs.YtflpajbcomhkpaaGreatDoor
namespace Go.Proofs.YtflpajbcomhkpaaGreatDoor
open Go.RowKit

theorem OwnB.open {w : World} {B : Nat} {v : Value} {l : List UInt8} (h : OwnB 5 w B v l) (hl : l ≠ []) : ∃ g cap, v = .slice (some ⟨g, 0, none⟩) l.length cap ∧ B ≤ g ∧ g < w.heap.size ∧ l.length ≤ cap := by
  rcases h.2 with ⟨rfl, h0⟩ | ⟨g, cap, cur, rfl, hB, hg, hn, _, _, _⟩
  · exact absurd (List.eq_nil_of_length_eq_zero h0) hl
  · exact ⟨g, cap, rfl, hB, (Array.getElem?_eq_some_iff.1 hg).1, hn⟩
theorem OwnB.news {w w' : World} {B g n cap : Nat} {l : List UInt8} (h : OwnB 5 w B (.slice (some ⟨g, 0, none⟩) n cap) l) (hb : Below w.heap.size w w') : ∀ j u, (l.map bcell)[j]? = some u → w'.cell? ((⟨g, 0, none⟩ : Addr).add j) = some u := fun j u hu => by
  rw [← World.ownsRow.cells h rfl j u hu]
  exact hb.cell (p := (⟨g, 0, none⟩ : Addr).add j) (by
    have : ((⟨g, 0, none⟩ : Addr).add j).block = g := by unfold Addr.add; split <;> rfl
    rw [this]; exact (World.ownsRow.lt h g rfl).2)

end Go.Proofs.YtflpajbcomhkpaaGreatDoor
namespace Go.Proofs.YtflpajbcomhkpaaGreatDoor
open Go.Shelf Go.RowKit

def lays106_ren : Go.Shelf.Ren := ⟨fun | 106 => 170 | 213 => 205 | 265 => 247 | n => n, fun | 9 => 9 | 3 => 3 | n => n, fun | n => n⟩
theorem lays106 : Go.Proofs.Lays.n106 Tryz.prog lays106_ren := {
  mixed := by kernel_rfl
  f106 := Tryz.func170.trans (congrArg some (by kernel_rfl))
  f213 := Tryz.func205.trans (congrArg some (by kernel_rfl))
  f265 := Tryz.func247.trans (congrArg some (by kernel_rfl))
  t3 := Tryz.underlying3
  a3 := Tryz.isAgg3
  z3 := Tryz.sizeOf3
  v3 := Tryz.zeroValue3
  t9 := Tryz.underlying9
  a9 := Tryz.isAgg9
  z9 := Tryz.sizeOf9
  v9 := Tryz.zeroValue9 }
def lays190_ren : Go.Shelf.Ren := ⟨fun | 190 => 180 | 125 => 204 | 258 => 211 | 128 => 245 | 129 => 246 | 302 => 255 | 303 => 256 | 304 => 257 | 305 => 258 | 306 => 259 | 307 => 260 | 308 => 261 | 309 => 262 | 310 => 263 | 333 => 280 | 329 => 274 | 330 => 275 | 334 => 281 | 335 => 282 | 336 => 283 | 344 => 287 | n => n, fun | 31 => 51 | 9 => 9 | 3 => 3 | 46 => 135 | 0 => 0 | 51 => 226 | 53 => 228 | 4 => 4 | 183 => 220 | 182 => 219 | 131 => 126 | 5 => 5 | 218 => 250 | 222 => 254 | 228 => 260 | 229 => 261 | n => n, fun | n => n⟩
theorem lays190 : Go.Proofs.Lays.n190 Tryz.prog lays190_ren := {
  mixed := by kernel_rfl
  f125 := Tryz.func204.trans (congrArg some (by kernel_rfl))
  f128 := Tryz.func245.trans (congrArg some (by kernel_rfl))
  f129 := Tryz.func246.trans (congrArg some (by kernel_rfl))
  f190 := Tryz.func180.trans (congrArg some (by kernel_rfl))
  f258 := Tryz.func211.trans (congrArg some (by kernel_rfl))
  f302 := Tryz.func255.trans (congrArg some (by kernel_rfl))
  f303 := Tryz.func256.trans (congrArg some (by kernel_rfl))
  f304 := Tryz.func257.trans (congrArg some (by kernel_rfl))
  f305 := Tryz.func258.trans (congrArg some (by kernel_rfl))
  f306 := Tryz.func259.trans (congrArg some (by kernel_rfl))
  f307 := Tryz.func260.trans (congrArg some (by kernel_rfl))
  f308 := Tryz.func261.trans (congrArg some (by kernel_rfl))
  f309 := Tryz.func262.trans (congrArg some (by kernel_rfl))
  f310 := Tryz.func263.trans (congrArg some (by kernel_rfl))
  f329 := Tryz.func274.trans (congrArg some (by kernel_rfl))
  f330 := Tryz.func275.trans (congrArg some (by kernel_rfl))
  f333 := Tryz.func280.trans (congrArg some (by kernel_rfl))
  f334 := Tryz.func281.trans (congrArg some (by kernel_rfl))
  f335 := Tryz.func282.trans (congrArg some (by kernel_rfl))
  f336 := Tryz.func283.trans (congrArg some (by kernel_rfl))
  f344 := Tryz.func287.trans (congrArg some (by kernel_rfl))
  t0 := Tryz.underlying0
  a0 := Tryz.isAgg0
  z0 := Tryz.sizeOf0
  v0 := Tryz.zeroValue0
  t3 := Tryz.underlying3
  a3 := Tryz.isAgg3
  z3 := Tryz.sizeOf3
  v3 := Tryz.zeroValue3
  t4 := Tryz.underlying4
  a4 := Tryz.isAgg4
  z4 := Tryz.sizeOf4
  v4 := Tryz.zeroValue4
  t5 := Tryz.underlying5
  a5 := Tryz.isAgg5
  z5 := Tryz.sizeOf5
  v5 := Tryz.zeroValue5
  t9 := Tryz.underlying9
  a9 := Tryz.isAgg9
  z9 := Tryz.sizeOf9
  v9 := Tryz.zeroValue9
  t31 := Tryz.underlying51
  a31 := Tryz.isAgg51
  z31 := Tryz.sizeOf51
  v31 := Tryz.zeroValue51
  t46 := Tryz.underlying135
  a46 := Tryz.isAgg135
  z46 := Tryz.sizeOf135
  v46 := Tryz.zeroValue135
  t51 := Tryz.underlying226
  a51 := Tryz.isAgg226
  z51 := Tryz.sizeOf226
  v51 := Tryz.zeroValue226
  t53 := Tryz.underlying228
  a53 := Tryz.isAgg228
  z53 := Tryz.sizeOf228
  v53 := Tryz.zeroValue228
  t131 := Tryz.underlying126
  a131 := Tryz.isAgg126
  z131 := Tryz.sizeOf126
  v131 := Tryz.zeroValue126
  t182 := Tryz.underlying219
  a182 := Tryz.isAgg219
  z182 := Tryz.sizeOf219
  v182 := Tryz.zeroValue219
  t183 := Tryz.underlying220
  a183 := Tryz.isAgg220
  z183 := Tryz.sizeOf220
  v183 := Tryz.zeroValue220
  t218 := Tryz.underlying250
  a218 := Tryz.isAgg250
  z218 := Tryz.sizeOf250
  v218 := Tryz.zeroValue250
  t222 := Tryz.underlying254
  a222 := Tryz.isAgg254
  z222 := Tryz.sizeOf254
  v222 := Tryz.zeroValue254
  t228 := Tryz.underlying260
  a228 := Tryz.isAgg260
  z228 := Tryz.sizeOf260
  v228 := Tryz.zeroValue260
  t229 := Tryz.underlying261
  a229 := Tryz.isAgg261
  z229 := Tryz.sizeOf261
  v229 := Tryz.zeroValue261 }
def laysNm216_ren : Go.Shelf.Ren := ⟨fun | 16 => 179 | n => n, fun | 24 => 51 | 9 => 9 | 4 => 4 | n => n, fun | n => n⟩
theorem laysNm216 : Go.Proofs.Lays2.n16 Tryz.prog laysNm216_ren := {
  mixed := by kernel_rfl
  f16 := Tryz.func179.trans (congrArg some (by kernel_rfl))
  t4 := Tryz.underlying4
  a4 := Tryz.isAgg4
  z4 := Tryz.sizeOf4
  v4 := Tryz.zeroValue4
  t9 := Tryz.underlying9
  a9 := Tryz.isAgg9
  z9 := Tryz.sizeOf9
  v9 := Tryz.zeroValue9
  t24 := Tryz.underlying51
  a24 := Tryz.isAgg51
  z24 := Tryz.sizeOf51
  v24 := Tryz.zeroValue51
  i9 := by kernel_rfl }

theorem join_none (a : Option Addr) (c : Nat) (sep : ByteArray) (w : World) :
    Calls Tryz.prog 166 #[.slice a 0 c, .string sep] w fun e w' => e = .returned (.string ⟨#[]⟩) ∧ w' = w := Any.strings_Join_none lays156 Builder_Extra_156 a c sep w
theorem compare_any (a b : ByteArray) (w : World) :
    Calls Tryz.prog 170 #[.string a, .string b] w fun e w' => e = .returned (.int .i64 (Lib.compareBytes a.data.toList b.data.toList)) ∧ w' = w := Any.strings_Compare lays106 a b w
theorem clone_any (b off n c : Nat) (zs : List ByteArray) (w : World) (hz : n ≤ zs.length) (hbig : n * 16 ≤ 140737488355328) (hc : ∀ j, j < zs.length → w.cell? ⟨b, off + j, none⟩ = some (.string (zs.getD j ByteArray.empty))) :
    Calls Tryz.prog 179 #[.slice (some ⟨b, off, none⟩) n c] w fun e w' => ∃ v', e = .returned v' ∧ w'.ownsRow w.heap.size 9 1 v' n ((zs.take n).map (Value.string)) ∧ v' ≠ .slice none 0 0 ∧ Below w.heap.size w w' := Any.slices_Clone_string laysNm216 b off n c zs w hz hbig hc
theorem clone_nil (n c : Nat) (w : World) :
    Calls Tryz.prog 179 #[.slice none n c] w fun e w' => e = .returned (.slice none 0 0) ∧ w' = w := Any.slices_Clone_string_nil laysNm216 n c w
theorem clone_zero (a : Addr) (c : Nat) (w : World) :
    Calls Tryz.prog 179 #[.slice (some a) 0 c] w fun e w' => ∃ v', e = .returned v' ∧ w'.ownsRow w.heap.size 9 1 v' 0 [] ∧ v' ≠ .slice none 0 0 ∧ Below w.heap.size w w' := Any.slices_Clone_string_zero laysNm216 a c w
open Go.Sort in
theorem sort_any (blk off cap : Nat) (ss : List (List UInt8)) (w : World) (hH : Go.Sort.Holds encStr w blk off ss.toArray) (hblk : blk < w.heap.size) (hsz : ss.length < 4611686018427387904) :
    Calls Tryz.prog 180 #[.slice (some ⟨blk, off, none⟩) ss.length cap] w fun e w' =>
      e = .returned (.tuple #[]) ∧ ∃ n os, w' = grow (putRow encStr (Sort.ahead w n) blk off (ss.mergeSort fun x y => decide (x ≤ y)).toArray) os := Any.slices_Sort_string lays190 blk off cap ss w hH hblk hsz
theorem sort_none (p : Option Addr) (cap : Nat) (w : World) :
    Calls Tryz.prog 180 #[.slice p 0 cap] w fun e w' => e = .returned (.tuple #[]) ∧ w' = w := Any.slices_Sort_string_none lays190 p cap w
end Go.Proofs.YtflpajbcomhkpaaGreatDoor
