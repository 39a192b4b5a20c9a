/-
  The contract of the reference's Wrap: the same answer as that of tlv.Wrap.
  The contract of the reference's EncodeOID: the contents of the object identifier that the text is, if it is one.
-/
import Derived.Test.YtbpdenfiifcfcaaGreatDoorMaq
import Derived.Test.YtbpdenfiifcfcaaGreatDoorMap
namespace Go.Proofs.YtbpdenfiifcfcaaGreatDoor
open Go.RowKit

set_option maxRecDepth 100000 in
set_option maxHeartbeats 1000000 in
theorem rwrap_out (T : Int) (v : Value) (w : World) (h : T < 0 ∨ 255 < T) :
    Calls Tryz.prog 54 #[.int .i64 T, v] w fun e w' => e = .returned (.tuple #[.string ⟨#[]⟩, .int .i64 5]) ∧ w' = w := by
  by_cases h0 : T < 0
  · have d0 : decide (T < 0) = true := by simpa using h0
    clear h h0
    go_enter Tryz.func54, Tryz.ntmps54
    go_wp2_with fail
    go_ret2
    exact ⟨rfl, rfl⟩
  · have h1 : 255 < T := by omega
    have d0 : decide (T < 0) = false := by simpa using h0
    have d1 : decide (255 < T) = true := by simpa using h1
    clear h h0 h1
    go_enter Tryz.func54, Tryz.ntmps54
    go_wp2_with fail
    go_ret2
    exact ⟨rfl, rfl⟩
set_option maxRecDepth 100000 in
set_option maxHeartbeats 1000000 in
theorem rwrap_tag (t : Nat) (v : Value) (w : World) (ht : t < 256) (h : t % 32 = 31) :
    Calls Tryz.prog 54 #[.int .i64 (t : Nat), v] w fun e w' => e = .returned (.tuple #[.string ⟨#[]⟩, .int .i64 5]) ∧ w' = w := by
  have d1 : decide (255 < (t : Int)) = false := by simp; omega
  have dt : ((t : Int) % 32 == 31) = true := beq_iff_eq.2 (by omega)
  clear h
  go_enter Tryz.func54, Tryz.ntmps54
  go_wp2_with fail
  go_ret2
  exact ⟨rfl, rfl⟩
theorem wrap_string (y : UInt8) (c : List UInt8) (S : ByteArray) (L : List UInt8) (hS : S.data.toList = c) (hL : L = y :: lenO c.length) : (⟨L.toArray⟩ : ByteArray) ++ S = ⟨(wrapL y.toNat c).toArray⟩ := by
  apply ByteArray.ext
  rw [ByteArray.data_append, ← Array.toList_inj]
  simp only [Array.toList_append, hS, hL]
  unfold wrapL
  rw [UInt8.ofNat_toNat]
  rfl
theorem lenO1 {x : UInt8} (h : x.toNat < 128) : lenO x.toNat = [x] := by unfold lenO; rw [if_pos (lsz1 h), UInt8.ofNat_toNat]
theorem lenO2 {x : UInt8} (h : 128 ≤ x.toNat) : lenO x.toNat = [129, x] := by
  have hz := lsz2 h x.toNat_lt
  unfold lenO
  rw [if_neg (by omega), hz]
  show [UInt8.ofNat 129, UInt8.ofNat (x.toNat / 256 ^ 0)] = _
  rw [Nat.pow_zero, Nat.div_one, UInt8.ofNat_toNat]
  rfl
theorem lenO3 {n : Nat} {x1 x0 : UInt8} (h : 256 ≤ n) (h' : n < 65536) (h1 : (n : Int) / 256 = ((x1.toNat : Nat) : Int)) (h0 : (n : Int) % 256 = ((x0.toNat : Nat) : Int)) : lenO n = [130, x1, x0] := by
  have hz := lsz3 h h'
  unfold lenO
  rw [if_neg (by omega), hz]
  show [UInt8.ofNat 130, UInt8.ofNat (n / 256 ^ 1), UInt8.ofNat (n / 256 ^ 0)] = _
  have q1 : UInt8.ofNat (n / 256 ^ 1) = x1 := by rw [← UInt8.toNat_inj]; simp; omega
  have q2 : UInt8.ofNat (n / 256 ^ 0) = x0 := by rw [← UInt8.toNat_inj]; simp; omega
  rw [q1, q2]
  rfl
theorem lenO4 {n : Nat} {x2 x1 x0 : UInt8} (h : 65536 ≤ n) (h2 : (n : Int) / 65536 = ((x2.toNat : Nat) : Int)) (h1 : (n : Int) / 256 % 256 = ((x1.toNat : Nat) : Int)) (h0 : (n : Int) % 256 = ((x0.toNat : Nat) : Int)) : lenO n = [131, x2, x1, x0] := by
  have hz := lsz4 h
  unfold lenO
  rw [if_neg (by omega), hz]
  show [UInt8.ofNat 131, UInt8.ofNat (n / 256 ^ 2), UInt8.ofNat (n / 256 ^ 1), UInt8.ofNat (n / 256 ^ 0)] = _
  have l2 := x2.toNat_lt
  have q1 : UInt8.ofNat (n / 256 ^ 2) = x2 := by rw [← UInt8.toNat_inj]; simp; omega
  have q2 : UInt8.ofNat (n / 256 ^ 1) = x1 := by rw [← UInt8.toNat_inj]; simp; omega
  have q3 : UInt8.ofNat (n / 256 ^ 0) = x0 := by rw [← UInt8.toNat_inj]; simp; omega
  rw [q1, q2, q3]
  rfl
theorem row_conv (W : World) (g k : Nat) (hg : g = W.heap.size) (L : List UInt8) (hk : k = L.length) (cs : Array Value) (hcs : cs = (L.map bcell).toArray) :
    (convert 65 9 (.slice (some ⟨g, 0, none⟩) k k)).run Tryz.prog (W.alloc (.cells cs 5)) = .ok (.string ⟨L.toArray⟩) (W.alloc (.cells cs 5)) := by
  subst hk
  exact run_convert_lies (P := Tryz.prog) Tryz.underlying65 Tryz.underlying5 Tryz.underlying9 (row_lies W g hg L cs hcs) (Below.refl _ _)

set_option maxRecDepth 100000 in
set_option maxHeartbeats 4000000 in
theorem rwrap_fits (y : UInt8) (a0 : Option Addr) (cap : Nat) (ss : List ByteArray) (w : World) (h : y.toNat % 32 ≠ 31) (hv : Lies w a0 ss) (hn : ss.length < 4611686018427387904) (hb : (cat_t ss).length ≤ 1099511627776) (R : Value)
    (hR : R = if 131072 < (cat_t ss).length then .tuple #[.string ⟨#[]⟩, .int .i64 6] else .tuple #[.string ⟨(wrapL y.toNat (cat_t ss)).toArray⟩, .int .i64 0]) :
    Calls Tryz.prog 54 #[.int .i64 ((y.toNat : Nat) : Int), .slice a0 ss.length cap] w fun e w' => e = .returned R ∧ Below w.heap.size w w' := by
  have hy := y.toNat_lt
  have d1 : decide (255 < ((y.toNat : Nat) : Int)) = false := by simp; omega
  have dt : (((y.toNat : Nat) : Int) % 32 == 31) = false := beq_eq_false_iff_ne.2 (by omega)
  obtain ⟨n, hln⟩ : ∃ n, n = ss.length := ⟨_, rfl⟩
  rw [← hln] at hn ⊢
  have HLN := Lib.hid hln
  have HV := Lib.hid hv
  have HB := Lib.hid hb
  have HR := Lib.hid hR
  have HY := Lib.hid hy
  clear hln hv hb hR h
  go_enter Tryz.func54, Tryz.ntmps54
  go_wp2_with fail
  clear d1 dt
  go_loopw [6, 24] (fun s i wr => ∃ (k : Nat) (S : ByteArray), k ≤ n ∧ i = .int .i64 k ∧ s = .string S ∧ S.data.toList = cat_t (ss.take k) ∧ wr = w) (fun _ i _ => n - (intOf i).toNat)
  case atStart => exact ⟨0, ⟨#[]⟩, Nat.zero_le _, rfl, rfl, rfl, rfl⟩
  case round =>
    obtain ⟨k, S, hk, rfl, rfl, hS, rfl⟩ := hrel
    have HS := Lib.hid hS
    clear hS
    by_cases hlt : k < n
    · have hd : decide ((k : Int) < (n : Int)) = true := by simp; omega
      obtain ⟨b, o, ha, hc⟩ := HV.out.at k (by rw [← HLN.out]; exact hlt)
      have hcs := cat_take_succ ss k (by rw [← HLN.out]; exact hlt)
      have hle := cat_take_le ss (k + 1)
      generalize ss.getD k ByteArray.empty = x at hc hcs
      subst ha
      have hsz : S.size + x.size ≤ 1099511627776 := by
        have h2 := HB.out
        rw [hcs, List.length_append, ← HS.out] at hle
        have h3 : x.data.toList.length = x.size := rfl
        have h4 : S.data.toList.length = S.size := rfl
        omega
      have HCS := Lib.hid hcs
      clear hcs hle
      go_wp2_with fail
      go_roundw
      case rel =>
        refine ⟨k + 1, S ++ x, by omega, by go_num, rfl, ?_, trivial⟩
        rw [HCS.out, ← HS.out]
        simp
      case measure => simp [intOf]; omega
    · have ek : k = n := by omega
      subst ek
      have hd : decide ((k : Int) < (k : Int)) = false := by simp
      have hS : S.data.toList = cat_t ss := by rw [HS.out, List.take_of_length_le (by rw [← HLN.out]; exact Nat.le_refl _)]
      have hsl : (cat_t ss).length = S.size := by rw [← hS]; rfl
      rw [hsl] at HR HB
      have HSS := Lib.hid hS
      have HSL := Lib.hid hsl
      have hsb : S.size ≤ 1099511627776 := HB.out
      have hymod : ((y.toNat : Nat) : Int) % 256 = ((y.toNat : Nat) : Int) := by have := HY.out; omega
      clear hS hsl
      by_cases c0 : 131072 < S.size
      · have e0 : decide (131072 < (S.size : Int)) = true := by simp; omega
        have HF := Lib.hid (HR.out.trans (if_pos c0))
        clear c0
        go_wp2_with fail
        go_ret2
        exact ⟨by rw [HF.out]; rfl, Below.refl _ _⟩
      · have e0 : decide (131072 < (S.size : Int)) = false := by simp; omega
        have HF := Lib.hid (HR.out.trans (if_neg c0))
        have hSm : S.size ≤ 131072 := by omega
        clear c0
        by_cases c1 : S.size < 128
        · have e65536 : decide (65536 ≤ (S.size : Int)) = false := by simp; omega
          have e256 : decide (256 ≤ (S.size : Int)) = false := by simp; omega
          have e128 : decide (128 ≤ (S.size : Int)) = false := by simp; omega
          obtain ⟨x0, hx0⟩ : ∃ x : UInt8, S.size = x.toNat := ⟨UInt8.ofNat S.size, by simp; omega⟩
          have HW := Lib.hid (wrap_string y (cat_t ss) S [y, x0] HSS.out (by rw [HSL.out, hx0, lenO1 (by omega)]))
          have cv := row_conv wr wr.heap.size 2 rfl [y, x0] rfl #[.int .u8 ((y.toNat : Nat) : Int), .int .u8 (S.size : Int)] (by simp [bcell, hx0])
          obtain ⟨B1, hB1⟩ : ∃ B1 : ByteArray, B1 = ⟨[y, x0].toArray⟩ := ⟨_, rfl⟩
          rw [← hB1] at cv HW
          have hb1 : B1.size ≤ 6 := by rw [hB1]; show 2 ≤ 6; omega
          clear hB1 hx0
          go_wp2_with fail
          go_ret2
          exact ⟨by rw [HF.out, ← HW.out]; rfl, belowNew _ _⟩
        · by_cases c2 : S.size < 256
          · have e65536 : decide (65536 ≤ (S.size : Int)) = false := by simp; omega
            have e256 : decide (256 ≤ (S.size : Int)) = false := by simp; omega
            have e128 : decide (128 ≤ (S.size : Int)) = true := by simp; omega
            obtain ⟨x0, hx0⟩ : ∃ x : UInt8, S.size = x.toNat := ⟨UInt8.ofNat S.size, by simp; omega⟩
            have HW := Lib.hid (wrap_string y (cat_t ss) S [y, 129, x0] HSS.out (by rw [HSL.out, hx0, lenO2 (by omega)]))
            have cv := row_conv (wr.alloc (.cells #[.int .u8 ((y.toNat : Nat) : Int), .int .u8 (S.size : Int)] 5)) (wr.heap.size + 1) 3 (by simp) [y, 129, x0] rfl #[.int .u8 ((y.toNat : Nat) : Int), .int .u8 129, .int .u8 (S.size : Int)] (by simp [bcell, hx0])
            obtain ⟨B1, hB1⟩ : ∃ B1 : ByteArray, B1 = ⟨[y, 129, x0].toArray⟩ := ⟨_, rfl⟩
            rw [← hB1] at cv HW
            have hb1 : B1.size ≤ 6 := by rw [hB1]; show 3 ≤ 6; omega
            clear hB1 hx0
            go_wp2_with fail
            go_ret2
            exact ⟨by rw [HF.out, ← HW.out]; rfl, belowNew2 _ _ _⟩
          · by_cases c3 : S.size < 65536
            · have e65536 : decide (65536 ≤ (S.size : Int)) = false := by simp; omega
              have e256 : decide (256 ≤ (S.size : Int)) = true := by simp; omega
              obtain ⟨x0, hx0⟩ : ∃ x : UInt8, (S.size : Int) % 256 = ((x.toNat : Nat) : Int) := ⟨UInt8.ofNat S.size, by simp⟩
              obtain ⟨x1, hx1⟩ : ∃ x : UInt8, (S.size : Int) / 256 = ((x.toNat : Nat) : Int) := ⟨UInt8.ofNat (S.size / 256), by simp; omega⟩
              have HW := Lib.hid (wrap_string y (cat_t ss) S [y, 130, x1, x0] HSS.out (by rw [HSL.out, lenO3 (by omega) (by omega) hx1 hx0]))
              have cv := row_conv (wr.alloc (.cells #[.int .u8 ((y.toNat : Nat) : Int), .int .u8 ((S.size : Int) % 256)] 5)) (wr.heap.size + 1) 4 (by simp) [y, 130, x1, x0] rfl #[.int .u8 ((y.toNat : Nat) : Int), .int .u8 130, .int .u8 ((S.size : Int) / 256), .int .u8 ((S.size : Int) % 256)] (by simp [bcell, hx0, hx1])
              obtain ⟨B1, hB1⟩ : ∃ B1 : ByteArray, B1 = ⟨[y, 130, x1, x0].toArray⟩ := ⟨_, rfl⟩
              rw [← hB1] at cv HW
              have hb1 : B1.size ≤ 6 := by rw [hB1]; show 4 ≤ 6; omega
              clear hB1 hx0 hx1
              go_wp2_with fail
              go_ret2
              exact ⟨by rw [HF.out, ← HW.out]; rfl, belowNew2 _ _ _⟩
            · have e65536 : decide (65536 ≤ (S.size : Int)) = true := by simp; omega
              obtain ⟨x0, hx0⟩ : ∃ x : UInt8, (S.size : Int) % 256 = ((x.toNat : Nat) : Int) := ⟨UInt8.ofNat S.size, by simp⟩
              obtain ⟨x1, hx1⟩ : ∃ x : UInt8, (S.size : Int) / 256 % 256 = ((x.toNat : Nat) : Int) := ⟨UInt8.ofNat (S.size / 256), by simp⟩
              obtain ⟨x2, hx2⟩ : ∃ x : UInt8, (S.size : Int) / 65536 = ((x.toNat : Nat) : Int) := ⟨UInt8.ofNat (S.size / 65536), by simp; omega⟩
              have HW := Lib.hid (wrap_string y (cat_t ss) S [y, 131, x2, x1, x0] HSS.out (by rw [HSL.out, lenO4 (by omega) hx2 hx1 hx0]))
              have cv := row_conv (wr.alloc (.cells #[.int .u8 ((y.toNat : Nat) : Int), .int .u8 ((S.size : Int) % 256)] 5)) (wr.heap.size + 1) 5 (by simp) [y, 131, x2, x1, x0] rfl #[.int .u8 ((y.toNat : Nat) : Int), .int .u8 131, .int .u8 ((S.size : Int) / 65536), .int .u8 ((S.size : Int) / 256 % 256), .int .u8 ((S.size : Int) % 256)] (by simp [bcell, hx0, hx1, hx2])
              obtain ⟨B1, hB1⟩ : ∃ B1 : ByteArray, B1 = ⟨[y, 131, x2, x1, x0].toArray⟩ := ⟨_, rfl⟩
              rw [← hB1] at cv HW
              have hb1 : B1.size ≤ 6 := by rw [hB1]; show 5 ≤ 6; omega
              clear hB1 hx0 hx1 hx2
              go_wp2_with fail
              go_ret2
              exact ⟨by rw [HF.out, ← HW.out]; rfl, belowNew2 _ _ _⟩

theorem rwrap_any (T : Int) (v : Value) (ss : List ByteArray) (w : World) (hv : Reads w v ss) (hn : ss.length < 4611686018427387904) (hb : (cat_t ss).length ≤ 1099511627776) :
    Calls Tryz.prog 54 #[.int .i64 T, v] w fun e w' => e = .returned (wrapVal T (cat_t ss)) ∧ Below w.heap.size w w' := by
  by_cases h0 : T < 0 ∨ 255 < T
  · have e : wrapErr T (cat_t ss).length = 5 := if_pos (by omega)
    unfold wrapVal wrapStr
    rw [e]
    exact (rwrap_out T v w h0).mono fun _ _ h => ⟨h.1, by rw [h.2]; exact Below.refl _ _⟩
  · obtain ⟨t, rfl⟩ := Int.eq_ofNat_of_zero_le (show 0 ≤ T by omega)
    have ht : t < 256 := by omega
    by_cases h1 : t % 32 = 31
    · have e : wrapErr (t : Int) (cat_t ss).length = 5 := if_pos (by omega)
      unfold wrapVal wrapStr
      rw [e]
      exact (rwrap_tag t v w ht h1).mono fun _ _ h => ⟨h.1, by rw [h.2]; exact Below.refl _ _⟩
    · obtain ⟨a, cap, rfl, hl⟩ := hv
      obtain ⟨y, rfl⟩ : ∃ y : UInt8, t = y.toNat := ⟨UInt8.ofNat t, by simp; omega⟩
      refine rwrap_fits y a cap ss w h1 hl hn hb _ ?_
      by_cases h2 : (cat_t ss).length ≤ 131072
      · have e : wrapErr ((y.toNat : Nat) : Int) (cat_t ss).length = 0 := by unfold wrapErr; rw [if_neg (by omega), if_neg (by omega)]
        unfold wrapVal wrapStr
        rw [e, if_neg (show ¬ 131072 < (cat_t ss).length by omega)]
        rfl
      · have e : wrapErr ((y.toNat : Nat) : Int) (cat_t ss).length = 6 := by unfold wrapErr; rw [if_neg (by omega), if_pos (by omega)]
        unfold wrapVal wrapStr
        rw [e, if_pos (show 131072 < (cat_t ss).length by omega)]
        rfl
end Go.Proofs.YtbpdenfiifcfcaaGreatDoor
namespace Go.Proofs.YtbpdenfiifcfcaaGreatDoor
open Go.RowKit

set_option maxRecDepth 100000 in
set_option maxHeartbeats 1000000 in
theorem renc_no {s : ByteArray} (h : ∀ a, ¬ Oid s.data.toList a) (w : World) (hs : s.size ≤ 1099511627) :
    Calls Tryz.prog 149 #[.string s] w fun e w' => e = .returned noVal ∧ Below w.heap.size w w' := by
  have HH := Lib.hid h
  clear h
  go_enter Tryz.func149, Tryz.ntmps149
  go_wp2_with (go_at_call 134; (with_reducible refine (rarcs_no HH.out _ hs).mono ?_); rintro e w1 ⟨rfl, hb1⟩; have HB1 := Lib.hid hb1; clear hb1)
  go_ret2
  exact ⟨rfl, HB1.out⟩

theorem int_new (w : World) (m : Nat) : (w.alloc (.cells #[.int .i64 (m : Int)] 3)).ownsRow w.heap.size 3 1 (.slice (some ⟨w.heap.size, 0, none⟩) 1 1) 1 [icell m] :=
  ⟨rfl, .inr ⟨w.heap.size, 1, _, rfl, Nat.le_refl _, heap_alloc_new w _, Nat.le_refl _, by decide, rfl, rfl⟩⟩
theorem news_tail {w w' : World} {g x y : Nat} {r : List Nat} (h : ILie w g (x :: y :: r)) (hb : Below w.heap.size w w') (o : Nat) (ho : r.length ≠ 0 → o = 2) :
    ∀ j u, (r.map icell)[j]? = some u → w'.cell? ((⟨g, o, none⟩ : Addr).add j) = some u := fun j u hu => by
  have hj : j < r.length := by
    have := (List.getElem?_eq_some_iff.1 hu).1
    simpa using this
  have hadd : (⟨g, o, none⟩ : Addr).add j = ⟨g, o + j, none⟩ := by unfold Addr.add; split <;> simp_all
  have e := h.tail j hj
  rw [hadd, ho (by omega), ← hu, List.getElem?_map, hb.cell (p := ⟨g, 2 + j, none⟩) h.1, e, List.getD_eq_getElem?_getD, List.getElem?_eq_getElem hj]
  rfl
theorem nums_row {w1 w2 : World} {v2 : Value} {m : Nat} {r : List Nat} {n : Nat} (hn : n = r.length + 1) (h : w2.ownsRow w1.heap.size 3 1 v2 n ([icell m] ++ r.map icell)) : OwnI w2 w1.heap.size v2 (m :: r) := by
  subst hn
  unfold OwnI
  rw [List.length_cons, List.map_cons]; exact h

/-- 128 added to all digits but the last one. -/
def mark : List UInt8 → List UInt8
  | [] => []
  | [x] => [x]
  | x :: y :: r => UInt8.ofNat (128 + x.toNat) :: mark (y :: r)
def marked (E : List UInt8) (i : Nat) : List UInt8 := (E.take i).map (fun x => UInt8.ofNat (128 + x.toNat)) ++ E.drop i
theorem marked_zero (E : List UInt8) : marked E 0 = E := by simp [marked]
theorem marked_len (E : List UInt8) (i : Nat) : (marked E i).length = E.length := by simp [marked]; omega
theorem marked_get (E : List UInt8) (i : Nat) (h : i < E.length) : (marked E i).getD i 0 = E.getD i 0 := by
  unfold marked
  rw [List.getD_eq_getElem?_getD, List.getElem?_append_right (by simp; omega)]
  simp [Nat.min_eq_left (Nat.le_of_lt h)]
theorem marked_set (E : List UInt8) (i : Nat) (h : i < E.length) (y : UInt8) (hy : y = UInt8.ofNat (128 + (E.getD i 0).toNat)) : (marked E i).set i y = marked E (i + 1) := by
  unfold marked
  have e1 : E.drop i = E.getD i 0 :: E.drop (i + 1) := by
    rw [List.drop_eq_getElem_cons h, List.getD_eq_getElem?_getD, List.getElem?_eq_getElem h]; rfl
  have e2 : E.take (i + 1) = E.take i ++ [E.getD i 0] := by
    rw [List.take_add_one, List.getElem?_eq_getElem h, List.getD_eq_getElem?_getD, List.getElem?_eq_getElem h]; rfl
  rw [e1, e2, List.set_append_right _ _ (by simp; omega)]
  simp [Nat.min_eq_left (Nat.le_of_lt h), hy]
theorem mark_len : ∀ E : List UInt8, (mark E).length = E.length
  | [] => rfl
  | [x] => rfl
  | x :: y :: r => by rw [mark, List.length_cons, mark_len (y :: r)]; rfl
theorem mark_marked : ∀ E : List UInt8, E ≠ [] → mark E = marked E (E.length - 1)
  | [], h => absurd rfl h
  | [x], _ => rfl
  | x :: y :: r, _ => by
    rw [mark, mark_marked (y :: r) (by simp)]
    simp [marked]
theorem mark_cons (x : UInt8) (E : List UInt8) (h : E ≠ []) : mark (x :: E) = UInt8.ofNat (128 + x.toNat) :: mark E := by
  cases E with
  | nil => exact absurd rfl h
  | cons y r => rfl
theorem byte_new (w : World) (y : UInt8) : OwnB 5 (w.alloc (.cells #[.int .u8 ((y.toNat : Nat) : Int)] 5)) w.heap.size (.slice (some ⟨w.heap.size, 0, none⟩) 1 1) [y] :=
  ⟨rfl, .inr ⟨w.heap.size, 1, _, rfl, Nat.le_refl _, heap_alloc_new w _, Nat.le_refl _, by decide, rfl, rfl⟩⟩
theorem OwnB.open {w : World} {B : Nat} {v : Value} {l : List UInt8} (h : OwnB 5 w B v l) (hl : l ≠ []) : ∃ g cap, v = .slice (some ⟨g, 0, none⟩) l.length cap ∧ B ≤ g ∧ g < w.heap.size ∧ l.length ≤ cap := by
  rcases h.2 with ⟨rfl, h0⟩ | ⟨g, cap, cur, rfl, hB, hg, hn, _, _, _⟩
  · exact absurd (List.eq_nil_of_length_eq_zero h0) hl
  · exact ⟨g, cap, rfl, hB, (Array.getElem?_eq_some_iff.1 hg).1, hn⟩
theorem OwnB.news {w w' : World} {B g n cap : Nat} {l : List UInt8} (h : OwnB 5 w B (.slice (some ⟨g, 0, none⟩) n cap) l) (hb : Below w.heap.size w w') : ∀ j u, (l.map bcell)[j]? = some u → w'.cell? ((⟨g, 0, none⟩ : Addr).add j) = some u := fun j u hu => by
  rw [← World.ownsRow.cells h rfl j u hu]
  exact hb.cell (p := (⟨g, 0, none⟩ : Addr).add j) (by
    have : ((⟨g, 0, none⟩ : Addr).add j).block = g := by unfold Addr.add; split <;> rfl
    rw [this]; exact (World.ownsRow.lt h g rfl).2)

set_option maxRecDepth 100000 in
set_option maxHeartbeats 2000000 in
theorem renc_yes {s : ByteArray} {a : List Nat} (h : Oid s.data.toList a) (w : World) (hs : s.size ≤ 1099511627) :
    Calls Tryz.prog 149 #[.string s] w fun e w' => e = .returned (encVal a) ∧ Below w.heap.size w w' := by
  obtain ⟨i0, hi, hz0, hz1, hz2⟩ := info_parts intInfo
  have HH := Lib.hid h
  have hg := h.1
  obtain ⟨x, y, r, rfl⟩ : ∃ x y r, a = x :: y :: r := by
    match a, hg.1 with
    | x :: y :: r, _ => exact ⟨x, y, r, rfl⟩
  have hx : x ≤ 2 := by simpa using hg.2.2.2.1
  have hy : y ≤ 2147483647 := hg.2.2.1 y (by simp)
  have HR := Lib.hid (fun v (hv : v ∈ r) => hg.2.2.1 v (by simp [hv]))
  have hrl : r.length ≤ 10 := by have := hg.2.1; simp at this; omega
  obtain ⟨m, hm⟩ : ∃ m, m = 40 * x + y := ⟨_, rfl⟩
  have hwr : IntKind.i64.wrap (40 * (x : Int) + (y : Int)) = (m : Int) := by rw [wrap_i64]; omega
  have hwr2 : IntKind.i64.wrap (40 * (x : Int)) = 40 * (x : Int) := by rw [wrap_i64]; omega
  have hmb : m < 34359738368 := by omega
  have HM := Lib.hid hm
  have HNN := Lib.hid (show ∀ v ∈ m :: r, v < 34359738368 from fun v hv => by
      rcases List.mem_cons.1 hv with rfl | hv
      · exact hmb
      · exact Nat.lt_of_le_of_lt (HR.out v hv) (by decide))
  have hNl : (m :: r).length ≤ 11 := by simp; omega
  have hNe : m :: r ≠ [] := by simp
  have HEN := Lib.hid (show enc (x :: y :: r) = cat e128 (m :: r) by rw [HM.out]; rfl)
  obtain ⟨N, hN⟩ : ∃ N, N = m :: r := ⟨_, rfl⟩
  rw [← hN] at HNN hNl hNe HEN
  have HNE := Lib.hid hNe
  have HN0 := Lib.hid hN
  clear h hg hm hN hNe
  go_enter Tryz.func149, Tryz.ntmps149
  go_upto_region 4 with (go_at_call 134; (with_reducible refine (rarcs_yes HH.out _ hs).mono ?_); rintro e w1 ⟨⟨g, cap, rfl, hl, hg, hcp⟩, hb1⟩; have HB1 := Lib.hid hb1; have HL1 := Lib.hid hl; have hc0 := hl.cell 0 (by simp); have hc1 := hl.cell 1 (by simp); clear hb1 hl hg)
  simp only [List.length_cons] at hcp
  simp only [List.getD_cons_zero, List.getD_cons_succ] at hc0 hc1
  by_cases hr0 : r.length = 0
  all_goals by_cases hc2 : cap = 2
  all_goals first
  | (exfalso; omega)
  | (obtain rfl := List.eq_nil_of_length_eq_zero hr0
     have HO2 := Lib.hid (show OwnI _ w1.heap.size _ N by rw [HN0.out]; exact nums_row (w1 := w1) (m := m) (r := []) rfl ((int_new w1 m).drew))
     have HB2 := Lib.hid ((belowNew w1 (.cells #[.int .i64 (m : Int)] 3)).drew)
     try subst hc2
     simp only [List.length_nil, Nat.zero_add, Nat.reduceAdd] at hcp ⊢
     go_region
     generalize Value.slice (some ⟨w1.heap.size, 0, none⟩) 1 1 = v2 at HO2 ⊢
     generalize (w1.alloc (Obj.cells #[Value.int IntKind.i64 (m : Int)] 3)).drew = w2 at HO2 HB2 ⊢)
  | (have hc3 : ¬ (2 = cap) := by omega
     have p0 : 0 < (r.length : Int) + 1 + 1 := by omega
     have p1 : 1 < (r.length : Int) + 1 + 1 := by omega
     have p2 : 2 ≤ (r.length : Int) + 1 + 1 := by omega
     have p3 : (r.length : Int) + 1 + 1 ≤ (cap : Int) := by omega
     go_region_law (refine step_append_own rfl (.tmp 26) (.tmp 28) 30 rfl w1.heap.size 3 i0 (.int .i64 0) 8 Tryz.underlying30 hi hz0 hz1 hz2 rfl _ 1 [icell m] (by simp [Act.eval]) ((int_new w1 m).drew) ⟨g, 2, none⟩ r.length (cap - 2) (r.map icell) (by simp [Act.eval]) (by simp) (news_tail HL1.out ((belowNew w1 _).drew) 2 (fun _ => rfl)) (icells_one r) (by unfold maxLen; omega) (by omega) (by simp) ?_; intro v2 w2 ho2 hg2 _; have HO2 := Lib.hid (show OwnI w2 w1.heap.size v2 N by rw [HN0.out]; exact nums_row (by omega) ho2); have HB2 := Lib.hid (((belowNew w1 (.cells #[.int .i64 (m : Int)] 3)).drew).grown hg2 (by simp) (fun k e => by cases e; exact Nat.le_refl _)); clear ho2 hg2))
  all_goals
    clear hwr hwr2 hc0 hc1
    obtain ⟨q, c2, rfl, hq, hli, hcq⟩ := HO2.out.open HNE.out
    have HLI := Lib.hid hli
    clear hq hli hcq
    obtain ⟨ib, hib, hbz0, hbz1, hbz2⟩ := info_parts byteInfo
    go_wp2_with fail
    go_loopw [6, 32] (fun u i wr => ∃ (k : Nat) (D : List UInt8), k ≤ N.length ∧ i = .int .i64 (k : Int) ∧ D = cat e128 (N.take k) ∧ OwnB 5 wr w2.heap.size u D ∧ Below w2.heap.size w2 wr) (fun _ i _ => N.length - (intOf i).toNat)
    case atStart => exact ⟨0, [], by omega, rfl, by simp [cat], own_nil _ _ _, Below.refl _ _⟩
    case round =>
      obtain ⟨k, D, hk, rfl, hD, ho, hb⟩ := hrel
      have HO := Lib.hid ho
      have HB := Lib.hid hb
      have HD := Lib.hid hD
      have hDl : D.length ≤ 60 := by
        rw [hD]
        exact Nat.le_trans (e128_len5 (fun v hv => HNN.out v (List.mem_of_mem_take hv))) (by simp; omega)
      have hszb := hb.size
      clear ho hb hD
      by_cases hlt : k < N.length
      · have hd : decide ((k : Int) < (N.length : Int)) = true := by simp; omega
        have hcx := (HLI.out.below HB.out).cell k hlt
        have hzm : N.getD k 0 < 34359738368 := by
          rw [List.getD_eq_getElem?_getD, List.getElem?_eq_getElem hlt]
          exact HNN.out _ (List.getElem_mem _)
        have HN := Lib.hid (show N.take (k + 1) = N.take k ++ [N.getD k 0] by
          rw [List.take_add_one, List.getElem?_eq_getElem hlt, List.getD_eq_getElem?_getD, List.getElem?_eq_getElem hlt]; rfl)
        generalize N.getD k 0 = z at hcx hzm HN
        go_wp2_with fail
        clear hcx hd
        obtain ⟨wo, rfl⟩ : ∃ wo, wo = wr := ⟨wr, rfl⟩
        go_loopw [8, 9] (fun u v wx => ∃ (n : Nat) (E : List UInt8), u = .int .i64 (n : Int) ∧ n < 34359738368 ∧ OwnB 5 wx wo.heap.size v E ∧ Below wo.heap.size wo wx ∧ (E = [] ∧ n = z ∧ v = .slice none 0 0 ∨ E ≠ [] ∧ n ≠ 0 ∧ e128 z = hd7 n ++ mark E)) (fun u _ _ => (intOf u).toNat)
        case atStart => exact ⟨z, [], rfl, hzm, own_nil _ _ _, Below.refl _ _, .inl ⟨rfl, rfl, rfl⟩⟩
        case round =>
          obtain ⟨n, E, rfl, hn, ho2, hb2, hE⟩ := hrel
          have HOE := Lib.hid ho2
          have HBE := Lib.hid hb2
          have hEl : E.length ≤ 5 := by
            rcases hE with ⟨rfl, _⟩ | ⟨_, _, e⟩
            · simp
            · have h1 := e128_len z hzm
              rw [e, List.length_append, mark_len] at h1
              omega
          have hszx := hb2.size
          clear ho2 hb2
          obtain ⟨y0, hy0⟩ : ∃ y0 : UInt8, y0 = UInt8.ofNat (n % 128) := ⟨_, rfl⟩
          have hy0n : y0.toNat = n % 128 := by rw [hy0]; simp; omega
          have hyi : (n : Int) % 128 = ((y0.toNat : Nat) : Int) := by rw [hy0n]; omega
          obtain ⟨nq, hnq⟩ : ∃ nq, nq = n / 128 := ⟨_, rfl⟩
          have hqi : (n : Int) / 128 = (nq : Int) := by rw [hnq]; omega
          have HNX := Lib.hid (show e128 z = hd7 nq ++ mark (y0 :: E) by
            rcases hE with ⟨rfl, rfl, _⟩ | ⟨h1, h2, h3⟩
            · rw [e128, hnq, hy0]; rfl
            · rw [h3, hd7_pos h2, mark_cons _ _ h1, hy0n, hnq]; simp)
          have HLT := Lib.hid (show nq ≠ 0 → nq < n by omega)
          have HQB := Lib.hid (show nq < 34359738368 by omega)
          clear hy0 hy0n hnq
          have HBN := Lib.hid (show OwnB 5 (wr.alloc (.cells #[.int .u8 ((y0.toNat : Nat) : Int)] 5)) wo.heap.size (.slice (some ⟨wr.heap.size, 0, none⟩) 1 1) [y0] from own_base (byte_new wr y0) hszx)
          have HBW := Lib.hid (show Below wo.heap.size wo (wr.alloc (.cells #[.int .u8 ((y0.toNat : Nat) : Int)] 5)) from HBE.out.alloc hszx _)
          have hor : (E = [] ∧ u9 = .slice none 0 0) ∨ E ≠ [] := by
            rcases hE with ⟨h1, _, h2⟩ | ⟨h1, _⟩
            · exact .inl ⟨h1, h2⟩
            · exact .inr h1
          clear hE
          by_cases hq0 : nq = 0
          · have dq : ((nq : Int) == 0) = true := by rw [hq0]; rfl
            have HFIN := Lib.hid (show e128 z = mark (y0 :: E) by have := HNX.out; rw [hq0, hd7_zero] at this; exact this)
            clear hq0
            obtain ⟨E5, hE5⟩ : ∃ E5, E5 = y0 :: E := ⟨_, rfl⟩
            have HY5 := Lib.hid (show E5 ≠ [] by rw [hE5]; simp)
            rw [← hE5] at HFIN
            have hE6 : E5.length ≤ 6 := by rw [hE5]; simp; omega
            have HE5 := Lib.hid hE5
            clear hE5
            rcases hor with ⟨rfl, rfl⟩ | hne
            all_goals first
            | (have HO5 := Lib.hid (show OwnB 5 _ wo.heap.size _ E5 by rw [HE5.out]; exact HBN.out)
               have HB5 := HBW
               clear HBN HBW
               go_wp2_with fail
               generalize Value.slice (some ⟨wr.heap.size, 0, none⟩) 1 1 = v5 at HO5 ⊢
               generalize wr.alloc (Obj.cells #[Value.int IntKind.u8 ((y0.toNat : Nat) : Int)] 5) = w5 at HO5 HB5 ⊢)
            | (obtain ⟨h, c3, rfl, hh1, hh2, hh3⟩ := HOE.out.open hne
               go_wp2_with (at_builtin; (refine wpList_append_own _ rfl (.tmp 39) (.tmp 40) 65 rfl wo.heap.size 5 ib (.int .u8 0) 1 1 Tryz.underlying65 hib hbz0 hbz1 hbz2 rfl (by decide) _ 1 [bcell y0] rfl HBN.out ⟨h, 0, none⟩ E.length c3 (E.map bcell) rfl (by simp) (HOE.out.news (belowNew _ _)) (bcells_one E) (by unfold maxLen; omega) (by omega) (by simp; omega) ?_); intro v5 w5 ho5 hg5 _; have HO5 := Lib.hid (show OwnB 5 w5 wo.heap.size v5 E5 by rw [HE5.out]; unfold OwnB; rw [List.length_cons, Nat.add_comm]; exact ho5); have HB5 := Lib.hid (HBW.out.grown hg5 (by simp; omega) (fun k e => by cases e; exact hszx)); clear ho5 hg5))
            all_goals
              obtain ⟨h5, c5, rfl, hh4, hh5, hh6⟩ := HO5.out.open HY5.out
              have hl5 : 0 < E5.length := List.length_pos_iff.2 HY5.out
              go_loopw [10] (fun i wy => ∃ j : Nat, i = .int .i64 (j : Int) ∧ j + 1 ≤ E5.length ∧ OwnB 5 wy wo.heap.size (.slice (some ⟨h5, 0, none⟩) E5.length c5) (marked E5 j) ∧ Below wo.heap.size wo wy) (fun i _ => E5.length - (intOf i).toNat)
              case atStart => exact ⟨0, rfl, by omega, by rw [marked_zero]; exact HO5.out, HB5.out⟩
              case round =>
                obtain ⟨j, rfl, hj, ho7, hb7⟩ := hrel
                have HO7 := Lib.hid ho7
                have HB7 := Lib.hid hb7
                by_cases hjl : j + 1 < E5.length
                · have dj : decide ((j : Int) + 1 < (E5.length : Int)) = true := by simp; omega
                  have hcj := own_cell ho7 (marked_len _ _) j (by omega)
                  have hfj := own_free ho7 (marked_len _ _) j
                  rw [marked_get E5 j (by omega)] at hcj
                  obtain ⟨y7, hy7⟩ : ∃ y7 : UInt8, y7 = UInt8.ofNat (128 + (E5.getD j 0).toNat) := ⟨_, rfl⟩
                  have HS7 := Lib.hid (own_set ho7 (marked_len _ _) j y7)
                  rw [marked_set E5 j (by omega) y7 hy7] at HS7
                  have hadd : IntKind.u8.wrap (((E5.getD j 0).toNat : Int) + 128) = ((y7.toNat : Nat) : Int) := by
                    rw [hy7]
                    simp [IntKind.wrap, IntKind.bits, IntKind.signed]
                    omega
                  generalize (E5.getD j 0).toNat = x7 at hcj hadd
                  clear ho7 hb7 hy7
                  go_wp2_with fail
                  go_roundw
                  case rel => exact ⟨j + 1, by go_num, by omega, HS7.out, HB7.out.setCell hh4 _⟩
                  case measure => simp [intOf]; omega
                · have dj : decide ((j : Int) + 1 < (E5.length : Int)) = false := by simp; omega
                  have HM5 := Lib.hid (show marked E5 j = e128 z by rw [HFIN.out, mark_marked E5 HY5.out]; congr 1; omega)
                  rw [HM5.out] at HO7
                  have hzl : (e128 z).length = E5.length := by rw [← HM5.out, marked_len]
                  have HZL := Lib.hid hzl
                  have hE5 : E5.length ≤ 5 := by rw [← hzl]; exact e128_len z hzm
                  have hszw := hb7.size
                  clear ho7 hb7 hzl
                  go_wp2_with (at_builtin; (refine wpList_append_own _ rfl (.tmp 59) (.tmp 60) 65 rfl w2.heap.size 5 ib (.int .u8 0) 1 1 Tryz.underlying65 hib hbz0 hbz1 hbz2 rfl (by decide) _ D.length (D.map bcell) rfl (own_below HO.out HB7.out) ⟨h5, 0, none⟩ E5.length c5 ((e128 z).map bcell) rfl (by simp; exact HZL.out) (HO7.out.news (Below.refl _ _)) (bcells_one _) (by unfold maxLen; omega) (by omega) (by omega) ?_); intro v8 w8 ho8 hg8 _; have HO8 := Lib.hid (show OwnB 5 w8 w2.heap.size v8 (D ++ e128 z) by unfold OwnB; rw [List.length_append, List.map_append, HZL.out]; exact ho8); have HB8 := Lib.hid ((HB.out.trans (HB7.out.mono hszb)).grown hg8 (by omega) (fun k e => (World.ownsRow.lt HO.out k e).1)); clear ho8 hg8)
                  go_roundw
                  case rel => exact ⟨k + 1, D ++ e128 z, by omega, by go_num, by rw [HD.out, HN.out, cat_append]; simp [cat], HO8.out, HB8.out⟩
                  case measure => simp [intOf]; omega
          · have dq : ((nq : Int) == 0) = false := beq_eq_false_iff_ne.2 (by omega)
            have HQ0 := Lib.hid hq0
            clear hq0
            rcases hor with ⟨rfl, rfl⟩ | hne
            · go_wp2_with fail
              go_roundw
              case rel => exact ⟨nq, [y0], rfl, HQB.out, HBN.out, HBW.out, .inr ⟨by simp, HQ0.out, HNX.out⟩⟩
              case measure => simp [intOf]; exact HLT.out HQ0.out
            · obtain ⟨h, c3, rfl, hh1, hh2, hh3⟩ := HOE.out.open hne
              go_wp2_with (at_builtin; (refine wpList_append_own _ rfl (.tmp 39) (.tmp 40) 65 rfl wo.heap.size 5 ib (.int .u8 0) 1 1 Tryz.underlying65 hib hbz0 hbz1 hbz2 rfl (by decide) _ 1 [bcell y0] rfl HBN.out ⟨h, 0, none⟩ E.length c3 (E.map bcell) rfl (by simp) (HOE.out.news (belowNew _ _)) (bcells_one E) (by unfold maxLen; omega) (by omega) (by simp; omega) ?_); intro v5 w5 ho5 hg5 _; have HO5 := Lib.hid (show OwnB 5 w5 wo.heap.size v5 (y0 :: E) by unfold OwnB; rw [List.length_cons, Nat.add_comm]; exact ho5); have HB5 := Lib.hid (HBW.out.grown hg5 (by simp; omega) (fun k e => by cases e; exact hszx)); clear ho5 hg5)
              go_roundw
              case rel => exact ⟨nq, y0 :: E, rfl, HQB.out, HO5.out, HB5.out, .inr ⟨by simp, HQ0.out, HNX.out⟩⟩
              case measure => simp [intOf]; exact HLT.out HQ0.out
      · obtain rfl : k = N.length := by omega
        have hd : decide ((N.length : Int) < (N.length : Int)) = false := by simp
        have hs2 := own_str HO.out
        go_wp2_with fail
        go_ret2
        refine ⟨?_, below_next (below_next HB1.out HB2.out) HB.out⟩
        have e := HD.out
        rw [List.take_of_length_le (Nat.le_refl _), ← HEN.out] at e
        rw [e]; rfl
end Go.Proofs.YtbpdenfiifcfcaaGreatDoor
