/-
  The contract of oid.Encode: the contents of the object identifier that the text is, if it is one.
  Names that a law holds in blocks of its own; the calls of Match and awake in a region that draws.
  What stands at the beginning of a string of elements, as numbers: the error, the length of the header, the length of the contents; and the errors within an element. Nothing is claimed of the program here.
  The contracts of the functions of tlv that read a length: what the octets say, and that nothing has changed.
  The contract of tlv.appendLength: the octets of a length, appended to a slice of bytes that the call's caller has made.
  The contract of tlv.totalLength: how long the strings of a slice are together, if not longer than an element may be.
-/
import Derived.Test.YtfpfgdbfigdooaaGreatDoorEaa
import Derived.Test.YtfpfgdbfigdooaaGreatDoorEap
import Derived.Test.YtfpfgdbfigdooaaGreatDoorEao
import Derived.Deep.DeepCutAuto
import Derived.Deep.RegionHeld3
import Derived.Lib.QuietBelow
import Derived.BigQuiet
namespace Go.Proofs.YtfpfgdbfigdooaaGreatDoor
open Go.RowKit

def encVal (a : List Nat) : Value := .tuple #[.string (strOf (enc a)), .int .i64 0]
def noVal : Value := .tuple #[.string ⟨#[]⟩, .int .i64 11]

set_option maxRecDepth 100000 in
set_option maxHeartbeats 1000000 in
theorem enc_no {s : ByteArray} (h : ∀ a, ¬ Oid s.data.toList a) (w : World) (hs : s.size ≤ 1099511627) :
    Calls Tryz.prog 91 #[.string s] w fun e w' => e = .returned noVal ∧ Below w.heap.size w w' := by
  have HH := Lib.hid h
  clear h
  go_enter Tryz.func91, Tryz.ntmps91
  go_wp2_with (go_at_call 130; (with_reducible refine (arcs_no HH.out _ hs).mono ?_); rintro e w1 ⟨rfl, hb1⟩; have HB1 := Lib.hid hb1; clear hb1)
  go_ret2
  exact ⟨rfl, HB1.out⟩

theorem ILie.tail {w : World} {g : Nat} {x y : Nat} {r : List Nat} (h : ILie w g (x :: y :: r)) (k : Nat) (hk : k < r.length) : w.cell? ⟨g, 2 + k, none⟩ = some (.int .i64 ((r.getD k 0 : Nat) : Int)) := by
  have := h.2 (2 + k) (by simp; omega)
  rw [this]
  have e : (x :: y :: r).getD (2 + k) 0 = r.getD k 0 := by
    rw [show 2 + k = (k + 1) + 1 by omega]; simp
  rw [e]
theorem e128_len5 {a : List Nat} (h : ∀ v ∈ a, v < 34359738368) : (cat e128 a).length ≤ 5 * a.length := by
  induction a with
  | nil => simp [cat]
  | cons v a ih =>
    have h1 := e128_len v (h v (by simp))
    have h2 := ih (fun x hx => h x (by simp [hx]))
    simp only [cat, List.length_append, List.length_cons]; omega

set_option maxRecDepth 100000 in
set_option maxHeartbeats 1000000 in
theorem enc_yes {s : ByteArray} {a : List Nat} (h : Oid s.data.toList a) (w : World) (hs : s.size ≤ 1099511627) :
    Calls Tryz.prog 91 #[.string s] w fun e w' => e = .returned (encVal a) ∧ Below w.heap.size w w' := by
  have HH := Lib.hid h
  have hg := h.1
  obtain ⟨x, y, r, rfl⟩ : ∃ x y r, a = x :: y :: r := by
    match a, hg.1 with
    | x :: y :: r, _ => exact ⟨x, y, r, rfl⟩
  have hx : x ≤ 2 := by simpa using hg.2.2.2.1
  have hy : y ≤ 2147483647 := hg.2.2.1 y (by simp)
  have HR := Lib.hid (fun v (hv : v ∈ r) => hg.2.2.1 v (by simp [hv]))
  have hrl : r.length ≤ 10 := by have := hg.2.1; simp at this; omega
  obtain ⟨m, hm⟩ : ∃ m, m = 40 * x + y := ⟨_, rfl⟩
  have hwr : IntKind.i64.wrap (40 * (x : Int) + (y : Int)) = (m : Int) := by rw [wrap_i64]; omega
  have hwr2 : IntKind.i64.wrap (40 * (x : Int)) = 40 * (x : Int) := by rw [wrap_i64]; omega
  have hmb : m < 34359738368 := by omega
  have HM := Lib.hid hm
  clear hm
  clear h hg
  go_enter Tryz.func91, Tryz.ntmps91
  go_upto_region 4 with (go_at_call 130; (with_reducible refine (arcs_yes HH.out _ hs).mono ?_); rintro e w1 ⟨⟨g, cap, rfl, hl, hg, hcp⟩, hb1⟩; have HB1 := Lib.hid hb1; have HL1 := Lib.hid hl; have hc0 := hl.cell 0 (by simp); have hc1 := hl.cell 1 (by simp); clear hb1 hl hg)
  simp only [List.length_cons] at hcp
  simp only [List.getD_cons_zero, List.getD_cons_succ] at hc0 hc1
  go_region_with (go_at_call 131; (with_reducible refine (app_any _ [] m w1.heap.size _ hmb (by exact own_nil _ _ _) (by simp) (by simp)).mono ?_); rintro e w2 ⟨v2, rfl, ho2, hb2⟩; have HO2 := Lib.hid ho2; have HB2 := Lib.hid hb2; clear ho2 hb2)
  all_goals
    have HB3 := Lib.hid (show Below w1.heap.size w1 w2 from (Below.refl _ w1).drew.trans HB2.out)
    clear HB2 hwr hwr2 hc0 hc1
    go_wp2_with fail
  all_goals
    have HCP := Lib.hid hcp
    go_loopw [6, 28] (fun u i wr => ∃ (k : Nat) (D : List UInt8), k ≤ r.length ∧ i = .int .i64 (k : Int) ∧ D = cat e128 (m :: r.take k) ∧ OwnB 5 wr w1.heap.size u D ∧ Below w1.heap.size w1 wr) (fun _ i _ => r.length - (intOf i).toNat)
    case atStart => exact ⟨0, e128 m, by omega, rfl, by simp [cat], HO2.out, HB3.out⟩
    case round =>
      obtain ⟨k, D, hk, rfl, hD, ho, hb⟩ := hrel
      have HO := Lib.hid ho
      have HB := Lib.hid hb
      have HD := Lib.hid hD
      have hDl : D.length ≤ 5 * 13 := by
        rw [hD]
        refine Nat.le_trans (e128_len5 (fun v hv => ?_)) (by simp; omega)
        rcases List.mem_cons.1 hv with rfl | hv
        · exact hmb
        · exact Nat.lt_of_le_of_lt (HR.out v (List.mem_of_mem_take hv)) (by decide)
      have HDL := Lib.hid (show D.length ≤ 1099511627 by omega)
      have HSZ := Lib.hid hb.size
      clear ho hb hD hDl
      by_cases hlt : k < r.length
      · have hd : decide ((k : Int) < (r.length : Int)) = true := by simp; omega
        have hcx := (HL1.out.below HB.out).tail k hlt
        have hrm : r.getD k 0 ≤ 2147483647 := by
          rw [List.getD_eq_getElem?_getD, List.getElem?_eq_getElem hlt]
          exact HR.out _ (List.getElem_mem _)
        have HN := Lib.hid (show r.take (k + 1) = r.take k ++ [r.getD k 0] by
          rw [List.take_add_one, List.getElem?_eq_getElem hlt, List.getD_eq_getElem?_getD, List.getElem?_eq_getElem hlt]; rfl)
        generalize r.getD k 0 = z at hcx hrm HN
        have HZ := Lib.hid (show z < 34359738368 by omega)
        first
        | (exfalso; omega)
        | (go_wp2_with (go_at_call 131; (with_reducible refine (app_any _ D z w1.heap.size _ HZ.out HO.out HSZ.out HDL.out).mono ?_); rintro e w4 ⟨v4, rfl, ho4, hb4⟩; have HO4 := Lib.hid ho4; have HB4 := Lib.hid hb4; clear ho4 hb4)
           go_roundw
           case rel => exact ⟨k + 1, D ++ e128 z, by omega, by go_num, by rw [HD.out, HN.out]; simp only [cat]; rw [cat_append]; simp [cat], HO4.out, HB.out.trans HB4.out⟩
           case measure => simp [intOf]; omega)
      · obtain rfl : k = r.length := by omega
        have hd : decide ((r.length : Int) < (r.length : Int)) = false := by simp
        have hs2 := own_str HO.out
        go_wp2_with fail
        go_ret2
        refine ⟨?_, below_next HB1.out HB.out⟩
        have e : D = enc (x :: y :: r) := by rw [HD.out, List.take_of_length_le (Nat.le_refl _), HM.out]; rfl
        rw [e]; rfl
end Go.Proofs.YtfpfgdbfigdooaaGreatDoor
namespace Go.Proofs.YtfpfgdbfigdooaaGreatDoor
open Go.RowKit

/-- A name of a call's own, in block q. -/
def Held (w : World) (q lo : Nat) (n : Nm) : Prop := ∃ s, w.heap[q]? = some (.cells #[s] 24 (0, 0)) ∧ OwnN w lo s n
theorem Held.but {w w' : World} {p q lo : Nat} {n : Nm} (h : Held w q lo n) (hb : But p w w') (hq : p ≠ q) (hl : p < lo) : Held w' q lo n := by
  obtain ⟨s, h1, h2⟩ := h
  exact ⟨s, (hb.block q (Array.getElem?_eq_some_iff.1 h1).1 (by simp; omega)).trans h1, h2.but hb hl⟩
theorem next_up (p : Nat) (a : Option Addr) (cap : Nat) (zs : List Int) (k N : Nat) (w : World) (h : DeckAt w p a cap zs k) (hk : k < 1000) (hN : N ≤ 1000) :
    Calls Tryz.prog 12 #[.pointer (some ⟨p, 0, none⟩), .int .i64 ((N : Int) + 1)] w fun e w' => ∃ r k' : Nat, r < N + 1 ∧ e = .returned (.int .i64 (r : Int)) ∧ DeckAt w' p a cap zs k' ∧ k' ≤ k + 1 ∧ But p w w' :=
  next_any p a cap zs k (N + 1) w h hk (by omega) (by omega)
theorem deck_up {w : World} {p : Nat} {a : Option Addr} {cap : Nat} {zs : List Int} {k : Nat} (h : DeckAt w p a cap zs k) : DeckAt w.drew p a cap zs k := h.below (Below.refl _ w).drew
theorem spN_of_made {n : Nm} (h : MadeN n) : SpN 20 n := by
  refine ⟨h.1, fun r hr => ⟨(h.2 r hr).1.1, fun x hx => ?_⟩⟩
  have hm := (h.2 r hr).1.2.1 x hx
  have hall : ∀ y ∈ madeL, y.1.size ≤ 100 ∧ y.2.2.size ≤ 20 := by decide
  exact hall x hm
theorem small_of_sp {L : Nat} {n : Nm} (h : SpN L n) (hL : L ≤ 1000) : SmallN n := by
  refine ⟨Nat.le_trans h.1 (by omega), fun i hi => ?_⟩
  have hr := h.2 _ (getD_memS n i hi [])
  refine ⟨Nat.le_trans hr.1 (by omega), fun j hj => ?_⟩
  have hx := hr.2 _ (getD_memS _ j hj noAt)
  exact ⟨Nat.le_trans hx.1 (by omega), Nat.le_trans hx.2 (by omega)⟩

/-- A name that can be read: its slice lies in block q. -/
def HoldAt (V : World) (q : Nat) (a : Option Addr) (N c : Nat) (n : Nm) : Prop := V.cell? ⟨q, 0, none⟩ = some (.slice a N c) ∧ N = n.length ∧ N ≤ c ∧ RLies V a n ∧ SmallN n
theorem Held.open {w : World} {q lo L : Nat} {n : Nm} (h : Held w q lo n) (hs : SpN L n) (hL : L ≤ 1000) : ∃ a N c, HoldAt w q a N c n := by
  obtain ⟨s, h1, h2⟩ := h
  obtain ⟨a, c, rfl, hc, hl⟩ := h2.lies
  exact ⟨a, n.length, c, (one_facts h1).1, rfl, hc, hl, small_of_sp hs hL⟩
theorem HoldAt.below {w w' : World} {q N c : Nat} {a : Option Addr} {n : Nm} (h : HoldAt w q a N c n) (hb : Below w.heap.size w w') : HoldAt w' q a N c n :=
  ⟨(hb.cell (p := ⟨q, 0, none⟩) (block_lt h.1)).trans h.1, h.2.1, h.2.2.1, h.2.2.2.1.below hb, h.2.2.2.2⟩
theorem hold_match {V : World} {q1 N1 c1 q2 N2 c2 : Nat} {a1 a2 : Option Addr} {n1 n2 : Nm} (h1 : HoldAt V q1 a1 N1 c1 n1) (h2 : HoldAt V q2 a2 N2 c2 n2) (v : Bool) (hv : decide (MatchN n1 n2) = v) (d : Nat) (os : Array Obj) :
    Calls Tryz.prog 30 #[.agg #[.slice a1 N1 c1], .agg #[.slice a2 N2 c2]] (Sort.grow (redrawn V d) os) fun e w'' => e = .returned (.bool v) ∧ ∃ p : Regrown, w'' = Sort.grow (redrawn V p.d) p.os := by
  refine Calls.regrown_of ?_
  rw [← hv]
  exact match_core a1 a2 c1 c2 N1 N2 n1 n2 _ (h1.2.2.2.1.below (below_regrown V d os)) (h2.2.2.2.1.below (below_regrown V d os)) h1.2.1 h2.2.1 h1.2.2.2.2 h2.2.2.2.2
theorem awake_held {V : World} (hT : Tab V) (hS : ShT V) (d : Nat) (os : Array Obj) :
    Calls Tryz.prog 9 #[] (Sort.grow (redrawn V d) os) fun e w'' => e = .returned (.bool true) ∧ ∃ p : Regrown, w'' = Sort.grow (redrawn V p.d) p.os :=
  Calls.regrown_of (awake_any _ (hT.below (below_regrown V d os)) (hS.below (below_regrown V d os)))

end Go.Proofs.YtfpfgdbfigdooaaGreatDoor
namespace Go.Proofs.YtfpfgdbfigdooaaGreatDoor
open Go.RowKit

/-- The number that k bytes from place o on are, the most significant one first. -/
def be (b : ByteArray) (o : Nat) : Nat → Nat
  | 0 => 0
  | k + 1 => 256 * be b o k + u8at b (o + k)
theorem be_lt (b : ByteArray) (o k : Nat) : be b o k < 256 ^ k := by
  induction k with
  | zero => simp [be]
  | succ k ih => have := u8at_lt b (o + k); simp only [be, Nat.pow_succ]; omega
def least (k : Nat) : Nat := if k = 1 then 128 else if k = 2 then 256 else if k = 3 then 65536 else 0

/-- What readLength answers for the octets from place o on: the length, how many octets it has, the error. -/
def lnAt (b : ByteArray) (o : Nat) : Nat × Nat × Nat :=
  if b.size ≤ o then (0, 0, 3)
  else if u8at b o < 128 then (u8at b o, 1, 0)
  else if u8at b o = 128 ∨ 131 < u8at b o then (0, 0, 6)
  else if b.size < o + 1 + (u8at b o - 128) then (0, 0, 3)
  else if be b (o + 1) (u8at b o - 128) < least (u8at b o - 128) ∨ 131072 < be b (o + 1) (u8at b o - 128) then (0, 0, 6)
  else (be b (o + 1) (u8at b o - 128), 1 + (u8at b o - 128), 0)

/-- The element at the beginning: the error, the place of the contents, their length. -/
def rd (b : ByteArray) : Nat × Nat × Nat :=
  if b.size = 0 then (3, 0, 0)
  else if u8at b 0 % 32 = 31 then (5, 0, 0)
  else if (lnAt b 1).2.2 ≠ 0 then ((lnAt b 1).2.2, 0, 0)
  else if b.size < 1 + (lnAt b 1).2.1 + (lnAt b 1).1 then (3, 0, 0)
  else (0, 1 + (lnAt b 1).2.1, (lnAt b 1).1)

def rdErr (b : ByteArray) : Nat := (rd b).1
def rdTag (b : ByteArray) : Nat := u8at b 0
def rdContent (b : ByteArray) : ByteArray := b.extract (rd b).2.1 ((rd b).2.1 + (rd b).2.2)
def rdRaw (b : ByteArray) : ByteArray := b.extract 0 ((rd b).2.1 + (rd b).2.2)
def rdRest (b : ByteArray) : ByteArray := b.extract ((rd b).2.1 + (rd b).2.2) b.size

/-- An element as a value. -/
def elV (tag : Nat) (c r : ByteArray) : Value := .agg #[.int .i64 (tag : Int), .string c, .string r]
def noEl : Value := .agg #[.int .i64 0, .string ⟨#[]⟩, .string ⟨#[]⟩]
def rdEl (b : ByteArray) : Value := if rdErr b = 0 then elV (rdTag b) (rdContent b) (rdRaw b) else noEl
def rdVal (b : ByteArray) : Value :=
  if rdErr b = 0 then .tuple #[elV (rdTag b) (rdContent b) (rdRaw b), .string (rdRest b), .int .i64 0]
  else .tuple #[noEl, .string ⟨#[]⟩, .int .i64 ((rdErr b : Nat) : Int)]

/-- Where an element is read, it is longer than its header and its contents reach no further than the end. -/
theorem rd_ok {b : ByteArray} (h : rdErr b = 0) : 2 ≤ (rd b).2.1 ∧ (rd b).2.1 ≤ 5 ∧ (rd b).2.1 + (rd b).2.2 ≤ b.size ∧ u8at b 0 % 32 ≠ 31 ∧ b.size ≠ 0 := by
  unfold rdErr rd at h
  unfold rd
  by_cases h0 : b.size = 0
  · simp [h0] at h
  · by_cases h1 : u8at b 0 % 32 = 31
    · simp [h0, h1] at h
    · by_cases h2 : (lnAt b 1).2.2 ≠ 0
      · rw [if_neg h0, if_neg h1, if_pos h2] at h
        exact absurd h h2
      · by_cases h3 : b.size < 1 + (lnAt b 1).2.1 + (lnAt b 1).1
        · rw [if_neg h0, if_neg h1, if_neg h2, if_pos h3] at h
          cases h
        · rw [if_neg h0, if_neg h1, if_neg h2, if_neg h3]
          have hs : 1 ≤ (lnAt b 1).2.1 ∧ (lnAt b 1).2.1 ≤ 4 := by
            have h2' : (lnAt b 1).2.2 = 0 := by omega
            revert h2'
            unfold lnAt
            split
            · intro h; cases h
            · split
              · intro _; simp
              · split
                · intro h; cases h
                · split
                  · intro h; cases h
                  · split
                    · intro h; cases h
                    · intro _; simp; omega
          refine ⟨by simp; omega, by simp; omega, by simp; omega, h1, h0⟩
theorem rdRest_size {b : ByteArray} (h : rdErr b = 0) : (rdRest b).size < b.size := by
  obtain ⟨h1, _, h2, _, _⟩ := rd_ok h
  unfold rdRest
  rw [ByteArray.size_extract]
  omega
theorem rdContent_size {b : ByteArray} (h : rdErr b = 0) : (rdContent b).size < b.size := by
  obtain ⟨h1, _, h2, _, _⟩ := rd_ok h
  unfold rdContent
  rw [ByteArray.size_extract]
  omega
end Go.Proofs.YtfpfgdbfigdooaaGreatDoor
namespace Go.Proofs.YtfpfgdbfigdooaaGreatDoor
open Go.RowKit

set_option maxRecDepth 100000 in
theorem and31 : ∀ n : Nat, n < 256 → bits BinOp.and .i64 (n : Int) 31 = ((n % 32 : Nat) : Int) := by decide

theorem hasShortTag_any (n : Nat) (hn : n < 256) (w : World) :
    Calls Tryz.prog 93 #[.int .i64 (n : Int)] w fun e w' => e = .returned (.bool (decide (n % 32 ≠ 31))) ∧ w' = w := by
  have h := and31 n hn
  go_enter Tryz.func93, Tryz.ntmps93
  go_wp2_with fail
  go_ret
  refine ⟨?_, rfl⟩
  congr 2
  by_cases h1 : n % 32 = 31
  · simp [h1]; omega
  · have h2 : ¬ (n : Int) % 32 = 31 := by omega
    simp [h1, h2]

/-- How many octets a length takes. -/
def lsz (n : Nat) : Nat := if n < 128 then 1 else if n < 256 then 2 else if n < 65536 then 3 else 4
theorem lsz1 {n : Nat} (h : n < 128) : lsz n = 1 := by simp [lsz, h]
theorem lsz2 {n : Nat} (h : 128 ≤ n) (h' : n < 256) : lsz n = 2 := by simp [lsz, h', show ¬ n < 128 by omega]
theorem lsz3 {n : Nat} (h : 256 ≤ n) (h' : n < 65536) : lsz n = 3 := by simp [lsz, h', show ¬ n < 128 by omega, show ¬ n < 256 by omega]
theorem lsz4 {n : Nat} (h : 65536 ≤ n) : lsz n = 4 := by simp [lsz, show ¬ n < 128 by omega, show ¬ n < 256 by omega, show ¬ n < 65536 by omega]

theorem lengthSize_any (n : Nat) (w : World) :
    Calls Tryz.prog 132 #[.int .i64 (n : Int)] w fun e w' => e = .returned (.int .i64 (lsz n : Nat)) ∧ w' = w := by
  by_cases h1 : n < 128
  · have d1 : decide ((n : Int) < 128) = true := by simp; omega
    rw [lsz1 h1]
    clear h1
    go_enter Tryz.func132, Tryz.ntmps132
    go_wp2_with fail
    go_ret
    exact ⟨rfl, rfl⟩
  · have d1 : decide ((n : Int) < 128) = false := by simp; omega
    by_cases h2 : n < 256
    · have d2 : decide ((n : Int) < 256) = true := by simp; omega
      rw [lsz2 (by omega) h2]
      clear h1 h2
      go_enter Tryz.func132, Tryz.ntmps132
      go_wp2_with fail
      go_ret
      exact ⟨rfl, rfl⟩
    · have d2 : decide ((n : Int) < 256) = false := by simp; omega
      by_cases h3 : n < 65536
      · have d3 : decide ((n : Int) < 65536) = true := by simp; omega
        rw [lsz3 (by omega) h3]
        clear h1 h2 h3
        go_enter Tryz.func132, Tryz.ntmps132
        go_wp2_with fail
        go_ret
        exact ⟨rfl, rfl⟩
      · have d3 : decide ((n : Int) < 65536) = false := by simp; omega
        rw [lsz4 (by omega)]
        clear h1 h2 h3
        go_enter Tryz.func132, Tryz.ntmps132
        go_wp2_with fail
        go_ret
        exact ⟨rfl, rfl⟩
end Go.Proofs.YtfpfgdbfigdooaaGreatDoor
namespace Go.Proofs.YtfpfgdbfigdooaaGreatDoor
open Go.RowKit

/-- The k least significant octets of a number, the most significant one first. -/
def octs (n : Nat) : Nat → List UInt8
  | 0 => []
  | k + 1 => UInt8.ofNat (n / 256 ^ k) :: octs n k
theorem octs_length (n k : Nat) : (octs n k).length = k := by
  induction k with
  | zero => rfl
  | succ k ih => simp [octs, ih]
/-- The octets of a length. -/
def lenO (n : Nat) : List UInt8 := if lsz n = 1 then [UInt8.ofNat n] else UInt8.ofNat (127 + lsz n) :: octs n (lsz n - 1)

theorem app_round_t {B : Nat} {w0 w w2 : World} {v v' : Value} {D : List UInt8} {y : UInt8} {X : Obj} (hown : OwnB 5 w B v D) (hb : Below B w0 w) (hB : B ≤ w.heap.size)
    (hown2 : w2.ownsRow B 5 1 v' (D.length + 1) (D.map bcell ++ [bcell y])) (hgr2 : (w.alloc X).grownBy w2 v.ownBlock) : OwnB 5 w2 B v' (D ++ [y]) ∧ Below B w0 w2 := by
  refine ⟨?_, ?_⟩
  · unfold OwnB
    rw [List.length_append, List.map_append]; exact hown2
  · exact (hb.alloc hB X).grown hgr2 (by simp; omega) (fun k e => (World.ownsRow.lt hown k e).1)

set_option maxRecDepth 100000 in
set_option maxHeartbeats 1000000 in
theorem appendLength_one (B : Nat) (v : Value) (l : List UInt8) (n : Nat) (w : World) (hown : OwnB 5 w B v l) (hB : B ≤ w.heap.size) (hl : l.length ≤ 100) (hn : n < 128) :
    Calls Tryz.prog 95 #[v, .int .i64 (n : Nat)] w fun e w' => ∃ v', e = .returned v' ∧ OwnB 5 w' B v' (l ++ lenO n) ∧ Below B w w' := by
  obtain ⟨i0, hi, hz0, hz1, hz2⟩ := info_parts byteInfo
  have e1 := lsz1 hn
  have HO := Lib.hid hown
  have HL := Lib.hid hl
  have HB := Lib.hid (Below.refl B w)
  have HBB := Lib.hid hB
  have HE := Lib.hid (show lenO n = [UInt8.ofNat n] from if_pos e1)
  obtain ⟨y, rfl⟩ : ∃ y : UInt8, n = y.toNat := ⟨UInt8.ofNat n, by simp; omega⟩
  have HE1 := Lib.hid e1
  clear hown hl e1 hB
  go_enter Tryz.func95, Tryz.ntmps95
  go_wp2_with (first | (go_at_call 132; (with_reducible refine (lengthSize_any y.toNat _).mono ?_); rw [HE1.out]; rintro e w1 ⟨rfl, rfl⟩) | (at_builtin; (refine wpList_append_own _ rfl (.tmp 12) (.tmp 15) 61 rfl B 5 i0 (.int .u8 0) 1 1 Tryz.underlying61 hi hz0 hz1 hz2 rfl (by decide) _ l.length (l.map bcell) rfl (HO.out.alloc _) ⟨_, 0, none⟩ 1 1 [bcell y] rfl rfl (news_row _ #[bcell y] 5) (bcells_one [y]) (by have := HL.out; unfold maxLen; omega) (by have := HL.out; omega) (by have := HBB.out; simp; omega) ?_); intro v' w2 hown2 hgr2 _; obtain ⟨P1, P2⟩ := app_round_t HO.out HB.out HBB.out hown2 hgr2; have HP1 := Lib.hid P1; have HP2 := Lib.hid P2; clear hown2 hgr2 P1 P2))
  go_ret
  refine ⟨_, rfl, ?_, HP2.out⟩
  rw [HE.out, UInt8.ofNat_toNat]
  exact HP1.out

set_option maxRecDepth 100000 in
set_option maxHeartbeats 1000000 in
theorem appendLength_more (B : Nat) (v : Value) (l : List UInt8) (n f : Nat) (w : World) (hown : OwnB 5 w B v l) (hB : B ≤ w.heap.size) (hl : l.length ≤ 90) (hf : lsz n = 1 + f) (h1 : 0 < f) (h3 : f ≤ 3) (hn : n < 256 ^ f) :
    Calls Tryz.prog 95 #[v, .int .i64 (n : Nat)] w fun e w' => ∃ v', e = .returned v' ∧ OwnB 5 w' B v' (l ++ lenO n) ∧ Below B w w' := by
  obtain ⟨i0, hi, hz0, hz1, hz2⟩ := info_parts byteInfo
  have HS1 := Lib.hid hB
  have HO := Lib.hid hown
  have HL := Lib.hid (show l.length ≤ 100 by omega)
  have HL9 := Lib.hid hl
  have HB := Lib.hid (Below.refl B w)
  have HBB := Lib.hid hB
  have HF := Lib.hid hf
  have hE : lenO n = UInt8.ofNat (128 + f) :: octs n f := by unfold lenO; rw [if_neg (by omega), hf]; congr 2 <;> omega
  have HE := Lib.hid hE
  have HN := Lib.hid hn
  have dE : (1 + (f : Int) - 1) = (f : Int) := by omega
  have d0 : ((f : Int) == 0) = false := beq_eq_false_iff_ne.2 (by omega)
  obtain ⟨y, hy⟩ : ∃ y : UInt8, 128 + f = y.toNat := ⟨UInt8.ofNat (128 + f), by simp; omega⟩
  have HY := Lib.hid hy
  have hyI : 128 + (f : Int) = ((y.toNat : Nat) : Int) := by omega
  clear hown hl hB hf hE hn hy
  go_enter Tryz.func95, Tryz.ntmps95
  go_wp2_with (first | (go_at_call 132; (with_reducible refine (lengthSize_any n _).mono ?_); rw [HF.out]; rintro e w1 ⟨rfl, rfl⟩) | (at_builtin; (refine wpList_append_own _ rfl (.tmp 17) (.tmp 21) 61 rfl B 5 i0 (.int .u8 0) 1 1 Tryz.underlying61 hi hz0 hz1 hz2 rfl (by decide) _ l.length (l.map bcell) rfl (HO.out.alloc _) ⟨_, 0, none⟩ 1 1 [bcell y] rfl rfl (news_row _ #[bcell y] 5) (bcells_one [y]) (by have := HL.out; unfold maxLen; omega) (by have := HL.out; omega) (by have := HBB.out; simp; omega) ?_); intro v' w2 hown2 hgr2 _; obtain ⟨P1, P2⟩ := app_round_t HO.out HB.out HBB.out hown2 hgr2; have HP1 := Lib.hid P1; have HP2 := Lib.hid P2; clear hown2 hgr2 P1 P2))
  have HS0 := Lib.hid (Nat.le_trans HBB.out HP2.out.size)
  clear hyI dE d0
  go_loopw [0, 6] (fun u s wr => ∃ (j : Nat) (D : List UInt8), j ≤ f ∧ s = .int .i64 (8 * ((j : Int) - 1)) ∧ D ++ octs n j = l ++ lenO n ∧ D.length + j ≤ 100 ∧ OwnB 5 wr B u D ∧ Below B w1 wr ∧ B ≤ wr.heap.size) (fun _ s _ => (intOf s + 8).toNat)
  case atStart => exact ⟨f, l ++ [y], Nat.le_refl _, rfl, by rw [HE.out, HY.out, UInt8.ofNat_toNat, List.append_assoc]; rfl, by have := HL9.out; simp; omega, HP1.out, HP2.out, HS0.out⟩
  case round =>
    clear HO HB HBB HP1 HP2 HS0
    obtain ⟨j, D, hj, rfl, hD, hDl, hown, hb, hB⟩ := hrel
    have HO := Lib.hid hown
    have HB := Lib.hid hb
    have HBB := Lib.hid hB
    have HD := Lib.hid hD
    have HDL := Lib.hid hDl
    clear hown hb hB hD hDl HL
    have HB0 := Lib.hid HS1.out
    rcases (by omega : j = 0 ∨ j = 1 ∨ j = 2 ∨ j = 3) with rfl | rfl | rfl | rfl
    · go_wp2_with fail
      go_ret
      refine ⟨_, rfl, ?_, HB.out⟩
      rw [← HD.out]
      simpa [octs] using HO.out
    · have HL := Lib.hid (show D.length + 1 ≤ 101 by have := HDL.out; omega)
      obtain ⟨z, hz⟩ : ∃ z : UInt8, z = UInt8.ofNat (n / 256 ^ 0) := ⟨_, rfl⟩
      have hc : (n : Int) % 256 = ((z.toNat : Nat) : Int) := by rw [hz]; simp
      have HZ := Lib.hid hz
      clear hz
      go_wp2_with (at_builtin; (refine wpList_append_own _ rfl (.tmp 30) (.tmp 35) 61 rfl B 5 i0 (.int .u8 0) 1 1 Tryz.underlying61 hi hz0 hz1 hz2 rfl (by decide) _ D.length (D.map bcell) rfl (HO.out.alloc _) ⟨_, 0, none⟩ 1 1 [bcell z] rfl rfl (news_row _ #[bcell z] 5) (bcells_one [z]) (by have := HL.out; unfold maxLen; omega) (by have := HL.out; omega) (by have := HBB.out; simp; omega) ?_); intro v' w2 hown2 hgr2 _; obtain ⟨P1, P2⟩ := app_round_t HO.out HB.out HBB.out hown2 hgr2; have HP1 := Lib.hid P1; have HP2 := Lib.hid P2; have HP3 := Lib.hid (Nat.le_trans HB0.out P2.size); clear hown2 hgr2 P1 P2)
      go_roundw
      case rel =>
        refine ⟨0, D ++ [z], by omega, rfl, ?_, by have := HDL.out; simp; omega, HP1.out, HP2.out, HP3.out⟩
        rw [← HD.out, HZ.out, List.append_assoc]
        rfl
      case measure => simp [intOf]
    · have HL := Lib.hid (show D.length + 1 ≤ 101 by have := HDL.out; omega)
      obtain ⟨z, hz⟩ : ∃ z : UInt8, z = UInt8.ofNat (n / 256 ^ 1) := ⟨_, rfl⟩
      have hc : (n : Int) / 256 % 256 = ((z.toNat : Nat) : Int) := by rw [hz]; simp
      have HZ := Lib.hid hz
      clear hz
      go_wp2_with (at_builtin; (refine wpList_append_own _ rfl (.tmp 30) (.tmp 35) 61 rfl B 5 i0 (.int .u8 0) 1 1 Tryz.underlying61 hi hz0 hz1 hz2 rfl (by decide) _ D.length (D.map bcell) rfl (HO.out.alloc _) ⟨_, 0, none⟩ 1 1 [bcell z] rfl rfl (news_row _ #[bcell z] 5) (bcells_one [z]) (by have := HL.out; unfold maxLen; omega) (by have := HL.out; omega) (by have := HBB.out; simp; omega) ?_); intro v' w2 hown2 hgr2 _; obtain ⟨P1, P2⟩ := app_round_t HO.out HB.out HBB.out hown2 hgr2; have HP1 := Lib.hid P1; have HP2 := Lib.hid P2; have HP3 := Lib.hid (Nat.le_trans HB0.out P2.size); clear hown2 hgr2 P1 P2)
      go_roundw
      case rel =>
        refine ⟨1, D ++ [z], by omega, rfl, ?_, by have := HDL.out; simp; omega, HP1.out, HP2.out, HP3.out⟩
        rw [← HD.out, HZ.out, List.append_assoc]
        rfl
      case measure => simp [intOf]
    · have HL := Lib.hid (show D.length + 1 ≤ 101 by have := HDL.out; omega)
      obtain ⟨z, hz⟩ : ∃ z : UInt8, z = UInt8.ofNat (n / 256 ^ 2) := ⟨_, rfl⟩
      have hc : (n : Int) / 65536 % 256 = ((z.toNat : Nat) : Int) := by rw [hz]; simp
      have HZ := Lib.hid hz
      clear hz
      go_wp2_with (at_builtin; (refine wpList_append_own _ rfl (.tmp 30) (.tmp 35) 61 rfl B 5 i0 (.int .u8 0) 1 1 Tryz.underlying61 hi hz0 hz1 hz2 rfl (by decide) _ D.length (D.map bcell) rfl (HO.out.alloc _) ⟨_, 0, none⟩ 1 1 [bcell z] rfl rfl (news_row _ #[bcell z] 5) (bcells_one [z]) (by have := HL.out; unfold maxLen; omega) (by have := HL.out; omega) (by have := HBB.out; simp; omega) ?_); intro v' w2 hown2 hgr2 _; obtain ⟨P1, P2⟩ := app_round_t HO.out HB.out HBB.out hown2 hgr2; have HP1 := Lib.hid P1; have HP2 := Lib.hid P2; have HP3 := Lib.hid (Nat.le_trans HB0.out P2.size); clear hown2 hgr2 P1 P2)
      go_roundw
      case rel =>
        refine ⟨2, D ++ [z], by omega, rfl, ?_, by have := HDL.out; simp; omega, HP1.out, HP2.out, HP3.out⟩
        rw [← HD.out, HZ.out, List.append_assoc]
        rfl
      case measure => simp [intOf]

theorem appendLength_any (B : Nat) (v : Value) (l : List UInt8) (n : Nat) (w : World) (hown : OwnB 5 w B v l) (hB : B ≤ w.heap.size) (hl : l.length ≤ 90) (hn : n ≤ 131072) :
    Calls Tryz.prog 95 #[v, .int .i64 (n : Nat)] w fun e w' => ∃ v', e = .returned v' ∧ OwnB 5 w' B v' (l ++ lenO n) ∧ Below B w w' := by
  by_cases h1 : n < 128
  · exact appendLength_one B v l n w hown hB (by omega) h1
  · by_cases h2 : n < 256
    · exact appendLength_more B v l n 1 w hown hB hl (lsz2 (by omega) h2) (by decide) (by decide) (by omega)
    · by_cases h3 : n < 65536
      · exact appendLength_more B v l n 2 w hown hB hl (lsz3 (by omega) h3) (by decide) (by decide) (by omega)
      · exact appendLength_more B v l n 3 w hown hB hl (lsz4 (by omega)) (by decide) (by decide) (by omega)
theorem lenO_length (n : Nat) : (lenO n).length = lsz n := by
  unfold lenO
  split
  · rename_i h; rw [h]; rfl
  · rename_i h
    have : 1 ≤ lsz n := by unfold lsz; repeat' split
                           all_goals omega
    rw [List.length_cons, octs_length]; omega
theorem lsz_le (n : Nat) : 1 ≤ lsz n ∧ lsz n ≤ 4 := by
  unfold lsz
  repeat' split
  all_goals omega
end Go.Proofs.YtfpfgdbfigdooaaGreatDoor
namespace Go.Proofs.YtfpfgdbfigdooaaGreatDoor
open Go.RowKit

def cat_t (ss : List ByteArray) : List UInt8 := ss.flatMap fun s => s.data.toList
theorem cat_nil : cat_t [] = [] := rfl
theorem cat_append_t (a b : List ByteArray) : cat_t (a ++ b) = cat_t a ++ cat_t b := by simp [cat_t]
theorem cat_take_succ (ss : List ByteArray) (k : Nat) (h : k < ss.length) : cat_t (ss.take (k + 1)) = cat_t (ss.take k) ++ (ss.getD k ByteArray.empty).data.toList := by
  rw [List.take_succ_eq_append_getElem h, cat_append_t]
  simp [cat_t, h]
theorem cat_take_le (ss : List ByteArray) (k : Nat) : (cat_t (ss.take k)).length ≤ (cat_t ss).length := by
  have : cat_t ss = cat_t (ss.take k) ++ cat_t (ss.drop k) := by rw [← cat_append_t, List.take_append_drop]
  rw [this, List.length_append]; omega
theorem cat_take_size (ss : List ByteArray) (k : Nat) (h : k < ss.length) : (cat_t (ss.take (k + 1))).length = (cat_t (ss.take k)).length + (ss.getD k ByteArray.empty).size := by
  rw [cat_take_succ ss k h, List.length_append]; rfl

/-- At the address lie the strings ss. -/
def Lies (w : World) (a : Option Addr) (ss : List ByteArray) : Prop := ss = [] ∨ ∃ b o, a = some ⟨b, o, none⟩ ∧ ∀ i, i < ss.length → w.cell? ⟨b, o + i, none⟩ = some (.string (ss.getD i ByteArray.empty))
/-- The slice value v reads as the strings ss. -/
def Reads (w : World) (v : Value) (ss : List ByteArray) : Prop := ∃ a cap, v = .slice a ss.length cap ∧ Lies w a ss
theorem Lies.old {w w' : World} {a : Option Addr} {ss : List ByteArray} (h : Lies w a ss) (hb : Below w.heap.size w w') : Lies w' a ss := by
  rcases h with h | ⟨b, o, rfl, h⟩
  · exact Or.inl h
  · exact Or.inr ⟨b, o, rfl, fun i hi => (hb.cell (p := ⟨b, o + i, none⟩) (block_lt_of_cell (h i hi))).trans (h i hi)⟩
theorem Reads.old {w w' : World} {v : Value} {ss : List ByteArray} (h : Reads w v ss) (hb : Below w.heap.size w w') : Reads w' v ss := by
  obtain ⟨a, cap, rfl, h⟩ := h
  exact ⟨a, cap, rfl, h.old hb⟩
theorem Lies.at {w : World} {a : Option Addr} {ss : List ByteArray} (h : Lies w a ss) (k : Nat) (hk : k < ss.length) : ∃ b o, a = some ⟨b, o, none⟩ ∧ w.cell? ⟨b, o + k, none⟩ = some (.string (ss.getD k ByteArray.empty)) := by
  rcases h with h | ⟨b, o, h1, h2⟩
  · rw [h] at hk; exact absurd hk (Nat.not_lt_zero _)
  · exact ⟨b, o, h1, h2 k hk⟩

set_option maxRecDepth 100000 in
set_option maxHeartbeats 1000000 in
theorem total_core (a0 : Option Addr) (cap : Nat) (ss : List ByteArray) (w : World) (hv : Lies w a0 ss) (hn : ss.length < 4611686018427387904) :
    Calls Tryz.prog 94 #[.slice a0 ss.length cap] w fun e w' => e = .returned (.tuple #[.int .i64 ((if (cat_t ss).length ≤ 131072 then (cat_t ss).length else 0 : Nat) : Int), .bool (decide ((cat_t ss).length ≤ 131072))]) ∧ w' = w := by
  obtain ⟨n, hln⟩ : ∃ n, n = ss.length := ⟨_, rfl⟩
  obtain ⟨R, hR⟩ : ∃ R, R = Value.tuple #[.int .i64 ((if (cat_t ss).length ≤ 131072 then (cat_t ss).length else 0 : Nat) : Int), .bool (decide ((cat_t ss).length ≤ 131072))] := ⟨_, rfl⟩
  rw [← hR]
  rw [← hln] at hn ⊢
  have HLN := Lib.hid hln
  have HV := Lib.hid hv
  have HR := Lib.hid hR
  clear hln hv hR
  go_enter Tryz.func94, Tryz.ntmps94
  go_wp2_with fail
  go_loopw [4, 9] (fun t i wr => ∃ k m : Nat, k ≤ n ∧ i = .int .i64 k ∧ t = .int .i64 m ∧ m = (cat_t (ss.take k)).length ∧ m ≤ 131072 ∧ wr = w) (fun _ i _ => n - (intOf i).toNat)
  case atStart => exact ⟨0, 0, Nat.zero_le _, rfl, rfl, rfl, Nat.zero_le _, rfl⟩
  case round =>
    obtain ⟨k, m, hk, rfl, rfl, hm, hm2, rfl⟩ := hrel
    have HM := Lib.hid hm
    clear hm
    by_cases hlt : k < n
    · have hd : decide ((k : Int) < (n : Int)) = true := by simp; omega
      obtain ⟨b, o, ha, hc⟩ := HV.out.at k (by rw [← HLN.out]; exact hlt)
      have hsz := cat_take_size ss k (by rw [← HLN.out]; exact hlt)
      have hle := cat_take_le ss (k + 1)
      generalize ss.getD k ByteArray.empty = x at hc hsz
      subst ha
      rw [hsz, ← HM.out] at hle
      have HSZ := Lib.hid hsz
      have HLE := Lib.hid hle
      clear hsz hle
      by_cases hbig : 131072 - m < x.size
      · have d1 : decide (131072 - (m : Int) < (x.size : Int)) = true := by simp; omega
        have HF := Lib.hid (show ¬ (cat_t ss).length ≤ 131072 by have := HLE.out; omega)
        clear hbig
        go_wp2_with fail
        go_ret2
        refine ⟨?_, rfl⟩
        rw [HR.out, if_neg HF.out, decide_eq_false HF.out]
        rfl
      · have d1 : decide (131072 - (m : Int) < (x.size : Int)) = false := by simp; omega
        have hxs : x.size ≤ 131072 := by omega
        have HB := Lib.hid hbig
        clear hbig
        go_wp2_with fail
        go_roundw
        case rel => exact ⟨k + 1, m + x.size, by omega, by go_num, by go_num, by rw [HSZ.out, ← HM.out], by have := HB.out; omega, trivial⟩
        case measure => simp [intOf]; omega
    · have ek : k = n := by omega
      subst ek
      have hd : decide ((k : Int) < (k : Int)) = false := by simp
      have et : ss.take k = ss := List.take_of_length_le (by rw [← HLN.out]; exact Nat.le_refl _)
      have HF := Lib.hid (show m = (cat_t ss).length by rw [HM.out, et])
      have HM2 := Lib.hid hm2
      clear et
      go_wp2_with fail
      go_ret2
      refine ⟨?_, rfl⟩
      have hh : (cat_t ss).length ≤ 131072 := by rw [← HF.out]; exact HM2.out
      rw [HR.out, if_pos hh, decide_eq_true hh, ← HF.out]
      rfl
end Go.Proofs.YtfpfgdbfigdooaaGreatDoor
