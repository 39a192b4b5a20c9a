/-
  The contracts of oid.Valid and of the reference's ValidOID.
  The contracts of checkAttribute and what it calls (the closure, slices.ContainsFunc): the first error of an attribute that stands behind others.
  The contracts of checkRelative and Check: the first error of a relative name, of a name.
  Nothing is left of this text.
  The contracts of strings.Split and strings.Cut at a point of one byte, off the shelf.
  Nothing is left of this text.
  Nothing is left of this text.
  The contract of parseAttribute: the attribute that a text denotes, if it denotes one.
  The contract of certpathmade's attribute: one of twelve attributes; of the memory that was there only the deck's block has changed.
  The contract of foldedSet: a map whose keys are the pairs of type and folded value of a relative name's attributes.
  Nothing is left of this text.
  Nothing is left of this text.
  Nothing is left of this text.
  Nothing is left of this text.
  The contract of parseName: the name that a text denotes, if it denotes one.
  Nothing is left of this text.
  What stands at the beginning of a string of elements, as numbers: the error, the length of the header, the length of the contents; and the errors within an element. Nothing is claimed of the program here.
  The contracts of the functions of tlv that read a length: what the octets say, and that nothing has changed.
  The contract of tlv.appendLength: the octets of a length, appended to a slice of bytes that the call's caller has made.
  The contract of tlv.totalLength: how long the strings of a slice are together, if not longer than an element may be.
-/
import Derived.Test.YtpmlkofceidnjaaDoorAae
import Derived.Deep.CutRange
import Derived.Test.YtpmlkofceidnjaaDoorAaa
import Derived.Test.YtpmlkofceidnjaaDoorAad
import Derived.Lib.SplitLaws
import Derived.Lib.CutLaws
import Derived.Maps.OwnSet
import Derived.Maps.RangeWalk
import Derived.Maps.Ext
import Derived.Lib.SlMapEqual
import Derived.DeepKeys4
import Derived.ProofKit
import Derived.Laws.IdiomRangeMap
import Derived.Lib.QuietBelow
import Derived.BigQuiet
namespace Go.Proofs.YtpmlkofceidnjaaDoor
open Go.RowKit

/-- What a call that found the numbers a answers. -/
def Found (a : List Nat) (B : Nat) (w' : World) (e : Ending) : Prop := ∃ g cap, e = .returned (.tuple #[.slice (some ⟨g, 0, none⟩) a.length cap, .bool true]) ∧ ILie w' g a ∧ B ≤ g ∧ a.length ≤ cap
theorem found_of {l : List UInt8} {a : List Nat} (h : Oid l a) {B : Nat} {w' : World} {e : Ending} (k : Arcsd l B w' e) : Found a B w' e := by
  rcases k with ⟨b, g, cap, h1, h2, h3, h4, h5⟩ | ⟨h1, _⟩
  · obtain rfl := oid_one h h1
    exact ⟨g, cap, h2, h3, h4, h5⟩
  · exact absurd h (h1 a)
theorem lost_of {l : List UInt8} (h : ∀ a, ¬ Oid l a) {B : Nat} {w' : World} {e : Ending} (k : Arcsd l B w' e) : e = .returned (.tuple #[.slice none 0 0, .bool false]) := by
  rcases k with ⟨b, g, cap, h1, _⟩ | ⟨_, h2⟩
  · exact absurd h1 (h b)
  · exact h2
theorem arcs_yes {s : ByteArray} {a : List Nat} (h : Oid s.data.toList a) (w : World) (hs : s.size ≤ 1099511627) :
    Calls Tryd.prog 46 #[.string s] w fun e w' => Found a w.heap.size w' e ∧ Below w.heap.size w w' :=
  (arcsOf_any s w hs).mono fun _ _ ⟨h1, h2⟩ => ⟨found_of h h1, h2⟩
theorem arcs_no {s : ByteArray} (h : ∀ a, ¬ Oid s.data.toList a) (w : World) (hs : s.size ≤ 1099511627) :
    Calls Tryd.prog 46 #[.string s] w fun e w' => e = .returned (.tuple #[.slice none 0 0, .bool false]) ∧ Below w.heap.size w w' :=
  (arcsOf_any s w hs).mono fun _ _ ⟨h1, h2⟩ => ⟨lost_of h h1, h2⟩
/-- Whether a text is an object identifier. -/
theorem oid_or (l : List UInt8) : (∃ a, Oid l a) ∨ ∀ a, ¬ Oid l a := (Classical.em _).imp id fun h a k => h ⟨a, k⟩
end Go.Proofs.YtpmlkofceidnjaaDoor
namespace Go.Proofs.YtpmlkofceidnjaaDoor
open Go.RowKit

def SmallA (a : At) : Prop := a.1.size ≤ 1000000 ∧ a.2.2.size ≤ 1000000
def SmallR (r : List At) : Prop := r.length ≤ 1000000 ∧ ∀ i, i < r.length → SmallA (r.getD i noAt)
def SmallN (n : Nm) : Prop := n.length ≤ 1000000 ∧ ∀ i, i < n.length → SmallR (n.getD i [])
end Go.Proofs.YtpmlkofceidnjaaDoor
namespace Go.Proofs.YtpmlkofceidnjaaDoor
open Go.RowKit

theorem errno_ne {e : Nat} (h : e ≠ 0) : ((e : Int) != 0) = true := by simp; omega
end Go.Proofs.YtpmlkofceidnjaaDoor

namespace Go.Proofs.YtpmlkofceidnjaaDoor
open Go.RowKit

/-- The pieces of a text between the bytes c. -/
def pcsS (c : UInt8) (s : ByteArray) : List ByteArray := Lib.splitB ⟨#[c]⟩ 0 (Lib.countB s ⟨#[c]⟩) s
theorem pcsS_spl (c : UInt8) (s : ByteArray) : Spl c s.data.toList ((pcsS c s).map (·.data.toList)) := split_pieces c s
end Go.Proofs.YtpmlkofceidnjaaDoor


namespace Go.Proofs.YtpmlkofceidnjaaDoor
open Go.RowKit

theorem at_facts {w : World} {g : Nat} {x y z : Value} {t : TypeId} (h : w.heap[g]? = some (.cells #[x, y, z] t (0, 0))) :
    w.cell? ⟨g, 0, none⟩ = some x ∧ w.cell? ⟨g, 1, none⟩ = some y ∧ w.cell? ⟨g, 2, none⟩ = some z ∧ w.frozen? ⟨g, 0, none⟩ = false ∧ w.frozen? ⟨g, 1, none⟩ = false ∧ w.frozen? ⟨g, 2, none⟩ = false ∧ g < w.heap.size := by
  refine ⟨?_, ?_, ?_, Lib.frozen_of_heap h 0, Lib.frozen_of_heap h 1, Lib.frozen_of_heap h 2, (Array.getElem?_eq_some_iff.1 h).1⟩
  · rw [Lib.cell_of_heap h]; rfl
  · rw [Lib.cell_of_heap h]; rfl
  · rw [Lib.cell_of_heap h]; rfl
end Go.Proofs.YtpmlkofceidnjaaDoor
namespace Go.Proofs.YtpmlkofceidnjaaDoor
open Go.RowKit

theorem But.fresh {p g : Nat} {a b c : World} (h : But p a b) (k : But g b c) (hg : a.heap.size ≤ g) : But p a c := World.grownBy.andThen h k (fun j e => .inl (by obtain rfl := Option.some.inj e; exact hg))
theorem cell_same {w w' : World} {b : Nat} (h : w'.heap[b]? = w.heap[b]?) (o : Nat) : w'.cell? ⟨b, o, none⟩ = w.cell? ⟨b, o, none⟩ := by
  simp only [World.cell?, h]
end Go.Proofs.YtpmlkofceidnjaaDoor
namespace Go.Proofs.YtpmlkofceidnjaaDoor
open Go.RowKit Go.Maps

theorem laidOut : laidOutB Tryd.prog = true := by kernel_rfl
end Go.Proofs.YtpmlkofceidnjaaDoor




namespace Go.Proofs.YtpmlkofceidnjaaDoor
open Go.RowKit

theorem one_facts {w : World} {g : Nat} {x : Value} {t : TypeId} (h : w.heap[g]? = some (.cells #[x] t (0, 0))) : w.cell? ⟨g, 0, none⟩ = some x ∧ w.frozen? ⟨g, 0, none⟩ = false ∧ g < w.heap.size := by
  refine ⟨?_, Lib.frozen_of_heap h 0, (Array.getElem?_eq_some_iff.1 h).1⟩
  rw [Lib.cell_of_heap h]; rfl
end Go.Proofs.YtpmlkofceidnjaaDoor

namespace Go.Proofs.YtpmlkofceidnjaaDoor
open Go.RowKit

/-- The number that k bytes from place o on are, the most significant one first. -/
def be (b : ByteArray) (o : Nat) : Nat → Nat
  | 0 => 0
  | k + 1 => 256 * be b o k + u8at b (o + k)
theorem be_lt (b : ByteArray) (o k : Nat) : be b o k < 256 ^ k := by
  induction k with
  | zero => simp [be]
  | succ k ih => have := u8at_lt b (o + k); simp only [be, Nat.pow_succ]; omega
def least (k : Nat) : Nat := if k = 1 then 128 else if k = 2 then 256 else if k = 3 then 65536 else 0

/-- What readLength answers for the octets from place o on: the length, how many octets it has, the error. -/
def lnAt (b : ByteArray) (o : Nat) : Nat × Nat × Nat :=
  if b.size ≤ o then (0, 0, 3)
  else if u8at b o < 128 then (u8at b o, 1, 0)
  else if u8at b o = 128 ∨ 131 < u8at b o then (0, 0, 6)
  else if b.size < o + 1 + (u8at b o - 128) then (0, 0, 3)
  else if be b (o + 1) (u8at b o - 128) < least (u8at b o - 128) ∨ 131072 < be b (o + 1) (u8at b o - 128) then (0, 0, 6)
  else (be b (o + 1) (u8at b o - 128), 1 + (u8at b o - 128), 0)

/-- The element at the beginning: the error, the place of the contents, their length. -/
def rd (b : ByteArray) : Nat × Nat × Nat :=
  if b.size = 0 then (3, 0, 0)
  else if u8at b 0 % 32 = 31 then (5, 0, 0)
  else if (lnAt b 1).2.2 ≠ 0 then ((lnAt b 1).2.2, 0, 0)
  else if b.size < 1 + (lnAt b 1).2.1 + (lnAt b 1).1 then (3, 0, 0)
  else (0, 1 + (lnAt b 1).2.1, (lnAt b 1).1)

def rdErr (b : ByteArray) : Nat := (rd b).1
def rdTag (b : ByteArray) : Nat := u8at b 0
def rdContent (b : ByteArray) : ByteArray := b.extract (rd b).2.1 ((rd b).2.1 + (rd b).2.2)
def rdRaw (b : ByteArray) : ByteArray := b.extract 0 ((rd b).2.1 + (rd b).2.2)
def rdRest (b : ByteArray) : ByteArray := b.extract ((rd b).2.1 + (rd b).2.2) b.size

/-- An element as a value. -/
def elV (tag : Nat) (c r : ByteArray) : Value := .agg #[.int .i64 (tag : Int), .string c, .string r]
def noEl : Value := .agg #[.int .i64 0, .string ⟨#[]⟩, .string ⟨#[]⟩]
def rdVal (b : ByteArray) : Value :=
  if rdErr b = 0 then .tuple #[elV (rdTag b) (rdContent b) (rdRaw b), .string (rdRest b), .int .i64 0]
  else .tuple #[noEl, .string ⟨#[]⟩, .int .i64 ((rdErr b : Nat) : Int)]

/-- Where an element is read, it is longer than its header and its contents reach no further than the end. -/
theorem rd_ok {b : ByteArray} (h : rdErr b = 0) : 2 ≤ (rd b).2.1 ∧ (rd b).2.1 ≤ 5 ∧ (rd b).2.1 + (rd b).2.2 ≤ b.size ∧ u8at b 0 % 32 ≠ 31 ∧ b.size ≠ 0 := by
  unfold rdErr rd at h
  unfold rd
  by_cases h0 : b.size = 0
  · simp [h0] at h
  · by_cases h1 : u8at b 0 % 32 = 31
    · simp [h0, h1] at h
    · by_cases h2 : (lnAt b 1).2.2 ≠ 0
      · rw [if_neg h0, if_neg h1, if_pos h2] at h
        exact absurd h h2
      · by_cases h3 : b.size < 1 + (lnAt b 1).2.1 + (lnAt b 1).1
        · rw [if_neg h0, if_neg h1, if_neg h2, if_pos h3] at h
          cases h
        · rw [if_neg h0, if_neg h1, if_neg h2, if_neg h3]
          have hs : 1 ≤ (lnAt b 1).2.1 ∧ (lnAt b 1).2.1 ≤ 4 := by
            have h2' : (lnAt b 1).2.2 = 0 := by omega
            revert h2'
            unfold lnAt
            split
            · intro h; cases h
            · split
              · intro _; simp
              · split
                · intro h; cases h
                · split
                  · intro h; cases h
                  · split
                    · intro h; cases h
                    · intro _; simp; omega
          refine ⟨by simp; omega, by simp; omega, by simp; omega, h1, h0⟩
theorem rdRest_size {b : ByteArray} (h : rdErr b = 0) : (rdRest b).size < b.size := by
  obtain ⟨h1, _, h2, _, _⟩ := rd_ok h
  unfold rdRest
  rw [ByteArray.size_extract]
  omega
theorem rdContent_size {b : ByteArray} (h : rdErr b = 0) : (rdContent b).size < b.size := by
  obtain ⟨h1, _, h2, _, _⟩ := rd_ok h
  unfold rdContent
  rw [ByteArray.size_extract]
  omega
end Go.Proofs.YtpmlkofceidnjaaDoor
namespace Go.Proofs.YtpmlkofceidnjaaDoor
open Go.RowKit

set_option maxRecDepth 100000 in
theorem and31 : ∀ n : Nat, n < 256 → bits BinOp.and .i64 (n : Int) 31 = ((n % 32 : Nat) : Int) := by decide

theorem hasShortTag_any (n : Nat) (hn : n < 256) (w : World) :
    Calls Tryd.prog 39 #[.int .i64 (n : Int)] w fun e w' => e = .returned (.bool (decide (n % 32 ≠ 31))) ∧ w' = w := by
  have h := and31 n hn
  go_enter Tryd.func39, Tryd.ntmps39
  go_wp2_with fail
  go_ret
  refine ⟨?_, rfl⟩
  congr 2
  by_cases h1 : n % 32 = 31
  · simp [h1]; omega
  · have h2 : ¬ (n : Int) % 32 = 31 := by omega
    simp [h1, h2]

/-- How many octets a length takes. -/
def lsz (n : Nat) : Nat := if n < 128 then 1 else if n < 256 then 2 else if n < 65536 then 3 else 4
theorem lsz1 {n : Nat} (h : n < 128) : lsz n = 1 := by simp [lsz, h]
theorem lsz2 {n : Nat} (h : 128 ≤ n) (h' : n < 256) : lsz n = 2 := by simp [lsz, h', show ¬ n < 128 by omega]
theorem lsz3 {n : Nat} (h : 256 ≤ n) (h' : n < 65536) : lsz n = 3 := by simp [lsz, h', show ¬ n < 128 by omega, show ¬ n < 256 by omega]
theorem lsz4 {n : Nat} (h : 65536 ≤ n) : lsz n = 4 := by simp [lsz, show ¬ n < 128 by omega, show ¬ n < 256 by omega, show ¬ n < 65536 by omega]

theorem lengthSize_any (n : Nat) (w : World) :
    Calls Tryd.prog 51 #[.int .i64 (n : Int)] w fun e w' => e = .returned (.int .i64 (lsz n : Nat)) ∧ w' = w := by
  by_cases h1 : n < 128
  · have d1 : decide ((n : Int) < 128) = true := by simp; omega
    rw [lsz1 h1]
    clear h1
    go_enter Tryd.func51, Tryd.ntmps51
    go_wp2_with fail
    go_ret
    exact ⟨rfl, rfl⟩
  · have d1 : decide ((n : Int) < 128) = false := by simp; omega
    by_cases h2 : n < 256
    · have d2 : decide ((n : Int) < 256) = true := by simp; omega
      rw [lsz2 (by omega) h2]
      clear h1 h2
      go_enter Tryd.func51, Tryd.ntmps51
      go_wp2_with fail
      go_ret
      exact ⟨rfl, rfl⟩
    · have d2 : decide ((n : Int) < 256) = false := by simp; omega
      by_cases h3 : n < 65536
      · have d3 : decide ((n : Int) < 65536) = true := by simp; omega
        rw [lsz3 (by omega) h3]
        clear h1 h2 h3
        go_enter Tryd.func51, Tryd.ntmps51
        go_wp2_with fail
        go_ret
        exact ⟨rfl, rfl⟩
      · have d3 : decide ((n : Int) < 65536) = false := by simp; omega
        rw [lsz4 (by omega)]
        clear h1 h2 h3
        go_enter Tryd.func51, Tryd.ntmps51
        go_wp2_with fail
        go_ret
        exact ⟨rfl, rfl⟩
end Go.Proofs.YtpmlkofceidnjaaDoor
namespace Go.Proofs.YtpmlkofceidnjaaDoor
open Go.RowKit

/-- The k least significant octets of a number, the most significant one first. -/
def octs (n : Nat) : Nat → List UInt8
  | 0 => []
  | k + 1 => UInt8.ofNat (n / 256 ^ k) :: octs n k
theorem octs_length (n k : Nat) : (octs n k).length = k := by
  induction k with
  | zero => rfl
  | succ k ih => simp [octs, ih]
/-- The octets of a length. -/
def lenO (n : Nat) : List UInt8 := if lsz n = 1 then [UInt8.ofNat n] else UInt8.ofNat (127 + lsz n) :: octs n (lsz n - 1)

theorem app_round_t {B : Nat} {w0 w w2 : World} {v v' : Value} {D : List UInt8} {y : UInt8} {X : Obj} (hown : OwnB 5 w B v D) (hb : Below B w0 w) (hB : B ≤ w.heap.size)
    (hown2 : w2.ownsRow B 5 1 v' (D.length + 1) (D.map bcell ++ [bcell y])) (hgr2 : (w.alloc X).grownBy w2 v.ownBlock) : OwnB 5 w2 B v' (D ++ [y]) ∧ Below B w0 w2 := by
  refine ⟨?_, ?_⟩
  · unfold OwnB
    rw [List.length_append, List.map_append]; exact hown2
  · exact (hb.alloc hB X).grown hgr2 (by simp; omega) (fun k e => (World.ownsRow.lt hown k e).1)

set_option maxRecDepth 100000 in
set_option maxHeartbeats 1000000 in
theorem appendLength_one (B : Nat) (v : Value) (l : List UInt8) (n : Nat) (w : World) (hown : OwnB 5 w B v l) (hB : B ≤ w.heap.size) (hl : l.length ≤ 100) (hn : n < 128) :
    Calls Tryd.prog 41 #[v, .int .i64 (n : Nat)] w fun e w' => ∃ v', e = .returned v' ∧ OwnB 5 w' B v' (l ++ lenO n) ∧ Below B w w' := by
  obtain ⟨i0, hi, hz0, hz1, hz2⟩ := info_parts byteInfo
  have e1 := lsz1 hn
  have HO := Lib.hid hown
  have HL := Lib.hid hl
  have HB := Lib.hid (Below.refl B w)
  have HBB := Lib.hid hB
  have HE := Lib.hid (show lenO n = [UInt8.ofNat n] from if_pos e1)
  obtain ⟨y, rfl⟩ : ∃ y : UInt8, n = y.toNat := ⟨UInt8.ofNat n, by simp; omega⟩
  have HE1 := Lib.hid e1
  clear hown hl e1 hB
  go_enter Tryd.func41, Tryd.ntmps41
  go_wp2_with (first | (go_at_call 51; (with_reducible refine (lengthSize_any y.toNat _).mono ?_); rw [HE1.out]; rintro e w1 ⟨rfl, rfl⟩) | (at_builtin; (refine wpList_append_own _ rfl (.tmp 12) (.tmp 15) 59 rfl B 5 i0 (.int .u8 0) 1 1 Tryd.underlying59 hi hz0 hz1 hz2 rfl (by decide) _ l.length (l.map bcell) rfl (HO.out.alloc _) ⟨_, 0, none⟩ 1 1 [bcell y] rfl rfl (news_row _ #[bcell y] 5) (bcells_one [y]) (by have := HL.out; unfold maxLen; omega) (by have := HL.out; omega) (by have := HBB.out; simp; omega) ?_); intro v' w2 hown2 hgr2 _; obtain ⟨P1, P2⟩ := app_round_t HO.out HB.out HBB.out hown2 hgr2; have HP1 := Lib.hid P1; have HP2 := Lib.hid P2; clear hown2 hgr2 P1 P2))
  go_ret
  refine ⟨_, rfl, ?_, HP2.out⟩
  rw [HE.out, UInt8.ofNat_toNat]
  exact HP1.out

set_option maxRecDepth 100000 in
set_option maxHeartbeats 1000000 in
theorem appendLength_more (B : Nat) (v : Value) (l : List UInt8) (n f : Nat) (w : World) (hown : OwnB 5 w B v l) (hB : B ≤ w.heap.size) (hl : l.length ≤ 90) (hf : lsz n = 1 + f) (h1 : 0 < f) (h3 : f ≤ 3) (hn : n < 256 ^ f) :
    Calls Tryd.prog 41 #[v, .int .i64 (n : Nat)] w fun e w' => ∃ v', e = .returned v' ∧ OwnB 5 w' B v' (l ++ lenO n) ∧ Below B w w' := by
  obtain ⟨i0, hi, hz0, hz1, hz2⟩ := info_parts byteInfo
  have HS1 := Lib.hid hB
  have HO := Lib.hid hown
  have HL := Lib.hid (show l.length ≤ 100 by omega)
  have HL9 := Lib.hid hl
  have HB := Lib.hid (Below.refl B w)
  have HBB := Lib.hid hB
  have HF := Lib.hid hf
  have hE : lenO n = UInt8.ofNat (128 + f) :: octs n f := by unfold lenO; rw [if_neg (by omega), hf]; congr 2 <;> omega
  have HE := Lib.hid hE
  have HN := Lib.hid hn
  have dE : (1 + (f : Int) - 1) = (f : Int) := by omega
  have d0 : ((f : Int) == 0) = false := beq_eq_false_iff_ne.2 (by omega)
  obtain ⟨y, hy⟩ : ∃ y : UInt8, 128 + f = y.toNat := ⟨UInt8.ofNat (128 + f), by simp; omega⟩
  have HY := Lib.hid hy
  have hyI : 128 + (f : Int) = ((y.toNat : Nat) : Int) := by omega
  clear hown hl hB hf hE hn hy
  go_enter Tryd.func41, Tryd.ntmps41
  go_wp2_with (first | (go_at_call 51; (with_reducible refine (lengthSize_any n _).mono ?_); rw [HF.out]; rintro e w1 ⟨rfl, rfl⟩) | (at_builtin; (refine wpList_append_own _ rfl (.tmp 17) (.tmp 21) 59 rfl B 5 i0 (.int .u8 0) 1 1 Tryd.underlying59 hi hz0 hz1 hz2 rfl (by decide) _ l.length (l.map bcell) rfl (HO.out.alloc _) ⟨_, 0, none⟩ 1 1 [bcell y] rfl rfl (news_row _ #[bcell y] 5) (bcells_one [y]) (by have := HL.out; unfold maxLen; omega) (by have := HL.out; omega) (by have := HBB.out; simp; omega) ?_); intro v' w2 hown2 hgr2 _; obtain ⟨P1, P2⟩ := app_round_t HO.out HB.out HBB.out hown2 hgr2; have HP1 := Lib.hid P1; have HP2 := Lib.hid P2; clear hown2 hgr2 P1 P2))
  have HS0 := Lib.hid (Nat.le_trans HBB.out HP2.out.size)
  clear hyI dE d0
  go_loopw [0, 6] (fun u s wr => ∃ (j : Nat) (D : List UInt8), j ≤ f ∧ s = .int .i64 (8 * ((j : Int) - 1)) ∧ D ++ octs n j = l ++ lenO n ∧ D.length + j ≤ 100 ∧ OwnB 5 wr B u D ∧ Below B w1 wr ∧ B ≤ wr.heap.size) (fun _ s _ => (intOf s + 8).toNat)
  case atStart => exact ⟨f, l ++ [y], Nat.le_refl _, rfl, by rw [HE.out, HY.out, UInt8.ofNat_toNat, List.append_assoc]; rfl, by have := HL9.out; simp; omega, HP1.out, HP2.out, HS0.out⟩
  case round =>
    clear HO HB HBB HP1 HP2 HS0
    obtain ⟨j, D, hj, rfl, hD, hDl, hown, hb, hB⟩ := hrel
    have HO := Lib.hid hown
    have HB := Lib.hid hb
    have HBB := Lib.hid hB
    have HD := Lib.hid hD
    have HDL := Lib.hid hDl
    clear hown hb hB hD hDl HL
    have HB0 := Lib.hid HS1.out
    rcases (by omega : j = 0 ∨ j = 1 ∨ j = 2 ∨ j = 3) with rfl | rfl | rfl | rfl
    · go_wp2_with fail
      go_ret
      refine ⟨_, rfl, ?_, HB.out⟩
      rw [← HD.out]
      simpa [octs] using HO.out
    · have HL := Lib.hid (show D.length + 1 ≤ 101 by have := HDL.out; omega)
      obtain ⟨z, hz⟩ : ∃ z : UInt8, z = UInt8.ofNat (n / 256 ^ 0) := ⟨_, rfl⟩
      have hc : (n : Int) % 256 = ((z.toNat : Nat) : Int) := by rw [hz]; simp
      have HZ := Lib.hid hz
      clear hz
      go_wp2_with (at_builtin; (refine wpList_append_own _ rfl (.tmp 30) (.tmp 35) 59 rfl B 5 i0 (.int .u8 0) 1 1 Tryd.underlying59 hi hz0 hz1 hz2 rfl (by decide) _ D.length (D.map bcell) rfl (HO.out.alloc _) ⟨_, 0, none⟩ 1 1 [bcell z] rfl rfl (news_row _ #[bcell z] 5) (bcells_one [z]) (by have := HL.out; unfold maxLen; omega) (by have := HL.out; omega) (by have := HBB.out; simp; omega) ?_); intro v' w2 hown2 hgr2 _; obtain ⟨P1, P2⟩ := app_round_t HO.out HB.out HBB.out hown2 hgr2; have HP1 := Lib.hid P1; have HP2 := Lib.hid P2; have HP3 := Lib.hid (Nat.le_trans HB0.out P2.size); clear hown2 hgr2 P1 P2)
      go_roundw
      case rel =>
        refine ⟨0, D ++ [z], by omega, rfl, ?_, by have := HDL.out; simp; omega, HP1.out, HP2.out, HP3.out⟩
        rw [← HD.out, HZ.out, List.append_assoc]
        rfl
      case measure => simp [intOf]
    · have HL := Lib.hid (show D.length + 1 ≤ 101 by have := HDL.out; omega)
      obtain ⟨z, hz⟩ : ∃ z : UInt8, z = UInt8.ofNat (n / 256 ^ 1) := ⟨_, rfl⟩
      have hc : (n : Int) / 256 % 256 = ((z.toNat : Nat) : Int) := by rw [hz]; simp
      have HZ := Lib.hid hz
      clear hz
      go_wp2_with (at_builtin; (refine wpList_append_own _ rfl (.tmp 30) (.tmp 35) 59 rfl B 5 i0 (.int .u8 0) 1 1 Tryd.underlying59 hi hz0 hz1 hz2 rfl (by decide) _ D.length (D.map bcell) rfl (HO.out.alloc _) ⟨_, 0, none⟩ 1 1 [bcell z] rfl rfl (news_row _ #[bcell z] 5) (bcells_one [z]) (by have := HL.out; unfold maxLen; omega) (by have := HL.out; omega) (by have := HBB.out; simp; omega) ?_); intro v' w2 hown2 hgr2 _; obtain ⟨P1, P2⟩ := app_round_t HO.out HB.out HBB.out hown2 hgr2; have HP1 := Lib.hid P1; have HP2 := Lib.hid P2; have HP3 := Lib.hid (Nat.le_trans HB0.out P2.size); clear hown2 hgr2 P1 P2)
      go_roundw
      case rel =>
        refine ⟨1, D ++ [z], by omega, rfl, ?_, by have := HDL.out; simp; omega, HP1.out, HP2.out, HP3.out⟩
        rw [← HD.out, HZ.out, List.append_assoc]
        rfl
      case measure => simp [intOf]
    · have HL := Lib.hid (show D.length + 1 ≤ 101 by have := HDL.out; omega)
      obtain ⟨z, hz⟩ : ∃ z : UInt8, z = UInt8.ofNat (n / 256 ^ 2) := ⟨_, rfl⟩
      have hc : (n : Int) / 65536 % 256 = ((z.toNat : Nat) : Int) := by rw [hz]; simp
      have HZ := Lib.hid hz
      clear hz
      go_wp2_with (at_builtin; (refine wpList_append_own _ rfl (.tmp 30) (.tmp 35) 59 rfl B 5 i0 (.int .u8 0) 1 1 Tryd.underlying59 hi hz0 hz1 hz2 rfl (by decide) _ D.length (D.map bcell) rfl (HO.out.alloc _) ⟨_, 0, none⟩ 1 1 [bcell z] rfl rfl (news_row _ #[bcell z] 5) (bcells_one [z]) (by have := HL.out; unfold maxLen; omega) (by have := HL.out; omega) (by have := HBB.out; simp; omega) ?_); intro v' w2 hown2 hgr2 _; obtain ⟨P1, P2⟩ := app_round_t HO.out HB.out HBB.out hown2 hgr2; have HP1 := Lib.hid P1; have HP2 := Lib.hid P2; have HP3 := Lib.hid (Nat.le_trans HB0.out P2.size); clear hown2 hgr2 P1 P2)
      go_roundw
      case rel =>
        refine ⟨2, D ++ [z], by omega, rfl, ?_, by have := HDL.out; simp; omega, HP1.out, HP2.out, HP3.out⟩
        rw [← HD.out, HZ.out, List.append_assoc]
        rfl
      case measure => simp [intOf]

theorem appendLength_any (B : Nat) (v : Value) (l : List UInt8) (n : Nat) (w : World) (hown : OwnB 5 w B v l) (hB : B ≤ w.heap.size) (hl : l.length ≤ 90) (hn : n ≤ 131072) :
    Calls Tryd.prog 41 #[v, .int .i64 (n : Nat)] w fun e w' => ∃ v', e = .returned v' ∧ OwnB 5 w' B v' (l ++ lenO n) ∧ Below B w w' := by
  by_cases h1 : n < 128
  · exact appendLength_one B v l n w hown hB (by omega) h1
  · by_cases h2 : n < 256
    · exact appendLength_more B v l n 1 w hown hB hl (lsz2 (by omega) h2) (by decide) (by decide) (by omega)
    · by_cases h3 : n < 65536
      · exact appendLength_more B v l n 2 w hown hB hl (lsz3 (by omega) h3) (by decide) (by decide) (by omega)
      · exact appendLength_more B v l n 3 w hown hB hl (lsz4 (by omega)) (by decide) (by decide) (by omega)
theorem lenO_length (n : Nat) : (lenO n).length = lsz n := by
  unfold lenO
  split
  · rename_i h; rw [h]; rfl
  · rename_i h
    have : 1 ≤ lsz n := by
      unfold lsz
      repeat' split
      all_goals omega
    rw [List.length_cons, octs_length]; omega
theorem lsz_le (n : Nat) : 1 ≤ lsz n ∧ lsz n ≤ 4 := by
  unfold lsz
  repeat' split
  all_goals omega
end Go.Proofs.YtpmlkofceidnjaaDoor
namespace Go.Proofs.YtpmlkofceidnjaaDoor
open Go.RowKit

def cat_t (ss : List ByteArray) : List UInt8 := ss.flatMap fun s => s.data.toList
theorem cat_append_t (a b : List ByteArray) : cat_t (a ++ b) = cat_t a ++ cat_t b := by simp [cat_t]
theorem cat_take_succ (ss : List ByteArray) (k : Nat) (h : k < ss.length) : cat_t (ss.take (k + 1)) = cat_t (ss.take k) ++ (ss.getD k ByteArray.empty).data.toList := by
  rw [List.take_succ_eq_append_getElem h, cat_append_t]
  simp [cat_t, h]
theorem cat_take_le (ss : List ByteArray) (k : Nat) : (cat_t (ss.take k)).length ≤ (cat_t ss).length := by
  have : cat_t ss = cat_t (ss.take k) ++ cat_t (ss.drop k) := by rw [← cat_append_t, List.take_append_drop]
  rw [this, List.length_append]; omega
theorem cat_take_size (ss : List ByteArray) (k : Nat) (h : k < ss.length) : (cat_t (ss.take (k + 1))).length = (cat_t (ss.take k)).length + (ss.getD k ByteArray.empty).size := by
  rw [cat_take_succ ss k h, List.length_append]; rfl

/-- At the address lie the strings ss. -/
def Lies (w : World) (a : Option Addr) (ss : List ByteArray) : Prop := ss = [] ∨ ∃ b o, a = some ⟨b, o, none⟩ ∧ ∀ i, i < ss.length → w.cell? ⟨b, o + i, none⟩ = some (.string (ss.getD i ByteArray.empty))
/-- The slice value v reads as the strings ss. -/
def Reads (w : World) (v : Value) (ss : List ByteArray) : Prop := ∃ a cap, v = .slice a ss.length cap ∧ Lies w a ss
theorem Lies.old {w w' : World} {a : Option Addr} {ss : List ByteArray} (h : Lies w a ss) (hb : Below w.heap.size w w') : Lies w' a ss := by
  rcases h with h | ⟨b, o, rfl, h⟩
  · exact Or.inl h
  · exact Or.inr ⟨b, o, rfl, fun i hi => (hb.cell (p := ⟨b, o + i, none⟩) (block_lt_of_cell (h i hi))).trans (h i hi)⟩
theorem Reads.old {w w' : World} {v : Value} {ss : List ByteArray} (h : Reads w v ss) (hb : Below w.heap.size w w') : Reads w' v ss := by
  obtain ⟨a, cap, rfl, h⟩ := h
  exact ⟨a, cap, rfl, h.old hb⟩
theorem Lies.at {w : World} {a : Option Addr} {ss : List ByteArray} (h : Lies w a ss) (k : Nat) (hk : k < ss.length) : ∃ b o, a = some ⟨b, o, none⟩ ∧ w.cell? ⟨b, o + k, none⟩ = some (.string (ss.getD k ByteArray.empty)) := by
  rcases h with h | ⟨b, o, h1, h2⟩
  · rw [h] at hk; exact absurd hk (Nat.not_lt_zero _)
  · exact ⟨b, o, h1, h2 k hk⟩

set_option maxRecDepth 100000 in
set_option maxHeartbeats 1000000 in
theorem total_core (a0 : Option Addr) (cap : Nat) (ss : List ByteArray) (w : World) (hv : Lies w a0 ss) (hn : ss.length < 4611686018427387904) :
    Calls Tryd.prog 40 #[.slice a0 ss.length cap] w fun e w' => e = .returned (.tuple #[.int .i64 ((if (cat_t ss).length ≤ 131072 then (cat_t ss).length else 0 : Nat) : Int), .bool (decide ((cat_t ss).length ≤ 131072))]) ∧ w' = w := by
  obtain ⟨n, hln⟩ : ∃ n, n = ss.length := ⟨_, rfl⟩
  obtain ⟨R, hR⟩ : ∃ R, R = Value.tuple #[.int .i64 ((if (cat_t ss).length ≤ 131072 then (cat_t ss).length else 0 : Nat) : Int), .bool (decide ((cat_t ss).length ≤ 131072))] := ⟨_, rfl⟩
  rw [← hR]
  rw [← hln] at hn ⊢
  have HLN := Lib.hid hln
  have HV := Lib.hid hv
  have HR := Lib.hid hR
  clear hln hv hR
  go_enter Tryd.func40, Tryd.ntmps40
  go_wp2_with fail
  go_loopw [4, 9] (fun t i wr => ∃ k m : Nat, k ≤ n ∧ i = .int .i64 k ∧ t = .int .i64 m ∧ m = (cat_t (ss.take k)).length ∧ m ≤ 131072 ∧ wr = w) (fun _ i _ => n - (intOf i).toNat)
  case atStart => exact ⟨0, 0, Nat.zero_le _, rfl, rfl, rfl, Nat.zero_le _, rfl⟩
  case round =>
    obtain ⟨k, m, hk, rfl, rfl, hm, hm2, rfl⟩ := hrel
    have HM := Lib.hid hm
    clear hm
    by_cases hlt : k < n
    · have hd : decide ((k : Int) < (n : Int)) = true := by simp; omega
      obtain ⟨b, o, ha, hc⟩ := HV.out.at k (by rw [← HLN.out]; exact hlt)
      have hsz := cat_take_size ss k (by rw [← HLN.out]; exact hlt)
      have hle := cat_take_le ss (k + 1)
      generalize ss.getD k ByteArray.empty = x at hc hsz
      subst ha
      rw [hsz, ← HM.out] at hle
      have HSZ := Lib.hid hsz
      have HLE := Lib.hid hle
      clear hsz hle
      by_cases hbig : 131072 - m < x.size
      · have d1 : decide (131072 - (m : Int) < (x.size : Int)) = true := by simp; omega
        have HF := Lib.hid (show ¬ (cat_t ss).length ≤ 131072 by have := HLE.out; omega)
        clear hbig
        go_wp2_with fail
        go_ret2
        refine ⟨?_, rfl⟩
        rw [HR.out, if_neg HF.out, decide_eq_false HF.out]
        rfl
      · have d1 : decide (131072 - (m : Int) < (x.size : Int)) = false := by simp; omega
        have hxs : x.size ≤ 131072 := by omega
        have HB := Lib.hid hbig
        clear hbig
        go_wp2_with fail
        go_roundw
        case rel => exact ⟨k + 1, m + x.size, by omega, by go_num, by go_num, by rw [HSZ.out, ← HM.out], by have := HB.out; omega, trivial⟩
        case measure => simp [intOf]; omega
    · have ek : k = n := by omega
      subst ek
      have hd : decide ((k : Int) < (k : Int)) = false := by simp
      have et : ss.take k = ss := List.take_of_length_le (by rw [← HLN.out]; exact Nat.le_refl _)
      have HF := Lib.hid (show m = (cat_t ss).length by rw [HM.out, et])
      have HM2 := Lib.hid hm2
      clear et
      go_wp2_with fail
      go_ret2
      refine ⟨?_, rfl⟩
      have hh : (cat_t ss).length ≤ 131072 := by rw [← HF.out]; exact HM2.out
      rw [HR.out, if_pos hh, decide_eq_true hh, ← HF.out]
      rfl
end Go.Proofs.YtpmlkofceidnjaaDoor
