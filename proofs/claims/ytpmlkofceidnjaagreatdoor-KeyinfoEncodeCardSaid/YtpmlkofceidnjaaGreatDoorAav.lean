/-
  What is wanted of the program's keyinfo.
  The contracts of strings.HasPrefix, HasSuffix, TrimPrefix, CutPrefix, IndexByte, Contains and EqualFold and of internal/stringslite.Index: the library's theorems, laid at the program's own numbers. Nothing is claimed of the program beyond its bodies.
  What every card of this seat's laws over gname needs: how a slice of bytes is opened, how seven arguments are opened, and that the laws' functions only read what they are handed.
  Nothing is left of this text.
  A slice of numbers that can be read: its numbers lie at its address.
  DNS names, patterns, bases and mail addresses as lists of bytes; when one lies within another, and that what lies within two bases makes them nested. Nothing is claimed of the program here.
  Nothing is left of this text.
  Nothing is left of this text.
  Nothing is left of this text.
  Nothing is left of this text.
  Nothing is left of this text.
  Nothing is left of this text.
  Nothing is left of this text.
  Nothing is left of this text.
  The contract of the reference's DNS: whether a text is a DNS name.
  Nothing is left of this text.
  Nothing is left of this text.
  Nothing is left of this text.
  Nothing is left of this text.
  Nothing is left of this text.
  Nothing is left of this text.
  Nothing is left of this text.
  Nothing is left of this text.
  Nothing is left of this text.
  Nothing is left of this text.
  Nothing is left of this text.
  The contract of certpathmade's ShortName: what it says is short has few and short parts.
  General names in memory, and the contract of the generator's ShortNames.
  A general name that can be read: its cells, and what lies behind its name.
  Parameters that are keys, and slices of strings, opened.
  What every card of layer 14 needs: the tables of the rows (powers of ten; constants of the hash).
  The table of the hash's constants, and that of powers of ten beside it.
-/
import Derived.Test.YtpmlkofceidnjaaGreatDoorAau
import Derived.Test.YtpmlkofceidnjaaGreatDoorAat
import Derived.Test.YtpmlkofceidnjaaGreatDoorAab
import Derived.Test.YtpmlkofceidnjaaGreatDoorAaa
import Derived.Shelf.Strings.Prefix
import Derived.Shelf.Small.Wraps
import Derived.Test.YtpmlkofceidnjaaGreatDoorAac
import Derived.Test.YtpmlkofceidnjaaGreatDoorCards
import Derived.Test.YtpmlkofceidnjaaGreatDoorTie
import Derived.Test.YtpmlkofceidnjaaGreatDoorAae
import Derived.ProofKit
import Derived.OpenShut
import Derived.Deep.DeepHandedRow
import Derived.Deep.DeepWitnessRowRef
import Derived.Lay
import Derived.Stop.LaidErr
import Derived.Test.YtpmlkofceidnjaaGreatDoorAad
import Derived.Deep.Slices
import Derived.Deep.Strs
import Derived.Test.YtpmlkofceidnjaaGreatDoorAaj
import Derived.Test.YtpmlkofceidnjaaGreatDoorAak
import Derived.Lib.QuietBelow
import Derived.BigQuiet
import Derived.Test.YtpmlkofceidnjaaGreatDoorAan
import Derived.Lib.LaidTab
import Derived.Lib.LaidIn
import Derived.Test.YtpmlkofceidnjaaGreatDoorAao
namespace Go.Proofs.YtpmlkofceidnjaaGreatDoor
theorem algPk : AlgPk := kalg_any
theorem chkPk : ChkPk := kchk_any
theorem encPk : EncPk := kenck_any
theorem decPk : DecPk := kdec_any
theorem idPk : IdPk := kiden_any
end Go.Proofs.YtpmlkofceidnjaaGreatDoor
namespace Go.Proofs.YtpmlkofceidnjaaGreatDoor
open Go.Shelf Go.RowKit

/-- The library's variable MaxLen holds some number. -/
def Mx (w : World) : Prop := ∃ m, w.cell? ⟨1, 0, none⟩ = some (.int .i64 m)
theorem Mx.below {w w' : World} (h : Mx w) (hb : Below w.heap.size w w') : Mx w' := by
  obtain ⟨m, hm⟩ := h
  exact ⟨m, (hb.cell (p := ⟨_, 0, none⟩) (World.block_lt_of_cell? _ _ hm)).trans hm⟩
end Go.Proofs.YtpmlkofceidnjaaGreatDoor
namespace Go.Proofs.YtpmlkofceidnjaaGreatDoor
open Go.ChangeShapes Go.WideShapes Go.ChangeAt Go.RowKit Go.ChangeMaps

theorem own : ownKnob Tryz.prog.godebug = none := by kernel_rfl

/-- What was handed in reads as it read, for a call that leaves old memory alone. -/
theorem below_trodAll {H : Type} {enc : TypeId × Value → H} {W W' : World} (hb : Below W.heap.size W W') :
    ∀ (ts : List TypeId) (vs : List Value) (ds : List (DataW H)) (ps : List MemPlace), (∀ t ∈ ts, Tryz.prog.readableRec t = true ∧ t < Tryz.prog.types.size) → (∀ x ∈ ps, x.block < W.heap.size) →
      DataW.TrodAll enc Tryz.prog W 0 (fun _ => true) true ts vs ds ps → DataW.TrodAll enc Tryz.prog W' 0 (fun b => decide (b < W.heap.size)) true ts vs ds ps := by
  intro ts
  induction ts with
  | nil => intro vs ds ps _ _ h; obtain ⟨rfl, rfl, rfl⟩ := trodAll_nil h; exact trodAll_mk0
  | cons t ts ih =>
    intro vs ds ps ht hp h
    obtain ⟨v, vs', d, ds', p, q, rfl, rfl, rfl, h1, h2⟩ := trodAll_cons h
    exact trodAll_cons_mk (Below.trod laidOut (ht t (by simp)).1 (ht t (by simp)).2 h1 hb (fun x hx => hp x (by simp [hx]))) (ih vs' ds' q (fun u hu => ht u (by simp [hu])) (fun x hx => hp x (by simp [hx])) h2)

end Go.Proofs.YtpmlkofceidnjaaGreatDoor

namespace Go.Proofs.YtpmlkofceidnjaaGreatDoor
open Go.ChangeShapes Go.WideShapes Go.ChangeAt Go.RowKit

set_option maxRecDepth 10000 in
theorem open_nums {H : Type} {enc : TypeId × Value → H} {W : World} {a0 : Option Addr} {len cap : Nat} {d : DataW H} {p : List MemPlace}
    (h : DataW.Trod enc Tryz.prog W 0 (fun _ => true) true 24 (.slice a0 len cap) d p) : ∃ zs : List Int, len = zs.length ∧ ILies W a0 zs ∧ zs.length ≤ 9223372036854775807 := by
  obtain ⟨fuel, hf⟩ := h
  have cb : Tryz.prog.cellsOf 3 = 1 := by kernel_rfl
  rcases open_ints Tryz.underlying24 Tryz.underlying3 cb hf with ⟨hcs, _⟩ | ⟨a, len', cap', zs, hcs, _, hl, hcm, hz, _, hcell, _⟩
  · simp [Value.cells] at hcs
    obtain ⟨rfl, rfl, rfl⟩ := hcs
    exact ⟨[], rfl, .inl rfl, by simp⟩
  · simp [Value.cells] at hcs
    obtain ⟨rfl, rfl, rfl⟩ := hcs
    by_cases h0 : len = 0
    · subst h0
      exact ⟨[], rfl, .inl rfl, by simp⟩
    · have hzl : len ≤ zs.length := by rw [hz]; simpa using hl
      obtain ⟨b, off, rfl, hc⟩ := ints_at hcell (by omega)
      have e : (zs.take len).length = len := by rw [List.length_take]; omega
      refine ⟨zs.take len, e.symm, .inr ⟨b, off, rfl, fun i hi => ?_⟩, by rw [e]; unfold maxLen at hcm; omega⟩
      rw [e] at hi
      rw [hc i (by omega)]
      congr 2
      rw [List.getD_eq_getElem?_getD, List.getD_eq_getElem?_getD, List.getElem?_take_of_lt hi]

end Go.Proofs.YtpmlkofceidnjaaGreatDoor
namespace Go.Proofs.YtpmlkofceidnjaaGreatDoor
open Go.RowKit

def pcsL (c : UInt8) (l : List UInt8) : List (List UInt8) := (pcsS c (strOf l)).map (·.data.toList)
theorem pcsL_spl (c : UInt8) (l : List UInt8) : Spl c l (pcsL c l) := pcsS_spl c (strOf l)
/-! ### Ends -/
/-- One list lies within another one: it is the other, or ends with a point and it; everything lies within nothing. -/
def Rel (S X : List UInt8) : Prop := X = [] ∨ S = X ∨ (46 :: X) <:+ S
theorem Rel.trans {A B C : List UInt8} (h : Rel A B) (k : Rel B C) : Rel A C := by
  rcases k with k | k | k
  · exact .inl k
  · exact k ▸ h
  · rcases h with h | h | h
    · rw [h] at k
      have := k.length_le
      simp at this
    · exact .inr (.inr (h ▸ k))
    · exact .inr (.inr (k.trans ((List.suffix_cons _ _).trans h)))
def RelM (D B : List UInt8) : Prop := D = B ∨ (B.head? = some 46 ∧ B <:+ D)
theorem RelM.trans {A B C : List UInt8} (h : RelM A B) (k : RelM B C) : RelM A C := by
  rcases k with k | ⟨k1, k2⟩
  · exact k ▸ h
  · rcases h with h | ⟨_, h2⟩
    · exact .inr ⟨k1, h ▸ k2⟩
    · exact .inr ⟨k1, k2.trans h2⟩
end Go.Proofs.YtpmlkofceidnjaaGreatDoor








namespace Go.Proofs.YtpmlkofceidnjaaGreatDoor
open Go.RowKit

theorem pcsL_eq (c : UInt8) (l : List UInt8) : pcsS c (strOf l) = (pcsL c l).map strOf := by
  unfold pcsL
  rw [List.map_map]
  conv => lhs; rw [← List.map_id (pcsS c (strOf l))]
  exact List.map_congr_left fun x _ => strOf_of rfl
theorem getD_strOf (P : List (List UInt8)) (j : Nat) : (P.map strOf).getD j ⟨#[]⟩ = strOf (P.getD j []) := by
  rw [List.getD_eq_getElem?_getD, List.getD_eq_getElem?_getD, List.getElem?_map]
  cases P[j]? <;> rfl
theorem pcsL_ne (c : UInt8) (l : List UInt8) : pcsL c l ≠ [] := (pcsL_spl c l).1
/-- A text's pieces, in cells. -/
theorem OwnT.pieces {w : World} {B : Nat} {v : Value} {c : UInt8} {L : List UInt8} (h : OwnT w B v (pcsS c (strOf L))) :
    ∃ g cp, v = .slice (some ⟨g, 0, none⟩) (pcsL c L).length cp ∧ g < w.heap.size ∧ B ≤ g ∧ ∀ j, j < (pcsL c L).length → w.cell? ⟨g, j, none⟩ = some (.string (strOf ((pcsL c L).getD j []))) := by
  have e : (pcsS c (strOf L)).length = (pcsL c L).length := by rw [pcsL_eq, List.length_map]
  obtain ⟨g, cp, rfl, h1, h2, _, h3⟩ := h.cells rfl (by rw [pcsL_eq]; exact fun k => pcsL_ne c L (List.map_eq_nil_iff.1 k))
  refine ⟨g, cp, by rw [e], h1, h2, fun j hj => ?_⟩
  rw [h3 j (by omega), pcsL_eq, getD_strOf]

end Go.Proofs.YtpmlkofceidnjaaGreatDoor











namespace Go.Proofs.YtpmlkofceidnjaaGreatDoor
open Go.RowKit

/-- A name of at most twelve relative names of at most eight attributes, each of at most 200 bytes. -/
def ShR (r : List At) : Prop := r.length ≤ 8 ∧ ∀ i, i < r.length → (r.getD i noAt).1.size ≤ 200 ∧ (r.getD i noAt).2.2.size ≤ 200
def ShN (n : Nm) : Prop := n.length ≤ 12 ∧ ∀ i, i < n.length → ShR (n.getD i [])
theorem ShN.small {n : Nm} (h : ShN n) : SmallN n :=
  ⟨Nat.le_trans h.1 (by omega), fun i hi => ⟨Nat.le_trans (h.2 i hi).1 (by omega), fun j hj => ⟨Nat.le_trans ((h.2 i hi).2 j hj).1 (by omega), Nat.le_trans ((h.2 i hi).2 j hj).2 (by omega)⟩⟩⟩

end Go.Proofs.YtpmlkofceidnjaaGreatDoor
namespace Go.Proofs.YtpmlkofceidnjaaGreatDoor
open Go.RowKit

abbrev Gn := Int × List UInt8 × Nm
def noG : Gn := (0, [], [])
/-- At the address lie the general names l. -/
def GLies (w : World) (a : Option Addr) (l : List Gn) : Prop :=
  l = [] ∨ ∃ b o, a = some ⟨b, o, none⟩ ∧ ∀ i, i < l.length → w.cell? ⟨b, o + i * 3, none⟩ = some (.int .i64 (l.getD i noG).1) ∧ w.cell? ⟨b, o + i * 3 + 1, none⟩ = some (.string (strOf (l.getD i noG).2.1)) ∧
    ∃ a' c', w.cell? ⟨b, o + i * 3 + 2, none⟩ = some (.slice a' (l.getD i noG).2.2.length c') ∧ (l.getD i noG).2.2.length ≤ c' ∧ RLies w a' (l.getD i noG).2.2
theorem GLies.below {w w' : World} {a : Option Addr} {l : List Gn} (h : GLies w a l) (hb : Below w.heap.size w w') : GLies w' a l := by
  rcases h with h | ⟨b, o, h1, h2⟩
  · exact .inl h
  · refine .inr ⟨b, o, h1, fun i hi => ?_⟩
    obtain ⟨c0, c1, a', c', c2, c3, c4⟩ := h2 i hi
    exact ⟨(hb.cell (block_lt c0)).trans c0, (hb.cell (block_lt c1)).trans c1, a', c', (hb.cell (block_lt c2)).trans c2, c3, c4.below hb⟩
theorem GLies.at {w : World} {a : Option Addr} {l : List Gn} (h : GLies w a l) (k : Nat) (hk : k < l.length) : ∃ b o, a = some ⟨b, o, none⟩ ∧ b < w.heap.size ∧
    w.cell? ⟨b, o + k * 3, none⟩ = some (.int .i64 (l.getD k noG).1) ∧ w.cell? ⟨b, o + k * 3 + 1, none⟩ = some (.string (strOf (l.getD k noG).2.1)) ∧
    ∃ a' c', w.cell? ⟨b, o + k * 3 + 2, none⟩ = some (.slice a' (l.getD k noG).2.2.length c') ∧ (l.getD k noG).2.2.length ≤ c' ∧ RLies w a' (l.getD k noG).2.2 := by
  rcases h with h | ⟨b, o, h1, h2⟩
  · rw [h] at hk; exact absurd hk (Nat.not_lt_zero _)
  · obtain ⟨c0, c1, a', c', c2, c3, c4⟩ := h2 k hk
    exact ⟨b, o, h1, block_lt c0, c0, c1, a', c', c2, c3, c4⟩
end Go.Proofs.YtpmlkofceidnjaaGreatDoor
namespace Go.Proofs.YtpmlkofceidnjaaGreatDoor
open Go.ChangeShapes Go.WideShapes Go.ChangeAt Go.RowKit Go.ChangeMaps Go.Deep

set_option maxRecDepth 10000 in
theorem open_elem {H : Type} {enc : TypeId × Value → H} {W : World} {r : Reach} {b0 : Nat} {v : Value} {d : DataW H} {p : List MemPlace}
    (hval : Value.okWide Tryz.prog W r b0 42 v) (h : DataW.Trod enc Tryz.prog W 0 (fun _ => true) true 42 v d p) :
    ∃ x : Int × ByteArray × ByteArray, v = .agg #[.int .i64 x.1, .string x.2.1, .string x.2.2] ∧ p = [] := by
  unfold Value.okWide at hval
  rw [Tryz.underlying42] at hval
  obtain ⟨cs, rfl, _, _⟩ := hval
  obtain ⟨fuel, hf⟩ := h
  obtain ⟨xs, k, _, hx, hl, hlen, hfd⟩ := DataW.trod_struct Tryz.underlying42 hf
  have c1 : Tryz.prog.cellsOf 3 = 1 := by kernel_rfl
  have c2 : Tryz.prog.cellsOf 9 = 1 := by kernel_rfl
  have c3 : Tryz.prog.cellsOf 42 = 3 := by kernel_rfl
  have hlen3 : xs.length = 3 := hlen
  have hs3 : (Value.agg cs).cells.toList.length = 3 := hl.trans c3
  match xs, hlen3 with
  | [y0, y1, y2], _ =>
    match hcs : (Value.agg cs).cells.toList, hs3 with
    | [z0, z1, z2], _ =>
      rw [hcs] at hfd
      have g0 : DataW.trod enc Tryz.prog W 0 (fun _ => true) true k 3 (([z0, z1, z2].drop 0).take (Tryz.prog.cellsOf 3)) = some y0 := hfd 0 _ rfl
      rw [c1] at g0
      obtain ⟨n0, e0, x0, _⟩ := DataW.trod_int Tryz.underlying3 g0
      have g1 : DataW.trod enc Tryz.prog W 0 (fun _ => true) true k 9 (([z0, z1, z2].drop 1).take (Tryz.prog.cellsOf 9)) = some y1 := hfd 1 _ rfl
      rw [c2] at g1
      obtain ⟨s1, e1, x1, _⟩ := DataW.trod_string Tryz.underlying9 g1
      have g2 : DataW.trod enc Tryz.prog W 0 (fun _ => true) true k 9 (([z0, z1, z2].drop 2).take (Tryz.prog.cellsOf 9)) = some y2 := hfd 2 _ rfl
      rw [c2] at g2
      obtain ⟨s2, e2, x2, _⟩ := DataW.trod_string Tryz.underlying9 g2
      have r0 : z0 = .int .i64 n0 := by simpa using e0
      have r1 : z1 = .string s1 := by simpa using e1
      have r2 : z2 = .string s2 := by simpa using e2
      refine ⟨(n0, s1, s2), ?_, ?_⟩
      · have hcl : (Value.agg cs).cells.toList = cs.toList := rfl
        rw [hcl, r0, r1, r2] at hcs
        congr 1
        exact Array.toList_inj.1 hcs
      · have ep := congrArg Prod.snd hx
        rw [x0, x1, x2] at ep
        simpa using ep
end Go.Proofs.YtpmlkofceidnjaaGreatDoor
namespace Go.Proofs.YtpmlkofceidnjaaGreatDoor
open Go.ChangeShapes Go.WideShapes Go.ChangeAt Go.RowKit Go.ChangeMaps

set_option maxRecDepth 10000 in
theorem open_key {H : Type} {enc : TypeId × Value → H} {W : World} {r : Reach} {b0 : Nat} {v : Value} {d : DataW H} {p : List MemPlace}
    (hval : Value.okWide Tryz.prog W r b0 23 v) (h : DataW.Trod enc Tryz.prog W 0 (fun _ => true) true 23 v d p) :
    ∃ x : Int × ByteArray × ByteArray, v = .agg #[.int .i64 x.1, .string x.2.1, .string x.2.2] ∧ p = [] := by
  unfold Value.okWide at hval
  rw [Tryz.underlying23] at hval
  obtain ⟨cs, rfl, _, _⟩ := hval
  obtain ⟨fuel, hf⟩ := h
  obtain ⟨xs, k, _, hx, hl, hlen, hfd⟩ := DataW.trod_struct Tryz.underlying23 hf
  have c1 : Tryz.prog.cellsOf 3 = 1 := by kernel_rfl
  have c2 : Tryz.prog.cellsOf 9 = 1 := by kernel_rfl
  have c3 : Tryz.prog.cellsOf 23 = 3 := by kernel_rfl
  have hlen3 : xs.length = 3 := hlen
  have hs3 : (Value.agg cs).cells.toList.length = 3 := hl.trans c3
  match xs, hlen3 with
  | [y0, y1, y2], _ =>
    match hcs : (Value.agg cs).cells.toList, hs3 with
    | [z0, z1, z2], _ =>
      rw [hcs] at hfd
      have g0 : DataW.trod enc Tryz.prog W 0 (fun _ => true) true k 3 (([z0, z1, z2].drop 0).take (Tryz.prog.cellsOf 3)) = some y0 := hfd 0 _ rfl
      rw [c1] at g0
      obtain ⟨n0, e0, x0, _⟩ := DataW.trod_int Tryz.underlying3 g0
      have g1 : DataW.trod enc Tryz.prog W 0 (fun _ => true) true k 9 (([z0, z1, z2].drop 1).take (Tryz.prog.cellsOf 9)) = some y1 := hfd 1 _ rfl
      rw [c2] at g1
      obtain ⟨s1, e1, x1, _⟩ := DataW.trod_string Tryz.underlying9 g1
      have g2 : DataW.trod enc Tryz.prog W 0 (fun _ => true) true k 9 (([z0, z1, z2].drop 2).take (Tryz.prog.cellsOf 9)) = some y2 := hfd 2 _ rfl
      rw [c2] at g2
      obtain ⟨s2, e2, x2, _⟩ := DataW.trod_string Tryz.underlying9 g2
      have r0 : z0 = .int .i64 n0 := by simpa using e0
      have r1 : z1 = .string s1 := by simpa using e1
      have r2 : z2 = .string s2 := by simpa using e2
      refine ⟨(n0, s1, s2), ?_, ?_⟩
      · have hcl : (Value.agg cs).cells.toList = cs.toList := rfl
        rw [hcl, r0, r1, r2] at hcs
        congr 1
        exact Array.toList_inj.1 hcs
      · have ep := congrArg Prod.snd hx
        rw [x0, x1, x2] at ep
        simpa using ep
end Go.Proofs.YtpmlkofceidnjaaGreatDoor
namespace Go.Proofs.YtpmlkofceidnjaaGreatDoor
open Go.ChangeShapes Go.WideShapes Go.ChangeAt Go.RowKit Go.ChangeMaps

theorem pow10_data : (Rows.laid_internal_strconv_uint64pow10 : DataW Unit) = Lib.tabData .u64 Lib.pow10Tab := by kernel_rfl
theorem pow10_at {rest : List (String × DataW Unit)} {W : World} (h : laidMet Tryz.prog (("internal/strconv.uint64pow10", Rows.laid_internal_strconv_uint64pow10) :: rest) W) : Pow10 W := by
  rw [pow10_data] at h
  exact Lib.tabBelow_of_tabIs (Lib.tabIs_of_head (g := 2) (t := 140) (e := 125) (n := 20) (by kernel_rfl) (by kernel_rfl) Tryz.underlying140 Tryz.underlying125 (by kernel_rfl) (by kernel_rfl) h)
/-- The row's list: the powers of ten are the third table. -/
theorem pow_five {W : World} (h : laidMetH Tryz.prog [("math/bits.deBruijn32tab", Rows.laid_math_bits_deBruijn32tab), ("math/bits.deBruijn64tab", Rows.laid_math_bits_deBruijn64tab), ("internal/strconv.uint64pow10", Rows.laid_internal_strconv_uint64pow10), ("unicode/utf8.acceptRanges", Rows.laid_unicode_utf8_acceptRanges), ("unicode/utf8.first", Rows.laid_unicode_utf8_first)] W) : Pow10 W := by
  rw [MakeChecks.laidMetH_plain _ _ _ (by kernel_rfl)] at h
  have h' : laidMet Tryz.prog (("math/bits.deBruijn32tab", Rows.laid_math_bits_deBruijn32tab) :: ("math/bits.deBruijn64tab", Rows.laid_math_bits_deBruijn64tab) :: ("internal/strconv.uint64pow10", Rows.laid_internal_strconv_uint64pow10) :: [("unicode/utf8.acceptRanges", Rows.laid_unicode_utf8_acceptRanges), ("unicode/utf8.first", Rows.laid_unicode_utf8_first)]) W := h
  exact pow10_at h'.tail.tail
end Go.Proofs.YtpmlkofceidnjaaGreatDoor
namespace Go.Proofs.YtpmlkofceidnjaaGreatDoor
open Go.ChangeShapes Go.WideShapes Go.ChangeAt Go.RowKit Go.ChangeMaps

theorem gTabk : Tryz.prog.globalNamed Tryz.prog.globals[0]!.name = some 0 := by kernel_rfl
theorem gTabTypek : (Tryz.prog.globals[0]?).map (·.type) = some 113 := by kernel_rfl
theorem cellsTabk : Tryz.prog.cellsOf 113 = 64 := by kernel_rfl
theorem cellsWordk : Tryz.prog.cellsOf 88 = 1 := by kernel_rfl
def tabNumsk : List Int := kWords.map u32
theorem round_data : (Rows.laid_certpath_hash_roundConstants : DataW Unit) = Lib.tabData .u32 tabNumsk := by kernel_rfl
theorem table_at {rest : List (String × DataW Unit)} {W : World} (h : laidMet Tryz.prog (("certpath/hash.roundConstants", Rows.laid_certpath_hash_roundConstants) :: rest) W) : Holds W 0 kWords := by
  rw [round_data] at h
  have t : Lib.TabIs Tryz.prog W _ .u32 tabNumsk := Lib.tabIs_of_head gTabk gTabTypek Tryz.underlying113 Tryz.underlying88 cellsWordk cellsTabk h
  intro i hi
  have hl : i < kWords.length := hi
  have hc := t.cell gTabk i (by unfold tabNumsk; rw [List.length_map]; exact hl)
  rw [hc]
  unfold tabNumsk
  simp [at32, hl]
theorem tabs_six {W : World} (h : laidMetH Tryz.prog [("math/bits.deBruijn32tab", Rows.laid_math_bits_deBruijn32tab), ("math/bits.deBruijn64tab", Rows.laid_math_bits_deBruijn64tab), ("certpath/hash.roundConstants", Rows.laid_certpath_hash_roundConstants), ("internal/strconv.uint64pow10", Rows.laid_internal_strconv_uint64pow10), ("unicode/utf8.acceptRanges", Rows.laid_unicode_utf8_acceptRanges), ("unicode/utf8.first", Rows.laid_unicode_utf8_first)] W) : Pow10 W ∧ Holds W 0 kWords := by
  rw [MakeChecks.laidMetH_plain _ _ _ (by kernel_rfl)] at h
  have h' : laidMet Tryz.prog (("math/bits.deBruijn32tab", Rows.laid_math_bits_deBruijn32tab) :: ("math/bits.deBruijn64tab", Rows.laid_math_bits_deBruijn64tab) :: ("certpath/hash.roundConstants", Rows.laid_certpath_hash_roundConstants) :: ("internal/strconv.uint64pow10", Rows.laid_internal_strconv_uint64pow10) :: [("unicode/utf8.acceptRanges", Rows.laid_unicode_utf8_acceptRanges), ("unicode/utf8.first", Rows.laid_unicode_utf8_first)]) W := h
  exact ⟨pow10_at h'.tail.tail.tail, table_at h'.tail.tail⟩
end Go.Proofs.YtpmlkofceidnjaaGreatDoor
