/-
  The contracts of the reference's has and matchRDN: whether a relative name has an attribute that matches; whether two relative names match.
  The contracts of the reference's WithinName and MatchName.
  The contract of the reference's ExactName at equal names.
  The table of short types and the contracts of typeOf and kindOf.
  The contract of text.Unescape: the string whose escaped form is the given one, if there is one; nothing that was there before the call has changed.
  What a text denotes as a name, as a function of the text; the contracts of kindOf and parseAttribute.
  The contract of parseAttribute: the attribute that a text denotes, if it denotes one.
  The contract of parseRelative: the relative name that a text denotes, if it denotes one.
  The contract of parseName: the name that a text denotes, if it denotes one.
  The contracts of the reference's Split and short: the pieces of a text; the short types and their object identifiers.
  The contract of the reference's Split: the pieces of a text.
  The contracts of the reference's alike and ends: two texts that differ in case only; a text that ends with another one.
  The contract of the reference's DNS: whether a text is a DNS name.
  The contracts of the reference's Pattern and Base: whether a text is a DNS name or a pattern; whether it is a base.
  The contract of the reference's DNSMatch: whether a pattern matches a name.
  The contract of the reference's DNSWithin: whether a name, a pattern or a base lies within a base.
  The contract of the reference's parts: the local part and the domain of a mail address.
  The contracts of the reference's Mail and MailBase: whether a text is a mail address; whether it is a base of such.
  The contract of the reference's MailMatch: whether two mail addresses are the same.
  The contract of the reference's MailWithin: whether a mail address or a base lies within a base.
  The contracts of the reference's Address and Range: whether bytes are an address; whether they are a range.
  The contract of the reference's AddressWithin: whether an address or a range lies within a range.
  The contract of certpathmade's attribute: one of twelve attributes; of the memory that was there only the deck's block has changed.
-/
import Derived.Test.YtbpdenfiifcfcaaGreatDoorKag
import Derived.Test.YtbpdenfiifcfcaaGreatDoorKai
import Derived.Test.YtbpdenfiifcfcaaGreatDoorKad
import Derived.Test.YtbpdenfiifcfcaaGreatDoorKab
import Derived.Test.YtbpdenfiifcfcaaGreatDoorKah
import Derived.Test.YtbpdenfiifcfcaaGreatDoorKaf
import Derived.Test.YtbpdenfiifcfcaaGreatDoorKac
import Derived.Lib.QuietBelow
import Derived.BigQuiet
namespace Go.Proofs.YtbpdenfiifcfcaaGreatDoor
open Go.RowKit

theorem memD {α : Type} (l : List α) (i : Nat) (h : i < l.length) (d : α) : l.getD i d ∈ l := by
  rw [List.getD_eq_getElem?_getD, List.getElem?_eq_getElem h]
  exact List.getElem_mem h
/-! ### matchRDN -/
end Go.Proofs.YtbpdenfiifcfcaaGreatDoor
namespace Go.Proofs.YtbpdenfiifcfcaaGreatDoor
open Go.RowKit

end Go.Proofs.YtbpdenfiifcfcaaGreatDoor
namespace Go.Proofs.YtbpdenfiifcfcaaGreatDoor
open Go.RowKit

end Go.Proofs.YtbpdenfiifcfcaaGreatDoor
namespace Go.Proofs.YtbpdenfiifcfcaaGreatDoor
open Go.RowKit

end Go.Proofs.YtbpdenfiifcfcaaGreatDoor
namespace Go.Proofs.YtbpdenfiifcfcaaGreatDoor
open Go.RowKit

end Go.Proofs.YtbpdenfiifcfcaaGreatDoor
namespace Go.Proofs.YtbpdenfiifcfcaaGreatDoor
open Go.RowKit

def idDC : ByteArray := ⟨#[48, 46, 57, 46, 50, 51, 52, 50, 46, 49, 57, 50, 48, 48, 51, 48, 48, 46, 49, 48, 48, 46, 49, 46, 50, 53]⟩
def idE : ByteArray := ⟨#[49, 46, 50, 46, 56, 52, 48, 46, 49, 49, 51, 53, 52, 57, 46, 49, 46, 57, 46, 49]⟩
def kindV (id v : ByteArray) : Int := if id = idDC then 22 else if id = idE then 22 else if validB 19 v.data.toList = true then 19 else 12
end Go.Proofs.YtbpdenfiifcfcaaGreatDoor
namespace Go.Proofs.YtbpdenfiifcfcaaGreatDoor
open Go.RowKit

theorem at_facts {w : World} {g : Nat} {x y z : Value} {t : TypeId} (h : w.heap[g]? = some (.cells #[x, y, z] t (0, 0))) :
    w.cell? ⟨g, 0, none⟩ = some x ∧ w.cell? ⟨g, 1, none⟩ = some y ∧ w.cell? ⟨g, 2, none⟩ = some z ∧ w.frozen? ⟨g, 0, none⟩ = false ∧ w.frozen? ⟨g, 1, none⟩ = false ∧ w.frozen? ⟨g, 2, none⟩ = false ∧ g < w.heap.size := by
  refine ⟨?_, ?_, ?_, Lib.frozen_of_heap h 0, Lib.frozen_of_heap h 1, Lib.frozen_of_heap h 2, (Array.getElem?_eq_some_iff.1 h).1⟩
  · rw [Lib.cell_of_heap h]; rfl
  · rw [Lib.cell_of_heap h]; rfl
  · rw [Lib.cell_of_heap h]; rfl
theorem at_set {w : World} {g : Nat} {x y z a b c : Value} {t : TypeId} (h : w.heap[g]? = some (.cells #[x, y, z] t (0, 0))) :
    (((w.setCell ⟨g, 0, none⟩ a).setCell ⟨g, 1, none⟩ b).setCell ⟨g, 2, none⟩ c).heap[g]? = some (.cells #[a, b, c] t (0, 0)) := by
  simp [World.setCell, Array.getElem?_modify, h]
theorem at_below {B : Nat} {w0 w : World} {g : Nat} {a b c : Value} (h : Below B w0 w) (hg : B ≤ g) : Below B w0 (((w.setCell ⟨g, 0, none⟩ a).setCell ⟨g, 1, none⟩ b).setCell ⟨g, 2, none⟩ c) :=
  ((h.setCell (p := ⟨g, 0, none⟩) hg _).setCell (p := ⟨g, 1, none⟩) hg _).setCell (p := ⟨g, 2, none⟩) hg _
theorem atSize : (Tryz.prog.info? 86).map (·.size) = some 3 := by kernel_rfl
end Go.Proofs.YtbpdenfiifcfcaaGreatDoor
namespace Go.Proofs.YtbpdenfiifcfcaaGreatDoor
open Go.RowKit

end Go.Proofs.YtbpdenfiifcfcaaGreatDoor
namespace Go.Proofs.YtbpdenfiifcfcaaGreatDoor
open Go.RowKit

theorem one_facts {w : World} {g : Nat} {x : Value} {t : TypeId} (h : w.heap[g]? = some (.cells #[x] t (0, 0))) : w.cell? ⟨g, 0, none⟩ = some x ∧ w.frozen? ⟨g, 0, none⟩ = false ∧ g < w.heap.size := by
  refine ⟨?_, Lib.frozen_of_heap h 0, (Array.getElem?_eq_some_iff.1 h).1⟩
  rw [Lib.cell_of_heap h]; rfl
theorem one_set {w : World} {g : Nat} {x a : Value} {t : TypeId} (h : w.heap[g]? = some (.cells #[x] t (0, 0))) : (w.setCell ⟨g, 0, none⟩ a).heap[g]? = some (.cells #[a] t (0, 0)) := by
  simp [World.setCell, Array.getElem?_modify, h]
theorem nmSize : (Tryz.prog.info? 27).map (·.size) = some 1 := by kernel_rfl
theorem nmRes {fn : Func} {p u : Tmp} (h : fn.results = #[.cell p 27, .tmp u]) (tmps : Array Value) (w w0 : World) (x : Value)
    (hp : tmps.getD p undef = .pointer (some ⟨w0.heap.size, 0, none⟩)) (hg : w.heap[w0.heap.size]? = some (.cells #[x] 27 (0, 0))) :
    (results fn tmps).run Tryz.prog w = .ok (.tuple #[.agg #[x], tmps.getD u undef]) w :=
  results_cell_row2 h tmps w w0.heap.size 27 #[x] (0, 0) _ hp hg Tryz.underlying27 rfl nmSize
theorem rdInfo : (Tryz.prog.info? 84).map (fun i => (i.zero, i.size, i.bytes)) = some (some (.slice none 0 0), 1, 24) := by kernel_rfl
theorem row_news (w1 : World) (v : Value) (T : TypeId) : ∀ j u, [v][j]? = some u → (w1.alloc (.cells #[v] T)).cell? ((⟨w1.heap.size, 0, none⟩ : Addr).add j) = some u := by
  intro j u h
  exact news_row w1 #[v] T j u (by simpa using h)

theorem one_one (a : Option Addr) (n c : Nat) : ∀ u ∈ [Value.slice a n c], u.oneCell' = true := by
  intro u hu
  obtain rfl : u = _ := by simpa using hu
  rfl
/-- The box of a name stays while its row grows. -/
theorem more_box {wr w1 w2 : World} {p B n k : Nat} {x v : Value} {T e : TypeId} {xs : List Value} {Y : Obj} (h : w1.heap[p]? = some (.cells #[x] T (0, 0))) (hp : p < B) (ho : wr.ownsRow B e k v n xs) (hg : (w1.alloc Y).grownBy w2 v.ownBlock) : w2.heap[p]? = some (.cells #[x] T (0, 0)) := by
  have hl : p < w1.heap.size := (Array.getElem?_eq_some_iff.1 h).1
  refine (hg.block p (by simp; omega) (fun e => ?_)).trans (((belowNew w1 Y).block p hl).trans h)
  have := (World.ownsRow.lt ho p e.symm).1
  omega
end Go.Proofs.YtbpdenfiifcfcaaGreatDoor
namespace Go.Proofs.YtbpdenfiifcfcaaGreatDoor
open Go.RowKit

/-- The slice value v, of memory from block B on, holds the texts ss. -/
def OwnT (w : World) (B : Nat) (v : Value) (ss : List ByteArray) : Prop := w.ownsRow B 9 1 v ss.length (ss.map Value.string)
theorem OwnT.cells {w : World} {B N : Nat} {v : Value} {ss : List ByteArray} (h : OwnT w B v ss) (hN : N = ss.length) (h0 : ss ≠ []) :
    ∃ g cp, v = .slice (some ⟨g, 0, none⟩) N cp ∧ g < w.heap.size ∧ B ≤ g ∧ N ≤ cp ∧ ∀ j, j < N → w.cell? ⟨g, j, none⟩ = some (.string (ss.getD j ⟨#[]⟩)) := by
  subst hN
  rcases h.2 with ⟨_, h1⟩ | ⟨g, cap, cur, rfl, hB, hg, hn, _, hcs, htk⟩
  · exact absurd (List.eq_nil_of_length_eq_zero h1) h0
  · refine ⟨g, cap, rfl, (Array.getElem?_eq_some_iff.1 hg).1, hB, hn, fun j hj => ?_⟩
    rw [cell_of_row w g j _ _ _ hg]
    have : (cur.toList.take (ss.length * 1))[j]? = some (.string ss[j]) := by rw [htk]; simp [hj]
    rw [List.getElem?_take_of_lt (by omega)] at this
    rw [List.getD_eq_getElem?_getD, List.getElem?_eq_getElem hj]
    simpa using this
abbrev dl (s : ByteArray) : List UInt8 := s.data.toList
end Go.Proofs.YtbpdenfiifcfcaaGreatDoor
namespace Go.Proofs.YtbpdenfiifcfcaaGreatDoor
open Go.RowKit

end Go.Proofs.YtbpdenfiifcfcaaGreatDoor
namespace Go.Proofs.YtbpdenfiifcfcaaGreatDoor
open Go.RowKit

theorem ext_list_h (r : ByteArray) (i j : Nat) : (r.extract i j).data.toList = (r.data.toList.drop i).take (j - i) := by
  rw [ByteArray.data_extract, Array.toList_extract, List.extract_eq_take_drop]
theorem slice_tail_h (s : ByteArray) (i : Nat) (hi : i ≤ s.size) (a : Int) (ha : a = (i : Int)) (w : World) :
    (Instr.slice 9 (.string s) (some (.int .i64 a)) none none).run Tryz.prog w = .ok (.string (strOf (s.data.toList.drop i))) w := by
  subst ha
  have := run_slice_string_from_if (P := Tryz.prog) w 9 s .i64 (i : Int) Tryz.underlying9
  rw [this, if_pos ⟨by omega, by omega⟩]
  have e : (s.extract i s.size).data.toList = s.data.toList.drop i := by
    rw [ext_list_h]
    exact List.take_of_length_le (by rw [List.length_drop]; exact Nat.le_refl _)
  rw [← strOf_of e]
  congr 3
end Go.Proofs.YtbpdenfiifcfcaaGreatDoor
namespace Go.Proofs.YtbpdenfiifcfcaaGreatDoor
open Go.RowKit

def lblB (c : UInt8) : Bool := alnum c.toNat || c == 45
theorem lbl_def (p : List UInt8) : lbl p = (decide (1 ≤ p.length) && decide (p.length ≤ 63) && p.head? != some 45 && p.getLast? != some 45 && p.all lblB) := rfl
theorem lbl_nil : lbl [] = false := rfl
theorem lbl_long {p : List UInt8} (h : 63 < p.length) : lbl p = false := by rw [lbl_def, decide_eq_false (show ¬ p.length ≤ 63 by omega)]; simp
theorem lbl_head {p : List UInt8} (h : p.head? = some 45) : lbl p = false := by rw [lbl_def, h]; simp
theorem lbl_last {p : List UInt8} (h : p.getLast? = some 45) : lbl p = false := by rw [lbl_def, h]; simp
theorem lbl_all {p : List UInt8} (h1 : 1 ≤ p.length) (h2 : p.length ≤ 63) (h3 : p.head? ≠ some 45) (h4 : p.getLast? ≠ some 45) : lbl p = p.all lblB := by
  rw [lbl_def, decide_eq_true h1, decide_eq_true h2, bne_iff_ne.2 h3, bne_iff_ne.2 h4]
  rfl
theorem pcsL_eq (c : UInt8) (l : List UInt8) : pcsS c (strOf l) = (pcsL c l).map strOf := by
  unfold pcsL
  rw [List.map_map]
  conv => lhs; rw [← List.map_id (pcsS c (strOf l))]
  exact List.map_congr_left fun x _ => strOf_of rfl
theorem getD_strOf (P : List (List UInt8)) (j : Nat) : (P.map strOf).getD j ⟨#[]⟩ = strOf (P.getD j []) := by
  rw [List.getD_eq_getElem?_getD, List.getD_eq_getElem?_getD, List.getElem?_map]
  cases P[j]? <;> rfl
theorem pcsL_ne (c : UInt8) (l : List UInt8) : pcsL c l ≠ [] := (pcsL_spl c l).1
theorem dnsB_long {L : List UInt8} (h : 128 < L.length) : dnsB L = false := by unfold dnsB; rw [decide_eq_false (show ¬ L.length ≤ 128 by omega)]; rfl
theorem dnsB_all {L : List UInt8} (h : L.length ≤ 128) : dnsB L = (pcsL 46 L).all lbl := by unfold dnsB; rw [decide_eq_true h]; rfl
/-- A text's pieces, in cells. -/
theorem OwnT.pieces {w : World} {B : Nat} {v : Value} {c : UInt8} {L : List UInt8} (h : OwnT w B v (pcsS c (strOf L))) :
    ∃ g cp, v = .slice (some ⟨g, 0, none⟩) (pcsL c L).length cp ∧ g < w.heap.size ∧ B ≤ g ∧ ∀ j, j < (pcsL c L).length → w.cell? ⟨g, j, none⟩ = some (.string (strOf ((pcsL c L).getD j []))) := by
  have e : (pcsS c (strOf L)).length = (pcsL c L).length := by rw [pcsL_eq, List.length_map]
  obtain ⟨g, cp, rfl, h1, h2, _, h3⟩ := h.cells rfl (by rw [pcsL_eq]; exact fun k => pcsL_ne c L (List.map_eq_nil_iff.1 k))
  refine ⟨g, cp, by rw [e], h1, h2, fun j hj => ?_⟩
  rw [h3 j (by omega), pcsL_eq, getD_strOf]

end Go.Proofs.YtbpdenfiifcfcaaGreatDoor
namespace Go.Proofs.YtbpdenfiifcfcaaGreatDoor
open Go.RowKit

theorem toList_of (l : List UInt8) : (strOf l).toList = l := by rw [toList_eq_list]; rfl
end Go.Proofs.YtbpdenfiifcfcaaGreatDoor
namespace Go.Proofs.YtbpdenfiifcfcaaGreatDoor
open Go.RowKit

end Go.Proofs.YtbpdenfiifcfcaaGreatDoor
namespace Go.Proofs.YtbpdenfiifcfcaaGreatDoor
open Go.RowKit

/-- A string that is empty, and one that is not: what the walk asks. -/
theorem empty_is {L : List UInt8} (h : L = []) : (strOf L).toList.isEmpty = true ∧ ((strOf L).toList = []) = True := by subst h; rw [toList_of]; exact ⟨rfl, by simp⟩
theorem empty_not {L : List UInt8} (h : L ≠ []) : (strOf L).toList.isEmpty = false ∧ ((strOf L).toList = []) = False := by
  rw [toList_of]
  cases L with
  | nil => exact absurd rfl h
  | cons c r => exact ⟨rfl, by simp⟩
theorem dot_of (L : List UInt8) (h : L.length ≤ 150000) (w : World) : (Op.stringOp .add ⟨#[46]⟩ (strOf L)).run Tryz.prog w = .ok (.string (strOf (46 :: L))) w := by
  rw [run_string_add_sum w _ _ (by rw [strOf_size]; show 1 + L.length ≤ _; omega)]
  have := str_cat [46] L
  rw [show strOf [46] = ⟨#[46]⟩ from rfl] at this
  rw [this]
  rfl
def firstArg (s : List UInt8) : Bool := decide (s = []) || patB s
theorem within_def (s b : List UInt8) : dnsWithinB s b = (firstArg s && baseB b && (decide (b = []) || alikeB s b || endsB s (46 :: b))) := rfl

end Go.Proofs.YtbpdenfiifcfcaaGreatDoor
namespace Go.Proofs.YtbpdenfiifcfcaaGreatDoor
open Go.RowKit

end Go.Proofs.YtbpdenfiifcfcaaGreatDoor
namespace Go.Proofs.YtbpdenfiifcfcaaGreatDoor
open Go.RowKit

end Go.Proofs.YtbpdenfiifcfcaaGreatDoor
namespace Go.Proofs.YtbpdenfiifcfcaaGreatDoor
open Go.RowKit

theorem same_is {a b : List UInt8} (h : a = b) : ((strOf a).toList == (strOf b).toList) = true ∧ ((strOf a).toList = (strOf b).toList) = True := by subst h; simp
theorem same_not {a b : List UInt8} (h : a ≠ b) : ((strOf a).toList == (strOf b).toList) = false ∧ ((strOf a).toList = (strOf b).toList) = False := by
  rw [toList_of, toList_of]
  simp [h]

end Go.Proofs.YtbpdenfiifcfcaaGreatDoor
namespace Go.Proofs.YtbpdenfiifcfcaaGreatDoor
open Go.RowKit

end Go.Proofs.YtbpdenfiifcfcaaGreatDoor
namespace Go.Proofs.YtbpdenfiifcfcaaGreatDoor
open Go.RowKit

end Go.Proofs.YtbpdenfiifcfcaaGreatDoor
namespace Go.Proofs.YtbpdenfiifcfcaaGreatDoor
open Go.RowKit

theorem and_u8 (a b : UInt8) : bits BinOp.and .u8 ((a.toNat : Nat) : Int) ((b.toNat : Nat) : Int) = (((a &&& b).toNat : Nat) : Int) := by
  show IntKind.u8.wrap ((BitVec.ofInt 8 (a.toNat : Int) &&& BitVec.ofInt 8 (b.toNat : Int)).toNat : Int) = _
  rw [BitVec.toNat_and, BitVec.toNat_ofInt, BitVec.toNat_ofInt, UInt8.toNat_and]
  have e1 : ((a.toNat : Int) % (2 ^ 8 : Nat)).toNat = a.toNat := by
    have := a.toNat_lt
    show ((a.toNat : Int) % (256 : Nat)).toNat = a.toNat
    omega
  have e2 : ((b.toNat : Int) % (2 ^ 8 : Nat)).toNat = b.toNat := by
    have := b.toNat_lt
    show ((b.toNat : Int) % (256 : Nat)).toNat = b.toNat
    omega
  rw [e1, e2]
  have h : a.toNat &&& b.toNat ≤ a.toNat := Nat.and_le_left
  have := a.toNat_lt
  simp [IntKind.wrap, IntKind.bits, IntKind.signed]
  omega
end Go.Proofs.YtbpdenfiifcfcaaGreatDoor
namespace Go.Proofs.YtbpdenfiifcfcaaGreatDoor
open Go.RowKit

/-- The twelve attributes of the generator. -/
def madeL : List At := [(⟨#[50, 46, 53, 46, 52, 46, 51]⟩, 12, ⟨#[65, 110, 110]⟩), (⟨#[50, 46, 53, 46, 52, 46, 51]⟩, 19, ⟨#[32, 97, 110, 110]⟩), (⟨#[50, 46, 53, 46, 52, 46, 51]⟩, 12, ⟨#[103, 114, 195, 182, 195, 159, 101]⟩), (⟨#[50, 46, 53, 46, 52, 46, 54]⟩, 19, ⟨#[85, 83]⟩), (⟨#[50, 46, 53, 46, 52, 46, 49, 48]⟩, 19, ⟨#[69, 120, 97, 109, 112, 108, 101, 32, 32, 67, 111, 114, 112]⟩), (⟨#[50, 46, 53, 46, 52, 46, 49, 48]⟩, 12, ⟨#[101, 120, 97, 109, 112, 108, 101, 32, 99, 111, 114, 112]⟩), (⟨#[50, 46, 53, 46, 52, 46, 49, 49]⟩, 22, ⟨#[97, 44, 98, 43, 99, 61, 100, 92, 101]⟩), (⟨#[48, 46, 57, 46, 50, 51, 52, 50, 46, 49, 57, 50, 48, 48, 51, 48, 48, 46, 49, 48, 48, 46, 49, 46, 50, 53]⟩, 22, ⟨#[111, 114, 103]⟩), (⟨#[49, 46, 50, 46, 56, 52, 48, 46, 49, 49, 51, 53, 52, 57, 46, 49, 46, 57, 46, 49]⟩, 22, ⟨#[97, 110, 110, 64, 101, 120, 97, 109, 112, 108, 101, 46, 111, 114, 103]⟩), (⟨#[49, 46, 50, 46, 56, 52, 48, 46, 49, 49, 51, 53, 52, 57, 46, 49, 46, 57, 46, 49]⟩, 22, ⟨#[110, 111, 32, 97, 100, 100, 114, 101, 115, 115]⟩), (⟨#[50, 46, 53, 46, 52, 46, 57, 57]⟩, 19, ⟨#[120]⟩), (⟨#[50, 46, 53, 46, 52, 46, 55]⟩, 12, ⟨#[76]⟩)]
theorem made_cells : atsCells madeL = (.string ⟨#[50, 46, 53, 46, 52, 46, 51]⟩ :: .int .i64 12 :: .string ⟨#[65, 110, 110]⟩ :: .string ⟨#[50, 46, 53, 46, 52, 46, 51]⟩ :: .int .i64 19 :: .string ⟨#[32, 97, 110, 110]⟩ :: .string ⟨#[50, 46, 53, 46, 52, 46, 51]⟩ :: .int .i64 12 :: .string ⟨#[103, 114, 195, 182, 195, 159, 101]⟩ :: .string ⟨#[50, 46, 53, 46, 52, 46, 54]⟩ :: .int .i64 19 :: .string ⟨#[85, 83]⟩ :: .string ⟨#[50, 46, 53, 46, 52, 46, 49, 48]⟩ :: .int .i64 19 :: .string ⟨#[69, 120, 97, 109, 112, 108, 101, 32, 32, 67, 111, 114, 112]⟩ :: .string ⟨#[50, 46, 53, 46, 52, 46, 49, 48]⟩ :: .int .i64 12 :: .string ⟨#[101, 120, 97, 109, 112, 108, 101, 32, 99, 111, 114, 112]⟩ :: .string ⟨#[50, 46, 53, 46, 52, 46, 49, 49]⟩ :: .int .i64 22 :: .string ⟨#[97, 44, 98, 43, 99, 61, 100, 92, 101]⟩ :: .string ⟨#[48, 46, 57, 46, 50, 51, 52, 50, 46, 49, 57, 50, 48, 48, 51, 48, 48, 46, 49, 48, 48, 46, 49, 46, 50, 53]⟩ :: .int .i64 22 :: .string ⟨#[111, 114, 103]⟩ :: .string ⟨#[49, 46, 50, 46, 56, 52, 48, 46, 49, 49, 51, 53, 52, 57, 46, 49, 46, 57, 46, 49]⟩ :: .int .i64 22 :: .string ⟨#[97, 110, 110, 64, 101, 120, 97, 109, 112, 108, 101, 46, 111, 114, 103]⟩ :: .string ⟨#[49, 46, 50, 46, 56, 52, 48, 46, 49, 49, 51, 53, 52, 57, 46, 49, 46, 57, 46, 49]⟩ :: .int .i64 22 :: .string ⟨#[110, 111, 32, 97, 100, 100, 114, 101, 115, 115]⟩ :: .string ⟨#[50, 46, 53, 46, 52, 46, 57, 57]⟩ :: .int .i64 19 :: .string ⟨#[120]⟩ :: .string ⟨#[50, 46, 53, 46, 52, 46, 55]⟩ :: .int .i64 12 :: .string ⟨#[76]⟩ :: [] : List Value) := rfl
theorem made_own (w : World) (B : Nat) (hB : B ≤ w.heap.size) : OwnA (w.alloc (.cells ((.string ⟨#[50, 46, 53, 46, 52, 46, 51]⟩ :: .int .i64 12 :: .string ⟨#[65, 110, 110]⟩ :: .string ⟨#[50, 46, 53, 46, 52, 46, 51]⟩ :: .int .i64 19 :: .string ⟨#[32, 97, 110, 110]⟩ :: .string ⟨#[50, 46, 53, 46, 52, 46, 51]⟩ :: .int .i64 12 :: .string ⟨#[103, 114, 195, 182, 195, 159, 101]⟩ :: .string ⟨#[50, 46, 53, 46, 52, 46, 54]⟩ :: .int .i64 19 :: .string ⟨#[85, 83]⟩ :: .string ⟨#[50, 46, 53, 46, 52, 46, 49, 48]⟩ :: .int .i64 19 :: .string ⟨#[69, 120, 97, 109, 112, 108, 101, 32, 32, 67, 111, 114, 112]⟩ :: .string ⟨#[50, 46, 53, 46, 52, 46, 49, 48]⟩ :: .int .i64 12 :: .string ⟨#[101, 120, 97, 109, 112, 108, 101, 32, 99, 111, 114, 112]⟩ :: .string ⟨#[50, 46, 53, 46, 52, 46, 49, 49]⟩ :: .int .i64 22 :: .string ⟨#[97, 44, 98, 43, 99, 61, 100, 92, 101]⟩ :: .string ⟨#[48, 46, 57, 46, 50, 51, 52, 50, 46, 49, 57, 50, 48, 48, 51, 48, 48, 46, 49, 48, 48, 46, 49, 46, 50, 53]⟩ :: .int .i64 22 :: .string ⟨#[111, 114, 103]⟩ :: .string ⟨#[49, 46, 50, 46, 56, 52, 48, 46, 49, 49, 51, 53, 52, 57, 46, 49, 46, 57, 46, 49]⟩ :: .int .i64 22 :: .string ⟨#[97, 110, 110, 64, 101, 120, 97, 109, 112, 108, 101, 46, 111, 114, 103]⟩ :: .string ⟨#[49, 46, 50, 46, 56, 52, 48, 46, 49, 49, 51, 53, 52, 57, 46, 49, 46, 57, 46, 49]⟩ :: .int .i64 22 :: .string ⟨#[110, 111, 32, 97, 100, 100, 114, 101, 115, 115]⟩ :: .string ⟨#[50, 46, 53, 46, 52, 46, 57, 57]⟩ :: .int .i64 19 :: .string ⟨#[120]⟩ :: .string ⟨#[50, 46, 53, 46, 52, 46, 55]⟩ :: .int .i64 12 :: .string ⟨#[76]⟩ :: [] : List Value).toArray) 86)) B (.slice (some ⟨w.heap.size, 0, none⟩) 12 12) madeL := by
  have h := World.ownsRow_lit (base := B) (e := 86) (size := 3) w ((.string ⟨#[50, 46, 53, 46, 52, 46, 51]⟩ :: .int .i64 12 :: .string ⟨#[65, 110, 110]⟩ :: .string ⟨#[50, 46, 53, 46, 52, 46, 51]⟩ :: .int .i64 19 :: .string ⟨#[32, 97, 110, 110]⟩ :: .string ⟨#[50, 46, 53, 46, 52, 46, 51]⟩ :: .int .i64 12 :: .string ⟨#[103, 114, 195, 182, 195, 159, 101]⟩ :: .string ⟨#[50, 46, 53, 46, 52, 46, 54]⟩ :: .int .i64 19 :: .string ⟨#[85, 83]⟩ :: .string ⟨#[50, 46, 53, 46, 52, 46, 49, 48]⟩ :: .int .i64 19 :: .string ⟨#[69, 120, 97, 109, 112, 108, 101, 32, 32, 67, 111, 114, 112]⟩ :: .string ⟨#[50, 46, 53, 46, 52, 46, 49, 48]⟩ :: .int .i64 12 :: .string ⟨#[101, 120, 97, 109, 112, 108, 101, 32, 99, 111, 114, 112]⟩ :: .string ⟨#[50, 46, 53, 46, 52, 46, 49, 49]⟩ :: .int .i64 22 :: .string ⟨#[97, 44, 98, 43, 99, 61, 100, 92, 101]⟩ :: .string ⟨#[48, 46, 57, 46, 50, 51, 52, 50, 46, 49, 57, 50, 48, 48, 51, 48, 48, 46, 49, 48, 48, 46, 49, 46, 50, 53]⟩ :: .int .i64 22 :: .string ⟨#[111, 114, 103]⟩ :: .string ⟨#[49, 46, 50, 46, 56, 52, 48, 46, 49, 49, 51, 53, 52, 57, 46, 49, 46, 57, 46, 49]⟩ :: .int .i64 22 :: .string ⟨#[97, 110, 110, 64, 101, 120, 97, 109, 112, 108, 101, 46, 111, 114, 103]⟩ :: .string ⟨#[49, 46, 50, 46, 56, 52, 48, 46, 49, 49, 51, 53, 52, 57, 46, 49, 46, 57, 46, 49]⟩ :: .int .i64 22 :: .string ⟨#[110, 111, 32, 97, 100, 100, 114, 101, 115, 115]⟩ :: .string ⟨#[50, 46, 53, 46, 52, 46, 57, 57]⟩ :: .int .i64 19 :: .string ⟨#[120]⟩ :: .string ⟨#[50, 46, 53, 46, 52, 46, 55]⟩ :: .int .i64 12 :: .string ⟨#[76]⟩ :: [] : List Value).toArray) 12 hB (by unfold maxLen; omega) rfl
  unfold OwnA
  rw [made_cells]
  exact h
theorem atRes1 {fn : Func} {p : Tmp} (h : fn.results = #[.cell p 86]) (tmps : Array Value) (w w0 : World) (x y z : Value)
    (hp : tmps.getD p undef = .pointer (some ⟨w0.heap.size, 0, none⟩)) (hg : w.heap[w0.heap.size]? = some (.cells #[x, y, z] 86 (0, 0))) :
    (results fn tmps).run Tryz.prog w = .ok (.agg #[x, y, z]) w :=
  results_cell_row h tmps w w0.heap.size 86 #[x, y, z] (0, 0) _ hp hg Tryz.underlying86 rfl atSize

theorem belowTwo' (w : World) (o p : Obj) : Below w.heap.size w ((w.alloc o).alloc p) := below_next (belowNew w o) (belowNew _ p)
theorem But.fresh {p g : Nat} {a b c : World} (h : But p a b) (k : But g b c) (hg : a.heap.size ≤ g) : But p a c := World.grownBy.andThen h k (fun j e => .inl (by obtain rfl := Option.some.inj e; exact hg))
theorem cell_same {w w' : World} {b : Nat} (h : w'.heap[b]? = w.heap[b]?) (o : Nat) : w'.cell? ⟨b, o, none⟩ = w.cell? ⟨b, o, none⟩ := by
  simp only [World.cell?, h]
set_option maxRecDepth 100000 in
set_option maxHeartbeats 4000000 in
theorem attr_any (p : Nat) (a : Option Addr) (cap : Nat) (zs : List Int) (k : Nat) (w : World) (h : DeckAt w p a cap zs k) (hk : k < 1000) :
    Calls Tryz.prog 49 #[.pointer (some ⟨p, 0, none⟩)] w fun e w' => ∃ r k' : Nat, r < 12 ∧ e = .returned (atV (madeL.getD r noAt)) ∧ DeckAt w' p a cap zs k' ∧ k' ≤ k + 1 ∧ But p w w' := by
  obtain ⟨W1, hW1⟩ : ∃ W1, W1 = w.alloc (.cells #[.string ⟨#[]⟩, .int .i64 0, .string ⟨#[]⟩] 86) := ⟨_, rfl⟩
  obtain ⟨W2, hW2⟩ : ∃ W2, W2 = W1.alloc (.cells ((.string ⟨#[50, 46, 53, 46, 52, 46, 51]⟩ :: .int .i64 12 :: .string ⟨#[65, 110, 110]⟩ :: .string ⟨#[50, 46, 53, 46, 52, 46, 51]⟩ :: .int .i64 19 :: .string ⟨#[32, 97, 110, 110]⟩ :: .string ⟨#[50, 46, 53, 46, 52, 46, 51]⟩ :: .int .i64 12 :: .string ⟨#[103, 114, 195, 182, 195, 159, 101]⟩ :: .string ⟨#[50, 46, 53, 46, 52, 46, 54]⟩ :: .int .i64 19 :: .string ⟨#[85, 83]⟩ :: .string ⟨#[50, 46, 53, 46, 52, 46, 49, 48]⟩ :: .int .i64 19 :: .string ⟨#[69, 120, 97, 109, 112, 108, 101, 32, 32, 67, 111, 114, 112]⟩ :: .string ⟨#[50, 46, 53, 46, 52, 46, 49, 48]⟩ :: .int .i64 12 :: .string ⟨#[101, 120, 97, 109, 112, 108, 101, 32, 99, 111, 114, 112]⟩ :: .string ⟨#[50, 46, 53, 46, 52, 46, 49, 49]⟩ :: .int .i64 22 :: .string ⟨#[97, 44, 98, 43, 99, 61, 100, 92, 101]⟩ :: .string ⟨#[48, 46, 57, 46, 50, 51, 52, 50, 46, 49, 57, 50, 48, 48, 51, 48, 48, 46, 49, 48, 48, 46, 49, 46, 50, 53]⟩ :: .int .i64 22 :: .string ⟨#[111, 114, 103]⟩ :: .string ⟨#[49, 46, 50, 46, 56, 52, 48, 46, 49, 49, 51, 53, 52, 57, 46, 49, 46, 57, 46, 49]⟩ :: .int .i64 22 :: .string ⟨#[97, 110, 110, 64, 101, 120, 97, 109, 112, 108, 101, 46, 111, 114, 103]⟩ :: .string ⟨#[49, 46, 50, 46, 56, 52, 48, 46, 49, 49, 51, 53, 52, 57, 46, 49, 46, 57, 46, 49]⟩ :: .int .i64 22 :: .string ⟨#[110, 111, 32, 97, 100, 100, 114, 101, 115, 115]⟩ :: .string ⟨#[50, 46, 53, 46, 52, 46, 57, 57]⟩ :: .int .i64 19 :: .string ⟨#[120]⟩ :: .string ⟨#[50, 46, 53, 46, 52, 46, 55]⟩ :: .int .i64 12 :: .string ⟨#[76]⟩ :: [] : List Value).toArray) 86) := ⟨_, rfl⟩
  have hz : W1.heap.size = w.heap.size + 1 := by rw [hW1]; simp
  have hb : Below w.heap.size w W2 := by rw [hW2, hW1]; exact belowTwo' w _ _
  have hl : ALies W2 (some ⟨w.heap.size + 1, 0, none⟩) madeL := by
    obtain ⟨a1, c1, e1, _, e2⟩ := (made_own W1 0 (Nat.zero_le _)).lies
    rw [hz] at e1
    obtain ⟨rfl, _⟩ : some ⟨w.heap.size + 1, 0, none⟩ = a1 ∧ 12 = c1 := by simpa [madeL] using e1
    rw [hW2]; exact e2
  have hc : W2.heap[w.heap.size]? = some (.cells #[.string ⟨#[]⟩, .int .i64 0, .string ⟨#[]⟩] 86 (0, 0)) := by
    rw [hW2]
    refine ((belowNew W1 _).block _ (by rw [hz]; omega)).trans ?_
    rw [hW1]; exact heap_alloc_new w _
  have hp := h.lt
  have HN := Lib.hid (next_any p a cap zs k 12 W2 (h.below hb) hk (by omega) (by omega))
  have HL := Lib.hid hl
  have HC := Lib.hid hc
  have HB := Lib.hid hb
  rw [hW2, hW1, show ((12 : Nat) : Int) = (12 : Int) from rfl] at HN
  have HW := Lib.hid hW2
  rw [hW1] at HW
  clear h hl hc hb hz hW2 hW1
  go_enter Tryz.func49, Tryz.ntmps49
  go_wp2_with (go_at_call 11; (with_reducible refine HN.out.mono ?_); rintro e w3 ⟨r, k', hr, rfl, hd, hk', hb3⟩; rw [← HW.out] at hb3; have hc3 := (hb3.block w.heap.size (Array.getElem?_eq_some_iff.1 HC.out).1 (by simp; omega)).trans HC.out; obtain ⟨b, o, e0, _, q0, q1, q2⟩ := HL.out.at r hr; obtain ⟨rfl, rfl⟩ : w.heap.size + 1 = b ∧ 0 = o := (by simpa using e0); rw [Nat.zero_add] at q0 q1 q2; have g0 := (hb3.block _ (block_lt q0) (by simp; omega)); have d0 := (cell_same g0 _).trans q0; have d1 := (cell_same g0 _).trans q1; have d2 := (cell_same g0 _).trans q2; obtain ⟨c0, c1, c2, f0, f1, f2, hlt⟩ := at_facts hc3; generalize hE : madeL.getD r noAt = E at d0 d1 d2; have HE := Lib.hid hE; have HD := Lib.hid hd; have HK := Lib.hid hk'; have HB3 := Lib.hid hb3; have HC3 := Lib.hid hc3; have HR := Lib.hid hr; clear hE hd hk' hb3 hc3 q0 q1 q2 e0 g0)
  have hs := ((But.set w.heap.size 0 w3 (.string E.1)).next (But.set w.heap.size 1 _ (.int .i64 E.2.1))).next (But.set w.heap.size 2 _ (.string E.2.2))
  exact bodyPost_ret (atRes1 rfl _ _ w _ _ _ rfl (at_set HC3.out)) rfl ⟨r, k', HR.out, by rw [HE.out]; rfl, HD.out.grown hs (fun j e => by obtain rfl := Option.some.inj e; exact hp), HK.out, ((But.of HB.out).next HB3.out).fresh hs (Nat.le_refl _)⟩
end Go.Proofs.YtbpdenfiifcfcaaGreatDoor
