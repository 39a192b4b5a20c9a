/-
  The contracts of the reference's has and matchRDN: whether a relative name has an attribute that matches; whether two relative names match.
  The contracts of the reference's WithinName and MatchName.
  The contract of the reference's ExactName at equal names.
  The table of short types and the contracts of typeOf and kindOf.
  The contract of text.Unescape: the string whose escaped form is the given one, if there is one; nothing that was there before the call has changed.
  What a text denotes as a name, as a function of the text; the contracts of kindOf and parseAttribute.
  The contract of parseAttribute: the attribute that a text denotes, if it denotes one.
  The contract of parseRelative: the relative name that a text denotes, if it denotes one.
  The contract of parseName: the name that a text denotes, if it denotes one.
  The contracts of the reference's Split and short: the pieces of a text; the short types and their object identifiers.
  The contract of the reference's Split: the pieces of a text.
  The contracts of the reference's alike and ends: two texts that differ in case only; a text that ends with another one.
  The contract of the reference's DNS: whether a text is a DNS name.
  The contracts of the reference's Pattern and Base: whether a text is a DNS name or a pattern; whether it is a base.
  The contract of the reference's DNSMatch: whether a pattern matches a name.
  The contract of the reference's DNSWithin: whether a name, a pattern or a base lies within a base.
  The contract of the reference's parts: the local part and the domain of a mail address.
  The contracts of the reference's Mail and MailBase: whether a text is a mail address; whether it is a base of such.
  The contract of the reference's MailMatch: whether two mail addresses are the same.
  The contract of the reference's MailWithin: whether a mail address or a base lies within a base.
  The contracts of the reference's Address and Range: whether bytes are an address; whether they are a range.
  The contract of the reference's AddressWithin: whether an address or a range lies within a range.
-/
import Derived.Test.YtjdfgalcnbnobaaDoorAae
import Derived.Test.YtjdfgalcnbnobaaDoorAaj
import Derived.Test.YtjdfgalcnbnobaaDoorAad
import Derived.Test.YtjdfgalcnbnobaaDoorAab
import Derived.Test.YtjdfgalcnbnobaaDoorAaf
import Derived.Test.YtjdfgalcnbnobaaDoorAac
import Derived.Lib.QuietBelow
import Derived.BigQuiet
namespace Go.Proofs.YtjdfgalcnbnobaaDoor
open Go.RowKit

/-! ### matchRDN -/
end Go.Proofs.YtjdfgalcnbnobaaDoor
namespace Go.Proofs.YtjdfgalcnbnobaaDoor
open Go.RowKit

end Go.Proofs.YtjdfgalcnbnobaaDoor
namespace Go.Proofs.YtjdfgalcnbnobaaDoor
open Go.RowKit

end Go.Proofs.YtjdfgalcnbnobaaDoor
namespace Go.Proofs.YtjdfgalcnbnobaaDoor
open Go.RowKit

end Go.Proofs.YtjdfgalcnbnobaaDoor
namespace Go.Proofs.YtjdfgalcnbnobaaDoor
open Go.RowKit

end Go.Proofs.YtjdfgalcnbnobaaDoor
namespace Go.Proofs.YtjdfgalcnbnobaaDoor
open Go.RowKit

end Go.Proofs.YtjdfgalcnbnobaaDoor
namespace Go.Proofs.YtjdfgalcnbnobaaDoor
open Go.RowKit

theorem at_facts {w : World} {g : Nat} {x y z : Value} {t : TypeId} (h : w.heap[g]? = some (.cells #[x, y, z] t (0, 0))) :
    w.cell? ⟨g, 0, none⟩ = some x ∧ w.cell? ⟨g, 1, none⟩ = some y ∧ w.cell? ⟨g, 2, none⟩ = some z ∧ w.frozen? ⟨g, 0, none⟩ = false ∧ w.frozen? ⟨g, 1, none⟩ = false ∧ w.frozen? ⟨g, 2, none⟩ = false ∧ g < w.heap.size := by
  refine ⟨?_, ?_, ?_, Lib.frozen_of_heap h 0, Lib.frozen_of_heap h 1, Lib.frozen_of_heap h 2, (Array.getElem?_eq_some_iff.1 h).1⟩
  · rw [Lib.cell_of_heap h]; rfl
  · rw [Lib.cell_of_heap h]; rfl
  · rw [Lib.cell_of_heap h]; rfl
theorem at_set {w : World} {g : Nat} {x y z a b c : Value} {t : TypeId} (h : w.heap[g]? = some (.cells #[x, y, z] t (0, 0))) :
    (((w.setCell ⟨g, 0, none⟩ a).setCell ⟨g, 1, none⟩ b).setCell ⟨g, 2, none⟩ c).heap[g]? = some (.cells #[a, b, c] t (0, 0)) := by
  simp [World.setCell, Array.getElem?_modify, h]
theorem atSize : (Tryd.prog.info? 56).map (·.size) = some 3 := by kernel_rfl
end Go.Proofs.YtjdfgalcnbnobaaDoor
namespace Go.Proofs.YtjdfgalcnbnobaaDoor
open Go.RowKit

end Go.Proofs.YtjdfgalcnbnobaaDoor
namespace Go.Proofs.YtjdfgalcnbnobaaDoor
open Go.RowKit

theorem one_facts {w : World} {g : Nat} {x : Value} {t : TypeId} (h : w.heap[g]? = some (.cells #[x] t (0, 0))) : w.cell? ⟨g, 0, none⟩ = some x ∧ w.frozen? ⟨g, 0, none⟩ = false ∧ g < w.heap.size := by
  refine ⟨?_, Lib.frozen_of_heap h 0, (Array.getElem?_eq_some_iff.1 h).1⟩
  rw [Lib.cell_of_heap h]; rfl
theorem one_set {w : World} {g : Nat} {x a : Value} {t : TypeId} (h : w.heap[g]? = some (.cells #[x] t (0, 0))) : (w.setCell ⟨g, 0, none⟩ a).heap[g]? = some (.cells #[a] t (0, 0)) := by
  simp [World.setCell, Array.getElem?_modify, h]
theorem nmSize : (Tryd.prog.info? 36).map (·.size) = some 1 := by kernel_rfl
theorem rdInfo : (Tryd.prog.info? 54).map (fun i => (i.zero, i.size, i.bytes)) = some (some (.slice none 0 0), 1, 24) := by kernel_rfl
theorem row_news (w1 : World) (v : Value) (T : TypeId) : ∀ j u, [v][j]? = some u → (w1.alloc (.cells #[v] T)).cell? ((⟨w1.heap.size, 0, none⟩ : Addr).add j) = some u := by
  intro j u h
  exact news_row w1 #[v] T j u (by simpa using h)

theorem one_one (a : Option Addr) (n c : Nat) : ∀ u ∈ [Value.slice a n c], u.oneCell' = true := by
  intro u hu
  obtain rfl : u = _ := by simpa using hu
  rfl
/-- The box of a name stays while its row grows. -/
theorem more_box {wr w1 w2 : World} {p B n k : Nat} {x v : Value} {T e : TypeId} {xs : List Value} {Y : Obj} (h : w1.heap[p]? = some (.cells #[x] T (0, 0))) (hp : p < B) (ho : wr.ownsRow B e k v n xs) (hg : (w1.alloc Y).grownBy w2 v.ownBlock) : w2.heap[p]? = some (.cells #[x] T (0, 0)) := by
  have hl : p < w1.heap.size := (Array.getElem?_eq_some_iff.1 h).1
  refine (hg.block p (by simp; omega) (fun e => ?_)).trans (((belowNew w1 Y).block p hl).trans h)
  have := (World.ownsRow.lt ho p e.symm).1
  omega
end Go.Proofs.YtjdfgalcnbnobaaDoor
namespace Go.Proofs.YtjdfgalcnbnobaaDoor
open Go.RowKit

/-- The slice value v, of memory from block B on, holds the texts ss. -/
def OwnT (w : World) (B : Nat) (v : Value) (ss : List ByteArray) : Prop := w.ownsRow B 9 1 v ss.length (ss.map Value.string)
theorem OwnT.cells {w : World} {B N : Nat} {v : Value} {ss : List ByteArray} (h : OwnT w B v ss) (hN : N = ss.length) (h0 : ss ≠ []) :
    ∃ g cp, v = .slice (some ⟨g, 0, none⟩) N cp ∧ g < w.heap.size ∧ B ≤ g ∧ N ≤ cp ∧ ∀ j, j < N → w.cell? ⟨g, j, none⟩ = some (.string (ss.getD j ⟨#[]⟩)) := by
  subst hN
  rcases h.2 with ⟨_, h1⟩ | ⟨g, cap, cur, rfl, hB, hg, hn, _, hcs, htk⟩
  · exact absurd (List.eq_nil_of_length_eq_zero h1) h0
  · refine ⟨g, cap, rfl, (Array.getElem?_eq_some_iff.1 hg).1, hB, hn, fun j hj => ?_⟩
    rw [cell_of_row w g j _ _ _ hg]
    have : (cur.toList.take (ss.length * 1))[j]? = some (.string ss[j]) := by rw [htk]; simp [hj]
    rw [List.getElem?_take_of_lt (by omega)] at this
    rw [List.getD_eq_getElem?_getD, List.getElem?_eq_getElem hj]
    simpa using this
abbrev dl (s : ByteArray) : List UInt8 := s.data.toList
end Go.Proofs.YtjdfgalcnbnobaaDoor
namespace Go.Proofs.YtjdfgalcnbnobaaDoor
open Go.RowKit

end Go.Proofs.YtjdfgalcnbnobaaDoor
namespace Go.Proofs.YtjdfgalcnbnobaaDoor
open Go.RowKit

theorem ext_list_h (r : ByteArray) (i j : Nat) : (r.extract i j).data.toList = (r.data.toList.drop i).take (j - i) := by
  rw [ByteArray.data_extract, Array.toList_extract, List.extract_eq_take_drop]
theorem slice_tail_h (s : ByteArray) (i : Nat) (hi : i ≤ s.size) (a : Int) (ha : a = (i : Int)) (w : World) :
    (Instr.slice 9 (.string s) (some (.int .i64 a)) none none).run Tryd.prog w = .ok (.string (strOf (s.data.toList.drop i))) w := by
  subst ha
  have := run_slice_string_from_if (P := Tryd.prog) w 9 s .i64 (i : Int) Tryd.underlying9
  rw [this, if_pos ⟨by omega, by omega⟩]
  have e : (s.extract i s.size).data.toList = s.data.toList.drop i := by
    rw [ext_list_h]
    exact List.take_of_length_le (by rw [List.length_drop]; exact Nat.le_refl _)
  rw [← strOf_of e]
  congr 3
end Go.Proofs.YtjdfgalcnbnobaaDoor
namespace Go.Proofs.YtjdfgalcnbnobaaDoor
open Go.RowKit

def lblB (c : UInt8) : Bool := alnum c.toNat || c == 45
theorem lbl_def (p : List UInt8) : lbl p = (decide (1 ≤ p.length) && decide (p.length ≤ 63) && p.head? != some 45 && p.getLast? != some 45 && p.all lblB) := rfl
theorem lbl_nil : lbl [] = false := rfl
theorem lbl_long {p : List UInt8} (h : 63 < p.length) : lbl p = false := by rw [lbl_def, decide_eq_false (show ¬ p.length ≤ 63 by omega)]; simp
theorem lbl_head {p : List UInt8} (h : p.head? = some 45) : lbl p = false := by rw [lbl_def, h]; simp
theorem lbl_last {p : List UInt8} (h : p.getLast? = some 45) : lbl p = false := by rw [lbl_def, h]; simp
theorem lbl_all {p : List UInt8} (h1 : 1 ≤ p.length) (h2 : p.length ≤ 63) (h3 : p.head? ≠ some 45) (h4 : p.getLast? ≠ some 45) : lbl p = p.all lblB := by
  rw [lbl_def, decide_eq_true h1, decide_eq_true h2, bne_iff_ne.2 h3, bne_iff_ne.2 h4]
  rfl
theorem pcsL_eq (c : UInt8) (l : List UInt8) : pcsS c (strOf l) = (pcsL c l).map strOf := by
  unfold pcsL
  rw [List.map_map]
  conv => lhs; rw [← List.map_id (pcsS c (strOf l))]
  exact List.map_congr_left fun x _ => strOf_of rfl
theorem getD_strOf (P : List (List UInt8)) (j : Nat) : (P.map strOf).getD j ⟨#[]⟩ = strOf (P.getD j []) := by
  rw [List.getD_eq_getElem?_getD, List.getD_eq_getElem?_getD, List.getElem?_map]
  cases P[j]? <;> rfl
theorem pcsL_ne (c : UInt8) (l : List UInt8) : pcsL c l ≠ [] := (pcsL_spl c l).1
theorem dnsB_long {L : List UInt8} (h : 128 < L.length) : dnsB L = false := by unfold dnsB; rw [decide_eq_false (show ¬ L.length ≤ 128 by omega)]; rfl
theorem dnsB_all {L : List UInt8} (h : L.length ≤ 128) : dnsB L = (pcsL 46 L).all lbl := by unfold dnsB; rw [decide_eq_true h]; rfl
/-- A text's pieces, in cells. -/
theorem OwnT.pieces {w : World} {B : Nat} {v : Value} {c : UInt8} {L : List UInt8} (h : OwnT w B v (pcsS c (strOf L))) :
    ∃ g cp, v = .slice (some ⟨g, 0, none⟩) (pcsL c L).length cp ∧ g < w.heap.size ∧ B ≤ g ∧ ∀ j, j < (pcsL c L).length → w.cell? ⟨g, j, none⟩ = some (.string (strOf ((pcsL c L).getD j []))) := by
  have e : (pcsS c (strOf L)).length = (pcsL c L).length := by rw [pcsL_eq, List.length_map]
  obtain ⟨g, cp, rfl, h1, h2, _, h3⟩ := h.cells rfl (by rw [pcsL_eq]; exact fun k => pcsL_ne c L (List.map_eq_nil_iff.1 k))
  refine ⟨g, cp, by rw [e], h1, h2, fun j hj => ?_⟩
  rw [h3 j (by omega), pcsL_eq, getD_strOf]

end Go.Proofs.YtjdfgalcnbnobaaDoor
namespace Go.Proofs.YtjdfgalcnbnobaaDoor
open Go.RowKit

theorem toList_of (l : List UInt8) : (strOf l).toList = l := by rw [toList_eq_list]; rfl
end Go.Proofs.YtjdfgalcnbnobaaDoor
namespace Go.Proofs.YtjdfgalcnbnobaaDoor
open Go.RowKit

end Go.Proofs.YtjdfgalcnbnobaaDoor
namespace Go.Proofs.YtjdfgalcnbnobaaDoor
open Go.RowKit

/-- A string that is empty, and one that is not: what the walk asks. -/
theorem empty_is {L : List UInt8} (h : L = []) : (strOf L).toList.isEmpty = true ∧ ((strOf L).toList = []) = True := by subst h; rw [toList_of]; exact ⟨rfl, by simp⟩
theorem empty_not {L : List UInt8} (h : L ≠ []) : (strOf L).toList.isEmpty = false ∧ ((strOf L).toList = []) = False := by
  rw [toList_of]
  cases L with
  | nil => exact absurd rfl h
  | cons c r => exact ⟨rfl, by simp⟩
theorem dot_of (L : List UInt8) (h : L.length ≤ 100000) (w : World) : (Op.stringOp .add ⟨#[46]⟩ (strOf L)).run Tryd.prog w = .ok (.string (strOf (46 :: L))) w := by
  rw [run_string_add_sum w _ _ (by rw [strOf_size]; show 1 + L.length ≤ _; omega)]
  have := str_cat [46] L
  rw [show strOf [46] = ⟨#[46]⟩ from rfl] at this
  rw [this]
  rfl
def firstArg (s : List UInt8) : Bool := decide (s = []) || patB s
theorem within_def (s b : List UInt8) : dnsWithinB s b = (firstArg s && baseB b && (decide (b = []) || alikeB s b || endsB s (46 :: b))) := rfl

end Go.Proofs.YtjdfgalcnbnobaaDoor
namespace Go.Proofs.YtjdfgalcnbnobaaDoor
open Go.RowKit

end Go.Proofs.YtjdfgalcnbnobaaDoor
namespace Go.Proofs.YtjdfgalcnbnobaaDoor
open Go.RowKit

end Go.Proofs.YtjdfgalcnbnobaaDoor
namespace Go.Proofs.YtjdfgalcnbnobaaDoor
open Go.RowKit

theorem same_is {a b : List UInt8} (h : a = b) : ((strOf a).toList == (strOf b).toList) = true ∧ ((strOf a).toList = (strOf b).toList) = True := by subst h; simp
theorem same_not {a b : List UInt8} (h : a ≠ b) : ((strOf a).toList == (strOf b).toList) = false ∧ ((strOf a).toList = (strOf b).toList) = False := by
  rw [toList_of, toList_of]
  simp [h]

end Go.Proofs.YtjdfgalcnbnobaaDoor
namespace Go.Proofs.YtjdfgalcnbnobaaDoor
open Go.RowKit

end Go.Proofs.YtjdfgalcnbnobaaDoor
namespace Go.Proofs.YtjdfgalcnbnobaaDoor
open Go.RowKit

end Go.Proofs.YtjdfgalcnbnobaaDoor
namespace Go.Proofs.YtjdfgalcnbnobaaDoor
open Go.RowKit

theorem and_u8 (a b : UInt8) : bits BinOp.and .u8 ((a.toNat : Nat) : Int) ((b.toNat : Nat) : Int) = (((a &&& b).toNat : Nat) : Int) := by
  show IntKind.u8.wrap ((BitVec.ofInt 8 (a.toNat : Int) &&& BitVec.ofInt 8 (b.toNat : Int)).toNat : Int) = _
  rw [BitVec.toNat_and, BitVec.toNat_ofInt, BitVec.toNat_ofInt, UInt8.toNat_and]
  have e1 : ((a.toNat : Int) % (2 ^ 8 : Nat)).toNat = a.toNat := by
    have := a.toNat_lt
    show ((a.toNat : Int) % (256 : Nat)).toNat = a.toNat
    omega
  have e2 : ((b.toNat : Int) % (2 ^ 8 : Nat)).toNat = b.toNat := by
    have := b.toNat_lt
    show ((b.toNat : Int) % (256 : Nat)).toNat = b.toNat
    omega
  rw [e1, e2]
  have h : a.toNat &&& b.toNat ≤ a.toNat := Nat.and_le_left
  have := a.toNat_lt
  simp [IntKind.wrap, IntKind.bits, IntKind.signed]
  omega
end Go.Proofs.YtjdfgalcnbnobaaDoor
