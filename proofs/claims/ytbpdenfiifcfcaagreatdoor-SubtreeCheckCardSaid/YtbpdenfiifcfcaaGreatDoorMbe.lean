/-
  A field of a general name that a call has returned.
  The contract of the law's some: a general name of the generators, perhaps with a field of another one.
  A row of attributes grows by one that has just been made. Nothing is claimed of the program here.
  The contract of the reference's Dec: the decimal digits of a number.
  The contract of the law's function id: the text of a good list of numbers that is made of the given ones.
  The contract of oid.Decode: the object identifier with these contents, if there is one.
  The contract of the definition's DecodeOID: the object identifier with these contents, if there is one.
  What the decoders of names answer; the contract of slices.Contains over ints, and of the closure next of decodeAttribute.
  The contract of decodeAttribute: what an element says of an attribute, or the error.
  The contract of decodeAttribute: what an element says of an attribute, or the error.
  The contract of decodeRelative: the attributes of an element, or the first error.
  The contract of decodeRelative: the attributes of an element, or the first error.
  The contract of Parse: the name that a text denotes, or the error.
  The contracts of decodeName and Decode: the name that bytes say, or the error.
  The contract of Decode: the name whose encoding bytes are, or the error.
  The contracts of the reference's Open, Need, End and attribute.
  The contract of the reference's attribute: the same as decodeAttribute's.
  The contract of the reference's DecodeName.
  The contract of the law's function awake: the chapter's example answers as written.
  Names that a law holds in blocks of its own; the calls of Match and awake in a region that draws.
  The contracts of certpathmade's New and Next: a deck in a block of the caller's own; a number from 0 to n - 1.
  The contract of certpathmade's Damage: a string that is at most one byte longer; nothing below the deck has changed.
  The contracts of certpathmade's Damage and replaced, with the deck kept.
  The contract of certpathmade's replaced.
  The contract of certpathmade's Rewrap.
  The size of what a made name's encoding is; Damage of any string.
  What is accepted is what is written: an element that is read depends on its own bytes alone, and is what Wrap writes for its parts; what Wrap writes is read. Nothing is claimed of the program here.
  What is accepted is what is written, as lists of bytes. Nothing is claimed of the program here.
  What Wrap writes is read, whatever stands behind it; what One accepts is what Wrap writes. Nothing is claimed of the program here.
  The contract of Few of certpathmade: whether a list of strings is small enough for a law.
  Elements that Wrap writes, in ascending order, one after the other: List reads them back, and they ascend.
  Plain laws on the short types as the reference looks them up, one after the other. Nothing is claimed of the program here.
-/
import Derived.Test.YtbpdenfiifcfcaaGreatDoorMbd
import Derived.Deep.CutRange
import Derived.Deep.DeepCutAuto
import Derived.Test.YtbpdenfiifcfcaaGreatDoorMao
import Derived.Test.YtbpdenfiifcfcaaGreatDoorMaa
import Derived.Test.YtbpdenfiifcfcaaGreatDoorMaq
import Derived.Lib.ItoaLen
import Derived.Test.YtbpdenfiifcfcaaGreatDoorMau
import Derived.Test.YtbpdenfiifcfcaaGreatDoorMas
import Derived.Test.YtbpdenfiifcfcaaGreatDoorMaj
import Derived.Test.YtbpdenfiifcfcaaGreatDoorMak
import Derived.Test.YtbpdenfiifcfcaaGreatDoorMai
import Derived.Test.YtbpdenfiifcfcaaGreatDoorMbc
import Derived.Deep.RegionHeld3
import Derived.Lib.QuietBelow
import Derived.BigQuiet
import Derived.Test.YtbpdenfiifcfcaaGreatDoorMar
import Derived.Test.YtbpdenfiifcfcaaGreatDoorMan
import Derived.Test.YtbpdenfiifcfcaaGreatDoorMav
import Derived.Test.YtbpdenfiifcfcaaGreatDoorMap
import Derived.Test.YtbpdenfiifcfcaaGreatDoorMat
namespace Go.Proofs.YtbpdenfiifcfcaaGreatDoor
open Go.RowKit

end Go.Proofs.YtbpdenfiifcfcaaGreatDoor
namespace Go.Proofs.YtbpdenfiifcfcaaGreatDoor
open Go.RowKit

theorem gen_len {q : Int} {t : List UInt8} {n : Nm} (h : GenOk q t n) : t.length ≤ 64 ∧ MadeN n := by
  have m0 : MadeN [] := ⟨by decide, fun r hr => by cases hr⟩
  rcases h with ⟨_, h, rfl⟩ | ⟨_, h, rfl⟩ | ⟨_, h, rfl⟩ | ⟨_, rfl, h⟩
  · exact ⟨(show ∀ t ∈ genMail, t.length ≤ 64 by decide) t h, m0⟩
  · exact ⟨(show ∀ t ∈ genDns, t.length ≤ 64 by decide) t h, m0⟩
  · exact ⟨(show ∀ t ∈ genAddr, t.length ≤ 64 by decide) t h, m0⟩
  · exact ⟨by decide, h⟩
theorem bse_len {q : Int} {t : List UInt8} {n : Nm} (h : BseOk q t n) : t.length ≤ 64 ∧ MadeN n := by
  have m0 : MadeN [] := ⟨by decide, fun r hr => by cases hr⟩
  rcases h with ⟨_, h, rfl⟩ | ⟨_, h, rfl⟩ | ⟨_, h, rfl⟩ | ⟨_, rfl, h⟩
  · exact ⟨(show ∀ t ∈ bseMail, t.length ≤ 64 by decide) t h, m0⟩
  · exact ⟨(show ∀ t ∈ bseDns, t.length ≤ 64 by decide) t h, m0⟩
  · exact ⟨(show ∀ t ∈ bseAddr, t.length ≤ 64 by decide) t h, m0⟩
  · exact ⟨by decide, h⟩
theorem gset2 {w : World} {g : Nat} {x y z a : Value} {t : TypeId} (h : w.heap[g]? = some (.cells #[x, y, z] t (0, 0))) : (w.setCell ⟨g, 2, none⟩ a).heap[g]? = some (.cells #[x, y, a] t (0, 0)) := by
  simp [World.setCell, Array.getElem?_modify, h]
/-- A change of one block that is of another type leaves a name as it was. -/
theorem own_apart {w w' : World} {B k n g : Nat} {e T : TypeId} {v : Value} {xs : List Value} {cs : Array Value} {f : Nat × Nat} (h : w.ownsRow B e k v n xs) (hc : w.heap[g]? = some (.cells cs T f)) (hT : T ≠ e) (hg : But g w w') : w'.ownsRow B e k v n xs := by
  refine World.ownsRow.kept h hg ?_
  rcases h.2 with ⟨hv, _⟩ | ⟨b, cap, cur, hv, _, hb, _⟩
  · exact .inl (by rw [hv]; rfl)
  · refine .inr (fun e1 => ?_)
    rw [hv] at e1
    simp [Value.ownBlock] at e1
    subst e1
    rw [hc] at hb
    simp at hb
    exact hT hb.2.1
theorem OwnN.apart {w w' : World} {B g : Nat} {T : TypeId} {v : Value} {n : Nm} {cs : Array Value} {f : Nat × Nat} (h : OwnN w B v n) (hc : w.heap[g]? = some (.cells cs T f)) (h1 : T ≠ 86) (h2 : T ≠ 84) (hg : But g w w') : OwnN w' B v n := by
  obtain ⟨vs, q1, q2, q3⟩ := h
  exact ⟨vs, q1, own_apart q2 hc h2 hg, fun i hi => own_apart (q3 i hi) hc h1 hg⟩
end Go.Proofs.YtbpdenfiifcfcaaGreatDoor
namespace Go.Proofs.YtbpdenfiifcfcaaGreatDoor
open Go.RowKit

end Go.Proofs.YtbpdenfiifcfcaaGreatDoor
namespace Go.Proofs.YtbpdenfiifcfcaaGreatDoor
open Go.RowKit

end Go.Proofs.YtbpdenfiifcfcaaGreatDoor
namespace Go.Proofs.YtbpdenfiifcfcaaGreatDoor
open Go.RowKit

/-- The numbers L can be read from the address a0 on. -/
def WLies (w : World) (a0 : Option Addr) (L : List Nat) : Prop :=
  L = [] ∨ ∃ b off, a0 = some ⟨b, off, none⟩ ∧ ∀ i, i < L.length → w.cell? ⟨b, off + i, none⟩ = some (.int .u32 ((L.getD i 0 : Nat) : Int))
theorem WLies.below {w w' : World} {a0 : Option Addr} {L : List Nat} (h : WLies w a0 L) (hb : Below w.heap.size w w') : WLies w' a0 L := by
  rcases h with h | ⟨b, off, h1, h2⟩
  · exact .inl h
  · refine .inr ⟨b, off, h1, fun i hi => ?_⟩
    rw [← h2 i hi]
    exact hb.cell (World.block_lt_of_cell? _ _ (h2 i hi))
theorem WLies.take {w : World} {a0 : Option Addr} {L : List Nat} (h : WLies w a0 L) (k : Nat) : WLies w a0 (L.take k) := by
  rcases h with h | ⟨b, off, h1, h2⟩
  · exact .inl (by rw [h]; simp)
  · refine .inr ⟨b, off, h1, fun i hi => ?_⟩
    rw [List.length_take] at hi
    rw [h2 i (by omega), List.getD_eq_getElem?_getD, List.getD_eq_getElem?_getD, List.getElem?_take_of_lt (by omega)]
end Go.Proofs.YtbpdenfiifcfcaaGreatDoor
namespace Go.Proofs.YtbpdenfiifcfcaaGreatDoor
open Go.RowKit

end Go.Proofs.YtbpdenfiifcfcaaGreatDoor
namespace Go.Proofs.YtbpdenfiifcfcaaGreatDoor
open Go.RowKit

end Go.Proofs.YtbpdenfiifcfcaaGreatDoor
namespace Go.Proofs.YtbpdenfiifcfcaaGreatDoor
open Go.RowKit

/-- The object identifier that contents say. -/
noncomputable def oidD (c : ByteArray) : Option ByteArray := @dite _ (∃ a, Dec c.data.toList a) (Classical.propDecidable _) (fun h => some (strOf (txt h.choose))) (fun _ => none)
theorem oidD_yes {c : ByteArray} {a : List Nat} (h : Dec c.data.toList a) : oidD c = some (strOf (txt a)) := by
  have hx : ∃ a, Dec c.data.toList a := ⟨a, h⟩
  unfold oidD
  rw [dif_pos hx, dec_one hx.choose_spec h]
def strTag (t : Nat) : Bool := t == 12 || t == 19 || t == 22
/-- What the elements of an attribute say: an error and the attribute. -/
noncomputable def decL : List El → Nat × At
  | [] => (3, noAt)
  | x :: r => if x.1 ≠ 6 then (5, noAt) else match oidD x.2.1 with
    | none => (11, noAt)
    | some id => match r with
      | [] => (3, noAt)
      | y :: q => if strTag y.1 = false then (5, noAt) else if q ≠ [] then (4, noAt) else (0, (id, (y.1 : Int), y.2.1))
noncomputable def decA (e : El) : Nat × At := if e.1 ≠ 48 then (5, noAt) else if (lst e.2.1).2 ≠ 0 then ((lst e.2.1).2, noAt) else decL (lst e.2.1).1
/-! ### slices.Contains -/
end Go.Proofs.YtbpdenfiifcfcaaGreatDoor
namespace Go.Proofs.YtbpdenfiifcfcaaGreatDoor
open Go.RowKit

/-- The elements l lie at an address. -/
def ElAt (w : World) (a : Option Addr) (l : List El) : Prop := l = [] ∨ ∃ b o, a = some ⟨b, o, none⟩ ∧ ∀ k, k < l.length → w.cell? ⟨b, o + k * 3, none⟩ = some (.int .i64 (((l.getD k (0, ⟨#[]⟩, ⟨#[]⟩)).1 : Nat) : Int)) ∧ w.cell? ⟨b, o + k * 3 + 1, none⟩ = some (.string (l.getD k (0, ⟨#[]⟩, ⟨#[]⟩)).2.1) ∧ w.cell? ⟨b, o + k * 3 + 2, none⟩ = some (.string (l.getD k (0, ⟨#[]⟩, ⟨#[]⟩)).2.2)
theorem ElAt.below {w w' : World} {a : Option Addr} {l : List El} (h : ElAt w a l) (hb : Below w.heap.size w w') : ElAt w' a l := by
  rcases h with h | ⟨b, o, h1, h2⟩
  · exact .inl h
  · refine .inr ⟨b, o, h1, fun i hi => ?_⟩
    obtain ⟨c0, c1, c2⟩ := h2 i hi
    exact ⟨(hb.cell (block_lt c0)).trans c0, (hb.cell (block_lt c1)).trans c1, (hb.cell (block_lt c2)).trans c2⟩
theorem ElAt.of {w : World} {B : Nat} {v : Value} {l : List El} (h : OwnE w B v l) : ∃ a c, v = .slice a l.length c ∧ l.length ≤ c ∧ ElAt w a l ∧ (∀ x, a = some x → l ≠ [] → B ≤ x.block ∧ x.block < w.heap.size) := by
  obtain ⟨a, c, hv, hA⟩ := EAt.of h
  have h' := h
  rcases h.2 with ⟨hv', h0⟩ | ⟨g, cap, cur, hv', hB, hg, hn, _⟩
  · rw [hv] at hv'
    obtain ⟨_, _, rfl⟩ : a = none ∧ l.length = 0 ∧ c = 0 := by simpa using hv'
    have hl : l = [] := List.eq_nil_of_length_eq_zero h0
    exact ⟨a, 0, hv, by omega, .inl hl, fun x _ hne => absurd hl hne⟩
  · rw [hv] at hv'
    obtain ⟨rfl, rfl⟩ : a = some ⟨g, 0, none⟩ ∧ c = cap := by simpa using hv'
    refine ⟨_, c, hv, hn, ?_, fun x hx _ => by obtain rfl := Option.some.inj hx; exact ⟨hB, (Array.getElem?_eq_some_iff.1 hg).1⟩⟩
    refine .inr ⟨g, 0, rfl, fun k hk => ?_⟩
    obtain ⟨g', e, hc⟩ := hA k hk
    obtain rfl : g = g' := by simpa using e
    rw [List.getD_eq_getElem?_getD, List.getElem?_eq_getElem hk, Nat.zero_add]
    exact ⟨hc 0 (by omega), hc 1 (by omega), hc 2 (by omega)⟩
/-! ### The closure next -/
end Go.Proofs.YtbpdenfiifcfcaaGreatDoor
namespace Go.Proofs.YtbpdenfiifcfcaaGreatDoor
open Go.RowKit

theorem ElAt.but {w w' : World} {p : Nat} {a : Option Addr} {l : List El} (h : ElAt w a l) (hb : But p w w') (hne : ∀ x, a = some x → l ≠ [] → x.block ≠ p) : ElAt w' a l := by
  rcases h with h | ⟨b, o, rfl, h2⟩
  · exact .inl h
  · refine .inr ⟨b, o, rfl, fun i hi => ?_⟩
    have hn := hne _ rfl (fun e => by rw [e] at hi; exact absurd hi (Nat.not_lt_zero _))
    obtain ⟨c0, c1, c2⟩ := h2 i hi
    have hbk := hb.block b (block_lt c0) (by simpa using hn)
    exact ⟨(cell_same hbk _).trans c0, (cell_same hbk _).trans c1, (cell_same hbk _).trans c2⟩
end Go.Proofs.YtbpdenfiifcfcaaGreatDoor
namespace Go.Proofs.YtbpdenfiifcfcaaGreatDoor
open Go.RowKit

/-! ### A row of attributes that is filled one by one -/
end Go.Proofs.YtbpdenfiifcfcaaGreatDoor
namespace Go.Proofs.YtbpdenfiifcfcaaGreatDoor
open Go.RowKit

end Go.Proofs.YtbpdenfiifcfcaaGreatDoor
namespace Go.Proofs.YtbpdenfiifcfcaaGreatDoor
open Go.RowKit

theorem getD_mem {α : Type} {l : List α} {i : Nat} (h : i < l.length) (d : α) : l.getD i d = l[i] := by rw [List.getD_eq_getElem?_getD, List.getElem?_eq_getElem h]; rfl
end Go.Proofs.YtbpdenfiifcfcaaGreatDoor
namespace Go.Proofs.YtbpdenfiifcfcaaGreatDoor
open Go.RowKit

/-! ### A row of rows that is filled one by one -/
end Go.Proofs.YtbpdenfiifcfcaaGreatDoor
namespace Go.Proofs.YtbpdenfiifcfcaaGreatDoor
open Go.RowKit

end Go.Proofs.YtbpdenfiifcfcaaGreatDoor
namespace Go.Proofs.YtbpdenfiifcfcaaGreatDoor
open Go.RowKit

end Go.Proofs.YtbpdenfiifcfcaaGreatDoor
namespace Go.Proofs.YtbpdenfiifcfcaaGreatDoor
open Go.RowKit

end Go.Proofs.YtbpdenfiifcfcaaGreatDoor
namespace Go.Proofs.YtbpdenfiifcfcaaGreatDoor
open Go.RowKit

end Go.Proofs.YtbpdenfiifcfcaaGreatDoor
namespace Go.Proofs.YtbpdenfiifcfcaaGreatDoor
open Go.RowKit

end Go.Proofs.YtbpdenfiifcfcaaGreatDoor
namespace Go.Proofs.YtbpdenfiifcfcaaGreatDoor
open Go.RowKit

/-- A name of a call's own, in block q. -/
def Held (w : World) (q lo : Nat) (n : Nm) : Prop := ∃ s, w.heap[q]? = some (.cells #[s] 27 (0, 0)) ∧ OwnN w lo s n
theorem Held.but {w w' : World} {p q lo : Nat} {n : Nm} (h : Held w q lo n) (hb : But p w w') (hq : p ≠ q) (hl : p < lo) : Held w' q lo n := by
  obtain ⟨s, h1, h2⟩ := h
  exact ⟨s, (hb.block q (Array.getElem?_eq_some_iff.1 h1).1 (by simp; omega)).trans h1, h2.but hb hl⟩
theorem spN_of_made {n : Nm} (h : MadeN n) : SpN 20 n := by
  refine ⟨h.1, fun r hr => ⟨(h.2 r hr).1.1, fun x hx => ?_⟩⟩
  have hm := (h.2 r hr).1.2.1 x hx
  have hall : ∀ y ∈ madeL, y.1.size ≤ 100 ∧ y.2.2.size ≤ 20 := by decide
  exact hall x hm
theorem small_of_sp {L : Nat} {n : Nm} (h : SpN L n) (hL : L ≤ 1000) : SmallN n := by
  refine ⟨Nat.le_trans h.1 (by omega), fun i hi => ?_⟩
  have hr := h.2 _ (getD_memS n i hi [])
  refine ⟨Nat.le_trans hr.1 (by omega), fun j hj => ?_⟩
  have hx := hr.2 _ (getD_memS _ j hj noAt)
  exact ⟨Nat.le_trans hx.1 (by omega), Nat.le_trans hx.2 (by omega)⟩

/-- A name that can be read: its slice lies in block q. -/
def HoldAt (V : World) (q : Nat) (a : Option Addr) (N c : Nat) (n : Nm) : Prop := V.cell? ⟨q, 0, none⟩ = some (.slice a N c) ∧ N = n.length ∧ N ≤ c ∧ RLies V a n ∧ SmallN n
theorem Held.open {w : World} {q lo L : Nat} {n : Nm} (h : Held w q lo n) (hs : SpN L n) (hL : L ≤ 1000) : ∃ a N c, HoldAt w q a N c n := by
  obtain ⟨s, h1, h2⟩ := h
  obtain ⟨a, c, rfl, hc, hl⟩ := h2.lies
  exact ⟨a, n.length, c, (one_facts h1).1, rfl, hc, hl, small_of_sp hs hL⟩
theorem HoldAt.below {w w' : World} {q N c : Nat} {a : Option Addr} {n : Nm} (h : HoldAt w q a N c n) (hb : Below w.heap.size w w') : HoldAt w' q a N c n :=
  ⟨(hb.cell (p := ⟨q, 0, none⟩) (block_lt h.1)).trans h.1, h.2.1, h.2.2.1, h.2.2.2.1.below hb, h.2.2.2.2⟩
end Go.Proofs.YtbpdenfiifcfcaaGreatDoor
namespace Go.Proofs.YtbpdenfiifcfcaaGreatDoor
open Go.RowKit

end Go.Proofs.YtbpdenfiifcfcaaGreatDoor
namespace Go.Proofs.YtbpdenfiifcfcaaGreatDoor
open Go.RowKit

end Go.Proofs.YtbpdenfiifcfcaaGreatDoor
namespace Go.Proofs.YtbpdenfiifcfcaaGreatDoor
open Go.RowKit

end Go.Proofs.YtbpdenfiifcfcaaGreatDoor
namespace Go.Proofs.YtbpdenfiifcfcaaGreatDoor
open Go.RowKit

end Go.Proofs.YtbpdenfiifcfcaaGreatDoor
namespace Go.Proofs.YtbpdenfiifcfcaaGreatDoor
open Go.RowKit

end Go.Proofs.YtbpdenfiifcfcaaGreatDoor
namespace Go.Proofs.YtbpdenfiifcfcaaGreatDoor
open Go.RowKit

theorem wrapStr_le (T : Int) (c : List UInt8) : (wrapStr T c).size ≤ c.length + 6 := by
  unfold wrapStr
  split
  · show (wrapL T.toNat c).toArray.size ≤ _
    unfold wrapL
    simp only [List.size_toArray, List.length_cons, List.length_append, lenO_length]
    have : lsz c.length ≤ 4 := by unfold lsz; split <;> (try split) <;> (try split) <;> omega
    omega
  · exact Nat.zero_le _
theorem cat_lenM (M : Nat) : ∀ (ss : List ByteArray), (∀ s ∈ ss, s.size ≤ M) → (cat_t ss).length ≤ M * ss.length
  | [], _ => by simp [cat_t]
  | s :: r, h => by
    have h1 : s.data.toList.length ≤ M := h s List.mem_cons_self
    have h2 := cat_lenM M r (fun x hx => h x (List.mem_cons_of_mem _ hx))
    have e : cat_t (s :: r) = s.data.toList ++ cat_t r := rfl
    rw [e, List.length_append, List.length_cons, Nat.mul_succ]
    omega
theorem lists_flat : ∀ (ss : List ByteArray), (lists ss).flatten.length = (cat_t ss).length
  | [] => rfl
  | s :: r => by
    have e : cat_t (s :: r) = s.data.toList ++ cat_t r := rfl
    have e2 : (lists (s :: r)).flatten = s.data.toList ++ (lists r).flatten := rfl
    rw [e, e2, List.length_append, List.length_append, lists_flat r]
end Go.Proofs.YtbpdenfiifcfcaaGreatDoor
namespace Go.Proofs.YtbpdenfiifcfcaaGreatDoor
open Go.RowKit

theorem rd_cases {b : ByteArray} (h : rdErr b = 0) : b.size ≠ 0 ∧ u8at b 0 % 32 ≠ 31 ∧ (lnAt b 1).2.2 = 0 ∧ 1 + (lnAt b 1).2.1 + (lnAt b 1).1 ≤ b.size ∧ rd b = (0, 1 + (lnAt b 1).2.1, (lnAt b 1).1) := by
  unfold rdErr rd at h
  unfold rd
  by_cases h0 : b.size = 0
  · rw [if_pos h0] at h; cases h
  · rw [if_neg h0] at h ⊢
    by_cases h1 : u8at b 0 % 32 = 31
    · rw [if_pos h1] at h; cases h
    · rw [if_neg h1] at h ⊢
      by_cases h2 : (lnAt b 1).2.2 = 0
      · rw [if_neg (fun x => x h2)] at h ⊢
        by_cases h3 : b.size < 1 + (lnAt b 1).2.1 + (lnAt b 1).1
        · rw [if_pos h3] at h; cases h
        · rw [if_neg h3]
          exact ⟨h0, h1, h2, by omega, rfl⟩
      · rw [if_pos h2] at h; exact absurd h h2
theorem rd_mk {b : ByteArray} (h0 : b.size ≠ 0) (h1 : u8at b 0 % 32 ≠ 31) (h2 : (lnAt b 1).2.2 = 0) (h3 : 1 + (lnAt b 1).2.1 + (lnAt b 1).1 ≤ b.size) : rd b = (0, 1 + (lnAt b 1).2.1, (lnAt b 1).1) := by
  unfold rd
  rw [if_neg h0, if_neg h1, if_neg (fun x => x h2), if_neg (by omega)]
end Go.Proofs.YtbpdenfiifcfcaaGreatDoor
namespace Go.Proofs.YtbpdenfiifcfcaaGreatDoor
open Go.RowKit

theorem u8at_list_t {b : ByteArray} {L : List UInt8} (h : b.data.toList = L) (i : Nat) : u8at b i = (L.getD i 0).toNat := by unfold u8at; rw [h]
theorem size_list {b : ByteArray} {L : List UInt8} (h : b.data.toList = L) : b.size = L.length := by rw [← h]; rfl
theorem data_extract (b : ByteArray) (i j : Nat) : (b.extract i j).data.toList = (b.data.toList.drop i).take (j - i) := by
  rw [ByteArray.data_extract, Array.toList_extract, List.extract_eq_take_drop]
theorem lst_ge {L : List UInt8} (k : Nat) (h : k + 1 ≤ L.length) : ∃ x r, L = x :: r ∧ k ≤ r.length := by
  cases L with
  | nil => exact absurd h (Nat.not_succ_le_zero _)
  | cons x r => exact ⟨x, r, rfl, by simpa using h⟩

/-- The header that was read is the one that is written. -/
theorem head_back {b : ByteArray} (h : rdErr b = 0) : b.data.toList = UInt8.ofNat (rdTag b) :: (lenO (rd b).2.2 ++ b.data.toList.drop (rd b).2.1) := by
  obtain ⟨h0, h1, h2, h3, h4⟩ := rd_cases h
  obtain ⟨L, hL⟩ : ∃ L, b.data.toList = L := ⟨_, rfl⟩
  have hu := u8at_list_t hL
  have hsz := size_list hL
  rw [h4, hL]
  unfold rdTag
  simp only
  revert h2 h3
  unfold lnAt
  by_cases c1 : b.size ≤ 1
  · rw [if_pos c1]; intro x; cases x
  · rw [if_neg c1]
    by_cases c2 : u8at b 1 < 128
    · rw [if_pos c2]
      intro _ h3
      simp only at h3 ⊢
      obtain ⟨x0, r0, rfl, g0⟩ := lst_ge (L := L) 1 (by omega)
      obtain ⟨x1, r1, rfl, g1⟩ := lst_ge (L := r0) 0 (by omega)
      have e0 : u8at b 0 = x0.toNat := hu 0
      have e1 : u8at b 1 = x1.toNat := hu 1
      rw [e1] at c2 ⊢
      rw [e0]
      have e2 : lenO x1.toNat = [x1] := by unfold lenO; rw [if_pos (lsz1 c2), UInt8.ofNat_toNat]
      rw [e2, UInt8.ofNat_toNat]
      rfl
    · rw [if_neg c2]
      by_cases c3 : u8at b 1 = 128 ∨ 131 < u8at b 1
      · rw [if_pos c3]; intro x; cases x
      · rw [if_neg c3]
        by_cases c4 : b.size < 1 + 1 + (u8at b 1 - 128)
        · rw [if_pos c4]; intro x; cases x
        · rw [if_neg c4]
          by_cases c5 : be b (1 + 1) (u8at b 1 - 128) < least (u8at b 1 - 128) ∨ 131072 < be b (1 + 1) (u8at b 1 - 128)
          · rw [if_pos c5]; intro x; cases x
          · rw [if_neg c5]
            intro _ h3
            simp only at h3 ⊢
            have hn := be_lt b (1 + 1) (u8at b 1 - 128)
            obtain ⟨k, hk⟩ : ∃ k, k = u8at b 1 - 128 := ⟨_, rfl⟩
            rw [← hk] at c4 c5 hn ⊢
            obtain ⟨x0, r0, rfl, g0⟩ := lst_ge (L := L) 1 (by omega)
            obtain ⟨x1, r1, rfl, g1⟩ := lst_ge (L := r0) 0 (by omega)
            have e0 : u8at b 0 = x0.toNat := hu 0
            have e1 : u8at b 1 = x1.toNat := hu 1
            have hl : r1.length + 2 = b.size := by rw [hsz]; rfl
            rw [e0, UInt8.ofNat_toNat]
            rcases (by omega : k = 1 ∨ k = 2 ∨ k = 3) with rfl | rfl | rfl
            · obtain ⟨x2, r2, rfl, g2⟩ := lst_ge (L := r1) 0 (by omega)
              have e2 : u8at b 2 = x2.toNat := hu 2
              have ev : be b (1 + 1) 1 = x2.toNat := by show 256 * 0 + u8at b 2 = _; omega
              rw [ev] at c5 hn ⊢
              rw [least_one] at c5
              have hz : lsz x2.toNat = 2 := lsz2 (by omega) (by omega)
              have e3 : lenO x2.toNat = [x1, x2] := by
                unfold lenO
                rw [if_neg (by omega), hz]
                show [UInt8.ofNat 129, UInt8.ofNat (x2.toNat / 256 ^ 0)] = _
                rw [show (129 : Nat) = x1.toNat by omega, Nat.pow_zero, Nat.div_one, UInt8.ofNat_toNat, UInt8.ofNat_toNat]
              rw [e3]
              rfl
            · obtain ⟨x2, r2, rfl, g2⟩ := lst_ge (L := r1) 1 (by omega)
              obtain ⟨x3, r3, rfl, g3⟩ := lst_ge (L := r2) 0 (by omega)
              have e2 : u8at b 2 = x2.toNat := hu 2
              have e3 : u8at b 3 = x3.toNat := hu 3
              have l2 := x2.toNat_lt
              have l3 := x3.toNat_lt
              obtain ⟨v, hv⟩ : ∃ v, v = be b (1 + 1) 2 := ⟨_, rfl⟩
              have ev : v = 256 * x2.toNat + x3.toNat := by rw [hv]; show 256 * (256 * 0 + u8at b 2) + u8at b 3 = _; omega
              rw [← hv] at c5 hn ⊢
              rw [least_two] at c5
              have hz : lsz v = 3 := lsz3 (by omega) (by omega)
              have e4 : lenO v = [x1, x2, x3] := by
                unfold lenO
                rw [if_neg (by omega), hz]
                show [UInt8.ofNat 130, UInt8.ofNat (v / 256 ^ 1), UInt8.ofNat (v / 256 ^ 0)] = _
                have q1 : UInt8.ofNat (v / 256 ^ 1) = x2 := by rw [← UInt8.toNat_inj]; simp; omega
                have q2 : UInt8.ofNat (v / 256 ^ 0) = x3 := by rw [← UInt8.toNat_inj]; simp; omega
                rw [show (130 : Nat) = x1.toNat by omega, UInt8.ofNat_toNat, q1, q2]
              rw [e4]
              rfl
            · obtain ⟨x2, r2, rfl, g2⟩ := lst_ge (L := r1) 2 (by omega)
              obtain ⟨x3, r3, rfl, g3⟩ := lst_ge (L := r2) 1 (by omega)
              obtain ⟨x4, r4, rfl, g4⟩ := lst_ge (L := r3) 0 (by omega)
              have e2 : u8at b 2 = x2.toNat := hu 2
              have e3 : u8at b 3 = x3.toNat := hu 3
              have e4 : u8at b 4 = x4.toNat := hu 4
              have l2 := x2.toNat_lt
              have l3 := x3.toNat_lt
              have l4 := x4.toNat_lt
              obtain ⟨v, hv⟩ : ∃ v, v = be b (1 + 1) 3 := ⟨_, rfl⟩
              have ev : v = 256 * (256 * x2.toNat + x3.toNat) + x4.toNat := by rw [hv]; show 256 * (256 * (256 * 0 + u8at b 2) + u8at b 3) + u8at b 4 = _; omega
              rw [← hv] at c5 hn ⊢
              rw [least_three] at c5
              have hz : lsz v = 4 := lsz4 (by omega)
              have e5 : lenO v = [x1, x2, x3, x4] := by
                unfold lenO
                rw [if_neg (by omega), hz]
                show [UInt8.ofNat 131, UInt8.ofNat (v / 256 ^ 2), UInt8.ofNat (v / 256 ^ 1), UInt8.ofNat (v / 256 ^ 0)] = _
                have q1 : UInt8.ofNat (v / 256 ^ 2) = x2 := by rw [← UInt8.toNat_inj]; simp; omega
                have q2 : UInt8.ofNat (v / 256 ^ 1) = x3 := by rw [← UInt8.toNat_inj]; simp; omega
                have q3 : UInt8.ofNat (v / 256 ^ 0) = x4 := by rw [← UInt8.toNat_inj]; simp; omega
                rw [show (131 : Nat) = x1.toNat by omega, UInt8.ofNat_toNat, q1, q2, q3]
              rw [e5]
              rfl
end Go.Proofs.YtbpdenfiifcfcaaGreatDoor
namespace Go.Proofs.YtbpdenfiifcfcaaGreatDoor
open Go.RowKit

theorem rd_len_le {b : ByteArray} (h : rdErr b = 0) : (rd b).2.2 ≤ 131072 := by
  obtain ⟨_, _, h2, _, h4⟩ := rd_cases h
  rw [h4]
  simp only
  revert h2
  unfold lnAt
  repeat' split
  all_goals first | exact fun x => absurd x (by decide) | (intro _; simp only; omega)
theorem ofNat_small {n : Nat} (h : n < 256) : (UInt8.ofNat n).toNat = n := by simp; omega

/-- What Wrap has written is read, whatever stands behind it. -/
theorem rd_wrap {b : ByteArray} {t : Nat} {c d : List UInt8} (ht : t < 256) (h1 : t % 32 ≠ 31) (hc : c.length ≤ 131072) (hb : b.data.toList = wrapL t c ++ d) : rd b = (0, 1 + lsz c.length, c.length) := by
  have hu := u8at_list_t hb
  have hsz := size_list hb
  have hw : wrapL t c ++ d = UInt8.ofNat t :: (lenO c.length ++ (c ++ d)) := by unfold wrapL; simp
  rw [hw] at hu hsz
  have e0 : u8at b 0 = t := by rw [hu 0]; exact ofNat_small ht
  have hl : b.size = 1 + lsz c.length + c.length + d.length := by rw [hsz]; simp [lenO_length]; omega
  have hz := lsz_le c.length
  obtain ⟨n, hn⟩ : ∃ n, n = c.length := ⟨_, rfl⟩
  rw [← hn] at hc hu hl hz ⊢
  have key : lnAt b 1 = (n, lsz n, 0) := by
    unfold lnAt
    rw [if_neg (show ¬ b.size ≤ 1 by omega)]
    have hcs := lsz_cases n
    by_cases c1 : lsz n = 1
    · have e1 : u8at b 1 = n := by
        rw [hu 1]; unfold lenO; rw [if_pos c1]; exact ofNat_small (by omega)
      rw [e1, if_pos (by omega), c1]
    · have e1 : u8at b 1 = 127 + lsz n := by
        rw [hu 1]; unfold lenO; rw [if_neg c1]; exact ofNat_small (by omega)
      obtain ⟨k, hk⟩ : ∃ k, lsz n = 1 + k := ⟨lsz n - 1, by omega⟩
      have e2 : 127 + lsz n - 128 = k := by omega
      have eo : lenO n = UInt8.ofNat (127 + lsz n) :: octs n k := by unfold lenO; rw [if_neg c1, show lsz n - 1 = k by omega]
      have hle := least_ok (v := n) (k := k) (by omega) (by omega) hk
      have ev : be b (1 + 1) k = n := by
        rw [eo] at hu
        rcases (by omega : k = 1 ∨ k = 2 ∨ k = 3) with rfl | rfl | rfl
        · have a2 : u8at b 2 = n % 256 := by rw [hu 2]; show (UInt8.ofNat (n / 256 ^ 0)).toNat = _; simp
          show 256 * 0 + u8at b 2 = n
          omega
        · have a2 : u8at b 2 = n / 256 % 256 := by rw [hu 2]; show (UInt8.ofNat (n / 256 ^ 1)).toNat = _; simp
          have a3 : u8at b 3 = n % 256 := by rw [hu 3]; show (UInt8.ofNat (n / 256 ^ 0)).toNat = _; simp
          show 256 * (256 * 0 + u8at b 2) + u8at b 3 = n
          omega
        · have a2 : u8at b 2 = n / 65536 % 256 := by rw [hu 2]; show (UInt8.ofNat (n / 256 ^ 2)).toNat = _; simp
          have a3 : u8at b 3 = n / 256 % 256 := by rw [hu 3]; show (UInt8.ofNat (n / 256 ^ 1)).toNat = _; simp
          have a4 : u8at b 4 = n % 256 := by rw [hu 4]; show (UInt8.ofNat (n / 256 ^ 0)).toNat = _; simp
          show 256 * (256 * (256 * 0 + u8at b 2) + u8at b 3) + u8at b 4 = n
          omega
      rw [e1, if_neg (by omega), if_neg (by omega), e2, if_neg (by omega), ev, if_neg (by omega), hk]
  rw [rd_mk (b := b) (by omega) (by rw [e0]; exact h1) (by rw [key]) (by rw [key]; simp only; omega), key]

theorem take_wrap (t : Nat) (c d : List UInt8) : (wrapL t c ++ d).take (1 + lsz c.length + c.length) = wrapL t c := by
  have : (wrapL t c).length = 1 + lsz c.length + c.length := by unfold wrapL; simp [lenO_length]; omega
  rw [List.take_append_of_le_length (by omega), List.take_of_length_le (by omega)]
theorem drop_wrap (t : Nat) (c d : List UInt8) : (wrapL t c ++ d).drop (1 + lsz c.length + c.length) = d := by
  have : (wrapL t c).length = 1 + lsz c.length + c.length := by unfold wrapL; simp [lenO_length]; omega
  rw [← this, List.drop_left]
theorem mid_wrap (t : Nat) (c d : List UInt8) : ((wrapL t c ++ d).drop (1 + lsz c.length)).take c.length = c := by
  have h : wrapL t c ++ d = (UInt8.ofNat t :: lenO c.length) ++ (c ++ d) := by unfold wrapL; simp
  have h2 : (UInt8.ofNat t :: lenO c.length).length = 1 + lsz c.length := by simp [lenO_length]; omega
  rw [h, ← h2, List.drop_left, List.take_left]
theorem ext_list_t {a b : ByteArray} (h : a.data.toList = b.data.toList) : a = b := ByteArray.ext (Array.toList_inj.1 h)

/-- .. so that the element has these parts. -/
theorem read_wrap {b : ByteArray} {t : Nat} {c d : List UInt8} (ht : t < 256) (h1 : t % 32 ≠ 31) (hc : c.length ≤ 131072) (hb : b.data.toList = wrapL t c ++ d) :
    rdVal b = .tuple #[.agg #[.int .i64 ((t : Nat) : Int), .string ⟨c.toArray⟩, .string ⟨(wrapL t c).toArray⟩], .string ⟨d.toArray⟩, .int .i64 0] := by
  have h := rd_wrap ht h1 hc hb
  have he : rdErr b = 0 := by unfold rdErr; rw [h]
  have hsz : b.size = 1 + lsz c.length + c.length + d.length := by rw [size_list hb]; unfold wrapL; simp [lenO_length]; omega
  have e0 : rdTag b = t := by
    unfold rdTag
    rw [u8at_list_t hb 0]
    exact ofNat_small ht
  have e1 : rdContent b = ⟨c.toArray⟩ := by
    apply ext_list_t
    unfold rdContent
    rw [data_extract, h, hb]
    simp only
    rw [show 1 + lsz c.length + c.length - (1 + lsz c.length) = c.length by omega, mid_wrap]
  have e2 : rdRaw b = ⟨(wrapL t c).toArray⟩ := by
    apply ext_list_t
    unfold rdRaw
    rw [data_extract, h, hb]
    simp only [List.drop_zero, Nat.sub_zero]
    exact take_wrap t c d
  have e3 : rdRest b = ⟨d.toArray⟩ := by
    apply ext_list_t
    unfold rdRest
    rw [data_extract, h, hb]
    simp only
    rw [drop_wrap]
    exact List.take_of_length_le (by omega)
  rw [rdVal_good he, e0, e1, e2, e3]

end Go.Proofs.YtbpdenfiifcfcaaGreatDoor
namespace Go.Proofs.YtbpdenfiifcfcaaGreatDoor
open Go.RowKit

end Go.Proofs.YtbpdenfiifcfcaaGreatDoor
namespace Go.Proofs.YtbpdenfiifcfcaaGreatDoor
open Go.RowKit

/-- The element of OCTETS with the content s: its bytes, and what the law writes. -/
def encS (s : ByteArray) : ByteArray := ⟨(wrapL 4 s.data.toList).toArray⟩
def elS (s : ByteArray) : El := (4, s, encS s)
/-- Two values share no block. -/
def Apart (u v : Value) : Prop := ∀ g, u.ownBlock = some g → v.ownBlock = some g → False
theorem Apart.symm {u v : Value} (h : Apart u v) : Apart v u := fun g a b => h g b a
theorem own_keep {w w' : World} {B : Nat} {e : TypeId} {k n : Nat} {u v : Value} {xs : List Value} (hu : w.ownsRow B e k u n xs) (hg : w.grownBy w' v.ownBlock) (hd : Apart u v) : w'.ownsRow B e k u n xs := by
  refine World.ownsRow.kept hu hg ?_
  cases hb : u.ownBlock with
  | none => exact .inl rfl
  | some g => exact .inr fun e => hd g hb e.symm
theorem apart_step {w : World} {B : Nat} {e : TypeId} {k n : Nat} {u v v' : Value} {xs : List Value} (hu : w.ownsRow B e k u n xs) (hd : Apart u v) (hat : v'.ownBlock = v.ownBlock ∨ v'.ownBlock = some w.heap.size) : Apart u v' := by
  intro g h1 h2
  rcases hat with hat | hat
  · exact hd g h1 (by rw [← hat]; exact h2)
  · have h3 := (World.ownsRow.lt hu g h1).2
    rw [hat] at h2
    have := Option.some.inj h2
    omega
/-- The law's three slices. -/
def Tri (w wr : World) (v1 v2 v3 : Value) (L1 L2 : List ByteArray) (L3 : List El) : Prop :=
  OwnS_t wr w.heap.size v1 L1 ∧ OwnS_t wr w.heap.size v2 L2 ∧ OwnE wr w.heap.size v3 L3 ∧ Apart v1 v2 ∧ Apart v1 v3 ∧ Apart v2 v3 ∧ Below w.heap.size w wr
theorem Tri.nil (w : World) : Tri w w (.slice none 0 0) (.slice none 0 0) (.slice none 0 0) [] [] [] :=
  ⟨World.ownsRow_nil _ _ _ _, World.ownsRow_nil _ _ _ _, World.ownsRow_nil _ _ _ _, fun _ h => by simp [Value.ownBlock] at h, fun _ h => by simp [Value.ownBlock] at h, fun _ h => by simp [Value.ownBlock] at h, Below.refl _ _⟩
theorem Tri.below {w wr w' : World} {v1 v2 v3 : Value} {L1 L2 : List ByteArray} {L3 : List El} (h : Tri w wr v1 v2 v3 L1 L2 L3) (hb : Below wr.heap.size wr w') : Tri w w' v1 v2 v3 L1 L2 L3 := by
  obtain ⟨a, b, c, d, e, f, g⟩ := h
  exact ⟨own_below a hb, own_below b hb, own_below c hb, d, e, f, below_next_t g hb⟩
theorem Tri.alloc {w wr : World} {v1 v2 v3 : Value} {L1 L2 : List ByteArray} {L3 : List El} (h : Tri w wr v1 v2 v3 L1 L2 L3) (o : Obj) : Tri w (wr.alloc o) v1 v2 v3 L1 L2 L3 :=
  h.below (belowNew wr o)
theorem Tri.first {w wr w2 : World} {v1 v2 v3 v' : Value} {L1 L2 : List ByteArray} {L3 : List El} {s : ByteArray} (h : Tri w wr v1 v2 v3 L1 L2 L3)
    (ho : w2.ownsRow w.heap.size 9 1 v' (L1.length + 1) (L1.map Value.string ++ [Value.string s])) (hg : wr.grownBy w2 v1.ownBlock) (hat : v'.ownBlock = v1.ownBlock ∨ v'.ownBlock = some wr.heap.size) :
    Tri w w2 v' v2 v3 (L1 ++ [s]) L2 L3 := by
  obtain ⟨a, b, c, d, e, f, g⟩ := h
  refine ⟨?_, own_keep b hg d.symm, own_keep c hg e.symm, (apart_step b d.symm hat).symm, (apart_step c e.symm hat).symm, f, g.grown hg g.size (fun k e => (World.ownsRow.lt a k e).1)⟩
  unfold OwnS_t
  simpa using ho
theorem Tri.third {w wr w2 : World} {v1 v2 v3 v' : Value} {L1 L2 : List ByteArray} {L3 : List El} {x : El} (h : Tri w wr v1 v2 v3 L1 L2 L3)
    (ho : w2.ownsRow w.heap.size 67 3 v' (L3.length + 1) (elsCells L3 ++ elCells x)) (hg : wr.grownBy w2 v3.ownBlock) (hat : v'.ownBlock = v3.ownBlock ∨ v'.ownBlock = some wr.heap.size) :
    Tri w w2 v1 v2 v' L1 L2 (L3 ++ [x]) := by
  obtain ⟨a, b, c, d, e, f, g⟩ := h
  refine ⟨own_keep a hg e, own_keep b hg f, ?_, d, apart_step a e hat, apart_step b f hat, g.grown hg g.size (fun k e => (World.ownsRow.lt c k e).1)⟩
  unfold OwnE
  rw [List.length_append, elsCells_snoc]
  exact ho
theorem Tri.next {w wr : World} {v1 v2 v3 : Value} {D ss : List ByteArray} {s x : ByteArray} {k : Nat} (h : Tri w wr v1 v2 v3 (D ++ [s]) (D.map encS ++ [x]) (D.map elS ++ [(4, s, x)])) (hx : x = encS s) (hD : D = ss.take k) (hk : k < ss.length)
    (hs : s = ss.getD k ByteArray.empty) : Tri w wr v1 v2 v3 (ss.take (k + 1)) ((ss.take (k + 1)).map encS) ((ss.take (k + 1)).map elS) := by
  have e : ss.take (k + 1) = D ++ [s] := by
    rw [List.take_succ_eq_append_getElem hk, hs, hD]
    simp [hk]
  rw [e, List.map_append, List.map_append]
  subst hx
  exact h
theorem OwnS_t.reads {w : World} {B : Nat} {v : Value} {D : List ByteArray} (h : OwnS_t w B v D) : Reads w v D := h.lies

theorem OwnE.old {B : Nat} {w w' : World} {v : Value} {l : List El} (h : OwnE w B v l) (hb : Below w.heap.size w w') : OwnE w' B v l := own_below h hb
end Go.Proofs.YtbpdenfiifcfcaaGreatDoor
namespace Go.Proofs.YtbpdenfiifcfcaaGreatDoor
open Go.RowKit

end Go.Proofs.YtbpdenfiifcfcaaGreatDoor
