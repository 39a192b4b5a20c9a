/-
  The contracts of gname's checkNumber, EncodeList and DecodeList.
  The contract of the reference's DecodeList.
  The contracts of the reference's ExactGenerals, for two rows of the same general names, and of the law's short.
  The contracts of the reference's SameGeneral, MatchGeneral and WithinGeneral.
  What the laws over gname want of the program's functions, each said as a proposition; and that the law's awake then returns true.
  The walk of the law GnameCheck: for every general name and every slice of ints it returns true, and leaves all that was there as it was.
  How long encodings of made general names are, and the reference's One. Nothing is claimed of the program here but what One returns.
  The contract of the reference's SameName at names whose relative names hold each other's attributes.
  The contract of the reference's SameGenerals, for two rows of general names that are equal apart from the order of attributes.
  General names that are the same are within the same bases: plain laws; and what the law GnameSame wants of the program's functions.
  Attributes in the order of their encodings: there is one such order. Nothing is claimed of the program here.
  The contracts of formatRelative's comparison and of slices.SortFunc over attributes, for at most twelve of them.
  The keys of names as texts: two valid names have the same key exactly if they match. Nothing is claimed of the program here.
  Names as texts: what is written is read, and the name that is read matches. Nothing is claimed of the program here.
  The contracts of assign, of Key's closure and of join of the program.
  The contract of join of the program, over whatever function answers for the relative names.
  The contracts of shortOf, of slices.Clone and slices.SortFunc over attributes, and of formatRelative.
  The contracts of slices.SortFunc over attributes and of formatRelative.
  The contracts of formatRelative and of Format.
  The contract of Format.
  What the reference's FormatName does, as plain laws: the least attribute is taken again and again; the short types. Nothing is claimed of the program here.
  A name that can be read: its relative names lie at its address, and their attributes at theirs.
  A store into a cell of a name leaves a name in memory, of the same numbers of relative names and attributes. A parameter of type api.Attribute.
  The contract of the reference's FormatName.
  The contract of the reference's FormatGeneral: the text of a general name.
  The names of the generator have no error, nor have they when their kinds are those that Parse gives. Nothing is claimed of the program here.
  The walk of the law NameText: for every name and list of numbers it returns true, and leaves all that was there as it was.
  General names of the generators: what they are encoded and written as is read as them. Nothing is claimed of the program here.
  Ranges of addresses: each is an address under a mask of some bits; what lies within two ranges makes them nested; within is passed on. Nothing is claimed of the program here.
  Constraints on names as lists: what Permits, Reduce and PermitsReduced answer; that what lies within two bases makes them nested, that bases that are the same have the same names, and that a reduced state permits what the state permits. Nothing is claimed of the program here.
  Constraints on names in memory: a row of pairs of rows of general names; and one name after the other. Nothing is claimed of the program here.
  Encodings of constraints on names: what Check, Encode and Decode of package subtree answer, and that the constraints of the generator are decoded as they were encoded, apart from the order of attributes. Nothing is claimed of the program here.
  The contracts of the reference's In, limits and Permits.
-/
import Derived.Test.YtbpdenfiifcfcaaGreatDoorMbf
import Derived.Test.YtbpdenfiifcfcaaGreatDoorMbg
import Derived.Test.YtbpdenfiifcfcaaGreatDoorMap
import Derived.Test.YtbpdenfiifcfcaaGreatDoorMbc
import Derived.Test.YtbpdenfiifcfcaaGreatDoorMak
import Derived.Lib.QuietBelow
import Derived.BigQuiet
import Derived.Test.YtbpdenfiifcfcaaGreatDoorMav
import Derived.Test.YtbpdenfiifcfcaaGreatDoorMan
import Derived.Test.YtbpdenfiifcfcaaGreatDoorMal
import Derived.Test.YtbpdenfiifcfcaaGreatDoorMaw
import Derived.Test.YtbpdenfiifcfcaaGreatDoorMad
import Derived.Test.YtbpdenfiifcfcaaGreatDoorMbe
import Derived.Deep.CutRange
import Derived.Deep.DeepCutAuto
import Derived.Deep.RegionWith
import Derived.Test.YtbpdenfiifcfcaaGreatDoorMau
import Derived.Test.YtbpdenfiifcfcaaGreatDoorMas
import Derived.Deep.RegionHeld3
import Derived.Test.YtbpdenfiifcfcaaGreatDoorMab
import Derived.Test.YtbpdenfiifcfcaaGreatDoorMac
import Derived.Test.YtbpdenfiifcfcaaGreatDoorMaa
import Derived.Lib.SliceRun
import Derived.Test.YtbpdenfiifcfcaaGreatDoorMai
import Derived.Test.YtbpdenfiifcfcaaGreatDoorMah
import Derived.ProofKit
import Derived.OpenShut
import Derived.Deep.Slices
import Derived.Deep.Strs
import Derived.Deep.DeepHandedRow
import Derived.Test.YtbpdenfiifcfcaaGreatDoorMaj
import Derived.Test.YtbpdenfiifcfcaaGreatDoorMam
namespace Go.Proofs.YtbpdenfiifcfcaaGreatDoor
open Go.RowKit

theorem Bld.below {B b : Nat} {l : List UInt8} {w w' : World} (h : Bld B b l w) (hb : Below w.heap.size w w') : Bld B b l w' := by
  have key : ∀ p, Lib.BuilderAt 118 5 B b p (Lib.byteCells l) w → Lib.BuilderAt 118 5 B b p (Lib.byteCells l) w' := fun p hq => by
    have hlt := hq.lt
    obtain ⟨hB, v, hv, hown, hne⟩ := hq
    exact ⟨hB, v, (hb.block b hlt).trans hv, World.ownsRow.kept (row := none) hown ⟨hb.os, hb.tape, hb.output, hb.size, fun k hk _ => hb.block k hk⟩ (Classical.em _), hne⟩
  exact h.elim (fun x => .inl (key _ x)) (fun x => .inr (key _ x))
theorem Bld.fresh (w : World) : Bld w.heap.size w.heap.size [] (w.alloc (.cells #[.pointer none, .slice none 0 0] 118)) := Lib.fresh_isBuilder _ _ w
end Go.Proofs.YtbpdenfiifcfcaaGreatDoor
namespace Go.Proofs.YtbpdenfiifcfcaaGreatDoor
open Go.RowKit

end Go.Proofs.YtbpdenfiifcfcaaGreatDoor
namespace Go.Proofs.YtbpdenfiifcfcaaGreatDoor
open Go.RowKit

end Go.Proofs.YtbpdenfiifcfcaaGreatDoor
namespace Go.Proofs.YtbpdenfiifcfcaaGreatDoor
open Go.RowKit


theorem box_two (w : World) (x0 x1 x2 y0 y1 y2 : Value) (T : TypeId) :
    ((w.alloc (.cells #[x0, x1, x2] T)).alloc (.cells #[y0, y1, y2] T)).cell? ⟨w.heap.size, 0, none⟩ = some x0 ∧ ((w.alloc (.cells #[x0, x1, x2] T)).alloc (.cells #[y0, y1, y2] T)).cell? ⟨w.heap.size, 1, none⟩ = some x1 ∧ ((w.alloc (.cells #[x0, x1, x2] T)).alloc (.cells #[y0, y1, y2] T)).cell? ⟨w.heap.size, 2, none⟩ = some x2 ∧
    ((w.alloc (.cells #[x0, x1, x2] T)).alloc (.cells #[y0, y1, y2] T)).cell? ⟨w.heap.size + 1, 0, none⟩ = some y0 ∧ ((w.alloc (.cells #[x0, x1, x2] T)).alloc (.cells #[y0, y1, y2] T)).cell? ⟨w.heap.size + 1, 1, none⟩ = some y1 ∧ ((w.alloc (.cells #[x0, x1, x2] T)).alloc (.cells #[y0, y1, y2] T)).cell? ⟨w.heap.size + 1, 2, none⟩ = some y2 ∧
    w.heap.size + 1 < ((w.alloc (.cells #[x0, x1, x2] T)).alloc (.cells #[y0, y1, y2] T)).heap.size := by
  have h1 := heap_alloc_new (w.alloc (.cells #[x0, x1, x2] T)) (.cells #[y0, y1, y2] T)
  rw [show (w.alloc (.cells #[x0, x1, x2] T)).heap.size = w.heap.size + 1 by simp] at h1
  obtain ⟨f0, f1, f2, f3⟩ := three_facts h1
  obtain ⟨g0, g1, g2, g3⟩ := three_facts (heap_alloc_new w (.cells #[x0, x1, x2] T))
  exact ⟨(World.cell?_alloc_old _ _ _ (Nat.ne_of_lt g3)).trans g0, (World.cell?_alloc_old _ _ _ (Nat.ne_of_lt g3)).trans g1, (World.cell?_alloc_old _ _ _ (Nat.ne_of_lt g3)).trans g2, f0, f1, f2, f3⟩

end Go.Proofs.YtbpdenfiifcfcaaGreatDoor
namespace Go.Proofs.YtbpdenfiifcfcaaGreatDoor
open Go.RowKit

end Go.Proofs.YtbpdenfiifcfcaaGreatDoor
namespace Go.Proofs.YtbpdenfiifcfcaaGreatDoor
open Go.RowKit

theorem ShG.small {g : Gn} (h : ShG g) : SmallN g.2.2 := ShN.small h.2
theorem madeN_small {n : Nm} (h : MadeN n) : SmallN n := small_of_sp (spN_of_made h) (by omega)
end Go.Proofs.YtbpdenfiifcfcaaGreatDoor
namespace Go.Proofs.YtbpdenfiifcfcaaGreatDoor
open Go.RowKit

end Go.Proofs.YtbpdenfiifcfcaaGreatDoor
namespace Go.Proofs.YtbpdenfiifcfcaaGreatDoor
open Go.RowKit

end Go.Proofs.YtbpdenfiifcfcaaGreatDoor
namespace Go.Proofs.YtbpdenfiifcfcaaGreatDoor
open Go.RowKit

end Go.Proofs.YtbpdenfiifcfcaaGreatDoor
namespace Go.Proofs.YtbpdenfiifcfcaaGreatDoor
open Go.RowKit

end Go.Proofs.YtbpdenfiifcfcaaGreatDoor
namespace Go.Proofs.YtbpdenfiifcfcaaGreatDoor
open Go.RowKit

noncomputable def encL (a : At) : List UInt8 := (encA a).data.toList
def leA (a b : At) : Prop := ¬ encL b < encL a
def Srt (l : List At) : Prop := l.Pairwise leA
theorem leA.trans {a b c : At} (h : leA a b) (k : leA b c) : leA a c := List.not_lt.2 (List.le_trans (List.not_lt.1 h) (List.not_lt.1 k))
theorem encA_inj {a b : At} (ha : okA a) (hb : okA b) (h : encL a = encL b) : a = b := by
  have h1 : encA a = encA b := ext_list_t h
  obtain ⟨_, _, e1⟩ := read_one (b := encA a) (c := inA a) (by have := inA_size ha; omega) rfl
  obtain ⟨_, _, e2⟩ := read_one (b := encA b) (c := inA b) (by have := inA_size hb; omega) rfl
  have e3 : inA a = inA b := by rw [← e1, ← e2, h1]
  have e4 := decA_elA ha
  have e5 := decA_elA hb
  have e6 : elA a = elA b := by unfold elA; rw [e3, h1]
  rw [e6, e5] at e4
  exact (Prod.mk.inj e4).2.symm
theorem sort_srt (r : List At) : Srt (sortR r) := by
  have tr : ∀ a b c : At, decide (encL a ≤ encL b) = true → decide (encL b ≤ encL c) = true → decide (encL a ≤ encL c) = true := fun a b c h1 h2 => by simp only [decide_eq_true_eq] at *; exact List.le_trans h1 h2
  have tot : ∀ a b : At, (decide (encL a ≤ encL b) || decide (encL b ≤ encL a)) = true := fun a b => by simp only [Bool.or_eq_true, decide_eq_true_eq]; exact List.le_total _ _
  exact (List.pairwise_mergeSort tr tot r).imp fun {a b} hh => List.not_lt.2 (of_decide_eq_true hh)
theorem sort_unique {D r : List At} (hs : Srt D) (hp : D.Perm r) (hok : ∀ a ∈ r, okA a) : D = sortR r := by
  refine List.Perm.eq_of_pairwise (le := leA) (fun a b ha hb h1 h2 => ?_) hs (sort_srt r) (hp.trans (sortR_perm r).symm)
  exact encA_inj (hok a (hp.mem_iff.1 ha)) (hok b ((sortR_perm r).mem_iff.1 hb)) (List.le_antisymm (List.not_lt.1 h1) (List.not_lt.1 h2))
end Go.Proofs.YtbpdenfiifcfcaaGreatDoor
namespace Go.Proofs.YtbpdenfiifcfcaaGreatDoor
open Go.RowKit

/-! ### A row of attributes -/
def RowG (w : World) (g : Nat) (rest : List Value) (D : List At) : Prop := w.heap[g]? = some (.cells (atsCells D ++ rest).toArray 86 (0, 0))
theorem RowG.lt {w : World} {g : Nat} {rest : List Value} {D : List At} (h : RowG w g rest D) : g < w.heap.size := (Array.getElem?_eq_some_iff.1 h).1
theorem RowG.below {w w' : World} {g : Nat} {rest : List Value} {D : List At} (h : RowG w g rest D) (hb : Below w.heap.size w w') : RowG w' g rest D := (hb.block g h.lt).trans h
theorem RowG.drew {w : World} {g : Nat} {rest : List Value} {D : List At} (h : RowG w g rest D) : RowG w.drew g rest D := h
theorem RowG.at {w : World} {g : Nat} {rest : List Value} {D : List At} (h : RowG w g rest D) (k : Nat) (hk : k < D.length) :
    w.cell? ⟨g, k * 3, none⟩ = some (.string (D.getD k noAt).1) ∧ w.cell? ⟨g, k * 3 + 1, none⟩ = some (.int .i64 (D.getD k noAt).2.1) ∧ w.cell? ⟨g, k * 3 + 2, none⟩ = some (.string (D.getD k noAt).2.2) ∧
      w.frozen? ⟨g, k * 3, none⟩ = false ∧ w.frozen? ⟨g, k * 3 + 1, none⟩ = false ∧ w.frozen? ⟨g, k * 3 + 2, none⟩ = false := by
  have hc : ∀ j, j < 3 → w.cell? ⟨g, k * 3 + j, none⟩ = (atCells (D.getD k noAt))[j]? := fun j hj => by
    rw [Lib.cell_of_heap h, List.getElem?_toArray, List.getElem?_append_left (by rw [atsCells_length]; omega)]
    exact ats_at D k hk j hj
  exact ⟨hc 0 (by omega), hc 1 (by omega), hc 2 (by omega), Lib.frozen_of_heap h _, Lib.frozen_of_heap h _, Lib.frozen_of_heap h _⟩
end Go.Proofs.YtbpdenfiifcfcaaGreatDoor
namespace Go.Proofs.YtbpdenfiifcfcaaGreatDoor
open Go.RowKit

/-! ### The bytes of object identifiers and of escaped texts -/
/-! ### Keys -/
/-- A relative name without an error. -/
def okR (r : List At) : Prop := 1 ≤ r.length ∧ (∀ a ∈ r, okA a) ∧ (r.map (·.1)).Nodup
end Go.Proofs.YtbpdenfiifcfcaaGreatDoor
namespace Go.Proofs.YtbpdenfiifcfcaaGreatDoor
open Go.RowKit

/-! ### What is written -/
/-! ### What is read -/
end Go.Proofs.YtbpdenfiifcfcaaGreatDoor
namespace Go.Proofs.YtbpdenfiifcfcaaGreatDoor
open Go.RowKit Go.Sort

end Go.Proofs.YtbpdenfiifcfcaaGreatDoor
namespace Go.Proofs.YtbpdenfiifcfcaaGreatDoor
open Go.RowKit Go.Sort

end Go.Proofs.YtbpdenfiifcfcaaGreatDoor
namespace Go.Proofs.YtbpdenfiifcfcaaGreatDoor
open Go.RowKit

/-! ### shortOf -/
/-! ### Clone -/
end Go.Proofs.YtbpdenfiifcfcaaGreatDoor
namespace Go.Proofs.YtbpdenfiifcfcaaGreatDoor
open Go.RowKit

end Go.Proofs.YtbpdenfiifcfcaaGreatDoor
namespace Go.Proofs.YtbpdenfiifcfcaaGreatDoor
open Go.RowKit

def PreF (r : List At) : Prop := okR r ∧ r.length ≤ 4 ∧ ∀ x ∈ r, x.1.size ≤ 200000
theorem PreF.small {r : List At} (h : PreF r) : SmallR r := by
  refine ⟨Nat.le_trans h.2.1 (by omega), fun j hj => ?_⟩
  have hm := getD_memS r j hj noAt
  exact ⟨Nat.le_trans (h.2.2 _ hm) (by omega), Nat.le_trans (h.1.2.1 _ hm).2.2.2 (by omega)⟩

end Go.Proofs.YtbpdenfiifcfcaaGreatDoor
namespace Go.Proofs.YtbpdenfiifcfcaaGreatDoor
open Go.RowKit

end Go.Proofs.YtbpdenfiifcfcaaGreatDoor
namespace Go.Proofs.YtbpdenfiifcfcaaGreatDoor
open Go.RowKit

theorem perm_take {L : List At} {m : Nat} (h : m < L.length) : L.Perm (L.getD m noAt :: (L.take m ++ L.drop (m + 1))) := by
  have e : L = L.take m ++ L.getD m noAt :: L.drop (m + 1) := by
    rw [← dropD L m h noAt, List.take_append_drop]
  conv => lhs; rw [e]
  exact List.perm_middle
/-- What is left and what was taken. -/
def Picked (r D L : List At) : Prop := (D ++ L).Perm r ∧ Srt D ∧ ∀ d ∈ D, ∀ x ∈ L, leA d x
theorem Picked.next {r D L : List At} (h : Picked r D L) {m : Nat} (hm : m < L.length) (hl : ∀ i, i < L.length → leA (L.getD m noAt) (L.getD i noAt)) : Picked r (D ++ [L.getD m noAt]) (L.take m ++ L.drop (m + 1)) := by
  obtain ⟨h1, h2, h3⟩ := h
  have hp := perm_take hm
  have hmem : L.getD m noAt ∈ L := getD_memS L m hm noAt
  have hin : ∀ x ∈ L.take m ++ L.drop (m + 1), x ∈ L := fun x hx => hp.mem_iff.2 (List.mem_cons_of_mem _ hx)
  refine ⟨?_, ?_, fun d hd x hx => ?_⟩
  · rw [List.append_assoc, List.singleton_append]
    exact (List.Perm.append_left D hp.symm).trans h1
  · unfold Srt
    rw [List.pairwise_append]
    exact ⟨h2, List.pairwise_singleton _ _, fun a ha b hb => by rw [List.mem_singleton.1 hb]; exact h3 a ha _ hmem⟩
  · rcases List.mem_append.1 hd with hd | hd
    · exact h3 d hd x (hin x hx)
    · rw [List.mem_singleton.1 hd]
      obtain ⟨i, hi, e⟩ := List.getElem_of_mem (hin x hx)
      have := hl i hi
      rwa [getD_mem hi _, e] at this
theorem Picked.done {r D : List At} (h : Picked r D []) (hok : ∀ a ∈ r, okA a) : D = sortR r := sort_unique h.2.1 (by have := h.1; rwa [List.append_nil] at this) hok
/-! ### The short types, the last one that fits -/
/-! ### Slices of a row of attributes -/
end Go.Proofs.YtbpdenfiifcfcaaGreatDoor
namespace Go.Proofs.YtbpdenfiifcfcaaGreatDoor
open Go.ChangeShapes Go.WideShapes Go.ChangeAt Go.RowKit Go.ChangeMaps Go.Deep

def AtOk (a : At) : Prop := a.1.size ≤ 9223372036854775807 ∧ a.2.2.size ≤ 9223372036854775807 ∧ -9223372036854775808 ≤ a.2.1 ∧ a.2.1 ≤ 9223372036854775807
def RdnOk (r : List At) : Prop := r.length ≤ 9223372036854775807 ∧ ∀ i, i < r.length → AtOk (r.getD i noAt)
def NameOk (n : Nm) : Prop := n.length ≤ 9223372036854775807 ∧ ∀ i, i < n.length → RdnOk (n.getD i [])

theorem getD_map_range {α : Type} (f : Nat → α) (n i : Nat) (h : i < n) (d : α) : ((List.range n).map f).getD i d = f i := by
  rw [List.getD_eq_getElem?_getD, List.getElem?_map, List.getElem?_range h]; rfl
set_option maxRecDepth 10000 in
/-- One attribute, of three cells. -/
theorem open_at {H : Type} {enc : TypeId × Value → H} {W : World} {n : Nat} {cs : List Value} {x : DataW H × List MemPlace} (h : DataW.trod enc Tryz.prog W 0 (fun _ => true) true n 86 cs = some x) :
    ∃ t : At, cs = [.string t.1, .int .i64 t.2.1, .string t.2.2] ∧ AtOk t := by
  obtain ⟨xs, k, _, _, hl, hlen, hfd⟩ := DataW.trod_struct Tryz.underlying86 h
  have c1 : Tryz.prog.cellsOf 3 = 1 := by kernel_rfl
  have c2 : Tryz.prog.cellsOf 9 = 1 := by kernel_rfl
  have c3 : Tryz.prog.cellsOf 86 = 3 := by kernel_rfl
  have hlen3 : xs.length = 3 := hlen
  have hs3 : cs.length = 3 := hl.trans c3
  match xs, hlen3 with
  | [y0, y1, y2], _ =>
    match cs, hs3 with
    | [z0, z1, z2], _ =>
      have g0 : DataW.trod enc Tryz.prog W 0 (fun _ => true) true k 9 (([z0, z1, z2].drop 0).take (Tryz.prog.cellsOf 9)) = some y0 := hfd 0 _ rfl
      rw [c2] at g0
      obtain ⟨s0, e0, _, w0⟩ := DataW.trod_string Tryz.underlying9 g0
      have g1 : DataW.trod enc Tryz.prog W 0 (fun _ => true) true k 3 (([z0, z1, z2].drop 1).take (Tryz.prog.cellsOf 3)) = some y1 := hfd 1 _ rfl
      rw [c1] at g1
      obtain ⟨n1, e1, _, w1⟩ := DataW.trod_int Tryz.underlying3 g1
      have g2 : DataW.trod enc Tryz.prog W 0 (fun _ => true) true k 9 (([z0, z1, z2].drop 2).take (Tryz.prog.cellsOf 9)) = some y2 := hfd 2 _ rfl
      rw [c2] at g2
      obtain ⟨s2, e2, _, w2⟩ := DataW.trod_string Tryz.underlying9 g2
      have r0 : z0 = .string s0 := by simpa using e0
      have r1 : z1 = .int .i64 n1 := by simpa using e1
      have r2 : z2 = .string s2 := by simpa using e2
      have b1 := bounds_i64 w1
      refine ⟨(s0, n1, s2), by rw [r0, r1, r2], ?_, ?_, ?_, ?_⟩
      · show s0.size ≤ _
        unfold maxLen at w0; omega
      · show s2.size ≤ _
        unfold maxLen at w2; omega
      · exact b1.1
      · exact b1.2
set_option maxRecDepth 10000 in
theorem open_ats {H : Type} {enc : TypeId × Value → H} {W : World} {n : Nat} {z : Value} {x : DataW H × List MemPlace} (h : DataW.trod enc Tryz.prog W 0 (fun _ => true) true n 84 [z] = some x) :
    ∃ a c, ∃ l : List At, z = .slice a l.length c ∧ l.length ≤ c ∧ ALies W a l ∧ RdnOk l := by
  have c3 : Tryz.prog.cellsOf 86 = 3 := by kernel_rfl
  rcases open_slice Tryz.underlying84 h with ⟨hcs, _⟩ | ⟨a, len, cap, m, k, D, Pl, hcs, _, hl, hm, hmm, _, hx⟩
  · exact ⟨none, 0, [], by simpa using hcs, by simp, .inl rfl, by simp, fun i hi => absurd hi (Nat.not_lt_zero _)⟩
  · have hlm : len ≤ m := by rw [hmm]; split <;> omega
    obtain ⟨f, hf⟩ := choose_lt (α := At) (n := len) (p := fun i t => AtOk t ∧ W.cell? (a.add (i * 3)) = some (.string t.1) ∧ W.cell? (a.add (i * 3 + 1)) = some (.int .i64 t.2.1) ∧ W.cell? (a.add (i * 3 + 2)) = some (.string t.2.2)) (fun i hi => by
      obtain ⟨cs', h1, h2⟩ := hx i (by omega)
      obtain ⟨t, rfl, ht⟩ := open_at h2
      rw [c3] at h1
      obtain ⟨_, _, hc⟩ := World.cells?_some h1
      have e0 := hc 0 (by omega)
      have e1 := hc 1 (by omega)
      have e2 := hc 2 (by omega)
      rw [add_add] at e0 e1 e2
      exact ⟨t, ht, by simpa using e0, by simpa using e1, by simpa using e2⟩)
    refine ⟨some a, cap, (List.range len).map f, by simpa using hcs, by simpa using hl, ?_, by simp; unfold maxLen at hm; omega, fun i hi => ?_⟩
    · by_cases h0 : len = 0
      · exact .inl (by rw [h0]; rfl)
      · obtain ⟨b, off, spot⟩ := a
        have hspot : spot = none := by
          have := (hf 0 (by omega)).2.1
          simpa [Addr.add] using World.cell?_spot this
        subst hspot
        refine .inr ⟨b, off, rfl, fun i hi => ?_⟩
        simp at hi
        rw [getD_map_range _ _ _ hi]
        have hh := (hf i hi).2
        rw [Go.WideShapes.add_plain, Go.WideShapes.add_plain, Go.WideShapes.add_plain] at hh
        simpa [Nat.add_assoc] using hh
    · simp at hi
      rw [getD_map_range _ _ _ hi]
      exact (hf i hi).1
set_option maxRecDepth 10000 in
theorem open_rdns {H : Type} {enc : TypeId × Value → H} {W : World} {n : Nat} {z : Value} {x : DataW H × List MemPlace} (h : DataW.trod enc Tryz.prog W 0 (fun _ => true) true n 25 [z] = some x) :
    ∃ a c, ∃ l : Nm, z = .slice a l.length c ∧ l.length ≤ c ∧ RLies W a l ∧ NameOk l := by
  have c1 : Tryz.prog.cellsOf 84 = 1 := by kernel_rfl
  rcases open_slice1 Tryz.underlying25 c1 h with ⟨hcs, _⟩ | ⟨a, len, cap, m, k, V, D, Pl, hcs, _, hl, hm, hmm, _, hx⟩
  · exact ⟨none, 0, [], by simpa using hcs, by simp, .inl rfl, by simp, fun i hi => absurd hi (Nat.not_lt_zero _)⟩
  · have hlm : len ≤ m := by rw [hmm]; split <;> omega
    obtain ⟨f, hf⟩ := choose_lt (α := List At) (n := len) (p := fun i r => RdnOk r ∧ ∃ a' c', W.cell? (a.add i) = some (.slice a' r.length c') ∧ r.length ≤ c' ∧ ALies W a' r) (fun i hi => by
      obtain ⟨h1, h2⟩ := hx i (by omega)
      obtain ⟨a', c', l, e, hl3, hl, hk⟩ := open_ats h2
      exact ⟨l, hk, a', c', by rw [← e]; exact h1, hl3, hl⟩)
    refine ⟨some a, cap, (List.range len).map f, by simpa using hcs, by simpa using hl, ?_, by simp; unfold maxLen at hm; omega, fun i hi => ?_⟩
    · by_cases h0 : len = 0
      · exact .inl (by rw [h0]; rfl)
      · obtain ⟨b, off, spot⟩ := a
        have hspot : spot = none := by
          obtain ⟨_, _, _, q, _⟩ := hf 0 (by omega)
          simpa [Addr.add] using World.cell?_spot q
        subst hspot
        refine .inr ⟨b, off, rfl, fun i hi => ?_⟩
        simp at hi
        rw [getD_map_range _ _ _ hi]
        obtain ⟨_, a', c', q1, q3, q2⟩ := hf i hi
        rw [Go.WideShapes.add_plain] at q1
        exact ⟨a', c', q1, q3, q2⟩
    · simp at hi
      rw [getD_map_range _ _ _ hi]
      exact (hf i hi).1
end Go.Proofs.YtbpdenfiifcfcaaGreatDoor
namespace Go.Proofs.YtbpdenfiifcfcaaGreatDoor
open Go.RowKit

/-- A row of attributes of a call's own: its cells, and that they may be written. -/
theorem OwnA.open {w : World} {B : Nat} {v : Value} {l : List At} (h : OwnA w B v l) (h0 : l ≠ []) : ∃ g c, v = .slice (some ⟨g, 0, none⟩) l.length c ∧ B ≤ g ∧ g < w.heap.size ∧ (∀ j, w.frozen? ⟨g, j, none⟩ = false) ∧
    ∀ i, i < l.length → w.cell? ⟨g, i * 3, none⟩ = some (.string (l.getD i noAt).1) ∧ w.cell? ⟨g, i * 3 + 1, none⟩ = some (.int .i64 (l.getD i noAt).2.1) ∧ w.cell? ⟨g, i * 3 + 2, none⟩ = some (.string (l.getD i noAt).2.2) := by
  obtain ⟨a, c, hv, hc, hl⟩ := h.lies
  rcases h.2 with ⟨_, h1⟩ | ⟨g, cap, cur, hv', hB, hg, _⟩
  · exact absurd (List.eq_nil_of_length_eq_zero h1) h0
  · rw [hv] at hv'
    obtain ⟨rfl, rfl⟩ : a = some ⟨g, 0, none⟩ ∧ c = cap := by simpa using hv'
    refine ⟨g, c, hv, hB, (Array.getElem?_eq_some_iff.1 hg).1, fun j => Lib.frozen_of_heap hg j, fun i hi => ?_⟩
    rcases hl with e | ⟨b, o, e, hh⟩
    · exact absurd e h0
    · obtain ⟨rfl, rfl⟩ : g = b ∧ 0 = o := by simpa using e
      simpa using hh i hi

/-! ### A parameter of type api.Attribute -/
end Go.Proofs.YtbpdenfiifcfcaaGreatDoor
namespace Go.Proofs.YtbpdenfiifcfcaaGreatDoor
open Go.RowKit

theorem ALies.drop {w : World} {b o : Nat} {l : List At} (h : ALies w (some ⟨b, o, none⟩) l) (k : Nat) : ALies w (some ⟨b, o + k * 3, none⟩) (l.drop k) := by
  rcases h with h | ⟨b', o', e, hc⟩
  · exact .inl (by rw [h]; simp)
  · obtain ⟨rfl, rfl⟩ : b = b' ∧ o = o' := by simpa using e
    refine .inr ⟨b, o + k * 3, rfl, fun i hi => ?_⟩
    rw [List.length_drop] at hi
    obtain ⟨c0, c1, c2⟩ := hc (k + i) (by omega)
    have e2 : (l.drop k).getD i noAt = l.getD (k + i) noAt := by rw [List.getD_eq_getElem?_getD, List.getD_eq_getElem?_getD, List.getElem?_drop]
    rw [e2, show o + k * 3 + i * 3 = o + (k + i) * 3 by omega]
    exact ⟨c0, c1, c2⟩
end Go.Proofs.YtbpdenfiifcfcaaGreatDoor
namespace Go.Proofs.YtbpdenfiifcfcaaGreatDoor
open Go.RowKit

end Go.Proofs.YtbpdenfiifcfcaaGreatDoor
namespace Go.Proofs.YtbpdenfiifcfcaaGreatDoor
open Go.RowKit

end Go.Proofs.YtbpdenfiifcfcaaGreatDoor
namespace Go.Proofs.YtbpdenfiifcfcaaGreatDoor
open Go.RowKit

end Go.Proofs.YtbpdenfiifcfcaaGreatDoor
namespace Go.Proofs.YtbpdenfiifcfcaaGreatDoor
open Go.RowKit

/-- A general name of a generator: no constraint, or one. -/
def OkC (con : Bool) (k : Int) (t : List UInt8) (n : Nm) : Prop := if con = true then BseOk k t n else GenOk k t n
set_option maxRecDepth 100000 in
theorem okC_parts {con : Bool} {k : Int} {t : List UInt8} {n : Nm} (h : OkC con k t n) : ((k = 1 ∨ k = 2 ∨ k = 7) ∧ okT k con t = true ∧ n = [] ∧ t.length ≤ 64) ∨ (k = 4 ∧ t = [] ∧ MadeN n) := by
  unfold OkC at h
  cases con with
  | false =>
    rw [if_neg (by decide)] at h
    have hl := (gen_len h).1
    rcases h with ⟨rfl, h, rfl⟩ | ⟨rfl, h, rfl⟩ | ⟨rfl, h, rfl⟩ | ⟨rfl, rfl, h⟩
    · exact .inl ⟨.inl rfl, (show ∀ t ∈ genMail, mailB t = true by decide +kernel) t h, rfl, hl⟩
    · exact .inl ⟨.inr (.inl rfl), (show ∀ t ∈ genDns, patB t = true by decide +kernel) t h, rfl, hl⟩
    · exact .inl ⟨.inr (.inr rfl), (show ∀ t ∈ genAddr, addrB t = true by decide +kernel) t h, rfl, hl⟩
    · exact .inr ⟨rfl, rfl, h⟩
  | true =>
    rw [if_pos rfl] at h
    have hl := (bse_len h).1
    rcases h with ⟨rfl, h, rfl⟩ | ⟨rfl, h, rfl⟩ | ⟨rfl, h, rfl⟩ | ⟨rfl, rfl, h⟩
    · exact .inl ⟨.inl rfl, (show ∀ t ∈ bseMail, mailBaseB t = true by decide +kernel) t h, rfl, hl⟩
    · exact .inl ⟨.inr (.inl rfl), (show ∀ t ∈ bseDns, baseB t = true by decide +kernel) t h, rfl, hl⟩
    · exact .inl ⟨.inr (.inr rfl), (show ∀ t ∈ bseAddr, rangeB t = true by decide +kernel) t h, rfl, hl⟩
    · exact .inr ⟨rfl, rfl, h⟩
theorem okC_len {con : Bool} {k : Int} {t : List UInt8} {n : Nm} (h : OkC con k t n) : t.length ≤ 64 ∧ MadeN n := by
  rcases okC_parts h with ⟨_, _, rfl, hl⟩ | ⟨_, rfl, hn⟩
  · exact ⟨hl, by decide, fun r hr => by cases hr⟩
  · exact ⟨by decide, hn⟩
/-! ### Texts -/
/-! ### Lists -/
end Go.Proofs.YtbpdenfiifcfcaaGreatDoor
namespace Go.Proofs.YtbpdenfiifcfcaaGreatDoor
open Go.RowKit

end Go.Proofs.YtbpdenfiifcfcaaGreatDoor
namespace Go.Proofs.YtbpdenfiifcfcaaGreatDoor
open Go.RowKit

/-! ### Within, for every kind -/
theorem withinG_2 (t u : List UInt8) (n m : Nm) : withinG 2 t n 2 u m = dnsWithinB t u := by unfold withinG; rw [if_neg (by decide), if_neg (by decide), if_pos rfl]
/-! ### Bases that are the same -/
/-! ### States -/
abbrev GnS := Int × List UInt8 × Nm
abbrev SubS := List GnS × List GnS
noncomputable def wG (g b : GnS) : Bool := withinG g.1 g.2.1 g.2.2 b.1 b.2.1 b.2.2
noncomputable def inG (g : GnS) (l : List GnS) : Bool := l.any (wG g)
def limG (l : List GnS) (k : Int) : Bool := l.any (fun b => decide (b.1 = k))
noncomputable def perG (st : List SubS) (g : GnS) : Bool := st.all (fun s => !(inG g s.2 || limG s.1 g.1 && !inG g s.1))
end Go.Proofs.YtbpdenfiifcfcaaGreatDoor
namespace Go.Proofs.YtbpdenfiifcfcaaGreatDoor
open Go.RowKit

abbrev Sub := List Gn × List Gn
def noSub : Sub := ([], [])
/-- At the address lie the constraints l. -/
def SLies (w : World) (a : Option Addr) (l : List Sub) : Prop :=
  l = [] ∨ ∃ b o, a = some ⟨b, o, none⟩ ∧ ∀ i, i < l.length → ∃ a1 c1 a2 c2, w.cell? ⟨b, o + i * 2, none⟩ = some (.slice a1 (l.getD i noSub).1.length c1) ∧ w.cell? ⟨b, o + i * 2 + 1, none⟩ = some (.slice a2 (l.getD i noSub).2.length c2) ∧
    ((l.getD i noSub).1.length ≤ c1 ∧ GLies w a1 (l.getD i noSub).1) ∧ (l.getD i noSub).2.length ≤ c2 ∧ GLies w a2 (l.getD i noSub).2
theorem SLies.below {w w' : World} {a : Option Addr} {l : List Sub} (h : SLies w a l) (hb : Below w.heap.size w w') : SLies w' a l := by
  rcases h with h | ⟨b, o, h1, h2⟩
  · exact .inl h
  · refine .inr ⟨b, o, h1, fun i hi => ?_⟩
    obtain ⟨a1, c1, a2, c2, e1, e2, ⟨h3, h4⟩, h5, h6⟩ := h2 i hi
    exact ⟨a1, c1, a2, c2, (hb.cell (block_lt e1)).trans e1, (hb.cell (block_lt e2)).trans e2, ⟨h3, h4.below hb⟩, h5, h6.below hb⟩
theorem SLies.at {w : World} {a : Option Addr} {l : List Sub} (h : SLies w a l) (k : Nat) (hk : k < l.length) : ∃ b o, a = some ⟨b, o, none⟩ ∧ b < w.heap.size ∧ ∃ a1 c1 a2 c2, w.cell? ⟨b, o + k * 2, none⟩ = some (.slice a1 (l.getD k noSub).1.length c1) ∧ w.cell? ⟨b, o + k * 2 + 1, none⟩ = some (.slice a2 (l.getD k noSub).2.length c2) ∧
    ((l.getD k noSub).1.length ≤ c1 ∧ GLies w a1 (l.getD k noSub).1) ∧ (l.getD k noSub).2.length ≤ c2 ∧ GLies w a2 (l.getD k noSub).2 := by
  rcases h with h | ⟨b, o, h1, h2⟩
  · rw [h] at hk; exact absurd hk (Nat.not_lt_zero _)
  · obtain ⟨a1, c1, a2, c2, e1, e2, h3, h4⟩ := h2 k hk
    exact ⟨b, o, h1, block_lt e1, a1, c1, a2, c2, e1, e2, h3, h4⟩
/-! ### One name after the other -/
theorem perG_step (g : Gn) : ∀ (l : List Sub) (k : Nat), k < l.length → perG (l.drop k) g = (!(inG g (l.getD k noSub).2 || limG (l.getD k noSub).1 g.1 && !inG g (l.getD k noSub).1) && perG (l.drop (k + 1)) g)
  | [], k, h => absurd h (Nat.not_lt_zero _)
  | b :: r, 0, _ => rfl
  | b :: r, k + 1, h => by
    have := perG_step g r k (by simpa using h)
    simpa using this
/-! ### What the generator makes -/
/-- Bounds under which the functions on general names are known. -/
def SmG (g : Gn) : Prop := g.2.1.length ≤ 150000 ∧ SmallN g.2.2
def SmL (l : List Gn) : Prop := ∀ g ∈ l, SmG g
def SmS (L : List Sub) : Prop := ∀ s ∈ L, SmL s.1 ∧ SmL s.2
theorem SmL.at {l : List Gn} (h : SmL l) {i : Nat} (hi : i < l.length) : SmG (l.getD i noG) := by
  rw [List.getD_eq_getElem?_getD, List.getElem?_eq_getElem hi]; exact h _ (List.getElem_mem hi)
theorem SmS.at {l : List Sub} (h : SmS l) {i : Nat} (hi : i < l.length) : SmL (l.getD i noSub).1 ∧ SmL (l.getD i noSub).2 := by
  rw [List.getD_eq_getElem?_getD, List.getElem?_eq_getElem hi]; exact h _ (List.getElem_mem hi)
def BsG (g : Gn) : Prop := BseOk g.1 g.2.1 g.2.2
/-- Constraints of the generator. -/
def GenB (s : Sub) : Prop := s.1.length ≤ 3 ∧ s.2.length ≤ 2 ∧ ¬ (s.1.length = 0 ∧ s.2.length = 0) ∧ (∀ g ∈ s.1, BsG g) ∧ ∀ g ∈ s.2, BsG g
end Go.Proofs.YtbpdenfiifcfcaaGreatDoor
namespace Go.Proofs.YtbpdenfiifcfcaaGreatDoor
open Go.RowKit

noncomputable def eGt (g : Gn) : ByteArray := encG true g.1 g.2.1 g.2.2
noncomputable def xGt (g : Gn) : Nat := chkG true g.1 g.2.1 g.2.2
/-- The first error of a list of bases. -/
noncomputable def errT : List Gn → Nat
  | [] => 0
  | g :: r => if xGt g ≠ 0 then xGt g else errT r
noncomputable def chkS (s : Sub) : Nat := if s.1.length = 0 ∧ s.2.length = 0 then 7 else if 16 < s.1.length ∨ 16 < s.2.length then 2 else errT (s.1 ++ s.2)
noncomputable def treeB (g : Gn) : ByteArray := wr1 48 (eGt g)
noncomputable def treesB (l : List Gn) : ByteArray := ⟨(cat_t (l.map treeB)).toArray⟩
noncomputable def fitB (T : Int) (x : ByteArray) : ByteArray × Nat := if x.size ≤ 131072 then (wr1 T x, 0) else (⟨#[]⟩, 2)
noncomputable def partB (T : Int) (l : List Gn) : ByteArray × Nat := if l.length = 0 then (⟨#[]⟩, 0) else fitB T (treesB l)
noncomputable def encSub (s : Sub) : ByteArray × Nat :=
  if chkS s ≠ 0 then (⟨#[]⟩, chkS s) else if (partB 160 s.1).2 ≠ 0 then (⟨#[]⟩, (partB 160 s.1).2) else if (partB 161 s.2).2 ≠ 0 then (⟨#[]⟩, (partB 161 s.2).2) else fitB 48 ⟨((partB 160 s.1).1.data.toList ++ (partB 161 s.2).1.data.toList).toArray⟩

/-! ### Decoding -/
/-! ### Back -/
def OkG (g : Gn) : Prop := OkC true g.1 g.2.1 g.2.2
end Go.Proofs.YtbpdenfiifcfcaaGreatDoor
namespace Go.Proofs.YtbpdenfiifcfcaaGreatDoor
open Go.RowKit

theorem two_facts {w : World} {g : Nat} {x y : Value} {t : TypeId} (h : w.heap[g]? = some (.cells #[x, y] t (0, 0))) :
    w.cell? ⟨g, 0, none⟩ = some x ∧ w.cell? ⟨g, 1, none⟩ = some y ∧ g < w.heap.size := by
  refine ⟨?_, ?_, (Array.getElem?_eq_some_iff.1 h).1⟩ <;> (rw [Lib.cell_of_heap h]; rfl)
theorem heap_first (w : World) (o p : Obj) : ((w.alloc o).alloc p).heap[w.heap.size]? = (w.alloc o).heap[w.heap.size]? := (belowNew (w.alloc o) p).block _ (by simp)
theorem heap_second (w : World) (o : Obj) (cs : Array Value) (T : TypeId) : ((w.alloc o).alloc (.cells cs T)).heap[w.heap.size + 1]? = some (.cells cs T (0, 0)) := by
  have := heap_alloc_new (w.alloc o) (.cells cs T)
  simpa using this
end Go.Proofs.YtbpdenfiifcfcaaGreatDoor
