/-
  The contract of the reference's SameGenerals, for two rows of general names that are equal apart from the order of attributes.
  General names that are the same are within the same bases: plain laws; and what the law GnameSame wants of the program's functions.
  Attributes in the order of their encodings: there is one such order. Nothing is claimed of the program here.
  The contracts of formatRelative's comparison and of slices.SortFunc over attributes, for at most twelve of them.
  The keys of names as texts: two valid names have the same key exactly if they match. Nothing is claimed of the program here.
  Names as texts: what is written is read, and the name that is read matches. Nothing is claimed of the program here.
  The contracts of assign, of Key's closure and of join of the program.
  The contract of join of the program, over whatever function answers for the relative names.
  The contracts of shortOf, of slices.Clone and slices.SortFunc over attributes, and of formatRelative.
  The contracts of slices.SortFunc over attributes and of formatRelative.
  The contracts of formatRelative and of Format.
  The contract of Format.
  What the reference's FormatName does, as plain laws: the least attribute is taken again and again; the short types. Nothing is claimed of the program here.
  A name that can be read: its relative names lie at its address, and their attributes at theirs.
  A store into a cell of a name leaves a name in memory, of the same numbers of relative names and attributes. A parameter of type api.Attribute.
  The contract of the reference's FormatName.
  The contract of the reference's FormatGeneral: the text of a general name.
  The names of the generator have no error, nor have they when their kinds are those that Parse gives. Nothing is claimed of the program here.
  The walk of the law NameText: for every name and list of numbers it returns true, and leaves all that was there as it was.
-/
import Derived.Test.YtbpdenfiifcfcaaGreatDoorKax
import Derived.Test.YtbpdenfiifcfcaaGreatDoorKbf
import Derived.Lib.QuietBelow
import Derived.BigQuiet
import Derived.Test.YtbpdenfiifcfcaaGreatDoorKay
import Derived.Test.YtbpdenfiifcfcaaGreatDoorKbd
import Derived.Test.YtbpdenfiifcfcaaGreatDoorKaq
import Derived.Test.YtbpdenfiifcfcaaGreatDoorKba
import Derived.Test.YtbpdenfiifcfcaaGreatDoorKaj
import Derived.Test.YtbpdenfiifcfcaaGreatDoorKap
import Derived.Deep.RegionHeld3
import Derived.Test.YtbpdenfiifcfcaaGreatDoorKbc
import Derived.Test.YtbpdenfiifcfcaaGreatDoorKab
import Derived.Test.YtbpdenfiifcfcaaGreatDoorKad
import Derived.Test.YtbpdenfiifcfcaaGreatDoorKac
import Derived.Test.YtbpdenfiifcfcaaGreatDoorKaa
import Derived.Lib.SliceRun
import Derived.Test.YtbpdenfiifcfcaaGreatDoorKag
import Derived.Test.YtbpdenfiifcfcaaGreatDoorKaf
import Derived.ProofKit
import Derived.OpenShut
import Derived.Deep.Slices
import Derived.Deep.Strs
import Derived.Deep.DeepHandedRow
import Derived.Test.YtbpdenfiifcfcaaGreatDoorKah
import Derived.Test.YtbpdenfiifcfcaaGreatDoorKbe
import Derived.Deep.CutRange
import Derived.Test.YtbpdenfiifcfcaaGreatDoorKbb
namespace Go.Proofs.YtbpdenfiifcfcaaGreatDoor
open Go.RowKit

def AlikeG (g h : Gn) : Prop := g.1 = h.1 ∧ g.2.1 = h.2.1 ∧ SmallN g.2.2 ∧ g.2.2.length = h.2.2.length ∧ (∀ i, i < g.2.2.length → (h.2.2.getD i []).length = (g.2.2.getD i []).length) ∧ ∀ i, i < g.2.2.length → ∀ x ∈ g.2.2.getD i [], x ∈ h.2.2.getD i []
set_option maxRecDepth 100000 in
set_option maxHeartbeats 4000000 in
theorem samesG_core (a0 b0 : Option Addr) (c d m : Nat) (l l' : List Gn) (w : World) (h1 : GLies w a0 l) (h2 : GLies w b0 l') (hn : m = l.length) (hn' : m = l'.length) (hm : m ≤ 1000000) (hq : ∀ i, i < l.length → AlikeG (l.getD i noG) (l'.getD i noG)) :
    Calls Tryz.prog 44 #[.slice a0 m c, .slice b0 m d] w fun e w' => e = .returned (.bool true) ∧ Below w.heap.size w w' := by
  have H1 := Lib.hid h1
  have H2 := Lib.hid h2
  have HN := Lib.hid hn
  have HN' := Lib.hid hn'
  have HQ := Lib.hid hq
  clear h1 h2 hn hn' hq
  go_enter Tryz.func44, Tryz.ntmps44
  go_wp2_with fail
  go_loopw [13] (fun i wr => ∃ k : Nat, k ≤ m ∧ i = .int .i64 k ∧ Below w.heap.size w wr) (fun i _ => m - (intOf i).toNat)
  case atStart => exact ⟨0, Nat.zero_le _, rfl, Below.refl _ _⟩
  case round =>
    obtain ⟨wz, hwz⟩ : ∃ wz, wz = wr := ⟨_, rfl⟩
    subst hwz
    obtain ⟨k, hk, rfl, hb⟩ := hrel
    have HB := Lib.hid hb
    clear hb
    by_cases hlt : k < m
    · have hd : decide ((k : Int) < (m : Int)) = true := by simp; omega
      obtain ⟨b, o, rfl, hb, e0, e1, a1, c1, e2, hc1, hL1⟩ := (H1.out.below HB.out).at k (by rw [← HN.out]; exact hlt)
      obtain ⟨b', o', rfl, hb', e0', e1', a1', c1', e2', hc1', hL1'⟩ := (H2.out.below HB.out).at k (by rw [← HN'.out]; exact hlt)
      have hs := HQ.out k (by rw [← HN.out]; exact hlt)
      generalize l.getD k noG = G at e0 e1 e2 hL1 hc1 hs
      generalize l'.getD k noG = G' at e0' e1' e2' hL1' hc1' hs
      obtain ⟨q, t, n⟩ := G
      obtain ⟨q', t', n'⟩ := G'
      obtain ⟨hs1, hs2, hs3, hs4, hs5, hs6⟩ := hs
      simp only at e0 e1 e2 hL1 hc1 e0' e1' e2' hL1' hc1' hs1 hs2 hs3 hs4 hs5 hs6
      obtain rfl := hs1
      obtain rfl := hs2
      obtain ⟨N, hNn⟩ : ∃ N, N = n.length := ⟨_, rfl⟩
      rw [← hNn] at e2 hs4 hs5 hs6
      rw [← hs4] at e2'
      have HX := Lib.hid (fun W (hb : Below wz.heap.size wz W) => same_core a1 a1' c1 c1' N n n' W (hL1.below hb) (hL1'.below hb) hNn hs4 hs3 hs5 hs6)
      clear hb hb' hL1 hL1' hc1 hc1' hs3 hs4 hs5 hs6 hNn
      have f1 : ∀ d os, _ := fun d os => Calls.regrown_of (HX.out (Sort.grow (redrawn wz d) os) (below_regrown wz d os))
      have g0 := cell_regrown e0
      have g1 := cell_regrown e1
      have g2 := cell_regrown e2
      have g0' := cell_regrown e0'
      have g1' := cell_regrown e1'
      have g2' := cell_regrown e2'
      clear e0 e1 e2 e0' e1' e2'
      go_wp2_with fail
      refine wp_region_quiet_below (by kernel_rfl) (by kernel_rfl) ?_
      repeat (go_big_quiet_step (with_reducible first | exact f1 _ _))
      refine wpQuiet_nil ?_
      intro _ hw'
      obtain ⟨⟨dq, osq⟩, hw''⟩ := hw'
      subst hw''
      have HBR := Lib.hid (HB.out.trans ((below_regrown wz dq osq).mono HB.out.size))
      clear f1 g0 g1 g2 g0' g1' g2'
      go_wp2_with fail
      go_roundw
      case rel => exact ⟨k + 1, by omega, by go_num, HBR.out⟩
      case measure => simp [intOf]; omega
    · have hd : decide ((k : Int) < (m : Int)) = false := by simp; omega
      obtain rfl : k = m := by omega
      go_wp2_with fail
      go_ret
      exact ⟨rfl, HB.out⟩
end Go.Proofs.YtbpdenfiifcfcaaGreatDoor
namespace Go.Proofs.YtbpdenfiifcfcaaGreatDoor
open Go.RowKit

end Go.Proofs.YtbpdenfiifcfcaaGreatDoor
namespace Go.Proofs.YtbpdenfiifcfcaaGreatDoor
open Go.RowKit

noncomputable def encL (a : At) : List UInt8 := (encA a).data.toList
def leA (a b : At) : Prop := ¬ encL b < encL a
def Srt (l : List At) : Prop := l.Pairwise leA
theorem leA.trans {a b c : At} (h : leA a b) (k : leA b c) : leA a c := List.not_lt.2 (List.le_trans (List.not_lt.1 h) (List.not_lt.1 k))
theorem encA_inj {a b : At} (ha : okA a) (hb : okA b) (h : encL a = encL b) : a = b := by
  have h1 : encA a = encA b := ext_list_t h
  obtain ⟨_, _, e1⟩ := read_one (b := encA a) (c := inA a) (by have := inA_size ha; omega) rfl
  obtain ⟨_, _, e2⟩ := read_one (b := encA b) (c := inA b) (by have := inA_size hb; omega) rfl
  have e3 : inA a = inA b := by rw [← e1, ← e2, h1]
  have e4 := decA_elA ha
  have e5 := decA_elA hb
  have e6 : elA a = elA b := by unfold elA; rw [e3, h1]
  rw [e6, e5] at e4
  exact (Prod.mk.inj e4).2.symm
theorem sort_srt (r : List At) : Srt (sortR r) := by
  have tr : ∀ a b c : At, decide (encL a ≤ encL b) = true → decide (encL b ≤ encL c) = true → decide (encL a ≤ encL c) = true := fun a b c h1 h2 => by simp only [decide_eq_true_eq] at *; exact List.le_trans h1 h2
  have tot : ∀ a b : At, (decide (encL a ≤ encL b) || decide (encL b ≤ encL a)) = true := fun a b => by simp only [Bool.or_eq_true, decide_eq_true_eq]; exact List.le_total _ _
  exact (List.pairwise_mergeSort tr tot r).imp fun {a b} hh => List.not_lt.2 (of_decide_eq_true hh)
theorem sort_unique {D r : List At} (hs : Srt D) (hp : D.Perm r) (hok : ∀ a ∈ r, okA a) : D = sortR r := by
  refine List.Perm.eq_of_pairwise (le := leA) (fun a b ha hb h1 h2 => ?_) hs (sort_srt r) (hp.trans (sortR_perm r).symm)
  exact encA_inj (hok a (hp.mem_iff.1 ha)) (hok b ((sortR_perm r).mem_iff.1 hb)) (List.le_antisymm (List.not_lt.1 h1) (List.not_lt.1 h2))
end Go.Proofs.YtbpdenfiifcfcaaGreatDoor
namespace Go.Proofs.YtbpdenfiifcfcaaGreatDoor
open Go.RowKit

/-! ### A row of attributes -/
def RowG (w : World) (g : Nat) (rest : List Value) (D : List At) : Prop := w.heap[g]? = some (.cells (atsCells D ++ rest).toArray 86 (0, 0))
theorem RowG.lt {w : World} {g : Nat} {rest : List Value} {D : List At} (h : RowG w g rest D) : g < w.heap.size := (Array.getElem?_eq_some_iff.1 h).1
theorem RowG.below {w w' : World} {g : Nat} {rest : List Value} {D : List At} (h : RowG w g rest D) (hb : Below w.heap.size w w') : RowG w' g rest D := (hb.block g h.lt).trans h
theorem RowG.drew {w : World} {g : Nat} {rest : List Value} {D : List At} (h : RowG w g rest D) : RowG w.drew g rest D := h
theorem RowG.at {w : World} {g : Nat} {rest : List Value} {D : List At} (h : RowG w g rest D) (k : Nat) (hk : k < D.length) :
    w.cell? ⟨g, k * 3, none⟩ = some (.string (D.getD k noAt).1) ∧ w.cell? ⟨g, k * 3 + 1, none⟩ = some (.int .i64 (D.getD k noAt).2.1) ∧ w.cell? ⟨g, k * 3 + 2, none⟩ = some (.string (D.getD k noAt).2.2) ∧
      w.frozen? ⟨g, k * 3, none⟩ = false ∧ w.frozen? ⟨g, k * 3 + 1, none⟩ = false ∧ w.frozen? ⟨g, k * 3 + 2, none⟩ = false := by
  have hc : ∀ j, j < 3 → w.cell? ⟨g, k * 3 + j, none⟩ = (atCells (D.getD k noAt))[j]? := fun j hj => by
    rw [Lib.cell_of_heap h, List.getElem?_toArray, List.getElem?_append_left (by rw [atsCells_length]; omega)]
    exact ats_at D k hk j hj
  exact ⟨hc 0 (by omega), hc 1 (by omega), hc 2 (by omega), Lib.frozen_of_heap h _, Lib.frozen_of_heap h _, Lib.frozen_of_heap h _⟩
end Go.Proofs.YtbpdenfiifcfcaaGreatDoor
namespace Go.Proofs.YtbpdenfiifcfcaaGreatDoor
open Go.RowKit

/-! ### The bytes of object identifiers and of escaped texts -/
/-! ### Keys -/
/-- A relative name without an error. -/
def okR (r : List At) : Prop := 1 ≤ r.length ∧ (∀ a ∈ r, okA a) ∧ (r.map (·.1)).Nodup
end Go.Proofs.YtbpdenfiifcfcaaGreatDoor
namespace Go.Proofs.YtbpdenfiifcfcaaGreatDoor
open Go.RowKit

/-! ### What is written -/
/-! ### What is read -/
end Go.Proofs.YtbpdenfiifcfcaaGreatDoor
namespace Go.Proofs.YtbpdenfiifcfcaaGreatDoor
open Go.RowKit Go.Sort

end Go.Proofs.YtbpdenfiifcfcaaGreatDoor
namespace Go.Proofs.YtbpdenfiifcfcaaGreatDoor
open Go.RowKit Go.Sort

end Go.Proofs.YtbpdenfiifcfcaaGreatDoor
namespace Go.Proofs.YtbpdenfiifcfcaaGreatDoor
open Go.RowKit

/-! ### shortOf -/
/-! ### Clone -/
end Go.Proofs.YtbpdenfiifcfcaaGreatDoor
namespace Go.Proofs.YtbpdenfiifcfcaaGreatDoor
open Go.RowKit

end Go.Proofs.YtbpdenfiifcfcaaGreatDoor
namespace Go.Proofs.YtbpdenfiifcfcaaGreatDoor
open Go.RowKit

def PreF (r : List At) : Prop := okR r ∧ r.length ≤ 4 ∧ ∀ x ∈ r, x.1.size ≤ 200000
theorem PreF.small {r : List At} (h : PreF r) : SmallR r := by
  refine ⟨Nat.le_trans h.2.1 (by omega), fun j hj => ?_⟩
  have hm := getD_memS r j hj noAt
  exact ⟨Nat.le_trans (h.2.2 _ hm) (by omega), Nat.le_trans (h.1.2.1 _ hm).2.2.2 (by omega)⟩

end Go.Proofs.YtbpdenfiifcfcaaGreatDoor
namespace Go.Proofs.YtbpdenfiifcfcaaGreatDoor
open Go.RowKit

end Go.Proofs.YtbpdenfiifcfcaaGreatDoor
namespace Go.Proofs.YtbpdenfiifcfcaaGreatDoor
open Go.RowKit

theorem perm_take {L : List At} {m : Nat} (h : m < L.length) : L.Perm (L.getD m noAt :: (L.take m ++ L.drop (m + 1))) := by
  have e : L = L.take m ++ L.getD m noAt :: L.drop (m + 1) := by
    rw [← dropD L m h noAt, List.take_append_drop]
  conv => lhs; rw [e]
  exact List.perm_middle
/-- What is left and what was taken. -/
def Picked (r D L : List At) : Prop := (D ++ L).Perm r ∧ Srt D ∧ ∀ d ∈ D, ∀ x ∈ L, leA d x
theorem Picked.next {r D L : List At} (h : Picked r D L) {m : Nat} (hm : m < L.length) (hl : ∀ i, i < L.length → leA (L.getD m noAt) (L.getD i noAt)) : Picked r (D ++ [L.getD m noAt]) (L.take m ++ L.drop (m + 1)) := by
  obtain ⟨h1, h2, h3⟩ := h
  have hp := perm_take hm
  have hmem : L.getD m noAt ∈ L := getD_memS L m hm noAt
  have hin : ∀ x ∈ L.take m ++ L.drop (m + 1), x ∈ L := fun x hx => hp.mem_iff.2 (List.mem_cons_of_mem _ hx)
  refine ⟨?_, ?_, fun d hd x hx => ?_⟩
  · rw [List.append_assoc, List.singleton_append]
    exact (List.Perm.append_left D hp.symm).trans h1
  · unfold Srt
    rw [List.pairwise_append]
    exact ⟨h2, List.pairwise_singleton _ _, fun a ha b hb => by rw [List.mem_singleton.1 hb]; exact h3 a ha _ hmem⟩
  · rcases List.mem_append.1 hd with hd | hd
    · exact h3 d hd x (hin x hx)
    · rw [List.mem_singleton.1 hd]
      obtain ⟨i, hi, e⟩ := List.getElem_of_mem (hin x hx)
      have := hl i hi
      rwa [getD_mem hi _, e] at this
theorem Picked.done {r D : List At} (h : Picked r D []) (hok : ∀ a ∈ r, okA a) : D = sortR r := sort_unique h.2.1 (by have := h.1; rwa [List.append_nil] at this) hok
/-! ### The short types, the last one that fits -/
/-! ### Slices of a row of attributes -/
end Go.Proofs.YtbpdenfiifcfcaaGreatDoor
namespace Go.Proofs.YtbpdenfiifcfcaaGreatDoor
open Go.ChangeShapes Go.WideShapes Go.ChangeAt Go.RowKit Go.ChangeMaps Go.Deep

end Go.Proofs.YtbpdenfiifcfcaaGreatDoor
namespace Go.Proofs.YtbpdenfiifcfcaaGreatDoor
open Go.RowKit

/-- A row of attributes of a call's own: its cells, and that they may be written. -/
theorem OwnA.open {w : World} {B : Nat} {v : Value} {l : List At} (h : OwnA w B v l) (h0 : l ≠ []) : ∃ g c, v = .slice (some ⟨g, 0, none⟩) l.length c ∧ B ≤ g ∧ g < w.heap.size ∧ (∀ j, w.frozen? ⟨g, j, none⟩ = false) ∧
    ∀ i, i < l.length → w.cell? ⟨g, i * 3, none⟩ = some (.string (l.getD i noAt).1) ∧ w.cell? ⟨g, i * 3 + 1, none⟩ = some (.int .i64 (l.getD i noAt).2.1) ∧ w.cell? ⟨g, i * 3 + 2, none⟩ = some (.string (l.getD i noAt).2.2) := by
  obtain ⟨a, c, hv, hc, hl⟩ := h.lies
  rcases h.2 with ⟨_, h1⟩ | ⟨g, cap, cur, hv', hB, hg, _⟩
  · exact absurd (List.eq_nil_of_length_eq_zero h1) h0
  · rw [hv] at hv'
    obtain ⟨rfl, rfl⟩ : a = some ⟨g, 0, none⟩ ∧ c = cap := by simpa using hv'
    refine ⟨g, c, hv, hB, (Array.getElem?_eq_some_iff.1 hg).1, fun j => Lib.frozen_of_heap hg j, fun i hi => ?_⟩
    rcases hl with e | ⟨b, o, e, hh⟩
    · exact absurd e h0
    · obtain ⟨rfl, rfl⟩ : g = b ∧ 0 = o := by simpa using e
      simpa using hh i hi

/-! ### A parameter of type api.Attribute -/
end Go.Proofs.YtbpdenfiifcfcaaGreatDoor
namespace Go.Proofs.YtbpdenfiifcfcaaGreatDoor
open Go.RowKit

theorem ALies.drop {w : World} {b o : Nat} {l : List At} (h : ALies w (some ⟨b, o, none⟩) l) (k : Nat) : ALies w (some ⟨b, o + k * 3, none⟩) (l.drop k) := by
  rcases h with h | ⟨b', o', e, hc⟩
  · exact .inl (by rw [h]; simp)
  · obtain ⟨rfl, rfl⟩ : b = b' ∧ o = o' := by simpa using e
    refine .inr ⟨b, o + k * 3, rfl, fun i hi => ?_⟩
    rw [List.length_drop] at hi
    obtain ⟨c0, c1, c2⟩ := hc (k + i) (by omega)
    have e2 : (l.drop k).getD i noAt = l.getD (k + i) noAt := by rw [List.getD_eq_getElem?_getD, List.getD_eq_getElem?_getD, List.getElem?_drop]
    rw [e2, show o + k * 3 + i * 3 = o + (k + i) * 3 by omega]
    exact ⟨c0, c1, c2⟩
end Go.Proofs.YtbpdenfiifcfcaaGreatDoor
namespace Go.Proofs.YtbpdenfiifcfcaaGreatDoor
open Go.RowKit

end Go.Proofs.YtbpdenfiifcfcaaGreatDoor
namespace Go.Proofs.YtbpdenfiifcfcaaGreatDoor
open Go.RowKit

theorem oid_99 : Oid [50, 46, 53, 46, 52, 46, 57, 57] [2, 5, 4, 99] := by
  refine ⟨⟨by decide, by decide, by decide, by decide, by decide⟩, ?_⟩
  decide +kernel
theorem made_types : ∀ x ∈ madeL, oidB x.1 = true := by
  intro x hx
  simp only [madeL, List.mem_cons, List.not_mem_nil, or_false] at hx
  rcases hx with rfl | rfl | rfl | rfl | rfl | rfl | rfl | rfl | rfl | rfl | rfl | rfl
  · exact oidB_yes oid_cn
  · exact oidB_yes oid_cn
  · exact oidB_yes oid_cn
  · exact oidB_yes oid_c
  · exact oidB_yes oid_o
  · exact oidB_yes oid_o
  · exact oidB_yes oid_ou
  · exact oidB_yes oid_dc
  · exact oidB_yes oid_e
  · exact oidB_yes oid_e
  · exact oidB_yes oid_99
  · exact oidB_yes oid_l
theorem made_valid : (madeL.all fun x => decide (x.2.2.size ≠ 0) && validB x.2.1 x.2.2.data.toList && decide (x.2.2.size ≤ 64) && validB (kindV x.1 x.2.2) x.2.2.data.toList) = true := by decide +kernel
theorem made_okA {x : At} (hx : x ∈ madeL) : okA x ∧ okA (x.1, kindV x.1 x.2.2, x.2.2) := by
  have h := List.all_eq_true.1 made_valid x hx
  simp only [Bool.and_eq_true, decide_eq_true_eq] at h
  obtain ⟨⟨⟨h1, h2⟩, h3⟩, h4⟩ := h
  exact ⟨⟨made_types x hx, h1, h2, h3⟩, ⟨made_types x hx, h1, h4, h3⟩⟩
theorem made_chkR {r : List At} (h : MadeR r) (h0 : 0 < r.length) : chkR r = 0 :=
  (chkR_iff r).2 ⟨h0, by have := h.1; omega, fun a ha => (made_okA (h.2.1 a ha)).1, h.2.2⟩
theorem made_chkN {n : Nm} (h : MadeN n) : chkN n = 0 :=
  (chkN_iff n).2 ⟨by have := h.1; omega, fun r hr => made_chkR (h.2 r hr).1 (h.2 r hr).2⟩
end Go.Proofs.YtbpdenfiifcfcaaGreatDoor
namespace Go.Proofs.YtbpdenfiifcfcaaGreatDoor
open Go.RowKit

end Go.Proofs.YtbpdenfiifcfcaaGreatDoor
