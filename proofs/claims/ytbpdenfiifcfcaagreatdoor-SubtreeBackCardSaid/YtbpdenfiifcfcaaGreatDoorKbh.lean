/-
  General names of the generators: what they are encoded and written as is read as them. Nothing is claimed of the program here.
  Ranges of addresses: each is an address under a mask of some bits; what lies within two ranges makes them nested; within is passed on. Nothing is claimed of the program here.
  Constraints on names as lists: what Permits, Reduce and PermitsReduced answer; that what lies within two bases makes them nested, that bases that are the same have the same names, and that a reduced state permits what the state permits. Nothing is claimed of the program here.
  Constraints on names in memory: a row of pairs of rows of general names; and one name after the other. Nothing is claimed of the program here.
  Encodings of constraints on names: what Check, Encode and Decode of package subtree answer, and that the constraints of the generator are decoded as they were encoded, apart from the order of attributes. Nothing is claimed of the program here.
  The contract of divide of package subtree: the elements of which a sequence consists.
  The contract of decodeSubtree of package subtree: the base of one subtree.
  The contracts of the reference's In, limits and Permits.
-/
import Derived.Test.YtbpdenfiifcfcaaGreatDoorKbe
import Derived.Test.YtbpdenfiifcfcaaGreatDoorKbf
import Derived.Test.YtbpdenfiifcfcaaGreatDoorKbg
import Derived.Test.YtbpdenfiifcfcaaGreatDoorKac
import Derived.Test.YtbpdenfiifcfcaaGreatDoorKaj
import Derived.Test.YtbpdenfiifcfcaaGreatDoorKax
import Derived.Test.YtbpdenfiifcfcaaGreatDoorKay
import Derived.Test.YtbpdenfiifcfcaaGreatDoorKbb
import Derived.Test.YtbpdenfiifcfcaaGreatDoorKao
import Derived.Test.YtbpdenfiifcfcaaGreatDoorKaz
namespace Go.Proofs.YtbpdenfiifcfcaaGreatDoor
open Go.RowKit

/-- A general name of a generator: no constraint, or one. -/
def OkC (con : Bool) (k : Int) (t : List UInt8) (n : Nm) : Prop := if con = true then BseOk k t n else GenOk k t n
set_option maxRecDepth 100000 in
theorem okC_parts {con : Bool} {k : Int} {t : List UInt8} {n : Nm} (h : OkC con k t n) : ((k = 1 ∨ k = 2 ∨ k = 7) ∧ okT k con t = true ∧ n = [] ∧ t.length ≤ 64) ∨ (k = 4 ∧ t = [] ∧ MadeN n) := by
  unfold OkC at h
  cases con with
  | false =>
    rw [if_neg (by decide)] at h
    have hl := (gen_len h).1
    rcases h with ⟨rfl, h, rfl⟩ | ⟨rfl, h, rfl⟩ | ⟨rfl, h, rfl⟩ | ⟨rfl, rfl, h⟩
    · exact .inl ⟨.inl rfl, (show ∀ t ∈ genMail, mailB t = true by decide +kernel) t h, rfl, hl⟩
    · exact .inl ⟨.inr (.inl rfl), (show ∀ t ∈ genDns, patB t = true by decide +kernel) t h, rfl, hl⟩
    · exact .inl ⟨.inr (.inr rfl), (show ∀ t ∈ genAddr, addrB t = true by decide +kernel) t h, rfl, hl⟩
    · exact .inr ⟨rfl, rfl, h⟩
  | true =>
    rw [if_pos rfl] at h
    have hl := (bse_len h).1
    rcases h with ⟨rfl, h, rfl⟩ | ⟨rfl, h, rfl⟩ | ⟨rfl, h, rfl⟩ | ⟨rfl, rfl, h⟩
    · exact .inl ⟨.inl rfl, (show ∀ t ∈ bseMail, mailBaseB t = true by decide +kernel) t h, rfl, hl⟩
    · exact .inl ⟨.inr (.inl rfl), (show ∀ t ∈ bseDns, baseB t = true by decide +kernel) t h, rfl, hl⟩
    · exact .inl ⟨.inr (.inr rfl), (show ∀ t ∈ bseAddr, rangeB t = true by decide +kernel) t h, rfl, hl⟩
    · exact .inr ⟨rfl, rfl, h⟩
theorem okC_chk {con : Bool} {k : Int} {t : List UInt8} {n : Nm} (h : OkC con k t n) : chkG con k t n = 0 := by
  rcases okC_parts h with ⟨hk, ho, rfl, _⟩ | ⟨rfl, rfl, hn⟩
  · rw [chkG_not (by omega), if_pos ⟨ho, rfl⟩]
  · rw [chkG_dir, if_pos rfl]; exact made_chkN hn
theorem okC_len {con : Bool} {k : Int} {t : List UInt8} {n : Nm} (h : OkC con k t n) : t.length ≤ 64 ∧ MadeN n := by
  rcases okC_parts h with ⟨_, _, rfl, hl⟩ | ⟨_, rfl, hn⟩
  · exact ⟨hl, by decide, fun r hr => by cases hr⟩
  · exact ⟨by decide, hn⟩
/-- The identifier octet and the contents of its element. -/
def tgC (k : Int) : Nat := if k = 4 then 164 else if k = 1 then 129 else if k = 2 then 130 else 135
noncomputable def ctC (k : Int) (t : List UInt8) (n : Nm) : ByteArray := if k = 4 then encN n else strOf t
noncomputable def elC (con : Bool) (k : Int) (t : List UInt8) (n : Nm) : El := (tgC k, ctC k t n, encG con k t n)
theorem elC_ok {con : Bool} {k : Int} {t : List UInt8} {n : Nm} (h : OkC con k t n) : OkE (elC con k t n) := by
  have hc := okC_chk h
  rcases okC_parts h with ⟨hk, ho, rfl, hl⟩ | ⟨rfl, rfl, hn⟩
  · have e : encG con k t [] = wr1 (128 + k) (strOf t) := by unfold encG; rw [if_pos hc, if_neg (by omega)]
    have e2 : ctC k t [] = strOf t := if_neg (by omega)
    refine ⟨?_, ?_, ?_, ?_⟩
    · show tgC k < 256; unfold tgC; rcases hk with rfl | rfl | rfl <;> decide
    · show tgC k % 32 ≠ 31; unfold tgC; rcases hk with rfl | rfl | rfl <;> decide
    · show (ctC k t []).size ≤ _; rw [e2, strOf_size]; omega
    · show encG con k t [] = wr1 ((tgC k : Nat) : Int) (ctC k t [])
      rw [e, e2]
      rcases hk with rfl | rfl | rfl <;> rfl
  · have e : encG con 4 [] n = wr1 164 (encN n) := by unfold encG; rw [if_pos hc, if_pos rfl]
    have e2 : ctC 4 [] n = encN n := if_pos rfl
    have hs : (encN n).size ≤ 650 := by
      have h1 := encV_le (spN_of_made hn)
      rwa [show encV n = encN n by unfold encV; rw [if_pos (made_chkN hn)]] at h1
    exact ⟨by show 164 < 256; omega, by show 164 % 32 ≠ 31; omega, by show (ctC 4 [] n).size ≤ _; rw [e2]; omega, by show encG con 4 [] n = wr1 ((164 : Nat) : Int) (ctC 4 [] n); rw [e, e2]; rfl⟩
theorem one_el {e : El} (h : OkE e) : oneErr e.2.2 = 0 ∧ rdTag e.2.2 = e.1 ∧ rdContent e.2.2 = e.2.1 := by
  obtain ⟨h1, he⟩ := one_of_lst (lst_els [e] (fun x hm => by rw [List.mem_singleton.1 hm]; exact h) e.2.2 (by unfold raws; simp))
  unfold rdElem at he
  obtain ⟨t, c, r⟩ := e
  obtain ⟨e1, e2⟩ := Prod.mk.inj he
  obtain ⟨e3, _⟩ := Prod.mk.inj e2
  exact ⟨h1, e1, e3⟩
/-- What is encoded is decoded, apart from the order of attributes. -/
theorem dec_okC {con : Bool} {k : Int} {t : List UInt8} {n : Nm} (h : OkC con k t n) : decG con ((tgC k : Nat) : Int) (ctC k t n) = (0, (k, t, n.map sortR)) := by
  have hc := okC_chk h
  rcases okC_parts h with ⟨hk, ho, rfl, hl⟩ | ⟨rfl, rfl, hn⟩
  · have e2 : ctC k t [] = strOf t := if_neg (by omega)
    rw [e2]
    rcases hk with rfl | rfl | rfl
    · show decG con 129 (strOf t) = _
      unfold decG
      rw [if_pos (by decide), strOf_list]
      show (if chkG con 1 t [] = 0 then ((0 : Nat), ((1 : Int), t, ([] : Nm))) else (chkG con 1 t [], noG)) = (0, (1, t, []))
      rw [if_pos hc]
    · show decG con 130 (strOf t) = _
      unfold decG
      rw [if_pos (by decide), strOf_list]
      show (if chkG con 2 t [] = 0 then ((0 : Nat), ((2 : Int), t, ([] : Nm))) else (chkG con 2 t [], noG)) = (0, (2, t, []))
      rw [if_pos hc]
    · show decG con 135 (strOf t) = _
      unfold decG
      rw [if_pos (by decide), strOf_list]
      show (if chkG con 7 t [] = 0 then ((0 : Nat), ((7 : Int), t, ([] : Nm))) else (chkG con 7 t [], noG)) = (0, (7, t, []))
      rw [if_pos hc]
  · have e2 : ctC 4 [] n = encN n := if_pos rfl
    rw [e2]
    show decG con 164 (encN n) = _
    unfold decG
    rw [if_neg (by decide), if_pos rfl, dec_enc (made_chkN hn), if_pos rfl]
theorem okC_alike {con : Bool} {k : Int} {t : List UInt8} {n : Nm} (h : OkC con k t n) : AlikeG (k, t, n) (k, t, n.map sortR) := by
  have hs : ∀ i, i < n.length → (n.map sortR).getD i [] = sortR (n.getD i []) := fun i hi => by
    rw [getD_mem (by rw [List.length_map]; exact hi) _, getD_mem hi _, List.getElem_map]
  exact ⟨rfl, rfl, madeN_small (okC_len h).2, (List.length_map _).symm, fun i hi => by show ((n.map sortR).getD i []).length = _; rw [hs i hi, (sortR_perm _).length_eq], fun i hi x hx => by show x ∈ (n.map sortR).getD i []; rw [hs i hi]; exact (sortR_perm _).mem_iff.2 hx⟩
/-! ### Texts -/
/-! ### Lists -/
end Go.Proofs.YtbpdenfiifcfcaaGreatDoor
namespace Go.Proofs.YtbpdenfiifcfcaaGreatDoor
open Go.RowKit

end Go.Proofs.YtbpdenfiifcfcaaGreatDoor
namespace Go.Proofs.YtbpdenfiifcfcaaGreatDoor
open Go.RowKit

/-! ### Within, for every kind -/
theorem withinG_2 (t u : List UInt8) (n m : Nm) : withinG 2 t n 2 u m = dnsWithinB t u := by unfold withinG; rw [if_neg (by decide), if_neg (by decide), if_pos rfl]
/-! ### Bases that are the same -/
/-! ### States -/
abbrev GnS := Int × List UInt8 × Nm
abbrev SubS := List GnS × List GnS
noncomputable def wG (g b : GnS) : Bool := withinG g.1 g.2.1 g.2.2 b.1 b.2.1 b.2.2
noncomputable def inG (g : GnS) (l : List GnS) : Bool := l.any (wG g)
def limG (l : List GnS) (k : Int) : Bool := l.any (fun b => decide (b.1 = k))
noncomputable def perG (st : List SubS) (g : GnS) : Bool := st.all (fun s => !(inG g s.2 || limG s.1 g.1 && !inG g s.1))
end Go.Proofs.YtbpdenfiifcfcaaGreatDoor
namespace Go.Proofs.YtbpdenfiifcfcaaGreatDoor
open Go.RowKit

abbrev Sub := List Gn × List Gn
def noSub : Sub := ([], [])
/-- At the address lie the constraints l. -/
def SLies (w : World) (a : Option Addr) (l : List Sub) : Prop :=
  l = [] ∨ ∃ b o, a = some ⟨b, o, none⟩ ∧ ∀ i, i < l.length → ∃ a1 c1 a2 c2, w.cell? ⟨b, o + i * 2, none⟩ = some (.slice a1 (l.getD i noSub).1.length c1) ∧ w.cell? ⟨b, o + i * 2 + 1, none⟩ = some (.slice a2 (l.getD i noSub).2.length c2) ∧
    ((l.getD i noSub).1.length ≤ c1 ∧ GLies w a1 (l.getD i noSub).1) ∧ (l.getD i noSub).2.length ≤ c2 ∧ GLies w a2 (l.getD i noSub).2
theorem SLies.below {w w' : World} {a : Option Addr} {l : List Sub} (h : SLies w a l) (hb : Below w.heap.size w w') : SLies w' a l := by
  rcases h with h | ⟨b, o, h1, h2⟩
  · exact .inl h
  · refine .inr ⟨b, o, h1, fun i hi => ?_⟩
    obtain ⟨a1, c1, a2, c2, e1, e2, ⟨h3, h4⟩, h5, h6⟩ := h2 i hi
    exact ⟨a1, c1, a2, c2, (hb.cell (block_lt e1)).trans e1, (hb.cell (block_lt e2)).trans e2, ⟨h3, h4.below hb⟩, h5, h6.below hb⟩
theorem SLies.at {w : World} {a : Option Addr} {l : List Sub} (h : SLies w a l) (k : Nat) (hk : k < l.length) : ∃ b o, a = some ⟨b, o, none⟩ ∧ b < w.heap.size ∧ ∃ a1 c1 a2 c2, w.cell? ⟨b, o + k * 2, none⟩ = some (.slice a1 (l.getD k noSub).1.length c1) ∧ w.cell? ⟨b, o + k * 2 + 1, none⟩ = some (.slice a2 (l.getD k noSub).2.length c2) ∧
    ((l.getD k noSub).1.length ≤ c1 ∧ GLies w a1 (l.getD k noSub).1) ∧ (l.getD k noSub).2.length ≤ c2 ∧ GLies w a2 (l.getD k noSub).2 := by
  rcases h with h | ⟨b, o, h1, h2⟩
  · rw [h] at hk; exact absurd hk (Nat.not_lt_zero _)
  · obtain ⟨a1, c1, a2, c2, e1, e2, h3, h4⟩ := h2 k hk
    exact ⟨b, o, h1, block_lt e1, a1, c1, a2, c2, e1, e2, h3, h4⟩
/-! ### One name after the other -/
theorem perG_step (g : Gn) : ∀ (l : List Sub) (k : Nat), k < l.length → perG (l.drop k) g = (!(inG g (l.getD k noSub).2 || limG (l.getD k noSub).1 g.1 && !inG g (l.getD k noSub).1) && perG (l.drop (k + 1)) g)
  | [], k, h => absurd h (Nat.not_lt_zero _)
  | b :: r, 0, _ => rfl
  | b :: r, k + 1, h => by
    have := perG_step g r k (by simpa using h)
    simpa using this
/-! ### What the generator makes -/
/-- Bounds under which the functions on general names are known. -/
def SmG (g : Gn) : Prop := g.2.1.length ≤ 150000 ∧ SmallN g.2.2
def SmL (l : List Gn) : Prop := ∀ g ∈ l, SmG g
def SmS (L : List Sub) : Prop := ∀ s ∈ L, SmL s.1 ∧ SmL s.2
theorem SmL.at {l : List Gn} (h : SmL l) {i : Nat} (hi : i < l.length) : SmG (l.getD i noG) := by
  rw [List.getD_eq_getElem?_getD, List.getElem?_eq_getElem hi]; exact h _ (List.getElem_mem hi)
theorem SmS.at {l : List Sub} (h : SmS l) {i : Nat} (hi : i < l.length) : SmL (l.getD i noSub).1 ∧ SmL (l.getD i noSub).2 := by
  rw [List.getD_eq_getElem?_getD, List.getElem?_eq_getElem hi]; exact h _ (List.getElem_mem hi)
def BsG (g : Gn) : Prop := BseOk g.1 g.2.1 g.2.2
/-- Constraints of the generator. -/
def GenB (s : Sub) : Prop := s.1.length ≤ 3 ∧ s.2.length ≤ 2 ∧ ¬ (s.1.length = 0 ∧ s.2.length = 0) ∧ (∀ g ∈ s.1, BsG g) ∧ ∀ g ∈ s.2, BsG g
end Go.Proofs.YtbpdenfiifcfcaaGreatDoor
namespace Go.Proofs.YtbpdenfiifcfcaaGreatDoor
open Go.RowKit

noncomputable def eGt (g : Gn) : ByteArray := encG true g.1 g.2.1 g.2.2
noncomputable def xGt (g : Gn) : Nat := chkG true g.1 g.2.1 g.2.2
/-- The first error of a list of bases. -/
noncomputable def errT : List Gn → Nat
  | [] => 0
  | g :: r => if xGt g ≠ 0 then xGt g else errT r
noncomputable def chkS (s : Sub) : Nat := if s.1.length = 0 ∧ s.2.length = 0 then 7 else if 16 < s.1.length ∨ 16 < s.2.length then 2 else errT (s.1 ++ s.2)
noncomputable def treeB (g : Gn) : ByteArray := wr1 48 (eGt g)
noncomputable def treesB (l : List Gn) : ByteArray := ⟨(cat_t (l.map treeB)).toArray⟩
noncomputable def fitB (T : Int) (x : ByteArray) : ByteArray × Nat := if x.size ≤ 131072 then (wr1 T x, 0) else (⟨#[]⟩, 2)
noncomputable def partB (T : Int) (l : List Gn) : ByteArray × Nat := if l.length = 0 then (⟨#[]⟩, 0) else fitB T (treesB l)
noncomputable def encSub (s : Sub) : ByteArray × Nat :=
  if chkS s ≠ 0 then (⟨#[]⟩, chkS s) else if (partB 160 s.1).2 ≠ 0 then (⟨#[]⟩, (partB 160 s.1).2) else if (partB 161 s.2).2 ≠ 0 then (⟨#[]⟩, (partB 161 s.2).2) else fitB 48 ⟨((partB 160 s.1).1.data.toList ++ (partB 161 s.2).1.data.toList).toArray⟩

/-! ### Decoding -/
noncomputable def decT1 : List El → Nat × Gn
  | [] => (3, noG)
  | y :: r => if (decG true ((y.1 : Nat) : Int) y.2.1).1 ≠ 0 then ((decG true ((y.1 : Nat) : Int) y.2.1).1, noG) else if r ≠ [] then (4, noG) else (0, (decG true ((y.1 : Nat) : Int) y.2.1).2)
noncomputable def decTr (e : El) : Nat × Gn := if e.1 ≠ 48 then (5, noG) else if (lst e.2.1).2 ≠ 0 then ((lst e.2.1).2, noG) else decT1 (lst e.2.1).1
noncomputable def decTs : List El → Nat × List Gn
  | [] => (0, [])
  | e :: r => if (decTr e).1 ≠ 0 then ((decTr e).1, []) else if (decTs r).1 ≠ 0 then ((decTs r).1, []) else (0, (decTr e).2 :: (decTs r).2)
noncomputable def decPt (c : ByteArray) : Nat × List Gn := if (lst c).2 ≠ 0 then ((lst c).2, []) else if (lst c).1.length = 0 then (7, []) else decTs (lst c).1
noncomputable def mayP (T : Nat) : List El → (Nat × List Gn) × List El
  | [] => ((0, []), [])
  | x :: r => if x.1 = T then (decPt x.2.1, r) else ((0, []), x :: r)
noncomputable def decF (L : List El) : Nat × Sub :=
  if (mayP 160 L).1.1 ≠ 0 then ((mayP 160 L).1.1, ([], [])) else if (mayP 161 (mayP 160 L).2).1.1 ≠ 0 then ((mayP 161 (mayP 160 L).2).1.1, ([], [])) else if (mayP 161 (mayP 160 L).2).2 ≠ [] then (4, ([], []))
  else if chkS ((mayP 160 L).1.2, (mayP 161 (mayP 160 L).2).1.2) ≠ 0 then (chkS ((mayP 160 L).1.2, (mayP 161 (mayP 160 L).2).1.2), ([], [])) else (0, ((mayP 160 L).1.2, (mayP 161 (mayP 160 L).2).1.2))
noncomputable def decSub (b : ByteArray) : Nat × Sub :=
  if oneErr b ≠ 0 then (oneErr b, ([], [])) else if rdTag b ≠ 48 then (5, ([], [])) else if (lst (rdContent b)).2 ≠ 0 then ((lst (rdContent b)).2, ([], [])) else decF (lst (rdContent b)).1

/-! ### Back -/
noncomputable def srtG (g : Gn) : Gn := (g.1, g.2.1, g.2.2.map sortR)
def OkG (g : Gn) : Prop := OkC true g.1 g.2.1 g.2.2
noncomputable def elT (g : Gn) : El := (48, eGt g, treeB g)
theorem eGt_size {g : Gn} (h : OkG g) : (eGt g).size ≤ 660 := encG_small (okC_len h).1 (okC_len h).2
theorem elT_ok {g : Gn} (h : OkG g) : OkE (elT g) := ⟨by show 48 < 256; decide, by show 48 % 32 ≠ 31; decide, by show (eGt g).size ≤ 131072; have := eGt_size h; omega, rfl⟩
theorem treeB_size {g : Gn} (h : OkG g) : (treeB g).size ≤ 666 := by
  have h1 := wrapStr_le 48 (eGt g).data.toList
  have h2 := eGt_size h
  have h3 : (eGt g).data.toList.length = (eGt g).size := rfl
  show (wrapStr 48 (eGt g).data.toList).size ≤ 666
  omega
theorem catT_size : ∀ (l : List Gn), (∀ g ∈ l, OkG g) → (cat_t (l.map treeB)).length ≤ 666 * l.length
  | [], _ => Nat.le_refl _
  | g :: r, h => by
    have h1 := catT_size r (fun x hx => h x (List.mem_cons_of_mem _ hx))
    have h2 := treeB_size (h g (by simp))
    have h3 : (treeB g).data.toList.length = (treeB g).size := rfl
    show ((treeB g).data.toList ++ cat_t (r.map treeB)).length ≤ 666 * (r.length + 1)
    rw [List.length_append]
    omega
theorem catT_raws : ∀ (l : List Gn), cat_t (l.map treeB) = (raws (l.map elT)).flatten
  | [] => rfl
  | g :: r => by
    show (treeB g).data.toList ++ cat_t (r.map treeB) = (treeB g).data.toList ++ (raws (r.map elT)).flatten
    rw [catT_raws r]
theorem lst_one {e : El} (h : OkE e) : lst e.2.2 = ([e], 0) := lst_els [e] (fun x hm => by rw [List.mem_singleton.1 hm]; exact h) e.2.2 (by unfold raws; simp)
theorem decTr_ok {g : Gn} (h : OkG g) : decTr (elT g) = (0, srtG g) := by
  have hl : lst (eGt g) = ([elC true g.1 g.2.1 g.2.2], 0) := lst_one (elC_ok h)
  have hd : decG true ((tgC g.1 : Nat) : Int) (ctC g.1 g.2.1 g.2.2) = (0, srtG g) := dec_okC h
  unfold decTr
  show (if (48 : Nat) ≠ 48 then (5, noG) else if (lst (eGt g)).2 ≠ 0 then ((lst (eGt g)).2, noG) else decT1 (lst (eGt g)).1) = _
  rw [if_neg (by decide), hl, if_neg (by simp)]
  show (if (decG true ((tgC g.1 : Nat) : Int) (ctC g.1 g.2.1 g.2.2)).1 ≠ 0 then ((decG true ((tgC g.1 : Nat) : Int) (ctC g.1 g.2.1 g.2.2)).1, noG) else if ([] : List El) ≠ [] then (4, noG) else (0, (decG true ((tgC g.1 : Nat) : Int) (ctC g.1 g.2.1 g.2.2)).2)) = _
  rw [hd, if_neg (by simp), if_neg (by simp)]
theorem decTs_ok : ∀ (l : List Gn), (∀ g ∈ l, OkG g) → decTs (l.map elT) = (0, l.map srtG)
  | [], _ => rfl
  | g :: r, h => by
    show (if (decTr (elT g)).1 ≠ 0 then ((decTr (elT g)).1, []) else if (decTs (r.map elT)).1 ≠ 0 then ((decTs (r.map elT)).1, []) else (0, (decTr (elT g)).2 :: (decTs (r.map elT)).2)) = _
    rw [decTr_ok (h g (by simp)), decTs_ok r (fun x hx => h x (List.mem_cons_of_mem _ hx)), if_neg (by simp), if_neg (by simp)]
    rfl
theorem decPt_ok {l : List Gn} (h : ∀ g ∈ l, OkG g) (h0 : l.length ≠ 0) : decPt (treesB l) = (0, l.map srtG) := by
  have hl : lst (treesB l) = (l.map elT, 0) := lst_els (l.map elT) (fun e he => by
    obtain ⟨g, hg, rfl⟩ := List.mem_map.1 he
    exact elT_ok (h g hg)) (treesB l) (catT_raws l)
  unfold decPt
  rw [hl, if_neg (by simp)]
  simp only []
  rw [if_neg (by rw [List.length_map]; exact h0), decTs_ok l h]
noncomputable def elP (T : Nat) (l : List Gn) : El := (T, treesB l, wr1 ((T : Nat) : Int) (treesB l))
noncomputable def elsP (T : Nat) (l : List Gn) : List El := if l.length = 0 then [] else [elP T l]
theorem treesB_size {l : List Gn} (h : ∀ g ∈ l, OkG g) (hl : l.length ≤ 16) : (treesB l).size ≤ 10656 := by
  have h1 := catT_size l h
  show (cat_t (l.map treeB)).toArray.size ≤ _
  rw [List.size_toArray]
  omega
theorem partB_ok {T : Nat} (_ : T = 160 ∨ T = 161) {l : List Gn} (h : ∀ g ∈ l, OkG g) (hl : l.length ≤ 16) : (partB ((T : Nat) : Int) l).2 = 0 ∧ (partB ((T : Nat) : Int) l).1.data.toList = (raws (elsP T l)).flatten ∧ (partB ((T : Nat) : Int) l).1.size ≤ 10662 := by
  unfold partB elsP
  by_cases h0 : l.length = 0
  · rw [if_pos h0, if_pos h0]; exact ⟨rfl, rfl, by show 0 ≤ _; omega⟩
  · have h1 := treesB_size h hl
    rw [if_neg h0, if_neg h0]
    unfold fitB
    rw [if_pos (by omega)]
    refine ⟨rfl, ?_, ?_⟩
    · unfold raws; simp [elP]
    · have h2 := wrapStr_le ((T : Nat) : Int) (treesB l).data.toList
      have h3 : (treesB l).data.toList.length = (treesB l).size := rfl
      show (wrapStr ((T : Nat) : Int) (treesB l).data.toList).size ≤ _
      omega
theorem elsP_ok {T : Nat} (hT : T = 160 ∨ T = 161) {l : List Gn} (h : ∀ g ∈ l, OkG g) (hl : l.length ≤ 16) : ∀ e ∈ elsP T l, OkE e := by
  intro e he
  unfold elsP at he
  split at he
  · cases he
  · rw [List.mem_singleton.1 he]
    have h1 := treesB_size h hl
    exact ⟨by show T < 256; omega, by show T % 32 ≠ 31; omega, by show (treesB l).size ≤ 131072; omega, rfl⟩
theorem errT_zero : ∀ {l : List Gn}, (∀ g ∈ l, xGt g = 0) → errT l = 0
  | [], _ => rfl
  | g :: r, h => by
    show (if xGt g ≠ 0 then xGt g else errT r) = 0
    rw [h g (by simp), if_neg (by simp), errT_zero fun x hx => h x (List.mem_cons_of_mem _ hx)]
theorem xGt_ok {g : Gn} (h : OkG g) : xGt g = 0 := okC_chk h
theorem xGt_srt {g : Gn} (h : OkG g) : xGt (srtG g) = 0 := by
  have hx := xGt_ok h
  rcases okC_parts h with ⟨_, _, hn, _⟩ | ⟨hk, ht, hn⟩
  · have : srtG g = g := by
      obtain ⟨k, t, n⟩ := g
      simp only at hn
      subst hn
      rfl
    rw [this]; exact hx
  · obtain ⟨k, t, n⟩ := g
    simp only at hk ht hn
    subst hk ht
    show chkG true 4 [] (n.map sortR) = 0
    rw [chkG_dir, if_pos rfl]
    exact chkN_sort (made_chkN hn)
def GenS (s : Sub) : Prop := s.1.length ≤ 16 ∧ s.2.length ≤ 16 ∧ ¬ (s.1.length = 0 ∧ s.2.length = 0) ∧ (∀ g ∈ s.1, OkG g) ∧ ∀ g ∈ s.2, OkG g
theorem chkS_gen {s : Sub} (h : GenS s) : chkS s = 0 := by
  unfold chkS
  rw [if_neg h.2.2.1, if_neg (by have := h.1; have := h.2.1; omega)]
  refine errT_zero fun g hg => ?_
  rcases List.mem_append.1 hg with hg | hg
  · exact xGt_ok (h.2.2.2.1 g hg)
  · exact xGt_ok (h.2.2.2.2 g hg)
theorem chkS_srt {s : Sub} (h : GenS s) : chkS (s.1.map srtG, s.2.map srtG) = 0 := by
  unfold chkS
  simp only [List.length_map]
  rw [if_neg h.2.2.1, if_neg (by have := h.1; have := h.2.1; omega)]
  refine errT_zero fun g hg => ?_
  rcases List.mem_append.1 hg with hg | hg
  · obtain ⟨x, hx, rfl⟩ := List.mem_map.1 hg
    exact xGt_srt (h.2.2.2.1 x hx)
  · obtain ⟨x, hx, rfl⟩ := List.mem_map.1 hg
    exact xGt_srt (h.2.2.2.2 x hx)
theorem may_160 {s : Sub} (h : GenS s) : mayP 160 (elsP 160 s.1 ++ elsP 161 s.2) = ((0, s.1.map srtG), elsP 161 s.2) := by
  unfold elsP
  by_cases h0 : s.1.length = 0
  · rw [if_pos h0, List.nil_append, List.length_eq_zero_iff.1 h0]
    by_cases h1 : s.2.length = 0
    · rw [if_pos h1]; rfl
    · rw [if_neg h1]
      show (if (161 : Nat) = 160 then (decPt (treesB s.2), []) else ((0, []), [elP 161 s.2])) = _
      rw [if_neg (by decide)]; rfl
  · rw [if_neg h0]
    show (if (160 : Nat) = 160 then (decPt (treesB s.1), (if s.2.length = 0 then [] else [elP 161 s.2])) else ((0, []), elP 160 s.1 :: (if s.2.length = 0 then [] else [elP 161 s.2]))) = _
    rw [if_pos rfl, decPt_ok h.2.2.2.1 h0]
theorem may_161 {s : Sub} (h : GenS s) : mayP 161 (elsP 161 s.2) = ((0, s.2.map srtG), []) := by
  unfold elsP
  by_cases h0 : s.2.length = 0
  · rw [if_pos h0, List.length_eq_zero_iff.1 h0]; rfl
  · rw [if_neg h0]
    show (if (161 : Nat) = 161 then (decPt (treesB s.2), ([] : List El)) else ((0, []), [elP 161 s.2])) = _
    rw [if_pos rfl, decPt_ok h.2.2.2.2 h0]
/-- What the generator makes is decoded as it was encoded, apart from the order of attributes. -/
theorem back_gen {s : Sub} (h : GenS s) : ∃ S : ByteArray, encSub s = (S, 0) ∧ S.size ≤ 21400 ∧ decSub S = (0, (s.1.map srtG, s.2.map srtG)) := by
  obtain ⟨a1, a2, a3⟩ := partB_ok (T := 160) (.inl rfl) h.2.2.2.1 h.1
  obtain ⟨b1, b2, b3⟩ := partB_ok (T := 161) (.inr rfl) h.2.2.2.2 h.2.1
  rw [show ((160 : Nat) : Int) = 160 from rfl] at a1 a2 a3
  rw [show ((161 : Nat) : Int) = 161 from rfl] at b1 b2 b3
  obtain ⟨C, hC⟩ : ∃ C : ByteArray, C = ⟨((partB 160 s.1).1.data.toList ++ (partB 161 s.2).1.data.toList).toArray⟩ := ⟨_, rfl⟩
  have hCl : C.data.toList = (raws (elsP 160 s.1 ++ elsP 161 s.2)).flatten := by
    rw [hC]
    show (partB 160 s.1).1.data.toList ++ (partB 161 s.2).1.data.toList = _
    rw [a2, b2]
    unfold raws
    rw [List.map_append, List.flatten_append]
  have hCs : C.size ≤ 21324 := by
    have e1 : (partB 160 s.1).1.data.toList.length = (partB 160 s.1).1.size := rfl
    have e2 : (partB 161 s.2).1.data.toList.length = (partB 161 s.2).1.size := rfl
    rw [hC]
    show ((partB 160 s.1).1.data.toList ++ (partB 161 s.2).1.data.toList).toArray.size ≤ _
    rw [List.size_toArray, List.length_append]
    omega
  have hall : ∀ e ∈ elsP 160 s.1 ++ elsP 161 s.2, OkE e := fun e he => by
    rcases List.mem_append.1 he with he | he
    · exact elsP_ok (.inl rfl) h.2.2.2.1 h.1 e he
    · exact elsP_ok (.inr rfl) h.2.2.2.2 h.2.1 e he
  have hlst : lst C = (elsP 160 s.1 ++ elsP 161 s.2, 0) := lst_els _ hall C hCl
  have hok : OkE (48, C, wr1 ((48 : Nat) : Int) C) := ⟨by show 48 < 256; decide, by show 48 % 32 ≠ 31; decide, by show C.size ≤ 131072; omega, rfl⟩
  obtain ⟨o1, o2, o3⟩ := one_el hok
  refine ⟨wr1 ((48 : Nat) : Int) C, ?_, ?_, ?_⟩
  · unfold encSub
    rw [chkS_gen h, a1, b1, if_neg (by simp), if_neg (by simp), if_neg (by simp), ← hC]
    unfold fitB
    rw [if_pos (by omega)]; rfl
  · have h2 := wrapStr_le ((48 : Nat) : Int) C.data.toList
    have h3 : C.data.toList.length = C.size := rfl
    show (wrapStr ((48 : Nat) : Int) C.data.toList).size ≤ _
    omega
  · unfold decSub
    simp only [] at o1 o2 o3
    rw [o1, o2, o3, if_neg (by simp), if_neg (by simp), hlst, if_neg (by simp)]
    show decF (elsP 160 s.1 ++ elsP 161 s.2) = _
    unfold decF
    rw [may_160 h]
    simp only []
    rw [may_161 h]
    simp only []
    rw [if_neg (by simp), if_neg (by simp), if_neg (by simp), chkS_srt h, if_neg (by simp)]
end Go.Proofs.YtbpdenfiifcfcaaGreatDoor
namespace Go.Proofs.YtbpdenfiifcfcaaGreatDoor
open Go.RowKit

theorem opn_tag {x : El} {T : Nat} (h : x.1 ≠ T) : opnE x T = 5 ∧ opnL x T = [] := ⟨if_pos h, if_pos h⟩
theorem opn_ok {x : El} {T : Nat} (h : x.1 = T) : opnE x T = (lst x.2.1).2 ∧ opnL x T = (lst x.2.1).1 := ⟨if_neg (not_not_intro h), if_neg (not_not_intro h)⟩
set_option maxRecDepth 100000 in
set_option maxHeartbeats 4000000 in
theorem div_core (x : El) (w : World) (hx : x.2.1.size ≤ 1099511627776) :
    Calls Tryz.prog 65 #[elV x.1 x.2.1 x.2.2] w fun e w' => ∃ v, e = .returned (.tuple #[v, .int .i64 ((opnE x 48 : Nat) : Int)]) ∧ OwnE w' w.heap.size v (opnL x 48) ∧ Below w.heap.size w w' := by
  obtain ⟨t, ct, rw0⟩ := x
  unfold elV
  simp only at hx ⊢
  obtain ⟨W0, hW0⟩ : ∃ W0, W0 = w.alloc (.cells #[.int .i64 (t : Int), .string ct, .string rw0] 67) := ⟨_, rfl⟩
  have hwr := hW0.symm
  have hb0 : Below w.heap.size w W0 := by rw [hW0]; exact belowNew w _
  obtain ⟨c0, c1, c2, l0⟩ := el_facts (w := W0) (g := w.heap.size) (by rw [hW0]; exact heap_alloc_new w _)
  have HB0 := Lib.hid hb0
  have HL := Lib.hid (list_any ct W0 hx)
  by_cases ht : t = 48
  · obtain ⟨o1, o2⟩ := opn_ok (x := (t, ct, rw0)) (T := 48) ht
    rw [o1, o2]
    simp only
    have hq : ((t : Int) != 48) = false := by rw [ht]; rfl
    generalize lst ct = L at HL ⊢
    obtain ⟨L1, L2⟩ := L
    simp only at HL ⊢
    clear hW0 hb0 hx ht o1 o2
    go_enter Tryz.func65, Tryz.ntmps65
    go_wp2_with (go_at_call 91; (with_reducible refine HL.out.mono ?_); rintro e w1 ⟨v, rfl, ho, hb1⟩; have HO := Lib.hid ho; have HB1 := Lib.hid (below_next HB0.out hb1); clear hb1 ho)
    go_ret2
    exact ⟨v, rfl, own_base HO.out HB0.out.size, HB1.out⟩
  · obtain ⟨o1, o2⟩ := opn_tag (x := (t, ct, rw0)) (T := 48) ht
    rw [o1, o2]
    have hq : ((t : Int) != 48) = true := by simp; omega
    clear hW0 hb0 hx ht o1 o2 HL
    go_enter Tryz.func65, Tryz.ntmps65
    go_wp2_with fail
    go_ret2
    exact ⟨_, rfl, World.ownsRow_nil _ _ _ _, HB0.out⟩
end Go.Proofs.YtbpdenfiifcfcaaGreatDoor
namespace Go.Proofs.YtbpdenfiifcfcaaGreatDoor
open Go.RowKit

/-- An error and a general name as decodeSubtree hands them back: beside an error the name says nothing. -/
def DRes (w : World) (G : Nat × Gn) (e : Ending) (w' : World) : Prop := ∃ (g : Gn) (s : Value), e = .returned (.tuple #[.agg #[.int .i64 g.1, .string (strOf g.2.1), s], .int .i64 ((G.1 : Nat) : Int)]) ∧ OwnN w' w.heap.size s g.2.2 ∧ Below w.heap.size w w' ∧ (G.1 = 0 → g = G.2)
theorem dres_of {w w' : World} {E : Nat} {g : Gn} {G : Nat × Gn} {e : Ending} (h : GRes w (E, g) e w') (hE : E = G.1) (hg : G.1 = 0 → g = G.2) : DRes w G e w' := by
  obtain ⟨s, h1, h2, h3⟩ := h
  subst hE
  exact ⟨g, s, h1, h2, h3, hg⟩
theorem decTr_opn (x : El) : decTr x = if opnE x 48 ≠ 0 then (opnE x 48, noG) else decT1 (opnL x 48) := by
  unfold decTr
  by_cases h : x.1 = 48
  · obtain ⟨o1, o2⟩ := opn_ok (x := x) (T := 48) h
    rw [o1, o2, if_neg (not_not_intro h)]
  · obtain ⟨o1, o2⟩ := opn_tag (x := x) (T := 48) h
    rw [o1, if_pos h, if_pos (by decide)]
theorem opn_small {x : El} {n : Nat} (hx : x.2.1.size ≤ n) : ∀ y ∈ opnL x 48, y.2.1.size ≤ n := by
  intro y hy
  unfold opnL at hy
  split at hy
  · cases hy
  · exact Nat.le_trans (lst_mem _ _ (Nat.le_refl _) y hy) hx
set_option maxRecDepth 100000 in
set_option maxHeartbeats 8000000 in
theorem dtree_core (x : El) (w : World) (hx : x.2.1.size ≤ 150000) (hT : Tab w) (hP : Pow10 w) (hmk : Mk w) :
    Calls Tryz.prog 93 #[elV x.1 x.2.1 x.2.2] w fun e w' => DRes w (decTr x) e w' := by
  have hsmall := opn_small hx
  have hdec := decTr_opn x
  obtain ⟨R, hR⟩ : ∃ R, R = decTr x := ⟨_, rfl⟩
  rw [← hR] at hdec ⊢
  obtain ⟨W0, hW0⟩ : ∃ W0, W0 = (w.alloc (.cells #[.int .i64 (x.1 : Int), .string x.2.1, .string x.2.2] 67)).alloc (.cells #[.int .i64 0, .string ⟨#[]⟩, .slice none 0 0] 29) := ⟨_, rfl⟩
  have hb0 : Below w.heap.size w W0 := by rw [hW0]; exact belowTwo w _ _
  obtain ⟨r, hr⟩ : ∃ r, r = w.heap.size + 1 := ⟨_, rfl⟩
  have hqe : W0.heap[w.heap.size]? = some (.cells #[.int .i64 (x.1 : Int), .string x.2.1, .string x.2.2] 67 (0, 0)) := by
    rw [hW0]; exact ((belowNew _ _).block _ (by simp)).trans (heap_alloc_new w _)
  have hqr : W0.heap[r]? = some (.cells #[.int .i64 0, .string ⟨#[]⟩, .slice none 0 0] 29 (0, 0)) := by
    have h1 := heap_alloc_new (w.alloc (.cells #[.int .i64 (x.1 : Int), .string x.2.1, .string x.2.2] 67)) (.cells #[.int .i64 0, .string ⟨#[]⟩, .slice none 0 0] 29)
    rw [show (w.alloc (.cells #[.int .i64 (x.1 : Int), .string x.2.1, .string x.2.2] 67)).heap.size = r by rw [hr]; simp] at h1
    rw [hW0]; exact h1
  obtain ⟨c0, c1, c2, l0⟩ := three_facts hqe
  have HWR := Lib.hid hW0.symm
  have HB0 := Lib.hid hb0
  have HQR := Lib.hid hqr
  have hrr : w.heap.size ≤ r := by omega
  have HRE := Lib.hid hr
  have lr : r < W0.heap.size := (Array.getElem?_eq_some_iff.1 hqr).1
  have HD := Lib.hid (div_core x W0 (by omega))
  have HGD := Lib.hid (fun (y : El) (hy : y ∈ opnL x 48) W (hb : Below w.heap.size w W) => gdec_core (y.1 : Int) y.2.1 y.2.2 true W (hsmall y hy) (hT.below hb) (hP.below hb) (hmk.below hb))
  unfold elV at HD ⊢
  obtain ⟨E, hE⟩ : ∃ E, E = opnE x 48 := ⟨_, rfl⟩
  obtain ⟨L, hL⟩ : ∃ L, L = opnL x 48 := ⟨_, rfl⟩
  rw [← hE] at HD hdec
  rw [← hL] at HD HGD hdec
  have HDEC := Lib.hid hdec
  obtain ⟨xt, xc, xr⟩ := x
  simp only at c0 c1 c2 HWR HD ⊢
  clear hW0 hb0 hqe hqr hr hR hT hP hmk hdec hE hL hx hsmall
  go_enter Tryz.func93, Tryz.ntmps93
  go_upto_region 1 with fail
  rw [HWR.out, ← HRE.out]
  by_cases hz : E = 0
  · subst hz
    cases L with
    | nil =>
      have HV := Lib.hid (show R = (3, noG) from HDEC.out)
      go_wp2_with (go_at_call 65; (with_reducible refine HD.out.mono ?_); rintro e w1 ⟨v, rfl, ho, hb1⟩; obtain ⟨a1, k1, rfl, _, hea, _⟩ := ElAt.of ho; have HB1 := Lib.hid (below_next HB0.out hb1); have HR1 := Lib.hid ((hb1.block r lr).trans HQR.out); have HEA := Lib.hid hea; clear ho hb1 hea; obtain ⟨v0, v1, v2, i0, i1, i2, lv⟩ := at_facts HR1.out)
      obtain ⟨q1, h9⟩ := gres_fin (E := 3) (k := 0) (u := []) (aq := none) (cq := 0) (n := []) hrr HR1.out (OwnN.nil _ _) HB1.out HV.out
      exact bodyPost_ret (gnRes2 rfl _ _ r _ _ _ rfl q1) rfl (dres_of (g := noG) (by rw [HV.out] at h9; exact h9) (by rw [HV.out]) (fun h => by rw [HV.out]))
    | cons y L =>
      obtain ⟨M, hM⟩ : ∃ M, M = (y :: L).length := ⟨_, rfl⟩
      have HML := Lib.hid hM
      have hm0 : ((M : Int) == 0) = false := by rw [hM]; simp; omega
      have hm1 : (0 : Int) < (M : Int) := by rw [hM, List.length_cons]; omega
      have hmz : 0 < M := by omega
      have HM1 := Lib.hid (show M = L.length + 1 from hM)
      obtain ⟨G, hG⟩ : ∃ G, G = decG true (y.1 : Int) y.2.1 := ⟨_, rfl⟩
      have HY := Lib.hid (HGD.out y (by simp))
      rw [← hG] at HY
      have HV := Lib.hid (show R = if G.1 ≠ 0 then (G.1, noG) else if L ≠ [] then (4, noG) else (0, G.2) by rw [hG]; exact HDEC.out)
      obtain ⟨E1, q, u, n⟩ := G
      simp only at HV
      clear hM hG HGD HDEC
      go_upto_region 7 with (first
        | (go_at_call 65; (with_reducible refine HD.out.mono ?_); rintro e w1 ⟨v, rfl, ho, hb1⟩; obtain ⟨a1, k1, hv1, _, hea, _⟩ := ElAt.of ho; rw [← HML.out] at hv1; subst hv1; rcases hea with h | ⟨bb, oo, rfl, hc⟩; (· cases h); obtain ⟨y0, y1, y2⟩ := hc 0 (by simp); rw [Nat.zero_mul, Nat.add_zero] at y0 y1 y2; have y0' : w1.cell? ⟨bb, oo, none⟩ = some (.int .i64 ((y.1 : Nat) : Int)) := y0; have y1' : w1.cell? ⟨bb, oo + 1, none⟩ = some (.string y.2.1) := y1; have y2' : w1.cell? ⟨bb, oo + 2, none⟩ = some (.string y.2.2) := y2; have HB1 := Lib.hid (below_next HB0.out hb1); have HR1 := Lib.hid ((hb1.block r lr).trans HQR.out); clear ho hb1 hc y0 y1 y2)
        | (go_at_call 115; (with_reducible refine (HY.out _ HB1.out).mono ?_); rintro e w2 ⟨s, rfl, hso, hb2⟩; obtain ⟨aq, cq, rfl, hcs, hrl⟩ := hso.lies; have HB2 := Lib.hid (below_next HB1.out hb2); have HR2 := Lib.hid ((hb2.block r (Array.getElem?_eq_some_iff.1 HR1.out).1).trans HR1.out); have HO2 := Lib.hid (hso.base HB1.out.size); clear hcs hrl hso hb2))
      obtain ⟨W3, hW3⟩ : ∃ W3, W3 = w2.alloc (.cells #[.int .i64 q, .string (strOf u), .slice aq n.length cq] 29) := ⟨_, rfl⟩
      obtain ⟨g, hg⟩ : ∃ g, g = w2.heap.size := ⟨_, rfl⟩
      have hb3 : Below w2.heap.size w2 W3 := by rw [hW3]; exact belowNew w2 _
      have hq3 : W3.heap[g]? = some (.cells #[.int .i64 q, .string (strOf u), .slice aq n.length cq] 29 (0, 0)) := by rw [hW3, hg]; exact heap_alloc_new w2 _
      rw [← hW3, ← hg]
      have hr3 := (hb3.block r (Array.getElem?_eq_some_iff.1 HR2.out).1).trans HR2.out
      have hrg : r < g := by rw [hg]; exact (Array.getElem?_eq_some_iff.1 HR2.out).1
      obtain ⟨v0, v1, v2, i0, i1, i2, lv⟩ := at_facts hr3
      obtain ⟨g0, g1, g2, _, _, _, lg⟩ := at_facts hq3
      have HB3 := Lib.hid (below_next HB2.out hb3)
      have HR3 := Lib.hid hr3
      have HO3 := Lib.hid (HO2.out.below hb3)
      clear hW3 hg hb3 hq3 hr3 y0' y1' y2'
      by_cases hz : E1 = 0
      · subst hz
        by_cases hL : L = []
        · have hq : decide ((1 : Int) < (M : Int)) = false := by rw [HM1.out, hL]; rfl
          have HV1 := Lib.hid (HV.out.trans ((if_neg (not_not_intro rfl)).trans (if_neg (not_not_intro hL))))
          clear hL
          go_wp2_with fail
          obtain ⟨q1, h9⟩ := gres_fin (E := 0) (k := q) (u := u) (aq := aq) (cq := cq) (n := n) hrr HR3.out HO3.out HB3.out rfl
          exact bodyPost_ret (gnRes2 rfl _ _ r _ _ _ rfl q1) rfl (dres_of h9 (by rw [HV1.out]) (fun h => by rw [HV1.out]))
        · have hq : decide ((1 : Int) < (M : Int)) = true := by
            have : 0 < L.length := List.length_pos_iff.2 hL
            rw [HM1.out]; exact decide_eq_true (by omega)
          have HV1 := Lib.hid (HV.out.trans ((if_neg (not_not_intro rfl)).trans (if_pos hL)))
          clear hL
          go_wp2_with fail
          obtain ⟨q1, h9⟩ := gres_fin (E := 4) (k := q) (u := u) (aq := aq) (cq := cq) (n := n) hrr HR3.out HO3.out HB3.out rfl
          exact bodyPost_ret (gnRes2 rfl _ _ r _ _ _ rfl q1) rfl (dres_of h9 (by rw [HV1.out]) (fun h => by rw [HV1.out] at h; cases h))
      · have hz1 : ((E1 : Int) == 0) = false := by simp; omega
        have HV1 := Lib.hid (HV.out.trans (if_pos hz))
        have HZ := Lib.hid hz
        clear hz
        go_wp2_with fail
        obtain ⟨q1, h9⟩ := gres_fin (E := E1) (k := q) (u := u) (aq := aq) (cq := cq) (n := n) hrr HR3.out HO3.out HB3.out rfl
        exact bodyPost_ret (gnRes2 rfl _ _ r _ _ _ rfl q1) rfl (dres_of h9 (by rw [HV1.out]) (fun h => absurd (by rw [HV1.out] at h; exact h) HZ.out))
  · have hz1 := errno_ne hz
    have hz2 : ((E : Int) == 0) = false := by simp; omega
    have HV := Lib.hid (HDEC.out.trans (if_pos hz))
    clear hz
    go_wp2_with (go_at_call 65; (with_reducible refine HD.out.mono ?_); rintro e w1 ⟨v, rfl, ho, hb1⟩; obtain ⟨a1, k1, rfl, _, hea, _⟩ := ElAt.of ho; have HB1 := Lib.hid (below_next HB0.out hb1); have HR1 := Lib.hid ((hb1.block r lr).trans HQR.out); have HEA := Lib.hid hea; clear ho hb1 hea; obtain ⟨v0, v1, v2, i0, i1, i2, lv⟩ := at_facts HR1.out)
    obtain ⟨q1, h9⟩ := gres_fin (E := E) (k := 0) (u := []) (aq := none) (cq := 0) (n := []) hrr HR1.out (OwnN.nil _ _) HB1.out HV.out
    exact bodyPost_ret (gnRes2 rfl _ _ r _ _ _ rfl q1) rfl (dres_of (g := noG) (by rw [HV.out] at h9; exact h9) (by rw [HV.out]) (fun h => by rw [HV.out]))
end Go.Proofs.YtbpdenfiifcfcaaGreatDoor
namespace Go.Proofs.YtbpdenfiifcfcaaGreatDoor
open Go.RowKit

theorem two_facts {w : World} {g : Nat} {x y : Value} {t : TypeId} (h : w.heap[g]? = some (.cells #[x, y] t (0, 0))) :
    w.cell? ⟨g, 0, none⟩ = some x ∧ w.cell? ⟨g, 1, none⟩ = some y ∧ g < w.heap.size := by
  refine ⟨?_, ?_, (Array.getElem?_eq_some_iff.1 h).1⟩ <;> (rw [Lib.cell_of_heap h]; rfl)
theorem heap_first (w : World) (o p : Obj) : ((w.alloc o).alloc p).heap[w.heap.size]? = (w.alloc o).heap[w.heap.size]? := (belowNew (w.alloc o) p).block _ (by simp)
theorem heap_second (w : World) (o : Obj) (cs : Array Value) (T : TypeId) : ((w.alloc o).alloc (.cells cs T)).heap[w.heap.size + 1]? = some (.cells cs T (0, 0)) := by
  have := heap_alloc_new (w.alloc o) (.cells cs T)
  simpa using this
end Go.Proofs.YtbpdenfiifcfcaaGreatDoor
