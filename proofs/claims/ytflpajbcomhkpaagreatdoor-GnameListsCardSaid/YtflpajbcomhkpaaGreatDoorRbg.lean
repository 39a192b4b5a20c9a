/-
  What Wrap writes is read, whatever stands behind it; what One accepts is what Wrap writes. Nothing is claimed of the program here.
  The contract of Few of certpathmade: whether a list of strings is small enough for a law.
  Elements that Wrap writes, in ascending order, one after the other: List reads them back, and they ascend.
  Plain laws on the short types as the reference looks them up, one after the other. Nothing is claimed of the program here.
  Elements, and what is read of them; attributes, relative names and names, and their encodings: each determines the other. Nothing is claimed of the program here.
  What is encoded is decoded, apart from the order of attributes; what is decoded is encoded as it was. Nothing is claimed of the program here.
  The contract of the reference's DecodeGeneral: the general name of an element, or the error.
-/
import Derived.Test.YtflpajbcomhkpaaGreatDoorRbf
import Derived.Test.YtflpajbcomhkpaaGreatDoorRam
import Derived.Test.YtflpajbcomhkpaaGreatDoorRas
import Derived.Test.YtflpajbcomhkpaaGreatDoorRbc
import Derived.Test.YtflpajbcomhkpaaGreatDoorRbd
import Derived.Test.YtflpajbcomhkpaaGreatDoorRay
import Derived.Test.YtflpajbcomhkpaaGreatDoorRba
import Derived.Test.YtflpajbcomhkpaaGreatDoorRbe
namespace Go.Proofs.YtflpajbcomhkpaaGreatDoor
open Go.RowKit

theorem rd_len_le {b : ByteArray} (h : rdErr b = 0) : (rd b).2.2 ≤ 131072 := by
  obtain ⟨_, _, h2, _, h4⟩ := rd_cases h
  rw [h4]
  simp only
  revert h2
  unfold lnAt
  repeat' split
  all_goals first | exact fun x => absurd x (by decide) | (intro _; simp only; omega)
theorem ext_list_t {a b : ByteArray} (h : a.data.toList = b.data.toList) : a = b := ByteArray.ext (Array.toList_inj.1 h)

/-- What One accepts is what Wrap writes for its parts. -/
theorem wrap_one {b : ByteArray} (h : oneErr b = 0) : wrapVal ((rdTag b : Nat) : Int) (cat_t [rdContent b]) = .tuple #[.string b, .int .i64 0] ∧ rdRaw b = b := by
  have he := oneErr_rd h
  have hs := oneErr_size h
  have hlen := rd_len_le he
  obtain ⟨_, h1, _, _, _⟩ := rd_cases he
  have hd : (rdContent b).data.toList = b.data.toList.drop (rd b).2.1 := by
    unfold rdContent
    rw [data_extract]
    refine List.take_of_length_le ?_
    rw [List.length_drop]
    show b.size - _ ≤ _
    omega
  have hc : cat_t [rdContent b] = b.data.toList.drop (rd b).2.1 := by simp [cat_t, hd]
  have hn : (b.data.toList.drop (rd b).2.1).length = (rd b).2.2 := by
    rw [List.length_drop]
    show b.size - _ = _
    omega
  have ht := rdTag_lt b
  constructor
  · have e : wrapErr ((rdTag b : Nat) : Int) (cat_t [rdContent b]).length = 0 := by
      rw [hc, hn]
      unfold wrapErr
      rw [if_neg (by unfold rdTag at ht ⊢; omega), if_neg (by omega)]
    unfold wrapVal wrapStr
    rw [e, if_pos rfl, hc]
    have e2 : wrapL ((rdTag b : Nat) : Int).toNat (b.data.toList.drop (rd b).2.1) = b.data.toList := by
      unfold wrapL
      rw [hn]
      exact (head_back he).symm
    rw [e2]
    rfl
  · apply ext_list_t
    unfold rdRaw
    rw [data_extract, hs, List.drop_zero, Nat.sub_zero]
    exact List.take_of_length_le (Nat.le_refl _)
end Go.Proofs.YtflpajbcomhkpaaGreatDoor
namespace Go.Proofs.YtflpajbcomhkpaaGreatDoor
open Go.RowKit

end Go.Proofs.YtflpajbcomhkpaaGreatDoor
namespace Go.Proofs.YtflpajbcomhkpaaGreatDoor
open Go.RowKit

/-- The element of OCTETS with the content s: its bytes, and what the law writes. -/
def encS (s : ByteArray) : ByteArray := ⟨(wrapL 4 s.data.toList).toArray⟩
def elS (s : ByteArray) : El := (4, s, encS s)
/-- Two values share no block. -/
def Apart (u v : Value) : Prop := ∀ g, u.ownBlock = some g → v.ownBlock = some g → False
theorem Apart.symm {u v : Value} (h : Apart u v) : Apart v u := fun g a b => h g b a
theorem own_keep {w w' : World} {B : Nat} {e : TypeId} {k n : Nat} {u v : Value} {xs : List Value} (hu : w.ownsRow B e k u n xs) (hg : w.grownBy w' v.ownBlock) (hd : Apart u v) : w'.ownsRow B e k u n xs := by
  refine World.ownsRow.kept hu hg ?_
  cases hb : u.ownBlock with
  | none => exact .inl rfl
  | some g => exact .inr fun e => hd g hb e.symm
theorem apart_step {w : World} {B : Nat} {e : TypeId} {k n : Nat} {u v v' : Value} {xs : List Value} (hu : w.ownsRow B e k u n xs) (hd : Apart u v) (hat : v'.ownBlock = v.ownBlock ∨ v'.ownBlock = some w.heap.size) : Apart u v' := by
  intro g h1 h2
  rcases hat with hat | hat
  · exact hd g h1 (by rw [← hat]; exact h2)
  · have h3 := (World.ownsRow.lt hu g h1).2
    rw [hat] at h2
    have := Option.some.inj h2
    omega
/-- The law's three slices. -/
def Tri (w wr : World) (v1 v2 v3 : Value) (L1 L2 : List ByteArray) (L3 : List El) : Prop :=
  OwnS_t wr w.heap.size v1 L1 ∧ OwnS_t wr w.heap.size v2 L2 ∧ OwnE wr w.heap.size v3 L3 ∧ Apart v1 v2 ∧ Apart v1 v3 ∧ Apart v2 v3 ∧ Below w.heap.size w wr
theorem Tri.nil (w : World) : Tri w w (.slice none 0 0) (.slice none 0 0) (.slice none 0 0) [] [] [] :=
  ⟨World.ownsRow_nil _ _ _ _, World.ownsRow_nil _ _ _ _, World.ownsRow_nil _ _ _ _, fun _ h => by simp [Value.ownBlock] at h, fun _ h => by simp [Value.ownBlock] at h, fun _ h => by simp [Value.ownBlock] at h, Below.refl _ _⟩
theorem Tri.below {w wr w' : World} {v1 v2 v3 : Value} {L1 L2 : List ByteArray} {L3 : List El} (h : Tri w wr v1 v2 v3 L1 L2 L3) (hb : Below wr.heap.size wr w') : Tri w w' v1 v2 v3 L1 L2 L3 := by
  obtain ⟨a, b, c, d, e, f, g⟩ := h
  exact ⟨own_below a hb, own_below b hb, own_below c hb, d, e, f, below_next_t g hb⟩
theorem Tri.alloc {w wr : World} {v1 v2 v3 : Value} {L1 L2 : List ByteArray} {L3 : List El} (h : Tri w wr v1 v2 v3 L1 L2 L3) (o : Obj) : Tri w (wr.alloc o) v1 v2 v3 L1 L2 L3 :=
  h.below (belowNew wr o)
theorem Tri.first {w wr w2 : World} {v1 v2 v3 v' : Value} {L1 L2 : List ByteArray} {L3 : List El} {s : ByteArray} (h : Tri w wr v1 v2 v3 L1 L2 L3)
    (ho : w2.ownsRow w.heap.size 9 1 v' (L1.length + 1) (L1.map Value.string ++ [Value.string s])) (hg : wr.grownBy w2 v1.ownBlock) (hat : v'.ownBlock = v1.ownBlock ∨ v'.ownBlock = some wr.heap.size) :
    Tri w w2 v' v2 v3 (L1 ++ [s]) L2 L3 := by
  obtain ⟨a, b, c, d, e, f, g⟩ := h
  refine ⟨?_, own_keep b hg d.symm, own_keep c hg e.symm, (apart_step b d.symm hat).symm, (apart_step c e.symm hat).symm, f, g.grown hg g.size (fun k e => (World.ownsRow.lt a k e).1)⟩
  unfold OwnS_t
  simpa using ho
theorem Tri.second {w wr w2 : World} {v1 v2 v3 v' : Value} {L1 L2 : List ByteArray} {L3 : List El} {s : ByteArray} (h : Tri w wr v1 v2 v3 L1 L2 L3)
    (ho : w2.ownsRow w.heap.size 9 1 v' (L2.length + 1) (L2.map Value.string ++ [Value.string s])) (hg : wr.grownBy w2 v2.ownBlock) (hat : v'.ownBlock = v2.ownBlock ∨ v'.ownBlock = some wr.heap.size) :
    Tri w w2 v1 v' v3 L1 (L2 ++ [s]) L3 := by
  obtain ⟨a, b, c, d, e, f, g⟩ := h
  refine ⟨own_keep a hg d, ?_, own_keep c hg f.symm, apart_step a d hat, e, (apart_step c f.symm hat).symm, g.grown hg g.size (fun k e => (World.ownsRow.lt b k e).1)⟩
  unfold OwnS_t
  simpa using ho
theorem Tri.third {w wr w2 : World} {v1 v2 v3 v' : Value} {L1 L2 : List ByteArray} {L3 : List El} {x : El} (h : Tri w wr v1 v2 v3 L1 L2 L3)
    (ho : w2.ownsRow w.heap.size 23 3 v' (L3.length + 1) (elsCells L3 ++ elCells x)) (hg : wr.grownBy w2 v3.ownBlock) (hat : v'.ownBlock = v3.ownBlock ∨ v'.ownBlock = some wr.heap.size) :
    Tri w w2 v1 v2 v' L1 L2 (L3 ++ [x]) := by
  obtain ⟨a, b, c, d, e, f, g⟩ := h
  refine ⟨own_keep a hg e, own_keep b hg f, ?_, d, apart_step a e hat, apart_step b f hat, g.grown hg g.size (fun k e => (World.ownsRow.lt c k e).1)⟩
  unfold OwnE
  rw [List.length_append, elsCells_snoc]
  exact ho
theorem Tri.next {w wr : World} {v1 v2 v3 : Value} {D ss : List ByteArray} {s x : ByteArray} {k : Nat} (h : Tri w wr v1 v2 v3 (D ++ [s]) (D.map encS ++ [x]) (D.map elS ++ [(4, s, x)])) (hx : x = encS s) (hD : D = ss.take k) (hk : k < ss.length)
    (hs : s = ss.getD k ByteArray.empty) : Tri w wr v1 v2 v3 (ss.take (k + 1)) ((ss.take (k + 1)).map encS) ((ss.take (k + 1)).map elS) := by
  have e : ss.take (k + 1) = D ++ [s] := by
    rw [List.take_succ_eq_append_getElem hk, hs, hD]
    simp [hk]
  rw [e, List.map_append, List.map_append]
  subst hx
  exact h
theorem OwnS_t.reads {w : World} {B : Nat} {v : Value} {D : List ByteArray} (h : OwnS_t w B v D) : Reads w v D := h.lies

theorem OwnE.old {B : Nat} {w w' : World} {v : Value} {l : List El} (h : OwnE w B v l) (hb : Below w.heap.size w w') : OwnE w' B v l := own_below h hb
end Go.Proofs.YtflpajbcomhkpaaGreatDoor
namespace Go.Proofs.YtflpajbcomhkpaaGreatDoor
open Go.RowKit

end Go.Proofs.YtflpajbcomhkpaaGreatDoor
namespace Go.Proofs.YtflpajbcomhkpaaGreatDoor
open Go.RowKit

/-! ### Elements -/
theorem wr1_list {t : Nat} {c : ByteArray} (ht : t < 256) (h1 : t % 32 ≠ 31) (hc : c.size ≤ 131072) : (wr1 ((t : Nat) : Int) c).data.toList = wrapL t c.data.toList := by
  have e : wrapErr ((t : Nat) : Int) c.data.toList.length = 0 := by
    have : c.data.toList.length = c.size := rfl
    unfold wrapErr
    rw [if_neg (by omega), if_neg (by omega)]
  unfold wr1 wrapStr
  rw [e, if_pos rfl]
  rfl
/-- An element as Wrap writes it. -/
def OkE (e : El) : Prop := e.1 < 256 ∧ e.1 % 32 ≠ 31 ∧ e.2.1.size ≤ 131072 ∧ e.2.2 = wr1 ((e.1 : Nat) : Int) e.2.1
def raws (L : List El) : List (List UInt8) := L.map fun e => e.2.2.data.toList
theorem rd_parts {b : ByteArray} (h : rdErr b = 0) : OkE (rdElem b) ∧ b.data.toList = (rdRaw b).data.toList ++ (rdRest b).data.toList := by
  have hh := head_back h
  obtain ⟨h2, h5, hs, hx, h0⟩ := rd_ok h
  have hlen := rd_len_le h
  have ht := rdTag_lt b
  obtain ⟨n, hn⟩ : ∃ n, n = (rd b).2.2 := ⟨_, rfl⟩
  obtain ⟨p, hp⟩ : ∃ p, p = (rd b).2.1 := ⟨_, rfl⟩
  have hraw : (rdRaw b).data.toList = b.data.toList.take (p + n) := by unfold rdRaw; rw [data_extract, ← hn, ← hp]; simp
  have hrest : (rdRest b).data.toList = b.data.toList.drop (p + n) := by
    unfold rdRest
    rw [data_extract, ← hn, ← hp]
    refine List.take_of_length_le ?_
    rw [List.length_drop]
    exact Nat.le_refl _
  have hcon : (rdContent b).data.toList = (b.data.toList.drop p).take n := by unfold rdContent; rw [data_extract, ← hn, ← hp]; congr 1; omega
  rw [← hn, ← hp] at hh
  rw [← hn] at hlen
  rw [← hn, ← hp] at hs
  obtain ⟨D, hD⟩ : ∃ D, D = b.data.toList.drop p := ⟨_, rfl⟩
  have hDl : D.length = b.size - p := by rw [hD, List.length_drop]; rfl
  rw [← hD] at hh hcon
  have hl := congrArg List.length hh
  have hlb : b.data.toList.length = b.size := rfl
  rw [hlb, List.length_cons, List.length_append, hDl] at hl
  have hc : (rdContent b).size = n := by
    have : (rdContent b).data.toList.length = (rdContent b).size := rfl
    rw [← this, hcon, List.length_take, hDl]
    omega
  refine ⟨⟨ht, hx, by show (rdContent b).size ≤ _; omega, ?_⟩, by rw [hraw, hrest, List.take_append_drop]⟩
  show rdRaw b = wr1 _ (rdContent b)
  apply ext_list_t
  show _ = (wr1 ((rdTag b : Nat) : Int) (rdContent b)).data.toList
  rw [wr1_list ht hx (by omega), hraw, hcon]
  have hcl : (D.take n).length = n := by rw [← hcon]; exact hc
  unfold wrapL
  rw [hcl]
  conv => lhs; rw [hh]
  rw [show p + n = (lenO n).length + n + 1 by omega, List.take_succ_cons, List.take_append]
  congr 1
  rw [List.take_of_length_le (by omega), show (lenO n).length + n - (lenO n).length = n by omega]
theorem els_lst (k : Nat) : ∀ (b : ByteArray) (L : List El), b.size ≤ k → lst b = (L, 0) → (∀ e ∈ L, OkE e) ∧ b.data.toList = (raws L).flatten := by
  induction k with
  | zero =>
    intro b L hk h
    have h0 : b.size = 0 := by omega
    rw [lst_nil h0] at h
    obtain rfl : L = [] := (Prod.mk.inj h).1.symm
    exact ⟨fun e he => (by cases he), List.length_eq_zero_iff.1 h0⟩
  | succ k ih =>
    intro b L hk h
    by_cases h0 : b.size = 0
    · rw [lst_nil h0] at h
      obtain rfl : L = [] := (Prod.mk.inj h).1.symm
      exact ⟨fun e he => (by cases he), List.length_eq_zero_iff.1 h0⟩
    · by_cases he : rdErr b = 0
      · obtain ⟨p1, p2⟩ := rd_parts he
        have hsz := rdRest_size he
        rw [lst_step h0 he] at h
        by_cases hr : (lst (rdRest b)).2 = 0
        · rw [if_pos hr] at h
          obtain rfl : L = rdElem b :: (lst (rdRest b)).1 := (Prod.mk.inj h).1.symm
          obtain ⟨M, hM⟩ : ∃ M, M = (lst (rdRest b)).1 := ⟨_, rfl⟩
          have h3 : lst (rdRest b) = (M, 0) := by rw [hM, ← hr]
          rw [← hM]
          obtain ⟨i1, i2⟩ := ih (rdRest b) M (by omega) h3
          refine ⟨fun e hm => ?_, ?_⟩
          · rcases List.mem_cons.1 hm with rfl | hm
            · exact p1
            · exact i1 e hm
          · rw [p2, i2]; rfl
        · rw [if_neg hr] at h
          exact absurd (Prod.mk.inj h).2 hr
      · rw [lst_bad h0 he] at h
        exact absurd (Prod.mk.inj h).2 he

/-! ### Attributes -/
/-! ### Object identifiers -/
theorem oid_back {c id : ByteArray} (h : oidD c = some id) : oidS id = c ∧ oidB id = true := by
  by_cases hx : ∃ a, Dec c.data.toList a
  · obtain ⟨a, ha⟩ := hx
    rw [oidD_yes ha] at h
    obtain rfl := Option.some.inj h
    have ho : Oid (strOf (txt a)).data.toList a := by rw [strOf_list]; exact oid_of ha.1
    exact ⟨by rw [oidS_yes ho]; exact (strOf_of ha.2).symm, oidB_yes ho⟩
  · rw [oidD_no (fun a k => hx ⟨a, k⟩)] at h
    cases h
end Go.Proofs.YtflpajbcomhkpaaGreatDoor
namespace Go.Proofs.YtflpajbcomhkpaaGreatDoor
open Go.RowKit

/-! ### Relative names -/
/-! ### Names -/
theorem asc_pair {l : List El} {L : List (List UInt8)} (hL : l.map (fun e => e.2.2.data.toList) = L) (h : ascP l l.length) : L.Pairwise (fun a b => ¬ b < a) := by
  have hl : L.length = l.length := by rw [← hL, List.length_map]
  have g : ∀ j (hj : j < L.length), rawAt l j = L[j] := fun j hj => by
    unfold rawAt
    rw [List.getD_eq_getElem?_getD, List.getElem?_eq_getElem (by omega)]
    simp only [← hL, List.getElem_map, Option.getD_some]
  have hs : ∀ d i, i + d < l.length → ¬ rawAt l (i + d) < rawAt l i := by
    intro d
    induction d with
    | zero => intro i _; exact List.lt_irrefl _
    | succ d ih =>
      intro i hi
      have h1 := ih i (by omega)
      have h2 := h (i + (d + 1)) (by omega) hi
      rw [show i + (d + 1) - 1 = i + d by omega] at h2
      exact List.not_lt.2 (List.le_trans (List.not_lt.1 h1) (List.not_lt.1 h2))
  refine List.pairwise_iff_getElem.2 fun i j hi hj hij => ?_
  rw [← g i hi, ← g j hj]
  have := hs (j - i) i (by omega)
  rwa [show i + (j - i) = j by omega] at this
theorem decA_back {e : El} {a : At} (he : OkE e) (h : decA e = (0, a)) : encA a = e.2.2 := by
  unfold decA at h
  by_cases h1 : e.1 ≠ 48
  · rw [if_pos h1] at h; cases (Prod.mk.inj h).1
  · rw [if_neg h1] at h
    by_cases h2 : (lst e.2.1).2 ≠ 0
    · rw [if_pos h2] at h; exact absurd (Prod.mk.inj h).1 h2
    · rw [if_neg h2] at h
      have h2' : (lst e.2.1).2 = 0 := by omega
      obtain ⟨k1, k2⟩ := els_lst _ e.2.1 (lst e.2.1).1 (Nat.le_refl _) (by rw [← h2'])
      cases hl : (lst e.2.1).1 with
      | nil => rw [hl] at h; simp only [decL] at h; cases (Prod.mk.inj h).1
      | cons x r =>
        rw [hl] at h k1 k2
        simp only [decL] at h
        by_cases h3 : x.1 ≠ 6
        · rw [if_pos h3] at h; cases (Prod.mk.inj h).1
        · rw [if_neg h3] at h
          cases ho : oidD x.2.1 with
          | none => rw [ho] at h; cases (Prod.mk.inj h).1
          | some id =>
            rw [ho] at h
            simp only [] at h
            cases r with
            | nil => cases (Prod.mk.inj h).1
            | cons y q =>
              simp only [] at h
              by_cases h4 : strTag y.1 = false
              · rw [if_pos h4] at h; cases (Prod.mk.inj h).1
              · rw [if_neg h4] at h
                by_cases h5 : q ≠ []
                · rw [if_pos h5] at h; cases (Prod.mk.inj h).1
                · rw [if_neg h5] at h
                  have h5' : q = [] := by simpa using h5
                  subst h5'
                  obtain rfl := (Prod.mk.inj h).2
                  have x1 := k1 x List.mem_cons_self
                  have y1 := k1 y (List.mem_cons_of_mem _ List.mem_cons_self)
                  have hx6 : x.1 = 6 := by omega
                  have h48 : e.1 = 48 := by omega
                  rw [he.2.2.2, h48]
                  show wrapStr 48 _ = wrapStr 48 _
                  congr 1
                  rw [k2, (oid_back ho).1]
                  have xr := x1.2.2.2
                  rw [hx6] at xr
                  have yr := y1.2.2.2
                  show (wr1 6 x.2.1).data.toList ++ (wr1 (y.1 : Int) y.2.1).data.toList = _
                  unfold raws
                  simp [xr, yr]
theorem decAs_back : ∀ {l : List El} {r : List At}, (∀ e ∈ l, OkE e) → decAs l = (0, r) → r.map encA = l.map (·.2.2)
  | [], r, _, h => by
    obtain rfl := (Prod.mk.inj h).2.symm
    rfl
  | e :: l, r, hk, h => by
    unfold decAs at h
    by_cases h1 : (decA e).1 ≠ 0
    · rw [if_pos h1] at h; exact absurd (Prod.mk.inj h).1 h1
    · rw [if_neg h1] at h
      by_cases h2 : (decAs l).1 ≠ 0
      · rw [if_pos h2] at h; exact absurd (Prod.mk.inj h).1 h2
      · rw [if_neg h2] at h
        obtain rfl := (Prod.mk.inj h).2.symm
        have a1 := decA_back (a := (decA e).2) (hk e List.mem_cons_self) (by rw [← show (decA e).1 = 0 by omega])
        have a2 := decAs_back (r := (decAs l).2) (fun x hx => hk x (List.mem_cons_of_mem _ hx)) (by rw [← show (decAs l).1 = 0 by omega])
        rw [List.map_cons, List.map_cons, a1, a2]
theorem decR_back {e : El} {r : List At} (he : OkE e) (h : decR e = (0, r)) : encR r = e.2.2 := by
  unfold decR at h
  by_cases h1 : e.1 ≠ 49
  · rw [if_pos h1] at h; cases (Prod.mk.inj h).1
  · rw [if_neg h1] at h
    by_cases h2 : (lst e.2.1).2 ≠ 0
    · rw [if_pos h2] at h; exact absurd (Prod.mk.inj h).1 h2
    · rw [if_neg h2] at h
      have h2' : (lst e.2.1).2 = 0 := by omega
      obtain ⟨k1, k2⟩ := els_lst _ e.2.1 (lst e.2.1).1 (Nat.le_refl _) (by rw [← h2'])
      by_cases h3 : ascB (lst e.2.1).1 = false
      · rw [if_pos h3] at h; cases (Prod.mk.inj h).1
      · rw [if_neg h3] at h
        have ha : ascP (lst e.2.1).1 (lst e.2.1).1.length := by
          have : ascB (lst e.2.1).1 = true := by simpa using h3
          unfold ascB at this
          exact @of_decide_eq_true _ (Classical.propDecidable _) this
        have hm := decAs_back k1 h
        have hL : lists (r.map encA) = raws (lst e.2.1).1 := by unfold lists raws; rw [hm, List.map_map]; rfl
        have hs : lists (r.map encA) = ordL (lists (r.map encA)) := sorted_one (by rw [hL]; exact asc_pair rfl ha) (List.Perm.refl _)
        have h49 : e.1 = 49 := by omega
        rw [he.2.2.2, h49]
        show wrapStr 49 _ = wrapStr 49 _
        congr 1
        rw [k2, ← hL]
        show (ordL (lists (r.map encA))).flatten = _
        rw [← hs]
theorem decRs_back : ∀ {l : List El} {n : Nm}, (∀ e ∈ l, OkE e) → decRs l = (0, n) → n.map encR = l.map (·.2.2)
  | [], r, _, h => by
    obtain rfl := (Prod.mk.inj h).2.symm
    rfl
  | e :: l, r, hk, h => by
    unfold decRs at h
    by_cases h1 : (decR e).1 ≠ 0
    · rw [if_pos h1] at h; exact absurd (Prod.mk.inj h).1 h1
    · rw [if_neg h1] at h
      by_cases h2 : (decRs l).1 ≠ 0
      · rw [if_pos h2] at h; exact absurd (Prod.mk.inj h).1 h2
      · rw [if_neg h2] at h
        obtain rfl := (Prod.mk.inj h).2.symm
        have a1 := decR_back (r := (decR e).2) (hk e List.mem_cons_self) (by rw [← show (decR e).1 = 0 by omega])
        have a2 := decRs_back (n := (decRs l).2) (fun x hx => hk x (List.mem_cons_of_mem _ hx)) (by rw [← show (decRs l).1 = 0 by omega])
        rw [List.map_cons, List.map_cons, a1, a2]
/-- What is decoded is encoded as it was. -/
theorem enc_dec {b : ByteArray} {n : Nm} (h : decN b = (0, n)) : chkN n = 0 ∧ encN n = b := by
  unfold decN at h
  by_cases h1 : (decN0 b).1 ≠ 0
  · rw [if_pos h1] at h; exact absurd (Prod.mk.inj h).1 h1
  · rw [if_neg h1] at h
    by_cases h2 : chkN (decN0 b).2 ≠ 0
    · rw [if_pos h2] at h; exact absurd (Prod.mk.inj h).1 h2
    · rw [if_neg h2] at h
      obtain rfl := (Prod.mk.inj h).2.symm
      refine ⟨by omega, ?_⟩
      clear h h2
      have h1' : (decN0 b).1 = 0 := by omega
      obtain ⟨n, hn⟩ : ∃ n, n = (decN0 b).2 := ⟨_, rfl⟩
      have h : decN0 b = (0, n) := by rw [← h1', hn]
      rw [← hn]
      clear hn h1 h1'
      unfold decN0 at h
      by_cases h1 : oneErr b ≠ 0
      · rw [if_pos h1] at h; exact absurd (Prod.mk.inj h).1 h1
      · rw [if_neg h1] at h
        by_cases h2 : rdTag b ≠ 48
        · rw [if_pos h2] at h; cases (Prod.mk.inj h).1
        · rw [if_neg h2] at h
          by_cases h3 : (lst (rdContent b)).2 ≠ 0
          · rw [if_pos h3] at h; exact absurd (Prod.mk.inj h).1 h3
          · rw [if_neg h3] at h
            obtain ⟨k1, k2⟩ := els_lst _ (rdContent b) (lst (rdContent b)).1 (Nat.le_refl _) (by rw [← show (lst (rdContent b)).2 = 0 by omega])
            have hm := decRs_back k1 h
            obtain ⟨w1, w2⟩ := wrap_one (b := b) (by omega)
            have he := oneErr_rd (show oneErr b = 0 by omega)
            obtain ⟨p1, _⟩ := rd_parts he
            have h48 : rdTag b = 48 := by omega
            have p2 := p1.2.2.2
            have p3 : rdRaw b = wr1 ((rdTag b : Nat) : Int) (rdContent b) := p2
            rw [w2, h48] at p3
            rw [p3]
            show wrapStr 48 _ = wrapStr 48 _
            congr 1
            rw [k2, ← flat_cat]
            congr 1
            unfold lists raws
            rw [hm, List.map_map]
            rfl
end Go.Proofs.YtflpajbcomhkpaaGreatDoor
namespace Go.Proofs.YtflpajbcomhkpaaGreatDoor
open Go.RowKit

noncomputable def decG (con : Bool) (tag : Int) (ct : ByteArray) : Nat × Gn :=
  if tag = 129 ∨ tag = 130 ∨ tag = 135 then (if chkG con (tag - 128) ct.data.toList [] = 0 then (0, (tag - 128, ct.data.toList, [])) else (chkG con (tag - 128) ct.data.toList [], noG))
  else if tag = 164 then (if (decN ct).1 = 0 then (0, (4, [], (decN ct).2)) else ((decN ct).1, noG)) else (5, noG)
theorem gnRes2 {fn : Func} {p u : Tmp} (h : fn.results = #[.cell p 32, .tmp u]) (tmps : Array Value) (w : World) (g : Nat) (x y z : Value)
    (hp : tmps.getD p undef = .pointer (some ⟨g, 0, none⟩)) (hg : w.heap[g]? = some (.cells #[x, y, z] 32 (0, 0))) :
    (results fn tmps).run Tryz.prog w = .ok (.tuple #[.agg #[x, y, z], tmps.getD u undef]) w :=
  results_cell_row2 h tmps w g 32 #[x, y, z] (0, 0) _ hp hg Tryz.underlying32 rfl gnSize
theorem own_lies4 {w : World} {B c : Nat} {a : Option Addr} {n : Nm} (h : OwnN w B (.slice a n.length c) n) : RLies w a n := by
  obtain ⟨a', c', e, _, hr⟩ := h.lies
  obtain ⟨rfl, rfl⟩ : a = a' ∧ c = c' := by simpa using e
  exact hr
theorem tag_or (T : Int) : T = 129 ∨ T = 130 ∨ T = 135 ∨ T = 164 ∨ (T ≠ 129 ∧ T ≠ 130 ∧ T ≠ 135 ∧ T ≠ 164) := by omega

set_option maxRecDepth 100000 in
set_option maxHeartbeats 8000000 in
theorem rdecG_core (T : Int) (ct raw : ByteArray) (con : Bool) (w : World) (hc : ct.size ≤ 150000) :
    Calls Tryz.prog 16 #[.agg #[.int .i64 T, .string ct, .string raw], .bool con] w fun e w' => ∃ s, e = .returned (.tuple #[.agg #[.int .i64 (decG con T ct).2.1, .string (strOf (decG con T ct).2.2.1), s], .int .i64 (((decG con T ct).1 : Nat) : Int)]) ∧ OwnN w' w.heap.size s (decG con T ct).2.2.2 ∧ Below w.heap.size w w' := by
  obtain ⟨W0, hW0⟩ : ∃ W0, W0 = ((w.alloc (.cells #[.int .i64 T, .string ct, .string raw] 23)).alloc (.cells #[.int .i64 0, .string ⟨#[]⟩, .slice none 0 0] 32)).alloc (.cells #[.int .i64 0, .string ⟨#[]⟩, .slice none 0 0] 32) := ⟨_, rfl⟩
  have hb0 : Below w.heap.size w W0 := by rw [hW0]; exact below_next (belowTwo w _ _) (belowNew _ _)
  have hqe : W0.heap[w.heap.size]? = some (.cells #[.int .i64 T, .string ct, .string raw] 23 (0, 0)) := by
    rw [hW0]; exact ((belowTwo _ _ _).block _ (by simp)).trans (heap_alloc_new w _)
  obtain ⟨r, hr⟩ : ∃ r, r = w.heap.size + 1 := ⟨_, rfl⟩
  have hqr : W0.heap[r]? = some (.cells #[.int .i64 0, .string ⟨#[]⟩, .slice none 0 0] 32 (0, 0)) := by
    have h1 := heap_alloc_new (w.alloc (.cells #[.int .i64 T, .string ct, .string raw] 23)) (.cells #[.int .i64 0, .string ⟨#[]⟩, .slice none 0 0] 32)
    rw [show (w.alloc (.cells #[.int .i64 T, .string ct, .string raw] 23)).heap.size = r by rw [hr]; simp] at h1
    rw [hW0]; exact ((belowNew _ _).block r (by rw [hr]; simp)).trans h1
  have hqg : W0.heap[r + 1]? = some (.cells #[.int .i64 0, .string ⟨#[]⟩, .slice none 0 0] 32 (0, 0)) := by
    have h1 := heap_alloc_new ((w.alloc (.cells #[.int .i64 T, .string ct, .string raw] 23)).alloc (.cells #[.int .i64 0, .string ⟨#[]⟩, .slice none 0 0] 32)) (.cells #[.int .i64 0, .string ⟨#[]⟩, .slice none 0 0] 32)
    rw [show ((w.alloc (.cells #[.int .i64 T, .string ct, .string raw] 23)).alloc (.cells #[.int .i64 0, .string ⟨#[]⟩, .slice none 0 0] 32)).heap.size = r + 1 by rw [hr]; simp] at h1
    rw [hW0]; exact h1
  obtain ⟨c0, c1, c2, l0⟩ := three_facts hqe
  obtain ⟨r0, r1, r2, s0, s1, s2, lr⟩ := at_facts hqr
  obtain ⟨g0, g1, g2, t0, t1, t2, lg⟩ := at_facts hqg
  have HWR := Lib.hid hW0.symm
  have HB0 := Lib.hid hb0
  have HQR := Lib.hid hqr
  have HQG := Lib.hid hqg
  have HC := Lib.hid hc
  have hrr : w.heap.size < r := by omega
  have HRE := Lib.hid hr
  obtain ⟨t, rfl⟩ : ∃ t, ct = strOf t := ⟨_, strOf_of rfl⟩
  obtain ⟨R, hR⟩ : ∃ R, R = decG con T (strOf t) := ⟨_, rfl⟩
  rw [← hR]
  have HR := Lib.hid hR
  have HTL := Lib.hid (show t.length ≤ 150000 by have := hc; rw [strOf_size] at this; exact this)
  clear hW0 hb0 hqe hqr hqg hc hr hR
  have fin : ∀ (w9 : World) (k : Int) (u : List UInt8) (aq : Option Addr) (cq : Nat) (n : Nm) (E : Nat), w9.heap[r]? = some (.cells #[.int .i64 0, .string ⟨#[]⟩, .slice none 0 0] 32 (0, 0)) → OwnN w9 w.heap.size (.slice aq n.length cq) n → Below w.heap.size w w9 → R = (E, (k, u, n)) →
      (((w9.setCell ⟨r, 0, none⟩ (.int .i64 k)).setCell ⟨r, 1, none⟩ (.string (strOf u))).setCell ⟨r, 2, none⟩ (.slice aq n.length cq)).heap[r]? = some (.cells #[.int .i64 k, .string (strOf u), .slice aq n.length cq] 32 (0, 0)) ∧
      ∃ s, Ending.returned (.tuple #[.agg #[.int .i64 k, .string (strOf u), .slice aq n.length cq], .int .i64 (E : Int)]) = .returned (.tuple #[.agg #[.int .i64 R.2.1, .string (strOf R.2.2.1), s], .int .i64 ((R.1 : Nat) : Int)]) ∧ OwnN (((w9.setCell ⟨r, 0, none⟩ (.int .i64 k)).setCell ⟨r, 1, none⟩ (.string (strOf u))).setCell ⟨r, 2, none⟩ (.slice aq n.length cq)) w.heap.size s R.2.2.2 ∧ Below w.heap.size w (((w9.setCell ⟨r, 0, none⟩ (.int .i64 k)).setCell ⟨r, 1, none⟩ (.string (strOf u))).setCell ⟨r, 2, none⟩ (.slice aq n.length cq)) := by
    intro w9 k u aq cq n E h1 h2 h3 h4
    have hs := ((But.set r 0 w9 (.int .i64 k)).next (But.set r 1 _ (.string (strOf u)))).next (But.set r 2 _ (.slice aq n.length cq))
    subst h4
    exact ⟨at_set h1, _, rfl, h2.apart h1 (by decide) (by decide) hs, h3.trans ((hs.below (Nat.le_of_lt (Array.getElem?_eq_some_iff.1 h1).1)).mono (Nat.le_of_lt hrr))⟩
  have HF := Lib.hid fin
  clear fin
  rcases tag_or T with rfl | rfl | rfl | rfl | hT
  · obtain ⟨W1, hW1⟩ : ∃ W1, W1 = ((W0.setCell ⟨r + 1, 0, none⟩ (.int .i64 1)).setCell ⟨r + 1, 1, none⟩ (.string (strOf t))).setCell ⟨r + 1, 2, none⟩ (.slice none 0 0) := ⟨_, rfl⟩
    have hs := ((But.set (r + 1) 0 W0 (.int .i64 1)).next (But.set (r + 1) 1 _ (.string (strOf t)))).next (But.set (r + 1) 2 _ (.slice none 0 0))
    rw [← hW1] at hs
    have hg1 := at_set (a := .int .i64 1) (b := .string (strOf t)) (c := .slice none 0 0) HQG.out
    rw [← hW1] at hg1
    have hr1 := (hs.block r lr (by simp)).trans HQR.out
    have HB1 := Lib.hid (show Below w.heap.size w W1 from HB0.out.trans ((hs.below (Nat.le_of_lt lg)).mono (by omega)))
    have HK := Lib.hid (rchkG_core none 0 0 1 t [] con W1 (RLies.nil _ _) rfl HTL.out ⟨by decide, fun i hi => absurd hi (Nat.not_lt_zero _)⟩)
    have HV := Lib.hid (show R = if chkG con 1 t [] = 0 then (0, (1, t, [])) else (chkG con 1 t [], noG) by rw [HR.out]; unfold decG; rw [if_pos (by decide), strOf_list]; rfl)
    have HG1 := Lib.hid hg1
    have HR1 := Lib.hid hr1
    obtain ⟨x0, x1, x2, _, _, _, lx⟩ := at_facts hg1
    obtain ⟨y0, y1, y2, z0, z1, z2, ly⟩ := at_facts hr1
    have HWE := hW1.symm
    generalize chkG con 1 t [] = E at HK HV
    clear hs hg1 hr1 hW1
    by_cases hz : E = 0
    · subst hz
      have HV2 := Lib.hid (show R = (0, (1, t, [])) from HV.out.trans (if_pos rfl))
      go_enter Tryz.func16, Tryz.ntmps16
      go_upto_region 2 with fail
      rw [HWR.out, ← HRE.out]
      go_upto_region 13 with fail
      try rw [HWE]
      clear c0 c1 c2 g0 g1 g2 t0 t1 t2 r0 r1 r2 s0 s1 s2 HWE
      go_wp2_with (go_at_call 35; (with_reducible refine HK.out.mono ?_); rintro e w2 ⟨rfl, hb2⟩; have HB2 := Lib.hid (below_next HB1.out hb2); have HG2 := Lib.hid ((hb2.block _ lx).trans HG1.out); have HR2 := Lib.hid ((hb2.block _ ly).trans HR1.out); obtain ⟨u0, u1, u2, _, _, _, lu⟩ := at_facts HG2.out; obtain ⟨v0, v1, v2, i0, i1, i2, lv⟩ := at_facts HR2.out; clear hb2)
      obtain ⟨q1, q2⟩ := HF.out w2 1 t none 0 [] 0 HR2.out (OwnN.nil _ _) HB2.out HV2.out
      obtain ⟨s9, e9, h9, b9⟩ := q2
      exact bodyPost_ret (gnRes2 rfl _ _ r _ _ _ rfl q1) rfl ⟨s9, by rw [← e9]; rfl, h9, b9⟩
    · have hz1 := errno_ne hz
      have HV2 := Lib.hid (show R = (E, noG) from HV.out.trans (if_neg hz))
      go_enter Tryz.func16, Tryz.ntmps16
      go_upto_region 2 with fail
      rw [HWR.out, ← HRE.out]
      go_upto_region 13 with fail
      try rw [HWE]
      clear c0 c1 c2 g0 g1 g2 t0 t1 t2 r0 r1 r2 s0 s1 s2 HWE
      go_wp2_with (go_at_call 35; (with_reducible refine HK.out.mono ?_); rintro e w2 ⟨rfl, hb2⟩; have HB2 := Lib.hid (below_next HB1.out hb2); have HR2 := Lib.hid ((hb2.block _ ly).trans HR1.out); obtain ⟨v0, v1, v2, i0, i1, i2, lv⟩ := at_facts HR2.out; clear hb2)
      obtain ⟨q1, q2⟩ := HF.out w2 0 [] none 0 [] E HR2.out (OwnN.nil _ _) HB2.out HV2.out
      obtain ⟨s9, e9, h9, b9⟩ := q2
      exact bodyPost_ret (gnRes2 rfl _ _ r _ _ _ rfl q1) rfl ⟨s9, by rw [← e9]; rfl, h9, b9⟩
  · obtain ⟨W1, hW1⟩ : ∃ W1, W1 = ((W0.setCell ⟨r + 1, 0, none⟩ (.int .i64 2)).setCell ⟨r + 1, 1, none⟩ (.string (strOf t))).setCell ⟨r + 1, 2, none⟩ (.slice none 0 0) := ⟨_, rfl⟩
    have hs := ((But.set (r + 1) 0 W0 (.int .i64 2)).next (But.set (r + 1) 1 _ (.string (strOf t)))).next (But.set (r + 1) 2 _ (.slice none 0 0))
    rw [← hW1] at hs
    have hg1 := at_set (a := .int .i64 2) (b := .string (strOf t)) (c := .slice none 0 0) HQG.out
    rw [← hW1] at hg1
    have hr1 := (hs.block r lr (by simp)).trans HQR.out
    have HB1 := Lib.hid (show Below w.heap.size w W1 from HB0.out.trans ((hs.below (Nat.le_of_lt lg)).mono (by omega)))
    have HK := Lib.hid (rchkG_core none 0 0 2 t [] con W1 (RLies.nil _ _) rfl HTL.out ⟨by decide, fun i hi => absurd hi (Nat.not_lt_zero _)⟩)
    have HV := Lib.hid (show R = if chkG con 2 t [] = 0 then (0, (2, t, [])) else (chkG con 2 t [], noG) by rw [HR.out]; unfold decG; rw [if_pos (by decide), strOf_list]; rfl)
    have HG1 := Lib.hid hg1
    have HR1 := Lib.hid hr1
    obtain ⟨x0, x1, x2, _, _, _, lx⟩ := at_facts hg1
    obtain ⟨y0, y1, y2, z0, z1, z2, ly⟩ := at_facts hr1
    have HWE := hW1.symm
    generalize chkG con 2 t [] = E at HK HV
    clear hs hg1 hr1 hW1
    by_cases hz : E = 0
    · subst hz
      have HV2 := Lib.hid (show R = (0, (2, t, [])) from HV.out.trans (if_pos rfl))
      go_enter Tryz.func16, Tryz.ntmps16
      go_upto_region 2 with fail
      rw [HWR.out, ← HRE.out]
      go_upto_region 13 with fail
      try rw [HWE]
      clear c0 c1 c2 g0 g1 g2 t0 t1 t2 r0 r1 r2 s0 s1 s2 HWE
      go_wp2_with (go_at_call 35; (with_reducible refine HK.out.mono ?_); rintro e w2 ⟨rfl, hb2⟩; have HB2 := Lib.hid (below_next HB1.out hb2); have HG2 := Lib.hid ((hb2.block _ lx).trans HG1.out); have HR2 := Lib.hid ((hb2.block _ ly).trans HR1.out); obtain ⟨u0, u1, u2, _, _, _, lu⟩ := at_facts HG2.out; obtain ⟨v0, v1, v2, i0, i1, i2, lv⟩ := at_facts HR2.out; clear hb2)
      obtain ⟨q1, q2⟩ := HF.out w2 2 t none 0 [] 0 HR2.out (OwnN.nil _ _) HB2.out HV2.out
      obtain ⟨s9, e9, h9, b9⟩ := q2
      exact bodyPost_ret (gnRes2 rfl _ _ r _ _ _ rfl q1) rfl ⟨s9, by rw [← e9]; rfl, h9, b9⟩
    · have hz1 := errno_ne hz
      have HV2 := Lib.hid (show R = (E, noG) from HV.out.trans (if_neg hz))
      go_enter Tryz.func16, Tryz.ntmps16
      go_upto_region 2 with fail
      rw [HWR.out, ← HRE.out]
      go_upto_region 13 with fail
      try rw [HWE]
      clear c0 c1 c2 g0 g1 g2 t0 t1 t2 r0 r1 r2 s0 s1 s2 HWE
      go_wp2_with (go_at_call 35; (with_reducible refine HK.out.mono ?_); rintro e w2 ⟨rfl, hb2⟩; have HB2 := Lib.hid (below_next HB1.out hb2); have HR2 := Lib.hid ((hb2.block _ ly).trans HR1.out); obtain ⟨v0, v1, v2, i0, i1, i2, lv⟩ := at_facts HR2.out; clear hb2)
      obtain ⟨q1, q2⟩ := HF.out w2 0 [] none 0 [] E HR2.out (OwnN.nil _ _) HB2.out HV2.out
      obtain ⟨s9, e9, h9, b9⟩ := q2
      exact bodyPost_ret (gnRes2 rfl _ _ r _ _ _ rfl q1) rfl ⟨s9, by rw [← e9]; rfl, h9, b9⟩
  · obtain ⟨W1, hW1⟩ : ∃ W1, W1 = ((W0.setCell ⟨r + 1, 0, none⟩ (.int .i64 7)).setCell ⟨r + 1, 1, none⟩ (.string (strOf t))).setCell ⟨r + 1, 2, none⟩ (.slice none 0 0) := ⟨_, rfl⟩
    have hs := ((But.set (r + 1) 0 W0 (.int .i64 7)).next (But.set (r + 1) 1 _ (.string (strOf t)))).next (But.set (r + 1) 2 _ (.slice none 0 0))
    rw [← hW1] at hs
    have hg1 := at_set (a := .int .i64 7) (b := .string (strOf t)) (c := .slice none 0 0) HQG.out
    rw [← hW1] at hg1
    have hr1 := (hs.block r lr (by simp)).trans HQR.out
    have HB1 := Lib.hid (show Below w.heap.size w W1 from HB0.out.trans ((hs.below (Nat.le_of_lt lg)).mono (by omega)))
    have HK := Lib.hid (rchkG_core none 0 0 7 t [] con W1 (RLies.nil _ _) rfl HTL.out ⟨by decide, fun i hi => absurd hi (Nat.not_lt_zero _)⟩)
    have HV := Lib.hid (show R = if chkG con 7 t [] = 0 then (0, (7, t, [])) else (chkG con 7 t [], noG) by rw [HR.out]; unfold decG; rw [if_pos (by decide), strOf_list]; rfl)
    have HG1 := Lib.hid hg1
    have HR1 := Lib.hid hr1
    obtain ⟨x0, x1, x2, _, _, _, lx⟩ := at_facts hg1
    obtain ⟨y0, y1, y2, z0, z1, z2, ly⟩ := at_facts hr1
    have HWE := hW1.symm
    generalize chkG con 7 t [] = E at HK HV
    clear hs hg1 hr1 hW1
    by_cases hz : E = 0
    · subst hz
      have HV2 := Lib.hid (show R = (0, (7, t, [])) from HV.out.trans (if_pos rfl))
      go_enter Tryz.func16, Tryz.ntmps16
      go_upto_region 2 with fail
      rw [HWR.out, ← HRE.out]
      go_upto_region 13 with fail
      try rw [HWE]
      clear c0 c1 c2 g0 g1 g2 t0 t1 t2 r0 r1 r2 s0 s1 s2 HWE
      go_wp2_with (go_at_call 35; (with_reducible refine HK.out.mono ?_); rintro e w2 ⟨rfl, hb2⟩; have HB2 := Lib.hid (below_next HB1.out hb2); have HG2 := Lib.hid ((hb2.block _ lx).trans HG1.out); have HR2 := Lib.hid ((hb2.block _ ly).trans HR1.out); obtain ⟨u0, u1, u2, _, _, _, lu⟩ := at_facts HG2.out; obtain ⟨v0, v1, v2, i0, i1, i2, lv⟩ := at_facts HR2.out; clear hb2)
      obtain ⟨q1, q2⟩ := HF.out w2 7 t none 0 [] 0 HR2.out (OwnN.nil _ _) HB2.out HV2.out
      obtain ⟨s9, e9, h9, b9⟩ := q2
      exact bodyPost_ret (gnRes2 rfl _ _ r _ _ _ rfl q1) rfl ⟨s9, by rw [← e9]; rfl, h9, b9⟩
    · have hz1 := errno_ne hz
      have HV2 := Lib.hid (show R = (E, noG) from HV.out.trans (if_neg hz))
      go_enter Tryz.func16, Tryz.ntmps16
      go_upto_region 2 with fail
      rw [HWR.out, ← HRE.out]
      go_upto_region 13 with fail
      try rw [HWE]
      clear c0 c1 c2 g0 g1 g2 t0 t1 t2 r0 r1 r2 s0 s1 s2 HWE
      go_wp2_with (go_at_call 35; (with_reducible refine HK.out.mono ?_); rintro e w2 ⟨rfl, hb2⟩; have HB2 := Lib.hid (below_next HB1.out hb2); have HR2 := Lib.hid ((hb2.block _ ly).trans HR1.out); obtain ⟨v0, v1, v2, i0, i1, i2, lv⟩ := at_facts HR2.out; clear hb2)
      obtain ⟨q1, q2⟩ := HF.out w2 0 [] none 0 [] E HR2.out (OwnN.nil _ _) HB2.out HV2.out
      obtain ⟨s9, e9, h9, b9⟩ := q2
      exact bodyPost_ret (gnRes2 rfl _ _ r _ _ _ rfl q1) rfl ⟨s9, by rw [← e9]; rfl, h9, b9⟩
  · have HD := Lib.hid (rdecode_nm (strOf t) W0 (by rw [strOf_size]; have := HTL.out; omega))
    have HSM := Lib.hid (decN_small (b := strOf t) (by rw [strOf_size]; have := HTL.out; omega))
    have HV := Lib.hid (show R = if (decN (strOf t)).1 = 0 then (0, (4, [], (decN (strOf t)).2)) else ((decN (strOf t)).1, noG) by rw [HR.out]; unfold decG; rw [if_neg (by decide), if_pos rfl])
    have HED := Lib.hid (fun n (h : decN (strOf t) = (0, n)) => (enc_dec h).1)
    obtain ⟨D, hD⟩ : ∃ D, D = decN (strOf t) := ⟨_, rfl⟩
    rw [← hD] at HD HSM HV HED
    clear hD
    obtain ⟨E, n⟩ := D
    by_cases hz : E = 0
    · subst hz
      have HV2 := Lib.hid (show R = (0, (4, [], n)) from HV.out.trans (if_pos rfl))
      have hz0 := HED.out n rfl
      go_enter Tryz.func16, Tryz.ntmps16
      go_upto_region 2 with fail
      rw [HWR.out, ← HRE.out]
      go_upto_region 12 with (go_at_call 43; (with_reducible refine HD.out.mono ?_); rintro e w2 ⟨v, rfl, ⟨s, rfl, hso⟩, hb2⟩; obtain ⟨aq, cq, rfl, hcs, hrl⟩ := hso.lies; have HB2 := Lib.hid (below_next HB0.out hb2); have HG2 := Lib.hid ((hb2.block _ lg).trans HQG.out); have HR2 := Lib.hid ((hb2.block _ lr).trans HQR.out); have HO2 := Lib.hid hso; have HL2 := Lib.hid hrl; clear hcs hrl hso hb2)
      obtain ⟨W3, hW3⟩ : ∃ W3, W3 = w2.alloc (.cells #[.slice aq n.length cq] 30) := ⟨_, rfl⟩
      have hb3 : Below w2.heap.size w2 W3 := by rw [hW3]; exact belowNew w2 _
      have hq3 : W3.heap[w2.heap.size]? = some (.cells #[.slice aq n.length cq] 30 (0, 0)) := by rw [hW3]; exact heap_alloc_new w2 _
      rw [← hW3]
      have hgx := (hb3.block _ (Array.getElem?_eq_some_iff.1 HG2.out).1).trans HG2.out
      have hrx := (hb3.block _ (Array.getElem?_eq_some_iff.1 HR2.out).1).trans HR2.out
      have hs := ((But.set (r + 1) 0 W3 (.int .i64 4)).next (But.set (r + 1) 1 _ (.string ⟨#[]⟩))).next (But.set (r + 1) 2 _ (.slice aq n.length cq))
      obtain ⟨W4, hW4⟩ : ∃ W4, W4 = ((W3.setCell ⟨r + 1, 0, none⟩ (.int .i64 4)).setCell ⟨r + 1, 1, none⟩ (.string ⟨#[]⟩)).setCell ⟨r + 1, 2, none⟩ (.slice aq n.length cq) := ⟨_, rfl⟩
      have hg4 := at_set (a := .int .i64 4) (b := .string ⟨#[]⟩) (c := .slice aq n.length cq) hgx
      have hr4 := (hs.block r (Array.getElem?_eq_some_iff.1 hrx).1 (by simp)).trans hrx
      have ho3 := (HO2.out.base (Nat.le_of_lt (Nat.lt_of_lt_of_le l0 (Nat.le_refl _)))).below hb3
      have ho4 := ho3.apart hgx (by decide) (by decide) hs
      rw [← hW4] at hs hg4 hr4 ho4
      have HB4 := Lib.hid (show Below w.heap.size w W4 from (below_next HB2.out hb3).trans ((hs.below (Nat.le_of_lt (Array.getElem?_eq_some_iff.1 hgx).1)).mono (by omega)))
      have HK := Lib.hid (rchkG_core aq cq n.length 4 [] n con W4 (own_lies4 ho4) rfl (by decide) HSM.out)
      rw [show chkG con 4 [] n = 0 by rw [chkG_dir, if_pos rfl]; exact hz0, show strOf [] = ⟨#[]⟩ from rfl] at HK
      have HG4 := Lib.hid hg4
      have HR4 := Lib.hid hr4
      have HO4 := Lib.hid ho4
      have HW4 := Lib.hid hW4.symm
      obtain ⟨n0, _, _⟩ := one_facts hq3
      clear c0 c1 c2 g0 g1 g2 t0 t1 t2 r0 r1 r2 s0 s1 s2
      obtain ⟨g0, g1, g2, t0, t1, t2, _⟩ := at_facts hgx
      clear hb3 hq3 hW3 hrx hgx hs hg4 hr4 ho3 ho4 hW4 hz0
      go_upto_region 13 with fail
      rw [HW4.out]
      clear g0 g1 g2 t0 t1 t2 n0
      obtain ⟨x0, x1, x2, _, _, _, lx⟩ := at_facts HG4.out
      go_wp2_with (go_at_call 35; (with_reducible refine HK.out.mono ?_); rintro e w5 ⟨rfl, hb5⟩; have HB5 := Lib.hid (below_next HB4.out hb5); have HO5 := Lib.hid (HO4.out.below hb5); have HG5 := Lib.hid ((hb5.block _ lx).trans HG4.out); have HR5 := Lib.hid ((hb5.block _ (Array.getElem?_eq_some_iff.1 HR4.out).1).trans HR4.out); obtain ⟨u0, u1, u2, _, _, _, lu⟩ := at_facts HG5.out; obtain ⟨v0, v1, v2, i0, i1, i2, lv⟩ := at_facts HR5.out; clear hb5)
      obtain ⟨q1, q2⟩ := HF.out w5 4 [] aq cq n 0 HR5.out HO5.out HB5.out HV2.out
      obtain ⟨s9, e9, h9, b9⟩ := q2
      exact bodyPost_ret (gnRes2 rfl _ _ r _ _ _ rfl q1) rfl ⟨s9, by rw [← e9]; rfl, h9, b9⟩
    · have hz1 := errno_ne hz
      have HV2 := Lib.hid (show R = (E, noG) from HV.out.trans (if_neg hz))
      go_enter Tryz.func16, Tryz.ntmps16
      go_upto_region 2 with fail
      rw [HWR.out, ← HRE.out]
      go_wp2_with (go_at_call 43; (with_reducible refine HD.out.mono ?_); rintro e w2 ⟨v, rfl, ⟨s, rfl, hso⟩, hb2⟩; obtain ⟨aq, cq, rfl, hcs, hrl⟩ := hso.lies; have HB2 := Lib.hid (below_next HB0.out hb2); have HR2 := Lib.hid ((hb2.block _ lr).trans HQR.out); obtain ⟨v0, v1, v2, i0, i1, i2, lv⟩ := at_facts HR2.out; clear hcs hrl hso hb2)
      obtain ⟨q1, s9, e9, h9, b9⟩ := HF.out w2 0 [] none 0 [] E HR2.out (OwnN.nil _ _) HB2.out HV2.out
      exact bodyPost_ret (gnRes2 rfl _ _ r _ _ _ rfl (((belowNew _ _).block r (Array.getElem?_eq_some_iff.1 q1).1).trans q1)) rfl ⟨s9, by rw [← e9]; rfl, h9.below (belowNew _ _), below_next b9 (belowNew _ _)⟩
  · have HV := Lib.hid (show R = (5, noG) by rw [HR.out]; unfold decG; rw [if_neg (by omega), if_neg hT.2.2.2])
    obtain ⟨k1, k2, k4, k7⟩ := hT
    have e1 : (T == 129) = false := beq_eq_false_iff_ne.2 k1
    have e2 : (T == 130) = false := beq_eq_false_iff_ne.2 k2
    have e4 : (T == 135) = false := beq_eq_false_iff_ne.2 k4
    have e7 : (T == 164) = false := beq_eq_false_iff_ne.2 k7
    clear k1 k2 k4 k7
    go_enter Tryz.func16, Tryz.ntmps16
    go_upto_region 2 with fail
    rw [HWR.out, ← HRE.out]
    go_wp2_with fail
    obtain ⟨q1, q2⟩ := HF.out W0 0 [] none 0 [] 5 HQR.out (OwnN.nil _ _) HB0.out HV.out
    obtain ⟨s9, e9, h9, b9⟩ := q2
    exact bodyPost_ret (gnRes2 rfl _ _ r _ _ _ rfl q1) rfl ⟨s9, by rw [← e9]; rfl, h9, b9⟩
end Go.Proofs.YtflpajbcomhkpaaGreatDoor
