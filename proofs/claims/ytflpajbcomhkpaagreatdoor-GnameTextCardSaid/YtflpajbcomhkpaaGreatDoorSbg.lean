/-
  The contract of Few of certpathmade: whether a list of strings is small enough for a law.
  Elements that Wrap writes, in ascending order, one after the other: List reads them back, and they ascend.
  Plain laws on the short types as the reference looks them up, one after the other. Nothing is claimed of the program here.
  Elements, and what is read of them; attributes, relative names and names, and their encodings: each determines the other. Nothing is claimed of the program here.
  What is encoded is decoded, apart from the order of attributes; what is decoded is encoded as it was. Nothing is claimed of the program here.
  The contract of the reference's DecodeGeneral: the general name of an element, or the error.
  The contracts of gname's taggedKind, decodeParts and Decode: the general name of an element, or the error.
-/
import Derived.Test.YtflpajbcomhkpaaGreatDoorSaq
import Derived.Test.YtflpajbcomhkpaaGreatDoorSav
import Derived.Test.YtflpajbcomhkpaaGreatDoorSbf
import Derived.Test.YtflpajbcomhkpaaGreatDoorSbe
import Derived.Test.YtflpajbcomhkpaaGreatDoorSbc
namespace Go.Proofs.YtflpajbcomhkpaaGreatDoor
open Go.RowKit

end Go.Proofs.YtflpajbcomhkpaaGreatDoor
namespace Go.Proofs.YtflpajbcomhkpaaGreatDoor
open Go.RowKit

/-- The element of OCTETS with the content s: its bytes, and what the law writes. -/
def encS (s : ByteArray) : ByteArray := ⟨(wrapL 4 s.data.toList).toArray⟩
def elS (s : ByteArray) : El := (4, s, encS s)
/-- Two values share no block. -/
def Apart (u v : Value) : Prop := ∀ g, u.ownBlock = some g → v.ownBlock = some g → False
theorem Apart.symm {u v : Value} (h : Apart u v) : Apart v u := fun g a b => h g b a
theorem own_keep {w w' : World} {B : Nat} {e : TypeId} {k n : Nat} {u v : Value} {xs : List Value} (hu : w.ownsRow B e k u n xs) (hg : w.grownBy w' v.ownBlock) (hd : Apart u v) : w'.ownsRow B e k u n xs := by
  refine World.ownsRow.kept hu hg ?_
  cases hb : u.ownBlock with
  | none => exact .inl rfl
  | some g => exact .inr fun e => hd g hb e.symm
theorem apart_step {w : World} {B : Nat} {e : TypeId} {k n : Nat} {u v v' : Value} {xs : List Value} (hu : w.ownsRow B e k u n xs) (hd : Apart u v) (hat : v'.ownBlock = v.ownBlock ∨ v'.ownBlock = some w.heap.size) : Apart u v' := by
  intro g h1 h2
  rcases hat with hat | hat
  · exact hd g h1 (by rw [← hat]; exact h2)
  · have h3 := (World.ownsRow.lt hu g h1).2
    rw [hat] at h2
    have := Option.some.inj h2
    omega
/-- The law's three slices. -/
def Tri (w wr : World) (v1 v2 v3 : Value) (L1 L2 : List ByteArray) (L3 : List El) : Prop :=
  OwnS_t wr w.heap.size v1 L1 ∧ OwnS_t wr w.heap.size v2 L2 ∧ OwnE wr w.heap.size v3 L3 ∧ Apart v1 v2 ∧ Apart v1 v3 ∧ Apart v2 v3 ∧ Below w.heap.size w wr
theorem Tri.nil (w : World) : Tri w w (.slice none 0 0) (.slice none 0 0) (.slice none 0 0) [] [] [] :=
  ⟨World.ownsRow_nil _ _ _ _, World.ownsRow_nil _ _ _ _, World.ownsRow_nil _ _ _ _, fun _ h => by simp [Value.ownBlock] at h, fun _ h => by simp [Value.ownBlock] at h, fun _ h => by simp [Value.ownBlock] at h, Below.refl _ _⟩
theorem Tri.below {w wr w' : World} {v1 v2 v3 : Value} {L1 L2 : List ByteArray} {L3 : List El} (h : Tri w wr v1 v2 v3 L1 L2 L3) (hb : Below wr.heap.size wr w') : Tri w w' v1 v2 v3 L1 L2 L3 := by
  obtain ⟨a, b, c, d, e, f, g⟩ := h
  exact ⟨own_below a hb, own_below b hb, own_below c hb, d, e, f, below_next_t g hb⟩
theorem Tri.alloc {w wr : World} {v1 v2 v3 : Value} {L1 L2 : List ByteArray} {L3 : List El} (h : Tri w wr v1 v2 v3 L1 L2 L3) (o : Obj) : Tri w (wr.alloc o) v1 v2 v3 L1 L2 L3 :=
  h.below (belowNew wr o)
theorem Tri.first {w wr w2 : World} {v1 v2 v3 v' : Value} {L1 L2 : List ByteArray} {L3 : List El} {s : ByteArray} (h : Tri w wr v1 v2 v3 L1 L2 L3)
    (ho : w2.ownsRow w.heap.size 9 1 v' (L1.length + 1) (L1.map Value.string ++ [Value.string s])) (hg : wr.grownBy w2 v1.ownBlock) (hat : v'.ownBlock = v1.ownBlock ∨ v'.ownBlock = some wr.heap.size) :
    Tri w w2 v' v2 v3 (L1 ++ [s]) L2 L3 := by
  obtain ⟨a, b, c, d, e, f, g⟩ := h
  refine ⟨?_, own_keep b hg d.symm, own_keep c hg e.symm, (apart_step b d.symm hat).symm, (apart_step c e.symm hat).symm, f, g.grown hg g.size (fun k e => (World.ownsRow.lt a k e).1)⟩
  unfold OwnS_t
  simpa using ho
theorem Tri.second {w wr w2 : World} {v1 v2 v3 v' : Value} {L1 L2 : List ByteArray} {L3 : List El} {s : ByteArray} (h : Tri w wr v1 v2 v3 L1 L2 L3)
    (ho : w2.ownsRow w.heap.size 9 1 v' (L2.length + 1) (L2.map Value.string ++ [Value.string s])) (hg : wr.grownBy w2 v2.ownBlock) (hat : v'.ownBlock = v2.ownBlock ∨ v'.ownBlock = some wr.heap.size) :
    Tri w w2 v1 v' v3 L1 (L2 ++ [s]) L3 := by
  obtain ⟨a, b, c, d, e, f, g⟩ := h
  refine ⟨own_keep a hg d, ?_, own_keep c hg f.symm, apart_step a d hat, e, (apart_step c f.symm hat).symm, g.grown hg g.size (fun k e => (World.ownsRow.lt b k e).1)⟩
  unfold OwnS_t
  simpa using ho
theorem Tri.next {w wr : World} {v1 v2 v3 : Value} {D ss : List ByteArray} {s x : ByteArray} {k : Nat} (h : Tri w wr v1 v2 v3 (D ++ [s]) (D.map encS ++ [x]) (D.map elS ++ [(4, s, x)])) (hx : x = encS s) (hD : D = ss.take k) (hk : k < ss.length)
    (hs : s = ss.getD k ByteArray.empty) : Tri w wr v1 v2 v3 (ss.take (k + 1)) ((ss.take (k + 1)).map encS) ((ss.take (k + 1)).map elS) := by
  have e : ss.take (k + 1) = D ++ [s] := by
    rw [List.take_succ_eq_append_getElem hk, hs, hD]
    simp [hk]
  rw [e, List.map_append, List.map_append]
  subst hx
  exact h
theorem OwnS_t.reads {w : World} {B : Nat} {v : Value} {D : List ByteArray} (h : OwnS_t w B v D) : Reads w v D := h.lies

theorem OwnE.old {B : Nat} {w w' : World} {v : Value} {l : List El} (h : OwnE w B v l) (hb : Below w.heap.size w w') : OwnE w' B v l := own_below h hb
end Go.Proofs.YtflpajbcomhkpaaGreatDoor
namespace Go.Proofs.YtflpajbcomhkpaaGreatDoor
open Go.RowKit

/-- What the reference's search has after q entries. -/
def stT (wd : ByteArray) : Nat → ByteArray
  | 0 => wd
  | q + 1 => if (SH.getD q (⟨#[]⟩, ⟨#[]⟩)).1 = stT wd q then (SH.getD q (⟨#[]⟩, ⟨#[]⟩)).2 else stT wd q
theorem oid_c : Oid [50, 46, 53, 46, 52, 46, 54] [2, 5, 4, 6] := by
  refine ⟨⟨by decide, by decide, by decide, by decide, by decide⟩, ?_⟩
  decide +kernel
theorem oid_l : Oid [50, 46, 53, 46, 52, 46, 55] [2, 5, 4, 7] := by
  refine ⟨⟨by decide, by decide, by decide, by decide, by decide⟩, ?_⟩
  decide +kernel
theorem oid_ou : Oid [50, 46, 53, 46, 52, 46, 49, 49] [2, 5, 4, 11] := by
  refine ⟨⟨by decide, by decide, by decide, by decide, by decide⟩, ?_⟩
  decide +kernel
theorem oid_dc : Oid [48, 46, 57, 46, 50, 51, 52, 50, 46, 49, 57, 50, 48, 48, 51, 48, 48, 46, 49, 48, 48, 46, 49, 46, 50, 53] [0, 9, 2342, 19200300, 100, 1, 25] := by
  refine ⟨⟨by decide, by decide, by decide, by decide, by decide⟩, ?_⟩
  decide +kernel
theorem oid_e : Oid [49, 46, 50, 46, 56, 52, 48, 46, 49, 49, 51, 53, 52, 57, 46, 49, 46, 57, 46, 49] [1, 2, 840, 113549, 1, 9, 1] := by
  refine ⟨⟨by decide, by decide, by decide, by decide, by decide⟩, ?_⟩
  decide +kernel
theorem sh_oid : ∀ k, k < 7 → oidB (SH.getD k (⟨#[]⟩, ⟨#[]⟩)).2 = true := by
  intro k hk
  rcases (by omega : k = 0 ∨ k = 1 ∨ k = 2 ∨ k = 3 ∨ k = 4 ∨ k = 5 ∨ k = 6) with rfl | rfl | rfl | rfl | rfl | rfl | rfl
  · exact oidB_yes oid_cn
  · exact oidB_yes oid_c
  · exact oidB_yes oid_l
  · exact oidB_yes oid_o
  · exact oidB_yes oid_ou
  · exact oidB_yes oid_dc
  · exact oidB_yes oid_e
theorem sh_apart : ∀ j, j < 7 → ∀ k, k < 7 → (SH.getD j (⟨#[]⟩, ⟨#[]⟩)).1 ≠ (SH.getD k (⟨#[]⟩, ⟨#[]⟩)).2 := by decide
theorem st_before (wd : ByteArray) : ∀ q, (∀ j, j < q → (SH.getD j (⟨#[]⟩, ⟨#[]⟩)).1 ≠ wd) → stT wd q = wd
  | 0, _ => rfl
  | q + 1, h => by
    have e := st_before wd q (fun j hj => h j (by omega))
    show (if (SH.getD q (⟨#[]⟩, ⟨#[]⟩)).1 = stT wd q then (SH.getD q (⟨#[]⟩, ⟨#[]⟩)).2 else stT wd q) = wd
    rw [e, if_neg (h q (by omega))]
theorem st_behind (wd : ByteArray) (k : Nat) (hk : k < 7) (h : stT wd (k + 1) = (SH.getD k (⟨#[]⟩, ⟨#[]⟩)).2) : ∀ i, k + 1 + i ≤ 7 → stT wd (k + 1 + i) = (SH.getD k (⟨#[]⟩, ⟨#[]⟩)).2
  | 0, _ => h
  | i + 1, hi => by
    have e := st_behind wd k hk h i (by omega)
    show (if (SH.getD (k + 1 + i) (⟨#[]⟩, ⟨#[]⟩)).1 = stT wd (k + 1 + i) then (SH.getD (k + 1 + i) (⟨#[]⟩, ⟨#[]⟩)).2 else stT wd (k + 1 + i)) = _
    rw [e, if_neg (sh_apart _ (by omega) k hk)]
theorem typ_st (wd : ByteArray) : typ wd = (stT wd 7, oidB (stT wd 7)) := by
  by_cases h : ∃ k, k < 7 ∧ (SH.getD k (⟨#[]⟩, ⟨#[]⟩)).1 = wd ∧ ∀ j, j < k → (SH.getD j (⟨#[]⟩, ⟨#[]⟩)).1 ≠ wd
  · obtain ⟨k, hk, e, hf⟩ := h
    have h1 : stT wd (k + 1) = (SH.getD k (⟨#[]⟩, ⟨#[]⟩)).2 := by
      show (if (SH.getD k (⟨#[]⟩, ⟨#[]⟩)).1 = stT wd k then (SH.getD k (⟨#[]⟩, ⟨#[]⟩)).2 else stT wd k) = _
      rw [st_before wd k hf, if_pos e]
    have h2 := st_behind wd k hk h1 (6 - k) (by omega)
    rw [show k + 1 + (6 - k) = 7 by omega] at h2
    rw [typ_hit k hk hf e, h2, sh_oid k hk]
  · have hn : ∀ q, q ≤ 7 → ∀ j, j < q → (SH.getD j (⟨#[]⟩, ⟨#[]⟩)).1 ≠ wd := by
      intro q
      induction q with
      | zero => intro _ j hj; exact absurd hj (Nat.not_lt_zero _)
      | succ q ih =>
        intro hq j hj
        by_cases ej : j = q
        · subst ej
          exact fun e => h ⟨j, by omega, e, ih (by omega)⟩
        · exact ih (by omega) j (by omega)
    rw [typ_miss (hn 7 (Nat.le_refl _)), st_before wd 7 (hn 7 (Nat.le_refl _))]
theorem st_size (wd : ByteArray) (h : wd.size ≤ 150000) : ∀ q, q ≤ 7 → (stT wd q).size ≤ 150040
  | 0, _ => by show wd.size ≤ _; omega
  | q + 1, hq => by
    show (if (SH.getD q (⟨#[]⟩, ⟨#[]⟩)).1 = stT wd q then (SH.getD q (⟨#[]⟩, ⟨#[]⟩)).2 else stT wd q).size ≤ _
    split
    · have := sh_size q (by omega); omega
    · exact st_size wd h q (by omega)
theorem sh_arr : ∀ q, q < 7 → shArr[q * 2]? = some (.string (SH.getD q (⟨#[]⟩, ⟨#[]⟩)).1) ∧ shArr[q * 2 + 1]? = some (.string (SH.getD q (⟨#[]⟩, ⟨#[]⟩)).2) := by
  intro q hq
  rcases (by omega : q = 0 ∨ q = 1 ∨ q = 2 ∨ q = 3 ∨ q = 4 ∨ q = 5 ∨ q = 6) with rfl | rfl | rfl | rfl | rfl | rfl | rfl <;> exact ⟨rfl, rfl⟩
/-- What the reference makes of the text of an attribute. -/
theorem prsA_st {x wd rs : ByteArray} {i : Nat} (hi : Lib.indexByte x.data.toList 61 = (i : Int)) (h1 : x.extract 0 i = wd) (h2 : x.extract (i + 1) x.size = rs) :
    prsA x = match uneO rs.data.toList with | some v => if oidB (stT wd 7) = true then some (stT wd 7, kindV (stT wd 7) v, v) else none | none => none := by
  unfold prsA
  rw [hi, if_neg (by omega)]
  show (match typ (x.extract 0 i), uneO (x.extract (i + 1) x.size).data.toList with | (id, true), some v => some (id, kindV id v, v) | _, _ => none) = _
  rw [h1, h2, typ_st]
  cases uneO rs.data.toList with
  | none => cases oidB (stT wd 7) <;> rfl
  | some v => cases oidB (stT wd 7) <;> rfl
end Go.Proofs.YtflpajbcomhkpaaGreatDoor
namespace Go.Proofs.YtflpajbcomhkpaaGreatDoor
open Go.RowKit

/-! ### Elements -/
theorem wr1_list {t : Nat} {c : ByteArray} (ht : t < 256) (h1 : t % 32 ≠ 31) (hc : c.size ≤ 131072) : (wr1 ((t : Nat) : Int) c).data.toList = wrapL t c.data.toList := by
  have e : wrapErr ((t : Nat) : Int) c.data.toList.length = 0 := by
    have : c.data.toList.length = c.size := rfl
    unfold wrapErr
    rw [if_neg (by omega), if_neg (by omega)]
  unfold wr1 wrapStr
  rw [e, if_pos rfl]
  rfl
/-- An element as Wrap writes it. -/
def OkE (e : El) : Prop := e.1 < 256 ∧ e.1 % 32 ≠ 31 ∧ e.2.1.size ≤ 131072 ∧ e.2.2 = wr1 ((e.1 : Nat) : Int) e.2.1
def raws (L : List El) : List (List UInt8) := L.map fun e => e.2.2.data.toList
theorem lst_els : ∀ (L : List El), (∀ e ∈ L, OkE e) → ∀ b : ByteArray, b.data.toList = (raws L).flatten → lst b = (L, 0)
  | [], _, b, hb => lst_nil (by rw [size_list hb]; rfl)
  | e :: L, h, b, hb => by
    obtain ⟨t, c, r⟩ := e
    obtain ⟨ht, h1, hc, hr⟩ := h _ List.mem_cons_self
    simp only at ht h1 hc hr
    have hw := wr1_list ht h1 hc
    have hb2 : b.data.toList = wrapL t c.data.toList ++ (raws L).flatten := by
      rw [hb, raws, List.map_cons, List.flatten_cons, hr, hw]; rfl
    have hrd := rd_wrap ht h1 hc hb2
    have he : rdErr b = 0 := by unfold rdErr; rw [hrd]
    have hv := read_wrap ht h1 hc hb2
    rw [rdVal_good he] at hv
    have h0 : b.size ≠ 0 := by
      rw [size_list hb2]
      unfold wrapL
      simp
    simp only [Value.tuple.injEq, Array.mk.injEq, List.cons.injEq, Value.agg.injEq, Value.string.injEq, Value.int.injEq] at hv
    have e1 : rdTag b = t := by have := hv.1.1.2; omega
    have e2 : rdRaw b = r := by rw [hv.1.2.2.1, hr]; exact (ext_list_t (by rw [hw])).symm
    have e3 : rdContent b = c := by rw [hv.1.2.1]
    have e4 : rdRest b = ⟨(raws L).flatten.toArray⟩ := hv.2.1
    have i1 := lst_els L (fun x hx => h x (List.mem_cons_of_mem _ hx)) (rdRest b) (by rw [e4])
    rw [lst_step h0 he, i1, if_pos rfl]
    unfold rdElem
    rw [e1, e2, e3]
theorem rd_parts {b : ByteArray} (h : rdErr b = 0) : OkE (rdElem b) ∧ b.data.toList = (rdRaw b).data.toList ++ (rdRest b).data.toList := by
  have hh := head_back h
  obtain ⟨h2, h5, hs, hx, h0⟩ := rd_ok h
  have hlen := rd_len_le h
  have ht := rdTag_lt b
  obtain ⟨n, hn⟩ : ∃ n, n = (rd b).2.2 := ⟨_, rfl⟩
  obtain ⟨p, hp⟩ : ∃ p, p = (rd b).2.1 := ⟨_, rfl⟩
  have hraw : (rdRaw b).data.toList = b.data.toList.take (p + n) := by unfold rdRaw; rw [data_extract, ← hn, ← hp]; simp
  have hrest : (rdRest b).data.toList = b.data.toList.drop (p + n) := by
    unfold rdRest
    rw [data_extract, ← hn, ← hp]
    refine List.take_of_length_le ?_
    rw [List.length_drop]
    exact Nat.le_refl _
  have hcon : (rdContent b).data.toList = (b.data.toList.drop p).take n := by unfold rdContent; rw [data_extract, ← hn, ← hp]; congr 1; omega
  rw [← hn, ← hp] at hh
  rw [← hn] at hlen
  rw [← hn, ← hp] at hs
  obtain ⟨D, hD⟩ : ∃ D, D = b.data.toList.drop p := ⟨_, rfl⟩
  have hDl : D.length = b.size - p := by rw [hD, List.length_drop]; rfl
  rw [← hD] at hh hcon
  have hl := congrArg List.length hh
  have hlb : b.data.toList.length = b.size := rfl
  rw [hlb, List.length_cons, List.length_append, hDl] at hl
  have hc : (rdContent b).size = n := by
    have : (rdContent b).data.toList.length = (rdContent b).size := rfl
    rw [← this, hcon, List.length_take, hDl]
    omega
  refine ⟨⟨ht, hx, by show (rdContent b).size ≤ _; omega, ?_⟩, by rw [hraw, hrest, List.take_append_drop]⟩
  show rdRaw b = wr1 _ (rdContent b)
  apply ext_list_t
  show _ = (wr1 ((rdTag b : Nat) : Int) (rdContent b)).data.toList
  rw [wr1_list ht hx (by omega), hraw, hcon]
  have hcl : (D.take n).length = n := by rw [← hcon]; exact hc
  unfold wrapL
  rw [hcl]
  conv => lhs; rw [hh]
  rw [show p + n = (lenO n).length + n + 1 by omega, List.take_succ_cons, List.take_append]
  congr 1
  rw [List.take_of_length_le (by omega), show (lenO n).length + n - (lenO n).length = n by omega]
theorem els_lst (k : Nat) : ∀ (b : ByteArray) (L : List El), b.size ≤ k → lst b = (L, 0) → (∀ e ∈ L, OkE e) ∧ b.data.toList = (raws L).flatten := by
  induction k with
  | zero =>
    intro b L hk h
    have h0 : b.size = 0 := by omega
    rw [lst_nil h0] at h
    obtain rfl : L = [] := (Prod.mk.inj h).1.symm
    exact ⟨fun e he => (by cases he), List.length_eq_zero_iff.1 h0⟩
  | succ k ih =>
    intro b L hk h
    by_cases h0 : b.size = 0
    · rw [lst_nil h0] at h
      obtain rfl : L = [] := (Prod.mk.inj h).1.symm
      exact ⟨fun e he => (by cases he), List.length_eq_zero_iff.1 h0⟩
    · by_cases he : rdErr b = 0
      · obtain ⟨p1, p2⟩ := rd_parts he
        have hsz := rdRest_size he
        rw [lst_step h0 he] at h
        by_cases hr : (lst (rdRest b)).2 = 0
        · rw [if_pos hr] at h
          obtain rfl : L = rdElem b :: (lst (rdRest b)).1 := (Prod.mk.inj h).1.symm
          obtain ⟨M, hM⟩ : ∃ M, M = (lst (rdRest b)).1 := ⟨_, rfl⟩
          have h3 : lst (rdRest b) = (M, 0) := by rw [hM, ← hr]
          rw [← hM]
          obtain ⟨i1, i2⟩ := ih (rdRest b) M (by omega) h3
          refine ⟨fun e hm => ?_, ?_⟩
          · rcases List.mem_cons.1 hm with rfl | hm
            · exact p1
            · exact i1 e hm
          · rw [p2, i2]; rfl
        · rw [if_neg hr] at h
          exact absurd (Prod.mk.inj h).2 hr
      · rw [lst_bad h0 he] at h
        exact absurd (Prod.mk.inj h).2 he

/-! ### Attributes -/
def okA (a : At) : Prop := oidB a.1 = true ∧ a.2.2.size ≠ 0 ∧ validB a.2.1 a.2.2.data.toList = true ∧ a.2.2.size ≤ 64
theorem chkA_zero (b : List At) (a : At) : chkA b a = 0 ↔ okA a ∧ ∀ x ∈ b, x.1 ≠ a.1 := by
  unfold chkA okA
  by_cases h1 : oidB a.1 = false
  · rw [if_pos h1]; simp [h1]
  · rw [if_neg h1]
    by_cases h2 : a.2.2.size = 0
    · rw [if_pos h2]; simp [h2]
    · rw [if_neg h2]
      by_cases h3 : validB a.2.1 a.2.2.data.toList = false
      · rw [if_pos h3]; simp [h3]
      · rw [if_neg h3]
        by_cases h4 : 64 < a.2.2.size
        · rw [if_pos h4]
          constructor
          · intro h; cases h
          · intro h; have := h.1.2.2.2; omega
        · rw [if_neg h4]
          by_cases h5 : b.any (fun x => decide (x.1 = a.1)) = true
          · rw [if_pos h5]
            constructor
            · intro h; cases h
            · intro h
              obtain ⟨x, hx, e⟩ := List.any_eq_true.1 h5
              exact absurd (of_decide_eq_true e) (h.2 x hx)
          · rw [if_neg h5]
            refine ⟨fun _ => ⟨⟨by simpa using h1, h2, by simpa using h3, by omega⟩, fun x hx e => h5 (List.any_eq_true.2 ⟨x, hx, decide_eq_true e⟩)⟩, fun _ => rfl⟩
theorem chkL_zero : ∀ (r b : List At), chkL b r = 0 ↔ (∀ a ∈ r, okA a) ∧ (∀ a ∈ r, ∀ x ∈ b, x.1 ≠ a.1) ∧ (r.map (·.1)).Nodup
  | [], b => ⟨fun _ => ⟨fun _ h => by (cases h), fun _ h => by (cases h), by simp⟩, fun _ => rfl⟩
  | a :: r, b => by
    unfold chkL
    have ih := chkL_zero r (b ++ [a])
    have hA := chkA_zero b a
    by_cases h : chkA b a = 0
    · rw [if_pos h, ih]
      obtain ⟨h1, h2⟩ := hA.1 h
      rw [List.map_cons, List.nodup_cons]
      constructor
      · rintro ⟨k1, k2, k3⟩
        refine ⟨fun x hx => ?_, fun x hx => ?_, fun hm => ?_, k3⟩
        · rcases List.mem_cons.1 hx with rfl | hx
          · exact h1
          · exact k1 x hx
        · rcases List.mem_cons.1 hx with rfl | hx
          · exact h2
          · exact fun y hy => k2 x hx y (List.mem_append_left _ hy)
        · obtain ⟨x, hx, e⟩ := List.mem_map.1 hm
          exact k2 x hx a (List.mem_append_right _ (List.mem_singleton.2 rfl)) e.symm
      · rintro ⟨k1, k2, k3, k4⟩
        refine ⟨fun x hx => k1 x (List.mem_cons_of_mem _ hx), fun x hx y hy => ?_, k4⟩
        rcases List.mem_append.1 hy with hy | hy
        · exact k2 x (List.mem_cons_of_mem _ hx) y hy
        · obtain rfl := List.mem_singleton.1 hy
          exact fun e => k3 (List.mem_map.2 ⟨x, hx, e.symm⟩)
    · rw [if_neg h]
      constructor
      · intro k; exact absurd k h
      · rintro ⟨k1, k2, _⟩
        exact hA.2 ⟨k1 a List.mem_cons_self, k2 a List.mem_cons_self⟩
theorem chkR_iff (r : List At) : chkR r = 0 ↔ 1 ≤ r.length ∧ r.length ≤ 4 ∧ (∀ a ∈ r, okA a) ∧ (r.map (·.1)).Nodup := by
  unfold chkR
  by_cases h1 : r.length = 0
  · rw [if_pos h1]
    exact ⟨fun h => by (cases h), fun h => by omega⟩
  · rw [if_neg h1]
    by_cases h2 : 4 < r.length
    · rw [if_pos h2]
      exact ⟨fun h => by (cases h), fun h => by omega⟩
    · rw [if_neg h2, chkL_zero]
      exact ⟨fun h => ⟨by omega, by omega, h.1, h.2.2⟩, fun h => ⟨h.2.2.1, fun a ha x hx => by (cases hx), h.2.2.2⟩⟩
theorem chkRs_iff : ∀ n : Nm, chkRs n = 0 ↔ ∀ r ∈ n, chkR r = 0
  | [] => ⟨fun _ _ h => by (cases h), fun _ => rfl⟩
  | r :: n => by
    unfold chkRs
    by_cases h : chkR r = 0
    · rw [if_pos h, chkRs_iff n]
      exact ⟨fun k x hx => by
        rcases List.mem_cons.1 hx with rfl | hx
        · exact h
        · exact k x hx, fun k x hx => k x (List.mem_cons_of_mem _ hx)⟩
    · rw [if_neg h]
      exact ⟨fun k => absurd k h, fun k => k r List.mem_cons_self⟩
theorem chkN_iff (n : Nm) : chkN n = 0 ↔ n.length ≤ 8 ∧ ∀ r ∈ n, chkR r = 0 := by
  unfold chkN
  by_cases h : 8 < n.length
  · rw [if_pos h]
    exact ⟨fun k => by (cases k), fun k => by omega⟩
  · rw [if_neg h, chkRs_iff]
    exact ⟨fun k => ⟨by omega, k⟩, fun k => k.2⟩
theorem valid_kind {k : Int} {l : List UInt8} (h : validB k l = true) : k = 12 ∨ k = 19 ∨ k = 22 := by
  unfold validB at h
  by_cases h1 : k = 12
  · exact .inl h1
  · rw [if_neg h1] at h
    by_cases h2 : k = 19
    · exact .inr (.inl h2)
    · rw [if_neg h2] at h
      by_cases h3 : k = 22
      · exact .inr (.inr h3)
      · rw [if_neg h3] at h; cases h

/-! ### Object identifiers -/
theorem oid_there {s : ByteArray} (h : oidB s = true) : oidD (oidS s) = some s := by
  obtain ⟨a, ha⟩ := oidB_true h
  rw [oidS_yes ha, oidD_yes (a := a) ⟨ha.1, strOf_list _⟩]
  exact congrArg some (strOf_of (oid_txt ha)).symm
end Go.Proofs.YtflpajbcomhkpaaGreatDoor
namespace Go.Proofs.YtflpajbcomhkpaaGreatDoor
open Go.RowKit

theorem size_of_list {c : ByteArray} {l : List UInt8} (h : c.data.toList = l) : c.size = l.length := by rw [← h]; rfl
/-- The elements of an attribute. -/
noncomputable def elOid (a : At) : El := (6, oidS a.1, wr1 6 (oidS a.1))
def elVal (a : At) : El := (a.2.1.toNat, a.2.2, wr1 a.2.1 a.2.2)
noncomputable def inA (a : At) : ByteArray := ⟨((wr1 6 (oidS a.1)).data.toList ++ (wr1 a.2.1 a.2.2).data.toList).toArray⟩
noncomputable def elA (a : At) : El := (48, inA a, encA a)
theorem okA_kind {a : At} (h : okA a) : ∃ k : Nat, a.2.1 = (k : Int) ∧ (k = 12 ∨ k = 19 ∨ k = 22) := by
  rcases valid_kind h.2.2.1 with e | e | e
  · exact ⟨12, e, .inl rfl⟩
  · exact ⟨19, e, .inr (.inl rfl)⟩
  · exact ⟨22, e, .inr (.inr rfl)⟩
theorem elOid_ok (a : At) : OkE (elOid a) := ⟨by show 6 < 256; omega, by show 6 % 32 ≠ 31; omega, by show (oidS a.1).size ≤ _; have := oidS_size a.1; omega, rfl⟩
theorem elVal_ok {a : At} (h : okA a) : OkE (elVal a) := by
  obtain ⟨k, e, hk⟩ := okA_kind h
  have hs := h.2.2.2
  have e2 : a.2.1.toNat = k := by omega
  refine ⟨by show a.2.1.toNat < 256; omega, by show a.2.1.toNat % 32 ≠ 31; omega, by show a.2.2.size ≤ _; omega, ?_⟩
  show wr1 a.2.1 a.2.2 = wr1 ((a.2.1.toNat : Nat) : Int) a.2.2
  rw [e2, e]
theorem inA_size {a : At} (h : okA a) : (inA a).size ≤ 131 := by
  have h1 := wrapStr_le 6 (oidS a.1).data.toList
  have h2 := wrapStr_le a.2.1 a.2.2.data.toList
  have h3 := oidS_size a.1
  have h4 := h.2.2.2
  have e1 : (oidS a.1).data.toList.length = (oidS a.1).size := rfl
  have e2 : a.2.2.data.toList.length = a.2.2.size := rfl
  have e3 : (wr1 6 (oidS a.1)).data.toList.length = (wr1 6 (oidS a.1)).size := rfl
  have e4 : (wr1 a.2.1 a.2.2).data.toList.length = (wr1 a.2.1 a.2.2).size := rfl
  have e5 : (inA a).size = ((wr1 6 (oidS a.1)).data.toList ++ (wr1 a.2.1 a.2.2).data.toList).length := rfl
  rw [e5, List.length_append, e3, e4]
  unfold wr1
  omega
theorem decA_elA {a : At} (h : okA a) : decA (elA a) = (0, a) := by
  have hl : lst (inA a) = ([elOid a, elVal a], 0) := lst_els _ (fun e he => by
    rcases List.mem_cons.1 he with rfl | he
    · exact elOid_ok a
    · obtain rfl := List.mem_singleton.1 he
      exact elVal_ok h) _ (by unfold raws elOid elVal inA; simp)
  unfold decA
  have e1 : (elA a).1 = 48 := rfl
  have e2 : (elA a).2.1 = inA a := rfl
  rw [e1, e2, hl, if_neg (by omega), if_neg (by simp)]
  obtain ⟨k, e, hk⟩ := okA_kind h
  have e3 : a.2.1.toNat = k := by omega
  have hT : strTag (elVal a).1 = true := by
    show strTag a.2.1.toNat = true
    rw [e3]
    rcases hk with rfl | rfl | rfl <;> rfl
  simp only [decL]
  have e4 : (elOid a).1 = 6 := rfl
  have e5 : oidD (elOid a).2.1 = some a.1 := oid_there h.1
  rw [e4, if_neg (by omega), e5, hT]
  simp only []
  rw [if_neg (by simp), if_neg (by simp)]
  have e6 : (((elVal a).1 : Nat) : Int) = a.2.1 := by show ((a.2.1.toNat : Nat) : Int) = _; omega
  rw [e6]
  rfl
/-! ### Relative names -/
noncomputable def sortR (r : List At) : List At := r.mergeSort fun x y => decide ((encA x).data.toList ≤ (encA y).data.toList)
theorem sortR_perm (r : List At) : (sortR r).Perm r := List.mergeSort_perm _ _
/-! ### Names -/
theorem one_of_lst {b : ByteArray} {e : El} (h : lst b = ([e], 0)) : oneErr b = 0 ∧ rdElem b = e := by
  by_cases h0 : b.size = 0
  · rw [lst_nil h0] at h; cases (Prod.mk.inj h).1
  · by_cases he : rdErr b = 0
    · rw [lst_step h0 he] at h
      by_cases hr : (lst (rdRest b)).2 = 0
      · rw [if_pos hr] at h
        obtain ⟨h1, h2⟩ := List.cons.inj (Prod.mk.inj h).1
        obtain ⟨_, h3⟩ := els_lst _ (rdRest b) [] (Nat.le_refl _) (by rw [← hr, ← h2])
        have h4 : (rdRest b).size = 0 := size_of_list h3
        exact ⟨by unfold oneErr; rw [if_neg (fun k => k he), if_neg (fun k => k h4)], h1⟩
      · rw [if_neg hr] at h; exact absurd (Prod.mk.inj h).2 hr
    · rw [lst_bad h0 he] at h; exact absurd (Prod.mk.inj h).2 he
theorem read_one {b c : ByteArray} (hc : c.size ≤ 131072) (hb : b = wr1 ((48 : Nat) : Int) c) : oneErr b = 0 ∧ rdTag b = 48 ∧ rdContent b = c := by
  have hok : OkE (48, c, b) := ⟨by show 48 < 256; omega, by show 48 % 32 ≠ 31; omega, hc, hb⟩
  obtain ⟨h1, he⟩ := one_of_lst (lst_els [(48, c, b)] (fun e hm => by rw [List.mem_singleton.1 hm]; exact hok) b (by unfold raws; simp))
  unfold rdElem at he
  obtain ⟨e1, e2⟩ := Prod.mk.inj he
  obtain ⟨e3, _⟩ := Prod.mk.inj e2
  exact ⟨h1, e1, e3⟩
end Go.Proofs.YtflpajbcomhkpaaGreatDoor
namespace Go.Proofs.YtflpajbcomhkpaaGreatDoor
open Go.RowKit

theorem gnRes2 {fn : Func} {p u : Tmp} (h : fn.results = #[.cell p 32, .tmp u]) (tmps : Array Value) (w : World) (g : Nat) (x y z : Value)
    (hp : tmps.getD p undef = .pointer (some ⟨g, 0, none⟩)) (hg : w.heap[g]? = some (.cells #[x, y, z] 32 (0, 0))) :
    (results fn tmps).run Tryz.prog w = .ok (.tuple #[.agg #[x, y, z], tmps.getD u undef]) w :=
  results_cell_row2 h tmps w g 32 #[x, y, z] (0, 0) _ hp hg Tryz.underlying32 rfl gnSize
end Go.Proofs.YtflpajbcomhkpaaGreatDoor
namespace Go.Proofs.YtflpajbcomhkpaaGreatDoor
open Go.RowKit

/-- A general name and an error number as a function hands them back. -/
def GRes (w : World) (G : Nat × Gn) (e : Ending) (w' : World) : Prop := ∃ s, e = .returned (.tuple #[.agg #[.int .i64 G.2.1, .string (strOf G.2.2.1), s], .int .i64 ((G.1 : Nat) : Int)]) ∧ OwnN w' w.heap.size s G.2.2.2 ∧ Below w.heap.size w w'
theorem gres_fin {w w9 : World} {r : Nat} {x y z : Value} {k : Int} {u : List UInt8} {aq : Option Addr} {cq : Nat} {n : Nm} {E : Nat} {R : Nat × Gn} (hrr : w.heap.size ≤ r) (h1 : w9.heap[r]? = some (.cells #[x, y, z] 32 (0, 0))) (h2 : OwnN w9 w.heap.size (.slice aq n.length cq) n) (h3 : Below w.heap.size w w9) (h4 : R = (E, (k, u, n))) :
    (((w9.setCell ⟨r, 0, none⟩ (.int .i64 k)).setCell ⟨r, 1, none⟩ (.string (strOf u))).setCell ⟨r, 2, none⟩ (.slice aq n.length cq)).heap[r]? = some (.cells #[.int .i64 k, .string (strOf u), .slice aq n.length cq] 32 (0, 0)) ∧
    GRes w R (.returned (.tuple #[.agg #[.int .i64 k, .string (strOf u), .slice aq n.length cq], .int .i64 ((E : Nat) : Int)])) (((w9.setCell ⟨r, 0, none⟩ (.int .i64 k)).setCell ⟨r, 1, none⟩ (.string (strOf u))).setCell ⟨r, 2, none⟩ (.slice aq n.length cq)) := by
  have hs := ((But.set r 0 w9 (.int .i64 k)).next (But.set r 1 _ (.string (strOf u)))).next (But.set r 2 _ (.slice aq n.length cq))
  subst h4
  exact ⟨at_set h1, _, rfl, h2.apart h1 (by decide) (by decide) hs, h3.trans ((hs.below (Nat.le_of_lt (Array.getElem?_eq_some_iff.1 h1).1)).mono hrr)⟩
/-- The answer out of a first error, a general name and a second error. -/
def genC (E0 : Nat) (g : Gn) (E1 : Nat) : Nat × Gn := if E0 ≠ 0 then (E0, noG) else if E1 ≠ 0 then (E1, noG) else (0, g)
theorem genC_a {E0 E1 : Nat} {g : Gn} (h : E0 ≠ 0) : genC E0 g E1 = (E0, noG) := if_pos h
theorem genC_b {E1 : Nat} {g : Gn} (h : E1 ≠ 0) : genC 0 g E1 = (E1, noG) := by unfold genC; rw [if_neg (by simp), if_pos h]
theorem genC_c {g : Gn} : genC 0 g 0 = (0, g) := by unfold genC; rw [if_neg (by simp), if_neg (by simp)]
end Go.Proofs.YtflpajbcomhkpaaGreatDoor
