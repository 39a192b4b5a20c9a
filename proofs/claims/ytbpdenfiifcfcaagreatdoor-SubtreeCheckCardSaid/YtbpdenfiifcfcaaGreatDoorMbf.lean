/-
  Elements, and what is read of them; attributes, relative names and names, and their encodings: each determines the other. Nothing is claimed of the program here.
  What is encoded is decoded, apart from the order of attributes; what is decoded is encoded as it was. Nothing is claimed of the program here.
  The contract of the reference's DecodeGeneral: the general name of an element, or the error.
  The contracts of gname's taggedKind, decodeParts and Decode: the general name of an element, or the error.
  The contracts of the reference's nibble, Unhex and Hex: the string whose digits are the given ones, if there is one, and a string's digits; nothing that was there before the call has changed.
  The contracts of the program's hash.Hex and hash.Unhex.
  The contracts of gname's cutWord, parseRest, checkEither and Parse: the general name that a text denotes, or the error.
  The contracts of the reference's Escape and Unescape; nothing that was there before the call has changed.
  The contract of the reference's ParseName: the same name as Parse returns, or the same error.
  The contract of the reference's ParseGeneral: the same answer as that of gname's Parse.
  The contract of the reference's EncodeGeneral: the element of a general name.
  How long the encoding of a valid name is at most. Nothing is claimed of the program here.
-/
import Derived.Test.YtbpdenfiifcfcaaGreatDoorMbe
import Derived.Test.YtbpdenfiifcfcaaGreatDoorMbc
import Derived.Test.YtbpdenfiifcfcaaGreatDoorMak
import Derived.Test.YtbpdenfiifcfcaaGreatDoorMad
import Derived.WalkSpells
import Derived.Test.YtbpdenfiifcfcaaGreatDoorMaa
import Derived.Test.YtbpdenfiifcfcaaGreatDoorMay
import Derived.Test.YtbpdenfiifcfcaaGreatDoorMao
import Derived.Test.YtbpdenfiifcfcaaGreatDoorMau
import Derived.Test.YtbpdenfiifcfcaaGreatDoorMav
namespace Go.Proofs.YtbpdenfiifcfcaaGreatDoor
open Go.RowKit

/-! ### Elements -/
theorem wr1_list {t : Nat} {c : ByteArray} (ht : t < 256) (h1 : t % 32 ≠ 31) (hc : c.size ≤ 131072) : (wr1 ((t : Nat) : Int) c).data.toList = wrapL t c.data.toList := by
  have e : wrapErr ((t : Nat) : Int) c.data.toList.length = 0 := by
    have : c.data.toList.length = c.size := rfl
    unfold wrapErr
    rw [if_neg (by omega), if_neg (by omega)]
  unfold wr1 wrapStr
  rw [e, if_pos rfl]
  rfl
/-- An element as Wrap writes it. -/
def OkE (e : El) : Prop := e.1 < 256 ∧ e.1 % 32 ≠ 31 ∧ e.2.1.size ≤ 131072 ∧ e.2.2 = wr1 ((e.1 : Nat) : Int) e.2.1
def raws (L : List El) : List (List UInt8) := L.map fun e => e.2.2.data.toList
theorem lst_els : ∀ (L : List El), (∀ e ∈ L, OkE e) → ∀ b : ByteArray, b.data.toList = (raws L).flatten → lst b = (L, 0)
  | [], _, b, hb => lst_nil (by rw [size_list hb]; rfl)
  | e :: L, h, b, hb => by
    obtain ⟨t, c, r⟩ := e
    obtain ⟨ht, h1, hc, hr⟩ := h _ List.mem_cons_self
    simp only at ht h1 hc hr
    have hw := wr1_list ht h1 hc
    have hb2 : b.data.toList = wrapL t c.data.toList ++ (raws L).flatten := by
      rw [hb, raws, List.map_cons, List.flatten_cons, hr, hw]; rfl
    have hrd := rd_wrap ht h1 hc hb2
    have he : rdErr b = 0 := by unfold rdErr; rw [hrd]
    have hv := read_wrap ht h1 hc hb2
    rw [rdVal_good he] at hv
    have h0 : b.size ≠ 0 := by
      rw [size_list hb2]
      unfold wrapL
      simp
    simp only [Value.tuple.injEq, Array.mk.injEq, List.cons.injEq, Value.agg.injEq, Value.string.injEq, Value.int.injEq] at hv
    have e1 : rdTag b = t := by have := hv.1.1.2; omega
    have e2 : rdRaw b = r := by rw [hv.1.2.2.1, hr]; exact (ext_list_t (by rw [hw])).symm
    have e3 : rdContent b = c := by rw [hv.1.2.1]
    have e4 : rdRest b = ⟨(raws L).flatten.toArray⟩ := hv.2.1
    have i1 := lst_els L (fun x hx => h x (List.mem_cons_of_mem _ hx)) (rdRest b) (by rw [e4])
    rw [lst_step h0 he, i1, if_pos rfl]
    unfold rdElem
    rw [e1, e2, e3]
theorem rd_parts {b : ByteArray} (h : rdErr b = 0) : OkE (rdElem b) ∧ b.data.toList = (rdRaw b).data.toList ++ (rdRest b).data.toList := by
  have hh := head_back h
  obtain ⟨h2, h5, hs, hx, h0⟩ := rd_ok h
  have hlen := rd_len_le h
  have ht := rdTag_lt b
  obtain ⟨n, hn⟩ : ∃ n, n = (rd b).2.2 := ⟨_, rfl⟩
  obtain ⟨p, hp⟩ : ∃ p, p = (rd b).2.1 := ⟨_, rfl⟩
  have hraw : (rdRaw b).data.toList = b.data.toList.take (p + n) := by unfold rdRaw; rw [data_extract, ← hn, ← hp]; simp
  have hrest : (rdRest b).data.toList = b.data.toList.drop (p + n) := by
    unfold rdRest
    rw [data_extract, ← hn, ← hp]
    refine List.take_of_length_le ?_
    rw [List.length_drop]
    exact Nat.le_refl _
  have hcon : (rdContent b).data.toList = (b.data.toList.drop p).take n := by unfold rdContent; rw [data_extract, ← hn, ← hp]; congr 1; omega
  rw [← hn, ← hp] at hh
  rw [← hn] at hlen
  rw [← hn, ← hp] at hs
  obtain ⟨D, hD⟩ : ∃ D, D = b.data.toList.drop p := ⟨_, rfl⟩
  have hDl : D.length = b.size - p := by rw [hD, List.length_drop]; rfl
  rw [← hD] at hh hcon
  have hl := congrArg List.length hh
  have hlb : b.data.toList.length = b.size := rfl
  rw [hlb, List.length_cons, List.length_append, hDl] at hl
  have hc : (rdContent b).size = n := by
    have : (rdContent b).data.toList.length = (rdContent b).size := rfl
    rw [← this, hcon, List.length_take, hDl]
    omega
  refine ⟨⟨ht, hx, by show (rdContent b).size ≤ _; omega, ?_⟩, by rw [hraw, hrest, List.take_append_drop]⟩
  show rdRaw b = wr1 _ (rdContent b)
  apply ext_list_t
  show _ = (wr1 ((rdTag b : Nat) : Int) (rdContent b)).data.toList
  rw [wr1_list ht hx (by omega), hraw, hcon]
  have hcl : (D.take n).length = n := by rw [← hcon]; exact hc
  unfold wrapL
  rw [hcl]
  conv => lhs; rw [hh]
  rw [show p + n = (lenO n).length + n + 1 by omega, List.take_succ_cons, List.take_append]
  congr 1
  rw [List.take_of_length_le (by omega), show (lenO n).length + n - (lenO n).length = n by omega]
theorem els_lst (k : Nat) : ∀ (b : ByteArray) (L : List El), b.size ≤ k → lst b = (L, 0) → (∀ e ∈ L, OkE e) ∧ b.data.toList = (raws L).flatten := by
  induction k with
  | zero =>
    intro b L hk h
    have h0 : b.size = 0 := by omega
    rw [lst_nil h0] at h
    obtain rfl : L = [] := (Prod.mk.inj h).1.symm
    exact ⟨fun e he => (by cases he), List.length_eq_zero_iff.1 h0⟩
  | succ k ih =>
    intro b L hk h
    by_cases h0 : b.size = 0
    · rw [lst_nil h0] at h
      obtain rfl : L = [] := (Prod.mk.inj h).1.symm
      exact ⟨fun e he => (by cases he), List.length_eq_zero_iff.1 h0⟩
    · by_cases he : rdErr b = 0
      · obtain ⟨p1, p2⟩ := rd_parts he
        have hsz := rdRest_size he
        rw [lst_step h0 he] at h
        by_cases hr : (lst (rdRest b)).2 = 0
        · rw [if_pos hr] at h
          obtain rfl : L = rdElem b :: (lst (rdRest b)).1 := (Prod.mk.inj h).1.symm
          obtain ⟨M, hM⟩ : ∃ M, M = (lst (rdRest b)).1 := ⟨_, rfl⟩
          have h3 : lst (rdRest b) = (M, 0) := by rw [hM, ← hr]
          rw [← hM]
          obtain ⟨i1, i2⟩ := ih (rdRest b) M (by omega) h3
          refine ⟨fun e hm => ?_, ?_⟩
          · rcases List.mem_cons.1 hm with rfl | hm
            · exact p1
            · exact i1 e hm
          · rw [p2, i2]; rfl
        · rw [if_neg hr] at h
          exact absurd (Prod.mk.inj h).2 hr
      · rw [lst_bad h0 he] at h
        exact absurd (Prod.mk.inj h).2 he

/-! ### Attributes -/
def okA (a : At) : Prop := oidB a.1 = true ∧ a.2.2.size ≠ 0 ∧ validB a.2.1 a.2.2.data.toList = true ∧ a.2.2.size ≤ 64
theorem valid_kind {k : Int} {l : List UInt8} (h : validB k l = true) : k = 12 ∨ k = 19 ∨ k = 22 := by
  unfold validB at h
  by_cases h1 : k = 12
  · exact .inl h1
  · rw [if_neg h1] at h
    by_cases h2 : k = 19
    · exact .inr (.inl h2)
    · rw [if_neg h2] at h
      by_cases h3 : k = 22
      · exact .inr (.inr h3)
      · rw [if_neg h3] at h; cases h

/-! ### Object identifiers -/
theorem oid_there {s : ByteArray} (h : oidB s = true) : oidD (oidS s) = some s := by
  obtain ⟨a, ha⟩ := oidB_true h
  rw [oidS_yes ha, oidD_yes (a := a) ⟨ha.1, strOf_list _⟩]
  exact congrArg some (strOf_of (oid_txt ha)).symm
end Go.Proofs.YtbpdenfiifcfcaaGreatDoor
namespace Go.Proofs.YtbpdenfiifcfcaaGreatDoor
open Go.RowKit

theorem size_of_list {c : ByteArray} {l : List UInt8} (h : c.data.toList = l) : c.size = l.length := by rw [← h]; rfl
/-- The elements of an attribute. -/
noncomputable def elOid (a : At) : El := (6, oidS a.1, wr1 6 (oidS a.1))
def elVal (a : At) : El := (a.2.1.toNat, a.2.2, wr1 a.2.1 a.2.2)
noncomputable def inA (a : At) : ByteArray := ⟨((wr1 6 (oidS a.1)).data.toList ++ (wr1 a.2.1 a.2.2).data.toList).toArray⟩
noncomputable def elA (a : At) : El := (48, inA a, encA a)
theorem okA_kind {a : At} (h : okA a) : ∃ k : Nat, a.2.1 = (k : Int) ∧ (k = 12 ∨ k = 19 ∨ k = 22) := by
  rcases valid_kind h.2.2.1 with e | e | e
  · exact ⟨12, e, .inl rfl⟩
  · exact ⟨19, e, .inr (.inl rfl)⟩
  · exact ⟨22, e, .inr (.inr rfl)⟩
theorem elOid_ok (a : At) : OkE (elOid a) := ⟨by show 6 < 256; omega, by show 6 % 32 ≠ 31; omega, by show (oidS a.1).size ≤ _; have := oidS_size a.1; omega, rfl⟩
theorem elVal_ok {a : At} (h : okA a) : OkE (elVal a) := by
  obtain ⟨k, e, hk⟩ := okA_kind h
  have hs := h.2.2.2
  have e2 : a.2.1.toNat = k := by omega
  refine ⟨by show a.2.1.toNat < 256; omega, by show a.2.1.toNat % 32 ≠ 31; omega, by show a.2.2.size ≤ _; omega, ?_⟩
  show wr1 a.2.1 a.2.2 = wr1 ((a.2.1.toNat : Nat) : Int) a.2.2
  rw [e2, e]
theorem inA_size {a : At} (h : okA a) : (inA a).size ≤ 131 := by
  have h1 := wrapStr_le 6 (oidS a.1).data.toList
  have h2 := wrapStr_le a.2.1 a.2.2.data.toList
  have h3 := oidS_size a.1
  have h4 := h.2.2.2
  have e1 : (oidS a.1).data.toList.length = (oidS a.1).size := rfl
  have e2 : a.2.2.data.toList.length = a.2.2.size := rfl
  have e3 : (wr1 6 (oidS a.1)).data.toList.length = (wr1 6 (oidS a.1)).size := rfl
  have e4 : (wr1 a.2.1 a.2.2).data.toList.length = (wr1 a.2.1 a.2.2).size := rfl
  have e5 : (inA a).size = ((wr1 6 (oidS a.1)).data.toList ++ (wr1 a.2.1 a.2.2).data.toList).length := rfl
  rw [e5, List.length_append, e3, e4]
  unfold wr1
  omega
theorem decA_elA {a : At} (h : okA a) : decA (elA a) = (0, a) := by
  have hl : lst (inA a) = ([elOid a, elVal a], 0) := lst_els _ (fun e he => by
    rcases List.mem_cons.1 he with rfl | he
    · exact elOid_ok a
    · obtain rfl := List.mem_singleton.1 he
      exact elVal_ok h) _ (by unfold raws elOid elVal inA; simp)
  unfold decA
  have e1 : (elA a).1 = 48 := rfl
  have e2 : (elA a).2.1 = inA a := rfl
  rw [e1, e2, hl, if_neg (by omega), if_neg (by simp)]
  obtain ⟨k, e, hk⟩ := okA_kind h
  have e3 : a.2.1.toNat = k := by omega
  have hT : strTag (elVal a).1 = true := by
    show strTag a.2.1.toNat = true
    rw [e3]
    rcases hk with rfl | rfl | rfl <;> rfl
  simp only [decL]
  have e4 : (elOid a).1 = 6 := rfl
  have e5 : oidD (elOid a).2.1 = some a.1 := oid_there h.1
  rw [e4, if_neg (by omega), e5, hT]
  simp only []
  rw [if_neg (by simp), if_neg (by simp)]
  have e6 : (((elVal a).1 : Nat) : Int) = a.2.1 := by show ((a.2.1.toNat : Nat) : Int) = _; omega
  rw [e6]
  rfl
/-! ### Relative names -/
noncomputable def sortR (r : List At) : List At := r.mergeSort fun x y => decide ((encA x).data.toList ≤ (encA y).data.toList)
theorem sortR_perm (r : List At) : (sortR r).Perm r := List.mergeSort_perm _ _
/-! ### Names -/
theorem one_of_lst {b : ByteArray} {e : El} (h : lst b = ([e], 0)) : oneErr b = 0 ∧ rdElem b = e := by
  by_cases h0 : b.size = 0
  · rw [lst_nil h0] at h; cases (Prod.mk.inj h).1
  · by_cases he : rdErr b = 0
    · rw [lst_step h0 he] at h
      by_cases hr : (lst (rdRest b)).2 = 0
      · rw [if_pos hr] at h
        obtain ⟨h1, h2⟩ := List.cons.inj (Prod.mk.inj h).1
        obtain ⟨_, h3⟩ := els_lst _ (rdRest b) [] (Nat.le_refl _) (by rw [← hr, ← h2])
        have h4 : (rdRest b).size = 0 := size_of_list h3
        exact ⟨by unfold oneErr; rw [if_neg (fun k => k he), if_neg (fun k => k h4)], h1⟩
      · rw [if_neg hr] at h; exact absurd (Prod.mk.inj h).2 hr
    · rw [lst_bad h0 he] at h; exact absurd (Prod.mk.inj h).2 he
theorem read_one {b c : ByteArray} (hc : c.size ≤ 131072) (hb : b = wr1 ((48 : Nat) : Int) c) : oneErr b = 0 ∧ rdTag b = 48 ∧ rdContent b = c := by
  have hok : OkE (48, c, b) := ⟨by show 48 < 256; omega, by show 48 % 32 ≠ 31; omega, hc, hb⟩
  obtain ⟨h1, he⟩ := one_of_lst (lst_els [(48, c, b)] (fun e hm => by rw [List.mem_singleton.1 hm]; exact hok) b (by unfold raws; simp))
  unfold rdElem at he
  obtain ⟨e1, e2⟩ := Prod.mk.inj he
  obtain ⟨e3, _⟩ := Prod.mk.inj e2
  exact ⟨h1, e1, e3⟩
end Go.Proofs.YtbpdenfiifcfcaaGreatDoor
namespace Go.Proofs.YtbpdenfiifcfcaaGreatDoor
open Go.RowKit

end Go.Proofs.YtbpdenfiifcfcaaGreatDoor
namespace Go.Proofs.YtbpdenfiifcfcaaGreatDoor
open Go.RowKit

end Go.Proofs.YtbpdenfiifcfcaaGreatDoor
namespace Go.Proofs.YtbpdenfiifcfcaaGreatDoor
open Go.RowKit

end Go.Proofs.YtbpdenfiifcfcaaGreatDoor
namespace Go.Proofs.YtbpdenfiifcfcaaGreatDoor
open Go.RowKit

end Go.Proofs.YtbpdenfiifcfcaaGreatDoor
namespace Go.Proofs.YtbpdenfiifcfcaaGreatDoor
open Go.RowKit

end Go.Proofs.YtbpdenfiifcfcaaGreatDoor
namespace Go.Proofs.YtbpdenfiifcfcaaGreatDoor
open Go.RowKit

end Go.Proofs.YtbpdenfiifcfcaaGreatDoor
namespace Go.Proofs.YtbpdenfiifcfcaaGreatDoor
open Go.RowKit

end Go.Proofs.YtbpdenfiifcfcaaGreatDoor
namespace Go.Proofs.YtbpdenfiifcfcaaGreatDoor
open Go.RowKit

end Go.Proofs.YtbpdenfiifcfcaaGreatDoor
namespace Go.Proofs.YtbpdenfiifcfcaaGreatDoor
open Go.RowKit

theorem encG_zero {con : Bool} {k : Int} {t : List UInt8} {n : Nm} (h : chkG con k t n = 0) : (k = 4 ∧ t = [] ∧ chkN n = 0) ∨ (k ≠ 4 ∧ okT k con t = true ∧ n = [] ∧ (k = 1 ∨ k = 2 ∨ k = 7)) := by
  unfold chkG at h
  split at h
  · rename_i h4
    split at h
    · rename_i h0; exact .inl ⟨h4, h0, h⟩
    · cases h
  · rename_i h4
    split at h
    · rename_i h0
      refine .inr ⟨h4, h0.1, h0.2, ?_⟩
      rcases kind_or k with rfl | rfl | rfl | rfl | hk
      · exact .inl rfl
      · exact .inr (.inl rfl)
      · exact absurd rfl h4
      · exact .inr (.inr rfl)
      · have := okT_no hk con t; rw [this] at h0; cases h0.1
    · cases h

set_option maxRecDepth 100000 in
set_option maxHeartbeats 4000000 in
theorem rencG_core (a0 : Option Addr) (c m : Nat) (k : Int) (t : List UInt8) (n : Nm) (con : Bool) (w : World) (h : RLies w a0 n) (hn : m = n.length) (ht : t.length ≤ 150000) (hs : SmallN n) :
    Calls Tryz.prog 53 #[.agg #[.int .i64 k, .string (strOf t), .slice a0 m c], .bool con] w fun e w' => e = .returned (.tuple #[.string (encG con k t n), .int .i64 ((chkG con k t n : Nat) : Int)]) ∧ Below w.heap.size w w' := by
  obtain ⟨W0, hW0⟩ : ∃ W0, W0 = w.alloc (.cells #[.int .i64 k, .string (strOf t), .slice a0 m c] 29) := ⟨_, rfl⟩
  have hwr : w.alloc (.cells #[.int .i64 k, .string (strOf t), .slice a0 m c] 29) = W0 := hW0.symm
  have hb0 : Below w.heap.size w W0 := by rw [hW0]; exact belowNew w _
  have hq0 : W0.heap[w.heap.size]? = some (.cells #[.int .i64 k, .string (strOf t), .slice a0 m c] 29 (0, 0)) := by rw [hW0]; exact heap_alloc_new w _
  obtain ⟨c0, c1, c2, l0⟩ := three_facts hq0
  have HB0 := Lib.hid hb0
  have HTL := Lib.hid ht
  have HC := Lib.hid (rchkG_core a0 c m k t n con W0 (h.below hb0) hn ht hs)
  have HN := Lib.hid (fun W (hb : Below w.heap.size w W) => rencode_core a0 c m n W (h.below hb) hn hs)
  obtain ⟨E, hE⟩ : ∃ E, E = chkG con k t n := ⟨_, rfl⟩
  obtain ⟨V, hV⟩ : ∃ V, V = encG con k t n := ⟨_, rfl⟩
  rw [← hE] at HC ⊢
  rw [← hV]
  clear h hn ht hs hW0 hb0 hq0
  by_cases hz : E = 0
  · subst hz
    rcases encG_zero hE.symm with ⟨rfl, rfl, hk⟩ | ⟨h4, _, _, hk⟩
    · have HV := Lib.hid (show V = wr1 164 (encN n) by rw [hV]; unfold encG; rw [← hE, if_pos rfl, if_pos rfl])
      have he : encV n = encN n := by unfold encV; rw [if_pos hk]
      have HW1 := Lib.hid (fun g W h => rw1 164 g (encN n) W h (Nat.le_trans (wrapStr_size _ _) (by decide)))
      rw [← HV.out] at HW1
      rw [he, hk] at HN
      clear he hk hE hV HV
      go_enter Tryz.func53, Tryz.ntmps53
      go_wp2_with (first
        | (go_at_call 33; (with_reducible refine HC.out.mono ?_); rintro e w1 ⟨rfl, hb1⟩; have HB1 := Lib.hid (below_next HB0.out hb1); have d0 := (hb1.cell (p := ⟨w.heap.size, 0, none⟩) l0).trans c0; have d2 := (hb1.cell (p := ⟨w.heap.size, 2, none⟩) l0).trans c2; have l1 := Nat.lt_of_lt_of_le l0 hb1.size; clear hb1)
        | (go_at_call 83; (with_reducible refine (HN.out _ HB1.out).mono ?_); rintro e w2 ⟨rfl, hb2⟩; have HB2 := Lib.hid (below_next HB1.out hb2); have e0 := (hb2.cell (p := ⟨w.heap.size, 0, none⟩) l1).trans d0; clear hb2)
        | (go_at_call 37; (with_reducible refine (HW1.out _ _ (bx1 _ _ _)).mono ?_); rintro e w5 ⟨rfl, hb5⟩; have HB5 := Lib.hid (below_next HB2.out (below_next (belowNew _ _) hb5)); clear hb5))
      go_ret2
      exact ⟨rfl, HB5.out⟩
    · have HV := Lib.hid (show V = wr1 (128 + k) (strOf t) by rw [hV]; unfold encG; rw [← hE, if_pos rfl, if_neg h4])
      clear hE hV h4 HN
      rcases hk with rfl | rfl | rfl
      · have HW1 := Lib.hid (fun g W h => rw1 129 g (strOf t) W h (by rw [strOf_size]; exact Nat.le_trans HTL.out (by decide)))
        rw [← show V = wr1 129 (strOf t) from HV.out] at HW1
        clear HV
        go_enter Tryz.func53, Tryz.ntmps53
        go_wp2_with (first
          | (go_at_call 33; (with_reducible refine HC.out.mono ?_); rintro e w1 ⟨rfl, hb1⟩; have HB1 := Lib.hid (below_next HB0.out hb1); have d0 := (hb1.cell (p := ⟨w.heap.size, 0, none⟩) l0).trans c0; have d1 := (hb1.cell (p := ⟨w.heap.size, 1, none⟩) l0).trans c1; clear hb1)
          | (go_at_call 37; (with_reducible refine (HW1.out _ _ (bx1 _ _ _)).mono ?_); rintro e w5 ⟨rfl, hb5⟩; have HB5 := Lib.hid (below_next HB1.out (below_next (belowNew _ _) hb5)); clear hb5))
        go_ret2
        exact ⟨rfl, HB5.out⟩
      · have HW1 := Lib.hid (fun g W h => rw1 130 g (strOf t) W h (by rw [strOf_size]; exact Nat.le_trans HTL.out (by decide)))
        rw [← show V = wr1 130 (strOf t) from HV.out] at HW1
        clear HV
        go_enter Tryz.func53, Tryz.ntmps53
        go_wp2_with (first
          | (go_at_call 33; (with_reducible refine HC.out.mono ?_); rintro e w1 ⟨rfl, hb1⟩; have HB1 := Lib.hid (below_next HB0.out hb1); have d0 := (hb1.cell (p := ⟨w.heap.size, 0, none⟩) l0).trans c0; have d1 := (hb1.cell (p := ⟨w.heap.size, 1, none⟩) l0).trans c1; clear hb1)
          | (go_at_call 37; (with_reducible refine (HW1.out _ _ (bx1 _ _ _)).mono ?_); rintro e w5 ⟨rfl, hb5⟩; have HB5 := Lib.hid (below_next HB1.out (below_next (belowNew _ _) hb5)); clear hb5))
        go_ret2
        exact ⟨rfl, HB5.out⟩
      · have HW1 := Lib.hid (fun g W h => rw1 135 g (strOf t) W h (by rw [strOf_size]; exact Nat.le_trans HTL.out (by decide)))
        rw [← show V = wr1 135 (strOf t) from HV.out] at HW1
        clear HV
        go_enter Tryz.func53, Tryz.ntmps53
        go_wp2_with (first
          | (go_at_call 33; (with_reducible refine HC.out.mono ?_); rintro e w1 ⟨rfl, hb1⟩; have HB1 := Lib.hid (below_next HB0.out hb1); have d0 := (hb1.cell (p := ⟨w.heap.size, 0, none⟩) l0).trans c0; have d1 := (hb1.cell (p := ⟨w.heap.size, 1, none⟩) l0).trans c1; clear hb1)
          | (go_at_call 37; (with_reducible refine (HW1.out _ _ (bx1 _ _ _)).mono ?_); rintro e w5 ⟨rfl, hb5⟩; have HB5 := Lib.hid (below_next HB1.out (below_next (belowNew _ _) hb5)); clear hb5))
        go_ret2
        exact ⟨rfl, HB5.out⟩
  · have hz1 := errno_ne hz
    have HV := Lib.hid (show V = ⟨#[]⟩ by rw [hV]; unfold encG; rw [← hE, if_neg hz])
    clear hE hV HN
    rw [HV.out]
    go_enter Tryz.func53, Tryz.ntmps53
    go_wp2_with (go_at_call 33; (with_reducible refine HC.out.mono ?_); rintro e w1 ⟨rfl, hb1⟩; have HB1 := Lib.hid (below_next HB0.out hb1); clear hb1)
    go_ret2
    exact ⟨rfl, HB1.out⟩
end Go.Proofs.YtbpdenfiifcfcaaGreatDoor
namespace Go.Proofs.YtbpdenfiifcfcaaGreatDoor
open Go.RowKit

theorem chkA_len {b : List At} {a : At} (h : chkA b a = 0) : a.2.2.size ≤ 64 := by
  unfold chkA at h
  split at h
  · cases h
  · split at h
    · cases h
    · split at h
      · cases h
      · split at h
        · cases h
        · omega
theorem chkL_len : ∀ {r b : List At}, chkL b r = 0 → ∀ a ∈ r, a.2.2.size ≤ 64
  | [], _, _, _, ha => by cases ha
  | x :: r, b, h, a, ha => by
    unfold chkL at h
    by_cases hx : chkA b x = 0
    · rw [if_pos hx] at h
      rcases List.mem_cons.1 ha with rfl | ha
      · exact chkA_len hx
      · exact chkL_len h a ha
    · rw [if_neg hx] at h; exact absurd h hx
theorem encA_le64 (x : At) (h : x.2.2.size ≤ 64) : (encA x).size ≤ 137 := by
  have h1 := wrapStr_le 6 (oidS x.1).data.toList
  have h2 := wrapStr_le x.2.1 x.2.2.data.toList
  have h3 := wrapStr_le 48 ((wr1 6 (oidS x.1)).data.toList ++ (wr1 x.2.1 x.2.2).data.toList)
  have h4 := oidS_size x.1
  have e1 : (oidS x.1).data.toList.length = (oidS x.1).size := rfl
  have e2 : x.2.2.data.toList.length = x.2.2.size := rfl
  have e3 : (wr1 6 (oidS x.1)).data.toList.length = (wrapStr 6 (oidS x.1).data.toList).size := rfl
  have e4 : (wr1 x.2.1 x.2.2).data.toList.length = (wrapStr x.2.1 x.2.2.data.toList).size := rfl
  rw [List.length_append] at h3
  show (wrapStr 48 ((wr1 6 (oidS x.1)).data.toList ++ (wr1 x.2.1 x.2.2).data.toList)).size ≤ 137
  omega
theorem encR_le64 {r : List At} (h : chkR r = 0) : (encR r).size ≤ 554 := by
  have hl : r.length ≤ 4 ∧ chkL [] r = 0 := by
    unfold chkR at h
    split at h
    · cases h
    · split at h
      · cases h
      · exact ⟨by omega, h⟩
  have h1 := wrapStr_le 49 (ordL (lists (r.map encA))).flatten
  rw [ordL_flat_length, lists_flat] at h1
  have h2 := cat_lenM 137 (r.map encA) (fun s hs => by obtain ⟨a, ha, rfl⟩ := List.mem_map.1 hs; exact encA_le64 a (chkL_len hl.2 a ha))
  rw [List.length_map] at h2
  have := hl.1
  show (wrapStr 49 (ordL (lists (r.map encA))).flatten).size ≤ 554
  omega
theorem chkRs_all : ∀ {n : Nm}, chkRs n = 0 → ∀ r ∈ n, chkR r = 0
  | [], _, _, hr => by cases hr
  | x :: n, h, r, hr => by
    unfold chkRs at h
    by_cases hx : chkR x = 0
    · rw [if_pos hx] at h
      rcases List.mem_cons.1 hr with rfl | hr
      · exact hx
      · exact chkRs_all h r hr
    · rw [if_neg hx] at h; exact absurd h hx
theorem encN_le64 {n : Nm} (h : chkN n = 0) : (encN n).size ≤ 4438 := by
  have hl : n.length ≤ 8 ∧ chkRs n = 0 := by
    unfold chkN at h
    split at h
    · cases h
    · exact ⟨by omega, h⟩
  have h1 := wrapStr_le 48 (cat_t (n.map encR))
  have h2 := cat_lenM 554 (n.map encR) (fun s hs => by obtain ⟨a, ha, rfl⟩ := List.mem_map.1 hs; exact encR_le64 (chkRs_all hl.2 a ha))
  rw [List.length_map] at h2
  have := hl.1
  show (wrapStr 48 (cat_t (n.map encR))).size ≤ 4438
  omega
end Go.Proofs.YtbpdenfiifcfcaaGreatDoor
