/-
  The contract of oid.arcsOf: the numbers of the object identifier that the text is, if it is one.
  The contract of the reference's arcs: the numbers of the object identifier that the text is, if it is one.
  Plain laws on names as lists: what an attribute is, which error a name has, when two names match. Nothing is claimed of the program here.
-/
import Derived.Test.YtflpajbcomhkpaaGreatDoorUaf
import Derived.Deep.DeepCutAuto
import Derived.Test.YtflpajbcomhkpaaGreatDoorUaa
namespace Go.Proofs.YtflpajbcomhkpaaGreatDoor
open Go.RowKit

/-- What arcsOf answers: the numbers, in a block of the call's own, or no. -/
def Arcsd (l : List UInt8) (B : Nat) (w' : World) (e : Ending) : Prop :=
  (∃ a g cap, Oid l a ∧ e = .returned (.tuple #[.slice (some ⟨g, 0, none⟩) a.length cap, .bool true]) ∧ ILie w' g a ∧ B ≤ g ∧ a.length ≤ cap) ∨ ((∀ a, ¬ Oid l a) ∧ e = .returned (.tuple #[.slice none 0 0, .bool false]))
theorem piece_len {Q : List (List UInt8)} {p : List UInt8} (h : p ∈ Q) : p.length ≤ (dotted Q).length := by
  induction Q with
  | nil => cases h
  | cons q Q ih =>
    rw [dotted, List.flatMap_cons, List.length_append, List.length_append]
    rcases List.mem_cons.1 h with rfl | h
    · omega
    · have := ih h; rw [dotted] at this; omega
theorem pcs_list (s : ByteArray) : (pcs s).map (·.data.toList) = Lib.splitK [46] 0 (min 12 s.data.toList.length) s.data.toList := Lib.splitB_data ⟨#[46]⟩ 0 (min 12 s.size) s
theorem pcs_size (s : ByteArray) (k : Nat) (hk : k < (pcs s).length) : ((pcs s).getD k ⟨#[]⟩).size ≤ s.size + 1 := by
  have hm : ((pcs s).getD k ⟨#[]⟩).data.toList ∈ (pcs s).map (·.data.toList) := by
    rw [List.getD_eq_getElem?_getD, List.getElem?_eq_getElem hk]
    exact List.mem_map.2 ⟨_, List.getElem_mem hk, rfl⟩
  have := piece_len hm
  rw [pcs_list, (split_spec _ _).1, List.length_append] at this
  exact this
theorem good_of {A : List Nat} (h2 : 2 ≤ A.length) (h12 : A.length ≤ 12) (hm : ∀ v ∈ A, v ≤ 2147483647) (h0 : ¬ 2 < A.getD 0 0) (h1 : ¬ (A.getD 0 0 < 2 ∧ 40 ≤ A.getD 1 0)) : Good A :=
  ⟨h2, h12, hm, by omega, fun h => by omega⟩

set_option maxRecDepth 100000 in
set_option maxHeartbeats 1000000 in
theorem arcsOf_any (s : ByteArray) (w : World) (hs : s.size ≤ 1099511627) :
    Calls Tryz.prog 209 #[.string s] w fun e w' => Arcsd s.data.toList w.heap.size w' e ∧ Below w.heap.size w w' := by
  obtain ⟨i0, hi, hz0, hz1, hz2⟩ := info_parts intInfo
  obtain ⟨q1, q2, q3, q4⟩ := split13 (l := s.data.toList) (k := min 12 s.data.toList.length) rfl (pcs_list s)
  have HQ1 := Lib.hid q1
  have HQ2 := Lib.hid q2
  have hsz := pcs_size s
  have hcell := row_pcs w (pcs s) (min 13 (s.size + 1))
  have HSP := Lib.hid (split_any s w (by omega))
  obtain ⟨xs, hxs⟩ : ∃ xs, xs = pcs s := ⟨_, rfl⟩
  rw [← hxs] at HQ1 HQ2 HSP q3 q4 hsz hcell
  rw [List.length_map] at q3 q4
  obtain ⟨N, hN⟩ : ∃ N, N = min 13 (s.size + 1) := ⟨_, rfl⟩
  rw [← hN] at HSP hcell
  obtain ⟨w1, hw1⟩ : ∃ w1, w1 = w.alloc (.cells (Lib.cellsOf xs N) 9) := ⟨_, rfl⟩
  have HB1 := Lib.hid (show Below w.heap.size w w1 by rw [hw1]; exact belowNew w _)
  have HS1 := Lib.hid (show w1.heap.size = w.heap.size + 1 by rw [hw1]; simp)
  rw [← hw1] at HSP hcell
  obtain ⟨n, hn⟩ : ∃ n, n = xs.length := ⟨_, rfl⟩
  rw [← hn] at HSP hcell hsz q3 q4
  have HN := Lib.hid hn
  have HCL := Lib.hid hcell
  have HSZ := Lib.hid hsz
  have HSS := Lib.hid hs
  clear hw1 hN hxs q1 q2 hcell hsz hs hn
  have no : ∀ {Q : List (List UInt8)}, Q.length = n → (∀ a, Oid s.data.toList a → Q = a.map Lib.decDigits) → (n < 2 ∨ 12 < n) → ∀ a, ¬ Oid s.data.toList a := by
    intro Q h1 h2 h3 a h
    have e := congrArg List.length (h2 a h)
    rw [List.length_map, h1] at e
    have := h.1.1
    have := h.1.2.1
    omega
  have hlen : (xs.map (·.data.toList)).length = n := by rw [List.length_map, HN.out]
  by_cases h2 : n < 2
  · have d1 : decide ((n : Int) < 2) = true := by simp; omega
    have HX := Lib.hid (no hlen HQ1.out (.inl h2))
    clear no hlen h2
    go_enter Tryz.func209, Tryz.ntmps209
    go_wp2_with (go_at_call 253; (with_reducible refine HSP.out.mono ?_); rintro e w2 ⟨rfl, rfl⟩)
    go_ret2
    exact ⟨.inr ⟨HX.out, rfl⟩, HB1.out⟩
  · by_cases h12 : 12 < n
    · have d1 : decide ((n : Int) < 2) = false := by simp; omega
      have d2 : decide ((12 : Int) < (n : Int)) = true := by simp; omega
      have HX := Lib.hid (no hlen HQ1.out (.inr h12))
      clear no hlen h2 h12
      go_enter Tryz.func209, Tryz.ntmps209
      go_wp2_with (go_at_call 253; (with_reducible refine HSP.out.mono ?_); rintro e w2 ⟨rfl, rfl⟩)
      go_ret2
      exact ⟨.inr ⟨HX.out, rfl⟩, HB1.out⟩
    · have d1 : decide ((n : Int) < 2) = false := by simp; omega
      have d2 : decide ((12 : Int) < (n : Int)) = false := by simp; omega
      clear no q3 q4
      go_enter Tryz.func209, Tryz.ntmps209
      go_wp2_with (first | (go_at_call 253; (with_reducible refine HSP.out.mono ?_); rintro e w2 ⟨rfl, rfl⟩) | (at_make; refine wpList_make_full _ rfl _ _ 24 rfl w2.heap.size 3 i0 (.int .i64 0) 1 Tryz.underlying24 hi hz0 hz1 .i64 .i64 (n : Int) (n : Int) n rfl rfl rfl rfl (by rw [hz2]; omega) (by unfold maxLen; omega) (Nat.le_refl _) ?_; intro w3 hown3 hgr3; have HO3 := Lib.hid (int_made n hown3); have HG3 := Lib.hid hgr3; clear hown3 hgr3))
      have HB3 := Lib.hid ((Below.refl w2.heap.size w2).grown HG3.out (Nat.le_refl _) (fun _ e => by cases e))
      clear HSP d1 d2
      go_loopw [25] (fun i wr => ∃ k : Nat, k ≤ n ∧ i = .int .i64 (k : Int) ∧ (∃ A : List Nat, A.length = k ∧ (xs.map (·.data.toList)).take k = A.map Lib.decDigits ∧ (∀ v ∈ A, v ≤ 2147483647) ∧ OwnI wr w2.heap.size (.slice (some ⟨w2.heap.size, 0, none⟩) n n) (A ++ List.replicate (n - A.length) 0)) ∧ Below w2.heap.size w2 wr) (fun i _ => n - (intOf i).toNat)
      case atStart => exact ⟨0, by omega, rfl, ⟨[], rfl, rfl, by simp, by simpa using HO3.out⟩, HB3.out⟩
      case round =>
        obtain ⟨k, hk, rfl, ⟨A, hA, hAQ, hAm, ho⟩, hb⟩ := hrel
        have HO := Lib.hid ho
        have HB := Lib.hid hb
        have HA := Lib.hid hA
        have HAQ := Lib.hid hAQ
        have HAM := Lib.hid hAm
        by_cases hlt : k < n
        · have hd : decide ((k : Int) < (n : Int)) = true := by simp; omega
          have hcx : wr.cell? ⟨w.heap.size, k, none⟩ = some (.string (xs.getD k ⟨#[]⟩)) := by
            rw [← HCL.out k hlt]
            exact hb.cell (by show w.heap.size < w2.heap.size; rw [HS1.out]; omega)
          have HXS := Lib.hid (HSZ.out k hlt)
          have hx : (xs.map (·.data.toList))[k]? = some (xs.getD k ⟨#[]⟩).data.toList := by
            have : k < xs.length := by have := HN.out; omega
            rw [List.getElem?_map, List.getD_eq_getElem?_getD, List.getElem?_eq_getElem this]; rfl
          generalize xs.getD k ⟨#[]⟩ = x at hcx HXS hx
          have HX := Lib.hid hx
          have HLX := Lib.hid (show x.size ≤ 1099511627776 by have := HXS.out; have := HSS.out; omega)
          have hci := int_cell ho (filled_len A n (by omega)) k hlt
          have hcf := int_free ho (filled_len A n (by omega)) k
          clear hA hAQ hAm ho hb hx hlen
          by_cases hv : ∃ v, IsArc x.data.toList v
          · obtain ⟨v, hv⟩ := hv
            have HV := Lib.hid hv
            have hs2 := Lib.hid (int_set HO.out (filled_len A n (by have := HA.out; omega)) k v)
            clear hv
            go_wp2_with (go_at_call 254; (with_reducible refine (arc_yes HV.out _ HLX.out).mono ?_); rintro e w4 ⟨rfl, rfl⟩)
            go_roundw
            case rel =>
              have hAk := HA.out
              have h3 := hs2.out
              subst hAk
              rw [filled_set A n v hlt] at h3
              refine ⟨A.length + 1, by omega, by go_num, ⟨A ++ [v], by simp, ?_, ?_, h3⟩, HB.out.setCell (Nat.le_refl _) _⟩
              · rw [List.take_add_one, HX.out, HAQ.out, List.map_append, HV.out.1]; rfl
              · intro y hy
                rcases List.mem_append.1 hy with hy | hy
                · exact HAM.out y hy
                · obtain rfl : y = v := by simpa using hy
                  exact HV.out.2
            case measure => simp [intOf]; omega
          · have HV := Lib.hid (show ∀ v, ¬ IsArc x.data.toList v from fun v h => hv ⟨v, h⟩)
            clear hv
            go_wp2_with (go_at_call 254; (with_reducible refine (arc_no HV.out _ HLX.out).mono ?_); rintro e w4 ⟨rfl, rfl⟩)
            go_ret2
            refine ⟨.inr ⟨fun a h => ?_, rfl⟩, below_next HB1.out HB.out⟩
            have e := HQ1.out a h
            have hx := HX.out
            rw [e, List.getElem?_map] at hx
            obtain ⟨v, hv1, hv2⟩ : ∃ v, a[k]? = some v ∧ Lib.decDigits v = x.data.toList := by simpa using hx
            exact HV.out v ⟨hv2.symm, h.1.2.2.1 v (List.mem_of_getElem? hv1)⟩
        · have ek : k = n := by omega
          subst ek
          have hAl : A.length = k := hA
          have eAA : A ++ List.replicate (k - A.length) 0 = A := by rw [hA]; simp
          rw [eAA] at HO ho
          have hd : decide ((k : Int) < (k : Int)) = false := by simp
          have hc0 := int_cell ho hAl 0 (by omega)
          have hc1 := int_cell ho hAl 1 (by omega)
          have HQA := Lib.hid (show xs.map (·.data.toList) = A.map Lib.decDigits by rw [← hAQ]; exact (List.take_of_length_le (by rw [hlen]; exact Nat.le_refl _)).symm)
          have HG := Lib.hid (fun h0 h1 => good_of (A := A) (by omega) (by omega) hAm h0 h1)
          have bad : ¬ (¬ 2 < A.getD 0 0 ∧ ¬ (A.getD 0 0 < 2 ∧ 40 ≤ A.getD 1 0)) → ∀ a, ¬ Oid s.data.toList a := by
            intro hn a h
            have e := (HQ1.out a h).symm.trans HQA.out
            have e2 : a = A := by
              have h1 := dec_pieces a
              rw [e, dec_pieces A] at h1
              exact (code_inj fdot_code fdot_ne h1).symm
            subst e2
            obtain ⟨_, _, _, g0, g1⟩ := h.1
            exact hn ⟨by omega, fun ⟨x1, x2⟩ => by have := g1 x1; omega⟩
          have HBAD := Lib.hid bad
          have hm0 : A.getD 0 0 ≤ 2147483647 := by
            rw [List.getD_eq_getElem?_getD, List.getElem?_eq_getElem (by omega)]
            exact hAm _ (List.getElem_mem _)
          have hm1 : A.getD 1 0 ≤ 2147483647 := by
            rw [List.getD_eq_getElem?_getD, List.getElem?_eq_getElem (by omega)]
            exact hAm _ (List.getElem_mem _)
          clear bad hA hAQ hAm ho hb hlen hAl eAA
          obtain ⟨a0, ha0⟩ : ∃ a0, a0 = A.getD 0 0 := ⟨_, rfl⟩
          obtain ⟨a1, ha1⟩ : ∃ a1, a1 = A.getD 1 0 := ⟨_, rfl⟩
          rw [← ha0] at hc0 HG HBAD hm0
          rw [← ha1] at hc1 HG HBAD hm1
          clear ha0 ha1
          by_cases g0 : 2 < a0
          · have e0 : decide ((2 : Int) < (a0 : Int)) = true := by simp; omega
            have HX := Lib.hid (HBAD.out (fun h => h.1 g0))
            clear g0
            go_wp2_with fail
            go_ret2
            exact ⟨.inr ⟨HX.out, rfl⟩, below_next HB1.out HB.out⟩
          · have e0 : decide ((2 : Int) < (a0 : Int)) = false := by simp; omega
            by_cases g1 : a0 < 2
            · have e1 : decide ((a0 : Int) < 2) = true := by simp; omega
              by_cases g2 : 40 ≤ a1
              · have e2 : decide ((40 : Int) ≤ (a1 : Int)) = true := by simp; omega
                have HX := Lib.hid (HBAD.out (fun h => h.2 ⟨g1, g2⟩))
                clear g0 g1 g2
                go_wp2_with fail
                go_ret2
                exact ⟨.inr ⟨HX.out, rfl⟩, below_next HB1.out HB.out⟩
              · have e2 : decide ((40 : Int) ≤ (a1 : Int)) = false := by simp; omega
                have HX := Lib.hid (HG.out g0 (fun h => g2 h.2))
                clear g0 g1 g2
                go_wp2_with fail
                go_ret2
                obtain ⟨g, cap, e, hg, hl, hcp⟩ := HO.out.open HX.out.ne
                refine ⟨.inl ⟨A, g, cap, ⟨HX.out, HQ2.out A HQA.out⟩, by rw [← e]; rfl, hl, ?_, hcp⟩, below_next HB1.out HB.out⟩
                have := HS1.out; omega
            · have e1 : decide ((a0 : Int) < 2) = false := by simp; omega
              have HX := Lib.hid (HG.out g0 (fun h => g1 h.1))
              clear g0 g1
              go_wp2_with fail
              go_ret2
              obtain ⟨g, cap, e, hg, hl, hcp⟩ := HO.out.open HX.out.ne
              refine ⟨.inl ⟨A, g, cap, ⟨HX.out, HQ2.out A HQA.out⟩, by rw [← e]; rfl, hl, ?_, hcp⟩, below_next HB1.out HB.out⟩
              have := HS1.out; omega
end Go.Proofs.YtflpajbcomhkpaaGreatDoor
namespace Go.Proofs.YtflpajbcomhkpaaGreatDoor
open Go.RowKit

theorem part_snoc {L : List UInt8} {a i : Nat} {c : UInt8} (ha : a ≤ i) (h : L[i]? = some c) : (L.take (i + 1)).drop a = (L.take i).drop a ++ [c] := by
  have hi : i < L.length := (List.getElem?_eq_some_iff.1 h).1
  rw [take_snoc h, List.drop_append_of_le_length (by simp; omega)]
end Go.Proofs.YtflpajbcomhkpaaGreatDoor
namespace Go.Proofs.YtflpajbcomhkpaaGreatDoor
open Go.RowKit

/-- An attribute: its type, its kind, its value. A name: its relative names. -/
abbrev At := ByteArray × Int × ByteArray
abbrev Nm := List (List At)
def atV (a : At) : Value := .agg #[.string a.1, .int .i64 a.2.1, .string a.2.2]
def atCells (a : At) : List Value := [.string a.1, .int .i64 a.2.1, .string a.2.2]
def noAt : At := (⟨#[]⟩, 0, ⟨#[]⟩)

/-! ### The first error of a name -/
noncomputable def oidB (s : ByteArray) : Bool := @decide (∃ a, Oid s.data.toList a) (Classical.propDecidable _)
theorem oidB_yes {s : ByteArray} {a : List Nat} (h : Oid s.data.toList a) : oidB s = true := by unfold oidB; exact @decide_eq_true _ (Classical.propDecidable _) ⟨a, h⟩
theorem oidB_no {s : ByteArray} (h : ∀ a, ¬ Oid s.data.toList a) : oidB s = false := by unfold oidB; exact @decide_eq_false _ (Classical.propDecidable _) (fun ⟨a, k⟩ => h a k)
theorem oidB_true {s : ByteArray} (h : oidB s = true) : ∃ a, Oid s.data.toList a := by unfold oidB at h; exact @of_decide_eq_true _ (Classical.propDecidable _) h
noncomputable def chkA (b : List At) (a : At) : Nat :=
  if oidB a.1 = false then 11 else if a.2.2.size = 0 then 13 else if validB a.2.1 a.2.2.data.toList = false then 13 else if 64 < a.2.2.size then 2 else if b.any (fun x => decide (x.1 = a.1)) = true then 10 else 0
noncomputable def chkL : List At → List At → Nat
  | _, [] => 0
  | b, a :: r => if chkA b a = 0 then chkL (b ++ [a]) r else chkA b a
noncomputable def chkR (r : List At) : Nat := if r.length = 0 then 14 else if 4 < r.length then 2 else chkL [] r
noncomputable def chkRs : Nm → Nat
  | [] => 0
  | r :: n => if chkR r = 0 then chkRs n else chkR r
noncomputable def chkN (n : Nm) : Nat := if 8 < n.length then 2 else chkRs n
theorem dropD {α : Type} (l : List α) (k : Nat) (h : k < l.length) (d : α) : l.drop k = l.getD k d :: l.drop (k + 1) := by
  rw [List.drop_eq_getElem_cons h, List.getD_eq_getElem?_getD, List.getElem?_eq_getElem h]; rfl
theorem takeD {α : Type} (l : List α) (k : Nat) (h : k < l.length) (d : α) : l.take (k + 1) = l.take k ++ [l.getD k d] := by
  rw [List.take_add_one, List.getD_eq_getElem?_getD, List.getElem?_eq_getElem h]; rfl
theorem chkL_step (r : List At) (k : Nat) (h : k < r.length) : chkL (r.take k) (r.drop k) = if chkA (r.take k) (r.getD k noAt) = 0 then chkL (r.take (k + 1)) (r.drop (k + 1)) else chkA (r.take k) (r.getD k noAt) := by
  rw [dropD r k h noAt, takeD r k h noAt]; rfl
theorem chkL_end (r : List At) (b : List At) (k : Nat) (h : r.length ≤ k) : chkL b (r.drop k) = 0 := by
  rw [List.drop_eq_nil_of_le h]; rfl
theorem chkRs_step (n : Nm) (k : Nat) (h : k < n.length) : chkRs (n.drop k) = if chkR (n.getD k []) = 0 then chkRs (n.drop (k + 1)) else chkR (n.getD k []) := by
  rw [dropD n k h []]; rfl
theorem chkRs_end (n : Nm) (k : Nat) (h : n.length ≤ k) : chkRs (n.drop k) = 0 := by
  rw [List.drop_eq_nil_of_le h]; rfl
/-! ### When names match -/
def fa (a : At) : ByteArray × ByteArray := (a.1, foldS a.2.2)
def MatchR (r s : List At) : Prop := r.length = s.length ∧ (∀ x ∈ r, ∃ y ∈ s, fa y = fa x) ∧ (∀ y ∈ s, ∃ x ∈ r, fa x = fa y)
instance (r s : List At) : Decidable (MatchR r s) := by unfold MatchR; infer_instance
theorem MatchR.refl (r : List At) : MatchR r r := ⟨rfl, fun x h => ⟨x, h, rfl⟩, fun x h => ⟨x, h, rfl⟩⟩
theorem MatchR.symm {r s : List At} (h : MatchR r s) : MatchR s r := ⟨h.1.symm, h.2.2, h.2.1⟩
theorem MatchR.trans {r s t : List At} (h : MatchR r s) (k : MatchR s t) : MatchR r t := by
  refine ⟨h.1.trans k.1, fun x hx => ?_, fun x hx => ?_⟩
  · obtain ⟨y, hy, e1⟩ := h.2.1 x hx
    obtain ⟨z, hz, e2⟩ := k.2.1 y hy
    exact ⟨z, hz, e2.trans e1⟩
  · obtain ⟨y, hy, e1⟩ := k.2.2 x hx
    obtain ⟨z, hz, e2⟩ := h.2.2 y hy
    exact ⟨z, hz, e2.trans e1⟩
/-- The relative names of b match the first ones of n. -/
def WithinN (n b : Nm) : Prop := b.length ≤ n.length ∧ ∀ i, i < b.length → MatchR (n.getD i []) (b.getD i [])
def MatchN (n m : Nm) : Prop := n.length = m.length ∧ ∀ i, i < n.length → MatchR (n.getD i []) (m.getD i [])
instance (n b : Nm) : Decidable (WithinN n b) := by unfold WithinN; infer_instance
instance (n b : Nm) : Decidable (MatchN n b) := by unfold MatchN; infer_instance
theorem MatchN.refl (n : Nm) : MatchN n n := ⟨rfl, fun _ _ => MatchR.refl _⟩
theorem MatchN.symm {n m : Nm} (h : MatchN n m) : MatchN m n := ⟨h.1.symm, fun i hi => (h.2 i (by rw [h.1]; exact hi)).symm⟩
theorem MatchN.within {n m : Nm} (h : MatchN n m) : WithinN n m := ⟨Nat.le_of_eq h.1.symm, fun i hi => h.2 i (by rw [h.1]; exact hi)⟩
theorem WithinN.trans {a b c : Nm} (h : WithinN a b) (k : WithinN b c) : WithinN a c := ⟨Nat.le_trans k.1 h.1, fun i hi => (h.2 i (Nat.lt_of_lt_of_le hi k.1)).trans (k.2 i hi)⟩
theorem match_within (n m : Nm) : MatchN n m ↔ n.length = m.length ∧ WithinN n m := ⟨fun h => ⟨h.1, h.within⟩, fun h => ⟨h.1, fun i hi => h.2.2 i (by rw [← h.1]; exact hi)⟩⟩
theorem getD_take {α : Type} (l : List α) (k i : Nat) (h : i < k) (d : α) : (l.take k).getD i d = l.getD i d := by
  rw [List.getD_eq_getElem?_getD, List.getD_eq_getElem?_getD, List.getElem?_take_of_lt h]
end Go.Proofs.YtflpajbcomhkpaaGreatDoor
