/-
  The contract of oid.arcsOf: the numbers of the object identifier that the text is, if it is one.
  The contract of the reference's arcs: the numbers of the object identifier that the text is, if it is one.
  Plain laws on names as lists: what an attribute is, which error a name has, when two names match. Nothing is claimed of the program here.
  Attributes and relative names in memory: that they can be read at an address, and that a slice of a call's own holds them. Nothing is claimed of the program here.
  The contracts of oid.Valid and of the reference's ValidOID.
-/
import Derived.Test.YtbpdenfiifcfcaaGreatDoorKae
import Derived.Deep.DeepCutAuto
import Derived.Test.YtbpdenfiifcfcaaGreatDoorKaa
namespace Go.Proofs.YtbpdenfiifcfcaaGreatDoor
open Go.RowKit

/-- What arcsOf answers: the numbers, in a block of the call's own, or no. -/
def Arcsd (l : List UInt8) (B : Nat) (w' : World) (e : Ending) : Prop :=
  (∃ a g cap, Oid l a ∧ e = .returned (.tuple #[.slice (some ⟨g, 0, none⟩) a.length cap, .bool true]) ∧ ILie w' g a ∧ B ≤ g ∧ a.length ≤ cap) ∨ ((∀ a, ¬ Oid l a) ∧ e = .returned (.tuple #[.slice none 0 0, .bool false]))
theorem piece_len {Q : List (List UInt8)} {p : List UInt8} (h : p ∈ Q) : p.length ≤ (dotted Q).length := by
  induction Q with
  | nil => cases h
  | cons q Q ih =>
    rw [dotted, List.flatMap_cons, List.length_append, List.length_append]
    rcases List.mem_cons.1 h with rfl | h
    · omega
    · have := ih h; rw [dotted] at this; omega
theorem pcs_list (s : ByteArray) : (pcs s).map (·.data.toList) = Lib.splitK [46] 0 (min 12 s.data.toList.length) s.data.toList := Lib.splitB_data ⟨#[46]⟩ 0 (min 12 s.size) s
theorem pcs_size (s : ByteArray) (k : Nat) (hk : k < (pcs s).length) : ((pcs s).getD k ⟨#[]⟩).size ≤ s.size + 1 := by
  have hm : ((pcs s).getD k ⟨#[]⟩).data.toList ∈ (pcs s).map (·.data.toList) := by
    rw [List.getD_eq_getElem?_getD, List.getElem?_eq_getElem hk]
    exact List.mem_map.2 ⟨_, List.getElem_mem hk, rfl⟩
  have := piece_len hm
  rw [pcs_list, (split_spec _ _).1, List.length_append] at this
  exact this
theorem good_of {A : List Nat} (h2 : 2 ≤ A.length) (h12 : A.length ≤ 12) (hm : ∀ v ∈ A, v ≤ 2147483647) (h0 : ¬ 2 < A.getD 0 0) (h1 : ¬ (A.getD 0 0 < 2 ∧ 40 ≤ A.getD 1 0)) : Good A :=
  ⟨h2, h12, hm, by omega, fun h => by omega⟩

set_option maxRecDepth 100000 in
set_option maxHeartbeats 1000000 in
theorem arcsOf_any (s : ByteArray) (w : World) (hs : s.size ≤ 1099511627) :
    Calls Tryz.prog 180 #[.string s] w fun e w' => Arcsd s.data.toList w.heap.size w' e ∧ Below w.heap.size w w' := by
  obtain ⟨i0, hi, hz0, hz1, hz2⟩ := info_parts intInfo
  obtain ⟨q1, q2, q3, q4⟩ := split13 (l := s.data.toList) (k := min 12 s.data.toList.length) rfl (pcs_list s)
  have HQ1 := Lib.hid q1
  have HQ2 := Lib.hid q2
  have hsz := pcs_size s
  have hcell := row_pcs w (pcs s) (min 13 (s.size + 1))
  have HSP := Lib.hid (split_any s w (by omega))
  obtain ⟨xs, hxs⟩ : ∃ xs, xs = pcs s := ⟨_, rfl⟩
  rw [← hxs] at HQ1 HQ2 HSP q3 q4 hsz hcell
  rw [List.length_map] at q3 q4
  obtain ⟨N, hN⟩ : ∃ N, N = min 13 (s.size + 1) := ⟨_, rfl⟩
  rw [← hN] at HSP hcell
  obtain ⟨w1, hw1⟩ : ∃ w1, w1 = w.alloc (.cells (Lib.cellsOf xs N) 9) := ⟨_, rfl⟩
  have HB1 := Lib.hid (show Below w.heap.size w w1 by rw [hw1]; exact belowNew w _)
  have HS1 := Lib.hid (show w1.heap.size = w.heap.size + 1 by rw [hw1]; simp)
  rw [← hw1] at HSP hcell
  obtain ⟨n, hn⟩ : ∃ n, n = xs.length := ⟨_, rfl⟩
  rw [← hn] at HSP hcell hsz q3 q4
  have HN := Lib.hid hn
  have HCL := Lib.hid hcell
  have HSZ := Lib.hid hsz
  have HSS := Lib.hid hs
  clear hw1 hN hxs q1 q2 hcell hsz hs hn
  have no : ∀ {Q : List (List UInt8)}, Q.length = n → (∀ a, Oid s.data.toList a → Q = a.map Lib.decDigits) → (n < 2 ∨ 12 < n) → ∀ a, ¬ Oid s.data.toList a := by
    intro Q h1 h2 h3 a h
    have e := congrArg List.length (h2 a h)
    rw [List.length_map, h1] at e
    have := h.1.1
    have := h.1.2.1
    omega
  have hlen : (xs.map (·.data.toList)).length = n := by rw [List.length_map, HN.out]
  by_cases h2 : n < 2
  · have d1 : decide ((n : Int) < 2) = true := by simp; omega
    have HX := Lib.hid (no hlen HQ1.out (.inl h2))
    clear no hlen h2
    go_enter Tryz.func180, Tryz.ntmps180
    go_wp2_with (go_at_call 201; (with_reducible refine HSP.out.mono ?_); rintro e w2 ⟨rfl, rfl⟩)
    go_ret2
    exact ⟨.inr ⟨HX.out, rfl⟩, HB1.out⟩
  · by_cases h12 : 12 < n
    · have d1 : decide ((n : Int) < 2) = false := by simp; omega
      have d2 : decide ((12 : Int) < (n : Int)) = true := by simp; omega
      have HX := Lib.hid (no hlen HQ1.out (.inr h12))
      clear no hlen h2 h12
      go_enter Tryz.func180, Tryz.ntmps180
      go_wp2_with (go_at_call 201; (with_reducible refine HSP.out.mono ?_); rintro e w2 ⟨rfl, rfl⟩)
      go_ret2
      exact ⟨.inr ⟨HX.out, rfl⟩, HB1.out⟩
    · have d1 : decide ((n : Int) < 2) = false := by simp; omega
      have d2 : decide ((12 : Int) < (n : Int)) = false := by simp; omega
      clear no q3 q4
      go_enter Tryz.func180, Tryz.ntmps180
      go_wp2_with (first | (go_at_call 201; (with_reducible refine HSP.out.mono ?_); rintro e w2 ⟨rfl, rfl⟩) | (at_make; refine wpList_make_full _ rfl _ _ 30 rfl w2.heap.size 3 i0 (.int .i64 0) 1 Tryz.underlying30 hi hz0 hz1 .i64 .i64 (n : Int) (n : Int) n rfl rfl rfl rfl (by rw [hz2]; omega) (by unfold maxLen; omega) (Nat.le_refl _) ?_; intro w3 hown3 hgr3; have HO3 := Lib.hid (int_made n hown3); have HG3 := Lib.hid hgr3; clear hown3 hgr3))
      have HB3 := Lib.hid ((Below.refl w2.heap.size w2).grown HG3.out (Nat.le_refl _) (fun _ e => by cases e))
      clear HSP d1 d2
      go_loopw [25] (fun i wr => ∃ k : Nat, k ≤ n ∧ i = .int .i64 (k : Int) ∧ (∃ A : List Nat, A.length = k ∧ (xs.map (·.data.toList)).take k = A.map Lib.decDigits ∧ (∀ v ∈ A, v ≤ 2147483647) ∧ OwnI wr w2.heap.size (.slice (some ⟨w2.heap.size, 0, none⟩) n n) (A ++ List.replicate (n - A.length) 0)) ∧ Below w2.heap.size w2 wr) (fun i _ => n - (intOf i).toNat)
      case atStart => exact ⟨0, by omega, rfl, ⟨[], rfl, rfl, by simp, by simpa using HO3.out⟩, HB3.out⟩
      case round =>
        obtain ⟨k, hk, rfl, ⟨A, hA, hAQ, hAm, ho⟩, hb⟩ := hrel
        have HO := Lib.hid ho
        have HB := Lib.hid hb
        have HA := Lib.hid hA
        have HAQ := Lib.hid hAQ
        have HAM := Lib.hid hAm
        by_cases hlt : k < n
        · have hd : decide ((k : Int) < (n : Int)) = true := by simp; omega
          have hcx : wr.cell? ⟨w.heap.size, k, none⟩ = some (.string (xs.getD k ⟨#[]⟩)) := by
            rw [← HCL.out k hlt]
            exact hb.cell (by show w.heap.size < w2.heap.size; rw [HS1.out]; omega)
          have HXS := Lib.hid (HSZ.out k hlt)
          have hx : (xs.map (·.data.toList))[k]? = some (xs.getD k ⟨#[]⟩).data.toList := by
            have : k < xs.length := by have := HN.out; omega
            rw [List.getElem?_map, List.getD_eq_getElem?_getD, List.getElem?_eq_getElem this]; rfl
          generalize xs.getD k ⟨#[]⟩ = x at hcx HXS hx
          have HX := Lib.hid hx
          have HLX := Lib.hid (show x.size ≤ 1099511627776 by have := HXS.out; have := HSS.out; omega)
          have hci := int_cell ho (filled_len A n (by omega)) k hlt
          have hcf := int_free ho (filled_len A n (by omega)) k
          clear hA hAQ hAm ho hb hx hlen
          by_cases hv : ∃ v, IsArc x.data.toList v
          · obtain ⟨v, hv⟩ := hv
            have HV := Lib.hid hv
            have hs2 := Lib.hid (int_set HO.out (filled_len A n (by have := HA.out; omega)) k v)
            clear hv
            go_wp2_with (go_at_call 202; (with_reducible refine (arc_yes HV.out _ HLX.out).mono ?_); rintro e w4 ⟨rfl, rfl⟩)
            go_roundw
            case rel =>
              have hAk := HA.out
              have h3 := hs2.out
              subst hAk
              rw [filled_set A n v hlt] at h3
              refine ⟨A.length + 1, by omega, by go_num, ⟨A ++ [v], by simp, ?_, ?_, h3⟩, HB.out.setCell (Nat.le_refl _) _⟩
              · rw [List.take_add_one, HX.out, HAQ.out, List.map_append, HV.out.1]; rfl
              · intro y hy
                rcases List.mem_append.1 hy with hy | hy
                · exact HAM.out y hy
                · obtain rfl : y = v := by simpa using hy
                  exact HV.out.2
            case measure => simp [intOf]; omega
          · have HV := Lib.hid (show ∀ v, ¬ IsArc x.data.toList v from fun v h => hv ⟨v, h⟩)
            clear hv
            go_wp2_with (go_at_call 202; (with_reducible refine (arc_no HV.out _ HLX.out).mono ?_); rintro e w4 ⟨rfl, rfl⟩)
            go_ret2
            refine ⟨.inr ⟨fun a h => ?_, rfl⟩, below_next HB1.out HB.out⟩
            have e := HQ1.out a h
            have hx := HX.out
            rw [e, List.getElem?_map] at hx
            obtain ⟨v, hv1, hv2⟩ : ∃ v, a[k]? = some v ∧ Lib.decDigits v = x.data.toList := by simpa using hx
            exact HV.out v ⟨hv2.symm, h.1.2.2.1 v (List.mem_of_getElem? hv1)⟩
        · have ek : k = n := by omega
          subst ek
          have hAl : A.length = k := hA
          have eAA : A ++ List.replicate (k - A.length) 0 = A := by rw [hA]; simp
          rw [eAA] at HO ho
          have hd : decide ((k : Int) < (k : Int)) = false := by simp
          have hc0 := int_cell ho hAl 0 (by omega)
          have hc1 := int_cell ho hAl 1 (by omega)
          have HQA := Lib.hid (show xs.map (·.data.toList) = A.map Lib.decDigits by rw [← hAQ]; exact (List.take_of_length_le (by rw [hlen]; exact Nat.le_refl _)).symm)
          have HG := Lib.hid (fun h0 h1 => good_of (A := A) (by omega) (by omega) hAm h0 h1)
          have bad : ¬ (¬ 2 < A.getD 0 0 ∧ ¬ (A.getD 0 0 < 2 ∧ 40 ≤ A.getD 1 0)) → ∀ a, ¬ Oid s.data.toList a := by
            intro hn a h
            have e := (HQ1.out a h).symm.trans HQA.out
            have e2 : a = A := by
              have h1 := dec_pieces a
              rw [e, dec_pieces A] at h1
              exact (code_inj fdot_code fdot_ne h1).symm
            subst e2
            obtain ⟨_, _, _, g0, g1⟩ := h.1
            exact hn ⟨by omega, fun ⟨x1, x2⟩ => by have := g1 x1; omega⟩
          have HBAD := Lib.hid bad
          have hm0 : A.getD 0 0 ≤ 2147483647 := by
            rw [List.getD_eq_getElem?_getD, List.getElem?_eq_getElem (by omega)]
            exact hAm _ (List.getElem_mem _)
          have hm1 : A.getD 1 0 ≤ 2147483647 := by
            rw [List.getD_eq_getElem?_getD, List.getElem?_eq_getElem (by omega)]
            exact hAm _ (List.getElem_mem _)
          clear bad hA hAQ hAm ho hb hlen hAl eAA
          obtain ⟨a0, ha0⟩ : ∃ a0, a0 = A.getD 0 0 := ⟨_, rfl⟩
          obtain ⟨a1, ha1⟩ : ∃ a1, a1 = A.getD 1 0 := ⟨_, rfl⟩
          rw [← ha0] at hc0 HG HBAD hm0
          rw [← ha1] at hc1 HG HBAD hm1
          clear ha0 ha1
          by_cases g0 : 2 < a0
          · have e0 : decide ((2 : Int) < (a0 : Int)) = true := by simp; omega
            have HX := Lib.hid (HBAD.out (fun h => h.1 g0))
            clear g0
            go_wp2_with fail
            go_ret2
            exact ⟨.inr ⟨HX.out, rfl⟩, below_next HB1.out HB.out⟩
          · have e0 : decide ((2 : Int) < (a0 : Int)) = false := by simp; omega
            by_cases g1 : a0 < 2
            · have e1 : decide ((a0 : Int) < 2) = true := by simp; omega
              by_cases g2 : 40 ≤ a1
              · have e2 : decide ((40 : Int) ≤ (a1 : Int)) = true := by simp; omega
                have HX := Lib.hid (HBAD.out (fun h => h.2 ⟨g1, g2⟩))
                clear g0 g1 g2
                go_wp2_with fail
                go_ret2
                exact ⟨.inr ⟨HX.out, rfl⟩, below_next HB1.out HB.out⟩
              · have e2 : decide ((40 : Int) ≤ (a1 : Int)) = false := by simp; omega
                have HX := Lib.hid (HG.out g0 (fun h => g2 h.2))
                clear g0 g1 g2
                go_wp2_with fail
                go_ret2
                obtain ⟨g, cap, e, hg, hl, hcp⟩ := HO.out.open HX.out.ne
                refine ⟨.inl ⟨A, g, cap, ⟨HX.out, HQ2.out A HQA.out⟩, by rw [← e]; rfl, hl, ?_, hcp⟩, below_next HB1.out HB.out⟩
                have := HS1.out; omega
            · have e1 : decide ((a0 : Int) < 2) = false := by simp; omega
              have HX := Lib.hid (HG.out g0 (fun h => g1 h.1))
              clear g0 g1
              go_wp2_with fail
              go_ret2
              obtain ⟨g, cap, e, hg, hl, hcp⟩ := HO.out.open HX.out.ne
              refine ⟨.inl ⟨A, g, cap, ⟨HX.out, HQ2.out A HQA.out⟩, by rw [← e]; rfl, hl, ?_, hcp⟩, below_next HB1.out HB.out⟩
              have := HS1.out; omega
end Go.Proofs.YtbpdenfiifcfcaaGreatDoor
namespace Go.Proofs.YtbpdenfiifcfcaaGreatDoor
open Go.RowKit

end Go.Proofs.YtbpdenfiifcfcaaGreatDoor
namespace Go.Proofs.YtbpdenfiifcfcaaGreatDoor
open Go.RowKit

/-- An attribute: its type, its kind, its value. A name: its relative names. -/
abbrev At := ByteArray × Int × ByteArray
abbrev Nm := List (List At)
def atV (a : At) : Value := .agg #[.string a.1, .int .i64 a.2.1, .string a.2.2]
def atCells (a : At) : List Value := [.string a.1, .int .i64 a.2.1, .string a.2.2]
def noAt : At := (⟨#[]⟩, 0, ⟨#[]⟩)

/-! ### The first error of a name -/
noncomputable def oidB (s : ByteArray) : Bool := @decide (∃ a, Oid s.data.toList a) (Classical.propDecidable _)
theorem oidB_yes {s : ByteArray} {a : List Nat} (h : Oid s.data.toList a) : oidB s = true := by unfold oidB; exact @decide_eq_true _ (Classical.propDecidable _) ⟨a, h⟩
theorem oidB_no {s : ByteArray} (h : ∀ a, ¬ Oid s.data.toList a) : oidB s = false := by unfold oidB; exact @decide_eq_false _ (Classical.propDecidable _) (fun ⟨a, k⟩ => h a k)
theorem oidB_true {s : ByteArray} (h : oidB s = true) : ∃ a, Oid s.data.toList a := by unfold oidB at h; exact @of_decide_eq_true _ (Classical.propDecidable _) h
noncomputable def chkA (b : List At) (a : At) : Nat :=
  if oidB a.1 = false then 11 else if a.2.2.size = 0 then 13 else if validB a.2.1 a.2.2.data.toList = false then 13 else if 64 < a.2.2.size then 2 else if b.any (fun x => decide (x.1 = a.1)) = true then 10 else 0
noncomputable def chkL : List At → List At → Nat
  | _, [] => 0
  | b, a :: r => if chkA b a = 0 then chkL (b ++ [a]) r else chkA b a
noncomputable def chkR (r : List At) : Nat := if r.length = 0 then 14 else if 4 < r.length then 2 else chkL [] r
noncomputable def chkRs : Nm → Nat
  | [] => 0
  | r :: n => if chkR r = 0 then chkRs n else chkR r
noncomputable def chkN (n : Nm) : Nat := if 8 < n.length then 2 else chkRs n
theorem dropD {α : Type} (l : List α) (k : Nat) (h : k < l.length) (d : α) : l.drop k = l.getD k d :: l.drop (k + 1) := by
  rw [List.drop_eq_getElem_cons h, List.getD_eq_getElem?_getD, List.getElem?_eq_getElem h]; rfl
theorem takeD {α : Type} (l : List α) (k : Nat) (h : k < l.length) (d : α) : l.take (k + 1) = l.take k ++ [l.getD k d] := by
  rw [List.take_add_one, List.getD_eq_getElem?_getD, List.getElem?_eq_getElem h]; rfl
theorem chkL_step (r : List At) (k : Nat) (h : k < r.length) : chkL (r.take k) (r.drop k) = if chkA (r.take k) (r.getD k noAt) = 0 then chkL (r.take (k + 1)) (r.drop (k + 1)) else chkA (r.take k) (r.getD k noAt) := by
  rw [dropD r k h noAt, takeD r k h noAt]; rfl
theorem chkL_end (r : List At) (b : List At) (k : Nat) (h : r.length ≤ k) : chkL b (r.drop k) = 0 := by
  rw [List.drop_eq_nil_of_le h]; rfl
theorem chkRs_step (n : Nm) (k : Nat) (h : k < n.length) : chkRs (n.drop k) = if chkR (n.getD k []) = 0 then chkRs (n.drop (k + 1)) else chkR (n.getD k []) := by
  rw [dropD n k h []]; rfl
theorem chkRs_end (n : Nm) (k : Nat) (h : n.length ≤ k) : chkRs (n.drop k) = 0 := by
  rw [List.drop_eq_nil_of_le h]; rfl
/-! ### When names match -/
def fa (a : At) : ByteArray × ByteArray := (a.1, foldS a.2.2)
def MatchR (r s : List At) : Prop := r.length = s.length ∧ (∀ x ∈ r, ∃ y ∈ s, fa y = fa x) ∧ (∀ y ∈ s, ∃ x ∈ r, fa x = fa y)
instance (r s : List At) : Decidable (MatchR r s) := by unfold MatchR; infer_instance
theorem MatchR.refl (r : List At) : MatchR r r := ⟨rfl, fun x h => ⟨x, h, rfl⟩, fun x h => ⟨x, h, rfl⟩⟩
theorem MatchR.symm {r s : List At} (h : MatchR r s) : MatchR s r := ⟨h.1.symm, h.2.2, h.2.1⟩
theorem MatchR.trans {r s t : List At} (h : MatchR r s) (k : MatchR s t) : MatchR r t := by
  refine ⟨h.1.trans k.1, fun x hx => ?_, fun x hx => ?_⟩
  · obtain ⟨y, hy, e1⟩ := h.2.1 x hx
    obtain ⟨z, hz, e2⟩ := k.2.1 y hy
    exact ⟨z, hz, e2.trans e1⟩
  · obtain ⟨y, hy, e1⟩ := k.2.2 x hx
    obtain ⟨z, hz, e2⟩ := h.2.2 y hy
    exact ⟨z, hz, e2.trans e1⟩
/-- The relative names of b match the first ones of n. -/
def WithinN (n b : Nm) : Prop := b.length ≤ n.length ∧ ∀ i, i < b.length → MatchR (n.getD i []) (b.getD i [])
def MatchN (n m : Nm) : Prop := n.length = m.length ∧ ∀ i, i < n.length → MatchR (n.getD i []) (m.getD i [])
instance (n b : Nm) : Decidable (WithinN n b) := by unfold WithinN; infer_instance
instance (n b : Nm) : Decidable (MatchN n b) := by unfold MatchN; infer_instance
theorem MatchN.refl (n : Nm) : MatchN n n := ⟨rfl, fun _ _ => MatchR.refl _⟩
theorem MatchN.symm {n m : Nm} (h : MatchN n m) : MatchN m n := ⟨h.1.symm, fun i hi => (h.2 i (by rw [h.1]; exact hi)).symm⟩
theorem MatchN.within {n m : Nm} (h : MatchN n m) : WithinN n m := ⟨Nat.le_of_eq h.1.symm, fun i hi => h.2 i (by rw [h.1]; exact hi)⟩
theorem WithinN.trans {a b c : Nm} (h : WithinN a b) (k : WithinN b c) : WithinN a c := ⟨Nat.le_trans k.1 h.1, fun i hi => (h.2 i (Nat.lt_of_lt_of_le hi k.1)).trans (k.2 i hi)⟩
theorem getD_take {α : Type} (l : List α) (k i : Nat) (h : i < k) (d : α) : (l.take k).getD i d = l.getD i d := by
  rw [List.getD_eq_getElem?_getD, List.getD_eq_getElem?_getD, List.getElem?_take_of_lt h]
theorem within_take (n b : Nm) (h : b.length ≤ n.length) : WithinN n b ↔ MatchN (n.take b.length) b := by
  have e : (n.take b.length).length = b.length := by rw [List.length_take]; omega
  constructor
  · intro k
    exact ⟨e, fun i hi => by rw [e] at hi; rw [getD_take _ _ _ hi]; exact k.2 i hi⟩
  · intro k
    exact ⟨h, fun i hi => by have := k.2 i (by rw [e]; exact hi); rw [getD_take _ _ _ hi] at this; exact this⟩
end Go.Proofs.YtbpdenfiifcfcaaGreatDoor
namespace Go.Proofs.YtbpdenfiifcfcaaGreatDoor
open Go.RowKit

theorem block_lt {w : World} {b o : Nat} {v : Value} (h : w.cell? ⟨b, o, none⟩ = some v) : b < w.heap.size := World.block_lt_of_cell? _ _ h
/-- At the address lie the attributes l. -/
def ALies (w : World) (a : Option Addr) (l : List At) : Prop :=
  l = [] ∨ ∃ b o, a = some ⟨b, o, none⟩ ∧ ∀ i, i < l.length → w.cell? ⟨b, o + i * 3, none⟩ = some (.string (l.getD i noAt).1) ∧ w.cell? ⟨b, o + i * 3 + 1, none⟩ = some (.int .i64 (l.getD i noAt).2.1) ∧ w.cell? ⟨b, o + i * 3 + 2, none⟩ = some (.string (l.getD i noAt).2.2)
theorem ALies.nil (w : World) (a : Option Addr) : ALies w a [] := .inl rfl
theorem ALies.below {w w' : World} {a : Option Addr} {l : List At} (h : ALies w a l) (hb : Below w.heap.size w w') : ALies w' a l := by
  rcases h with h | ⟨b, o, h1, h2⟩
  · exact .inl h
  · refine .inr ⟨b, o, h1, fun i hi => ?_⟩
    obtain ⟨c0, c1, c2⟩ := h2 i hi
    exact ⟨(hb.cell (block_lt c0)).trans c0, (hb.cell (block_lt c1)).trans c1, (hb.cell (block_lt c2)).trans c2⟩
theorem ALies.take {w : World} {a : Option Addr} {l : List At} (h : ALies w a l) (k : Nat) : ALies w a (l.take k) := by
  rcases h with h | ⟨b, o, h1, h2⟩
  · exact .inl (by rw [h]; simp)
  · refine .inr ⟨b, o, h1, fun i hi => ?_⟩
    rw [List.length_take] at hi
    rw [getD_take _ _ _ (by omega)]
    exact h2 i (by omega)
theorem ALies.at {w : World} {a : Option Addr} {l : List At} (h : ALies w a l) (k : Nat) (hk : k < l.length) : ∃ b o, a = some ⟨b, o, none⟩ ∧ b < w.heap.size ∧
    w.cell? ⟨b, o + k * 3, none⟩ = some (.string (l.getD k noAt).1) ∧ w.cell? ⟨b, o + k * 3 + 1, none⟩ = some (.int .i64 (l.getD k noAt).2.1) ∧ w.cell? ⟨b, o + k * 3 + 2, none⟩ = some (.string (l.getD k noAt).2.2) := by
  rcases h with h | ⟨b, o, h1, h2⟩
  · rw [h] at hk; exact absurd hk (Nat.not_lt_zero _)
  · obtain ⟨c0, c1, c2⟩ := h2 k hk
    exact ⟨b, o, h1, block_lt c0, c0, c1, c2⟩
/-- At the address lie the relative names n. -/
def RLies (w : World) (a : Option Addr) (n : Nm) : Prop :=
  n = [] ∨ ∃ b o, a = some ⟨b, o, none⟩ ∧ ∀ i, i < n.length → ∃ a' c', w.cell? ⟨b, o + i, none⟩ = some (.slice a' (n.getD i []).length c') ∧ (n.getD i []).length ≤ c' ∧ ALies w a' (n.getD i [])
theorem RLies.nil (w : World) (a : Option Addr) : RLies w a [] := .inl rfl
theorem RLies.below {w w' : World} {a : Option Addr} {n : Nm} (h : RLies w a n) (hb : Below w.heap.size w w') : RLies w' a n := by
  rcases h with h | ⟨b, o, h1, h2⟩
  · exact .inl h
  · refine .inr ⟨b, o, h1, fun i hi => ?_⟩
    obtain ⟨a', c', q1, q3, q2⟩ := h2 i hi
    exact ⟨a', c', (hb.cell (block_lt q1)).trans q1, q3, q2.below hb⟩
theorem RLies.take {w : World} {a : Option Addr} {n : Nm} (h : RLies w a n) (k : Nat) : RLies w a (n.take k) := by
  rcases h with h | ⟨b, o, h1, h2⟩
  · exact .inl (by rw [h]; simp)
  · refine .inr ⟨b, o, h1, fun i hi => ?_⟩
    rw [List.length_take] at hi
    rw [getD_take _ _ _ (by omega)]
    exact h2 i (by omega)
theorem RLies.at {w : World} {a : Option Addr} {n : Nm} (h : RLies w a n) (k : Nat) (hk : k < n.length) : ∃ b o, a = some ⟨b, o, none⟩ ∧ b < w.heap.size ∧
    ∃ a' c', w.cell? ⟨b, o + k, none⟩ = some (.slice a' (n.getD k []).length c') ∧ (n.getD k []).length ≤ c' ∧ ALies w a' (n.getD k []) := by
  rcases h with h | ⟨b, o, h1, h2⟩
  · rw [h] at hk; exact absurd hk (Nat.not_lt_zero _)
  · obtain ⟨a', c', q1, q3, q2⟩ := h2 k hk
    exact ⟨b, o, h1, block_lt q1, a', c', q1, q3, q2⟩
/-- The struct value v is the name n. -/
def NameV (w : World) (v : Value) (n : Nm) : Prop := ∃ a c, v = .agg #[.slice a n.length c] ∧ n.length ≤ c ∧ RLies w a n
theorem NameV.below {w w' : World} {v : Value} {n : Nm} (h : NameV w v n) (hb : Below w.heap.size w w') : NameV w' v n := by
  obtain ⟨a, c, h1, h3, h2⟩ := h
  exact ⟨a, c, h1, h3, h2.below hb⟩

/-! ### Slices of a call's own -/
def atsCells (l : List At) : List Value := l.flatMap atCells
theorem atsCells_length (l : List At) : (atsCells l).length = l.length * 3 := by
  induction l with
  | nil => rfl
  | cons e r ih => simp only [atsCells, List.flatMap_cons, List.length_append] at ih ⊢; rw [ih]; simp [atCells]; omega
theorem atsCells_snoc (l : List At) (e : At) : atsCells (l ++ [e]) = atsCells l ++ atCells e := by simp [atsCells]
theorem atsCells_append (l r : List At) : atsCells (l ++ r) = atsCells l ++ atsCells r := by simp [atsCells]
theorem ats_at (l : List At) (i : Nat) (hi : i < l.length) (j : Nat) (hj : j < 3) : (atsCells l)[i * 3 + j]? = (atCells (l.getD i noAt))[j]? := by
  induction l generalizing i with
  | nil => exact absurd hi (Nat.not_lt_zero _)
  | cons e r ih =>
    have e0 : atsCells (e :: r) = atCells e ++ atsCells r := rfl
    have el : (atCells e).length = 3 := rfl
    rw [e0]
    cases i with
    | zero => rw [List.getElem?_append_left (by omega)]; simp
    | succ i =>
      rw [List.getElem?_append_right (by omega), el, show (i + 1) * 3 + j - 3 = i * 3 + j by omega, ih i (by simpa using hi)]
      rfl
theorem atCells_one (e : At) : ∀ u ∈ atCells e, u.oneCell' = true := by
  intro u hu
  simp only [atCells, List.mem_cons, List.not_mem_nil, or_false] at hu
  rcases hu with rfl | rfl | rfl <;> rfl
theorem atsCells_one (l : List At) : ∀ u ∈ atsCells l, u.oneCell' = true := by
  intro u hu
  obtain ⟨e, _, h⟩ := List.mem_flatMap.1 hu
  exact atCells_one e u h
theorem atInfo : (Tryz.prog.info? 86).map (fun i => (i.zero, i.size, i.bytes)) = some (some (.agg #[.string ⟨#[]⟩, .int .i64 0, .string ⟨#[]⟩]), 3, 40) := by kernel_rfl
/-- The slice value v, of memory from block B on, holds the attributes l. -/
def OwnA (w : World) (B : Nat) (v : Value) (l : List At) : Prop := w.ownsRow B 86 3 v l.length (atsCells l)
theorem OwnA.nil (w : World) (B : Nat) : OwnA w B (.slice none 0 0) [] := World.ownsRow_nil _ _ _ _
theorem OwnA.below {w w' : World} {B : Nat} {v : Value} {l : List At} (h : OwnA w B v l) (hb : Below w.heap.size w w') : OwnA w' B v l := own_below h hb
theorem OwnA.lies {w : World} {B : Nat} {v : Value} {l : List At} (h : OwnA w B v l) : ∃ a c, v = .slice a l.length c ∧ l.length ≤ c ∧ ALies w a l := by
  have hh := h
  rcases h.2 with ⟨hv, h0⟩ | ⟨g, cap, cur, hv, _, _, hcap, _⟩
  · exact ⟨none, 0, by rw [hv, h0], by omega, .inl (List.eq_nil_of_length_eq_zero h0)⟩
  · refine ⟨_, cap, hv, hcap, .inr ⟨g, 0, rfl, fun i hi => ?_⟩⟩
    unfold OwnA at hh
    rw [hv] at hh
    have q : ∀ j, j < 3 → w.cell? ⟨g, i * 3 + j, none⟩ = (atCells (l.getD i noAt))[j]? := fun j hj => by
      rw [World.ownsRow.cellAt hh (i * 3 + j) (by omega)]
      exact ats_at l i hi j hj
    rw [Nat.zero_add]
    exact ⟨q 0 (by omega), q 1 (by omega), q 2 (by omega)⟩
/-- The slice value v, of memory from block B on, holds the relative names n, each in memory of its own. -/
def OwnN (w : World) (B : Nat) (v : Value) (n : Nm) : Prop := ∃ vs : List Value, vs.length = n.length ∧ w.ownsRow B 84 1 v n.length vs ∧ ∀ i, i < n.length → OwnA w B (vs.getD i (.slice none 0 0)) (n.getD i [])
theorem OwnN.nil (w : World) (B : Nat) : OwnN w B (.slice none 0 0) [] := ⟨[], rfl, World.ownsRow_nil _ _ _ _, fun _ hi => absurd hi (Nat.not_lt_zero _)⟩
theorem OwnN.below {w w' : World} {B : Nat} {v : Value} {n : Nm} (h : OwnN w B v n) (hb : Below w.heap.size w w') : OwnN w' B v n := by
  obtain ⟨vs, h1, h2, h3⟩ := h
  exact ⟨vs, h1, own_below h2 hb, fun i hi => (h3 i hi).below hb⟩
theorem OwnN.lies {w : World} {B : Nat} {v : Value} {n : Nm} (h : OwnN w B v n) : ∃ a c, v = .slice a n.length c ∧ n.length ≤ c ∧ RLies w a n := by
  obtain ⟨vs, h1, h2, h3⟩ := h
  have hh := h2
  rcases h2.2 with ⟨hv, h0⟩ | ⟨g, cap, cur, hv, _, _, hcap, _⟩
  · exact ⟨none, 0, by rw [hv, h0], by omega, .inl (List.eq_nil_of_length_eq_zero h0)⟩
  · refine ⟨_, cap, hv, hcap, .inr ⟨g, 0, rfl, fun i hi => ?_⟩⟩
    rw [hv] at hh
    obtain ⟨a', c', e, q3, q⟩ := (h3 i hi).lies
    refine ⟨a', c', ?_, q3, q⟩
    rw [Nat.zero_add, World.ownsRow.cellAt hh i (by omega), ← e, List.getD_eq_getElem?_getD, List.getElem?_eq_getElem (by omega)]
    rfl
/-- Rows of different types share no block. -/
theorem rows_apart {w : World} {B B' : Nat} {e e' : TypeId} {k k' n n' : Nat} {v v' : Value} {xs xs' : List Value} (h : w.ownsRow B e k v n xs) (h' : w.ownsRow B' e' k' v' n' xs') (hne : e ≠ e') : v.ownBlock = none ∨ v.ownBlock ≠ v'.ownBlock := by
  rcases h.2 with ⟨hv, _⟩ | ⟨g, cap, cur, hv, _, hg, _⟩
  · exact .inl (by rw [hv]; rfl)
  · rcases h'.2 with ⟨hv', _⟩ | ⟨g', cap', cur', hv', _, hg', _⟩
    · exact .inr (by rw [hv, hv']; simp [Value.ownBlock])
    · refine .inr (fun e1 => ?_)
      rw [hv, hv'] at e1
      simp [Value.ownBlock] at e1
      subst e1
      rw [hg] at hg'
      simp at hg'
      exact hne hg'.2
/-- A row of attributes is kept while a slice of relative names grows. -/
theorem OwnA.kept {w w' : World} {B B' k n : Nat} {v u : Value} {l : List At} {xs : List Value} (h : OwnA w B u l) (ho : w.ownsRow B' 84 k v n xs) (hg : w.grownBy w' v.ownBlock) : OwnA w' B u l :=
  World.ownsRow.kept h hg (rows_apart h ho (by decide))
theorem getD_snoc_lt {α : Type} (l : List α) (x d : α) (i : Nat) (h : i < l.length) : (l ++ [x]).getD i d = l.getD i d := by
  rw [List.getD_eq_getElem?_getD, List.getD_eq_getElem?_getD, List.getElem?_append_left h]
theorem getD_snoc_eq {α : Type} (l : List α) (x d : α) : (l ++ [x]).getD l.length d = x := by
  rw [List.getD_eq_getElem?_getD, List.getElem?_append_right (Nat.le_refl _)]; simp
/-- One relative name more. -/
theorem OwnN.snoc {w w' : World} {B : Nat} {v v' u : Value} {n : Nm} {r : List At} {vs : List Value} (h1 : vs.length = n.length) (h2 : w.ownsRow B 84 1 v n.length vs) (h3 : ∀ i, i < n.length → OwnA w B (vs.getD i (.slice none 0 0)) (n.getD i []))
    (hr : OwnA w B u r) (hg : w.grownBy w' v.ownBlock) (h4 : w'.ownsRow B 84 1 v' (n.length + 1) (vs ++ [u])) : OwnN w' B v' (n ++ [r]) := by
  refine ⟨vs ++ [u], by simp [h1], by rw [List.length_append]; exact h4, fun i hi => ?_⟩
  by_cases hlt : i < n.length
  · rw [getD_snoc_lt _ _ _ _ (by omega), getD_snoc_lt _ _ _ _ hlt]
    exact (h3 i hlt).kept h2 hg
  · rw [List.length_append, List.length_singleton] at hi
    obtain rfl : i = n.length := by omega
    rw [getD_snoc_eq, ← h1, getD_snoc_eq]
    exact hr.kept h2 hg
theorem OwnA.base {w : World} {B B' : Nat} {v : Value} {l : List At} (h : OwnA w B v l) (hB : B' ≤ B) : OwnA w B' v l := own_base h hB
theorem OwnN.base {w : World} {B B' : Nat} {v : Value} {n : Nm} (h : OwnN w B v n) (hB : B' ≤ B) : OwnN w B' v n := by
  obtain ⟨vs, h1, h2, h3⟩ := h
  exact ⟨vs, h1, own_base h2 hB, fun i hi => (h3 i hi).base hB⟩
/-- A struct that holds a name of a call's own. -/
def OwnV (w : World) (B : Nat) (v : Value) (n : Nm) : Prop := ∃ s, v = .agg #[s] ∧ OwnN w B s n
theorem OwnV.name {w : World} {B : Nat} {v : Value} {n : Nm} (h : OwnV w B v n) : NameV w v n := by
  obtain ⟨s, rfl, h⟩ := h
  obtain ⟨a, c, rfl, h3, h2⟩ := h.lies
  exact ⟨a, c, rfl, h3, h2⟩
end Go.Proofs.YtbpdenfiifcfcaaGreatDoor
namespace Go.Proofs.YtbpdenfiifcfcaaGreatDoor
open Go.RowKit

/-- What a call that found the numbers a answers. -/
def Found (a : List Nat) (B : Nat) (w' : World) (e : Ending) : Prop := ∃ g cap, e = .returned (.tuple #[.slice (some ⟨g, 0, none⟩) a.length cap, .bool true]) ∧ ILie w' g a ∧ B ≤ g ∧ a.length ≤ cap
theorem found_of {l : List UInt8} {a : List Nat} (h : Oid l a) {B : Nat} {w' : World} {e : Ending} (k : Arcsd l B w' e) : Found a B w' e := by
  rcases k with ⟨b, g, cap, h1, h2, h3, h4, h5⟩ | ⟨h1, _⟩
  · obtain rfl := oid_one h h1
    exact ⟨g, cap, h2, h3, h4, h5⟩
  · exact absurd h (h1 a)
theorem lost_of {l : List UInt8} (h : ∀ a, ¬ Oid l a) {B : Nat} {w' : World} {e : Ending} (k : Arcsd l B w' e) : e = .returned (.tuple #[.slice none 0 0, .bool false]) := by
  rcases k with ⟨b, g, cap, h1, _⟩ | ⟨_, h2⟩
  · exact absurd h1 (h b)
  · exact h2
theorem arcs_yes {s : ByteArray} {a : List Nat} (h : Oid s.data.toList a) (w : World) (hs : s.size ≤ 1099511627) :
    Calls Tryz.prog 180 #[.string s] w fun e w' => Found a w.heap.size w' e ∧ Below w.heap.size w w' :=
  (arcsOf_any s w hs).mono fun _ _ ⟨h1, h2⟩ => ⟨found_of h h1, h2⟩
theorem arcs_no {s : ByteArray} (h : ∀ a, ¬ Oid s.data.toList a) (w : World) (hs : s.size ≤ 1099511627) :
    Calls Tryz.prog 180 #[.string s] w fun e w' => e = .returned (.tuple #[.slice none 0 0, .bool false]) ∧ Below w.heap.size w w' :=
  (arcsOf_any s w hs).mono fun _ _ ⟨h1, h2⟩ => ⟨lost_of h h1, h2⟩
theorem valid_yes {s : ByteArray} {a : List Nat} (h : Oid s.data.toList a) (w : World) (hs : s.size ≤ 1099511627) :
    Calls Tryz.prog 157 #[.string s] w fun e w' => e = .returned (.bool true) ∧ Below w.heap.size w w' := by
  go_enter Tryz.func157, Tryz.ntmps157
  go_wp2_with (go_at_call 180; (with_reducible refine (arcs_yes h _ hs).mono ?_); rintro e w1 ⟨⟨g, cap, rfl, hl, hg, hcp⟩, hb1⟩; have HB1 := Lib.hid hb1; clear hb1 hl hg hcp)
  go_ret
  exact ⟨rfl, HB1.out⟩
theorem valid_no {s : ByteArray} (h : ∀ a, ¬ Oid s.data.toList a) (w : World) (hs : s.size ≤ 1099511627) :
    Calls Tryz.prog 157 #[.string s] w fun e w' => e = .returned (.bool false) ∧ Below w.heap.size w w' := by
  have HH := Lib.hid h
  clear h
  go_enter Tryz.func157, Tryz.ntmps157
  go_wp2_with (go_at_call 180; (with_reducible refine (arcs_no HH.out _ hs).mono ?_); rintro e w1 ⟨rfl, hb1⟩; have HB1 := Lib.hid hb1; clear hb1)
  go_ret
  exact ⟨rfl, HB1.out⟩
/-- Whether a text is an object identifier. -/
theorem oid_or (l : List UInt8) : (∃ a, Oid l a) ∨ ∀ a, ¬ Oid l a := (Classical.em _).imp id fun h a k => h ⟨a, k⟩
end Go.Proofs.YtbpdenfiifcfcaaGreatDoor
