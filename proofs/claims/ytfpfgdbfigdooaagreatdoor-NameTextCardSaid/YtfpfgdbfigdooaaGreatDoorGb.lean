/-
Names as texts: what is written is read, and the name that is read matches. Nothing is claimed of the program here.
The contracts of shortOf, of slices.Clone and slices.SortFunc over attributes, and of formatRelative.
-/
import Derived.Test.YtfpfgdbfigdooaaGreatDoorEbh
import Derived.Test.YtfpfgdbfigdooaaGreatDoorFa
import Derived.Test.YtfpfgdbfigdooaaGreatDoorGa
import Derived.Test.YtfpfgdbfigdooaaGreatDoorEaj
import Derived.Test.YtfpfgdbfigdooaaGreatDoorEao
import Derived.Lib.SliceRun
namespace Go.Proofs.YtfpfgdbfigdooaaGreatDoor
open Go.RowKit

/-! ### What is written -/
def shortO (x : ByteArray) : ByteArray := match SH.find? (fun p => decide (p.2 = x)) with | some p => p.1 | none => x
def fmtA (a : At) : ByteArray := strOf ((shortO a.1).data.toList ++ 61 :: escL a.2.2.data.toList)
noncomputable def fmtR (r : List At) : ByteArray := strOf (Lib.join (((sortR r).map fmtA).map (·.data.toList)) [43])
noncomputable def fmtN (n : Nm) : ByteArray := strOf (Lib.join ((n.map fmtR).map (·.data.toList)) [44])
theorem sh_chars_all : (SH.all fun p => p.1.data.toList.all fun c => c != 43 && c != 44 && c != 61) = true := by decide +kernel
theorem sh_back_all : (SH.all fun p => decide (SH.find? (fun q => decide (q.1 = p.1)) = some p)) = true := by decide +kernel
theorem short_free {x : ByteArray} (h : oidB x = true) {c : UInt8} (hc : c = 43 ∨ c = 44 ∨ c = 61) : c ∉ (shortO x).data.toList := by
  unfold shortO
  cases hf : SH.find? (fun p => decide (p.2 = x)) with
  | none => exact oid_free h hc
  | some p =>
    intro hm
    have h1 := List.all_eq_true.1 sh_chars_all p (List.mem_of_find?_eq_some hf)
    have h2 := List.all_eq_true.1 h1 c hm
    rcases hc with rfl | rfl | rfl <;> simp at h2
theorem sh_letter_all : (SH.all fun p => p.1.data.toList.all fun c => c != 46 && decide (57 < c.toNat)) = true := by decide +kernel
theorem sh_len_all : (SH.all fun p => decide (0 < p.1.data.toList.length)) = true := by decide +kernel
theorem oid_no_short {x : ByteArray} (h : oidB x = true) : SH.find? (fun p => decide (p.1 = x)) = none := by
  rw [List.find?_eq_none]
  intro p hp e
  have e1 : p.1 = x := of_decide_eq_true e
  have h1 := List.all_eq_true.1 sh_letter_all p hp
  have h2 : 0 < p.1.data.toList.length := of_decide_eq_true (List.all_eq_true.1 sh_len_all p hp)
  obtain ⟨c, hc⟩ := List.exists_mem_of_length_pos h2
  have h3 := List.all_eq_true.1 h1 c hc
  rw [e1] at hc
  rcases oid_chars h c hc with e2 | e2
  · subst e2; simp at h3
  · unfold isDig at e2
    simp at h3
    omega
/-- The type that is written as a word is that type. -/
theorem typ_short {x : ByteArray} (h : oidB x = true) : typ (shortO x) = (x, true) := by
  unfold shortO
  cases hf : SH.find? (fun p => decide (p.2 = x)) with
  | none =>
    show typ x = _
    unfold typ
    rw [oid_no_short h, h]
  | some p =>
    have h1 : p.2 = x := of_decide_eq_true (by simpa using List.find?_some hf)
    have h2 : SH.find? (fun q => decide (q.1 = p.1)) = some p := of_decide_eq_true (List.all_eq_true.1 sh_back_all p (List.mem_of_find?_eq_some hf))
    show typ p.1 = _
    unfold typ
    rw [h2, ← h1]

/-! ### What is read -/
theorem extract_list (b : ByteArray) (i j : Nat) : (b.extract i j).data.toList = (b.data.toList.drop i).take (j - i) := by
  rw [ByteArray.data_extract, Array.toList_extract, List.extract_eq_take_drop]
def reK (a : At) : At := (a.1, kindV a.1 a.2.2, a.2.2)
theorem index_at {p q : List UInt8} {c : UInt8} (h : c ∉ p) : Lib.indexByte (p ++ c :: q) c = (p.length : Int) := by
  rcases index_cases (p ++ c :: q) c with ⟨_, h2⟩ | ⟨i, h1, _⟩
  · exact absurd (List.mem_append_right _ List.mem_cons_self) h2
  · obtain ⟨h3, h4⟩ := first_cut h1
    obtain ⟨h5, _⟩ := cutc h h4 h3
    rw [h1]
    have h6 : p.length = ((p ++ c :: q).take i).length := by rw [← h5]
    rw [List.length_take] at h6
    have h7 : i < (p ++ c :: q).length := by assumption
    omega
theorem prs_fmt {a : At} (h : okA a) : prsA (fmtA a) = some (reK a) := by
  have hi : Lib.indexByte (fmtA a).data.toList 61 = ((shortO a.1).data.toList.length : Int) := index_at (short_free h.1 (.inr (.inr rfl)))
  have hL : (fmtA a).data.toList = (shortO a.1).data.toList ++ 61 :: escL a.2.2.data.toList := rfl
  have hz : (fmtA a).size = (shortO a.1).data.toList.length + (escL a.2.2.data.toList).length + 1 := by
    have : (fmtA a).size = (fmtA a).data.toList.length := rfl
    rw [this, hL, List.length_append, List.length_cons]; omega
  have e1 : (fmtA a).extract 0 (shortO a.1).data.toList.length = shortO a.1 := by
    apply ext_list_t
    rw [extract_list, hL]
    simp
  have e2 : ((fmtA a).extract ((shortO a.1).data.toList.length + 1) (fmtA a).size).data.toList = escL a.2.2.data.toList := by
    rw [extract_list, hz, hL, List.drop_append]
    rw [List.drop_of_length_le (by omega)]
    rw [show (shortO a.1).data.toList.length + 1 - (shortO a.1).data.toList.length = 1 by omega]
    simp only [List.drop_one, List.tail_cons, List.nil_append]
    exact List.take_of_length_le (by omega)
  unfold prsA
  rw [hi, if_neg (by omega), Int.toNat_natCast, e1, e2, typ_short h.1, une_some rfl]
  rfl
theorem all_map {β γ δ : Type} {f : β → Option γ} {g : δ → β} {k : δ → γ} : ∀ {l : List δ}, (∀ x ∈ l, f (g x) = some (k x)) → allO f (l.map g) = some (l.map k)
  | [], _ => rfl
  | x :: l, h => by
    rw [List.map_cons, allO, h x List.mem_cons_self]
    simp only []
    rw [all_map (fun y hy => h y (List.mem_cons_of_mem _ hy))]
    rfl
theorem map_list_inj : ∀ {L M : List ByteArray}, L.map (·.data.toList) = M.map (·.data.toList) → L = M
  | [], [], _ => rfl
  | [], _ :: _, h => by cases h
  | _ :: _, [], h => by cases h
  | x :: L, y :: M, h => by
    rw [List.map_cons, List.map_cons] at h
    obtain ⟨h1, h2⟩ := List.cons.inj h
    rw [ext_list_t h1, map_list_inj h2]
theorem fmtA_free {a : At} (h : okA a) {c : UInt8} (hc : c = 43 ∨ c = 44) : c ∉ (fmtA a).data.toList := by
  intro hm
  rcases List.mem_append.1 (show c ∈ (shortO a.1).data.toList ++ 61 :: escL a.2.2.data.toList from hm) with hm | hm
  · exact short_free h.1 (by rcases hc with rfl | rfl <;> decide) hm
  · rcases List.mem_cons.1 hm with e | hm
    · rcases hc with rfl | rfl <;> revert e <;> decide
    · exact escL_free (by rcases hc with rfl | rfl <;> decide) hm
theorem okA_sort {r : List At} (h : okR r) : ∀ a ∈ sortR r, okA a := fun a ha => h.2.1 a ((sortR_perm r).mem_iff.1 ha)
theorem prs_fmtR {r : List At} (h : okR r) : prsR (fmtR r) = some ((sortR r).map reK) := by
  have hs : Spl 43 (fmtR r).data.toList (((sortR r).map fmtA).map (·.data.toList)) := by
    refine ⟨fun e => ?_, rfl, fun p hp => ?_⟩
    · have e1 := congrArg List.length e
      rw [List.length_map, List.length_map, (sortR_perm r).length_eq, List.length_nil] at e1
      have := h.1
      omega
    · obtain ⟨s, hs, rfl⟩ := List.mem_map.1 hp
      obtain ⟨a, ha, rfl⟩ := List.mem_map.1 hs
      exact fmtA_free (okA_sort h a ha) (.inl rfl)
  unfold prsR
  rw [map_list_inj (spl_inj (pcsS_spl 43 (fmtR r)) hs)]
  exact all_map (fun a ha => prs_fmt (okA_sort h a ha))
theorem fmtR_comma {r : List At} (h : okR r) : (44 : UInt8) ∉ (fmtR r).data.toList := by
  intro hm
  rcases mem_join (show (44 : UInt8) ∈ Lib.join (((sortR r).map fmtA).map (·.data.toList)) [43] from hm) with e | ⟨p, hp, hc⟩
  · revert e; decide
  · obtain ⟨s, hs, rfl⟩ := List.mem_map.1 hp
    obtain ⟨a, ha, rfl⟩ := List.mem_map.1 hs
    exact fmtA_free (okA_sort h a ha) (.inr rfl) hc
theorem fmtR_eq {r : List At} (h : okR r) : (61 : UInt8) ∈ (fmtR r).data.toList := by
  have hl : 0 < (sortR r).length := by rw [(sortR_perm r).length_eq]; exact h.1
  obtain ⟨a, ha⟩ := List.exists_mem_of_length_pos hl
  refine join_mem (p := (fmtA a).data.toList) (List.mem_map.2 ⟨fmtA a, List.mem_map.2 ⟨a, ha, rfl⟩, rfl⟩) ?_
  exact List.mem_append_right _ List.mem_cons_self
theorem prs_fmtN {n : Nm} (h : ∀ r ∈ n, okR r) : prsN (fmtN n) = some (n.map fun r => (sortR r).map reK) := by
  unfold prsN
  cases n with
  | nil => rfl
  | cons r n =>
    have hs : Spl 44 (fmtN (r :: n)).data.toList (((r :: n).map fmtR).map (·.data.toList)) := by
      refine ⟨by simp, rfl, fun p hp => ?_⟩
      obtain ⟨s, hs, rfl⟩ := List.mem_map.1 hp
      obtain ⟨a, ha, rfl⟩ := List.mem_map.1 hs
      exact fmtR_comma (h a ha)
    have h0 : (fmtN (r :: n)).size ≠ 0 := by
      intro e
      have hm : (61 : UInt8) ∈ (fmtN (r :: n)).data.toList := join_mem (p := (fmtR r).data.toList) (List.mem_map.2 ⟨fmtR r, List.mem_map.2 ⟨r, List.mem_cons_self, rfl⟩, rfl⟩) (fmtR_eq (h r List.mem_cons_self))
      rw [List.length_eq_zero_iff.1 (show (fmtN (r :: n)).data.toList.length = 0 from e)] at hm
      cases hm
    rw [if_neg h0, map_list_inj (spl_inj (pcsS_spl 44 (fmtN (r :: n))) hs)]
    exact all_map (fun r hr => prs_fmtR (h r hr))
theorem match_re (n : Nm) : MatchN n (n.map fun r => (sortR r).map reK) := by
  refine ⟨(List.length_map _).symm, fun i hi => ?_⟩
  rw [getD_mem hi _, getD_mem (by rw [List.length_map]; exact hi) _, List.getElem_map]
  refine ⟨by rw [List.length_map, (sortR_perm _).length_eq], fun x hx => ?_, fun y hy => ?_⟩
  · exact ⟨reK x, List.mem_map.2 ⟨x, (sortR_perm _).mem_iff.2 hx, rfl⟩, rfl⟩
  · obtain ⟨x, hx, rfl⟩ := List.mem_map.1 hy
    exact ⟨x, (sortR_perm _).mem_iff.1 hx, rfl⟩
end Go.Proofs.YtfpfgdbfigdooaaGreatDoor
namespace Go.Proofs.YtfpfgdbfigdooaaGreatDoor
open Go.RowKit

/-! ### shortOf -/
theorem find_first2 {x : ByteArray} {d : ByteArray × ByteArray} : ∀ (l : List (ByteArray × ByteArray)) (k : Nat), k < l.length → (∀ j, j < k → (l.getD j d).2 ≠ x) → (l.getD k d).2 = x → l.find? (fun p => decide (p.2 = x)) = some (l.getD k d)
  | [], k, h, _, _ => absurd h (Nat.not_lt_zero _)
  | p :: l, 0, _, _, h => by
    rw [List.find?_cons_of_pos (by simpa using h)]; rfl
  | p :: l, k + 1, h, h1, h2 => by
    rw [List.find?_cons_of_neg (by simpa using h1 0 (by omega)), find_first2 (d := d) l k (by simpa using h) (fun j hj => by simpa using h1 (j + 1) (by omega)) (by simpa using h2)]
    simp
theorem find_no2 {x : ByteArray} {d : ByteArray × ByteArray} {l : List (ByteArray × ByteArray)} (h : ∀ j, j < l.length → (l.getD j d).2 ≠ x) : l.find? (fun p => decide (p.2 = x)) = none := by
  rw [List.find?_eq_none]
  intro p hp
  obtain ⟨j, hj, rfl⟩ := List.getElem_of_mem hp
  have := h j hj
  rw [List.getD_eq_getElem?_getD, List.getElem?_eq_getElem hj] at this
  simpa using this
theorem short_hit {x : ByteArray} (k : Nat) (hk : k < 7) (h1 : ∀ j, j < k → (SH.getD j (⟨#[]⟩, ⟨#[]⟩)).2 ≠ x) (h2 : (SH.getD k (⟨#[]⟩, ⟨#[]⟩)).2 = x) : shortO x = (SH.getD k (⟨#[]⟩, ⟨#[]⟩)).1 := by
  unfold shortO
  rw [find_first2 SH k hk h1 h2]
theorem short_miss {x : ByteArray} (h : ∀ j, j < 7 → (SH.getD j (⟨#[]⟩, ⟨#[]⟩)).2 ≠ x) : shortO x = x := by
  unfold shortO
  rw [find_no2 (l := SH) h]

set_option maxRecDepth 100000 in
set_option maxHeartbeats 4000000 in
theorem shortO_any (x : ByteArray) (w : World) (h : ShT w) :
    Calls Tryz.prog 84 #[.string x] w fun e w' => e = .returned (.string (shortO x)) ∧ Below w.heap.size w w' := by
  have c0 : w.cell? ⟨0, 0, none⟩ = some (.string ⟨#[67, 78]⟩) := h 0 (by omega)
  have c1 : w.cell? ⟨0, 1, none⟩ = some (.string ⟨#[50, 46, 53, 46, 52, 46, 51]⟩) := h 1 (by omega)
  have c2 : w.cell? ⟨0, 2, none⟩ = some (.string ⟨#[67]⟩) := h 2 (by omega)
  have c3 : w.cell? ⟨0, 3, none⟩ = some (.string ⟨#[50, 46, 53, 46, 52, 46, 54]⟩) := h 3 (by omega)
  have c4 : w.cell? ⟨0, 4, none⟩ = some (.string ⟨#[76]⟩) := h 4 (by omega)
  have c5 : w.cell? ⟨0, 5, none⟩ = some (.string ⟨#[50, 46, 53, 46, 52, 46, 55]⟩) := h 5 (by omega)
  have c6 : w.cell? ⟨0, 6, none⟩ = some (.string ⟨#[79]⟩) := h 6 (by omega)
  have c7 : w.cell? ⟨0, 7, none⟩ = some (.string ⟨#[50, 46, 53, 46, 52, 46, 49, 48]⟩) := h 7 (by omega)
  have c8 : w.cell? ⟨0, 8, none⟩ = some (.string ⟨#[79, 85]⟩) := h 8 (by omega)
  have c9 : w.cell? ⟨0, 9, none⟩ = some (.string ⟨#[50, 46, 53, 46, 52, 46, 49, 49]⟩) := h 9 (by omega)
  have c10 : w.cell? ⟨0, 10, none⟩ = some (.string ⟨#[68, 67]⟩) := h 10 (by omega)
  have c11 : w.cell? ⟨0, 11, none⟩ = some (.string ⟨#[48, 46, 57, 46, 50, 51, 52, 50, 46, 49, 57, 50, 48, 48, 51, 48, 48, 46, 49, 48, 48, 46, 49, 46, 50, 53]⟩) := h 11 (by omega)
  have c12 : w.cell? ⟨0, 12, none⟩ = some (.string ⟨#[69]⟩) := h 12 (by omega)
  have c13 : w.cell? ⟨0, 13, none⟩ = some (.string ⟨#[49, 46, 50, 46, 56, 52, 48, 46, 49, 49, 51, 53, 52, 57, 46, 49, 46, 57, 46, 49]⟩) := h 13 (by omega)
  obtain ⟨t, ht⟩ : ∃ t, t = shortO x := ⟨_, rfl⟩
  have HT := Lib.hid ht
  rw [← ht]
  clear h ht
  go_enter Tryz.func84, Tryz.ntmps84
  go_wp2_with fail
  clear c0 c1 c2 c3 c4 c5 c6 c7 c8 c9 c10 c11 c12 c13
  go_loopw [6] (fun i wr => ∃ k : Nat, k ≤ 7 ∧ i = .int .i64 k ∧ (∀ j, j < k → (SH.getD j (⟨#[]⟩, ⟨#[]⟩)).2 ≠ x) ∧ Below w.heap.size w wr) (fun i _ => 7 - (intOf i).toNat)
  case atStart => exact ⟨0, by omega, rfl, fun j hj => absurd hj (Nat.not_lt_zero _), Below.refl _ _⟩
  case round =>
    obtain ⟨k, hk, rfl, hA, hb⟩ := hrel
    have HB := Lib.hid hb
    have HA := Lib.hid hA
    clear hb hA
    by_cases hlt : k < 7
    · have hd : decide ((k : Int) < 7) = true := by simp; omega
      have hix := index_short k hlt
      obtain ⟨s, hs⟩ : ∃ s, s = (SH.getD k (⟨#[]⟩, ⟨#[]⟩)).1 := ⟨_, rfl⟩
      obtain ⟨i, hi⟩ : ∃ i, i = (SH.getD k (⟨#[]⟩, ⟨#[]⟩)).2 := ⟨_, rfl⟩
      rw [← hs, ← hi] at hix
      have HB1 := Lib.hid (below_next HB.out (belowNew wr (.cells #[.string s, .string i] 150)))
      have HE := Lib.hid (beq_str i x)
      by_cases hx : i = x
      · have hbq : (i.toList == x.toList) = true := by rw [HE.out]; exact decide_eq_true hx
        have HF := Lib.hid (show t = s by rw [HT.out, hs]; exact short_hit k hlt HA.out (by rw [← hi]; exact hx))
        clear hs hi hx
        go_wp2_with fail
        go_ret
        exact ⟨by rw [HF.out]; rfl, HB1.out⟩
      · have hbq : (i.toList == x.toList) = false := by rw [HE.out]; exact decide_eq_false hx
        have HF := Lib.hid (show ∀ j, j < k + 1 → (SH.getD j (⟨#[]⟩, ⟨#[]⟩)).2 ≠ x from fun j hj => by
          by_cases e : j = k
          · rw [e, ← hi]; exact hx
          · exact HA.out j (by omega))
        clear hs hi hx
        go_wp2_with fail
        go_roundw
        case rel => exact ⟨k + 1, by omega, by go_num, HF.out, HB1.out⟩
        case measure => simp [intOf]; omega
    · obtain rfl : k = 7 := by omega
      have hd : decide (((7 : Nat) : Int) < 7) = false := rfl
      have HF := Lib.hid (show t = x by rw [HT.out]; exact short_miss HA.out)
      go_wp2_with fail
      go_ret
      exact ⟨by rw [HF.out]; rfl, HB.out⟩

/-! ### Clone -/
theorem lies_news {w : World} {b o : Nat} {l : List At} (h : ALies w (some ⟨b, o, none⟩) l) : ∀ j u, (atsCells l)[j]? = some u → w.cell? ((⟨b, o, none⟩ : Addr).add j) = some u := by
  intro j u hj
  have hj2 : j < l.length * 3 := by rw [← atsCells_length]; exact (List.getElem?_eq_some_iff.1 hj).1
  have e : j = j / 3 * 3 + j % 3 := by omega
  rcases h with h | ⟨b', o', hb, hc⟩
  · rw [h] at hj2; simp at hj2
  · obtain ⟨rfl, rfl⟩ : b = b' ∧ o = o' := by simpa using hb
    obtain ⟨c0, c1, c2⟩ := hc (j / 3) (by omega)
    have ha := ats_at l (j / 3) (by omega) (j % 3) (by omega)
    rw [← e, hj] at ha
    have ea : (⟨b, o, none⟩ : Addr).add j = ⟨b, o + j, none⟩ := by
      by_cases h0 : j = 0
      · subst h0; simp [Addr.add]
      · simp [Addr.add, h0]
    rw [ea]
    rcases (by omega : j % 3 = 0 ∨ j % 3 = 1 ∨ j % 3 = 2) with m | m | m
    · rw [m] at ha
      rw [show o + j = o + j / 3 * 3 by omega, c0]; exact ha.symm
    · rw [m] at ha
      rw [show o + j = o + j / 3 * 3 + 1 by omega, c1]; exact ha.symm
    · rw [m] at ha
      rw [show o + j = o + j / 3 * 3 + 2 by omega, c2]; exact ha.symm
theorem lit_none (w : World) (B G : Nat) (hG : w.heap.size = G) (hB : B ≤ w.heap.size) : OwnA (w.alloc (.cells #[] 27)) B (.slice (some ⟨G, 0, none⟩) 0 0) [] := by
  subst hG
  exact World.ownsRow_lit w #[] 0 hB (by unfold maxLen; omega) rfl

set_option maxRecDepth 100000 in
set_option maxHeartbeats 4000000 in
theorem aclone_any (b o c n : Nat) (l : List At) (w : World) (h : ALies w (some ⟨b, o, none⟩) l) (hn : n = l.length) (h1 : 1 ≤ n) (hz : n ≤ 1000) :
    Calls Tryz.prog 80 #[.slice (some ⟨b, o, none⟩) n c] w fun e w' => ∃ v, e = .returned v ∧ OwnA w' w.heap.size v l ∧ Below w.heap.size w w' := by
  obtain ⟨i1, hi', hy0, hy1, hy2⟩ := info_parts atInfo
  have HO := Lib.hid (lit_none w w.heap.size w.heap.size rfl (Nat.le_refl _))
  have HNW := Lib.hid (lies_news (h.below (belowNew w (.cells #[] 27))))
  have HN := Lib.hid hn
  have hnil : ∀ w, (binOp .eql 33 (.slice (some ⟨b, o, none⟩) n c) (.slice none 0 0)).run Tryz.prog w = .ok (.bool false) w := fun w => run_eql_slice_nil w _ _ _ _ _ Tryz.underlying33
  clear h hn
  go_enter Tryz.func80, Tryz.ntmps80
  go_wp2_with (at_builtin; ((refine wpList_append_own _ rfl (.tmp 5) (.tmp 6) 33 rfl w.heap.size 27 i1 (.agg #[.string ⟨#[]⟩, .int .i64 0, .string ⟨#[]⟩]) 3 40 Tryz.underlying33 hi' hy0 hy1 hy2 rfl (by decide) _ 0 [] rfl HO.out ⟨b, o, none⟩ n c (atsCells l) rfl (by rw [atsCells_length, HN.out]) HNW.out (atsCells_one l) (by unfold maxLen; omega) (by omega) (by simp) ?_); intro v' w6 hown6 hgr6 _; have HP1 := Lib.hid hown6; have HP2 := Lib.hid hgr6; clear hown6 hgr6))
  go_ret
  refine ⟨_, rfl, ?_, (belowNew w _).grown HP2.out (by simp) (fun j e => (World.ownsRow.lt HO.out j e).1)⟩
  have := HP1.out
  rw [Nat.zero_add, List.nil_append, HN.out] at this
  exact this
end Go.Proofs.YtfpfgdbfigdooaaGreatDoor
