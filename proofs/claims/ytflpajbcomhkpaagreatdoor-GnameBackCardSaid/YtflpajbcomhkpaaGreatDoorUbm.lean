/-
  The keys of names as texts: two valid names have the same key exactly if they match. Nothing is claimed of the program here.
  Names as texts: what is written is read, and the name that is read matches. Nothing is claimed of the program here.
  The contracts of assign, of Key's closure and of join of the program.
  The contract of join of the program, over whatever function answers for the relative names.
  The contracts of shortOf, of slices.Clone and slices.SortFunc over attributes, and of formatRelative.
-/
import Derived.Test.YtflpajbcomhkpaaGreatDoorUbe
import Derived.Test.YtflpajbcomhkpaaGreatDoorUac
import Derived.Test.YtflpajbcomhkpaaGreatDoorUbc
import Derived.Test.YtflpajbcomhkpaaGreatDoorUbf
import Derived.Test.YtflpajbcomhkpaaGreatDoorUav
import Derived.Test.YtflpajbcomhkpaaGreatDoorUae
import Derived.Test.YtflpajbcomhkpaaGreatDoorUad
import Derived.Test.YtflpajbcomhkpaaGreatDoorUat
import Derived.Test.YtflpajbcomhkpaaGreatDoorUaa
import Derived.Test.YtflpajbcomhkpaaGreatDoorUbl
import Derived.Test.YtflpajbcomhkpaaGreatDoorUak
import Derived.Test.YtflpajbcomhkpaaGreatDoorUaz
import Derived.Lib.SliceRun
namespace Go.Proofs.YtflpajbcomhkpaaGreatDoor
open Go.RowKit

/-! ### The bytes of object identifiers and of escaped texts -/
theorem oid_chars {s : ByteArray} (h : oidB s = true) : ∀ c ∈ s.data.toList, c = 46 ∨ isDig c := by
  obtain ⟨a, ha⟩ := oidB_true h
  have hc : ∀ (L : List Nat) (c : UInt8), c ∈ cat fdot L → c = 46 ∨ isDig c := by
    intro L
    induction L with
    | nil => intro c h; cases h
    | cons v L ih =>
      intro c h
      rcases List.mem_append.1 h with h | h
      · rcases List.mem_append.1 h with h | h
        · exact .inr (dec_dig h)
        · exact .inl (List.mem_singleton.1 h)
      · exact ih c h
  intro c hm
  exact hc a c (by rw [← ha.2]; exact List.mem_append_left _ hm)
theorem oid_free {s : ByteArray} (h : oidB s = true) {c : UInt8} (hc : c = 43 ∨ c = 44 ∨ c = 61) : c ∉ s.data.toList := by
  intro hm
  rcases oid_chars h c hm with e | e
  · subst e; revert hc; decide
  · unfold isDig at e
    rcases hc with rfl | rfl | rfl <;> revert e <;> decide
theorem escB_free_all : ∀ n, n < 256 → (escB (UInt8.ofNat n)).all (fun x => x != 43 && x != 44 && x != 61) = true := by decide +kernel
theorem escL_free {l : List UInt8} {c : UInt8} (hc : c = 43 ∨ c = 44 ∨ c = 61) : c ∉ escL l := by
  intro hm
  obtain ⟨b, _, hb⟩ := List.mem_flatMap.1 hm
  have h1 := escB_free_all b.toNat b.toNat_lt
  rw [UInt8.ofNat_toNat] at h1
  have h2 := List.all_eq_true.1 h1 c hb
  rcases hc with rfl | rfl | rfl <;> simp at h2

/-! ### Keys -/
theorem mem_join {c d : UInt8} : ∀ {ps : List (List UInt8)}, c ∈ Lib.join ps [d] → c = d ∨ ∃ p ∈ ps, c ∈ p
  | [], h => by cases h
  | [p], h => by
    rw [Lib.join_one] at h
    exact .inr ⟨p, List.mem_singleton.2 rfl, h⟩
  | p :: q :: r, h => by
    rw [join_two] at h
    rcases List.mem_append.1 h with h | h
    · exact .inr ⟨p, List.mem_cons_self, h⟩
    · rcases List.mem_cons.1 h with h | h
      · exact .inl h
      · rcases mem_join h with h | ⟨x, hx, hc⟩
        · exact .inl h
        · exact .inr ⟨x, List.mem_cons_of_mem _ hx, hc⟩
theorem join_mem {c d : UInt8} : ∀ {ps : List (List UInt8)} {p : List UInt8}, p ∈ ps → c ∈ p → c ∈ Lib.join ps [d]
  | [], _, h, _ => by cases h
  | [q], p, h, hc => by
    rw [Lib.join_one, ← List.mem_singleton.1 h]; exact hc
  | q :: q' :: r, p, h, hc => by
    rw [join_two]
    rcases List.mem_cons.1 h with rfl | h
    · exact List.mem_append_left _ hc
    · exact List.mem_append_right _ (List.mem_cons_of_mem _ (join_mem h hc))
/-- A relative name without an error. -/
def okR (r : List At) : Prop := 1 ≤ r.length ∧ (∀ a ∈ r, okA a) ∧ (r.map (·.1)).Nodup
theorem okR_of {r : List At} (h : chkR r = 0) : okR r := by
  obtain ⟨h1, _, h3, h4⟩ := (chkR_iff r).1 h
  exact ⟨h1, h3, h4⟩
end Go.Proofs.YtflpajbcomhkpaaGreatDoor
namespace Go.Proofs.YtflpajbcomhkpaaGreatDoor
open Go.RowKit

/-! ### What is written -/
def shortO (x : ByteArray) : ByteArray := match SH.find? (fun p => decide (p.2 = x)) with | some p => p.1 | none => x
def fmtA (a : At) : ByteArray := strOf ((shortO a.1).data.toList ++ 61 :: escL a.2.2.data.toList)
noncomputable def fmtR (r : List At) : ByteArray := strOf (Lib.join (((sortR r).map fmtA).map (·.data.toList)) [43])
noncomputable def fmtN (n : Nm) : ByteArray := strOf (Lib.join ((n.map fmtR).map (·.data.toList)) [44])
theorem sh_chars_all : (SH.all fun p => p.1.data.toList.all fun c => c != 43 && c != 44 && c != 61) = true := by decide +kernel
theorem sh_back_all : (SH.all fun p => decide (SH.find? (fun q => decide (q.1 = p.1)) = some p)) = true := by decide +kernel
theorem short_free {x : ByteArray} (h : oidB x = true) {c : UInt8} (hc : c = 43 ∨ c = 44 ∨ c = 61) : c ∉ (shortO x).data.toList := by
  unfold shortO
  cases hf : SH.find? (fun p => decide (p.2 = x)) with
  | none => exact oid_free h hc
  | some p =>
    intro hm
    have h1 := List.all_eq_true.1 sh_chars_all p (List.mem_of_find?_eq_some hf)
    have h2 := List.all_eq_true.1 h1 c hm
    rcases hc with rfl | rfl | rfl <;> simp at h2
theorem sh_letter_all : (SH.all fun p => p.1.data.toList.all fun c => c != 46 && decide (57 < c.toNat)) = true := by decide +kernel
theorem sh_len_all : (SH.all fun p => decide (0 < p.1.data.toList.length)) = true := by decide +kernel
theorem oid_no_short {x : ByteArray} (h : oidB x = true) : SH.find? (fun p => decide (p.1 = x)) = none := by
  rw [List.find?_eq_none]
  intro p hp e
  have e1 : p.1 = x := of_decide_eq_true e
  have h1 := List.all_eq_true.1 sh_letter_all p hp
  have h2 : 0 < p.1.data.toList.length := of_decide_eq_true (List.all_eq_true.1 sh_len_all p hp)
  obtain ⟨c, hc⟩ := List.exists_mem_of_length_pos h2
  have h3 := List.all_eq_true.1 h1 c hc
  rw [e1] at hc
  rcases oid_chars h c hc with e2 | e2
  · subst e2; simp at h3
  · unfold isDig at e2
    simp at h3
    omega
/-- The type that is written as a word is that type. -/
theorem typ_short {x : ByteArray} (h : oidB x = true) : typ (shortO x) = (x, true) := by
  unfold shortO
  cases hf : SH.find? (fun p => decide (p.2 = x)) with
  | none =>
    show typ x = _
    unfold typ
    rw [oid_no_short h, h]
  | some p =>
    have h1 : p.2 = x := of_decide_eq_true (by simpa using List.find?_some hf)
    have h2 : SH.find? (fun q => decide (q.1 = p.1)) = some p := of_decide_eq_true (List.all_eq_true.1 sh_back_all p (List.mem_of_find?_eq_some hf))
    show typ p.1 = _
    unfold typ
    rw [h2, ← h1]

/-! ### What is read -/
theorem extract_list (b : ByteArray) (i j : Nat) : (b.extract i j).data.toList = (b.data.toList.drop i).take (j - i) := by
  rw [ByteArray.data_extract, Array.toList_extract, List.extract_eq_take_drop]
def reK (a : At) : At := (a.1, kindV a.1 a.2.2, a.2.2)
theorem index_at {p q : List UInt8} {c : UInt8} (h : c ∉ p) : Lib.indexByte (p ++ c :: q) c = (p.length : Int) := by
  rcases index_cases (p ++ c :: q) c with ⟨_, h2⟩ | ⟨i, h1, _⟩
  · exact absurd (List.mem_append_right _ List.mem_cons_self) h2
  · obtain ⟨h3, h4⟩ := first_cut h1
    obtain ⟨h5, _⟩ := cutc h h4 h3
    rw [h1]
    have h6 : p.length = ((p ++ c :: q).take i).length := by rw [← h5]
    rw [List.length_take] at h6
    have h7 : i < (p ++ c :: q).length := by assumption
    omega
theorem prs_fmt {a : At} (h : okA a) : prsA (fmtA a) = some (reK a) := by
  have hi : Lib.indexByte (fmtA a).data.toList 61 = ((shortO a.1).data.toList.length : Int) := index_at (short_free h.1 (.inr (.inr rfl)))
  have hL : (fmtA a).data.toList = (shortO a.1).data.toList ++ 61 :: escL a.2.2.data.toList := rfl
  have hz : (fmtA a).size = (shortO a.1).data.toList.length + (escL a.2.2.data.toList).length + 1 := by
    have : (fmtA a).size = (fmtA a).data.toList.length := rfl
    rw [this, hL, List.length_append, List.length_cons]; omega
  have e1 : (fmtA a).extract 0 (shortO a.1).data.toList.length = shortO a.1 := by
    apply ext_list_t
    rw [extract_list, hL]
    simp
  have e2 : ((fmtA a).extract ((shortO a.1).data.toList.length + 1) (fmtA a).size).data.toList = escL a.2.2.data.toList := by
    rw [extract_list, hz, hL, List.drop_append]
    rw [List.drop_of_length_le (by omega)]
    rw [show (shortO a.1).data.toList.length + 1 - (shortO a.1).data.toList.length = 1 by omega]
    simp only [List.drop_one, List.tail_cons, List.nil_append]
    exact List.take_of_length_le (by omega)
  unfold prsA
  rw [hi, if_neg (by omega), Int.toNat_natCast, e1, e2, typ_short h.1, une_some rfl]
  rfl
theorem all_map {β γ δ : Type} {f : β → Option γ} {g : δ → β} {k : δ → γ} : ∀ {l : List δ}, (∀ x ∈ l, f (g x) = some (k x)) → allO f (l.map g) = some (l.map k)
  | [], _ => rfl
  | x :: l, h => by
    rw [List.map_cons, allO, h x List.mem_cons_self]
    simp only []
    rw [all_map (fun y hy => h y (List.mem_cons_of_mem _ hy))]
    rfl
theorem map_list_inj : ∀ {L M : List ByteArray}, L.map (·.data.toList) = M.map (·.data.toList) → L = M
  | [], [], _ => rfl
  | [], _ :: _, h => by cases h
  | _ :: _, [], h => by cases h
  | x :: L, y :: M, h => by
    rw [List.map_cons, List.map_cons] at h
    obtain ⟨h1, h2⟩ := List.cons.inj h
    rw [ext_list_t h1, map_list_inj h2]
theorem fmtA_free {a : At} (h : okA a) {c : UInt8} (hc : c = 43 ∨ c = 44) : c ∉ (fmtA a).data.toList := by
  intro hm
  rcases List.mem_append.1 (show c ∈ (shortO a.1).data.toList ++ 61 :: escL a.2.2.data.toList from hm) with hm | hm
  · exact short_free h.1 (by rcases hc with rfl | rfl <;> decide) hm
  · rcases List.mem_cons.1 hm with e | hm
    · rcases hc with rfl | rfl <;> revert e <;> decide
    · exact escL_free (by rcases hc with rfl | rfl <;> decide) hm
theorem okA_sort {r : List At} (h : okR r) : ∀ a ∈ sortR r, okA a := fun a ha => h.2.1 a ((sortR_perm r).mem_iff.1 ha)
theorem prs_fmtR {r : List At} (h : okR r) : prsR (fmtR r) = some ((sortR r).map reK) := by
  have hs : Spl 43 (fmtR r).data.toList (((sortR r).map fmtA).map (·.data.toList)) := by
    refine ⟨fun e => ?_, rfl, fun p hp => ?_⟩
    · have e1 := congrArg List.length e
      rw [List.length_map, List.length_map, (sortR_perm r).length_eq, List.length_nil] at e1
      have := h.1
      omega
    · obtain ⟨s, hs, rfl⟩ := List.mem_map.1 hp
      obtain ⟨a, ha, rfl⟩ := List.mem_map.1 hs
      exact fmtA_free (okA_sort h a ha) (.inl rfl)
  unfold prsR
  rw [map_list_inj (spl_inj (pcsS_spl 43 (fmtR r)) hs)]
  exact all_map (fun a ha => prs_fmt (okA_sort h a ha))
theorem fmtR_comma {r : List At} (h : okR r) : (44 : UInt8) ∉ (fmtR r).data.toList := by
  intro hm
  rcases mem_join (show (44 : UInt8) ∈ Lib.join (((sortR r).map fmtA).map (·.data.toList)) [43] from hm) with e | ⟨p, hp, hc⟩
  · revert e; decide
  · obtain ⟨s, hs, rfl⟩ := List.mem_map.1 hp
    obtain ⟨a, ha, rfl⟩ := List.mem_map.1 hs
    exact fmtA_free (okA_sort h a ha) (.inr rfl) hc
theorem fmtR_eq {r : List At} (h : okR r) : (61 : UInt8) ∈ (fmtR r).data.toList := by
  have hl : 0 < (sortR r).length := by rw [(sortR_perm r).length_eq]; exact h.1
  obtain ⟨a, ha⟩ := List.exists_mem_of_length_pos hl
  refine join_mem (p := (fmtA a).data.toList) (List.mem_map.2 ⟨fmtA a, List.mem_map.2 ⟨a, ha, rfl⟩, rfl⟩) ?_
  exact List.mem_append_right _ List.mem_cons_self
theorem prs_fmtN {n : Nm} (h : ∀ r ∈ n, okR r) : prsN (fmtN n) = some (n.map fun r => (sortR r).map reK) := by
  unfold prsN
  cases n with
  | nil => rfl
  | cons r n =>
    have hs : Spl 44 (fmtN (r :: n)).data.toList (((r :: n).map fmtR).map (·.data.toList)) := by
      refine ⟨by simp, rfl, fun p hp => ?_⟩
      obtain ⟨s, hs, rfl⟩ := List.mem_map.1 hp
      obtain ⟨a, ha, rfl⟩ := List.mem_map.1 hs
      exact fmtR_comma (h a ha)
    have h0 : (fmtN (r :: n)).size ≠ 0 := by
      intro e
      have hm : (61 : UInt8) ∈ (fmtN (r :: n)).data.toList := join_mem (p := (fmtR r).data.toList) (List.mem_map.2 ⟨fmtR r, List.mem_map.2 ⟨r, List.mem_cons_self, rfl⟩, rfl⟩) (fmtR_eq (h r List.mem_cons_self))
      rw [List.length_eq_zero_iff.1 (show (fmtN (r :: n)).data.toList.length = 0 from e)] at hm
      cases hm
    rw [if_neg h0, map_list_inj (spl_inj (pcsS_spl 44 (fmtN (r :: n))) hs)]
    exact all_map (fun r hr => prs_fmtR (h r hr))
theorem match_re (n : Nm) : MatchN n (n.map fun r => (sortR r).map reK) := by
  refine ⟨(List.length_map _).symm, fun i hi => ?_⟩
  rw [getD_mem hi _, getD_mem (by rw [List.length_map]; exact hi) _, List.getElem_map]
  refine ⟨by rw [List.length_map, (sortR_perm _).length_eq], fun x hx => ?_, fun y hy => ?_⟩
  · exact ⟨reK x, List.mem_map.2 ⟨x, (sortR_perm _).mem_iff.2 hx, rfl⟩, rfl⟩
  · obtain ⟨x, hx, rfl⟩ := List.mem_map.1 hy
    exact ⟨x, (sortR_perm _).mem_iff.1 hx, rfl⟩
end Go.Proofs.YtflpajbcomhkpaaGreatDoor
namespace Go.Proofs.YtflpajbcomhkpaaGreatDoor
open Go.RowKit Go.Sort

set_option maxRecDepth 100000 in
set_option maxHeartbeats 1000000 in
theorem assign_any (x v : ByteArray) (w : World) (hx : x.size ≤ 1000000) (hv : v.size ≤ 1000000) :
    Calls Tryz.prog 171 #[.string x, .string v] w fun e w' => e = .returned (.string (strOf (x.data.toList ++ 61 :: escL v.data.toList))) ∧ Below w.heap.size w w' := by
  have HE := Lib.hid (fun W => esc_any v W (by omega))
  have HL := Lib.hid (show (x ++ (⟨#[61]⟩ : ByteArray)) ++ escS v = strOf (x.data.toList ++ 61 :: escL v.data.toList) from by
    apply ext_list_t
    simp [escS, strOf])
  have hz := escS_size v
  obtain ⟨E, hE⟩ : ∃ E, E = escS v := ⟨_, rfl⟩
  rw [← hE] at HE HL hz
  have hz1 : E.size ≤ 3000000 := by omega
  have h1 : ∀ w, (Op.stringOp .add x ⟨#[61]⟩).run Tryz.prog w = .ok (.string (x ++ ⟨#[61]⟩)) w := fun w => run_string_add_sum w x _ (by show x.size + 1 ≤ _; omega)
  have h2 : ∀ w, (Op.stringOp .add (x ++ ⟨#[61]⟩) E).run Tryz.prog w = .ok (.string (x ++ ⟨#[61]⟩ ++ E)) w := fun w => run_string_add_sum w _ _ (by rw [ByteArray.size_append]; show x.size + 1 + E.size ≤ _; omega)
  clear hE hz
  go_enter Tryz.func171, Tryz.ntmps171
  go_wp2_with (go_at_call 91; (with_reducible refine (HE.out _).mono ?_); rintro e w1 ⟨rfl, hb1⟩; have HB := Lib.hid hb1; clear hb1)
  go_ret
  exact ⟨by rw [← HL.out]; rfl, HB.out⟩

end Go.Proofs.YtflpajbcomhkpaaGreatDoor
namespace Go.Proofs.YtflpajbcomhkpaaGreatDoor
open Go.RowKit Go.Sort

/-- The function numbered f answers for a relative name with a new row of the strings out. -/
def GivesR (f : Nat) (out : List At → List ByteArray) (Pre : List At → Prop) (Inv : World → Prop) : Prop :=
  ∀ (a : Option Addr) (c q : Nat) (r : List At) (W : World), ALies W a r → q = r.length → q ≤ c → Pre r → Inv W →
    Calls Tryz.prog f #[.slice a q c] W fun e w' => ∃ g, e = .returned (.slice (some ⟨g, 0, none⟩) q q) ∧ (out r).length = q ∧ (∀ j x, (out r)[j]? = some x → w'.cell? ⟨g, 0 + j, none⟩ = some (.string x)) ∧ g < w'.heap.size ∧ Below W.heap.size W w'
def joinS (out : List At → List ByteArray) (r : List At) : ByteArray := ⟨(Lib.join ((out r).map (·.data.toList)) [43]).toArray⟩
theorem join_len (c : UInt8) (M : Nat) : ∀ (ps : List (List UInt8)), (∀ p ∈ ps, p.length ≤ M) → (Lib.join ps [c]).length ≤ (M + 1) * ps.length
  | [], _ => by show 0 ≤ _; omega
  | [p], h => by
    rw [Lib.join_one]
    have := h p List.mem_cons_self
    rw [List.length_singleton]
    omega
  | p :: q :: r, h => by
    have h1 := h p List.mem_cons_self
    have h2 := join_len c M (q :: r) (fun x hx => h x (List.mem_cons_of_mem _ hx))
    rw [join_two, List.length_append, List.length_cons, List.length_cons, Nat.mul_succ]
    omega

set_option maxRecDepth 100000 in
set_option maxHeartbeats 4000000 in
theorem djoin_core (f : Nat) (eg : ∀ args w, (callFunc f args).run Tryz.prog w = .ok (.enter f args) w) (out : List At → List ByteArray) (Pre : List At → Prop) (Inv : World → Prop) (hf : GivesR f out Pre Inv) (hI : ∀ W W', Inv W → Below W.heap.size W W' → Inv W')
    (hO : ∀ r, Pre r → (joinS out r).size ≤ 1000000) (a0 : Option Addr) (c m : Nat) (n : Nm) (w : World) (h : RLies w a0 n) (hn : m = n.length) (hm : m ≤ 1000) (hr : ∀ i, i < n.length → (n.getD i []).length ≤ 1000) (hp : ∀ i, i < n.length → Pre (n.getD i [])) (hi : Inv w) :
    Calls Tryz.prog 131 #[.agg #[.slice a0 m c], .func (.func f) #[] #[]] w fun e w' => e = .returned (.string ⟨(Lib.join ((n.map (joinS out)).map (·.data.toList)) [44]).toArray⟩) ∧ Below w.heap.size w w' := by
  have hmk := strs_make m (by omega)
  obtain ⟨W0, hW0⟩ : ∃ W0, W0 = w.alloc (.cells #[.slice a0 m c] 30) := ⟨_, rfl⟩
  have hwr : w.alloc (.cells #[.slice a0 m c] 30) = W0 := hW0.symm
  have hb0 : Below w.heap.size w W0 := by rw [hW0]; exact belowNew w _
  have hq0 : W0.heap[w.heap.size]? = some (.cells #[.slice a0 m c] 30 (0, 0)) := by rw [hW0]; exact heap_alloc_new w _
  have hz0 : W0.heap.size = w.heap.size + 1 := by rw [hW0]; simp
  obtain ⟨W1, hW1⟩ : ∃ W1, W1 = W0.alloc (.cells (rowT m []) 9) := ⟨_, rfl⟩
  have hb1 : Below W0.heap.size W0 W1 := by rw [hW1]; exact belowNew W0 _
  have hq1 : W1.heap[W0.heap.size]? = some (.cells (rowT m []) 9 (0, 0)) := by rw [hW1]; exact heap_alloc_new W0 _
  obtain ⟨g, hg⟩ : ∃ g, g = W0.heap.size := ⟨_, rfl⟩
  obtain ⟨c0, f0, l0⟩ := one_facts hq0
  have c1 := (hb1.cell (p := ⟨w.heap.size, 0, none⟩) l0).trans c0
  rw [← hg] at hq1
  have HWE := Lib.hid hW1.symm
  have HB1 := Lib.hid (below_next hb0 hb1)
  have HQ1 := Lib.hid hq1
  have hwg : w.heap.size ≤ g := by rw [hg, hz0]; omega
  have HG := Lib.hid hg
  have H1 := Lib.hid h
  have HN := Lib.hid hn
  have HF := Lib.hid hf
  have HP := Lib.hid hp
  have HR := Lib.hid hr
  have HI := Lib.hid (fun W (hb : Below w.heap.size w W) => hI w W hi hb)
  have HO := Lib.hid hO
  have hlast : ∀ L : List ByteArray, L = n.map (joinS out) → (Lib.join (L.map (·.data.toList)) [44]).length ≤ 140737488355328 := fun L hL => by
    have := join_len 44 1000000 (L.map (·.data.toList)) (fun p hp' => by
      obtain ⟨s, hs, rfl⟩ := List.mem_map.1 hp'
      rw [hL] at hs
      obtain ⟨r, hr', rfl⟩ := List.mem_map.1 hs
      obtain ⟨i, hi', rfl⟩ := List.getElem_of_mem hr'
      have := hO _ (hp i hi')
      rw [getD_mem hi' _] at this
      exact this)
    rw [List.length_map, hL, List.length_map, ← hn] at this
    rw [hL]
    exact Nat.le_trans this (by have := Nat.mul_le_mul_left (1000000 + 1) hm; omega)
  have HLA := Lib.hid hlast
  obtain ⟨E, hE⟩ : ∃ E : ByteArray, E = ⟨(Lib.join ((n.map (joinS out)).map (·.data.toList)) [44]).toArray⟩ := ⟨_, rfl⟩
  rw [← hE]
  have HE := Lib.hid hE
  clear hE
  clear h hn hf hp hr hI hi hO hW0 hW1 hb0 hb1 hq0 hq1 hg hz0 hlast
  go_enter Tryz.func131, Tryz.ntmps131
  go_wp2_with fail
  rw [HWE.out, ← HG.out]
  clear hmk c0 c1 f0 l0 hwr
  go_loopw [15] (fun i wr => ∃ k : Nat, k ≤ m ∧ i = .int .i64 (k : Int) ∧ wr.heap[g]? = some (.cells (rowT m ((n.take k).map (joinS out))) 9 (0, 0)) ∧ Below w.heap.size w wr) (fun i _ => m - (intOf i).toNat)
  case atStart => exact ⟨0, Nat.zero_le _, rfl, HQ1.out, HB1.out⟩
  case round =>
    obtain ⟨wo, hwo⟩ : ∃ wo, wo = wr := ⟨_, rfl⟩
    subst hwo
    obtain ⟨k, hk, rfl, hq, hb⟩ := hrel
    have HB := Lib.hid hb
    have HQ := Lib.hid hq
    clear hb hq
    by_cases hlt : k < m
    · have hd : decide ((k : Int) < (m : Int)) = true := by simp; omega
      have hki : (k : Int) < (m : Int) := by omega
      obtain ⟨b, o, rfl, hb, a', c', e0, hc', hL⟩ := H1.out.at k (by rw [← HN.out]; exact hlt)
      have a0 : wo.cell? ⟨b, o + k, none⟩ = _ := (HB.out.cell (p := ⟨b, o + k, none⟩) hb).trans e0
      have hst : (n.take (k + 1)).map (joinS out) = (n.take k).map (joinS out) ++ [joinS out (n.getD k [])] := by rw [takeD n k (by rw [← HN.out]; exact hlt) []]; simp
      have hpr := HP.out k (by rw [← HN.out]; exact hlt)
      have hrz := HR.out k (by rw [← HN.out]; exact hlt)
      generalize n.getD k [] = r at a0 hst hpr hc' hL hrz
      obtain ⟨q, hqq⟩ : ∃ q, q = r.length := ⟨_, rfl⟩
      rw [← hqq] at a0 hc' hrz
      have HGR := Lib.hid (HF.out a' c' q r wo (hL.below HB.out) hqq hc' hpr (HI.out wo HB.out))
      have HJ := Lib.hid (HO.out r hpr)
      have HST := Lib.hid hst
      have HLL := Lib.hid (show k = ((n.take k).map (joinS out)).length by rw [List.length_map, List.length_take, ← HN.out]; omega)
      have hgl : g < wo.heap.size := (Array.getElem?_eq_some_iff.1 HQ.out).1
      obtain ⟨J, hJ⟩ : ∃ J, J = joinS out r := ⟨_, rfl⟩
      rw [← hJ] at HST
      have HJJ := Lib.hid hJ
      clear e0 hb hst hpr hqq hL hc' hJ
      go_wp2_with (first
        | (go_at_fn f; refine HGR.out.mono ?_; rintro e w3 ⟨g3, rfl, hlen3, hc3, hl3, hb3⟩; have hq3 := (hb3.block g hgl).trans HQ.out; have HQ3 := Lib.hid hq3; have HB3 := Lib.hid (below_next HB.out hb3); have hj3 := join_any g3 0 q (out r) ⟨#[43]⟩ w3 hc3 hl3 (by rw [hlen3]; omega) (by rw [hlen3]; exact Nat.le_refl _) (by have := HJ.out; exact Nat.le_trans this (by omega)); rw [hlen3] at hj3; have HJ3 := Lib.hid hj3; clear hb3 hq3 hj3 hc3 hl3 hlen3)
        | (go_at_call 166; (with_reducible refine HJ3.out.mono ?_); rintro e w4 ⟨he, hb4⟩; obtain rfl : e = .returned (.string J) := (by rw [he, HJJ.out]; rfl); have hq4 := (hb4.block g (Array.getElem?_eq_some_iff.1 HQ3.out).1).trans HQ3.out; have HQ4 := Lib.hid hq4; have HB4 := Lib.hid (below_next HB3.out hb4); obtain ⟨cv, hcv⟩ := rowT_at m ((n.take k).map (joinS out)) (by have := HLL.out; omega) k hlt; have hcell : w4.cell? ⟨g, k, none⟩ = some cv := (by rw [Lib.cell_of_heap hq4]; exact hcv); have hfz : w4.frozen? ⟨g, k, none⟩ = false := Lib.frozen_of_heap hq4 k; clear hb4 hq4 hcv he))
      go_roundw
      case rel => exact ⟨k + 1, by omega, by go_num, by rw [HST.out]; exact row_put HQ4.out HLL.out hlt, HB4.out.setCell (p := ⟨g, k, none⟩) hwg _⟩
      case measure => simp [intOf]; omega
    · have hd : decide ((k : Int) < (m : Int)) = false := by simp; omega
      have hq := HQ.out
      rw [List.take_of_length_le (by rw [← HN.out]; omega)] at hq
      obtain ⟨X, hX⟩ : ∃ X, X = n.map (joinS out) := ⟨_, rfl⟩
      rw [← hX] at hq
      have hXl : X.length = m := by rw [hX, List.length_map, ← HN.out]
      have hgl : g < wo.heap.size := (Array.getElem?_eq_some_iff.1 hq).1
      have hj := join_any g 0 m X ⟨#[44]⟩ wo (fun j x hx => by
        rw [Nat.zero_add, Lib.cell_of_heap hq, rowT_all m X hXl]
        simp [hx]) hgl (by rw [hXl]; omega) (by rw [hXl]; exact Nat.le_refl _) (HLA.out X hX)
      rw [hXl] at hj
      have HJ := Lib.hid hj
      have HEX := Lib.hid (show E = ⟨(Lib.join (X.map (·.data.toList)) [44]).toArray⟩ by rw [HE.out, hX])
      clear hq hX hXl hj
      go_wp2_with (go_at_call 166; (with_reducible refine HJ.out.mono ?_); rintro e w4 ⟨he, hb4⟩; obtain rfl : e = .returned (.string E) := (by rw [he, HEX.out]); have HB4 := Lib.hid (below_next HB.out hb4); clear hb4 he)
      go_ret
      exact ⟨rfl, HB4.out⟩
end Go.Proofs.YtflpajbcomhkpaaGreatDoor
namespace Go.Proofs.YtflpajbcomhkpaaGreatDoor
open Go.RowKit

/-! ### shortOf -/
theorem find_first2 {x : ByteArray} {d : ByteArray × ByteArray} : ∀ (l : List (ByteArray × ByteArray)) (k : Nat), k < l.length → (∀ j, j < k → (l.getD j d).2 ≠ x) → (l.getD k d).2 = x → l.find? (fun p => decide (p.2 = x)) = some (l.getD k d)
  | [], k, h, _, _ => absurd h (Nat.not_lt_zero _)
  | p :: l, 0, _, _, h => by
    rw [List.find?_cons_of_pos (by simpa using h)]; rfl
  | p :: l, k + 1, h, h1, h2 => by
    rw [List.find?_cons_of_neg (by simpa using h1 0 (by omega)), find_first2 (d := d) l k (by simpa using h) (fun j hj => by simpa using h1 (j + 1) (by omega)) (by simpa using h2)]
    simp
theorem find_no2 {x : ByteArray} {d : ByteArray × ByteArray} {l : List (ByteArray × ByteArray)} (h : ∀ j, j < l.length → (l.getD j d).2 ≠ x) : l.find? (fun p => decide (p.2 = x)) = none := by
  rw [List.find?_eq_none]
  intro p hp
  obtain ⟨j, hj, rfl⟩ := List.getElem_of_mem hp
  have := h j hj
  rw [List.getD_eq_getElem?_getD, List.getElem?_eq_getElem hj] at this
  simpa using this
theorem short_hit {x : ByteArray} (k : Nat) (hk : k < 7) (h1 : ∀ j, j < k → (SH.getD j (⟨#[]⟩, ⟨#[]⟩)).2 ≠ x) (h2 : (SH.getD k (⟨#[]⟩, ⟨#[]⟩)).2 = x) : shortO x = (SH.getD k (⟨#[]⟩, ⟨#[]⟩)).1 := by
  unfold shortO
  rw [find_first2 SH k hk h1 h2]
theorem short_miss {x : ByteArray} (h : ∀ j, j < 7 → (SH.getD j (⟨#[]⟩, ⟨#[]⟩)).2 ≠ x) : shortO x = x := by
  unfold shortO
  rw [find_no2 (l := SH) h]

set_option maxRecDepth 100000 in
set_option maxHeartbeats 4000000 in
theorem shortO_any (x : ByteArray) (w : World) (h : ShT w) :
    Calls Tryz.prog 172 #[.string x] w fun e w' => e = .returned (.string (shortO x)) ∧ Below w.heap.size w w' := by
  have c0 : w.cell? ⟨1, 0, none⟩ = some (.string ⟨#[67, 78]⟩) := h 0 (by omega)
  have c1 : w.cell? ⟨1, 1, none⟩ = some (.string ⟨#[50, 46, 53, 46, 52, 46, 51]⟩) := h 1 (by omega)
  have c2 : w.cell? ⟨1, 2, none⟩ = some (.string ⟨#[67]⟩) := h 2 (by omega)
  have c3 : w.cell? ⟨1, 3, none⟩ = some (.string ⟨#[50, 46, 53, 46, 52, 46, 54]⟩) := h 3 (by omega)
  have c4 : w.cell? ⟨1, 4, none⟩ = some (.string ⟨#[76]⟩) := h 4 (by omega)
  have c5 : w.cell? ⟨1, 5, none⟩ = some (.string ⟨#[50, 46, 53, 46, 52, 46, 55]⟩) := h 5 (by omega)
  have c6 : w.cell? ⟨1, 6, none⟩ = some (.string ⟨#[79]⟩) := h 6 (by omega)
  have c7 : w.cell? ⟨1, 7, none⟩ = some (.string ⟨#[50, 46, 53, 46, 52, 46, 49, 48]⟩) := h 7 (by omega)
  have c8 : w.cell? ⟨1, 8, none⟩ = some (.string ⟨#[79, 85]⟩) := h 8 (by omega)
  have c9 : w.cell? ⟨1, 9, none⟩ = some (.string ⟨#[50, 46, 53, 46, 52, 46, 49, 49]⟩) := h 9 (by omega)
  have c10 : w.cell? ⟨1, 10, none⟩ = some (.string ⟨#[68, 67]⟩) := h 10 (by omega)
  have c11 : w.cell? ⟨1, 11, none⟩ = some (.string ⟨#[48, 46, 57, 46, 50, 51, 52, 50, 46, 49, 57, 50, 48, 48, 51, 48, 48, 46, 49, 48, 48, 46, 49, 46, 50, 53]⟩) := h 11 (by omega)
  have c12 : w.cell? ⟨1, 12, none⟩ = some (.string ⟨#[69]⟩) := h 12 (by omega)
  have c13 : w.cell? ⟨1, 13, none⟩ = some (.string ⟨#[49, 46, 50, 46, 56, 52, 48, 46, 49, 49, 51, 53, 52, 57, 46, 49, 46, 57, 46, 49]⟩) := h 13 (by omega)
  obtain ⟨t, ht⟩ : ∃ t, t = shortO x := ⟨_, rfl⟩
  have HT := Lib.hid ht
  rw [← ht]
  clear h ht
  go_enter Tryz.func172, Tryz.ntmps172
  go_wp2_with fail
  clear c0 c1 c2 c3 c4 c5 c6 c7 c8 c9 c10 c11 c12 c13
  go_loopw [6] (fun i wr => ∃ k : Nat, k ≤ 7 ∧ i = .int .i64 k ∧ (∀ j, j < k → (SH.getD j (⟨#[]⟩, ⟨#[]⟩)).2 ≠ x) ∧ Below w.heap.size w wr) (fun i _ => 7 - (intOf i).toNat)
  case atStart => exact ⟨0, by omega, rfl, fun j hj => absurd hj (Nat.not_lt_zero _), Below.refl _ _⟩
  case round =>
    obtain ⟨k, hk, rfl, hA, hb⟩ := hrel
    have HB := Lib.hid hb
    have HA := Lib.hid hA
    clear hb hA
    by_cases hlt : k < 7
    · have hd : decide ((k : Int) < 7) = true := by simp; omega
      have hix := index_short k hlt
      obtain ⟨s, hs⟩ : ∃ s, s = (SH.getD k (⟨#[]⟩, ⟨#[]⟩)).1 := ⟨_, rfl⟩
      obtain ⟨i, hi⟩ : ∃ i, i = (SH.getD k (⟨#[]⟩, ⟨#[]⟩)).2 := ⟨_, rfl⟩
      rw [← hs, ← hi] at hix
      have HB1 := Lib.hid (below_next HB.out (belowNew wr (.cells #[.string s, .string i] 196)))
      have HE := Lib.hid (beq_str i x)
      by_cases hx : i = x
      · have hbq : (i.toList == x.toList) = true := by rw [HE.out]; exact decide_eq_true hx
        have HF := Lib.hid (show t = s by rw [HT.out, hs]; exact short_hit k hlt HA.out (by rw [← hi]; exact hx))
        clear hs hi hx
        go_wp2_with fail
        go_ret
        exact ⟨by rw [HF.out]; rfl, HB1.out⟩
      · have hbq : (i.toList == x.toList) = false := by rw [HE.out]; exact decide_eq_false hx
        have HF := Lib.hid (show ∀ j, j < k + 1 → (SH.getD j (⟨#[]⟩, ⟨#[]⟩)).2 ≠ x from fun j hj => by
          by_cases e : j = k
          · rw [e, ← hi]; exact hx
          · exact HA.out j (by omega))
        clear hs hi hx
        go_wp2_with fail
        go_roundw
        case rel => exact ⟨k + 1, by omega, by go_num, HF.out, HB1.out⟩
        case measure => simp [intOf]; omega
    · obtain rfl : k = 7 := by omega
      have hd : decide (((7 : Nat) : Int) < 7) = false := rfl
      have HF := Lib.hid (show t = x by rw [HT.out]; exact short_miss HA.out)
      go_wp2_with fail
      go_ret
      exact ⟨by rw [HF.out]; rfl, HB.out⟩

/-! ### Clone -/
theorem lies_news {w : World} {b o : Nat} {l : List At} (h : ALies w (some ⟨b, o, none⟩) l) : ∀ j u, (atsCells l)[j]? = some u → w.cell? ((⟨b, o, none⟩ : Addr).add j) = some u := by
  intro j u hj
  have hj2 : j < l.length * 3 := by rw [← atsCells_length]; exact (List.getElem?_eq_some_iff.1 hj).1
  have e : j = j / 3 * 3 + j % 3 := by omega
  rcases h with h | ⟨b', o', hb, hc⟩
  · rw [h] at hj2; simp at hj2
  · obtain ⟨rfl, rfl⟩ : b = b' ∧ o = o' := by simpa using hb
    obtain ⟨c0, c1, c2⟩ := hc (j / 3) (by omega)
    have ha := ats_at l (j / 3) (by omega) (j % 3) (by omega)
    rw [← e, hj] at ha
    have ea : (⟨b, o, none⟩ : Addr).add j = ⟨b, o + j, none⟩ := by
      by_cases h0 : j = 0
      · subst h0; simp [Addr.add]
      · simp [Addr.add, h0]
    rw [ea]
    rcases (by omega : j % 3 = 0 ∨ j % 3 = 1 ∨ j % 3 = 2) with m | m | m
    · rw [m] at ha
      rw [show o + j = o + j / 3 * 3 by omega, c0]; exact ha.symm
    · rw [m] at ha
      rw [show o + j = o + j / 3 * 3 + 1 by omega, c1]; exact ha.symm
    · rw [m] at ha
      rw [show o + j = o + j / 3 * 3 + 2 by omega, c2]; exact ha.symm
theorem lit_none (w : World) (B G : Nat) (hG : w.heap.size = G) (hB : B ≤ w.heap.size) : OwnA (w.alloc (.cells #[] 103)) B (.slice (some ⟨G, 0, none⟩) 0 0) [] := by
  subst hG
  exact World.ownsRow_lit w #[] 0 hB (by unfold maxLen; omega) rfl

set_option maxRecDepth 100000 in
set_option maxHeartbeats 4000000 in
theorem aclone_any (b o c n : Nat) (l : List At) (w : World) (h : ALies w (some ⟨b, o, none⟩) l) (hn : n = l.length) (h1 : 1 ≤ n) (hz : n ≤ 1000) :
    Calls Tryz.prog 167 #[.slice (some ⟨b, o, none⟩) n c] w fun e w' => ∃ v, e = .returned v ∧ OwnA w' w.heap.size v l ∧ Below w.heap.size w w' := by
  obtain ⟨i1, hi', hy0, hy1, hy2⟩ := info_parts atInfo
  have HO := Lib.hid (lit_none w w.heap.size w.heap.size rfl (Nat.le_refl _))
  have HNW := Lib.hid (lies_news (h.below (belowNew w (.cells #[] 103))))
  have HN := Lib.hid hn
  have hnil : ∀ w, (binOp .eql 101 (.slice (some ⟨b, o, none⟩) n c) (.slice none 0 0)).run Tryz.prog w = .ok (.bool false) w := fun w => run_eql_slice_nil w _ _ _ _ _ Tryz.underlying101
  clear h hn
  go_enter Tryz.func167, Tryz.ntmps167
  go_wp2_with (at_builtin; ((refine wpList_append_own _ rfl (.tmp 5) (.tmp 6) 101 rfl w.heap.size 103 i1 (.agg #[.string ⟨#[]⟩, .int .i64 0, .string ⟨#[]⟩]) 3 40 Tryz.underlying101 hi' hy0 hy1 hy2 rfl (by decide) _ 0 [] rfl HO.out ⟨b, o, none⟩ n c (atsCells l) rfl (by rw [atsCells_length, HN.out]) HNW.out (atsCells_one l) (by unfold maxLen; omega) (by omega) (by simp) ?_); intro v' w6 hown6 hgr6 _; have HP1 := Lib.hid hown6; have HP2 := Lib.hid hgr6; clear hown6 hgr6))
  go_ret
  refine ⟨_, rfl, ?_, (belowNew w _).grown HP2.out (by simp) (fun j e => (World.ownsRow.lt HO.out j e).1)⟩
  have := HP1.out
  rw [Nat.zero_add, List.nil_append, HN.out] at this
  exact this
end Go.Proofs.YtflpajbcomhkpaaGreatDoor
