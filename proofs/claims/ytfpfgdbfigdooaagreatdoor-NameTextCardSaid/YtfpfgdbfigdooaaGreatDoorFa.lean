/-
The keys of names as texts: two valid names have the same key exactly if they match. Nothing is claimed of the program here.
The contracts of assign, of Key's closure and of join of the program.
The contract of join of the program, over whatever function answers for the relative names.
The contract of Key of the program, for names of short attributes.
The walk of the law NameKey: for every list of numbers it returns true, and leaves all that was there as it was.
-/
import Derived.Test.YtfpfgdbfigdooaaGreatDoorEbg
import Derived.Test.YtfpfgdbfigdooaaGreatDoorEaj
import Derived.Test.YtfpfgdbfigdooaaGreatDoorEap
import Derived.Test.YtfpfgdbfigdooaaGreatDoorEay
import Derived.Test.YtfpfgdbfigdooaaGreatDoorEac
import Derived.Test.YtfpfgdbfigdooaaGreatDoorEaw
import Derived.Test.YtfpfgdbfigdooaaGreatDoorEae
import Derived.Test.YtfpfgdbfigdooaaGreatDoorEaq
import Derived.Test.YtfpfgdbfigdooaaGreatDoorEbd
import Derived.Test.YtfpfgdbfigdooaaGreatDoorEbj
import Derived.Test.YtfpfgdbfigdooaaGreatDoorEbi
namespace Go.Proofs.YtfpfgdbfigdooaaGreatDoor
open Go.RowKit

/-! ### The bytes of object identifiers and of escaped texts -/
theorem oid_chars {s : ByteArray} (h : oidB s = true) : ∀ c ∈ s.data.toList, c = 46 ∨ isDig c := by
  obtain ⟨a, ha⟩ := oidB_true h
  have hc : ∀ (L : List Nat) (c : UInt8), c ∈ cat fdot L → c = 46 ∨ isDig c := by
    intro L
    induction L with
    | nil => intro c h; cases h
    | cons v L ih =>
      intro c h
      rcases List.mem_append.1 h with h | h
      · rcases List.mem_append.1 h with h | h
        · exact .inr (dec_dig h)
        · exact .inl (List.mem_singleton.1 h)
      · exact ih c h
  intro c hm
  exact hc a c (by rw [← ha.2]; exact List.mem_append_left _ hm)
theorem oid_free {s : ByteArray} (h : oidB s = true) {c : UInt8} (hc : c = 43 ∨ c = 44 ∨ c = 61) : c ∉ s.data.toList := by
  intro hm
  rcases oid_chars h c hm with e | e
  · subst e; revert hc; decide
  · unfold isDig at e
    rcases hc with rfl | rfl | rfl <;> revert e <;> decide
theorem escB_free_all : ∀ n, n < 256 → (escB (UInt8.ofNat n)).all (fun x => x != 43 && x != 44 && x != 61) = true := by decide +kernel
theorem escL_free {l : List UInt8} {c : UInt8} (hc : c = 43 ∨ c = 44 ∨ c = 61) : c ∉ escL l := by
  intro hm
  obtain ⟨b, _, hb⟩ := List.mem_flatMap.1 hm
  have h1 := escB_free_all b.toNat b.toNat_lt
  rw [UInt8.ofNat_toNat] at h1
  have h2 := List.all_eq_true.1 h1 c hb
  rcases hc with rfl | rfl | rfl <;> simp at h2

/-! ### Keys -/
def keyP (p : ByteArray × ByteArray) : List UInt8 := p.1.data.toList ++ 61 :: escL p.2.data.toList
def keyA (a : At) : List UInt8 := keyP (fa a)
def keyR (r : List At) : List (List UInt8) := ordL (r.map keyA)
def joinR (r : List At) : List UInt8 := Lib.join (keyR r) [43]
def keyN (n : Nm) : List UInt8 := Lib.join (n.map joinR) [44]
theorem keyA_free {a : At} (h : oidB a.1 = true) {c : UInt8} (hc : c = 43 ∨ c = 44) : c ∉ keyA a := by
  intro hm
  rcases List.mem_append.1 hm with hm | hm
  · exact oid_free h (by rcases hc with rfl | rfl <;> decide) hm
  · rcases List.mem_cons.1 hm with e | hm
    · rcases hc with rfl | rfl <;> revert e <;> decide
    · exact escL_free (by rcases hc with rfl | rfl <;> decide) hm
theorem keyA_inj {a b : At} (ha : oidB a.1 = true) (hb : oidB b.1 = true) (h : keyA a = keyA b) : fa a = fa b := by
  obtain ⟨h1, h2⟩ := cutc (oid_free ha (.inr (.inr rfl))) (oid_free hb (.inr (.inr rfl))) h
  exact Prod.ext (ext_list_t h1) (ext_list_t (escL_inj h2))
theorem mem_join {c d : UInt8} : ∀ {ps : List (List UInt8)}, c ∈ Lib.join ps [d] → c = d ∨ ∃ p ∈ ps, c ∈ p
  | [], h => by cases h
  | [p], h => by
    rw [Lib.join_one] at h
    exact .inr ⟨p, List.mem_singleton.2 rfl, h⟩
  | p :: q :: r, h => by
    rw [join_two] at h
    rcases List.mem_append.1 h with h | h
    · exact .inr ⟨p, List.mem_cons_self, h⟩
    · rcases List.mem_cons.1 h with h | h
      · exact .inl h
      · rcases mem_join h with h | ⟨x, hx, hc⟩
        · exact .inl h
        · exact .inr ⟨x, List.mem_cons_of_mem _ hx, hc⟩
theorem join_mem {c d : UInt8} : ∀ {ps : List (List UInt8)} {p : List UInt8}, p ∈ ps → c ∈ p → c ∈ Lib.join ps [d]
  | [], _, h, _ => by cases h
  | [q], p, h, hc => by
    rw [Lib.join_one, ← List.mem_singleton.1 h]; exact hc
  | q :: q' :: r, p, h, hc => by
    rw [join_two]
    rcases List.mem_cons.1 h with rfl | h
    · exact List.mem_append_left _ hc
    · exact List.mem_append_right _ (List.mem_cons_of_mem _ (join_mem h hc))
theorem ordL_eq {L M : List (List UInt8)} (h : L.Perm M) : ordL L = ordL M := by
  have tr : ∀ a b c : List UInt8, decide (a ≤ b) = true → decide (b ≤ c) = true → decide (a ≤ c) = true := fun a b c h1 h2 => by simp only [decide_eq_true_eq] at *; exact List.le_trans h1 h2
  have tot : ∀ a b : List UInt8, (decide (a ≤ b) || decide (b ≤ a)) = true := fun a b => by simp only [Bool.or_eq_true, decide_eq_true_eq]; exact List.le_total a b
  refine List.Perm.eq_of_pairwise (le := fun a b => decide (a ≤ b) = true) (fun a b _ _ h1 h2 => ?_) (List.pairwise_mergeSort tr tot L) (List.pairwise_mergeSort tr tot M) ((ordL_perm L).trans (h.trans (ordL_perm M).symm))
  simp only [decide_eq_true_eq] at h1 h2
  exact List.le_antisymm h1 h2
/-- A relative name without an error. -/
def okR (r : List At) : Prop := 1 ≤ r.length ∧ (∀ a ∈ r, okA a) ∧ (r.map (·.1)).Nodup
theorem okR_of {r : List At} (h : chkR r = 0) : okR r := by
  obtain ⟨h1, _, h3, h4⟩ := (chkR_iff r).1 h
  exact ⟨h1, h3, h4⟩
theorem keyR_spl {r : List At} (h : okR r) : Spl 43 (joinR r) (keyR r) := by
  refine ⟨fun e => ?_, rfl, fun p hp => ?_⟩
  · have := congrArg List.length e
    unfold keyR at this
    rw [ordL_length, List.length_map] at this
    have h1 := h.1
    rw [List.length_nil] at this
    omega
  · obtain ⟨a, ha, rfl⟩ := List.mem_map.1 ((ordL_perm _).mem_iff.1 hp)
    exact keyA_free (h.2.1 a ha).1 (.inl rfl)
theorem joinR_comma {r : List At} (h : okR r) : (44 : UInt8) ∉ joinR r := by
  intro hm
  rcases mem_join hm with e | ⟨p, hp, hc⟩
  · revert e; decide
  · obtain ⟨a, ha, rfl⟩ := List.mem_map.1 ((ordL_perm _).mem_iff.1 hp)
    exact keyA_free (h.2.1 a ha).1 (.inr rfl) hc
theorem joinR_eq {r : List At} (h : okR r) : (61 : UInt8) ∈ joinR r := by
  obtain ⟨h1, _, _⟩ := h
  cases r with
  | nil => exact absurd h1 (by simp)
  | cons a r =>
    refine join_mem (p := keyA a) ((ordL_perm _).mem_iff.2 (List.mem_map.2 ⟨a, List.mem_cons_self, rfl⟩)) ?_
    exact List.mem_append_right _ List.mem_cons_self
theorem joinR_match {r s : List At} (hr : okR r) (hs : okR s) (h : joinR r = joinR s) : MatchR r s := by
  have e := spl_inj (keyR_spl hr) (by rw [h]; exact keyR_spl hs)
  have hp : (r.map keyA).Perm (s.map keyA) := (ordL_perm _).symm.trans ((show (keyR r).Perm (keyR s) from by rw [e]).trans (ordL_perm _))
  refine ⟨by have := hp.length_eq; rwa [List.length_map, List.length_map] at this, fun x hx => ?_, fun y hy => ?_⟩
  · obtain ⟨y, hy, e2⟩ := List.mem_map.1 (hp.mem_iff.1 (List.mem_map.2 ⟨x, hx, rfl⟩))
    exact ⟨y, hy, keyA_inj (hs.2.1 y hy).1 (hr.2.1 x hx).1 e2⟩
  · obtain ⟨x, hx, e2⟩ := List.mem_map.1 (hp.mem_iff.2 (List.mem_map.2 ⟨y, hy, rfl⟩))
    exact ⟨x, hx, keyA_inj (hr.2.1 x hx).1 (hs.2.1 y hy).1 e2⟩
theorem perm_of_sub {α : Type} [DecidableEq α] : ∀ {l m : List α}, l.Nodup → (∀ x ∈ l, x ∈ m) → m.length ≤ l.length → l.Perm m
  | [], m, _, _, h => by
    obtain rfl : m = [] := List.eq_nil_of_length_eq_zero (by simpa using h)
    exact List.Perm.refl _
  | x :: l, m, hn, hs, hl => by
    have hx := hs x List.mem_cons_self
    have hp := List.perm_cons_erase hx
    rw [List.nodup_cons] at hn
    have ih := perm_of_sub (l := l) (m := m.erase x) hn.2 (fun y hy => by
      refine (List.mem_erase_of_ne (fun (e : y = x) => hn.1 (by rw [← e]; exact hy))).2 (hs y (List.mem_cons_of_mem _ hy))) (by
      have := hp.length_eq
      rw [List.length_cons] at this hl
      omega)
    exact (ih.cons x).trans hp.symm
theorem nodup_fa {r : List At} (h : (r.map (·.1)).Nodup) : (r.map fa).Nodup := by
  unfold List.Nodup at h ⊢
  rw [List.pairwise_map] at h ⊢
  exact h.imp (fun {a b} hne => show fa a ≠ fa b from fun e => hne (show a.1 = b.1 from congrArg (fun p : ByteArray × ByteArray => p.1) e))
theorem match_joinR {r s : List At} (hr : okR r) (h : MatchR r s) : joinR r = joinR s := by
  have hp : (r.map fa).Perm (s.map fa) := perm_of_sub (nodup_fa hr.2.2) (fun p hp => by
    obtain ⟨x, hx, rfl⟩ := List.mem_map.1 hp
    obtain ⟨y, hy, e⟩ := h.2.1 x hx
    exact List.mem_map.2 ⟨y, hy, e⟩) (by rw [List.length_map, List.length_map, h.1]; exact Nat.le_refl _)
  unfold joinR keyR
  have := ordL_eq (hp.map keyP)
  rw [List.map_map, List.map_map] at this
  exact congrArg (fun l => Lib.join l [43]) this
theorem key_match {n m : Nm} (hn : ∀ r ∈ n, okR r) (hm : ∀ r ∈ m, okR r) : keyN n = keyN m ↔ MatchN n m := by
  have hg : ∀ (l : Nm) (i : Nat), i < l.length → (∀ r ∈ l, okR r) → okR (l.getD i []) := fun l i hi h => h _ (by rw [getD_mem hi _]; exact List.getElem_mem _)
  constructor
  · intro h
    have hmap : n.map joinR = m.map joinR := by
      cases n with
      | nil =>
        cases m with
        | nil => rfl
        | cons r m =>
          exfalso
          have h61 : (61 : UInt8) ∈ keyN (r :: m) := join_mem (List.mem_map.2 ⟨r, List.mem_cons_self, rfl⟩) (joinR_eq (hm r List.mem_cons_self))
          rw [← h] at h61
          cases h61
      | cons r n =>
        cases m with
        | nil =>
          exfalso
          have h61 : (61 : UInt8) ∈ keyN (r :: n) := join_mem (List.mem_map.2 ⟨r, List.mem_cons_self, rfl⟩) (joinR_eq (hn r List.mem_cons_self))
          rw [h] at h61
          cases h61
        | cons s m =>
          refine spl_inj (c := 44) (l := keyN (r :: n)) ⟨by simp, rfl, fun p hp => ?_⟩ ⟨by simp, h.symm, fun p hp => ?_⟩
          · obtain ⟨x, hx, rfl⟩ := List.mem_map.1 hp
            exact joinR_comma (hn x hx)
          · obtain ⟨x, hx, rfl⟩ := List.mem_map.1 hp
            exact joinR_comma (hm x hx)
    have hl : n.length = m.length := by have := congrArg List.length hmap; rwa [List.length_map, List.length_map] at this
    refine ⟨hl, fun i hi => ?_⟩
    have e := congrArg (fun L => L.getD i []) hmap
    simp only [List.getD_eq_getElem?_getD, List.getElem?_map] at e
    have h1 := hg n i hi hn
    have h2 := hg m i (by omega) hm
    refine joinR_match h1 h2 ?_
    rw [getD_mem hi _, getD_mem (by omega : i < m.length) _]
    rw [List.getElem?_eq_getElem hi, List.getElem?_eq_getElem (by omega : i < m.length)] at e
    exact e
  · intro h
    unfold keyN
    congr 1
    refine List.ext_getElem (by rw [List.length_map, List.length_map]; exact h.1) fun i h1 h2 => ?_
    rw [List.getElem_map, List.getElem_map]
    rw [List.length_map] at h1 h2
    have := match_joinR (hg n i h1 hn) (h.2 i h1)
    rw [getD_mem h1 _, getD_mem h2 _] at this
    exact this
end Go.Proofs.YtfpfgdbfigdooaaGreatDoor
namespace Go.Proofs.YtfpfgdbfigdooaaGreatDoor
open Go.RowKit Go.Sort

set_option maxRecDepth 100000 in
set_option maxHeartbeats 1000000 in
theorem assign_any (x v : ByteArray) (w : World) (hx : x.size ≤ 1000000) (hv : v.size ≤ 1000000) :
    Calls Tryz.prog 49 #[.string x, .string v] w fun e w' => e = .returned (.string (strOf (x.data.toList ++ 61 :: escL v.data.toList))) ∧ Below w.heap.size w w' := by
  have HE := Lib.hid (fun W => esc_any v W (by omega))
  have HL := Lib.hid (show (x ++ (⟨#[61]⟩ : ByteArray)) ++ escS v = strOf (x.data.toList ++ 61 :: escL v.data.toList) from by
    apply ext_list_t
    simp [escS, strOf])
  have hz := escS_size v
  obtain ⟨E, hE⟩ : ∃ E, E = escS v := ⟨_, rfl⟩
  rw [← hE] at HE HL hz
  have hz1 : E.size ≤ 3000000 := by omega
  have h1 : ∀ w, (Op.stringOp .add x ⟨#[61]⟩).run Tryz.prog w = .ok (.string (x ++ ⟨#[61]⟩)) w := fun w => run_string_add_sum w x _ (by show x.size + 1 ≤ _; omega)
  have h2 : ∀ w, (Op.stringOp .add (x ++ ⟨#[61]⟩) E).run Tryz.prog w = .ok (.string (x ++ ⟨#[61]⟩ ++ E)) w := fun w => run_string_add_sum w _ _ (by rw [ByteArray.size_append]; show x.size + 1 + E.size ≤ _; omega)
  clear hE hz
  go_enter Tryz.func49, Tryz.ntmps49
  go_wp2_with (go_at_call 75; (with_reducible refine (HE.out _).mono ?_); rintro e w1 ⟨rfl, hb1⟩; have HB := Lib.hid hb1; clear hb1)
  go_ret
  exact ⟨by rw [← HL.out]; rfl, HB.out⟩

/-- A row of strings, sorted. -/
theorem srow_any (g n : Nat) (L : List ByteArray) (w : World) (h : w.heap[g]? = some (.cells (rowT n L) 9 (0, 0))) (hl : L.length = n) (hn : n ≤ 1000000) :
    Calls Tryz.prog 51 #[.slice (some ⟨g, 0, none⟩) n n] w fun e w' => e = .returned (.tuple #[]) ∧ (∀ j x, ((ordL (lists L)).map strOf)[j]? = some x → w'.cell? ⟨g, 0 + j, none⟩ = some (.string x)) ∧ w.grownBy w' (some g) := by
  have hll : (lists L).length = n := by unfold lists; rw [List.length_map, hl]
  have hcur : (rowT n L).toList.take (lists L).length = (lists L).map encStr := by
    rw [rowT_all n L hl, hll, ← encStr_strings]
    exact List.take_of_length_le (by simp [hl])
  have hs := sort_any g 0 n (lists L) w (holds_of_block h hcur) (Array.getElem?_eq_some_iff.1 h).1 (by omega)
  rw [hll] at hs
  refine hs.mono fun e w' ⟨he, m, os, hw⟩ => ⟨he, fun j x hx => ?_, by rw [hw]; exact grownBy_sorted _⟩
  have hx' : (ordL (lists L))[j]? = some x.data.toList := by
    rw [List.getElem?_map] at hx
    cases hq : (ordL (lists L))[j]? with
    | none => rw [hq] at hx; cases hx
    | some y => rw [hq] at hx; rw [← Option.some.inj hx]; rfl
  have hj : j < (ordL (lists L)).length := (List.getElem?_eq_some_iff.1 hx').1
  have ho : w'.ownsRow g 9 1 (.slice (some ⟨g, 0, none⟩) n n) n ((ordL (lists L)).map encStr) := by
    rw [hw]
    have := ownsRow_sorted (n := m) (os := os) (ts := ordL (lists L)) (ss := lists L) (by rw [ordL_length]) (Nat.le_refl g) h (by rw [hll]; exact Nat.le_refl _) (by unfold maxLen; omega) (by rw [rowT_size n L (by omega), Nat.mul_one])
    rwa [hll] at this
  rw [Nat.zero_add, World.ownsRow.cellAt ho j (by rw [ordL_length, hll] at hj; rw [Nat.mul_one]; exact hj), List.getElem?_map, hx']
  rfl

/-- The row of the keys of attributes. -/
def keyS (a : At) : ByteArray := strOf (keyA a)
def outK (r : List At) : List ByteArray := (keyR r).map strOf
theorem outK_of (r : List At) : (ordL (lists (r.map keyS))).map strOf = outK r := by
  unfold outK keyR lists keyS
  rw [List.map_map]
  rfl
theorem outK_len (r : List At) : (outK r).length = r.length := by unfold outK keyR; rw [List.length_map, ordL_length, List.length_map]

set_option maxRecDepth 100000 in
set_option maxHeartbeats 4000000 in
theorem key1_any (a0 : Option Addr) (c n : Nat) (l : List At) (w : World) (h : ALies w a0 l) (hn : n = l.length) (hs : SmallR l) (hl : n ≤ 1000) :
    Calls Tryz.prog 48 #[.slice a0 n c] w fun e w' => ∃ g, e = .returned (.slice (some ⟨g, 0, none⟩) n n) ∧ (∀ j x, (outK l)[j]? = some x → w'.cell? ⟨g, 0 + j, none⟩ = some (.string x)) ∧ g < w'.heap.size ∧ Below w.heap.size w w' := by
  have hmk := strs_make n (by omega)
  obtain ⟨W0, hW0⟩ : ∃ W0, W0 = w.alloc (.cells (rowT n []) 9) := ⟨_, rfl⟩
  have hb0 : Below w.heap.size w W0 := by rw [hW0]; exact belowNew w _
  have hq0 : W0.heap[w.heap.size]? = some (.cells (rowT n []) 9 (0, 0)) := by rw [hW0]; exact heap_alloc_new w _
  obtain ⟨g, hg⟩ : ∃ g, g = w.heap.size := ⟨_, rfl⟩
  have HWE := Lib.hid hW0.symm
  have HB0 := Lib.hid hb0
  rw [← hg] at hq0
  have HQ0 := Lib.hid hq0
  have HG := Lib.hid hg
  have H1 := Lib.hid h
  have HN := Lib.hid hn
  have HS := Lib.hid hs
  clear h hn hs hW0 hb0 hq0 hg
  go_enter Tryz.func48, Tryz.ntmps48
  go_wp2_with fail
  rw [HWE.out, ← HG.out]
  clear hmk
  go_loopw [11] (fun i wr => ∃ k : Nat, k ≤ n ∧ i = .int .i64 (k : Int) ∧ wr.heap[g]? = some (.cells (rowT n ((l.take k).map keyS)) 9 (0, 0)) ∧ Below w.heap.size w wr) (fun i _ => n - (intOf i).toNat)
  case atStart => exact ⟨0, Nat.zero_le _, rfl, HQ0.out, HB0.out⟩
  case round =>
    obtain ⟨wo, hwo⟩ : ∃ wo, wo = wr := ⟨_, rfl⟩
    subst hwo
    obtain ⟨k, hk, rfl, hq, hb⟩ := hrel
    have HB := Lib.hid hb
    have HQ := Lib.hid hq
    clear hb hq
    by_cases hlt : k < n
    · have hd : decide ((k : Int) < (n : Int)) = true := by simp; omega
      obtain ⟨b, o, rfl, hb, c0, c1, c2⟩ := H1.out.at k (by rw [← HN.out]; exact hlt)
      have a0 : wo.cell? ⟨b, o + k * 3, none⟩ = _ := (HB.out.cell (p := ⟨b, o + k * 3, none⟩) hb).trans c0
      have a1 : wo.cell? ⟨b, o + k * 3 + 1, none⟩ = _ := (HB.out.cell (p := ⟨b, o + k * 3 + 1, none⟩) hb).trans c1
      have a2 : wo.cell? ⟨b, o + k * 3 + 2, none⟩ = _ := (HB.out.cell (p := ⟨b, o + k * 3 + 2, none⟩) hb).trans c2
      have hst : (l.take (k + 1)).map keyS = (l.take k).map keyS ++ [keyS (l.getD k noAt)] := by rw [takeD l k (by rw [← HN.out]; exact hlt) noAt]; simp
      have hsm := HS.out.2 k (by rw [← HN.out]; exact hlt)
      generalize l.getD k noAt = y at a0 a1 a2 hst hsm
      obtain ⟨t, kd, v⟩ := y
      simp only at a0 a1 a2
      have HF := Lib.hid (fun W => foldS_any v W (Nat.le_trans hsm.2 (by omega)))
      obtain ⟨F, hF⟩ : ∃ F, F = foldS v := ⟨_, rfl⟩
      have HA := Lib.hid (fun W => assign_any t (foldS v) W hsm.1 (Nat.le_trans (foldS_size v) hsm.2))
      have hks : keyS (t, kd, v) = strOf (t.data.toList ++ 61 :: escL (foldS v).data.toList) := rfl
      rw [← hks, ← hF] at HA
      rw [← hF] at HF
      obtain ⟨s, hs⟩ : ∃ s, s = keyS (t, kd, v) := ⟨_, rfl⟩
      rw [← hs] at HA hst
      have HST := Lib.hid hst
      have HLL := Lib.hid (show k = ((l.take k).map keyS).length by rw [List.length_map, List.length_take, ← HN.out]; omega)
      have hgl : g < wo.heap.size := (Array.getElem?_eq_some_iff.1 HQ.out).1
      obtain ⟨G, hGG⟩ : ∃ G, G = wo.heap.size := ⟨_, rfl⟩
      obtain ⟨V, hV⟩ : ∃ V, V = wo.alloc (.cells #[.string t, .int .i64 kd, .string v] 27) := ⟨_, rfl⟩
      have hbV : Below wo.heap.size wo V := by rw [hV]; exact belowNew wo _
      obtain ⟨y0, y1, y2, _, _, _, yl⟩ := at_facts (show V.heap[G]? = _ from by rw [hV, hGG]; exact heap_alloc_new wo _)
      have hqV := (hbV.block g hgl).trans HQ.out
      have HQV := Lib.hid hqV
      have hgV : g < V.heap.size := (Array.getElem?_eq_some_iff.1 hqV).1
      have HBV := Lib.hid (below_next HB.out hbV)
      have HVE := Lib.hid hV.symm
      have HGE := Lib.hid hGG
      obtain ⟨cv, hcv⟩ := rowT_at n ((l.take k).map keyS) (by have := HLL.out; omega) k hlt
      have HCV := Lib.hid hcv
      clear c0 c1 c2 hb hsm hs hst hks hF hbV hV hGG hqV hcv
      go_upto_region 5 with fail
      rw [HVE.out, ← HGE.out]
      clear a0 a1 a2
      have hki : (k : Int) < (n : Int) := by omega
      have hgG : ¬ g = G := by have := HGE.out; omega
      have hGg : ¬ G = g := by have := HGE.out; omega
      go_region_held3 (fun w' => w'.cell? ⟨G, 0, none⟩ = some (.string t) ∧ w'.cell? ⟨G, 2, none⟩ = some (.string v)) (first | exact ⟨by assumption, by assumption⟩ | go_keep)
        (first
          | (go_at_call 50; (with_reducible refine (HF.out _).mono ?_); rintro e x1 ⟨rfl, hb⟩; have hx : Below V.heap.size V x1 := (by first | exact hb | exact below_next (Below.refl _ _).drew hb); have d0' := (hx.cell (p := ⟨G, 0, none⟩) yl).trans y0; have d2' := (hx.cell (p := ⟨G, 2, none⟩) yl).trans y2; have HX1 := Lib.hid hx; clear hb hx)
          | (go_at_call 49; (with_reducible refine (HA.out _).mono ?_); rintro e x2 ⟨rfl, hb⟩; have hx : Below V.heap.size V x2 := below_next HX1.out hb; have d0' := (hx.cell (p := ⟨G, 0, none⟩) yl).trans y0; have d2' := (hx.cell (p := ⟨G, 2, none⟩) yl).trans y2; have hq2 := (hx.block g hgV).trans HQV.out; have HQ2 := Lib.hid hq2; have hcell : x2.cell? ⟨g, k, none⟩ = some cv := (by rw [Lib.cell_of_heap hq2]; exact HCV.out); have hfz : x2.frozen? ⟨g, k, none⟩ = false := Lib.frozen_of_heap hq2 k; have HX2 := Lib.hid (below_next HBV.out hx); clear hb hx hq2))
      all_goals
        go_wp2_with fail
        go_roundw
        case rel => exact ⟨k + 1, by omega, by go_num, by rw [HST.out]; exact row_put HQ2.out HLL.out hlt, HX2.out.setCell (p := ⟨g, k, none⟩) (by rw [HG.out]; exact Nat.le_refl _) _⟩
        case measure => simp [intOf]; omega
    · have hd : decide ((k : Int) < (n : Int)) = false := by simp; omega
      have hq := HQ.out
      rw [List.take_of_length_le (by rw [← HN.out]; omega)] at hq
      have HR := Lib.hid (srow_any g n (l.map keyS) wo hq (by rw [List.length_map, ← HN.out]) (by omega))
      rw [outK_of] at HR
      have hgl : g < wo.heap.size := (Array.getElem?_eq_some_iff.1 HQ.out).1
      clear hq
      go_wp2_with (go_at_call 51; (with_reducible refine HR.out.mono ?_); rintro e w1 ⟨rfl, hc1, hg1⟩; have HC1 := Lib.hid hc1; have HG1 := Lib.hid hg1; clear hc1 hg1)
      go_ret
      exact ⟨g, rfl, HC1.out, Nat.lt_of_lt_of_le hgl HG1.out.size, HB.out.grown HG1.out HB.out.size (fun k e => by obtain rfl := Option.some.inj e; rw [HG.out]; exact Nat.le_refl _)⟩
end Go.Proofs.YtfpfgdbfigdooaaGreatDoor
namespace Go.Proofs.YtfpfgdbfigdooaaGreatDoor
open Go.RowKit Go.Sort

/-- The function numbered f answers for a relative name with a new row of the strings out. -/
def GivesR (f : Nat) (out : List At → List ByteArray) (Pre : List At → Prop) (Inv : World → Prop) : Prop :=
  ∀ (a : Option Addr) (c q : Nat) (r : List At) (W : World), ALies W a r → q = r.length → q ≤ c → Pre r → Inv W →
    Calls Tryz.prog f #[.slice a q c] W fun e w' => ∃ g, e = .returned (.slice (some ⟨g, 0, none⟩) q q) ∧ (out r).length = q ∧ (∀ j x, (out r)[j]? = some x → w'.cell? ⟨g, 0 + j, none⟩ = some (.string x)) ∧ g < w'.heap.size ∧ Below W.heap.size W w'
def joinS (out : List At → List ByteArray) (r : List At) : ByteArray := ⟨(Lib.join ((out r).map (·.data.toList)) [43]).toArray⟩
theorem join_len (c : UInt8) (M : Nat) : ∀ (ps : List (List UInt8)), (∀ p ∈ ps, p.length ≤ M) → (Lib.join ps [c]).length ≤ (M + 1) * ps.length
  | [], _ => by show 0 ≤ _; omega
  | [p], h => by
    rw [Lib.join_one]
    have := h p List.mem_cons_self
    rw [List.length_singleton]
    omega
  | p :: q :: r, h => by
    have h1 := h p List.mem_cons_self
    have h2 := join_len c M (q :: r) (fun x hx => h x (List.mem_cons_of_mem _ hx))
    rw [join_two, List.length_append, List.length_cons, List.length_cons, Nat.mul_succ]
    omega

set_option maxRecDepth 100000 in
set_option maxHeartbeats 4000000 in
theorem djoin_core (f : Nat) (eg : ∀ args w, (callFunc f args).run Tryz.prog w = .ok (.enter f args) w) (out : List At → List ByteArray) (Pre : List At → Prop) (Inv : World → Prop) (hf : GivesR f out Pre Inv) (hI : ∀ W W', Inv W → Below W.heap.size W W' → Inv W')
    (hO : ∀ r, Pre r → (joinS out r).size ≤ 1000000) (a0 : Option Addr) (c m : Nat) (n : Nm) (w : World) (h : RLies w a0 n) (hn : m = n.length) (hm : m ≤ 1000) (hr : ∀ i, i < n.length → (n.getD i []).length ≤ 1000) (hp : ∀ i, i < n.length → Pre (n.getD i [])) (hi : Inv w) :
    Calls Tryz.prog 47 #[.agg #[.slice a0 m c], .func (.func f) #[] #[]] w fun e w' => e = .returned (.string ⟨(Lib.join ((n.map (joinS out)).map (·.data.toList)) [44]).toArray⟩) ∧ Below w.heap.size w w' := by
  have hmk := strs_make m (by omega)
  obtain ⟨W0, hW0⟩ : ∃ W0, W0 = w.alloc (.cells #[.slice a0 m c] 24) := ⟨_, rfl⟩
  have hwr : w.alloc (.cells #[.slice a0 m c] 24) = W0 := hW0.symm
  have hb0 : Below w.heap.size w W0 := by rw [hW0]; exact belowNew w _
  have hq0 : W0.heap[w.heap.size]? = some (.cells #[.slice a0 m c] 24 (0, 0)) := by rw [hW0]; exact heap_alloc_new w _
  have hz0 : W0.heap.size = w.heap.size + 1 := by rw [hW0]; simp
  obtain ⟨W1, hW1⟩ : ∃ W1, W1 = W0.alloc (.cells (rowT m []) 9) := ⟨_, rfl⟩
  have hb1 : Below W0.heap.size W0 W1 := by rw [hW1]; exact belowNew W0 _
  have hq1 : W1.heap[W0.heap.size]? = some (.cells (rowT m []) 9 (0, 0)) := by rw [hW1]; exact heap_alloc_new W0 _
  obtain ⟨g, hg⟩ : ∃ g, g = W0.heap.size := ⟨_, rfl⟩
  obtain ⟨c0, f0, l0⟩ := one_facts hq0
  have c1 := (hb1.cell (p := ⟨w.heap.size, 0, none⟩) l0).trans c0
  rw [← hg] at hq1
  have HWE := Lib.hid hW1.symm
  have HB1 := Lib.hid (below_next hb0 hb1)
  have HQ1 := Lib.hid hq1
  have hwg : w.heap.size ≤ g := by rw [hg, hz0]; omega
  have HG := Lib.hid hg
  have H1 := Lib.hid h
  have HN := Lib.hid hn
  have HF := Lib.hid hf
  have HP := Lib.hid hp
  have HR := Lib.hid hr
  have HI := Lib.hid (fun W (hb : Below w.heap.size w W) => hI w W hi hb)
  have HO := Lib.hid hO
  have hlast : ∀ L : List ByteArray, L = n.map (joinS out) → (Lib.join (L.map (·.data.toList)) [44]).length ≤ 140737488355328 := fun L hL => by
    have := join_len 44 1000000 (L.map (·.data.toList)) (fun p hp' => by
      obtain ⟨s, hs, rfl⟩ := List.mem_map.1 hp'
      rw [hL] at hs
      obtain ⟨r, hr', rfl⟩ := List.mem_map.1 hs
      obtain ⟨i, hi', rfl⟩ := List.getElem_of_mem hr'
      have := hO _ (hp i hi')
      rw [getD_mem hi' _] at this
      exact this)
    rw [List.length_map, hL, List.length_map, ← hn] at this
    rw [hL]
    exact Nat.le_trans this (by have := Nat.mul_le_mul_left (1000000 + 1) hm; omega)
  have HLA := Lib.hid hlast
  obtain ⟨E, hE⟩ : ∃ E : ByteArray, E = ⟨(Lib.join ((n.map (joinS out)).map (·.data.toList)) [44]).toArray⟩ := ⟨_, rfl⟩
  rw [← hE]
  have HE := Lib.hid hE
  clear hE
  clear h hn hf hp hr hI hi hO hW0 hW1 hb0 hb1 hq0 hq1 hg hz0 hlast
  go_enter Tryz.func47, Tryz.ntmps47
  go_wp2_with fail
  rw [HWE.out, ← HG.out]
  clear hmk c0 c1 f0 l0 hwr
  go_loopw [15] (fun i wr => ∃ k : Nat, k ≤ m ∧ i = .int .i64 (k : Int) ∧ wr.heap[g]? = some (.cells (rowT m ((n.take k).map (joinS out))) 9 (0, 0)) ∧ Below w.heap.size w wr) (fun i _ => m - (intOf i).toNat)
  case atStart => exact ⟨0, Nat.zero_le _, rfl, HQ1.out, HB1.out⟩
  case round =>
    obtain ⟨wo, hwo⟩ : ∃ wo, wo = wr := ⟨_, rfl⟩
    subst hwo
    obtain ⟨k, hk, rfl, hq, hb⟩ := hrel
    have HB := Lib.hid hb
    have HQ := Lib.hid hq
    clear hb hq
    by_cases hlt : k < m
    · have hd : decide ((k : Int) < (m : Int)) = true := by simp; omega
      have hki : (k : Int) < (m : Int) := by omega
      obtain ⟨b, o, rfl, hb, a', c', e0, hc', hL⟩ := H1.out.at k (by rw [← HN.out]; exact hlt)
      have a0 : wo.cell? ⟨b, o + k, none⟩ = _ := (HB.out.cell (p := ⟨b, o + k, none⟩) hb).trans e0
      have hst : (n.take (k + 1)).map (joinS out) = (n.take k).map (joinS out) ++ [joinS out (n.getD k [])] := by rw [takeD n k (by rw [← HN.out]; exact hlt) []]; simp
      have hpr := HP.out k (by rw [← HN.out]; exact hlt)
      have hrz := HR.out k (by rw [← HN.out]; exact hlt)
      generalize n.getD k [] = r at a0 hst hpr hc' hL hrz
      obtain ⟨q, hqq⟩ : ∃ q, q = r.length := ⟨_, rfl⟩
      rw [← hqq] at a0 hc' hrz
      have HGR := Lib.hid (HF.out a' c' q r wo (hL.below HB.out) hqq hc' hpr (HI.out wo HB.out))
      have HJ := Lib.hid (HO.out r hpr)
      have HST := Lib.hid hst
      have HLL := Lib.hid (show k = ((n.take k).map (joinS out)).length by rw [List.length_map, List.length_take, ← HN.out]; omega)
      have hgl : g < wo.heap.size := (Array.getElem?_eq_some_iff.1 HQ.out).1
      obtain ⟨J, hJ⟩ : ∃ J, J = joinS out r := ⟨_, rfl⟩
      rw [← hJ] at HST
      have HJJ := Lib.hid hJ
      clear e0 hb hst hpr hqq hL hc' hJ
      go_wp2_with (first
        | (go_at_fn f; refine HGR.out.mono ?_; rintro e w3 ⟨g3, rfl, hlen3, hc3, hl3, hb3⟩; have hq3 := (hb3.block g hgl).trans HQ.out; have HQ3 := Lib.hid hq3; have HB3 := Lib.hid (below_next HB.out hb3); have hj3 := join_any g3 0 q (out r) ⟨#[43]⟩ w3 hc3 hl3 (by rw [hlen3]; omega) (by rw [hlen3]; exact Nat.le_refl _) (by have := HJ.out; exact Nat.le_trans this (by omega)); rw [hlen3] at hj3; have HJ3 := Lib.hid hj3; clear hb3 hq3 hj3 hc3 hl3 hlen3)
        | (go_at_call 74; (with_reducible refine HJ3.out.mono ?_); rintro e w4 ⟨he, hb4⟩; obtain rfl : e = .returned (.string J) := (by rw [he, HJJ.out]; rfl); have hq4 := (hb4.block g (Array.getElem?_eq_some_iff.1 HQ3.out).1).trans HQ3.out; have HQ4 := Lib.hid hq4; have HB4 := Lib.hid (below_next HB3.out hb4); obtain ⟨cv, hcv⟩ := rowT_at m ((n.take k).map (joinS out)) (by have := HLL.out; omega) k hlt; have hcell : w4.cell? ⟨g, k, none⟩ = some cv := (by rw [Lib.cell_of_heap hq4]; exact hcv); have hfz : w4.frozen? ⟨g, k, none⟩ = false := Lib.frozen_of_heap hq4 k; clear hb4 hq4 hcv he))
      go_roundw
      case rel => exact ⟨k + 1, by omega, by go_num, by rw [HST.out]; exact row_put HQ4.out HLL.out hlt, HB4.out.setCell (p := ⟨g, k, none⟩) hwg _⟩
      case measure => simp [intOf]; omega
    · have hd : decide ((k : Int) < (m : Int)) = false := by simp; omega
      have hq := HQ.out
      rw [List.take_of_length_le (by rw [← HN.out]; omega)] at hq
      obtain ⟨X, hX⟩ : ∃ X, X = n.map (joinS out) := ⟨_, rfl⟩
      rw [← hX] at hq
      have hXl : X.length = m := by rw [hX, List.length_map, ← HN.out]
      have hgl : g < wo.heap.size := (Array.getElem?_eq_some_iff.1 hq).1
      have hj := join_any g 0 m X ⟨#[44]⟩ wo (fun j x hx => by
        rw [Nat.zero_add, Lib.cell_of_heap hq, rowT_all m X hXl]
        simp [hx]) hgl (by rw [hXl]; omega) (by rw [hXl]; exact Nat.le_refl _) (HLA.out X hX)
      rw [hXl] at hj
      have HJ := Lib.hid hj
      have HEX := Lib.hid (show E = ⟨(Lib.join (X.map (·.data.toList)) [44]).toArray⟩ by rw [HE.out, hX])
      clear hq hX hXl hj
      go_wp2_with (go_at_call 74; (with_reducible refine HJ.out.mono ?_); rintro e w4 ⟨he, hb4⟩; obtain rfl : e = .returned (.string E) := (by rw [he, HEX.out]); have HB4 := Lib.hid (below_next HB.out hb4); clear hb4 he)
      go_ret
      exact ⟨rfl, HB4.out⟩
end Go.Proofs.YtfpfgdbfigdooaaGreatDoor
namespace Go.Proofs.YtfpfgdbfigdooaaGreatDoor
open Go.RowKit

def SpS (r : List At) : Prop := SpR 100 r
theorem SpR.more {L M : Nat} {r : List At} (h : SpR L r) (hL : L ≤ M) : SpR M r := ⟨h.1, fun x hx => ⟨(h.2 x hx).1, Nat.le_trans (h.2 x hx).2 hL⟩⟩
theorem SpS.small {r : List At} (h : SpS r) : SmallR r := by
  refine ⟨Nat.le_trans h.1 (by omega), fun j hj => ?_⟩
  have hx := h.2 _ (getD_memS _ j hj noAt)
  exact ⟨Nat.le_trans hx.1 (by omega), Nat.le_trans hx.2 (by omega)⟩
theorem outK_list (r : List At) : (outK r).map (·.data.toList) = keyR r := strOf_back _
theorem joinS_K (r : List At) : joinS outK r = strOf (joinR r) := by unfold joinS joinR; rw [outK_list]; rfl
theorem keyA_len {a : At} (h1 : a.1.size ≤ 100) (h2 : a.2.2.size ≤ 100) : (keyA a).length ≤ 401 := by
  have e1 : (keyA a).length = a.1.data.toList.length + ((escL (foldS a.2.2).data.toList).length + 1) := by
    show (a.1.data.toList ++ 61 :: escL (foldS a.2.2).data.toList).length = _
    rw [List.length_append, List.length_cons]
  have e2 := escL_len (foldS a.2.2).data.toList
  have e3 := foldS_size a.2.2
  have e4 : (foldS a.2.2).data.toList.length = (foldS a.2.2).size := rfl
  have e5 : a.1.data.toList.length = a.1.size := rfl
  omega
theorem joinS_small {r : List At} (h : SpS r) : (joinS outK r).size ≤ 1000000 := by
  rw [joinS_K]
  show (joinR r).length ≤ _
  have hl := join_len 43 401 (keyR r) (fun p hp => by
    obtain ⟨a, ha, rfl⟩ := List.mem_map.1 ((ordL_perm _).mem_iff.1 hp)
    exact keyA_len (h.2 a ha).1 (h.2 a ha).2)
  have e : (keyR r).length = r.length := by unfold keyR; rw [ordL_length, List.length_map]
  rw [e] at hl
  have := h.1
  unfold joinR
  omega
theorem key_text (n : Nm) : (⟨(Lib.join ((n.map (joinS outK)).map (·.data.toList)) [44]).toArray⟩ : ByteArray) = strOf (keyN n) := by
  unfold keyN
  rw [List.map_map]
  have e : (ByteArray.data · |>.toList) ∘ joinS outK = joinR := by
    funext r
    show (joinS outK r).data.toList = _
    rw [joinS_K]; rfl
  rw [e]
  rfl
theorem gives_key : GivesR 48 outK SpS (fun _ => True) := by
  intro a c q r W h hq _ hp _
  refine (key1_any a c q r W h hq hp.small (by have := hp.1; omega)).mono fun e w' ⟨g, he, hc, hl, hb⟩ => ⟨g, he, by rw [outK_len, hq], hc, hl, hb⟩

set_option maxRecDepth 100000 in
set_option maxHeartbeats 1000000 in
theorem key_core (a0 : Option Addr) (c m : Nat) (n : Nm) (w : World) (h : RLies w a0 n) (hn : m = n.length) (hs : SpN 100 n) :
    Calls Tryz.prog 25 #[.agg #[.slice a0 m c]] w fun e w' => e = .returned (.string (strOf (keyN n))) ∧ Below w.heap.size w w' := by
  obtain ⟨W0, hW0⟩ : ∃ W0, W0 = w.alloc (.cells #[.slice a0 m c] 24) := ⟨_, rfl⟩
  have hwr : w.alloc (.cells #[.slice a0 m c] 24) = W0 := hW0.symm
  have hb0 : Below w.heap.size w W0 := by rw [hW0]; exact belowNew w _
  have hq0 : W0.heap[w.heap.size]? = some (.cells #[.slice a0 m c] 24 (0, 0)) := by rw [hW0]; exact heap_alloc_new w _
  obtain ⟨c0, f0, l0⟩ := one_facts hq0
  have hp : ∀ i, i < n.length → SpS (n.getD i []) := fun i hi => hs.2 _ (getD_memS n i hi [])
  have HJ := djoin_core 48 (enters_of Tryz.func48 (by kernel_rfl) rfl) outK SpS (fun _ => True) gives_key (fun _ _ _ _ => trivial) (fun r hr => joinS_small hr) a0 c m n W0 (h.below hb0) hn (by rw [hn]; have := hs.1; omega) (fun i hi => by have := (hp i hi).1; omega) hp trivial
  rw [key_text] at HJ
  have HJ2 := Lib.hid HJ
  have HB0 := Lib.hid hb0
  generalize strOf (keyN n) = K at HJ2
  clear HJ hW0 hb0 hq0 hp h hn hs
  go_enter Tryz.func25, Tryz.ntmps25
  go_wp2_with (go_at_call 47; (with_reducible refine HJ2.out.mono ?_); rintro e w1 ⟨rfl, hb1⟩; have HB1 := Lib.hid (below_next HB0.out hb1); clear hb1)
  go_ret
  exact ⟨rfl, HB1.out⟩

/-! ### In a region that draws -/
theorem hold_key {V : World} {q1 N1 c1 : Nat} {a1 : Option Addr} {n1 : Nm} (h1 : HoldAt V q1 a1 N1 c1 n1) (hs : SpN 100 n1) (K : ByteArray) (hK : strOf (keyN n1) = K) (d : Nat) (os : Array Obj) :
    Calls Tryz.prog 25 #[.agg #[.slice a1 N1 c1]] (Sort.grow (redrawn V d) os) fun e w'' => e = .returned (.string K) ∧ ∃ p : Regrown, w'' = Sort.grow (redrawn V p.d) p.os := by
  refine Calls.regrown_of ?_
  rw [← hK]
  exact key_core a1 c1 N1 n1 _ (h1.2.2.2.1.below (below_regrown V d os)) h1.2.1 hs
theorem hold_rmatch {V : World} {q1 N1 c1 q2 N2 c2 : Nat} {a1 a2 : Option Addr} {n1 n2 : Nm} (h1 : HoldAt V q1 a1 N1 c1 n1) (h2 : HoldAt V q2 a2 N2 c2 n2) (v : Bool) (hv : decide (MatchN n1 n2) = v) (d : Nat) (os : Array Obj) :
    Calls Tryz.prog 26 #[.agg #[.slice a1 N1 c1], .agg #[.slice a2 N2 c2]] (Sort.grow (redrawn V d) os) fun e w'' => e = .returned (.bool v) ∧ ∃ p : Regrown, w'' = Sort.grow (redrawn V p.d) p.os := by
  refine Calls.regrown_of ?_
  rw [← hv]
  exact rmatch_core a1 a2 c1 c2 N1 N2 n1 n2 _ (h1.2.2.2.1.below (below_regrown V d os)) (h2.2.2.2.1.below (below_regrown V d os)) h1.2.1 h2.2.1 h1.2.2.2.2 h2.2.2.2.2
end Go.Proofs.YtfpfgdbfigdooaaGreatDoor
namespace Go.Proofs.YtfpfgdbfigdooaaGreatDoor
open Go.RowKit

theorem SpN.more {L M : Nat} {n : Nm} (h : SpN L n) (hL : L ≤ M) : SpN M n := ⟨h.1, fun r hr => (h.2 r hr).more hL⟩
theorem ok_all {n : Nm} (h : chkN n = 0) : ∀ r ∈ n, okR r := fun r hr => okR_of (((chkN_iff n).1 h).2 r hr)

set_option maxRecDepth 100000 in
set_option maxHeartbeats 8000000 in
theorem keylaw (a : Option Addr) (cap : Nat) (zs : List Int) (w : World) (hl : ILies w a zs) (hz : zs.length ≤ 9223372036854775807) (hT : Tab w) (hS : ShT w) :
    Calls Tryz.prog 6 #[.slice a zs.length cap] w fun e w' => e = .returned (.bool true) ∧ Below w.heap.size w w' := by
  have HL := Lib.hid (new_any a cap zs w hl hz)
  have HT := Lib.hid hT
  have HS := Lib.hid hS
  obtain ⟨p, hp⟩ : ∃ p, p = w.heap.size := ⟨_, rfl⟩
  have HP := Lib.hid hp
  clear hl hT hS hp
  go_enter Tryz.func6, Tryz.ntmps6
  go_wp2_with fail
  refine HL.out.mono ?_
  rintro e w1 ⟨rfl, hd, hb⟩
  rw [← HP.out] at hd hb ⊢
  have HB1 := Lib.hid hb
  have HD1 := Lib.hid hd
  clear hd hb
  go_wp2_with fail
  refine (name_any p a cap zs 0 w1 HD1.out (by omega)).mono ?_
  rintro e w2 ⟨v, n, k2, hmade, rfl, ⟨s, rfl, hown⟩, hd, hk2, hb⟩
  have hp1 := HD1.out.lt
  obtain ⟨aA, cA, rfl, hcA, _⟩ := hown.lies
  obtain ⟨A, hA⟩ : ∃ A, A = w2.heap.size := ⟨_, rfl⟩
  have hpA : p < A := by rw [hA]; exact hd.lt
  obtain ⟨W3, hW3⟩ : ∃ W3, W3 = w2.alloc (.cells #[.slice aA n.length cA] 24) := ⟨_, rfl⟩
  have HH := Lib.hid (show Held W3 A w1.heap.size n from ⟨_, by rw [hW3, hA]; exact heap_alloc_new w2 _, by rw [hW3]; exact hown.below (belowNew w2 _)⟩)
  have HD := Lib.hid (show DeckAt W3 p a cap zs k2 by rw [hW3]; exact hd.below (belowNew w2 _))
  have HBW := Lib.hid (show Below p w W3 by rw [hW3]; exact (HB1.out.trans ((hb.below (Nat.le_of_lt hp1)))).trans ((belowNew w2 _).mono (by omega)))
  have HSn := Lib.hid (spN_of_made hmade)
  have HCn := Lib.hid (made_chkN hmade)
  have HW3 := Lib.hid hW3.symm
  have HA := Lib.hid hA
  clear hd hb hown hmade hA hW3
  go_upto_region 3 with fail
  rw [HW3.out, ← HA.out]
  have hp1' : p < w1.heap.size := hp1
  generalize w1.heap.size = lo at HH hp1'
  obtain ⟨s0, h0, vs, hv1, hv2, hv3⟩ := HH.out
  have hown0 : OwnN W3 lo s0 n := ⟨vs, hv1, hv2, hv3⟩
  obtain ⟨aB, cB, rfl, hcB, _⟩ := hown0.lies
  have HV1 := Lib.hid hv1
  have HV2 := Lib.hid hv2
  have HV3 := Lib.hid hv3
  have c0 : W3.cell? ⟨A, 0, none⟩ = some (.slice aB n.length cB) := (one_facts h0).1
  clear h0 hv1 hv2 hv3 hown0 hcA
  have HSP := Lib.hid (spel_any p a cap zs k2 aB n.length cB cB lo 20 n vs W3 HD.out (by omega) HV1.out HV2.out HV3.out hp1' (Nat.le_refl _) HSn.out (by omega))
  rw [List.take_length] at HSP
  go_upto_region 4 with (first
    | (go_at_call 24; (with_reducible refine HSP.out.mono ?_); rintro e w4 ⟨v4, m, k4, hm4, hs4, rfl, ⟨s4, rfl, ho4⟩, hd4, hk4, hb4⟩; obtain ⟨a4, c4, rfl, hc4, _⟩ := ho4.lies; have HM4 := Lib.hid hm4; have HS4 := Lib.hid hs4; have HO4 := Lib.hid ho4; have HD4 := Lib.hid hd4; have HB4 := Lib.hid hb4; clear hm4 hs4 ho4 hd4 hb4)
    | (go_at_call 11; (with_reducible refine (name_any p a cap zs k4 _ HD4.out (by omega)).mono ?_); rintro e w5 ⟨v5, q, k5, hmade5, rfl, ⟨s5, rfl, ho5⟩, hd5, hk5, hb5⟩; obtain ⟨a5, c5, rfl, hc5, _⟩ := ho5.lies; have HS5 := Lib.hid (spN_of_made hmade5); have HC5 := Lib.hid (made_chkN hmade5); have HO5 := Lib.hid ho5; have HD5 := Lib.hid hd5; have HB5 := Lib.hid hb5; clear hmade5 ho5 hd5 hb5))
  obtain ⟨B, hB⟩ : ∃ B, B = w5.heap.size := ⟨_, rfl⟩
  obtain ⟨V, hV⟩ : ∃ V, V = (w5.alloc (.cells #[.slice a4 m.length c4] 24)).alloc (.cells #[.slice a5 q.length c5] 24) := ⟨_, rfl⟩
  have hbV : Below w5.heap.size w5 V := by rw [hV]; exact belowTwo w5 _ _
  have hA5 : A < w5.heap.size := Nat.lt_of_lt_of_le (block_lt c0) (HB4.out.next HB5.out).size
  have HVb := Lib.hid (show HoldAt V B a4 m.length c4 m from by
    obtain ⟨x1, x2, hx, hx2, hx3⟩ := (HO4.out.but HB5.out HD.out.lt).lies
    obtain ⟨rfl, rfl⟩ : a4 = x1 ∧ c4 = x2 := by simpa using hx
    refine ⟨?_, rfl, hx2, hx3.below hbV, small_of_sp HS4.out (by omega)⟩
    rw [hV, World.cell?_alloc_old _ _ _ (by simp [hB]), hB]
    exact (one_facts (heap_alloc_new w5 _)).1)
  have HVc := Lib.hid (show HoldAt V (B + 1) a5 q.length c5 q from by
    obtain ⟨x1, x2, hx, hx2, hx3⟩ := HO5.out.lies
    obtain ⟨rfl, rfl⟩ : a5 = x1 ∧ c5 = x2 := by simpa using hx
    refine ⟨?_, rfl, hx2, hx3.below hbV, small_of_sp HS5.out (by omega)⟩
    have := (one_facts (heap_alloc_new (w5.alloc (.cells #[.slice a4 m.length c4] 24)) (.cells #[.slice a5 q.length c5] 24))).1
    rw [hV, hB]
    rw [show (w5.alloc (.cells #[.slice a4 m.length c4] 24)).heap.size = w5.heap.size + 1 from by simp] at this
    exact this)
  have HVa0 := (HH.out.but (HB4.out.next HB5.out) (by omega) hp1').open HSn.out (by omega)
  obtain ⟨xa, xn, xc, HVa1⟩ := HVa0
  have HVa := Lib.hid (HVa1.below hbV)
  have HBV := Lib.hid (show Below w.heap.size w V from by
    rw [← HP.out]
    exact (HBW.out.trans ((HB4.out.next HB5.out).below (Nat.le_of_lt HD.out.lt))).trans (hbV.mono (Nat.le_of_lt HD5.out.lt)))
  rw [← hV, ← hB]
  have HVE := Lib.hid hV
  have HBE := Lib.hid hB
  clear hV hB hbV HVa1 c0
  have cb := HVb.out.1
  have HCB := Lib.hid (rchk_core a4 c4 m.length m V HVb.out.2.2.2.1 rfl HVb.out.2.2.2.2)
  obtain ⟨E, hE⟩ : ∃ E, E = chkN m := ⟨_, rfl⟩
  rw [← hE] at HCB
  have HEE := Lib.hid hE
  clear hE
  have HTV := Lib.hid (HT.out.below HBV.out)
  have HSV := Lib.hid (HS.out.below HBV.out)
  by_cases hz0 : E = 0
  · subst hz0
    go_upto_region 6 with (go_at_call 17; (with_reducible refine HCB.out.mono ?_); rintro e w7 ⟨rfl, hb7⟩; have HB7 := Lib.hid hb7; clear hb7)
    have hb7 := HB7.out
    have HK1 := Lib.hid (HVa.out.below hb7)
    have HK2 := Lib.hid (HVb.out.below hb7)
    have HK3 := Lib.hid (HVc.out.below hb7)
    have HTW := Lib.hid (below_next HBV.out hb7)
    clear hb7 cb
    have hkm : keyN n = keyN m := (key_match (ok_all HCn.out) (ok_all HEE.out.symm)).2 HM4.out
    have hkq : decide (keyN n = keyN q) = decide (MatchN n q) := by rw [decide_eq_decide]; exact key_match (ok_all HCn.out) (ok_all HC5.out)
    have ht := awake_held (HT.out.below HTW.out) (HS.out.below HTW.out)
    have c1 := cell_regrown HK1.out.1
    have c2 := cell_regrown HK2.out.1
    have c3 := cell_regrown HK3.out.1
    obtain ⟨K, hK⟩ : ∃ K, strOf (keyN n) = K := ⟨_, rfl⟩
    obtain ⟨L, hL⟩ : ∃ L, strOf (keyN q) = L := ⟨_, rfl⟩
    have d1 := hold_key HK1.out (HSn.out.more (by omega)) K hK
    have d2 := hold_key HK2.out (HS4.out.more (by omega)) K (by rw [← hkm]; exact hK)
    have d3 := hold_key HK3.out (HS5.out.more (by omega)) L hL
    have e1 : (K.toList == K.toList) = true := by simp
    cases hx : decide (MatchN n q) with
    | true =>
      have d4 := hold_rmatch HK1.out HK3.out true hx
      rw [hx] at hkq
      have hKL : K = L := by rw [← hK, ← hL, of_decide_eq_true hkq]
      have e2 : (K.toList == L.toList) = true := by rw [hKL]; simp
      clear hx hkq hkm hK hL hKL
      refine wp_region_quiet_below (by kernel_rfl) (by kernel_rfl) ?_
      repeat (go_big_quiet_step (with_reducible first | exact ht _ _ | exact d1 _ _ | exact d2 _ _ | exact d3 _ _ | exact d4 _ _))
      refine wpQuiet_nil ?_
      intro _ hw'
      obtain ⟨⟨dq, osq⟩, hw''⟩ := hw'
      subst hw''
      have HZ := Lib.hid (below_next HTW.out (below_regrown w7 dq osq))
      clear c1 c2 c3 d1 d2 d3 d4 ht
      go_wp2_with fail
      go_ret
      exact ⟨rfl, HZ.out⟩
    | false =>
      have d4 := hold_rmatch HK1.out HK3.out false hx
      rw [hx] at hkq
      have hKL : ¬ K = L := fun e => of_decide_eq_false hkq (strOf_inj (by rw [hK, hL, e]))
      have e2 : (K.toList == L.toList) = false := by rw [beq_str]; exact decide_eq_false hKL
      clear hx hkq hkm hK hL hKL
      refine wp_region_quiet_below (by kernel_rfl) (by kernel_rfl) ?_
      repeat (go_big_quiet_step (with_reducible first | exact ht _ _ | exact d1 _ _ | exact d2 _ _ | exact d3 _ _ | exact d4 _ _))
      refine wpQuiet_nil ?_
      intro _ hw'
      obtain ⟨⟨dq, osq⟩, hw''⟩ := hw'
      subst hw''
      have HZ := Lib.hid (below_next HTW.out (below_regrown w7 dq osq))
      clear c1 c2 c3 d1 d2 d3 d4 ht
      go_wp2_with fail
      go_ret
      exact ⟨rfl, HZ.out⟩
  · have hne := errno_ne hz0
    go_wp2_with (first
      | (go_at_call 17; (with_reducible refine HCB.out.mono ?_); rintro e w7 ⟨rfl, hb7⟩; have HB7 := Lib.hid (below_next HBV.out hb7); clear hb7)
      | (go_at_call 9; (with_reducible refine (awake_any _ (HT.out.below HB7.out) (HS.out.below HB7.out)).mono ?_); rintro e w8 ⟨rfl, hb8⟩; have HB8 := Lib.hid (below_next HB7.out hb8); clear hb8))
    go_ret
    exact ⟨rfl, HB8.out⟩
end Go.Proofs.YtfpfgdbfigdooaaGreatDoor
