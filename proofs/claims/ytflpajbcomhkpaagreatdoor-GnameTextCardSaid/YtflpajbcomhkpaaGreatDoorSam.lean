/-
  The table of short types and the contracts of typeOf and kindOf.
  The contract of text.Unescape: the string whose escaped form is the given one, if there is one; nothing that was there before the call has changed.
  What a text denotes as a name, as a function of the text; the contracts of kindOf and parseAttribute.
  The contract of parseAttribute: the attribute that a text denotes, if it denotes one.
  The contract of parseRelative: the relative name that a text denotes, if it denotes one.
-/
import Derived.Test.YtflpajbcomhkpaaGreatDoorSak
import Derived.Test.YtflpajbcomhkpaaGreatDoorSaf
import Derived.Test.YtflpajbcomhkpaaGreatDoorSac
namespace Go.Proofs.YtflpajbcomhkpaaGreatDoor
open Go.RowKit

/-- The short types and their object identifiers. -/
def SH : List (ByteArray × ByteArray) := [(⟨#[67, 78]⟩, ⟨#[50, 46, 53, 46, 52, 46, 51]⟩), (⟨#[67]⟩, ⟨#[50, 46, 53, 46, 52, 46, 54]⟩), (⟨#[76]⟩, ⟨#[50, 46, 53, 46, 52, 46, 55]⟩), (⟨#[79]⟩, ⟨#[50, 46, 53, 46, 52, 46, 49, 48]⟩), (⟨#[79, 85]⟩, ⟨#[50, 46, 53, 46, 52, 46, 49, 49]⟩), (⟨#[68, 67]⟩, ⟨#[48, 46, 57, 46, 50, 51, 52, 50, 46, 49, 57, 50, 48, 48, 51, 48, 48, 46, 49, 48, 48, 46, 49, 46, 50, 53]⟩), (⟨#[69]⟩, ⟨#[49, 46, 50, 46, 56, 52, 48, 46, 49, 49, 51, 53, 52, 57, 46, 49, 46, 57, 46, 49]⟩)]
def shArr : Array Value := #[.string ⟨#[67, 78]⟩, .string ⟨#[50, 46, 53, 46, 52, 46, 51]⟩, .string ⟨#[67]⟩, .string ⟨#[50, 46, 53, 46, 52, 46, 54]⟩, .string ⟨#[76]⟩, .string ⟨#[50, 46, 53, 46, 52, 46, 55]⟩, .string ⟨#[79]⟩, .string ⟨#[50, 46, 53, 46, 52, 46, 49, 48]⟩, .string ⟨#[79, 85]⟩, .string ⟨#[50, 46, 53, 46, 52, 46, 49, 49]⟩, .string ⟨#[68, 67]⟩, .string ⟨#[48, 46, 57, 46, 50, 51, 52, 50, 46, 49, 57, 50, 48, 48, 51, 48, 48, 46, 49, 48, 48, 46, 49, 46, 50, 53]⟩, .string ⟨#[69]⟩, .string ⟨#[49, 46, 50, 46, 56, 52, 48, 46, 49, 49, 51, 53, 52, 57, 46, 49, 46, 57, 46, 49]⟩]
/-- The table lies as the program's text lays it. -/
def ShT (w : World) : Prop := ∀ j, j < 14 → w.cell? ⟨1, j, none⟩ = shArr[j]?
theorem ShT.lt {w : World} (h : ShT w) : 1 < w.heap.size := block_lt ((h 0 (by omega)).trans rfl)
theorem ShT.below {w w' : World} (h : ShT w) (hb : Below w.heap.size w w') : ShT w' := fun j hj => (hb.cell (p := ⟨1, j, none⟩) h.lt).trans (h j hj)
theorem index_short (k : Nat) (hk : k < 7) (w : World) : (Instr.index 197 (.agg #[.string ⟨#[67, 78]⟩, .string ⟨#[50, 46, 53, 46, 52, 46, 51]⟩, .string ⟨#[67]⟩, .string ⟨#[50, 46, 53, 46, 52, 46, 54]⟩, .string ⟨#[76]⟩, .string ⟨#[50, 46, 53, 46, 52, 46, 55]⟩, .string ⟨#[79]⟩, .string ⟨#[50, 46, 53, 46, 52, 46, 49, 48]⟩, .string ⟨#[79, 85]⟩, .string ⟨#[50, 46, 53, 46, 52, 46, 49, 49]⟩, .string ⟨#[68, 67]⟩, .string ⟨#[48, 46, 57, 46, 50, 51, 52, 50, 46, 49, 57, 50, 48, 48, 51, 48, 48, 46, 49, 48, 48, 46, 49, 46, 50, 53]⟩, .string ⟨#[69]⟩, .string ⟨#[49, 46, 50, 46, 56, 52, 48, 46, 49, 49, 51, 53, 52, 57, 46, 49, 46, 57, 46, 49]⟩]) (.int .i64 (k : Int))).run Tryz.prog w = .ok (.agg #[.string (SH.getD k (⟨#[]⟩, ⟨#[]⟩)).1, .string (SH.getD k (⟨#[]⟩, ⟨#[]⟩)).2]) w := by
  rcases (by omega : k = 0 ∨ k = 1 ∨ k = 2 ∨ k = 3 ∨ k = 4 ∨ k = 5 ∨ k = 6) with rfl | rfl | rfl | rfl | rfl | rfl | rfl <;> kernel_rfl
/-- The type that a word stands for, and whether it stands for one. -/
noncomputable def typ (x : ByteArray) : ByteArray × Bool := match SH.find? (fun p => decide (p.1 = x)) with | some p => (p.2, true) | none => (x, oidB x)
theorem find_first {x : ByteArray} {d : ByteArray × ByteArray} : ∀ (l : List (ByteArray × ByteArray)) (k : Nat), k < l.length → (∀ j, j < k → (l.getD j d).1 ≠ x) → (l.getD k d).1 = x → l.find? (fun p => decide (p.1 = x)) = some (l.getD k d)
  | [], k, h, _, _ => absurd h (Nat.not_lt_zero _)
  | p :: l, 0, _, _, h => by
    rw [List.find?_cons_of_pos (by simpa using h)]; rfl
  | p :: l, k + 1, h, h1, h2 => by
    rw [List.find?_cons_of_neg (by simpa using h1 0 (by omega)), find_first (d := d) l k (by simpa using h) (fun j hj => by simpa using h1 (j + 1) (by omega)) (by simpa using h2)]
    simp
theorem find_no {x : ByteArray} {d : ByteArray × ByteArray} {l : List (ByteArray × ByteArray)} (h : ∀ j, j < l.length → (l.getD j d).1 ≠ x) : l.find? (fun p => decide (p.1 = x)) = none := by
  rw [List.find?_eq_none]
  intro p hp
  obtain ⟨j, hj, rfl⟩ := List.mem_iff_getElem.1 hp
  have := h j hj
  rw [List.getD_eq_getElem?_getD, List.getElem?_eq_getElem hj] at this
  simpa using this
theorem typ_hit {x : ByteArray} (k : Nat) (hk : k < 7) (h1 : ∀ j, j < k → (SH.getD j (⟨#[]⟩, ⟨#[]⟩)).1 ≠ x) (h2 : (SH.getD k (⟨#[]⟩, ⟨#[]⟩)).1 = x) : typ x = ((SH.getD k (⟨#[]⟩, ⟨#[]⟩)).2, true) := by
  unfold typ
  rw [find_first SH k hk h1 h2]
theorem typ_miss {x : ByteArray} (h : ∀ j, j < 7 → (SH.getD j (⟨#[]⟩, ⟨#[]⟩)).1 ≠ x) : typ x = (x, oidB x) := by
  unfold typ
  rw [find_no (l := SH) (d := (⟨#[]⟩, ⟨#[]⟩)) h]
theorem sh_size : ∀ k, k < 7 → (SH.getD k (⟨#[]⟩, ⟨#[]⟩)).2.size ≤ 40 := by decide
theorem typ_size (x : ByteArray) : (typ x).1.size ≤ x.size + 40 := by
  unfold typ
  cases h : SH.find? (fun p => decide (p.1 = x)) with
  | none => show x.size ≤ _; omega
  | some p =>
    obtain ⟨j, hj, rfl⟩ := List.mem_iff_getElem.1 (List.mem_of_find?_eq_some h)
    have := sh_size j hj
    rw [List.getD_eq_getElem?_getD, List.getElem?_eq_getElem hj] at this
    show (SH[j]).2.size ≤ _
    have e : (some SH[j]).getD (⟨#[]⟩, ⟨#[]⟩) = SH[j] := rfl
    rw [e] at this
    omega
set_option maxRecDepth 100000 in
set_option maxHeartbeats 4000000 in
theorem typ_any (x : ByteArray) (w : World) (hx : x.size ≤ 1000000) (h : ShT w) :
    Calls Tryz.prog 251 #[.string x] w fun e w' => e = .returned (.tuple #[.string (typ x).1, .bool (typ x).2]) ∧ Below w.heap.size w w' := by
  have c0 : w.cell? ⟨1, 0, none⟩ = some (.string ⟨#[67, 78]⟩) := h 0 (by omega)
  have c1 : w.cell? ⟨1, 1, none⟩ = some (.string ⟨#[50, 46, 53, 46, 52, 46, 51]⟩) := h 1 (by omega)
  have c2 : w.cell? ⟨1, 2, none⟩ = some (.string ⟨#[67]⟩) := h 2 (by omega)
  have c3 : w.cell? ⟨1, 3, none⟩ = some (.string ⟨#[50, 46, 53, 46, 52, 46, 54]⟩) := h 3 (by omega)
  have c4 : w.cell? ⟨1, 4, none⟩ = some (.string ⟨#[76]⟩) := h 4 (by omega)
  have c5 : w.cell? ⟨1, 5, none⟩ = some (.string ⟨#[50, 46, 53, 46, 52, 46, 55]⟩) := h 5 (by omega)
  have c6 : w.cell? ⟨1, 6, none⟩ = some (.string ⟨#[79]⟩) := h 6 (by omega)
  have c7 : w.cell? ⟨1, 7, none⟩ = some (.string ⟨#[50, 46, 53, 46, 52, 46, 49, 48]⟩) := h 7 (by omega)
  have c8 : w.cell? ⟨1, 8, none⟩ = some (.string ⟨#[79, 85]⟩) := h 8 (by omega)
  have c9 : w.cell? ⟨1, 9, none⟩ = some (.string ⟨#[50, 46, 53, 46, 52, 46, 49, 49]⟩) := h 9 (by omega)
  have c10 : w.cell? ⟨1, 10, none⟩ = some (.string ⟨#[68, 67]⟩) := h 10 (by omega)
  have c11 : w.cell? ⟨1, 11, none⟩ = some (.string ⟨#[48, 46, 57, 46, 50, 51, 52, 50, 46, 49, 57, 50, 48, 48, 51, 48, 48, 46, 49, 48, 48, 46, 49, 46, 50, 53]⟩) := h 11 (by omega)
  have c12 : w.cell? ⟨1, 12, none⟩ = some (.string ⟨#[69]⟩) := h 12 (by omega)
  have c13 : w.cell? ⟨1, 13, none⟩ = some (.string ⟨#[49, 46, 50, 46, 56, 52, 48, 46, 49, 49, 51, 53, 52, 57, 46, 49, 46, 57, 46, 49]⟩) := h 13 (by omega)
  have HX := Lib.hid hx
  obtain ⟨t, ht⟩ : ∃ t, t = typ x := ⟨_, rfl⟩
  have HT := Lib.hid ht
  rw [← ht]
  clear h hx ht
  go_enter Tryz.func251, Tryz.ntmps251
  go_wp2_with fail
  clear c0 c1 c2 c3 c4 c5 c6 c7 c8 c9 c10 c11 c12 c13
  go_loopw [7] (fun i wr => ∃ k : Nat, k ≤ 7 ∧ i = .int .i64 k ∧ (∀ j, j < k → (SH.getD j (⟨#[]⟩, ⟨#[]⟩)).1 ≠ x) ∧ Below w.heap.size w wr) (fun i _ => 7 - (intOf i).toNat)
  case atStart => exact ⟨0, by omega, rfl, fun j hj => absurd hj (Nat.not_lt_zero _), Below.refl _ _⟩
  case round =>
    obtain ⟨k, hk, rfl, hA, hb⟩ := hrel
    have HB := Lib.hid hb
    have HA := Lib.hid hA
    clear hb hA
    by_cases hlt : k < 7
    · have hd : decide ((k : Int) < 7) = true := by simp; omega
      have hix := index_short k hlt
      obtain ⟨s, hs⟩ : ∃ s, s = (SH.getD k (⟨#[]⟩, ⟨#[]⟩)).1 := ⟨_, rfl⟩
      obtain ⟨i, hi⟩ : ∃ i, i = (SH.getD k (⟨#[]⟩, ⟨#[]⟩)).2 := ⟨_, rfl⟩
      rw [← hs, ← hi] at hix
      have HB1 := Lib.hid (below_next HB.out (belowNew wr (.cells #[.string s, .string i] 196)))
      have HE := Lib.hid (beq_str s x)
      by_cases hx : s = x
      · have hbq : (s.toList == x.toList) = true := by rw [HE.out]; exact decide_eq_true hx
        have HF := Lib.hid (show t = (i, true) by rw [HT.out, hi]; exact typ_hit k hlt HA.out (by rw [← hs]; exact hx))
        clear hs hi hx
        go_wp2_with fail
        go_ret2
        exact ⟨by rw [HF.out]; rfl, HB1.out⟩
      · have hbq : (s.toList == x.toList) = false := by rw [HE.out]; exact decide_eq_false hx
        have HF := Lib.hid (show ∀ j, j < k + 1 → (SH.getD j (⟨#[]⟩, ⟨#[]⟩)).1 ≠ x from fun j hj => by
          by_cases e : j = k
          · rw [e, ← hs]; exact hx
          · exact HA.out j (by omega))
        clear hs hi hx
        go_wp2_with fail
        go_roundw
        case rel => exact ⟨k + 1, by omega, by go_num, HF.out, HB1.out⟩
        case measure => simp [intOf]; omega
    · obtain rfl : k = 7 := by omega
      have hd : decide (((7 : Nat) : Int) < 7) = false := rfl
      have HF := Lib.hid (show t = (x, oidB x) by rw [HT.out]; exact typ_miss HA.out)
      have HO := Lib.hid (valid_b x wr (by have := HX.out; omega))
      go_wp2_with (go_at_call 200; (with_reducible refine HO.out.mono ?_); rintro e w1 ⟨rfl, hb1⟩; have HB1 := Lib.hid (below_next HB.out hb1); clear hb1)
      go_ret2
      exact ⟨by rw [HF.out]; rfl, HB1.out⟩
end Go.Proofs.YtflpajbcomhkpaaGreatDoor
namespace Go.Proofs.YtflpajbcomhkpaaGreatDoor
open Go.RowKit

theorem escL_ge (l : List UInt8) : l.length ≤ (escL l).length := by
  induction l with
  | nil => exact Nat.le_refl _
  | cons d D ih =>
    have := escB_len1 d
    rw [escL_cons, List.length_append, List.length_cons]; omega

set_option maxRecDepth 100000 in
set_option maxHeartbeats 4000000 in
theorem une_any (s : ByteArray) (w : World) (hn : s.size ≤ 1099511627776) :
    Calls Tryz.prog 96 #[.string s] w fun e w' => ∃ u ok, e = .returned (.tuple #[.string u, .bool ok]) ∧ Une s.data.toList u ok ∧ Below w.heap.size w w' := by
  obtain ⟨i0, hi, hz0, hz1, hz2⟩ := info_parts byteInfo
  have HSL := Lib.hid (show s.data.toList.length = s.size from rfl)
  go_enter Tryz.func96, Tryz.ntmps96
  go_wp2_with (at_make; refine wpList_make_own _ rfl _ _ 55 rfl w.heap.size 5 i0 (.int .u8 0) 1 Tryz.underlying55 hi hz0 hz1 .i64 .i64 (s.size : Int) s.size rfl rfl (by omega) (by rw [hz2]; omega) (by unfold maxLen; omega) (Nat.le_refl _) ?_; intro w1 hown1 hgr1; have HO1 := Lib.hid hown1; have HG1 := Lib.hid hgr1; clear hown1 hgr1)
  go_loopw [4, 5] (fun v i wr => ∃ (k : Nat) (D : List UInt8), k ≤ s.size ∧ i = .int .i64 k ∧ escL D = s.data.toList.take k ∧ OwnB 5 wr w.heap.size v D ∧ Below w.heap.size w wr) (fun _ i _ => s.size - (intOf i).toNat)
  case atStart => exact ⟨0, [], Nat.zero_le _, rfl, rfl, HO1.out, (Below.refl _ _).grown HG1.out (Nat.le_refl _) (fun _ e => by cases e)⟩
  case round =>
    obtain ⟨k, D, hk, rfl, hD, hown, hb⟩ := hrel
    have HO := Lib.hid hown
    have HB := Lib.hid hb
    have hsb := hb.size
    have hDl : D.length ≤ k := by
      have h1 := escL_ge D
      rw [hD, take_len s hk] at h1
      exact h1
    have HD := Lib.hid hD
    clear hown hb hD
    by_cases hlt : k < s.size
    · have hd : decide ((k : Int) < (s.size : Int)) = true := by simp; omega
      obtain ⟨c, hc, hcn⟩ := u8at_list s k hlt
      have hix := fun w => run_index_u8 (P := Tryz.prog) Tryz.underlying9 s k hlt (k : Int) rfl w
      rw [hcn] at hix
      have HC := Lib.hid hc
      clear hc hcn
      cases hp : plainB c with
      | true =>
        have h92 : ¬ c = 92 := fun e => by rw [e, plain_92] at hp; cases hp
        have h92n : ¬ c.toNat = 92 := fun h => h92 (UInt8.toNat_inj.1 h)
        have hq : (((c.toNat : Nat) : Int) == 92) = false := by simp; omega
        have HP := Lib.hid (fun w => isplain_is hp w)
        have HN := Lib.hid (show escL (D ++ [c]) = s.data.toList.take (k + 1) by rw [take_snoc HC.out, escL_snoc, escB_plain hp, HD.out])
        clear hp h92 h92n
        go_wp2_with fail
        go_quiet (first | (go_at_call 133; with_reducible refine Calls.quiet_of_same (HP.out _)))
        go_wp2_with (at_builtin; (refine wpList_append_own _ rfl (.tmp 38) (.tmp 40) 55 rfl w.heap.size 5 i0 (.int .u8 0) 1 1 Tryz.underlying55 hi hz0 hz1 hz2 rfl (by decide) _ _ _ rfl ((HO.out.drawn _).alloc _) ⟨wr.heap.size, 0, none⟩ 1 1 [bcell c] rfl rfl (news_row (wr.drewN _) #[bcell c] 5) (bcells_one [c]) (by unfold maxLen; omega) (by omega) (by simp; omega) ?_); intro v' w2 hown2 hgr2 _; obtain ⟨P1, P2⟩ := out_round (HO.out.drawn _) (Below.drawn HB.out _) hown2 hgr2; have HP1 := Lib.hid P1; have HP2 := Lib.hid P2; clear hown2 hgr2 P1 P2)
        go_roundw
        case rel => exact ⟨k + 1, D ++ [c], by omega, by go_num, HN.out, HP1.out, HP2.out⟩
        case measure => simp [intOf]; omega
      | false =>
        have HP := Lib.hid (fun w => isplain_is hp w)
        by_cases h92 : c = 92
        · have hq : (((c.toNat : Nat) : Int) == 92) = true := by rw [h92]; rfl
          have hk1 : k + 1 ≤ s.size := by omega
          have hsl := fun w => slice_tail s (k + 1) hk1 ((k : Int) + 1) (by omega) w
          have hl : (s.data.toList.drop (k + 1)).length ≤ 1099511627776 := by rw [List.length_drop, HSL.out]; omega
          have HC92 := Lib.hid (show s.data.toList[k]? = some 92 by rw [HC.out, h92])
          have HL := Lib.hid hl
          clear hl hp h92
          cases he : escd (s.data.toList.drop (k + 1)) with
          | none =>
            have HE := Lib.hid (fun w => escaped_no he w HL.out)
            have HN := Lib.hid (une_bad92 HD.out HC92.out he)
            generalize s.data.toList.drop (k + 1) = r at hsl HE
            clear he
            go_wp2_with fail
            go_quiet (first | (go_at_call 133; with_reducible refine Calls.quiet_of_same (HP.out _)))
            go_wp2_with (go_at_call 138; (with_reducible refine (HE.out _).mono ?_); rintro e w2 ⟨⟨y, rfl⟩, hb2⟩; have HB2 := Lib.hid (below_next (Below.drawn HB.out _) hb2); clear hb2)
            go_ret2
            exact ⟨_, _, rfl, .inr ⟨rfl, rfl, HN.out⟩, HB2.out⟩
          | some y =>
            have HE := Lib.hid (fun w => escaped_yes he w HL.out)
            have h2 := escd_some he
            have hk3 : k + 3 ≤ s.size := by
              have := h2.1
              rw [List.length_drop, HSL.out] at this
              omega
            have HN := Lib.hid (show escL (D ++ [y]) = s.data.toList.take (k + 3) by
              rw [escL_snoc, h2.2, HD.out, show k + 3 = k + (1 + 2) by omega, List.take_add]
              congr 1
              rw [drop_cons HC92.out, show 1 + 2 = 2 + 1 by omega, List.take_succ_cons])
            generalize s.data.toList.drop (k + 1) = r at hsl HE
            clear he h2
            go_wp2_with fail
            go_quiet (first | (go_at_call 133; with_reducible refine Calls.quiet_of_same (HP.out _)))
            go_wp2_with (first
              | (go_at_call 138; (with_reducible refine (HE.out _).mono ?_); rintro e w3 ⟨rfl, hb2⟩; have HB2 := Lib.hid (below_next (Below.drawn HB.out _) hb2); have HO2 := Lib.hid (own_below (OwnB.drawn HO.out _) hb2); have hs3 := HB2.out.size; clear hb2)
              | (at_builtin; (refine wpList_append_own _ rfl (.tmp 38) (.tmp 40) 55 rfl w.heap.size 5 i0 (.int .u8 0) 1 1 Tryz.underlying55 hi hz0 hz1 hz2 rfl (by decide) _ _ _ rfl (HO2.out.alloc _) ⟨w3.heap.size, 0, none⟩ 1 1 [bcell y] rfl rfl (news_row w3 #[bcell y] 5) (bcells_one [y]) (by unfold maxLen; omega) (by omega) (by simp; omega) ?_); intro v' w2 hown2 hgr2 _; obtain ⟨P1, P2⟩ := out_round HO2.out HB2.out hown2 hgr2; have HP1 := Lib.hid P1; have HP2 := Lib.hid P2; clear hown2 hgr2 P1 P2))
            go_roundw
            case rel => exact ⟨k + 3, D ++ [y], hk3, by go_num, HN.out, HP1.out, HP2.out⟩
            case measure => simp [intOf]; omega
        · have h92n : ¬ c.toNat = 92 := fun h => h92 (UInt8.toNat_inj.1 h)
          have hq : (((c.toNat : Nat) : Int) == 92) = false := by simp; omega
          have HN := Lib.hid (une_bad HD.out HC.out h92 hp)
          clear hp h92 h92n
          go_wp2_with fail
          go_quiet (first | (go_at_call 133; with_reducible refine Calls.quiet_of_same (HP.out _)))
          go_wp2_with fail
          go_ret2
          exact ⟨_, _, rfl, .inr ⟨rfl, rfl, HN.out⟩, Below.drawn HB.out _⟩
    · have ek : k = s.size := by omega
      subst ek
      have hd : decide ((s.size : Int) < (s.size : Int)) = false := by simp
      have hconv := own_str HO.out
      go_wp2_with fail
      go_ret2
      refine ⟨_, _, rfl, .inl ⟨rfl, ?_⟩, HB.out⟩
      have := HD.out
      rw [take_all s (Nat.le_refl _)] at this
      exact this
end Go.Proofs.YtflpajbcomhkpaaGreatDoor
namespace Go.Proofs.YtflpajbcomhkpaaGreatDoor
open Go.RowKit

def idDC : ByteArray := ⟨#[48, 46, 57, 46, 50, 51, 52, 50, 46, 49, 57, 50, 48, 48, 51, 48, 48, 46, 49, 48, 48, 46, 49, 46, 50, 53]⟩
def idE : ByteArray := ⟨#[49, 46, 50, 46, 56, 52, 48, 46, 49, 49, 51, 53, 52, 57, 46, 49, 46, 57, 46, 49]⟩
def kindV (id v : ByteArray) : Int := if id = idDC then 22 else if id = idE then 22 else if validB 19 v.data.toList = true then 19 else 12
theorem beq_lit (x : ByteArray) (l : List UInt8) : (x.toList == l) = decide (x = strOf l) := by
  have e : l = (strOf l).toList := by rw [toList_eq_list]; rfl
  conv => lhs; rw [e]
  exact beq_str x (strOf l)
/-- The string whose escaped form a text is. -/
noncomputable def uneO (s : List UInt8) : Option ByteArray := @dite _ (∃ l, escL l = s) (Classical.propDecidable _) (fun h => some (strOf h.choose)) (fun _ => none)
theorem une_some {s : List UInt8} {u : ByteArray} (h : escL u.data.toList = s) : uneO s = some u := by
  have hx : ∃ l, escL l = s := ⟨_, h⟩
  unfold uneO
  rw [dif_pos hx]
  congr 1
  apply list_inj
  rw [strOf_list]
  exact escL_inj (hx.choose_spec.trans h.symm)
theorem une_none' {s : List UInt8} (h : ∀ l, escL l ≠ s) : uneO s = none := by
  unfold uneO
  rw [dif_neg (fun ⟨l, e⟩ => h l e)]
theorem une_of {s : List UInt8} {u : ByteArray} {ok : Bool} (h : Une s u ok) : (ok = true ∧ uneO s = some u) ∨ (ok = false ∧ u = ⟨#[]⟩ ∧ uneO s = none) := by
  rcases h with ⟨h1, h2⟩ | ⟨h1, h2, h3⟩
  · exact .inl ⟨h1, une_some h2⟩
  · exact .inr ⟨h1, h2, une_none' h3⟩
theorem uneO_size {s : List UInt8} {u : ByteArray} (h : uneO s = some u) : u.size ≤ s.length := by
  by_cases hx : ∃ l, escL l = s
  · obtain ⟨l, rfl⟩ := hx
    rw [une_some (u := strOf l) (by rw [strOf_list])] at h
    obtain rfl := Option.some.inj h
    rw [strOf_size]
    exact escL_ge l
  · rw [une_none' (fun l e => hx ⟨l, e⟩)] at h; cases h
/-- The attribute that a text denotes. -/
noncomputable def prsA (x : ByteArray) : Option At :=
  if Lib.indexByte x.data.toList 61 = -1 then none
  else match typ (x.extract 0 (Lib.indexByte x.data.toList 61).toNat), uneO (x.extract ((Lib.indexByte x.data.toList 61).toNat + 1) x.size).data.toList with
    | (id, true), some v => some (id, kindV id v, v)
    | _, _ => none
def atO (o : Option At) : Value := match o with | some a => .tuple #[atV a, .bool true] | none => .tuple #[.agg #[.string ⟨#[]⟩, .int .i64 0, .string ⟨#[]⟩], .bool false]

set_option maxRecDepth 100000 in
set_option maxHeartbeats 1000000 in
theorem kind_any (id v : ByteArray) (w : World) (hv : v.size ≤ 1000000) (hT : Tab w) :
    Calls Tryz.prog 252 #[.string id, .string v] w fun e w' => e = .returned (.int .i64 (kindV id v)) ∧ Below w.heap.size w w' := by
  have HE1 := Lib.hid (beq_lit id [48, 46, 57, 46, 50, 51, 52, 50, 46, 49, 57, 50, 48, 48, 51, 48, 48, 46, 49, 48, 48, 46, 49, 46, 50, 53])
  have HE2 := Lib.hid (beq_lit id [49, 46, 50, 46, 56, 52, 48, 46, 49, 49, 51, 53, 52, 57, 46, 49, 46, 57, 46, 49])
  have HV := Lib.hid (tval_any 19 v w (by omega) hT)
  clear hT hv
  by_cases h1 : id = idDC
  · have hq1 : (id.toList == ([48, 46, 57, 46, 50, 51, 52, 50, 46, 49, 57, 50, 48, 48, 51, 48, 48, 46, 49, 48, 48, 46, 49, 46, 50, 53] : List UInt8)) = true := by rw [HE1.out]; exact decide_eq_true h1
    have e : kindV id v = 22 := if_pos h1
    rw [e]
    clear e h1
    go_enter Tryz.func252, Tryz.ntmps252
    go_wp2_with fail
    go_ret
    exact ⟨rfl, Below.refl _ _⟩
  have hq1 : (id.toList == ([48, 46, 57, 46, 50, 51, 52, 50, 46, 49, 57, 50, 48, 48, 51, 48, 48, 46, 49, 48, 48, 46, 49, 46, 50, 53] : List UInt8)) = false := by rw [HE1.out]; exact decide_eq_false h1
  by_cases h2 : id = idE
  · have hq2 : (id.toList == ([49, 46, 50, 46, 56, 52, 48, 46, 49, 49, 51, 53, 52, 57, 46, 49, 46, 57, 46, 49] : List UInt8)) = true := by rw [HE2.out]; exact decide_eq_true h2
    have e : kindV id v = 22 := by unfold kindV; rw [if_neg h1, if_pos h2]
    rw [e]
    clear e h1 h2
    go_enter Tryz.func252, Tryz.ntmps252
    go_wp2_with fail
    go_ret
    exact ⟨rfl, Below.refl _ _⟩
  have hq2 : (id.toList == ([49, 46, 50, 46, 56, 52, 48, 46, 49, 49, 51, 53, 52, 57, 46, 49, 46, 57, 46, 49] : List UInt8)) = false := by rw [HE2.out]; exact decide_eq_false h2
  cases hb : validB 19 v.data.toList with
  | true =>
    have e : kindV id v = 19 := by unfold kindV; rw [if_neg h1, if_neg h2, if_pos hb]
    rw [e]
    rw [hb] at HV
    clear e h1 h2 hb
    go_enter Tryz.func252, Tryz.ntmps252
    go_wp2_with (go_at_call 201; (with_reducible refine HV.out.mono ?_); rintro e w1 ⟨rfl, hb⟩; have HB := Lib.hid hb; clear hb)
    go_ret
    exact ⟨rfl, HB.out⟩
  | false =>
    have e : kindV id v = 12 := by unfold kindV; rw [if_neg h1, if_neg h2, if_neg (by rw [hb]; decide)]
    rw [e]
    rw [hb] at HV
    clear e h1 h2 hb
    go_enter Tryz.func252, Tryz.ntmps252
    go_wp2_with (go_at_call 201; (with_reducible refine HV.out.mono ?_); rintro e w1 ⟨rfl, hb⟩; have HB := Lib.hid hb; clear hb)
    go_ret
    exact ⟨rfl, HB.out⟩
end Go.Proofs.YtflpajbcomhkpaaGreatDoor
namespace Go.Proofs.YtflpajbcomhkpaaGreatDoor
open Go.RowKit

theorem uneo_any (s : ByteArray) (w : World) (hn : s.size ≤ 1000000) :
    Calls Tryz.prog 96 #[.string s] w fun e w' => e = .returned (match uneO s.data.toList with | some v => .tuple #[.string v, .bool true] | none => .tuple #[.string ⟨#[]⟩, .bool false]) ∧ Below w.heap.size w w' := by
  refine (une_any s w (by omega)).mono ?_
  rintro e w' ⟨u, ok, rfl, hu, hb⟩
  refine ⟨?_, hb⟩
  rcases une_of hu with ⟨rfl, h⟩ | ⟨rfl, rfl, h⟩ <;> rw [h]
theorem at_facts {w : World} {g : Nat} {x y z : Value} {t : TypeId} (h : w.heap[g]? = some (.cells #[x, y, z] t (0, 0))) :
    w.cell? ⟨g, 0, none⟩ = some x ∧ w.cell? ⟨g, 1, none⟩ = some y ∧ w.cell? ⟨g, 2, none⟩ = some z ∧ w.frozen? ⟨g, 0, none⟩ = false ∧ w.frozen? ⟨g, 1, none⟩ = false ∧ w.frozen? ⟨g, 2, none⟩ = false ∧ g < w.heap.size := by
  refine ⟨?_, ?_, ?_, Lib.frozen_of_heap h 0, Lib.frozen_of_heap h 1, Lib.frozen_of_heap h 2, (Array.getElem?_eq_some_iff.1 h).1⟩
  · rw [Lib.cell_of_heap h]; rfl
  · rw [Lib.cell_of_heap h]; rfl
  · rw [Lib.cell_of_heap h]; rfl
theorem at_set {w : World} {g : Nat} {x y z a b c : Value} {t : TypeId} (h : w.heap[g]? = some (.cells #[x, y, z] t (0, 0))) :
    (((w.setCell ⟨g, 0, none⟩ a).setCell ⟨g, 1, none⟩ b).setCell ⟨g, 2, none⟩ c).heap[g]? = some (.cells #[a, b, c] t (0, 0)) := by
  simp [World.setCell, Array.getElem?_modify, h]
theorem at_below {B : Nat} {w0 w : World} {g : Nat} {a b c : Value} (h : Below B w0 w) (hg : B ≤ g) : Below B w0 (((w.setCell ⟨g, 0, none⟩ a).setCell ⟨g, 1, none⟩ b).setCell ⟨g, 2, none⟩ c) :=
  ((h.setCell (p := ⟨g, 0, none⟩) hg _).setCell (p := ⟨g, 1, none⟩) hg _).setCell (p := ⟨g, 2, none⟩) hg _
theorem atSize : (Tryz.prog.info? 103).map (·.size) = some 3 := by kernel_rfl
theorem atRes {fn : Func} {p u : Tmp} (h : fn.results = #[.cell p 103, .tmp u]) (tmps : Array Value) (w w0 : World) (x y z : Value)
    (hp : tmps.getD p undef = .pointer (some ⟨w0.heap.size, 0, none⟩)) (hg : w.heap[w0.heap.size]? = some (.cells #[x, y, z] 103 (0, 0))) :
    (results fn tmps).run Tryz.prog w = .ok (.tuple #[.agg #[x, y, z], tmps.getD u undef]) w :=
  results_cell_row2 h tmps w w0.heap.size 103 #[x, y, z] (0, 0) _ hp hg Tryz.underlying103 rfl atSize

set_option maxRecDepth 100000 in
set_option maxHeartbeats 4000000 in
theorem prsA_any (x : ByteArray) (w : World) (hx : x.size ≤ 150000) (hT : Tab w) (hS : ShT w) :
    Calls Tryz.prog 208 #[.string x] w fun e w' => e = .returned (atO (prsA x)) ∧ Below w.heap.size w w' := by
  have HT := Lib.hid hT
  have HS := Lib.hid hS
  rcases index_cases x.data.toList 61 with ⟨h, _⟩ | ⟨i, h, hi⟩
  · have e : prsA x = none := by unfold prsA; rw [if_pos h]
    rw [e]
    have HC := Lib.hid (fun W => cut_any x 61 (by omega) W)
    have e2 : cutV x 61 = .tuple #[.string x, .string ⟨#[]⟩, .bool false] := if_pos h
    rw [e2] at HC
    have HTY := Lib.hid (fun W (hS : ShT W) => typ_any x W (by omega) hS)
    have HU := Lib.hid (fun W => uneo_any ⟨#[]⟩ W (by show 0 ≤ _; omega))
    have e3 : uneO (⟨#[]⟩ : ByteArray).data.toList = some ⟨#[]⟩ := une_some (by rfl)
    rw [e3] at HU
    clear e e2 e3 h hT hS
    go_enter Tryz.func208, Tryz.ntmps208
    go_wp2_with (first
      | (go_at_call 114; (with_reducible refine (HC.out _).mono ?_); rintro e w1 ⟨rfl, hb⟩; have HX := Lib.hid hb; clear hb)
      | (go_at_call 251; (with_reducible refine (HTY.out _ (HS.out.below (below_next (belowNew w _) HX.out))).mono ?_); rintro e w2 ⟨rfl, hb⟩; have HX := Lib.hid (below_next HX.out hb); clear hb)
      | (go_at_call 96; (with_reducible refine (HU.out _).mono ?_); rintro e w3 ⟨rfl, hb⟩; have HX := Lib.hid (below_next HX.out hb); have hc := ((HX.out.block w.heap.size (by simp)).trans (heap_alloc_new w _)); obtain ⟨c0, c1, c2, f0, f1, f2, hlt⟩ := at_facts hc; have HCC := Lib.hid hc; clear hc hb))
    exact bodyPost_ret (atRes rfl _ _ w _ _ _ rfl (at_set HCC.out)) rfl ⟨rfl, at_below (below_next (belowNew w _) HX.out) (Nat.le_refl _)⟩
  · obtain ⟨wd, hwd⟩ : ∃ wd, wd = x.extract 0 i := ⟨_, rfl⟩
    obtain ⟨rs, hrs⟩ : ∃ rs, rs = x.extract (i + 1) x.size := ⟨_, rfl⟩
    have hw2 : wd.size ≤ 150000 := by rw [hwd, ByteArray.size_extract]; omega
    have hr2 : rs.size ≤ 150000 := by rw [hrs, ByteArray.size_extract]; omega
    have HC := Lib.hid (fun W => cut_any x 61 (by omega) W)
    have e2 : cutV x 61 = .tuple #[.string wd, .string rs, .bool true] := by
      unfold cutV
      rw [h, if_neg (by omega), hwd, hrs]
      rfl
    rw [e2] at HC
    have e0 : prsA x = match typ wd, uneO rs.data.toList with | (id, true), some v => some (id, kindV id v, v) | _, _ => none := by
      unfold prsA
      rw [h, if_neg (by omega), hwd, hrs]
      rfl
    have HTY := Lib.hid (fun W (hS : ShT W) => typ_any wd W (by omega) hS)
    have HU := Lib.hid (fun W => uneo_any rs W (by omega))
    have hts := typ_size wd
    clear e2 h hT hS hwd hrs
    obtain ⟨⟨id, kn⟩, hty⟩ : ∃ p, typ wd = p := ⟨_, rfl⟩
    rw [hty] at e0 HTY hts
    cases hu : uneO rs.data.toList with
    | none =>
      rw [hu] at e0 HU
      have e1 : prsA x = none := by rw [e0]; cases kn <;> rfl
      rw [e1]
      clear e0 e1 hu hty hts
      cases kn with
      | true =>
        go_enter Tryz.func208, Tryz.ntmps208
        go_wp2_with (first | (go_at_call 114; (with_reducible refine (HC.out _).mono ?_); rintro e w1 ⟨rfl, hb⟩; have HX := Lib.hid hb; clear hb) | (go_at_call 251; (with_reducible refine (HTY.out _ (HS.out.below (below_next (belowNew w _) HX.out))).mono ?_); rintro e w2 ⟨rfl, hb⟩; have HX := Lib.hid (below_next HX.out hb); clear hb) | (go_at_call 96; (with_reducible refine (HU.out _).mono ?_); rintro e w3 ⟨rfl, hb⟩; have HX := Lib.hid (below_next HX.out hb); have hc := ((HX.out.block w.heap.size (by simp)).trans (heap_alloc_new w _)); obtain ⟨c0, c1, c2, f0, f1, f2, hlt⟩ := at_facts hc; have HCC := Lib.hid hc; clear hc hb))
        exact bodyPost_ret (atRes rfl _ _ w _ _ _ rfl (at_set HCC.out)) rfl ⟨rfl, at_below (below_next (belowNew w _) HX.out) (Nat.le_refl _)⟩
      | false =>
        go_enter Tryz.func208, Tryz.ntmps208
        go_wp2_with (first | (go_at_call 114; (with_reducible refine (HC.out _).mono ?_); rintro e w1 ⟨rfl, hb⟩; have HX := Lib.hid hb; clear hb) | (go_at_call 251; (with_reducible refine (HTY.out _ (HS.out.below (below_next (belowNew w _) HX.out))).mono ?_); rintro e w2 ⟨rfl, hb⟩; have HX := Lib.hid (below_next HX.out hb); clear hb) | (go_at_call 96; (with_reducible refine (HU.out _).mono ?_); rintro e w3 ⟨rfl, hb⟩; have HX := Lib.hid (below_next HX.out hb); have hc := ((HX.out.block w.heap.size (by simp)).trans (heap_alloc_new w _)); obtain ⟨c0, c1, c2, f0, f1, f2, hlt⟩ := at_facts hc; have HCC := Lib.hid hc; clear hc hb))
        exact bodyPost_ret (atRes rfl _ _ w _ _ _ rfl (at_set HCC.out)) rfl ⟨rfl, at_below (below_next (belowNew w _) HX.out) (Nat.le_refl _)⟩
    | some v =>
      have hvs := uneO_size hu
      rw [hu] at e0 HU
      cases kn with
      | false =>
        have e1 : prsA x = none := e0
        rw [e1]
        clear e0 e1 hu hty hts hvs
        go_enter Tryz.func208, Tryz.ntmps208
        go_wp2_with (first | (go_at_call 114; (with_reducible refine (HC.out _).mono ?_); rintro e w1 ⟨rfl, hb⟩; have HX := Lib.hid hb; clear hb) | (go_at_call 251; (with_reducible refine (HTY.out _ (HS.out.below (below_next (belowNew w _) HX.out))).mono ?_); rintro e w2 ⟨rfl, hb⟩; have HX := Lib.hid (below_next HX.out hb); clear hb) | (go_at_call 96; (with_reducible refine (HU.out _).mono ?_); rintro e w3 ⟨rfl, hb⟩; have HX := Lib.hid (below_next HX.out hb); have hc := ((HX.out.block w.heap.size (by simp)).trans (heap_alloc_new w _)); obtain ⟨c0, c1, c2, f0, f1, f2, hlt⟩ := at_facts hc; have HCC := Lib.hid hc; clear hc hb))
        exact bodyPost_ret (atRes rfl _ _ w _ _ _ rfl (at_set HCC.out)) rfl ⟨rfl, at_below (below_next (belowNew w _) HX.out) (Nat.le_refl _)⟩
      | true =>
        have e1 : prsA x = some (id, kindV id v, v) := e0
        rw [e1]
        have HK := Lib.hid (fun W (hT : Tab W) => kind_any id v W (Nat.le_trans hvs (show rs.size ≤ _ by omega)) hT)
        obtain ⟨kd, hkd⟩ : ∃ kd, kd = kindV id v := ⟨_, rfl⟩
        rw [← hkd] at HK ⊢
        clear e0 e1 hu hty hts hvs hkd
        go_enter Tryz.func208, Tryz.ntmps208
        go_wp2_with (first | (go_at_call 114; (with_reducible refine (HC.out _).mono ?_); rintro e w1 ⟨rfl, hb⟩; have HX := Lib.hid hb; clear hb) | (go_at_call 251; (with_reducible refine (HTY.out _ (HS.out.below (below_next (belowNew w _) HX.out))).mono ?_); rintro e w2 ⟨rfl, hb⟩; have HX := Lib.hid (below_next HX.out hb); clear hb) | (go_at_call 96; (with_reducible refine (HU.out _).mono ?_); rintro e w3 ⟨rfl, hb⟩; have HX := Lib.hid (below_next HX.out hb); clear hb) | (go_at_call 252; (with_reducible refine (HK.out _ (HT.out.below (below_next (belowNew w _) HX.out))).mono ?_); rintro e w4 ⟨rfl, hb⟩; have HX := Lib.hid (below_next HX.out hb); have hc := ((HX.out.block w.heap.size (by simp)).trans (heap_alloc_new w _)); obtain ⟨c0, c1, c2, f0, f1, f2, hlt⟩ := at_facts hc; have HCC := Lib.hid hc; clear hc hb))
        exact bodyPost_ret (atRes rfl _ _ w _ _ _ rfl (at_set HCC.out)) rfl ⟨rfl, at_below (below_next (belowNew w _) HX.out) (Nat.le_refl _)⟩
end Go.Proofs.YtflpajbcomhkpaaGreatDoor
namespace Go.Proofs.YtflpajbcomhkpaaGreatDoor
open Go.RowKit

/-- All answers, if there are all. -/
def allO {β γ : Type} (f : β → Option γ) : List β → Option (List γ)
  | [] => some []
  | x :: r => match f x with
    | none => none
    | some y => match allO f r with
      | none => none
      | some l => some (y :: l)
theorem allO_step {β γ : Type} {f : β → Option γ} {l : List β} {k : Nat} {d : β} (h : k < l.length) {y : γ} (hy : f (l.getD k d) = some y) (D : List γ) :
    (allO f (l.drop k)).map (D ++ ·) = (allO f (l.drop (k + 1))).map ((D ++ [y]) ++ ·) := by
  rw [dropD l k h d]
  show Option.map _ (match f (l.getD k d) with | none => none | some y => match allO f (l.drop (k + 1)) with | none => none | some l => some (y :: l)) = _
  rw [hy]
  cases allO f (l.drop (k + 1)) with
  | none => rfl
  | some t => simp
theorem allO_bad {β γ : Type} {f : β → Option γ} {l : List β} {k : Nat} {d : β} (h : k < l.length) (hy : f (l.getD k d) = none) : allO f (l.drop k) = none := by
  rw [dropD l k h d]
  show (match f (l.getD k d) with | none => none | some y => match allO f (l.drop (k + 1)) with | none => none | some l => some (y :: l)) = _
  rw [hy]
theorem allO_end {β γ : Type} {f : β → Option γ} {l : List β} {k : Nat} (h : l.length ≤ k) (D : List γ) : (allO f (l.drop k)).map (D ++ ·) = some D := by
  rw [List.drop_eq_nil_of_le h]; simp [allO]
theorem allO_start {β γ : Type} (f : β → Option γ) (l : List β) : allO f l = (allO f (l.drop 0)).map ([] ++ ·) := by
  rw [List.drop_zero]
  cases allO f l <;> simp
/-- The relative name that a text denotes. -/
noncomputable def prsR (x : ByteArray) : Option (List At) := allO prsA (pcsS 43 x)
theorem pieces_size (c : UInt8) (s : ByteArray) (k : Nat) (hk : k < (pcsS c s).length) : ((pcsS c s).getD k ⟨#[]⟩).size ≤ s.size := by
  have h := (pcsS_spl c s).2.1
  have hm : ((pcsS c s).getD k ⟨#[]⟩).data.toList ∈ (pcsS c s).map (·.data.toList) := by
    refine List.mem_map.2 ⟨_, ?_, rfl⟩
    rw [List.getD_eq_getElem?_getD, List.getElem?_eq_getElem hk]
    exact List.getElem_mem hk
  have key : ∀ (ps : List (List UInt8)) (p : List UInt8), p ∈ ps → p.length ≤ (Lib.join ps [c]).length := by
    intro ps
    induction ps with
    | nil => intro p hp; simp at hp
    | cons q r ih =>
      intro p hp
      cases r with
      | nil =>
        rw [Lib.join_one]
        obtain rfl : p = q := by simpa using hp
        exact Nat.le_refl _
      | cons q' r' =>
        rw [join_two, List.length_append, List.length_cons]
        rcases List.mem_cons.1 hp with rfl | hp
        · omega
        · have := ih p hp; omega
  have := key _ _ hm
  rw [h] at this
  exact this
theorem ats_news (w1 : World) (X : Obj) (e : At) (cs : Array Value) (hcs : cs = (atCells e).toArray) :
    ∀ j u, (atCells e)[j]? = some u → ((w1.alloc X).alloc (.cells cs 103)).cell? ((⟨w1.heap.size + 1, 0, none⟩ : Addr).add j) = some u := by
  intro j u h
  have := news_row (w1.alloc X) cs 103 j u (by rw [hcs]; simpa using h)
  simpa using this
theorem ats_round {w wr w1 w2 : World} {B : Nat} {v v' : Value} {D : List At} {e : At} {X Y : Obj} (hB : w.heap.size ≤ B) (hown : OwnA wr B v D) (hb : Below w.heap.size w wr) (hb1 : Below wr.heap.size wr w1)
    (hown2 : w2.ownsRow B 103 3 v' (D.length + 1) (atsCells D ++ atCells e)) (hgr2 : ((w1.alloc X).alloc Y).grownBy w2 v.ownBlock) : OwnA w2 B v' (D ++ [e]) ∧ Below w.heap.size w w2 := by
  have h1 := hb.size
  have h2 := hb1.size
  refine ⟨?_, ?_⟩
  · unfold OwnA
    rw [List.length_append, atsCells_snoc]; exact hown2
  · exact (((hb.trans (hb1.mono h1)).alloc (by omega) X).alloc (by simp; omega) Y).grown hgr2 (by simp; omega) (fun k e => Nat.le_trans hB (World.ownsRow.lt hown k e).1)

set_option maxRecDepth 100000 in
set_option maxHeartbeats 4000000 in
theorem prsR_any (x : ByteArray) (w : World) (hx : x.size ≤ 150000) (hT : Tab w) (hS : ShT w) :
    Calls Tryz.prog 177 #[.string x] w fun e w' => ∃ v ok, e = .returned (.tuple #[v, .bool ok]) ∧ (ok = false ∧ v = .slice none 0 0 ∧ prsR x = none ∨ ok = true ∧ ∃ r, prsR x = some r ∧ OwnA w' w.heap.size v r) ∧ Below w.heap.size w w' := by
  obtain ⟨i0, hi, hz0, hz1, hz2⟩ := info_parts atInfo
  obtain ⟨R, hR⟩ : ∃ R, R = prsR x := ⟨_, rfl⟩
  have HSP := split_c x 43 w (by omega)
  have hcell := pcs_cell 43 x w
  have hpl := pcsS_len 43 x
  have hcl := count_le x 43
  have hps := pieces_size 43 x
  obtain ⟨W0, hW0⟩ : ∃ W0, W0 = w.alloc (.cells ((pcsS 43 x).map Value.string).toArray 9) := ⟨_, rfl⟩
  rw [← hW0] at HSP hcell
  have hz : W0.heap.size = w.heap.size + 1 := by rw [hW0]; simp
  have hb0 : Below w.heap.size w W0 := by rw [hW0]; exact belowNew w _
  unfold prsR at hR
  rw [show prsR x = R by rw [hR]; rfl]
  obtain ⟨ps, hps0⟩ : ∃ ps, ps = pcsS 43 x := ⟨_, rfl⟩
  rw [← hps0] at HSP hcell hpl hps hR
  obtain ⟨n, hn⟩ : ∃ n, n = ps.length := ⟨_, rfl⟩
  rw [← hn] at HSP hcell hps hpl
  have hnn : n ≤ 150001 := by omega
  have HSPL := Lib.hid HSP
  have HCELL := Lib.hid hcell
  have HPS := Lib.hid hps
  have HN := Lib.hid hn
  have HR := Lib.hid hR
  have HX := Lib.hid hx
  have HZ := Lib.hid hz
  have HB0 := Lib.hid hb0
  have HT := Lib.hid (hT.below hb0)
  have HS := Lib.hid (hS.below hb0)
  clear HSP hcell hps hpl hn hR hx hz hb0 hT hS hcl hW0 hps0
  go_enter Tryz.func177, Tryz.ntmps177
  go_wp2_with (go_at_call 176; (with_reducible refine HSPL.out.mono ?_); rintro e w1 ⟨rfl, hw⟩; rw [hw]; clear hw w1)
  go_loopw [4, 12] (fun v i wr => ∃ (k : Nat) (D : List At), k ≤ n ∧ D.length = k ∧ i = .int .i64 k ∧ R = (allO prsA (ps.drop k)).map (D ++ ·) ∧ OwnA wr W0.heap.size v D ∧ Below W0.heap.size W0 wr) (fun _ i _ => n - (intOf i).toNat)
  case atStart => exact ⟨0, [], Nat.zero_le _, rfl, rfl, by rw [HR.out]; exact allO_start _ _, OwnA.nil _ _, Below.refl _ _⟩
  case round =>
    obtain ⟨k, D, hk, hDk, rfl, hA, hown, hb⟩ := hrel
    have HB := Lib.hid hb
    have HA := Lib.hid hA
    have HO := Lib.hid hown
    have HDK := Lib.hid hDk
    clear hb hA hown hDk
    by_cases hlt : k < n
    · have hd : decide ((k : Int) < (n : Int)) = true := by simp; omega
      have c0 : wr.cell? ⟨w.heap.size, k, none⟩ = some (.string (ps.getD k ⟨#[]⟩)) := (HB.out.cell (p := ⟨w.heap.size, k, none⟩) (by have := HZ.out; show w.heap.size < _; omega)).trans (HCELL.out k hlt)
      have hsz := HPS.out k hlt
      obtain ⟨s, hs⟩ : ∃ s, s = ps.getD k ⟨#[]⟩ := ⟨_, rfl⟩
      rw [← hs] at c0 hsz
      have hP := (prsA_any s wr (by have := HX.out; omega) (HT.out.below HB.out) (HS.out.below HB.out))
      cases hp : prsA s with
      | none =>
        rw [hp] at hP
        simp only [atO] at hP
        have HP := Lib.hid hP
        have HF := Lib.hid (show R = none by rw [HA.out, allO_bad (d := ⟨#[]⟩) (by rw [← HN.out]; exact hlt) (by rw [← hs]; exact hp)]; rfl)
        clear hs hsz hp hP
        go_wp2_with (go_at_call 208; (with_reducible refine HP.out.mono ?_); rintro e w1 ⟨rfl, hb1⟩; have HB1 := Lib.hid (below_next HB.out hb1); clear hb1)
        go_ret2
        exact ⟨_, _, rfl, .inl ⟨rfl, rfl, HF.out⟩, below_next HB0.out (below_next HB1.out (belowNew _ _))⟩
      | some y =>
        rw [hp] at hP
        have HST := Lib.hid (show R = (allO prsA (ps.drop (k + 1))).map ((D ++ [y]) ++ ·) by rw [HA.out, allO_step (d := ⟨#[]⟩) (by rw [← HN.out]; exact hlt) (by rw [← hs]; exact hp)])
        obtain ⟨t, kd, v⟩ := y
        simp only [atO, atV] at hP
        have HP := Lib.hid hP
        clear hs hsz hp hP
        go_wp2_with (first | (go_at_call 208; (with_reducible refine HP.out.mono ?_); rintro e w1 ⟨rfl, hb1⟩; have HB1 := Lib.hid hb1; clear hb1) | (at_builtin; (refine wpList_append_own _ rfl (.tmp 23) (.tmp 25) 101 rfl W0.heap.size 103 i0 (.agg #[.string ⟨#[]⟩, .int .i64 0, .string ⟨#[]⟩]) 3 40 Tryz.underlying101 hi hz0 hz1 hz2 rfl (by decide) _ D.length (atsCells D) rfl (((own_below HO.out HB1.out).alloc _).alloc _) ⟨w1.heap.size + 1, 0, none⟩ 1 1 (atCells (t, kd, v)) rfl rfl (ats_news w1 _ (t, kd, v) _ rfl) (atCells_one _) (by have := HDK.out; unfold maxLen; omega) (by have := HDK.out; omega) (by have := HB.out.size; have := HB1.out.size; simp; omega) ?_); intro v' w2 hown2 hgr2 _; obtain ⟨P1, P2⟩ := ats_round (Nat.le_refl _) HO.out HB.out HB1.out hown2 hgr2; have HP1 := Lib.hid P1; have HP2 := Lib.hid P2; clear hown2 hgr2 P1 P2))
        go_roundw
        case rel => exact ⟨k + 1, D ++ [(t, kd, v)], by omega, by rw [List.length_append, HDK.out]; rfl, by go_num, HST.out, HP1.out, HP2.out⟩
        case measure => simp [intOf]; omega
    · have hd : decide ((k : Int) < (n : Int)) = false := by simp; omega
      have HF := Lib.hid (show R = some D by rw [HA.out]; exact allO_end (by rw [← HN.out]; omega) D)
      go_wp2_with fail
      go_ret2
      exact ⟨_, _, rfl, .inr ⟨rfl, D, HF.out, HO.out.base (by have := HZ.out; omega)⟩, below_next HB0.out HB.out⟩
end Go.Proofs.YtflpajbcomhkpaaGreatDoor
