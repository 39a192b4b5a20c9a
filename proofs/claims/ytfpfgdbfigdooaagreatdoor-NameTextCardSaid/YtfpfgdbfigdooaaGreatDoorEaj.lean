/-
  The contracts of checkRelative and Check: the first error of a relative name, of a name.
  The table of short types and the contracts of typeOf and kindOf.
  The contracts of strings.Split and strings.Cut at a point of one byte, off the shelf.
-/
import Derived.Test.YtfpfgdbfigdooaaGreatDoorEai
import Derived.Test.YtfpfgdbfigdooaaGreatDoorEaa
import Derived.Test.YtfpfgdbfigdooaaGreatDoorEag
import Derived.Lib.SplitLaws
import Derived.Lib.CutLaws
namespace Go.Proofs.YtfpfgdbfigdooaaGreatDoor
open Go.RowKit

theorem errno_ne {e : Nat} (h : e ≠ 0) : ((e : Int) != 0) = true := by simp; omega
theorem errno_eq : (((0 : Nat) : Int) != 0) = false := by decide
set_option maxRecDepth 100000 in
set_option maxHeartbeats 4000000 in
theorem chkL_any (a0 : Option Addr) (c n : Nat) (l : List At) (w : World) (h : ALies w a0 l) (hn : n = l.length) (hc : n ≤ c) (hs : SmallR l) (hT : Tab w) :
    Calls Tryz.prog 37 #[.slice a0 n c] w fun e w' => e = .returned (.int .i64 ((chkR l : Nat) : Int)) ∧ Below w.heap.size w w' := by
  by_cases h0 : n = 0
  · subst h0
    have e : chkR l = 14 := by unfold chkR; rw [if_pos hn.symm]
    rw [e]
    clear e hn h hs hT
    go_enter Tryz.func37, Tryz.ntmps37
    go_wp2_with fail
    go_ret
    exact ⟨rfl, Below.refl _ _⟩
  have d0 : ((n : Int) == 0) = false := by simp; omega
  by_cases h4 : 4 < n
  · have e : chkR l = 2 := by unfold chkR; rw [if_neg (by omega), if_pos (by omega)]
    have d4 : decide ((4 : Int) < (n : Int)) = true := by simp; omega
    rw [e]
    clear e hn h hs hT h0 h4
    go_enter Tryz.func37, Tryz.ntmps37
    go_wp2_with fail
    go_ret
    exact ⟨rfl, Below.refl _ _⟩
  have d4 : decide ((4 : Int) < (n : Int)) = false := by simp; omega
  have e : chkR l = chkL [] l := by unfold chkR; rw [if_neg (by omega), if_neg (by omega)]
  rw [e]
  have HN4 := Lib.hid (show n ≤ 4 by omega)
  have hL : n ≤ 1000000 := by omega
  obtain ⟨E, hE⟩ : ∃ E, E = chkL [] l := ⟨_, rfl⟩
  rw [← hE]
  have HE := Lib.hid hE
  have H1 := Lib.hid h
  have HN := Lib.hid hn
  have HS := Lib.hid hs
  have HT := Lib.hid hT
  clear h hn hs hT e hE h0 h4
  go_enter Tryz.func37, Tryz.ntmps37
  go_wp2_with fail
  go_loopw [14] (fun i wr => ∃ k : Nat, k ≤ n ∧ i = .int .i64 k ∧ E = chkL (l.take k) (l.drop k) ∧ Below w.heap.size w wr) (fun i _ => n - (intOf i).toNat)
  case atStart => exact ⟨0, Nat.zero_le _, rfl, by rw [List.take_zero, List.drop_zero]; exact HE.out, Below.refl _ _⟩
  case round =>
    obtain ⟨k, hk, rfl, hA, hb⟩ := hrel
    have HB := Lib.hid hb
    have HA := Lib.hid hA
    clear hb hA
    by_cases hlt : k < n
    · have hd : decide ((k : Int) < (n : Int)) = true := by simp; omega
      obtain ⟨b, o, rfl, hb, c0, c1, c2⟩ := H1.out.at k (by rw [← HN.out]; exact hlt)
      have a0 : wr.cell? ⟨b, o + k * 3, none⟩ = _ := (HB.out.cell (p := ⟨b, o + k * 3, none⟩) hb).trans c0
      have a1 : wr.cell? ⟨b, o + k * 3 + 1, none⟩ = _ := (HB.out.cell (p := ⟨b, o + k * 3 + 1, none⟩) hb).trans c1
      have a2 : wr.cell? ⟨b, o + k * 3 + 2, none⟩ = _ := (HB.out.cell (p := ⟨b, o + k * 3 + 2, none⟩) hb).trans c2
      have HST := Lib.hid (chkL_step l k (by rw [← HN.out]; exact hlt))
      have hsm := HS.out.2 k (by rw [← HN.out]; exact hlt)
      generalize l.getD k noAt = y at a0 a1 a2 HST hsm
      obtain ⟨t, kd, v⟩ := y
      have HM1 := Lib.hid hsm.1
      have HM2 := Lib.hid hsm.2
      have hlc : k ≤ c := by omega
      have hk0 : (0 : Int) ≤ (k : Int) := by omega
      have hkc : (k : Int) ≤ (c : Int) := by omega
      obtain ⟨Z, hZ⟩ : ∃ Z, Z = chkA (l.take k) (t, kd, v) := ⟨_, rfl⟩
      rw [← hZ] at HST
      have HCK := Lib.hid (fun W (hA : ALies W (some ⟨b, o, none⟩) l) (hT : Tab W) => chkA_any t v kd (some ⟨b, o, none⟩) c k (l.take k) W HM1.out HM2.out (hA.take k) (by rw [List.length_take, ← HN.out]; omega) (by have := HN4.out; omega) hT)
      rw [← hZ] at HCK
      have HBA := Lib.hid (show Below w.heap.size w (wr.alloc (.cells #[.string t, .int .i64 kd, .string v] 27)) from below_next HB.out (belowNew wr _))
      clear c0 c1 c2 hb hsm hZ
      by_cases hz : Z = 0
      · subst hz
        have HF := Lib.hid (show E = chkL (l.take (k + 1)) (l.drop (k + 1)) by rw [HA.out, HST.out, if_pos rfl])
        go_wp2_with fail
        go_region_with (go_at_call 64; (with_reducible refine (HCK.out _ (H1.out.below HBA.out.drew) (HT.out.below HBA.out.drew)).mono ?_); rintro e w1 ⟨rfl, hb1⟩; have HB1 := Lib.hid (below_next HBA.out.drew hb1); clear hb1)
        all_goals
          go_wp2_with fail
          go_roundw
          case rel => exact ⟨k + 1, by omega, by go_num, HF.out, HB1.out⟩
          case measure => simp [intOf]; omega
      · have HF := Lib.hid (show E = Z by rw [HA.out, HST.out, if_neg hz])
        have hz1 := errno_ne hz
        go_wp2_with fail
        go_region_with (go_at_call 64; (with_reducible refine (HCK.out _ (H1.out.below HBA.out.drew) (HT.out.below HBA.out.drew)).mono ?_); rintro e w1 ⟨rfl, hb1⟩; have HB1 := Lib.hid (below_next HBA.out.drew hb1); clear hb1)
        all_goals
          go_wp2_with fail
          go_ret
          exact ⟨by rw [HF.out]; rfl, HB1.out⟩
    · have hd : decide ((k : Int) < (n : Int)) = false := by simp; omega
      have HF := Lib.hid (show E = 0 by rw [HA.out, chkL_end _ _ _ (by rw [← HN.out]; omega)])
      go_wp2_with fail
      go_ret
      exact ⟨by rw [HF.out]; rfl, HB.out⟩

set_option maxRecDepth 100000 in
set_option maxHeartbeats 4000000 in
theorem chk_core (a0 : Option Addr) (c m : Nat) (n : Nm) (w : World) (h : RLies w a0 n) (hn : m = n.length) (hs : SmallN n) (hT : Tab w) :
    Calls Tryz.prog 16 #[.agg #[.slice a0 m c]] w fun e w' => e = .returned (.int .i64 ((chkN n : Nat) : Int)) ∧ Below w.heap.size w w' := by
  by_cases h4 : 8 < m
  · have e : chkN n = 2 := by unfold chkN; rw [if_pos (by omega)]
    have d4 : decide ((8 : Int) < (m : Int)) = true := by simp; omega
    rw [e]
    clear e hn h hs hT h4
    go_enter Tryz.func16, Tryz.ntmps16
    go_wp2_with fail
    go_ret
    exact ⟨rfl, belowNew w _⟩
  have d4 : decide ((8 : Int) < (m : Int)) = false := by simp; omega
  have e : chkN n = chkRs n := by unfold chkN; rw [if_neg (by omega)]
  rw [e]
  have hL : m ≤ 1000000 := by omega
  obtain ⟨E, hE⟩ : ∃ E, E = chkRs n := ⟨_, rfl⟩
  rw [← hE]
  have HE := Lib.hid hE
  have H1 := Lib.hid h
  have HN := Lib.hid hn
  have HS := Lib.hid hs
  have HT := Lib.hid hT
  clear h hn hs hT e hE h4
  go_enter Tryz.func16, Tryz.ntmps16
  go_wp2_with fail
  go_loopw [13] (fun i wr => ∃ k : Nat, k ≤ m ∧ i = .int .i64 k ∧ E = chkRs (n.drop k) ∧ Below w.heap.size w wr) (fun i _ => m - (intOf i).toNat)
  case atStart => exact ⟨0, Nat.zero_le _, rfl, by rw [List.drop_zero]; exact HE.out, belowNew w _⟩
  case round =>
    obtain ⟨k, hk, rfl, hA, hb⟩ := hrel
    have HB := Lib.hid hb
    have HA := Lib.hid hA
    clear hb hA
    by_cases hlt : k < m
    · have hd : decide ((k : Int) < (m : Int)) = true := by simp; omega
      obtain ⟨b, o, rfl, hb, a', c', c0, hc', hL⟩ := H1.out.at k (by rw [← HN.out]; exact hlt)
      have a0 : wr.cell? ⟨b, o + k, none⟩ = _ := (HB.out.cell (p := ⟨b, o + k, none⟩) hb).trans c0
      have HST := Lib.hid (chkRs_step n k (by rw [← HN.out]; exact hlt))
      have hsm := HS.out.2 k (by rw [← HN.out]; exact hlt)
      generalize n.getD k [] = r at a0 HST hsm hc' hL
      obtain ⟨Z, hZ⟩ : ∃ Z, Z = chkR r := ⟨_, rfl⟩
      obtain ⟨q, hq⟩ : ∃ q, q = r.length := ⟨_, rfl⟩
      rw [← hZ] at HST
      rw [← hq] at a0 hc'
      have HCK := Lib.hid (chkL_any a' c' q r wr (hL.below HB.out) hq hc' hsm (HT.out.below HB.out))
      rw [← hZ] at HCK
      clear c0 hb hsm hZ hq hL hc'
      by_cases hz : Z = 0
      · subst hz
        have HF := Lib.hid (show E = chkRs (n.drop (k + 1)) by rw [HA.out, HST.out, if_pos rfl])
        go_wp2_with (go_at_call 37; (with_reducible refine HCK.out.mono ?_); rintro e w1 ⟨rfl, hb1⟩; have HB1 := Lib.hid (below_next HB.out hb1); clear hb1)
        go_roundw
        case rel => exact ⟨k + 1, by omega, by go_num, HF.out, HB1.out⟩
        case measure => simp [intOf]; omega
      · have HF := Lib.hid (show E = Z by rw [HA.out, HST.out, if_neg hz])
        have hz1 := errno_ne hz
        go_wp2_with (go_at_call 37; (with_reducible refine HCK.out.mono ?_); rintro e w1 ⟨rfl, hb1⟩; have HB1 := Lib.hid (below_next HB.out hb1); clear hb1)
        go_ret
        exact ⟨by rw [HF.out]; rfl, HB1.out⟩
    · have hd : decide ((k : Int) < (m : Int)) = false := by simp; omega
      have HF := Lib.hid (show E = 0 by rw [HA.out, chkRs_end _ _ (by rw [← HN.out]; omega)])
      go_wp2_with fail
      go_ret
      exact ⟨by rw [HF.out]; rfl, HB.out⟩
theorem check_any (v : Value) (n : Nm) (w : World) (h : NameV w v n) (hs : SmallN n) (hT : Tab w) :
    Calls Tryz.prog 16 #[v] w fun e w' => e = .returned (.int .i64 ((chkN n : Nat) : Int)) ∧ Below w.heap.size w w' := by
  obtain ⟨a, c, rfl, _, h⟩ := h
  exact chk_core a c _ n w h rfl hs hT
end Go.Proofs.YtfpfgdbfigdooaaGreatDoor
namespace Go.Proofs.YtfpfgdbfigdooaaGreatDoor
open Go.RowKit

/-- The short types and their object identifiers. -/
def SH : List (ByteArray × ByteArray) := [(⟨#[67, 78]⟩, ⟨#[50, 46, 53, 46, 52, 46, 51]⟩), (⟨#[67]⟩, ⟨#[50, 46, 53, 46, 52, 46, 54]⟩), (⟨#[76]⟩, ⟨#[50, 46, 53, 46, 52, 46, 55]⟩), (⟨#[79]⟩, ⟨#[50, 46, 53, 46, 52, 46, 49, 48]⟩), (⟨#[79, 85]⟩, ⟨#[50, 46, 53, 46, 52, 46, 49, 49]⟩), (⟨#[68, 67]⟩, ⟨#[48, 46, 57, 46, 50, 51, 52, 50, 46, 49, 57, 50, 48, 48, 51, 48, 48, 46, 49, 48, 48, 46, 49, 46, 50, 53]⟩), (⟨#[69]⟩, ⟨#[49, 46, 50, 46, 56, 52, 48, 46, 49, 49, 51, 53, 52, 57, 46, 49, 46, 57, 46, 49]⟩)]
def shArr : Array Value := #[.string ⟨#[67, 78]⟩, .string ⟨#[50, 46, 53, 46, 52, 46, 51]⟩, .string ⟨#[67]⟩, .string ⟨#[50, 46, 53, 46, 52, 46, 54]⟩, .string ⟨#[76]⟩, .string ⟨#[50, 46, 53, 46, 52, 46, 55]⟩, .string ⟨#[79]⟩, .string ⟨#[50, 46, 53, 46, 52, 46, 49, 48]⟩, .string ⟨#[79, 85]⟩, .string ⟨#[50, 46, 53, 46, 52, 46, 49, 49]⟩, .string ⟨#[68, 67]⟩, .string ⟨#[48, 46, 57, 46, 50, 51, 52, 50, 46, 49, 57, 50, 48, 48, 51, 48, 48, 46, 49, 48, 48, 46, 49, 46, 50, 53]⟩, .string ⟨#[69]⟩, .string ⟨#[49, 46, 50, 46, 56, 52, 48, 46, 49, 49, 51, 53, 52, 57, 46, 49, 46, 57, 46, 49]⟩]
/-- The table lies as the program's text lays it. -/
def ShT (w : World) : Prop := ∀ j, j < 14 → w.cell? ⟨0, j, none⟩ = shArr[j]?
theorem ShT.lt {w : World} (h : ShT w) : 0 < w.heap.size := block_lt ((h 0 (by omega)).trans rfl)
theorem ShT.below {w w' : World} (h : ShT w) (hb : Below w.heap.size w w') : ShT w' := fun j hj => (hb.cell (p := ⟨0, j, none⟩) h.lt).trans (h j hj)
theorem index_short (k : Nat) (hk : k < 7) (w : World) : (Instr.index 151 (.agg #[.string ⟨#[67, 78]⟩, .string ⟨#[50, 46, 53, 46, 52, 46, 51]⟩, .string ⟨#[67]⟩, .string ⟨#[50, 46, 53, 46, 52, 46, 54]⟩, .string ⟨#[76]⟩, .string ⟨#[50, 46, 53, 46, 52, 46, 55]⟩, .string ⟨#[79]⟩, .string ⟨#[50, 46, 53, 46, 52, 46, 49, 48]⟩, .string ⟨#[79, 85]⟩, .string ⟨#[50, 46, 53, 46, 52, 46, 49, 49]⟩, .string ⟨#[68, 67]⟩, .string ⟨#[48, 46, 57, 46, 50, 51, 52, 50, 46, 49, 57, 50, 48, 48, 51, 48, 48, 46, 49, 48, 48, 46, 49, 46, 50, 53]⟩, .string ⟨#[69]⟩, .string ⟨#[49, 46, 50, 46, 56, 52, 48, 46, 49, 49, 51, 53, 52, 57, 46, 49, 46, 57, 46, 49]⟩]) (.int .i64 (k : Int))).run Tryz.prog w = .ok (.agg #[.string (SH.getD k (⟨#[]⟩, ⟨#[]⟩)).1, .string (SH.getD k (⟨#[]⟩, ⟨#[]⟩)).2]) w := by
  rcases (by omega : k = 0 ∨ k = 1 ∨ k = 2 ∨ k = 3 ∨ k = 4 ∨ k = 5 ∨ k = 6) with rfl | rfl | rfl | rfl | rfl | rfl | rfl <;> kernel_rfl
/-- The type that a word stands for, and whether it stands for one. -/
noncomputable def typ (x : ByteArray) : ByteArray × Bool := match SH.find? (fun p => decide (p.1 = x)) with | some p => (p.2, true) | none => (x, oidB x)
theorem find_first {x : ByteArray} {d : ByteArray × ByteArray} : ∀ (l : List (ByteArray × ByteArray)) (k : Nat), k < l.length → (∀ j, j < k → (l.getD j d).1 ≠ x) → (l.getD k d).1 = x → l.find? (fun p => decide (p.1 = x)) = some (l.getD k d)
  | [], k, h, _, _ => absurd h (Nat.not_lt_zero _)
  | p :: l, 0, _, _, h => by
    rw [List.find?_cons_of_pos (by simpa using h)]; rfl
  | p :: l, k + 1, h, h1, h2 => by
    rw [List.find?_cons_of_neg (by simpa using h1 0 (by omega)), find_first (d := d) l k (by simpa using h) (fun j hj => by simpa using h1 (j + 1) (by omega)) (by simpa using h2)]
    simp
theorem find_no {x : ByteArray} {d : ByteArray × ByteArray} {l : List (ByteArray × ByteArray)} (h : ∀ j, j < l.length → (l.getD j d).1 ≠ x) : l.find? (fun p => decide (p.1 = x)) = none := by
  rw [List.find?_eq_none]
  intro p hp
  obtain ⟨j, hj, rfl⟩ := List.mem_iff_getElem.1 hp
  have := h j hj
  rw [List.getD_eq_getElem?_getD, List.getElem?_eq_getElem hj] at this
  simpa using this
theorem typ_hit {x : ByteArray} (k : Nat) (hk : k < 7) (h1 : ∀ j, j < k → (SH.getD j (⟨#[]⟩, ⟨#[]⟩)).1 ≠ x) (h2 : (SH.getD k (⟨#[]⟩, ⟨#[]⟩)).1 = x) : typ x = ((SH.getD k (⟨#[]⟩, ⟨#[]⟩)).2, true) := by
  unfold typ
  rw [find_first SH k hk h1 h2]
theorem typ_miss {x : ByteArray} (h : ∀ j, j < 7 → (SH.getD j (⟨#[]⟩, ⟨#[]⟩)).1 ≠ x) : typ x = (x, oidB x) := by
  unfold typ
  rw [find_no (l := SH) (d := (⟨#[]⟩, ⟨#[]⟩)) h]
theorem sh_size : ∀ k, k < 7 → (SH.getD k (⟨#[]⟩, ⟨#[]⟩)).2.size ≤ 40 := by decide
theorem typ_size (x : ByteArray) : (typ x).1.size ≤ x.size + 40 := by
  unfold typ
  cases h : SH.find? (fun p => decide (p.1 = x)) with
  | none => show x.size ≤ _; omega
  | some p =>
    obtain ⟨j, hj, rfl⟩ := List.mem_iff_getElem.1 (List.mem_of_find?_eq_some h)
    have := sh_size j hj
    rw [List.getD_eq_getElem?_getD, List.getElem?_eq_getElem hj] at this
    show (SH[j]).2.size ≤ _
    have e : (some SH[j]).getD (⟨#[]⟩, ⟨#[]⟩) = SH[j] := rfl
    rw [e] at this
    omega
set_option maxRecDepth 100000 in
set_option maxHeartbeats 4000000 in
theorem typ_any (x : ByteArray) (w : World) (hx : x.size ≤ 1000000) (h : ShT w) :
    Calls Tryz.prog 169 #[.string x] w fun e w' => e = .returned (.tuple #[.string (typ x).1, .bool (typ x).2]) ∧ Below w.heap.size w w' := by
  have c0 : w.cell? ⟨0, 0, none⟩ = some (.string ⟨#[67, 78]⟩) := h 0 (by omega)
  have c1 : w.cell? ⟨0, 1, none⟩ = some (.string ⟨#[50, 46, 53, 46, 52, 46, 51]⟩) := h 1 (by omega)
  have c2 : w.cell? ⟨0, 2, none⟩ = some (.string ⟨#[67]⟩) := h 2 (by omega)
  have c3 : w.cell? ⟨0, 3, none⟩ = some (.string ⟨#[50, 46, 53, 46, 52, 46, 54]⟩) := h 3 (by omega)
  have c4 : w.cell? ⟨0, 4, none⟩ = some (.string ⟨#[76]⟩) := h 4 (by omega)
  have c5 : w.cell? ⟨0, 5, none⟩ = some (.string ⟨#[50, 46, 53, 46, 52, 46, 55]⟩) := h 5 (by omega)
  have c6 : w.cell? ⟨0, 6, none⟩ = some (.string ⟨#[79]⟩) := h 6 (by omega)
  have c7 : w.cell? ⟨0, 7, none⟩ = some (.string ⟨#[50, 46, 53, 46, 52, 46, 49, 48]⟩) := h 7 (by omega)
  have c8 : w.cell? ⟨0, 8, none⟩ = some (.string ⟨#[79, 85]⟩) := h 8 (by omega)
  have c9 : w.cell? ⟨0, 9, none⟩ = some (.string ⟨#[50, 46, 53, 46, 52, 46, 49, 49]⟩) := h 9 (by omega)
  have c10 : w.cell? ⟨0, 10, none⟩ = some (.string ⟨#[68, 67]⟩) := h 10 (by omega)
  have c11 : w.cell? ⟨0, 11, none⟩ = some (.string ⟨#[48, 46, 57, 46, 50, 51, 52, 50, 46, 49, 57, 50, 48, 48, 51, 48, 48, 46, 49, 48, 48, 46, 49, 46, 50, 53]⟩) := h 11 (by omega)
  have c12 : w.cell? ⟨0, 12, none⟩ = some (.string ⟨#[69]⟩) := h 12 (by omega)
  have c13 : w.cell? ⟨0, 13, none⟩ = some (.string ⟨#[49, 46, 50, 46, 56, 52, 48, 46, 49, 49, 51, 53, 52, 57, 46, 49, 46, 57, 46, 49]⟩) := h 13 (by omega)
  have HX := Lib.hid hx
  obtain ⟨t, ht⟩ : ∃ t, t = typ x := ⟨_, rfl⟩
  have HT := Lib.hid ht
  rw [← ht]
  clear h hx ht
  go_enter Tryz.func169, Tryz.ntmps169
  go_wp2_with fail
  clear c0 c1 c2 c3 c4 c5 c6 c7 c8 c9 c10 c11 c12 c13
  go_loopw [7] (fun i wr => ∃ k : Nat, k ≤ 7 ∧ i = .int .i64 k ∧ (∀ j, j < k → (SH.getD j (⟨#[]⟩, ⟨#[]⟩)).1 ≠ x) ∧ Below w.heap.size w wr) (fun i _ => 7 - (intOf i).toNat)
  case atStart => exact ⟨0, by omega, rfl, fun j hj => absurd hj (Nat.not_lt_zero _), Below.refl _ _⟩
  case round =>
    obtain ⟨k, hk, rfl, hA, hb⟩ := hrel
    have HB := Lib.hid hb
    have HA := Lib.hid hA
    clear hb hA
    by_cases hlt : k < 7
    · have hd : decide ((k : Int) < 7) = true := by simp; omega
      have hix := index_short k hlt
      obtain ⟨s, hs⟩ : ∃ s, s = (SH.getD k (⟨#[]⟩, ⟨#[]⟩)).1 := ⟨_, rfl⟩
      obtain ⟨i, hi⟩ : ∃ i, i = (SH.getD k (⟨#[]⟩, ⟨#[]⟩)).2 := ⟨_, rfl⟩
      rw [← hs, ← hi] at hix
      have HB1 := Lib.hid (below_next HB.out (belowNew wr (.cells #[.string s, .string i] 150)))
      have HE := Lib.hid (beq_str s x)
      by_cases hx : s = x
      · have hbq : (s.toList == x.toList) = true := by rw [HE.out]; exact decide_eq_true hx
        have HF := Lib.hid (show t = (i, true) by rw [HT.out, hi]; exact typ_hit k hlt HA.out (by rw [← hs]; exact hx))
        clear hs hi hx
        go_wp2_with fail
        go_ret2
        exact ⟨by rw [HF.out]; rfl, HB1.out⟩
      · have hbq : (s.toList == x.toList) = false := by rw [HE.out]; exact decide_eq_false hx
        have HF := Lib.hid (show ∀ j, j < k + 1 → (SH.getD j (⟨#[]⟩, ⟨#[]⟩)).1 ≠ x from fun j hj => by
          by_cases e : j = k
          · rw [e, ← hs]; exact hx
          · exact HA.out j (by omega))
        clear hs hi hx
        go_wp2_with fail
        go_roundw
        case rel => exact ⟨k + 1, by omega, by go_num, HF.out, HB1.out⟩
        case measure => simp [intOf]; omega
    · obtain rfl : k = 7 := by omega
      have hd : decide (((7 : Nat) : Int) < 7) = false := rfl
      have HF := Lib.hid (show t = (x, oidB x) by rw [HT.out]; exact typ_miss HA.out)
      have HO := Lib.hid (valid_b x wr (by have := HX.out; omega))
      go_wp2_with (go_at_call 102; (with_reducible refine HO.out.mono ?_); rintro e w1 ⟨rfl, hb1⟩; have HB1 := Lib.hid (below_next HB.out hb1); clear hb1)
      go_ret2
      exact ⟨by rw [HF.out]; rfl, HB1.out⟩
end Go.Proofs.YtfpfgdbfigdooaaGreatDoor
namespace Go.Proofs.YtfpfgdbfigdooaaGreatDoor
open Go.RowKit

/-- The pieces of a text between the bytes c. -/
def pcsS (c : UInt8) (s : ByteArray) : List ByteArray := Lib.splitB ⟨#[c]⟩ 0 (Lib.countB s ⟨#[c]⟩) s
theorem pcsS_spl (c : UInt8) (s : ByteArray) : Spl c s.data.toList ((pcsS c s).map (·.data.toList)) := split_pieces c s
theorem pcsS_len (c : UInt8) (s : ByteArray) : (pcsS c s).length = Lib.countB s ⟨#[c]⟩ + 1 := Lib.splitB_all ⟨#[c]⟩ (by show 1 ≤ 1; omega) 0 _ s rfl
theorem index_byte (x : ByteArray) (c : UInt8) (w : World) :
    Calls Tryz.prog 190 #[.string x, .string ⟨#[c]⟩] w fun e w' => e = .returned (.int .i64 (Lib.indexByte x.data.toList c)) ∧ w' = w :=
  Any.stringslite_Index_one lays219 x c w
theorem sindex_byte (x : ByteArray) (c : UInt8) (w : World) :
    Calls Tryz.prog 167 #[.string x, .string ⟨#[c]⟩] w fun e w' => e = .returned (.int .i64 (Lib.indexB x ⟨#[c]⟩)) ∧ w' = w := by
  have c1 := Any.stringslite_Index_one lays219 x c w
  rw [← Lib.index_one] at c1
  go_enter Tryz.func167, Tryz.ntmps167
  go_wp2_with (go_at_call 190; refine c1.mono ?_; rintro e w' ⟨rfl, hw⟩; rw [hw])
  go_ret
  exact ⟨rfl, rfl⟩
theorem count_byte (x : ByteArray) (c : UInt8) (w : World) :
    Calls Tryz.prog 166 #[.string x, .string ⟨#[c]⟩] w fun e w' => e = .returned (.int .i64 (Lib.countB x ⟨#[c]⟩)) ∧ w' = w := by
  refine (Any.strings_Count_one lays138 x c w).mono fun e w' ⟨he, hw⟩ => ⟨?_, hw⟩
  rw [he]
  show _ = Ending.returned (Value.int .i64 ((Lib.count x.data.toList [c] : Nat) : Int))
  rw [Lib.count_one]
  rfl
theorem count_le (s : ByteArray) (c : UInt8) : Lib.countB s ⟨#[c]⟩ ≤ s.size := Lib.countB_le ⟨#[c]⟩ (by show 1 ≤ 1; omega) s.size s (Nat.le_refl _)
theorem gensplit_c (s : ByteArray) (c : UInt8) (w : World) (hs : s.size < 4294967281) :
    Calls Tryz.prog 128 #[.string s, .string ⟨#[c]⟩, .int .i64 0, .int .i64 (-1)] w fun e w' =>
      e = .returned (.slice (some ⟨w.heap.size, 0, none⟩) (pcsS c s).length (pcsS c s).length) ∧ w' = w.alloc (.cells ((pcsS c s).map Value.string).toArray 9) := by
  have hle := count_le s c
  have c1 := Any.strings_genSplit_core lays221 (by kernel_rfl) s ⟨#[c]⟩ 0 (-1) (Lib.countB s ⟨#[c]⟩ + 1) w hs (by show 1 ≤ 1; omega) (by omega)
    (fun x d _ => sindex_byte x c _) (count_byte s c w) (by decide) (by decide) (by rw [if_pos (by decide)]; omega)
  have e2 : Lib.cellsOf (pcsS c s) (Lib.countB s ⟨#[c]⟩ + 1) = ((pcsS c s).map Value.string).toArray := by rw [← pcsS_len]; exact Lib.cellsOf_full _
  rw [Nat.add_sub_cancel] at c1
  refine c1.mono fun e w' ⟨h1, h2⟩ => ⟨?_, ?_⟩
  · rw [h1]
    show Ending.returned (.slice _ (pcsS c s).length (Lib.countB s ⟨#[c]⟩ + 1)) = _
    rw [← pcsS_len]
  · rw [h2]
    show w.alloc (.cells (Lib.cellsOf (pcsS c s) (Lib.countB s ⟨#[c]⟩ + 1)) _) = _
    rw [e2]; rfl
theorem split_c (s : ByteArray) (c : UInt8) (w : World) (hs : s.size < 4294967281) :
    Calls Tryz.prog 87 #[.string s, .string ⟨#[c]⟩] w fun e w' =>
      e = .returned (.slice (some ⟨w.heap.size, 0, none⟩) (pcsS c s).length (pcsS c s).length) ∧ w' = w.alloc (.cells ((pcsS c s).map Value.string).toArray 9) := by
  have h := gensplit_c s c w hs
  go_enter Tryz.func87, Tryz.ntmps87
  go_wp2_with (go_at_call 128; refine h.mono ?_; rintro e w' ⟨rfl, hw⟩; rw [hw])
  go_ret
  exact ⟨rfl, rfl⟩
theorem pcs_cell (c : UInt8) (s : ByteArray) (W : World) (k : Nat) (hk : k < (pcsS c s).length) : (W.alloc (.cells ((pcsS c s).map Value.string).toArray 9)).cell? ⟨W.heap.size, k, none⟩ = some (.string ((pcsS c s).getD k ⟨#[]⟩)) := row_strs W _ k hk

set_option maxRecDepth 100000 in
set_option maxHeartbeats 1000000 in
theorem cut_hit (s : ByteArray) (c : UInt8) (i : Nat) (h : Lib.indexByte s.data.toList c = i) (hi : i < s.size) (hs : s.size ≤ 1000000) (w : World) :
    Calls Tryz.prog 191 #[.string s, .string ⟨#[c]⟩] w fun e w' => e = .returned (.tuple #[.string (s.extract 0 i), .string (s.extract (i + 1) s.size), .bool true]) ∧ Below w.heap.size w w' := by
  have hx := fun w => index_byte s c w
  rw [h] at hx
  have HX := Lib.hid hx
  have c1 : (0 : Int) ≤ (i : Int) := by omega
  have c2 : (i : Int) ≤ (s.size : Int) := by omega
  have c3 : (i : Int) + 1 ≤ (s.size : Int) := by omega
  have d0 : decide ((0 : Int) ≤ (i : Int)) = true := by simp
  clear hx h
  go_enter Tryz.func191, Tryz.ntmps191
  go_wp2_with (go_at_call 190; (with_reducible refine (HX.out _).mono ?_); rintro e w1 ⟨rfl, rfl⟩)
  go_region_o
  go_wp2
  go_ret3
  exact ⟨rfl, (Below.refl _ _).drew⟩
set_option maxRecDepth 100000 in
set_option maxHeartbeats 1000000 in
theorem cut_miss (s : ByteArray) (c : UInt8) (h : Lib.indexByte s.data.toList c = -1) (w : World) :
    Calls Tryz.prog 191 #[.string s, .string ⟨#[c]⟩] w fun e w' => e = .returned (.tuple #[.string s, .string ⟨#[]⟩, .bool false]) ∧ Below w.heap.size w w' := by
  have hx := fun w => index_byte s c w
  rw [h] at hx
  have HX := Lib.hid hx
  clear hx h
  go_enter Tryz.func191, Tryz.ntmps191
  go_wp2_with (go_at_call 190; (with_reducible refine (HX.out _).mono ?_); rintro e w1 ⟨rfl, rfl⟩)
  go_ret3
  exact ⟨rfl, Below.refl _ _⟩
/-- What Cut answers. -/
def cutV (s : ByteArray) (c : UInt8) : Value :=
  if Lib.indexByte s.data.toList c = -1 then .tuple #[.string s, .string ⟨#[]⟩, .bool false]
  else .tuple #[.string (s.extract 0 (Lib.indexByte s.data.toList c).toNat), .string (s.extract ((Lib.indexByte s.data.toList c).toNat + 1) s.size), .bool true]
set_option maxRecDepth 100000 in
theorem cut_any (s : ByteArray) (c : UInt8) (hs : s.size ≤ 1000000) (w : World) :
    Calls Tryz.prog 168 #[.string s, .string ⟨#[c]⟩] w fun e w' => e = .returned (cutV s c) ∧ Below w.heap.size w w' := by
  rcases index_cases s.data.toList c with ⟨h, _⟩ | ⟨i, h, hi⟩
  · have e : cutV s c = .tuple #[.string s, .string ⟨#[]⟩, .bool false] := if_pos h
    rw [e]
    have HC := Lib.hid (cut_miss s c h w)
    clear e h
    go_enter Tryz.func168, Tryz.ntmps168
    go_wp2_with (go_at_call 191; (with_reducible refine HC.out.mono ?_); rintro e w1 ⟨rfl, hb⟩; have HB := Lib.hid hb; clear hb)
    go_ret3
    exact ⟨rfl, HB.out⟩
  · have e : cutV s c = .tuple #[.string (s.extract 0 i), .string (s.extract (i + 1) s.size), .bool true] := by
      unfold cutV
      rw [h, if_neg (by omega)]
      rfl
    rw [e]
    have HC := Lib.hid (cut_hit s c i h hi hs w)
    clear e h
    go_enter Tryz.func168, Tryz.ntmps168
    go_wp2_with (go_at_call 191; (with_reducible refine HC.out.mono ?_); rintro e w1 ⟨rfl, hb⟩; have HB := Lib.hid hb; clear hb)
    go_ret3
    exact ⟨rfl, HB.out⟩
end Go.Proofs.YtfpfgdbfigdooaaGreatDoor
