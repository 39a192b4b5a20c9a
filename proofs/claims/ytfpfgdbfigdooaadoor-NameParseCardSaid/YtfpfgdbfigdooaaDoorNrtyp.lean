/-
  Plain laws on the short types as the reference looks them up, one after the other. Nothing is claimed of the program here.
-/
import Derived.Test.YtfpfgdbfigdooaaDoorNawake
namespace Go.Proofs.YtfpfgdbfigdooaaDoor
open Go.RowKit

/-- What the reference's search has after q entries. -/
def stT (wd : ByteArray) : Nat → ByteArray
  | 0 => wd
  | q + 1 => if (SH.getD q (⟨#[]⟩, ⟨#[]⟩)).1 = stT wd q then (SH.getD q (⟨#[]⟩, ⟨#[]⟩)).2 else stT wd q
theorem oid_any1 (l : List UInt8) (a : List Nat) (h1 : Good a) (h2 : l ++ [46] = cat fdot a) : oidB (strOf l) = true := oidB_yes (a := a) ⟨h1, by rw [strOf_list]; exact h2⟩
theorem oid_c : Oid [50, 46, 53, 46, 52, 46, 54] [2, 5, 4, 6] := by
  refine ⟨⟨by decide, by decide, by decide, by decide, by decide⟩, ?_⟩
  decide +kernel
theorem oid_l : Oid [50, 46, 53, 46, 52, 46, 55] [2, 5, 4, 7] := by
  refine ⟨⟨by decide, by decide, by decide, by decide, by decide⟩, ?_⟩
  decide +kernel
theorem oid_ou : Oid [50, 46, 53, 46, 52, 46, 49, 49] [2, 5, 4, 11] := by
  refine ⟨⟨by decide, by decide, by decide, by decide, by decide⟩, ?_⟩
  decide +kernel
theorem oid_dc : Oid [48, 46, 57, 46, 50, 51, 52, 50, 46, 49, 57, 50, 48, 48, 51, 48, 48, 46, 49, 48, 48, 46, 49, 46, 50, 53] [0, 9, 2342, 19200300, 100, 1, 25] := by
  refine ⟨⟨by decide, by decide, by decide, by decide, by decide⟩, ?_⟩
  decide +kernel
theorem oid_e : Oid [49, 46, 50, 46, 56, 52, 48, 46, 49, 49, 51, 53, 52, 57, 46, 49, 46, 57, 46, 49] [1, 2, 840, 113549, 1, 9, 1] := by
  refine ⟨⟨by decide, by decide, by decide, by decide, by decide⟩, ?_⟩
  decide +kernel
theorem sh_oid : ∀ k, k < 7 → oidB (SH.getD k (⟨#[]⟩, ⟨#[]⟩)).2 = true := by
  intro k hk
  rcases (by omega : k = 0 ∨ k = 1 ∨ k = 2 ∨ k = 3 ∨ k = 4 ∨ k = 5 ∨ k = 6) with rfl | rfl | rfl | rfl | rfl | rfl | rfl
  · exact oidB_yes oid_cn
  · exact oidB_yes oid_c
  · exact oidB_yes oid_l
  · exact oidB_yes oid_o
  · exact oidB_yes oid_ou
  · exact oidB_yes oid_dc
  · exact oidB_yes oid_e
theorem sh_apart : ∀ j, j < 7 → ∀ k, k < 7 → (SH.getD j (⟨#[]⟩, ⟨#[]⟩)).1 ≠ (SH.getD k (⟨#[]⟩, ⟨#[]⟩)).2 := by decide
theorem st_before (wd : ByteArray) : ∀ q, (∀ j, j < q → (SH.getD j (⟨#[]⟩, ⟨#[]⟩)).1 ≠ wd) → stT wd q = wd
  | 0, _ => rfl
  | q + 1, h => by
    have e := st_before wd q (fun j hj => h j (by omega))
    show (if (SH.getD q (⟨#[]⟩, ⟨#[]⟩)).1 = stT wd q then (SH.getD q (⟨#[]⟩, ⟨#[]⟩)).2 else stT wd q) = wd
    rw [e, if_neg (h q (by omega))]
theorem st_behind (wd : ByteArray) (k : Nat) (hk : k < 7) (h : stT wd (k + 1) = (SH.getD k (⟨#[]⟩, ⟨#[]⟩)).2) : ∀ i, k + 1 + i ≤ 7 → stT wd (k + 1 + i) = (SH.getD k (⟨#[]⟩, ⟨#[]⟩)).2
  | 0, _ => h
  | i + 1, hi => by
    have e := st_behind wd k hk h i (by omega)
    show (if (SH.getD (k + 1 + i) (⟨#[]⟩, ⟨#[]⟩)).1 = stT wd (k + 1 + i) then (SH.getD (k + 1 + i) (⟨#[]⟩, ⟨#[]⟩)).2 else stT wd (k + 1 + i)) = _
    rw [e, if_neg (sh_apart _ (by omega) k hk)]
theorem typ_st (wd : ByteArray) : typ wd = (stT wd 7, oidB (stT wd 7)) := by
  by_cases h : ∃ k, k < 7 ∧ (SH.getD k (⟨#[]⟩, ⟨#[]⟩)).1 = wd ∧ ∀ j, j < k → (SH.getD j (⟨#[]⟩, ⟨#[]⟩)).1 ≠ wd
  · obtain ⟨k, hk, e, hf⟩ := h
    have h1 : stT wd (k + 1) = (SH.getD k (⟨#[]⟩, ⟨#[]⟩)).2 := by
      show (if (SH.getD k (⟨#[]⟩, ⟨#[]⟩)).1 = stT wd k then (SH.getD k (⟨#[]⟩, ⟨#[]⟩)).2 else stT wd k) = _
      rw [st_before wd k hf, if_pos e]
    have h2 := st_behind wd k hk h1 (6 - k) (by omega)
    rw [show k + 1 + (6 - k) = 7 by omega] at h2
    rw [typ_hit k hk hf e, h2, sh_oid k hk]
  · have hn : ∀ q, q ≤ 7 → ∀ j, j < q → (SH.getD j (⟨#[]⟩, ⟨#[]⟩)).1 ≠ wd := by
      intro q
      induction q with
      | zero => intro _ j hj; exact absurd hj (Nat.not_lt_zero _)
      | succ q ih =>
        intro hq j hj
        by_cases ej : j = q
        · subst ej
          exact fun e => h ⟨j, by omega, e, ih (by omega)⟩
        · exact ih (by omega) j (by omega)
    rw [typ_miss (hn 7 (Nat.le_refl _)), st_before wd 7 (hn 7 (Nat.le_refl _))]
theorem st_size (wd : ByteArray) (h : wd.size ≤ 100000) : ∀ q, q ≤ 7 → (stT wd q).size ≤ 100040
  | 0, _ => by show wd.size ≤ _; omega
  | q + 1, hq => by
    show (if (SH.getD q (⟨#[]⟩, ⟨#[]⟩)).1 = stT wd q then (SH.getD q (⟨#[]⟩, ⟨#[]⟩)).2 else stT wd q).size ≤ _
    split
    · have := sh_size q (by omega); omega
    · exact st_size wd h q (by omega)
theorem sh_arr : ∀ q, q < 7 → shArr[q * 2]? = some (.string (SH.getD q (⟨#[]⟩, ⟨#[]⟩)).1) ∧ shArr[q * 2 + 1]? = some (.string (SH.getD q (⟨#[]⟩, ⟨#[]⟩)).2) := by
  intro q hq
  rcases (by omega : q = 0 ∨ q = 1 ∨ q = 2 ∨ q = 3 ∨ q = 4 ∨ q = 5 ∨ q = 6) with rfl | rfl | rfl | rfl | rfl | rfl | rfl <;> exact ⟨rfl, rfl⟩
/-- What the reference makes of the text of an attribute. -/
theorem prsA_st {x wd rs : ByteArray} {i : Nat} (hi : Lib.indexByte x.data.toList 61 = (i : Int)) (h1 : x.extract 0 i = wd) (h2 : x.extract (i + 1) x.size = rs) :
    prsA x = match uneO rs.data.toList with | some v => if oidB (stT wd 7) = true then some (stT wd 7, kindV (stT wd 7) v, v) else none | none => none := by
  unfold prsA
  rw [hi, if_neg (by omega)]
  show (match typ (x.extract 0 i), uneO (x.extract (i + 1) x.size).data.toList with | (id, true), some v => some (id, kindV id v, v) | _, _ => none) = _
  rw [h1, h2, typ_st]
  cases uneO rs.data.toList with
  | none => cases oidB (stT wd 7) <;> rfl
  | some v => cases oidB (stT wd 7) <;> rfl
end Go.Proofs.YtfpfgdbfigdooaaDoor
