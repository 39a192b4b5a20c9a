/-
  The layouts of times: what is written in a layout, what is read in it, and that each undoes the other; a date's texts. Nothing is claimed of the program here.
-/
import Derived.Test.YtkgdkaopbnodpaaDoorDbase
namespace Go.Proofs.YtkgdkaopbnodpaaDoor
open Go.RowKit

/-- The field to which a letter belongs. -/
def slot (c : Nat) : Option Nat :=
  if c = 89 then some 0 else if c = 77 then some 1 else if c = 68 then some 2 else if c = 104 then some 3 else if c = 109 then some 4 else if c = 115 then some 5 else none
theorem slot_lt {c j : Nat} (h : slot c = some j) : j < 6 := by
  unfold slot at h
  repeat' split at h
  all_goals first | (cases h; done) | (simp at h; omega)
/-- The last digit of a number. -/
def dig (n : Nat) : UInt8 := UInt8.ofNat (48 + n % 10)
theorem dig_nat (n : Nat) : (dig n).toNat = 48 + n % 10 := by unfold dig; simp; omega
theorem dig_of {c : UInt8} {v : Nat} (h : 48 ≤ c.toNat ∧ c.toNat ≤ 57) : dig (10 * v + (c.toNat - 48)) = c := by
  apply UInt8.toNat_inj.1
  rw [dig_nat]; omega
def wrt : List UInt8 → List Nat → List UInt8 × List Nat
  | [], F => ([], F)
  | c :: r, F => match slot c.toNat with
    | none => (c :: (wrt r F).1, (wrt r F).2)
    | some j => (dig ((wrt r F).2.getD j 0) :: (wrt r F).1, (wrt r F).2.set j ((wrt r F).2.getD j 0 / 10))
def rdt : List UInt8 → List UInt8 → List Nat → Option (List Nat)
  | [], [], F => some F
  | l :: L, c :: S, F => match slot l.toNat with
    | none => if c = l then rdt L S F else none
    | some j => if 48 ≤ c.toNat ∧ c.toNat ≤ 57 then rdt L S (F.set j (10 * F.getD j 0 + (c.toNat - 48))) else none
  | _, _, _ => none
theorem wrt_none {c : UInt8} {r : List UInt8} {F : List Nat} (h : slot c.toNat = none) : wrt (c :: r) F = (c :: (wrt r F).1, (wrt r F).2) := by rw [wrt, h]
theorem wrt_some {c : UInt8} {r : List UInt8} {F : List Nat} {j : Nat} (h : slot c.toNat = some j) : wrt (c :: r) F = (dig ((wrt r F).2.getD j 0) :: (wrt r F).1, (wrt r F).2.set j ((wrt r F).2.getD j 0 / 10)) := by rw [wrt, h]
theorem rdt_none {l c : UInt8} {L S : List UInt8} {F : List Nat} (h : slot l.toNat = none) : rdt (l :: L) (c :: S) F = if c = l then rdt L S F else none := by rw [rdt, h]
theorem rdt_some {l c : UInt8} {L S : List UInt8} {F : List Nat} {j : Nat} (h : slot l.toNat = some j) : rdt (l :: L) (c :: S) F = if 48 ≤ c.toNat ∧ c.toNat ≤ 57 then rdt L S (F.set j (10 * F.getD j 0 + (c.toNat - 48))) else none := by rw [rdt, h]
theorem wrt_len (L : List UInt8) (F : List Nat) : (wrt L F).1.length = L.length ∧ (wrt L F).2.length = F.length := by
  induction L with
  | nil => exact ⟨rfl, rfl⟩
  | cons c r ih =>
    cases h : slot c.toNat with
    | none => rw [wrt_none h]; simp [ih]
    | some j => rw [wrt_some h]; simp [ih]
theorem rd_len : ∀ (L S : List UInt8) (F G : List Nat), rdt L S F = some G → G.length = F.length
  | [], [], F, G, h => by simp [rdt] at h; rw [h]
  | [], _ :: _, _, _, h => by simp [rdt] at h
  | _ :: _, [], _, _, h => by simp [rdt] at h
  | l :: L, c :: S, F, G, h => by
    cases e : slot l.toNat with
    | none =>
      rw [rdt_none e] at h
      split at h
      · exact rd_len L S F G h
      · cases h
    | some j =>
      rw [rdt_some e] at h
      split at h
      · rw [rd_len L S _ G h]; simp
      · cases h
theorem set_back {F : List Nat} {j : Nat} (hj : j < F.length) (v : Nat) : (F.set j v).set j (F.getD j 0) = F := by
  apply List.ext_getElem
  · simp
  · intro i h1 h2
    rw [List.getElem_set, List.getElem_set]
    by_cases e : j = i
    · subst e; simp [hj]
    · simp [e]
theorem set_get {F : List Nat} {j : Nat} (hj : j < F.length) (v : Nat) : (F.set j v).getD j 0 = v := by
  rw [List.getD_eq_getElem?_getD]
  simp [hj]
/-- What is read is what is written. -/
theorem rd_wrt : ∀ (L S : List UInt8) (F G : List Nat), F.length = 6 → rdt L S F = some G → wrt L G = (S, F)
  | [], [], F, G, _, h => by simp [rdt] at h; rw [h]; rfl
  | [], _ :: _, _, _, _, h => by simp [rdt] at h
  | _ :: _, [], _, _, _, h => by simp [rdt] at h
  | l :: L, c :: S, F, G, hF, h => by
    cases e : slot l.toNat with
    | none =>
      rw [rdt_none e] at h
      split at h
      · rename_i hc
        rw [wrt_none e, rd_wrt L S F G hF h, hc]
      · cases h
    | some j =>
      rw [rdt_some e] at h
      have hj := slot_lt e
      split at h
      · rename_i hc
        rw [wrt_some e, rd_wrt L S _ G (by simpa using hF) h]
        have hj2 : j < F.length := by omega
        simp only [set_get hj2]
        rw [dig_of hc]
        have e2 : (10 * F.getD j 0 + (c.toNat - 48)) / 10 = F.getD j 0 := by omega
        rw [e2, set_back hj2]
      · cases h
theorem wrt_rd : ∀ (L S : List UInt8) (F G : List Nat), G.length = 6 → wrt L G = (S, F) → rdt L S F = some G
  | [], S, F, G, _, h => by
    simp [wrt] at h
    obtain ⟨rfl, rfl⟩ := h
    rfl
  | l :: L, S, F, G, hG, h => by
    have hl := (wrt_len L G).2
    cases e : slot l.toNat with
    | none =>
      rw [wrt_none e] at h
      simp at h
      obtain ⟨rfl, rfl⟩ := h
      rw [rdt_none e, if_pos rfl]
      exact wrt_rd L _ _ G hG rfl
    | some j =>
      rw [wrt_some e] at h
      simp only [Prod.mk.injEq] at h
      obtain ⟨rfl, rfl⟩ := h
      have hj := slot_lt e
      have hj2 : j < (wrt L G).2.length := by omega
      rw [rdt_some e, dig_nat, if_pos ⟨by omega, by omega⟩, set_get hj2]
      have e2 : 10 * ((wrt L G).2.getD j 0 / 10) + (48 + (wrt L G).2.getD j 0 % 10 - 48) = (wrt L G).2.getD j 0 := by omega
      rw [e2, List.set_set]
      have e3 : (wrt L G).2.set j ((wrt L G).2.getD j 0) = (wrt L G).2 := by
        apply List.ext_getElem
        · simp
        · intro i h1 h2
          rw [List.getElem_set]
          by_cases ee : j = i
          · subst ee; simp [hj2]
          · simp [ee]
      rw [e3]
      exact wrt_rd L _ _ G hG rfl
def zeros : List Nat := [0, 0, 0, 0, 0, 0]
/-- How many letters of a field a layout has. -/
def cnt (j : Nat) : List UInt8 → Nat
  | [] => 0
  | c :: r => (if slot c.toNat = some j then 1 else 0) + cnt j r

/-! ### The three layouts -/
def layT : List UInt8 := [89, 89, 89, 89, 45, 77, 77, 45, 68, 68, 32, 104, 104, 58, 109, 109, 58, 115, 115]
def layU : List UInt8 := [89, 89, 77, 77, 68, 68, 104, 104, 109, 109, 115, 115, 90]
def layL : List UInt8 := [89, 89, 89, 89, 77, 77, 68, 68, 104, 104, 109, 109, 115, 115, 90]
def d2 (n : Nat) : List UInt8 := [dig (n / 10), dig n]
def d4 (n : Nat) : List UInt8 := [dig (n / 10 / 10 / 10), dig (n / 10 / 10), dig (n / 10), dig n]
def txtT (x : Dt) : List UInt8 := d4 x.y ++ [45] ++ d2 x.m ++ [45] ++ d2 x.d ++ [32] ++ d2 x.h ++ [58] ++ d2 x.n ++ [58] ++ d2 x.s
def txtR (x : Dt) : List UInt8 := d2 x.m ++ d2 x.d ++ d2 x.h ++ d2 x.n ++ d2 x.s ++ [90]
def txtU (x : Dt) : List UInt8 := d2 x.y ++ txtR x
def txtL (x : Dt) : List UInt8 := d4 x.y ++ txtR x
def flds (x : Dt) : List Nat := [x.y, x.m, x.d, x.h, x.n, x.s]
theorem wrt_T (x : Dt) : wrt layT (flds x) = (txtT x, [x.y / 10 / 10 / 10 / 10, x.m / 10 / 10, x.d / 10 / 10, x.h / 10 / 10, x.n / 10 / 10, x.s / 10 / 10]) := rfl
theorem wrt_U (x : Dt) : wrt layU (flds x) = (txtU x, [x.y / 10 / 10, x.m / 10 / 10, x.d / 10 / 10, x.h / 10 / 10, x.n / 10 / 10, x.s / 10 / 10]) := rfl
theorem wrt_L (x : Dt) : wrt layL (flds x) = (txtL x, [x.y / 10 / 10 / 10 / 10, x.m / 10 / 10, x.d / 10 / 10, x.h / 10 / 10, x.n / 10 / 10, x.s / 10 / 10]) := rfl
theorem cnt_T : ∀ j, j < 6 → cnt j layT ≤ 4 := by decide
theorem cnt_U : ∀ j, j < 6 → cnt j layU ≤ 4 := by decide
theorem cnt_L : ∀ j, j < 6 → cnt j layL ≤ 4 := by decide
theorem flds_of {G : List Nat} (h : G.length = 6) : ∃ x, G = flds x := by
  match G, h with
  | [a, b, c, d, e, f], _ => exact ⟨⟨a, b, c, d, e, f⟩, rfl⟩
theorem flds_inj {x z : Dt} (h : flds x = flds z) : x = z := by
  cases x; cases z
  simp [flds] at h
  simp [h]
end Go.Proofs.YtkgdkaopbnodpaaDoor
