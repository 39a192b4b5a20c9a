/-
  The contract of oid.Encode: the contents of the object identifier that the text is, if it is one.
-/
import Derived.Test.YtfpfgdbfigdooaaDoorXbase
import Derived.Test.YtfpfgdbfigdooaaDoorOapp
namespace Go.Proofs.YtfpfgdbfigdooaaDoor
open Go.RowKit

def encVal (a : List Nat) : Value := .tuple #[.string (strOf (enc a)), .int .i64 0]
def noVal : Value := .tuple #[.string ⟨#[]⟩, .int .i64 11]

theorem ILie.tail {w : World} {g : Nat} {x y : Nat} {r : List Nat} (h : ILie w g (x :: y :: r)) (k : Nat) (hk : k < r.length) : w.cell? ⟨g, 2 + k, none⟩ = some (.int .i64 ((r.getD k 0 : Nat) : Int)) := by
  have := h.2 (2 + k) (by simp; omega)
  rw [this]
  have e : (x :: y :: r).getD (2 + k) 0 = r.getD k 0 := by
    rw [show 2 + k = (k + 1) + 1 by omega]; simp
  rw [e]
theorem e128_len5 {a : List Nat} (h : ∀ v ∈ a, v < 34359738368) : (cat e128 a).length ≤ 5 * a.length := by
  induction a with
  | nil => simp [cat]
  | cons v a ih =>
    have h1 := e128_len v (h v (by simp))
    have h2 := ih (fun x hx => h x (by simp [hx]))
    simp only [cat, List.length_append, List.length_cons]; omega

end Go.Proofs.YtfpfgdbfigdooaaDoor
