/-
  What the two rows of this seat need: that the program has a start, that the laws' functions only read what they are handed, and five arguments and arrays of sixteen bytes, opened.
-/
import Derived.Test.YtbmphhiafepnoaaRows
import Derived.Test.YtbmphhiafepnoaaChecked
import Derived.Test.YtbmphhiafepnoaaCaa
import Derived.ProofKit
import Derived.OpenShut
import Derived.Deep.DeepHandedRow
import Derived.Lib.LaidTab
namespace Go.Proofs.Ytbmphhiafepnoaa
open Go.ChangeShapes Go.WideShapes Go.ChangeAt Go.RowKit

theorem own : ownKnob Try.prog.godebug = none := by kernel_rfl
theorem laidOut : laidOutB Try.prog = true := by kernel_rfl

/-- A world for the witness: the settled one. -/
noncomputable def startWorld (os : Os) : World := World.holding Try.prog os ⟨#[], #[], []⟩

/-- What was handed in reads as it read, for a call that leaves old memory alone. -/
theorem below_trodAll {H : Type} {enc : TypeId × Value → H} {W W' : World} (hb : Below W.heap.size W W') :
    ∀ (ts : List TypeId) (vs : List Value) (ds : List (DataW H)) (ps : List MemPlace), (∀ t ∈ ts, Try.prog.readableRec t = true ∧ t < Try.prog.types.size) → (∀ x ∈ ps, x.block < W.heap.size) →
      DataW.TrodAll enc Try.prog W 0 (fun _ => true) true ts vs ds ps → DataW.TrodAll enc Try.prog W' 0 (fun b => decide (b < W.heap.size)) true ts vs ds ps := by
  intro ts
  induction ts with
  | nil => intro vs ds ps _ _ h; obtain ⟨rfl, rfl, rfl⟩ := trodAll_nil h; exact trodAll_mk0
  | cons t ts ih =>
    intro vs ds ps ht hp h
    obtain ⟨v, vs', d, ds', p, q, rfl, rfl, rfl, h1, h2⟩ := trodAll_cons h
    exact trodAll_cons_mk (Below.trod laidOut (ht t (by simp)).1 (ht t (by simp)).2 h1 hb (fun x hx => hp x (by simp [hx]))) (ih vs' ds' q (fun u hu => ht u (by simp [hu])) (fun x hx => hp x (by simp [hx])) h2)

theorem trodAll_five {H : Type} {enc : TypeId × Value → H} {P : Program} {w : World} {base : Nat} {spare : Nat → Bool} {held : Bool} {t0 t1 t2 t3 t4 : TypeId} {args : Array Value} {ds : List (DataW H)} {ps : List MemPlace}
    (h : DataW.TrodAll enc P w base spare held [t0, t1, t2, t3, t4] args.toList ds ps) :
    ∃ v0 v1 v2 v3 v4 d0 d1 d2 d3 d4 p0 p1 p2 p3 p4, args = #[v0, v1, v2, v3, v4] ∧ ds = [d0, d1, d2, d3, d4] ∧ ps = p0 ++ p1 ++ p2 ++ p3 ++ p4 ∧
      DataW.Trod enc P w base spare held t0 v0 d0 p0 ∧ DataW.Trod enc P w base spare held t1 v1 d1 p1 ∧ DataW.Trod enc P w base spare held t2 v2 d2 p2 ∧ DataW.Trod enc P w base spare held t3 v3 d3 p3 ∧ DataW.Trod enc P w base spare held t4 v4 d4 p4 := by
  obtain ⟨v0, r0, d0, e0, p0, q0, hargs, rfl, rfl, h0, h⟩ := trodAll_cons h
  obtain ⟨v1, r1, d1, e1, p1, q1, rfl, rfl, rfl, h1, h⟩ := trodAll_cons h
  obtain ⟨v2, r2, d2, e2, p2, q2, rfl, rfl, rfl, h2, h⟩ := trodAll_cons h
  obtain ⟨v3, r3, d3, e3, p3, q3, rfl, rfl, rfl, h3, h⟩ := trodAll_cons h
  obtain ⟨v4, r4, d4, e4, p4, q4, rfl, rfl, rfl, h4, h⟩ := trodAll_cons h
  obtain ⟨rfl, rfl, rfl⟩ := trodAll_nil h
  exact ⟨v0, v1, v2, v3, v4, d0, d1, d2, d3, d4, p0, p1, p2, p3, p4, by cases args; simp_all, rfl, by simp, h0, h1, h2, h3, h4⟩

theorem bytesAll : Try.prog.cellsOf 22 = 16 := by kernel_rfl
theorem byteOne : Try.prog.cellsOf 5 = 1 := by kernel_rfl
def byteOf : Value → UInt8
  | .int _ n => UInt8.ofNat n.toNat
  | _ => 0
theorem byte_back {n : Int} (h : (Lit.int .u8 n).wf = true) : bcell (byteOf (.int .u8 n)) = .int .u8 n := by
  have hb := bounds_u8 h
  show Value.int .u8 (((UInt8.ofNat n.toNat).toNat : Nat) : Int) = _
  congr 1
  simp
  omega
/-- An array of sixteen bytes that can be read. -/
theorem open_arr16 {H : Type} {enc : TypeId × Value → H} {W : World} {r : Reach} {b0 : Nat} {v : Value} {d : DataW H} {p : List MemPlace}
    (hval : Value.okWide Try.prog W r b0 22 v) (h : DataW.Trod enc Try.prog W 0 (fun _ => true) true 22 v d p) :
    ∃ L : List UInt8, v = .agg (L.map bcell).toArray ∧ p = [] ∧ L.length = 16 := by
  unfold Value.okWide at hval
  rw [Try.underlying22] at hval
  obtain ⟨cs, rfl, hsz, _⟩ := hval
  rw [bytesAll] at hsz
  obtain ⟨fuel, hf⟩ := h
  obtain ⟨xs, m, _, hx, _, hlen, hfd⟩ := DataW.trod_array Try.underlying22 hf
  have key : ∀ (i : Nat) (hi : i < 16), ∃ n : Int, cs.toList[i]? = some (.int .u8 n) ∧ (Lit.int .u8 n).wf = true ∧ xs[i]? = some (.lit (.int .u8 n), []) := by
    intro i hi
    have h1 := hfd i hi
    rw [byteOne, Nat.mul_one] at h1
    have hcl : (Value.agg cs).cells.toList = cs.toList := rfl
    rw [hcl] at h1
    have hix : i < cs.toList.length := by rw [Array.length_toList, hsz]; exact hi
    rw [List.drop_eq_getElem_cons hix, List.take_succ_cons, List.take_zero] at h1
    have hxi : i < xs.length := by rw [hlen]; exact hi
    rw [List.getElem?_eq_getElem hxi] at h1
    obtain ⟨n, e0, e1, wf⟩ := DataW.trod_int Try.underlying5 h1
    have e2 : cs.toList[i] = .int .u8 n := by simpa using e0
    exact ⟨n, by rw [List.getElem?_eq_getElem hix, e2], wf, by rw [List.getElem?_eq_getElem hxi, e1]⟩
  refine ⟨cs.toList.map byteOf, ?_, ?_, by rw [List.length_map, Array.length_toList, hsz]⟩
  · congr 1
    apply Array.toList_inj.1
    rw [List.map_map]
    apply List.ext_getElem?
    intro i
    by_cases hi : i < 16
    · obtain ⟨n, e, wf, _⟩ := key i hi
      rw [List.getElem?_map, e]
      exact congrArg some (byte_back wf).symm
    · have hle : cs.toList.length ≤ i := by rw [Array.length_toList, hsz]; omega
      rw [List.getElem?_eq_none hle, List.getElem?_eq_none (by rw [List.length_map]; exact hle)]
  · have hp : p = xs.flatMap (·.2) := by
      have := congrArg Prod.snd hx
      exact this
    rw [hp]
    apply List.flatMap_eq_nil_iff.2
    intro x hx'
    obtain ⟨i, hi, rfl⟩ := List.getElem_of_mem hx'
    obtain ⟨n, _, _, e⟩ := key i (by omega)
    rw [List.getElem?_eq_getElem hi] at e
    rw [Option.some.inj e]
end Go.Proofs.Ytbmphhiafepnoaa
