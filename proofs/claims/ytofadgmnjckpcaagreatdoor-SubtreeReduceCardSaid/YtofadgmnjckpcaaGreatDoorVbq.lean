/-
  A parameter of type api.Reduced, opened.
-/
import Derived.Test.YtofadgmnjckpcaaGreatDoorVbf
namespace Go.Proofs.YtofadgmnjckpcaaGreatDoor
open Go.ChangeShapes Go.WideShapes Go.ChangeAt Go.RowKit Go.ChangeMaps Go.Deep
open Go.ChangeShapes Go.WideShapes Go.ChangeAt Go.RowKit

set_option maxRecDepth 10000 in
theorem open_intsT {H : Type} {enc : TypeId × Value → H} {W : World} {n : Nat} {z : Value} {x : DataW H × List MemPlace} (h : DataW.trod enc Tryz.prog W 0 (fun _ => true) true n 33 [z] = some x) :
    ∃ (a : Option Addr) (c : Nat) (zs : List Int), z = .slice a zs.length c ∧ ILies W a zs ∧ zs.length ≤ 9223372036854775807 := by
  have cb : Tryz.prog.cellsOf 3 = 1 := by kernel_rfl
  rcases open_ints Tryz.underlying33 Tryz.underlying3 cb h with ⟨hcs, _⟩ | ⟨a, len', cap', zs, hcs, _, hl, hcm, hz, _, hcell, _⟩
  · exact ⟨none, 0, [], by simpa using hcs, .inl rfl, by simp⟩
  · obtain rfl : z = .slice (some a) len' cap' := by simpa using hcs
    by_cases h0 : len' = 0
    · subst h0
      exact ⟨_, _, [], rfl, .inl rfl, by simp⟩
    · have hzl : len' ≤ zs.length := by rw [hz]; simpa using hl
      obtain ⟨b, off, rfl, hc⟩ := ints_at hcell (by omega)
      have e : (zs.take len').length = len' := by rw [List.length_take]; omega
      refine ⟨_, _, zs.take len', by rw [e], .inr ⟨b, off, rfl, fun i hi => ?_⟩, by rw [e]; unfold maxLen at hcm; omega⟩
      rw [e] at hi
      rw [hc i (by omega)]
      congr 2
      rw [List.getD_eq_getElem?_getD, List.getD_eq_getElem?_getD, List.getElem?_take_of_lt hi]
set_option maxRecDepth 10000 in
theorem open_reduced {H : Type} {enc : TypeId × Value → H} {W : World} {r : Reach} {b0 : Nat} {v : Value} {d : DataW H} {p : List MemPlace}
    (hval : Value.okWide Tryz.prog W r b0 53 v) (h : DataW.Trod enc Tryz.prog W 0 (fun _ => true) true 53 v d p) :
    ∃ (a0 : Option Addr) (c0 : Nat) (zs : List Int) (a1 : Option Addr) (c1 : Nat) (A : List Gn) (a2 : Option Addr) (c2 : Nat) (B : List Gn), v = .agg #[.slice a0 zs.length c0, .slice a1 A.length c1, .slice a2 B.length c2] ∧ (ILies W a0 zs ∧ zs.length ≤ 9223372036854775807) ∧ (A.length ≤ c1 ∧ GLies W a1 A ∧ BigL A) ∧ B.length ≤ c2 ∧ GLies W a2 B ∧ BigL B := by
  unfold Value.okWide at hval
  rw [Tryz.underlying53] at hval
  obtain ⟨cs, rfl, hsz, _⟩ := hval
  obtain ⟨fuel, hf⟩ := h
  have ci : Tryz.prog.cellsOf 33 = 1 := by kernel_rfl
  have cb : Tryz.prog.cellsOf 25 = 1 := by kernel_rfl
  obtain ⟨xs, k, _, _, _, hlen, hfd⟩ := DataW.trod_struct Tryz.underlying53 hf
  have hlen1 : xs.length = 3 := hlen
  have hs1 : cs.toList.length = 3 := hsz
  match xs, hlen1 with
  | [y0, y1, y2], _ =>
    match hcs : cs.toList, hs1 with
    | [z0, z1, z2], _ =>
      have hcl : (Value.agg cs).cells.toList = [z0, z1, z2] := hcs
      rw [hcl] at hfd
      have g0 : DataW.trod enc Tryz.prog W 0 (fun _ => true) true k 33 (([z0, z1, z2].drop 0).take (Tryz.prog.cellsOf 33)) = some y0 := hfd 0 _ rfl
      have g1 : DataW.trod enc Tryz.prog W 0 (fun _ => true) true k 25 (([z0, z1, z2].drop 1).take (Tryz.prog.cellsOf 25)) = some y1 := hfd 1 _ rfl
      have g2 : DataW.trod enc Tryz.prog W 0 (fun _ => true) true k 25 (([z0, z1, z2].drop 2).take (Tryz.prog.cellsOf 25)) = some y2 := hfd 2 _ rfl
      rw [ci] at g0
      rw [cb] at g1 g2
      obtain ⟨a0, c0, zs, e0, h0⟩ := open_intsT (z := z0) (by simpa using g0)
      obtain ⟨a1, c1, A, e1, h1⟩ := open_gns (z := z1) (by simpa using g1)
      obtain ⟨a2, c2, B, e2, h2⟩ := open_gns (z := z2) (by simpa using g2)
      refine ⟨a0, c0, zs, a1, c1, A, a2, c2, B, ?_, h0, h1, h2⟩
      congr 1
      apply Array.toList_inj.1
      rw [hcs, e0, e1, e2]
end Go.Proofs.YtofadgmnjckpcaaGreatDoor
