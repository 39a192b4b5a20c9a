/-
  The contract of foldedSet: a map whose keys are the pairs of type and folded value of a relative name's attributes.
-/
import Derived.Test.YtjdfgalcnbnobaaDoorAae
import Derived.Test.YtjdfgalcnbnobaaDoorAaf
import Derived.Maps.OwnSet
import Derived.Maps.RangeWalk
import Derived.Maps.Ext
import Derived.Lib.SlMapEqual
import Derived.DeepKeys4
import Derived.ProofKit
import Derived.Laws.IdiomRangeMap
namespace Go.Proofs.YtjdfgalcnbnobaaDoor
open Go.RowKit Go.Maps

theorem laidOut : laidOutB Tryd.prog = true := by kernel_rfl
theorem fLaw : Keyed Tryd.prog 84 := Keyed.of_law (deep_law_laid laidOut (m := 2) (by omega) (by decide +kernel) (by kernel_rfl) (by kernel_rfl))
/-- A pair as a value and as a key. -/
def fV (p : ByteArray × ByteArray) : Value := .agg #[.string p.1, .string p.2]
def fK (p : ByteArray × ByteArray) : Lit := .string (keyBytes [.string p.1.data.toList, .string p.2.data.toList])
theorem fLits (d : Nat) (a b : ByteArray) (h1 : a.size ≤ maxLen) (h2 : b.size ≤ maxLen) : Tryd.prog.keyLits (d + 2) 84 [.string a, .string b] = some [.string a.data.toList, .string b.data.toList] := by
  have c1 : Tryd.prog.cellsOf 9 = 1 := by kernel_rfl
  have c2 : Tryd.prog.cellsOf 84 = 2 := by kernel_rfl
  simp [Program.keyLits, Tryd.underlying84, Tryd.underlying9, c1, c2, h1, h2]
theorem fKey (p : ByteArray × ByteArray) (h1 : p.1.size ≤ maxLen) (h2 : p.2.size ≤ maxLen) : keyOf Tryd.prog 84 (fV p) = some (fK p) := by
  have hk : Tryd.prog.keyType 84 = true := by kernel_rfl
  have c2 : Tryd.prog.cellsOf 84 = 2 := by kernel_rfl
  have hf : (fV p).formed Tryd.prog 84 = true := by simp [Value.formed, fV, Tryd.underlying84, c2]
  have hsz : 1 < Tryd.prog.types.size := by decide +kernel
  obtain ⟨d, hd⟩ : ∃ d, Tryd.prog.types.size + 1 = d + 2 := ⟨Tryd.prog.types.size - 1, by omega⟩
  unfold keyOf
  rw [Tryd.underlying84]
  show (if (Tryd.prog.keyType 84 && (fV p).formed Tryd.prog 84) = true then (Tryd.prog.keyLits (Tryd.prog.types.size + 1) 84 (fV p).cells.toList).map (fun ls => Lit.string (keyBytes ls)) else none) = _
  rw [if_pos (by rw [hk, hf]; rfl), hd]
  show ((Tryd.prog.keyLits (d + 2) 84 [.string p.1, .string p.2]).map (fun ls => Lit.string (keyBytes ls))) = _
  rw [fLits d _ _ h1 h2]
  rfl
def sU {H : Type} : DataW H := .lit (.bool true)
/-- What foldedSet's map reads as. -/
def setD {H : Type} (l : List At) : DataW H := setOf sU (l.map fun a => fK (fa a))
noncomputable def Rb : Value → Option (DataW Unit × List MemPlace) := plainElem Tryd.prog 4
theorem rb_true : Rb (.bool true) = some (sU, []) := by
  show plainElem Tryd.prog 4 (.bool true) = _
  unfold plainElem
  rw [Tryd.underlying4]; rfl
theorem setD_snoc (l : List At) (a : At) : setD (H := Unit) (l ++ [a]) = (setD l).put (fK (fa a)) sU := by
  unfold setD
  rw [List.map_append, List.map_singleton, setOf_snoc]

theorem make_hint (n : Int) (w : World) : (Instr.makeMap 82 (some (.int .i64 n))).run Tryd.prog w = .ok (.map (some w.heap.size)) (w.alloc (.map #[] 0)) := by
  simp [Instr.makeMap, run_underlying Tryd.underlying82, asInt, asIntOf, Result.andThen]
/-- One key more. -/
theorem set_more {W : World} {B k : Nat} {D : DataW Unit} (h : W.ownsMap Tryd.prog 84 Rb B k D) (hk : k ≤ 1000000) (t f : ByteArray) (h1 : t.size ≤ 1000000) (h2 : f.size ≤ 1000000) :
    ∃ w2, (Instr.mapUpdate 82 (.map (some B)) (.agg #[.string t, .string f]) (.bool true)).run Tryd.prog W = .ok () w2 ∧ w2.ownsMap Tryd.prog 84 Rb B (k + 1) (D.put (fK (t, f)) sU) ∧ W.grownBy w2 (some B) :=
  h.update fLaw Tryd.underlying82 (by unfold maxLen; omega) (fKey (t, f) (by show t.size ≤ _; unfold maxLen; omega) (by show f.size ≤ _; unfold maxLen; omega)) rb_true
set_option maxRecDepth 100000 in
set_option maxHeartbeats 4000000 in
theorem fset_any (a0 : Option Addr) (c n : Nat) (l : List At) (w : World) (h : ALies w a0 l) (hn : n = l.length) (hs : SmallR l) :
    Calls Tryd.prog 57 #[.slice a0 n c] w fun e w' => e = .returned (.map (some w.heap.size)) ∧ w'.ownsMap Tryd.prog 84 Rb w.heap.size n (setD l) ∧ Below w.heap.size w w' := by
  have hL : n ≤ 1000000 := by rw [hn]; exact hs.1
  have H1 := Lib.hid h
  have HN := Lib.hid hn
  have HS := Lib.hid hs
  have hmm := make_hint
  clear h hn hs
  go_enter Tryd.func57, Tryd.ntmps57
  go_wp2_with fail
  go_loopw [11] (fun i wr => ∃ k : Nat, k ≤ n ∧ i = .int .i64 k ∧ wr.ownsMap Tryd.prog 84 Rb w.heap.size k (setD (l.take k)) ∧ Below w.heap.size w wr) (fun i _ => n - (intOf i).toNat)
  case atStart => exact ⟨0, Nat.zero_le _, rfl, World.ownsMap_made _ _ _ _, belowNew w _⟩
  case round =>
    obtain ⟨k, hk, rfl, hA, hb⟩ := hrel
    have HB := Lib.hid hb
    have HA := Lib.hid hA
    clear hb hA
    by_cases hlt : k < n
    · have hd : decide ((k : Int) < (n : Int)) = true := by simp; omega
      obtain ⟨b, o, rfl, hb, c0, c1, c2⟩ := H1.out.at k (by rw [← HN.out]; exact hlt)
      have a0 : wr.cell? ⟨b, o + k * 3, none⟩ = _ := (HB.out.cell (p := ⟨b, o + k * 3, none⟩) hb).trans c0
      have a1 : wr.cell? ⟨b, o + k * 3 + 1, none⟩ = _ := (HB.out.cell (p := ⟨b, o + k * 3 + 1, none⟩) hb).trans c1
      have a2 : wr.cell? ⟨b, o + k * 3 + 2, none⟩ = _ := (HB.out.cell (p := ⟨b, o + k * 3 + 2, none⟩) hb).trans c2
      have HT := Lib.hid (takeD l k (by rw [← HN.out]; exact hlt) noAt)
      have hsm := HS.out.2 k (by rw [← HN.out]; exact hlt)
      generalize l.getD k noAt = y at a0 a1 a2 HT hsm
      obtain ⟨t, kd, v⟩ := y
      have HM1 := Lib.hid hsm.1
      have HM2 := Lib.hid hsm.2
      clear c0 c1 c2 hb hsm
      go_wp2_with fail
      obtain ⟨f, hf⟩ : ∃ f, f = foldS v := ⟨_, rfl⟩
      have HFZ := Lib.hid (show f.size ≤ 1000000 by rw [hf]; exact Nat.le_trans (foldS_size v) HM2.out)
      have HTZ := Lib.hid (show t.size ≤ 1000000 from HM1.out)
      have HKZ := Lib.hid (show k ≤ 1000000 by omega)
      have HFO := Lib.hid (fun W => foldS_any v W (Nat.le_trans (show v.size ≤ 1000000 from HM2.out) (by omega)))
      rw [← hf] at HFO
      have HST := Lib.hid (show setD (H := Unit) (l.take (k + 1)) = (setD (l.take k)).put (fK (t, f)) sU by rw [HT.out, setD_snoc, hf]; rfl)
      have HBA := Lib.hid (show Below w.heap.size w (wr.alloc (.cells #[.string t, .int .i64 kd, .string v] 56)) from below_next HB.out (belowNew wr _))
      have HUP := Lib.hid (fun W1 (hb1 : Below (wr.alloc (.cells #[.string t, .int .i64 kd, .string v] 56)).drew.heap.size (wr.alloc (.cells #[.string t, .int .i64 kd, .string v] 56)).drew W1) => set_more (((HA.out.alloc (.cells #[.string t, .int .i64 kd, .string v] 56)).drew).kept (Below.only hb1) (by simp)) HKZ.out t f HTZ.out HFZ.out)
      have HG0 := Lib.hid (fun W1 (hb1 : Below (wr.alloc (.cells #[.string t, .int .i64 kd, .string v] 56)).drew.heap.size (wr.alloc (.cells #[.string t, .int .i64 kd, .string v] 56)).drew W1) => (hb1.cell (p := ⟨wr.heap.size, 0, none⟩) (block_lt (box_cell wr (.string t) (.int .i64 kd) (.string v) 56))).trans (box_cell wr (.string t) (.int .i64 kd) (.string v) 56))
      clear hf
      go_region_with (go_at_call 71; (with_reducible refine (HFO.out _).mono ?_); rintro e w1 ⟨rfl, hb1⟩; obtain ⟨w2, hrun, hown2, hg2⟩ := HUP.out _ hb1; have g0 := HG0.out _ hb1; have HB1 := Lib.hid (below_next HBA.out.drew hb1); have HO := Lib.hid hown2; have HG := Lib.hid hg2; clear hb1 hown2 hg2)
      all_goals
        go_wp2_with fail
        go_roundw
        case rel => exact ⟨k + 1, by omega, by go_num, by rw [HST.out]; exact HO.out, HB1.out.grown HG.out HB1.out.size (fun j e => by cases e; exact Nat.le_refl _)⟩
        case measure => simp [intOf]; omega
    · have hd : decide ((k : Int) < (n : Int)) = false := by simp; omega
      have HF := Lib.hid (show l.take k = l by rw [List.take_of_length_le (by rw [← HN.out]; omega)])
      go_wp2_with fail
      go_ret
      exact ⟨rfl, by have := HA.out; rw [HF.out] at this; exact this.mono hk, HB.out⟩
end Go.Proofs.YtjdfgalcnbnobaaDoor
