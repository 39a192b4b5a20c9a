/-
  The contracts of isPrintable and of consists of the program: whether each character of a text is in a set; nothing that was there before the call has changed.
-/
import Derived.Test.YtfpfgdbfigdooaaDoorXchar
import Derived.Test.YtfpfgdbfigdooaaDoorXplain
namespace Go.Proofs.YtfpfgdbfigdooaaDoor
open Go.RowKit

def printS : ByteArray := ⟨#[32, 39, 40, 41, 43, 44, 45, 46, 47, 58, 61, 63]⟩
theorem print_ascii : ∀ j, j < 12 → u8at ⟨#[32, 39, 40, 41, 43, 44, 45, 46, 47, 58, 61, 63]⟩ j < 128 := by decide
theorem crune_print (n : Nat) (hmax : n ≤ 1114111) (w : World) :
    Calls Tryd.prog 79 #[.string ⟨#[32, 39, 40, 41, 43, 44, 45, 46, 47, 58, 61, 63]⟩, .int .i32 (n : Int)] w fun e w' => e = .returned (.bool (decide (n < 128) && printL.contains (UInt8.ofNat n))) ∧ Below w.heap.size w w' := by
  by_cases h : n < 128
  · have := crune_any ⟨#[32, 39, 40, 41, 43, 44, 45, 46, 47, 58, 61, 63]⟩ n h w
    refine this.mono fun e w' ⟨h1, h2⟩ => ?_
    rw [h2, h1, decide_eq_true h, Bool.true_and]
    exact ⟨rfl, Below.refl _ _⟩
  · have HI := Lib.hid (fun w => irune_big ⟨#[32, 39, 40, 41, 43, 44, 45, 46, 47, 58, 61, 63]⟩ (by decide) print_ascii n (by omega) hmax w)
    rw [decide_eq_false h, Bool.false_and]
    clear h hmax
    go_enter Tryd.func79, Tryd.ntmps79
    go_wp2_with (go_at_call 87; (with_reducible refine (HI.out _).mono ?_); rintro e w1 ⟨rfl, hb1⟩; have HB1 := Lib.hid hb1; clear hb1)
    go_ret
    exact ⟨rfl, HB1.out⟩
theorem isp_any (n : Nat) (hmax : n ≤ 1114111) (w : World) :
    Calls Tryd.prog 63 #[.int .i32 (n : Int)] w fun e w' => e = .returned (.bool (isP n)) ∧ Below w.heap.size w w' := by
  obtain ⟨b, hb⟩ : ∃ b, (decide (n < 128) && printL.contains (UInt8.ofNat n)) = b := ⟨_, rfl⟩
  have HC := Lib.hid (fun w => crune_print n hmax w)
  rw [hb] at HC
  cases ha : alnum n with
  | true =>
    have HR := Lib.hid (show isP n = true by unfold isP; rw [ha]; rfl)
    have HA := Lib.hid (fun w => isal_is ha w)
    clear ha hb
    go_enter Tryd.func63, Tryd.ntmps63
    go_wp2_with (go_at_call 78; (with_reducible refine (HA.out _).mono ?_); rintro e w1 ⟨rfl, rfl⟩)
    go_ret
    exact ⟨by rw [HR.out]; rfl, Below.refl _ _⟩
  | false =>
    have HR := Lib.hid (show isP n = b by unfold isP; rw [ha, hb]; rfl)
    have HA := Lib.hid (fun w => isal_is ha w)
    clear ha hb
    go_enter Tryd.func63, Tryd.ntmps63
    go_wp2_with (first
      | (go_at_call 78; (with_reducible refine (HA.out _).mono ?_); rintro e w1 ⟨rfl, rfl⟩)
      | (go_at_call 79; (with_reducible refine (HC.out _).mono ?_); rintro e w2 ⟨rfl, hb1⟩; have HB1 := Lib.hid hb1; clear hb1))
    go_ret
    exact ⟨by rw [HR.out]; rfl, HB1.out⟩

/-- The function numbered g says of each character whether p holds, and leaves old memory alone. -/
def Pays (g : Nat) (p : Nat → Bool) : Prop := ∀ (n : Nat), n ≤ 1114111 → ∀ w, Calls Tryd.prog g #[.int .i32 (n : Int)] w fun e w' => e = .returned (.bool (p n)) ∧ Below w.heap.size w w'

set_option maxRecDepth 100000 in
set_option maxHeartbeats 4000000 in
theorem cons_any (g : Nat) (eg : ∀ args w, (callFunc g args).run Tryd.prog w = .ok (.enter g args) w) (p : Nat → Bool) (hp : Pays g p) (s : ByteArray) (w : World) :
    Calls Tryd.prog 61 #[.string s, .func (.func g) #[] #[]] w fun e w' => e = .returned (.bool (allD p s.data.toList)) ∧ Below w.heap.size w w' := by
  obtain ⟨ANS, hANS⟩ : ∃ ANS, allD p s.data.toList = ANS := ⟨_, rfl⟩
  rw [hANS]
  have HANS := Lib.hid hANS
  have HP := Lib.hid hp
  clear hANS hp
  go_enter Tryd.func61, Tryd.ntmps61
  go_wp2_with fail
  go_loopg [] s.size (fun gf wx => ∃ pos : Nat, wx.heap[w.heap.size]? = some (.stringIter s pos) ∧ Below w.heap.size w wx ∧ allD p (s.data.toList.drop pos) = ANS ∧ s.size ≤ pos + gf)
  case atStart => exact ⟨0, World.iter_heap w s 0, (Below.refl _ w).alloc (Nat.le_refl _) _, HANS.out, by omega⟩
  case round =>
    obtain ⟨pos, hit, hbw, hA, hfu⟩ := hrel
    by_cases hps : pos < s.size
    · obtain ⟨g', rfl⟩ : ∃ g', gk = g' + 1 := ⟨gk - 1, by omega⟩
      have hnx : ∀ ty, (Instr.next (.pointer (some ⟨w.heap.size, 0, none⟩)) true ty).run Tryd.prog wr = _ := fun ty => Lib.run_next_any_at wr w.heap.size s pos ty hit hps
      have hwd := Lib.width_pos s pos
      have hrl := Lib.rune_le s pos
      rw [allD_step p _ (by rw [Ne, List.drop_eq_nil_iff]; show ¬ s.size ≤ pos; omega), Lib.decodeL_drop, List.drop_drop] at hA
      obtain ⟨R, hR⟩ : ∃ R, (Utf8.decode s pos).1 = R := ⟨_, rfl⟩
      obtain ⟨K, hK⟩ : ∃ K, (Utf8.decode s pos).2 = K := ⟨_, rfl⟩
      rw [hR, hK] at hA
      rw [hR, hK] at hnx
      rw [hK] at hwd
      rw [hR] at hrl
      have hit2 := Lib.iterAt_heap wr w.heap.size s pos (pos + K) hit
      have hbw2 := Lib.below_iterAt hbw (k := w.heap.size) (Nat.le_refl _) s (pos + K)
      obtain ⟨W, hWd⟩ : ∃ W, wr.iterAt w.heap.size s (pos + K) = W := ⟨_, rfl⟩
      simp only [hWd] at hnx hit2 hbw2
      have hltW : w.heap.size < W.heap.size := (Array.getElem?_eq_some_iff.1 hit2).1
      have HC := Lib.hid (HP.out R hrl W)
      have HIT := Lib.hid hit2
      have HBW := Lib.hid hbw2
      have HLW := Lib.hid hltW
      clear hit hbw hit2 hbw2 hWd hltW hR hK
      cases hsp : p R with
      | true =>
        rw [hsp] at HC
        rw [hsp, Bool.true_and] at hA
        have HAA := Lib.hid hA
        clear hsp hA
        go_wp2_with (go_at_fn g; refine HC.out.mono ?_; rintro e W' ⟨rfl, hbc⟩; have HBC := Lib.hid hbc; clear hbc)
        go_roundg g'
        case measure => omega
        case rel => exact ⟨pos + K, (HBC.out.block _ HLW.out).trans HIT.out, HBW.out.trans (HBC.out.mono HBW.out.size), HAA.out, by omega⟩
      | false =>
        rw [hsp] at HC
        rw [hsp, Bool.false_and] at hA
        have HAA := Lib.hid hA
        clear hsp hA
        go_wp2_with (go_at_fn g; refine HC.out.mono ?_; rintro e W' ⟨rfl, hbc⟩; have HBC := Lib.hid hbc; clear hbc)
        go_ret
        exact ⟨by rw [← HAA.out]; rfl, HBW.out.trans (HBC.out.mono HBW.out.size)⟩
    · have hnx : ∀ ty, (Instr.next (.pointer (some ⟨w.heap.size, 0, none⟩)) true ty).run Tryd.prog wr = _ := fun ty => Lib.run_next_end_at wr w.heap.size s pos ty hit hps
      have HBW := Lib.hid hbw
      have HR := Lib.hid (show ANS = true by
        rw [← hA, List.drop_eq_nil_of_le (show s.data.toList.length ≤ pos by show s.size ≤ pos; omega)]
        rfl)
      clear hbw hA
      go_wp2_with fail
      go_ret
      exact ⟨by rw [HR.out]; rfl, HBW.out⟩
end Go.Proofs.YtfpfgdbfigdooaaDoor
