/-
  The walk of the law OtsErrors: it returns true.
-/
import Derived.Test.YtbmphhiafepnoaaDoorAaj
import Derived.Test.YtbmphhiafepnoaaDoorAaq
import Derived.Test.YtbmphhiafepnoaaDoorAau
namespace Go.Proofs.YtbmphhiafepnoaaDoor
open Go.RowKit

def pubR (id seed : ByteArray) (leaf : Int) : ByteArray := if chkQ id seed leaf = 0 then pubS id seed leaf.toNat else ⟨#[]⟩
def sigR (id seed : ByteArray) (leaf : Int) (dg : ByteArray) : ByteArray := if sigE id seed leaf dg = 0 then sigS id seed leaf.toNat (digs dg.data.toList) else ⟨#[]⟩
def recR (id : ByteArray) (leaf : Int) (dg s : ByteArray) : ByteArray := if recE id leaf dg s = 0 then recS id leaf.toNat (digs dg.data.toList) s else ⟨#[]⟩
theorem pubV_eq (id seed : ByteArray) (leaf : Int) : pubV id seed leaf = .tuple #[.string (pubR id seed leaf), .int .i64 ((chkQ id seed leaf : Nat) : Int)] := by
  unfold pubV pubR
  by_cases h : chkQ id seed leaf = 0
  · rw [if_pos h, if_pos h, h]; rfl
  · rw [if_neg h, if_neg h]; rfl
theorem sigV_eq (id seed dg : ByteArray) (leaf : Int) : sigV id seed leaf dg = .tuple #[.string (sigR id seed leaf dg), .int .i64 ((sigE id seed leaf dg : Nat) : Int)] := by
  unfold sigV sigR
  by_cases h : sigE id seed leaf dg = 0
  · rw [if_pos h, if_pos h, h]; rfl
  · rw [if_neg h, if_neg h]; rfl
theorem recV_eq (id dg s : ByteArray) (leaf : Int) : recV id leaf dg s = .tuple #[.string (recR id leaf dg s), .int .i64 ((recE id leaf dg s : Nat) : Int)] := by
  unfold recV recR
  by_cases h : recE id leaf dg s = 0
  · rw [if_pos h, if_pos h, h]; rfl
  · rw [if_neg h, if_neg h]; rfl

set_option maxRecDepth 100000 in
set_option maxHeartbeats 8000000 in
theorem errs_in (hD : DigP) (hP : PubP) (hS : SigP) (hR : RecP) (i seed d s : ByteArray) (leaf : Int) (wh : Nat) (hw : wh < 256) (w : World) (hK : Holds w 0 kWords)
    (hi : i.size ≤ 60) (hsd : seed.size ≤ 60) (hdz : d.size ≤ 60) (hsz : s.size ≤ 700) (b1 b2 b3 b4 : Bool)
    (g1 : decide ((0 : Int) < bits BinOp.and .u8 (wh : Int) 1) = b1) (g2 : decide ((0 : Int) < bits BinOp.and .u8 (wh : Int) 2) = b2) (g3 : decide ((0 : Int) < bits BinOp.and .u8 (wh : Int) 4) = b3) (g4 : decide ((0 : Int) < bits BinOp.and .u8 (wh : Int) 8) = b4) :
    Calls Tryd.prog 5 #[.string i, .string seed, .string d, .string s, .int .i64 leaf, .int .u8 (wh : Int)] w fun e w' => e = .returned (.bool true) ∧ Below w.heap.size w w' := by
  have HK := Lib.hid hK
  have HAW := Lib.hid (awakeq_any hD)
  have HZ : Hid (Below w.heap.size w w) := Lib.hid (Below.refl w.heap.size w)
  have HI : Hid (∀ W : World, Calls Tryd.prog 9 #[.int .u8 (wh : Int)] W fun e w' => e = .returned (.string (idS wh)) ∧ Below W.heap.size W w') := Lib.hid fun W => idq_any wh hw W
  have HE : Hid (∀ W : World, Calls Tryd.prog 10 #[.int .i64 (wh : Int)] W fun e w' => e = .returned (.string (seedS wh)) ∧ Below W.heap.size W w') := Lib.hid fun W => seedq_any wh (by omega) W
  have HG : Hid (∀ W : World, Calls Tryd.prog 14 #[.string d] W fun e w' => e = .returned (.string (dgS d)) ∧ Below W.heap.size W w') := Lib.hid fun W => dgq_any d (by omega) W
  have HP : Hid (∀ (i e : ByteArray) (l : Int) (W : World), Holds W 0 kWords → Calls Tryd.prog 8 #[.string i, .string e, .int .i64 l] W fun x w' => x = .returned (.tuple #[.string (pubR i e l), .int .i64 ((chkQ i e l : Nat) : Int)]) ∧ Below W.heap.size W w') := Lib.hid fun i e l W h => by rw [← pubV_eq]; exact hP i e l W h
  have HPR : Hid (∀ (i e : ByteArray) (l : Int) (W : World), Calls Tryd.prog 11 #[.string i, .string e, .int .i64 l] W fun x w' => x = .returned (.tuple #[.string (pubR i e l), .int .i64 ((chkQ i e l : Nat) : Int)]) ∧ Below W.heap.size W w') := Lib.hid fun i e l W => by rw [← pubV_eq]; exact rpub_any i e l W
  have HS : Hid (∀ (i e g : ByteArray) (l : Int) (W : World), Holds W 0 kWords → Calls Tryd.prog 13 #[.string i, .string e, .int .i64 l, .string g] W fun x w' => x = .returned (.tuple #[.string (sigR i e l g), .int .i64 ((sigE i e l g : Nat) : Int)]) ∧ Below W.heap.size W w') := Lib.hid fun i e g l W h => by rw [← sigV_eq]; exact hS i e g l W h
  have HSR : Hid (∀ (i e g : ByteArray) (l : Int) (W : World), Calls Tryd.prog 15 #[.string i, .string e, .int .i64 l, .string g] W fun x w' => x = .returned (.tuple #[.string (sigR i e l g), .int .i64 ((sigE i e l g : Nat) : Int)]) ∧ Below W.heap.size W w') := Lib.hid fun i e g l W => by rw [← sigV_eq]; exact rsgn_any i e g l W
  have HR : Hid (∀ (i g t : ByteArray) (l : Int) (W : World), Holds W 0 kWords → Calls Tryd.prog 16 #[.string i, .int .i64 l, .string g, .string t] W fun x w' => x = .returned (.tuple #[.string (recR i l g t), .int .i64 ((recE i l g t : Nat) : Int)]) ∧ Below W.heap.size W w') := Lib.hid fun i g t l W h => by rw [← recV_eq]; exact hR i g t l W h
  have HRR : Hid (∀ (i g t : ByteArray) (l : Int) (W : World), Calls Tryd.prog 17 #[.string i, .int .i64 l, .string g, .string t] W fun x w' => x = .returned (.tuple #[.string (recR i l g t), .int .i64 ((recE i l g t : Nat) : Int)]) ∧ Below W.heap.size W w') := Lib.hid fun i g t l W => by rw [← recV_eq]; exact rrec_any i g t l W
  have z1 : decide ((60 : Int) < (i.size : Int)) = false := by simp; omega
  have z2 : decide ((60 : Int) < (seed.size : Int)) = false := by simp; omega
  have z3 : decide ((60 : Int) < (d.size : Int)) = false := by simp; omega
  have z4 : decide ((700 : Int) < (s.size : Int)) = false := by simp; omega
  clear hi hsd hdz hsz hK
  cases b1 <;> cases b2 <;> cases b3 <;> cases b4 <;>
  ( go_enter Tryd.func5, Tryd.ntmps5
    go_wp2_with (first | (go_at_call 9; (with_reducible refine (HI.out _).mono ?_); rintro e w1 ⟨rfl, hb1⟩; have HZ := Lib.hid (HZ.out.next hb1); clear hb1) | (go_at_call 10; (with_reducible refine (HE.out _).mono ?_); rintro e w2 ⟨rfl, hb2⟩; have HZ := Lib.hid (HZ.out.next hb2); clear hb2) | (go_at_call 14; (with_reducible refine (HG.out _).mono ?_); rintro e w3 ⟨rfl, hb3⟩; have HZ := Lib.hid (HZ.out.next hb3); clear hb3) | (go_at_call 8; (with_reducible refine (HP.out _ _ _ _ (HK.out.old HZ.out)).mono ?_); rintro e w4 ⟨rfl, hb4⟩; have HZ := Lib.hid (HZ.out.next hb4); clear hb4) | (go_at_call 11; (with_reducible refine (HPR.out _ _ _ _).mono ?_); rintro e w5 ⟨rfl, hb5⟩; have HZ := Lib.hid (HZ.out.next hb5); clear hb5) | (go_at_call 13; (with_reducible refine (HS.out _ _ _ _ _ (HK.out.old HZ.out)).mono ?_); rintro e w6 ⟨rfl, hb6⟩; have HZ := Lib.hid (HZ.out.next hb6); clear hb6) | (go_at_call 15; (with_reducible refine (HSR.out _ _ _ _ _).mono ?_); rintro e w7 ⟨rfl, hb7⟩; have HZ := Lib.hid (HZ.out.next hb7); clear hb7) | (go_at_call 16; (with_reducible refine (HR.out _ _ _ _ _ (HK.out.old HZ.out)).mono ?_); rintro e w8 ⟨rfl, hb8⟩; have HZ := Lib.hid (HZ.out.next hb8); clear hb8) | (go_at_call 17; (with_reducible refine (HRR.out _ _ _ _ _).mono ?_); rintro e w10 ⟨rfl, hb10⟩; have HZ := Lib.hid (HZ.out.next hb10); clear hb10) | (go_at_call 12; (with_reducible refine (HAW.out _).mono ?_); rintro e w9 ⟨rfl, hb9⟩; have HZ := Lib.hid (HZ.out.next hb9); clear hb9))
    go_ret
    exact ⟨rfl, HZ.out⟩ )
theorem errlaw (hD : DigP) (hP : PubP) (hS : SigP) (hR : RecP) (i seed d s : ByteArray) (leaf : Int) (wh : Nat) (hw : wh < 256) (w : World) (hK : Holds w 0 kWords) :
    Calls Tryd.prog 5 #[.string i, .string seed, .string d, .string s, .int .i64 leaf, .int .u8 (wh : Int)] w fun e w' => e = .returned (.bool true) ∧ Below w.heap.size w w' := by
  by_cases h : i.size ≤ 60 ∧ seed.size ≤ 60 ∧ d.size ≤ 60 ∧ s.size ≤ 700
  · exact errs_in hD hP hS hR i seed d s leaf wh hw w hK h.1 h.2.1 h.2.2.1 h.2.2.2 _ _ _ _ rfl rfl rfl rfl
  · have HAW := Lib.hid (awakeq_any hD)
    have HZ : Hid (Below w.heap.size w w) := Lib.hid (Below.refl w.heap.size w)
    rcases hb1 : decide ((60 : Int) < (i.size : Int)) with _ | _
    · rcases hb2 : decide ((60 : Int) < (seed.size : Int)) with _ | _
      · rcases hb3 : decide ((60 : Int) < (d.size : Int)) with _ | _
        · have hb4 : decide ((700 : Int) < (s.size : Int)) = true := by
            simp at hb1 hb2 hb3 ⊢
            omega
          clear h
          go_enter Tryd.func5, Tryd.ntmps5
          go_wp2_with (first | (go_at_call 12; (with_reducible refine (HAW.out _).mono ?_); rintro e w9 ⟨rfl, hb9⟩; have HZ := Lib.hid (HZ.out.next hb9); clear hb9))
          go_ret
          exact ⟨rfl, HZ.out⟩
        · clear h
          go_enter Tryd.func5, Tryd.ntmps5
          go_wp2_with (first | (go_at_call 12; (with_reducible refine (HAW.out _).mono ?_); rintro e w9 ⟨rfl, hb9⟩; have HZ := Lib.hid (HZ.out.next hb9); clear hb9))
          go_ret
          exact ⟨rfl, HZ.out⟩
      · clear h
        go_enter Tryd.func5, Tryd.ntmps5
        go_wp2_with (first | (go_at_call 12; (with_reducible refine (HAW.out _).mono ?_); rintro e w9 ⟨rfl, hb9⟩; have HZ := Lib.hid (HZ.out.next hb9); clear hb9))
        go_ret
        exact ⟨rfl, HZ.out⟩
    · clear h
      go_enter Tryd.func5, Tryd.ntmps5
      go_wp2_with (first | (go_at_call 12; (with_reducible refine (HAW.out _).mono ?_); rintro e w9 ⟨rfl, hb9⟩; have HZ := Lib.hid (HZ.out.next hb9); clear hb9))
      go_ret
      exact ⟨rfl, HZ.out⟩
end Go.Proofs.YtbmphhiafepnoaaDoor
