/-
  The contract of the reference's DecodeList.
  The contracts of the reference's ExactGenerals, for two rows of the same general names, and of the law's short.
  The contracts of the reference's SameGeneral, MatchGeneral and WithinGeneral.
  What the laws over gname want of the program's functions, each said as a proposition; and that the law's awake then returns true.
  The walk of the law GnameCheck: for every general name and every slice of ints it returns true, and leaves all that was there as it was.
  How long encodings of made general names are, and the reference's One. Nothing is claimed of the program here but what One returns.
  The contract of the reference's SameName at names whose relative names hold each other's attributes.
  The contract of the reference's SameGenerals, for two rows of general names that are equal apart from the order of attributes.
  General names that are the same are within the same bases: plain laws; and what the law GnameSame wants of the program's functions.
  Attributes in the order of their encodings: there is one such order. Nothing is claimed of the program here.
-/
import Derived.Test.YtflpajbcomhkpaaGreatDoorUbj
import Derived.Test.YtflpajbcomhkpaaGreatDoorUbi
import Derived.Test.YtflpajbcomhkpaaGreatDoorUbf
import Derived.Test.YtflpajbcomhkpaaGreatDoorUaz
import Derived.Test.YtflpajbcomhkpaaGreatDoorUak
import Derived.Lib.QuietBelow
import Derived.BigQuiet
import Derived.Test.YtflpajbcomhkpaaGreatDoorUav
import Derived.Test.YtflpajbcomhkpaaGreatDoorUan
import Derived.Test.YtflpajbcomhkpaaGreatDoorUam
import Derived.Test.YtflpajbcomhkpaaGreatDoorUae
import Derived.Test.YtflpajbcomhkpaaGreatDoorUbb
import Derived.Test.YtflpajbcomhkpaaGreatDoorUbd
import Derived.Deep.CutRange
import Derived.Deep.DeepCutAuto
import Derived.Deep.RegionWith
import Derived.Test.YtflpajbcomhkpaaGreatDoorUbg
import Derived.Test.YtflpajbcomhkpaaGreatDoorUal
namespace Go.Proofs.YtflpajbcomhkpaaGreatDoor
open Go.RowKit

end Go.Proofs.YtflpajbcomhkpaaGreatDoor
namespace Go.Proofs.YtflpajbcomhkpaaGreatDoor
open Go.RowKit

end Go.Proofs.YtflpajbcomhkpaaGreatDoor
namespace Go.Proofs.YtflpajbcomhkpaaGreatDoor
open Go.RowKit


theorem box_two (w : World) (x0 x1 x2 y0 y1 y2 : Value) (T : TypeId) :
    ((w.alloc (.cells #[x0, x1, x2] T)).alloc (.cells #[y0, y1, y2] T)).cell? ⟨w.heap.size, 0, none⟩ = some x0 ∧ ((w.alloc (.cells #[x0, x1, x2] T)).alloc (.cells #[y0, y1, y2] T)).cell? ⟨w.heap.size, 1, none⟩ = some x1 ∧ ((w.alloc (.cells #[x0, x1, x2] T)).alloc (.cells #[y0, y1, y2] T)).cell? ⟨w.heap.size, 2, none⟩ = some x2 ∧
    ((w.alloc (.cells #[x0, x1, x2] T)).alloc (.cells #[y0, y1, y2] T)).cell? ⟨w.heap.size + 1, 0, none⟩ = some y0 ∧ ((w.alloc (.cells #[x0, x1, x2] T)).alloc (.cells #[y0, y1, y2] T)).cell? ⟨w.heap.size + 1, 1, none⟩ = some y1 ∧ ((w.alloc (.cells #[x0, x1, x2] T)).alloc (.cells #[y0, y1, y2] T)).cell? ⟨w.heap.size + 1, 2, none⟩ = some y2 ∧
    w.heap.size + 1 < ((w.alloc (.cells #[x0, x1, x2] T)).alloc (.cells #[y0, y1, y2] T)).heap.size := by
  have h1 := heap_alloc_new (w.alloc (.cells #[x0, x1, x2] T)) (.cells #[y0, y1, y2] T)
  rw [show (w.alloc (.cells #[x0, x1, x2] T)).heap.size = w.heap.size + 1 by simp] at h1
  obtain ⟨f0, f1, f2, f3⟩ := three_facts h1
  obtain ⟨g0, g1, g2, g3⟩ := three_facts (heap_alloc_new w (.cells #[x0, x1, x2] T))
  exact ⟨(World.cell?_alloc_old _ _ _ (Nat.ne_of_lt g3)).trans g0, (World.cell?_alloc_old _ _ _ (Nat.ne_of_lt g3)).trans g1, (World.cell?_alloc_old _ _ _ (Nat.ne_of_lt g3)).trans g2, f0, f1, f2, f3⟩

set_option maxRecDepth 100000 in
set_option maxHeartbeats 4000000 in
theorem rsameG_core (a0 b0 : Option Addr) (c d n m : Nat) (k l : Int) (t u : List UInt8) (r s : Nm) (w : World) (h1 : RLies w a0 r) (h2 : RLies w b0 s) (hn : n = r.length) (hm : m = s.length) (ht : t.length ≤ 150000) (hu : u.length ≤ 150000) (hr : SmallN r) (hs : SmallN s) :
    Calls Tryz.prog 32 #[.agg #[.int .i64 k, .string (strOf t), .slice a0 n c], .agg #[.int .i64 l, .string (strOf u), .slice b0 m d]] w fun e w' => e = .returned (.bool (sameG k t r l u s)) ∧ Below w.heap.size w w' := by
  obtain ⟨W0, hW0⟩ : ∃ W0, W0 = (w.alloc (.cells #[.int .i64 k, .string (strOf t), .slice a0 n c] 32)).alloc (.cells #[.int .i64 l, .string (strOf u), .slice b0 m d] 32) := ⟨_, rfl⟩
  have hwr : (w.alloc (.cells #[.int .i64 k, .string (strOf t), .slice a0 n c] 32)).alloc (.cells #[.int .i64 l, .string (strOf u), .slice b0 m d] 32) = W0 := hW0.symm
  have hb0 : Below w.heap.size w W0 := by rw [hW0]; exact belowTwo w _ _
  obtain ⟨c0, c1, c2, d0, d1, d2, l1⟩ := box_two w (.int .i64 k) (.string (strOf t)) (.slice a0 n c) (.int .i64 l) (.string (strOf u)) (.slice b0 m d) 32
  rw [← hW0] at c0 c1 c2 d0 d1 d2 l1
  have HB0 := Lib.hid hb0
  have HT := Lib.hid ht
  have HU := Lib.hid hu
  obtain ⟨E, hE⟩ : ∃ E, E = sameG k t r l u s := ⟨_, rfl⟩
  rw [← hE]
  have HE := Lib.hid hE
  clear hE hW0
  have HX := Lib.hid (fun W (hb : Below w.heap.size w W) => rmatch_core a0 b0 c d n m r s W (h1.below hb) (h2.below hb) hn hm hr hs)
  have HA := Lib.hid (fun W => ralike_any t u (Nat.le_trans HT.out (by decide)) (Nat.le_trans HU.out (by decide)) W)
  have HM1 := Lib.hid (fun W => rmail_any t HT.out W)
  have HM2 := Lib.hid (fun W => rmail_any u HU.out W)
  have HMM := Lib.hid (fun W => rmm_any t u HT.out HU.out W)
  clear h1 h2 hn hm hr hs ht hu hb0
  by_cases hkl : k = l
  case neg =>
    have e1 : (k != l) = true := bne_iff_ne.2 hkl
    have HV := Lib.hid (show E = false by rw [HE.out]; unfold sameG; rw [if_pos hkl])
    clear hkl
    go_enter Tryz.func32, Tryz.ntmps32
    go_wp2_with fail
    go_ret
    exact ⟨by rw [HV.out]; rfl, HB0.out⟩
  subst hkl
  rcases kind_or k with rfl | rfl | rfl | rfl | hk
  · cases b1 : mailB t with
    | false =>
      have HV := Lib.hid (show E = alikeB t u by rw [HE.out]; unfold sameG; rw [if_neg (by simp), if_pos rfl, b1]; rfl)
      rw [b1] at HM1
      clear b1
      go_enter Tryz.func32, Tryz.ntmps32
      go_wp2_with (first
        | (go_at_call 64; (with_reducible refine (HM1.out _).mono ?_); rintro e w1 ⟨rfl, hb9⟩; have H1 := Lib.hid (below_next HB0.out hb9); have q1 := (hb9.cell (p := ⟨w.heap.size, 1, none⟩) (show w.heap.size < W0.heap.size by omega)).trans c1; have p1 := (hb9.cell (p := ⟨w.heap.size + 1, 1, none⟩) (show w.heap.size + 1 < W0.heap.size by omega)).trans d1; clear hb9)
        | (go_at_call 66; (with_reducible refine (HA.out _).mono ?_); rintro e w2 ⟨rfl, hb9⟩; have H2 := Lib.hid (below_next H1.out hb9); clear hb9))
      go_ret
      exact ⟨by rw [HV.out]; rfl, H2.out⟩
    | true =>
      rw [b1] at HM1
      cases b2 : mailB u with
      | false =>
        have HV := Lib.hid (show E = alikeB t u by rw [HE.out]; unfold sameG; rw [if_neg (by simp), if_pos rfl, b1, b2]; rfl)
        rw [b2] at HM2
        clear b1 b2
        go_enter Tryz.func32, Tryz.ntmps32
        go_wp2_with (first
          | (go_at_call 64; (with_reducible refine (HM1.out _).mono ?_); rintro e w1 ⟨rfl, hb9⟩; have H1 := Lib.hid (below_next HB0.out hb9); have q1 := (hb9.cell (p := ⟨w.heap.size, 1, none⟩) (show w.heap.size < W0.heap.size by omega)).trans c1; have p1 := (hb9.cell (p := ⟨w.heap.size + 1, 1, none⟩) l1).trans d1; have l2 := Nat.lt_of_lt_of_le l1 hb9.size; clear hb9)
          | (go_at_call 64; (with_reducible refine (HM2.out _).mono ?_); rintro e w2 ⟨rfl, hb9⟩; have H2 := Lib.hid (below_next H1.out hb9); have q2 := (hb9.cell (p := ⟨w.heap.size, 1, none⟩) (show w.heap.size < w1.heap.size by omega)).trans q1; have p2 := (hb9.cell (p := ⟨w.heap.size + 1, 1, none⟩) l2).trans p1; clear hb9)
          | (go_at_call 66; (with_reducible refine (HA.out _).mono ?_); rintro e w3 ⟨rfl, hb9⟩; have H3 := Lib.hid (below_next H2.out hb9); clear hb9))
        go_ret
        exact ⟨by rw [HV.out]; rfl, H3.out⟩
      | true =>
        have HV := Lib.hid (show E = mailMatchB t u by rw [HE.out]; unfold sameG; rw [if_neg (by simp), if_pos rfl, b1, b2]; rfl)
        rw [b2] at HM2
        clear b1 b2
        go_enter Tryz.func32, Tryz.ntmps32
        go_wp2_with (first
          | (go_at_call 64; (with_reducible refine (HM1.out _).mono ?_); rintro e w1 ⟨rfl, hb9⟩; have H1 := Lib.hid (below_next HB0.out hb9); have q1 := (hb9.cell (p := ⟨w.heap.size, 1, none⟩) (show w.heap.size < W0.heap.size by omega)).trans c1; have p1 := (hb9.cell (p := ⟨w.heap.size + 1, 1, none⟩) l1).trans d1; have l2 := Nat.lt_of_lt_of_le l1 hb9.size; clear hb9)
          | (go_at_call 64; (with_reducible refine (HM2.out _).mono ?_); rintro e w2 ⟨rfl, hb9⟩; have H2 := Lib.hid (below_next H1.out hb9); have q2 := (hb9.cell (p := ⟨w.heap.size, 1, none⟩) (show w.heap.size < w1.heap.size by omega)).trans q1; have p2 := (hb9.cell (p := ⟨w.heap.size + 1, 1, none⟩) l2).trans p1; clear hb9)
          | (go_at_call 65; (with_reducible refine (HMM.out _).mono ?_); rintro e w3 ⟨rfl, hb9⟩; have H3 := Lib.hid (below_next H2.out hb9); clear hb9))
        go_ret
        exact ⟨by rw [HV.out]; rfl, H3.out⟩
  · have HV := Lib.hid (show E = alikeB t u by rw [HE.out]; unfold sameG; rw [if_neg (by simp), if_neg (by decide), if_pos rfl])
    go_enter Tryz.func32, Tryz.ntmps32
    go_wp2_with (go_at_call 66; (with_reducible refine (HA.out _).mono ?_); rintro e w1 ⟨rfl, hb9⟩; have H1 := Lib.hid (below_next HB0.out hb9); clear hb9)
    go_ret
    exact ⟨by rw [HV.out]; rfl, H1.out⟩
  · have HV := Lib.hid (show E = decide (MatchN r s) by rw [HE.out]; unfold sameG; rw [if_neg (by simp), if_neg (by decide), if_neg (by decide), if_pos rfl])
    go_enter Tryz.func32, Tryz.ntmps32
    go_wp2_with (go_at_call 67; (with_reducible refine (HX.out _ HB0.out).mono ?_); rintro e w1 ⟨rfl, hb9⟩; have H1 := Lib.hid (below_next HB0.out hb9); clear hb9)
    go_ret
    exact ⟨by rw [HV.out]; rfl, H1.out⟩
  · have HV := Lib.hid (show E = decide (t = u) by rw [HE.out]; unfold sameG; rw [if_neg (by simp), if_neg (by decide), if_neg (by decide), if_neg (by decide), if_pos rfl])
    go_enter Tryz.func32, Tryz.ntmps32
    go_wp2_with fail
    go_ret
    exact ⟨by rw [HV.out, ← beq_of]; rfl, HB0.out⟩
  · have HV := Lib.hid (show E = false by rw [HE.out]; unfold sameG; rw [if_neg (by simp), if_neg hk.1, if_neg hk.2.1, if_neg hk.2.2.1, if_neg hk.2.2.2])
    obtain ⟨k1, k2, k4, k7⟩ := hk
    have e1 : (k == 1) = false := beq_eq_false_iff_ne.2 k1
    have e2 : (k == 2) = false := beq_eq_false_iff_ne.2 k2
    have e4 : (k == 4) = false := beq_eq_false_iff_ne.2 k4
    have e7 : (k == 7) = false := beq_eq_false_iff_ne.2 k7
    have e0 : (k != k) = false := by simp
    clear k1 k2 k4 k7
    go_enter Tryz.func32, Tryz.ntmps32
    go_wp2_with fail
    go_ret
    exact ⟨by rw [HV.out]; rfl, HB0.out⟩

end Go.Proofs.YtflpajbcomhkpaaGreatDoor
namespace Go.Proofs.YtflpajbcomhkpaaGreatDoor
open Go.RowKit

def PEnc : Prop := ∀ (a0 : Option Addr) (c m : Nat) (k : Int) (t : List UInt8) (n : Nm) (con : Bool) (w : World), RLies w a0 n → m = n.length → t.length ≤ 150000 → SmallN n → Tab w → Mk w →
  Calls Tryz.prog 30 #[.agg #[.int .i64 k, .string (strOf t), .slice a0 m c], .bool con] w fun e w' => e = .returned (.tuple #[.string (encG con k t n), .int .i64 ((chkG con k t n : Nat) : Int)]) ∧ Below w.heap.size w w'
def PMatch : Prop := ∀ (a0 b0 : Option Addr) (c d n m : Nat) (k l : Int) (t u : List UInt8) (r s : Nm) (w : World), RLies w a0 r → RLies w b0 s → n = r.length → m = s.length → n ≤ c → t.length ≤ 150000 → u.length ≤ 150000 → SmallN r → SmallN s → Mk w →
  Calls Tryz.prog 33 #[.agg #[.int .i64 k, .string (strOf t), .slice a0 n c], .agg #[.int .i64 l, .string (strOf u), .slice b0 m d]] w fun e w' => e = .returned (.bool (matchG k t r l u s)) ∧ Below w.heap.size w w'
theorem smallN_nil : SmallN [] := ⟨by decide, fun i hi => absurd hi (Nat.not_lt_zero _)⟩
set_option maxRecDepth 100000 in
theorem enc_ex : chkG false 2 [97, 46, 98] [] = 0 ∧ encG false 2 [97, 46, 98] [] = ⟨#[130, 3, 97, 46, 98]⟩ := by
  have h : chkG false 2 [97, 46, 98] [] = 0 := by
    rw [chkG_not (by decide), if_pos ⟨by rw [okT_2]; decide +kernel, rfl⟩]
  refine ⟨h, ?_⟩
  unfold encG
  rw [if_pos h, if_neg (by decide)]
  decide +kernel
set_option maxRecDepth 100000 in
theorem match_ex : matchG 2 [42, 46, 101, 120, 97, 109, 112, 108, 101, 46, 111, 114, 103] [] 2 [119, 119, 119, 46, 101, 120, 97, 109, 112, 108, 101, 46, 111, 114, 103] [] = true := by
  unfold matchG
  rw [if_pos ⟨rfl, rfl⟩]
  decide +kernel
set_option maxRecDepth 100000 in
set_option maxHeartbeats 1000000 in
theorem gawake_any (hE : PEnc) (hM : PMatch) (w : World) (hT : Tab w) (hm : Mk w) :
    Calls Tryz.prog 7 #[] w fun e w' => e = .returned (.bool true) ∧ Below w.heap.size w w' := by
  have H1 := Lib.hid (show Calls Tryz.prog 30 #[.agg #[.int .i64 2, .string ⟨#[97, 46, 98]⟩, .slice none 0 0], .bool false] w fun e w' => e = .returned (.tuple #[.string ⟨#[130, 3, 97, 46, 98]⟩, .int .i64 0]) ∧ Below w.heap.size w w' by
    have := hE none 0 0 2 [97, 46, 98] [] false w (RLies.nil _ _) rfl (by decide) smallN_nil hT hm
    rw [enc_ex.1, enc_ex.2] at this
    exact this)
  have H2 := Lib.hid (fun W (hb : Below w.heap.size w W) => show Calls Tryz.prog 33 #[.agg #[.int .i64 2, .string ⟨#[42, 46, 101, 120, 97, 109, 112, 108, 101, 46, 111, 114, 103]⟩, .slice none 0 0], .agg #[.int .i64 2, .string ⟨#[119, 119, 119, 46, 101, 120, 97, 109, 112, 108, 101, 46, 111, 114, 103]⟩, .slice none 0 0]] W fun e w' => e = .returned (.bool true) ∧ Below W.heap.size W w' by
    have := hM none none 0 0 0 0 2 2 [42, 46, 101, 120, 97, 109, 112, 108, 101, 46, 111, 114, 103] [119, 119, 119, 46, 101, 120, 97, 109, 112, 108, 101, 46, 111, 114, 103] [] [] W (RLies.nil _ _) (RLies.nil _ _) rfl rfl (Nat.le_refl _) (by decide) (by decide) smallN_nil smallN_nil (hm.below hb)
    rw [match_ex] at this
    exact this)
  have heq : ((⟨#[130, 3, 97, 46, 98]⟩ : ByteArray).toList == [130, 3, 97, 46, 98]) = true := beq_iff_eq.2 (toList_of [130, 3, 97, 46, 98])
  clear hE hM hT hm
  go_enter Tryz.func7, Tryz.ntmps7
  go_wp2_with (first
    | (go_at_call 30; (with_reducible refine H1.out.mono ?_); rintro e w1 ⟨rfl, hb1⟩; have HB1 := Lib.hid hb1; clear hb1)
    | (go_at_call 33; (with_reducible refine (H2.out _ HB1.out).mono ?_); rintro e w2 ⟨rfl, hb2⟩; have HB2 := Lib.hid (below_next HB1.out hb2); clear hb2))
  go_ret
  exact ⟨rfl, HB2.out⟩
end Go.Proofs.YtflpajbcomhkpaaGreatDoor
namespace Go.Proofs.YtflpajbcomhkpaaGreatDoor
open Go.RowKit

theorem ShG.small {g : Gn} (h : ShG g) : SmallN g.2.2 := ShN.small h.2
theorem madeN_small {n : Nm} (h : MadeN n) : SmallN n := small_of_sp (spN_of_made h) (by omega)
/-- A row of two general names. -/
theorem glies_two {w : World} {g : Nat} {k q : Int} {t u : List UInt8} {n m : Nm} {a b : Option Addr} {c d : Nat} {T : TypeId} (h : w.heap[g]? = some (.cells #[.int .i64 k, .string (strOf t), .slice a n.length c, .int .i64 q, .string (strOf u), .slice b m.length d] T (0, 0)))
    (hc : n.length ≤ c) (hr : RLies w a n) (hd : m.length ≤ d) (hs : RLies w b m) : GLies w (some ⟨g, 0, none⟩) [(k, t, n), (q, u, m)] := by
  have cell : ∀ j v, #[Value.int .i64 k, .string (strOf t), .slice a n.length c, .int .i64 q, .string (strOf u), .slice b m.length d][j]? = some v → w.cell? ⟨g, j, none⟩ = some v := fun j v hv => by
    rw [Lib.cell_of_heap h]; exact hv
  refine .inr ⟨g, 0, rfl, fun i hi => ?_⟩
  have hi2 : i < 2 := hi
  obtain rfl | rfl : i = 0 ∨ i = 1 := by omega
  · exact ⟨cell 0 _ rfl, cell 1 _ rfl, a, c, cell 2 _ rfl, hc, hr⟩
  · exact ⟨cell 3 _ rfl, cell 4 _ rfl, b, d, cell 5 _ rfl, hd, hs⟩
end Go.Proofs.YtflpajbcomhkpaaGreatDoor
namespace Go.Proofs.YtflpajbcomhkpaaGreatDoor
open Go.RowKit

theorem encG_small {con : Bool} {k : Int} {t : List UInt8} {n : Nm} (ht : t.length ≤ 64) (hn : MadeN n) : (encG con k t n).size ≤ 660 := by
  unfold encG
  split
  · rename_i h
    split
    · rename_i h4
      subst h4
      rw [chkG_dir] at h
      have hz : chkN n = 0 := by
        by_cases h0 : t = []
        · rwa [if_pos h0] at h
        · rw [if_neg h0] at h; cases h
      have h1 := encV_le (spN_of_made hn)
      rw [show encV n = encN n by unfold encV; rw [if_pos hz]] at h1
      have h2 := wrapStr_le 164 (encN n).data.toList
      have e : (encN n).data.toList.length = (encN n).size := rfl
      show (wrapStr 164 (encN n).data.toList).size ≤ 660
      omega
    · have h2 := wrapStr_le (128 + k) (strOf t).data.toList
      have e : (strOf t).data.toList.length = t.length := by rw [strOf_list]
      show (wrapStr (128 + k) (strOf t).data.toList).size ≤ 660
      omega
  · exact Nat.zero_le _
end Go.Proofs.YtflpajbcomhkpaaGreatDoor
namespace Go.Proofs.YtflpajbcomhkpaaGreatDoor
open Go.RowKit

set_option maxRecDepth 100000 in
set_option maxHeartbeats 4000000 in
theorem same_core (a0 b0 : Option Addr) (c d n : Nat) (r s : Nm) (w : World) (h1 : RLies w a0 r) (h2 : RLies w b0 s) (hn : n = r.length) (hm : n = s.length) (hr : SmallN r) (hl : ∀ i, i < n → (s.getD i []).length = (r.getD i []).length) (hin : ∀ i, i < n → ∀ x ∈ r.getD i [], x ∈ s.getD i []) :
    Calls Tryz.prog 63 #[.agg #[.slice a0 n c], .agg #[.slice b0 n d]] w fun e w' => e = .returned (.bool true) ∧ Below w.heap.size w w' := by
  obtain ⟨W, hW⟩ : ∃ W, W = (w.alloc (.cells #[.slice a0 n c] 30)).alloc (.cells #[.slice b0 n d] 30) := ⟨_, rfl⟩
  have hwr : (w.alloc (.cells #[.slice a0 n c] 30)).alloc (.cells #[.slice b0 n d] 30) = W := hW.symm
  have hb : Below w.heap.size w W := by rw [hW]; exact belowTwo w _ _
  have k0 : W.cell? ⟨w.heap.size, 0, none⟩ = some (.slice a0 n c) := by
    rw [hW, World.cell?_alloc_old _ _ _ (by simp), cell_of_row _ _ 0 _ _ _ (heap_alloc_new w _)]; rfl
  have k1 : W.cell? ⟨w.heap.size + 1, 0, none⟩ = some (.slice b0 n d) := by
    rw [hW]
    have := cell_of_row (w := (w.alloc (.cells #[.slice a0 n c] 30)).alloc (.cells #[.slice b0 n d] 30)) (w.heap.size + 1) 0 #[.slice b0 n d] 30 (0, 0) (by have := heap_alloc_new (w.alloc (.cells #[.slice a0 n c] 30)) (.cells #[.slice b0 n d] 30); simpa using this)
    rw [this]; rfl
  have HB := Lib.hid hb
  have H1 := Lib.hid (h1.below hb)
  have H2 := Lib.hid (h2.below hb)
  have HN := Lib.hid hn
  have HR := Lib.hid hr
  have HM := Lib.hid hm
  have HLL := Lib.hid hl
  have HIN := Lib.hid hin
  have hns : n ≤ 1000000 := by rw [hn]; exact hr.1
  have hd0 : ((n : Int) != (n : Int)) = false := by simp
  clear h1 h2 hn hr hW hb hm hl hin
  go_enter Tryz.func63, Tryz.ntmps63
  go_wp2_with fail
  have K0 := Lib.hid k0
  have K1 := Lib.hid k1
  obtain ⟨g, hg⟩ : ∃ g, g = w.heap.size := ⟨_, rfl⟩
  have HG := Lib.hid hg
  rw [← hg] at K0 K1 ⊢
  clear hwr k0 k1 hd0 hg
  go_loopw [21] (fun i wr => ∃ k : Nat, k ≤ n ∧ i = .int .i64 k ∧ Below W.heap.size W wr) (fun i _ => n - (intOf i).toNat)
  case atStart => exact ⟨0, Nat.zero_le _, rfl, Below.refl _ _⟩
  case round =>
    obtain ⟨wo, hwo⟩ : ∃ wo, wo = wr := ⟨_, rfl⟩
    subst hwo
    obtain ⟨k, hk, rfl, hb⟩ := hrel
    have HBR := Lib.hid hb
    clear hb
    by_cases hlt : k < n
    · have hd : decide ((k : Int) < (n : Int)) = true := by simp; omega
      obtain ⟨b, o, rfl, hb, a1, c1, e1, _, hL1⟩ := H1.out.at k (by rw [← HN.out]; exact hlt)
      have f1 : wo.cell? ⟨b, o + k, none⟩ = _ := (HBR.out.cell (p := ⟨b, o + k, none⟩) hb).trans e1
      obtain ⟨b', o', rfl, hb', a2, c2, e2, _, hL2⟩ := H2.out.at k (by rw [← HM.out]; exact hlt)
      have f2 : wo.cell? ⟨b', o' + k, none⟩ = _ := (HBR.out.cell (p := ⟨b', o' + k, none⟩) hb').trans e2
      have q0 := (HBR.out.cell (p := ⟨g, 0, none⟩) (block_lt K0.out)).trans K0.out
      have q1 := (HBR.out.cell (p := ⟨g + 1, 0, none⟩) (block_lt K1.out)).trans K1.out
      have hs1 := HR.out.2 k (by rw [← HN.out]; exact hlt)
      obtain ⟨x, hx⟩ : ∃ x, x = r.getD k [] := ⟨_, rfl⟩
      obtain ⟨z, hzz⟩ : ∃ z, z = s.getD k [] := ⟨_, rfl⟩
      have hlz := HLL.out k hlt
      have hiz := HIN.out k hlt
      rw [← hx] at f1 hs1 hL1 hlz hiz
      rw [← hzz] at f2 hL2 hlz hiz
      have HIZ := Lib.hid hiz
      have HLZ := Lib.hid hlz
      obtain ⟨p, hp⟩ : ∃ p, p = x.length := ⟨_, rfl⟩
      rw [← hp] at f1
      rw [hlz, ← hp] at f2
      have hpz : p ≤ 1000000 := by rw [hp]; exact hs1.1
      have HL1 := Lib.hid hL1
      have HL2 := Lib.hid hL2
      have HP := Lib.hid hp
      have HF1 := Lib.hid e1
      have HF2 := Lib.hid e2
      have hdp : ((p : Int) != (p : Int)) = false := by simp
      rw [← hx, ← hp] at HF1
      rw [← hzz, hlz, ← hp] at HF2
      clear e1 e2 hb hb' hs1 hL1 hL2 hx hp hlz hiz hzz
      go_wp2_with fail
      go_region
      go_wp2_with fail
      clear q0 q1 f1 f2 hdp
      have HBD := Lib.hid (HBR.out.trans ((Below.refl wo.heap.size wo).drew.mono HBR.out.size))
      go_loopw [43] (fun i ws => ∃ j : Nat, j ≤ p ∧ i = .int .i64 j ∧ Below W.heap.size W ws) (fun i _ => p - (intOf i).toNat)
      case atStart => exact ⟨0, Nat.zero_le _, rfl, HBD.out⟩
      case round =>
        obtain ⟨ws, hws⟩ : ∃ ws, ws = wr := ⟨_, rfl⟩
        subst hws
        obtain ⟨j, hj, rfl, hb⟩ := hrel
        have HBS := Lib.hid hb
        clear hb
        by_cases hjl : j < p
        · have hdj : decide ((j : Int) < (p : Int)) = true := by simp; omega
          have q1 := (HBS.out.cell (p := ⟨g + 1, 0, none⟩) (block_lt K1.out)).trans K1.out
          have f2 := (HBS.out.cell (p := ⟨b', o' + k, none⟩) (block_lt HF2.out)).trans HF2.out
          obtain ⟨b3, o3, rfl, h3, m0, m1, m2⟩ := HL1.out.at j (by rw [← HP.out]; exact hjl)
          have hmem := HIZ.out _ (memD x j (by rw [← HP.out]; exact hjl) noAt)
          obtain ⟨m, hm1, hm2⟩ := List.getElem_of_mem hmem
          have hm3 : z.getD m noAt = x.getD j noAt := by rw [List.getD_eq_getElem?_getD, List.getElem?_eq_getElem hm1]; exact hm2
          have hmp : m < p := by have := HLZ.out; have := HP.out; omega
          have HM3 := Lib.hid hm3
          have l0 := (HBS.out.cell (p := ⟨b3, o3 + j * 3, none⟩) h3).trans m0
          have l1 := (HBS.out.cell (p := ⟨b3, o3 + j * 3 + 1, none⟩) h3).trans m1
          have l2 := (HBS.out.cell (p := ⟨b3, o3 + j * 3 + 2, none⟩) h3).trans m2
          generalize x.getD j noAt = y at l0 l1 l2 HM3
          obtain ⟨t, kd, v⟩ := y
          simp only at l0 l1 l2
          obtain ⟨G, hG⟩ : ∃ G, G = ws.heap.size := ⟨_, rfl⟩
          obtain ⟨V, hV⟩ : ∃ V, V = ws.alloc (.cells #[.string t, .int .i64 kd, .string v] 103) := ⟨_, rfl⟩
          have hbV : Below ws.heap.size ws V := by rw [hV]; exact belowNew ws _
          obtain ⟨y0, y1, y2, _, _, _, yl⟩ := at_facts (show V.heap[G]? = _ from by rw [hV, hG]; exact heap_alloc_new ws _)
          have HBV := Lib.hid (below_next HBS.out hbV)
          have HY0 := Lib.hid y0
          have HY1 := Lib.hid y1
          have HY2 := Lib.hid y2
          have q1' := (hbV.cell (p := ⟨g + 1, 0, none⟩) (block_lt q1)).trans q1
          have f2' := (hbV.cell (p := ⟨b', o' + k, none⟩) (block_lt f2)).trans f2
          have HVE := Lib.hid hV.symm
          have HGE := Lib.hid hG
          clear m0 m1 m2 h3 hmem hm1 hm2 hm3 hbV hV hG q1 f2
          go_upto_region 11 with fail
          rw [HVE.out, ← HGE.out]
          clear l0 l1 l2
          go_wp2_with fail
          clear q1' f2' y0 y1 y2
          go_loopw [8, 53] (fun f i wt => ∃ (q : Nat) (B : Bool), q ≤ p ∧ f = .bool B ∧ i = .int .i64 q ∧ (m < q → B = true) ∧ Below V.heap.size V wt) (fun _ i _ => p - (intOf i).toNat)
          case atStart => exact ⟨0, false, Nat.zero_le _, rfl, rfl, fun h => absurd h (Nat.not_lt_zero _), Below.refl _ _⟩
          case round =>
            obtain ⟨wt, hwt⟩ : ∃ wt, wt = wr := ⟨_, rfl⟩
            subst hwt
            obtain ⟨q, B, hq, rfl, rfl, hB, hb⟩ := hrel
            have HBT := Lib.hid hb
            have HBB := Lib.hid hB
            clear hb hB
            by_cases hql : q < p
            · have hdq : decide ((q : Int) < (p : Int)) = true := by simp; omega
              obtain ⟨b4, o4, rfl, h4, n0, n1, n2⟩ := HL2.out.at q (by rw [HLZ.out, ← HP.out]; exact hql)
              have hWt : Below W.heap.size W wt := HBV.out.trans (HBT.out.mono HBV.out.size)
              have r0 := (hWt.cell (p := ⟨b4, o4 + q * 3, none⟩) h4).trans n0
              have r1 := (hWt.cell (p := ⟨b4, o4 + q * 3 + 1, none⟩) h4).trans n1
              have r2 := (hWt.cell (p := ⟨b4, o4 + q * 3 + 2, none⟩) h4).trans n2
              have HQM := Lib.hid (show m = q → z.getD q noAt = (t, kd, v) from fun e => by rw [← e]; exact HM3.out)
              generalize z.getD q noAt = y at r0 r1 r2 HQM
              obtain ⟨t5, kd5, v5⟩ := y
              simp only at r0 r1 r2
              have i0 := (HBT.out.cell (p := ⟨G, 0, none⟩) (block_lt HY0.out)).trans HY0.out
              have i1 := (HBT.out.cell (p := ⟨G, 1, none⟩) (block_lt HY1.out)).trans HY1.out
              have i2 := (HBT.out.cell (p := ⟨G, 2, none⟩) (block_lt HY2.out)).trans HY2.out
              obtain ⟨W2, hW2⟩ : ∃ W2, W2 = wt.alloc (.cells #[.string t5, .int .i64 kd5, .string v5] 103) := ⟨_, rfl⟩
              have hb2 : Below wt.heap.size wt W2 := by rw [hW2]; exact belowNew wt _
              obtain ⟨G2, hG2⟩ : ∃ G2, G2 = wt.heap.size := ⟨_, rfl⟩
              obtain ⟨j0, j1, j2, _, _, _, _⟩ := at_facts (show W2.heap[G2]? = _ from by rw [hW2, hG2]; exact heap_alloc_new wt _)
              have i0 := (hb2.cell (p := ⟨G, 0, none⟩) (block_lt i0)).trans i0
              have i1 := (hb2.cell (p := ⟨G, 1, none⟩) (block_lt i1)).trans i1
              have i2 := (hb2.cell (p := ⟨G, 2, none⟩) (block_lt i2)).trans i2
              have HB2 := Lib.hid (below_next HBT.out hb2)
              have HWE2 := Lib.hid hW2.symm
              have HGE2 := Lib.hid hG2
              clear h4 n0 n1 n2 hWt hb2 hW2 hG2
              go_upto_region 15 with fail
              rw [HWE2.out, ← HGE2.out]
              clear r0 r1 r2
              cases B with
              | true =>
                go_wp2_with fail
                go_roundw
                case rel => exact ⟨q + 1, true, by omega, rfl, by go_num, fun _ => rfl, HB2.out⟩
                case measure => simp [intOf]; omega
              | false =>
                by_cases he : (t5, kd5, v5) = (t, kd, v)
                · obtain ⟨rfl, rfl, rfl⟩ : t5 = t ∧ kd5 = kd ∧ v5 = v := by simpa using he
                  clear he
                  go_wp2_with fail
                  go_roundw
                  case rel => exact ⟨q + 1, true, by omega, rfl, by go_num, fun _ => rfl, HB2.out⟩
                  case measure => simp [intOf]; omega
                · have hne : ¬ m = q := fun e => he (HQM.out e)
                  have hmq : m < q + 1 → m < q := fun h => by omega
                  go_wp2_with fail
                  all_goals first
                    | (exact ⟨⟨q + 1, false, by omega, rfl, by go_num, fun h => HBB.out (hmq h), HB2.out⟩, by simp [intOf]; omega⟩)
                    | (exact ⟨⟨q + 1, true, by omega, rfl, by go_num, fun _ => rfl, HB2.out⟩, by simp [intOf]; omega⟩)
                    | (exact absurd (show (t5, kd5, v5) = (t, kd, v) from by rename_i e1 e2 e3; rw [toList_inj.1 e1, e2, toList_inj.1 e3]) he)
                    | (rename_i e1 e2 e3; subst e2; exact ⟨⟨_, _, _, _, _, _, _, _, _, _, _, _, _, ⟨q + 1, false, by omega, rfl, by go_num, fun h => HBB.out (hmq h), HB2.out⟩, rfl⟩, by simp [intOf]; omega⟩)
            · have hdq : decide ((q : Int) < (p : Int)) = false := by simp; omega
              obtain rfl : B = true := HBB.out (by omega)
              go_wp2_with fail
              go_roundw
              case rel => exact ⟨j + 1, by omega, by go_num, HBV.out.trans (HBT.out.mono HBV.out.size)⟩
              case measure => simp [intOf]; omega
        · have hdj : decide ((j : Int) < (p : Int)) = false := by simp; omega
          go_wp2_with fail
          go_roundw
          case rel => exact ⟨k + 1, by omega, by go_num, HBS.out⟩
          case measure => simp [intOf]; omega
    · have hd : decide ((k : Int) < (n : Int)) = false := by simp; omega
      go_wp2_with fail
      go_ret
      exact ⟨rfl, below_next HB.out HBR.out⟩
end Go.Proofs.YtflpajbcomhkpaaGreatDoor
namespace Go.Proofs.YtflpajbcomhkpaaGreatDoor
open Go.RowKit

def AlikeG (g h : Gn) : Prop := g.1 = h.1 ∧ g.2.1 = h.2.1 ∧ SmallN g.2.2 ∧ g.2.2.length = h.2.2.length ∧ (∀ i, i < g.2.2.length → (h.2.2.getD i []).length = (g.2.2.getD i []).length) ∧ ∀ i, i < g.2.2.length → ∀ x ∈ g.2.2.getD i [], x ∈ h.2.2.getD i []
set_option maxRecDepth 100000 in
set_option maxHeartbeats 4000000 in
theorem samesG_core (a0 b0 : Option Addr) (c d m : Nat) (l l' : List Gn) (w : World) (h1 : GLies w a0 l) (h2 : GLies w b0 l') (hn : m = l.length) (hn' : m = l'.length) (hm : m ≤ 1000000) (hq : ∀ i, i < l.length → AlikeG (l.getD i noG) (l'.getD i noG)) :
    Calls Tryz.prog 31 #[.slice a0 m c, .slice b0 m d] w fun e w' => e = .returned (.bool true) ∧ Below w.heap.size w w' := by
  have H1 := Lib.hid h1
  have H2 := Lib.hid h2
  have HN := Lib.hid hn
  have HN' := Lib.hid hn'
  have HQ := Lib.hid hq
  clear h1 h2 hn hn' hq
  go_enter Tryz.func31, Tryz.ntmps31
  go_wp2_with fail
  go_loopw [13] (fun i wr => ∃ k : Nat, k ≤ m ∧ i = .int .i64 k ∧ Below w.heap.size w wr) (fun i _ => m - (intOf i).toNat)
  case atStart => exact ⟨0, Nat.zero_le _, rfl, Below.refl _ _⟩
  case round =>
    obtain ⟨wz, hwz⟩ : ∃ wz, wz = wr := ⟨_, rfl⟩
    subst hwz
    obtain ⟨k, hk, rfl, hb⟩ := hrel
    have HB := Lib.hid hb
    clear hb
    by_cases hlt : k < m
    · have hd : decide ((k : Int) < (m : Int)) = true := by simp; omega
      obtain ⟨b, o, rfl, hb, e0, e1, a1, c1, e2, hc1, hL1⟩ := (H1.out.below HB.out).at k (by rw [← HN.out]; exact hlt)
      obtain ⟨b', o', rfl, hb', e0', e1', a1', c1', e2', hc1', hL1'⟩ := (H2.out.below HB.out).at k (by rw [← HN'.out]; exact hlt)
      have hs := HQ.out k (by rw [← HN.out]; exact hlt)
      generalize l.getD k noG = G at e0 e1 e2 hL1 hc1 hs
      generalize l'.getD k noG = G' at e0' e1' e2' hL1' hc1' hs
      obtain ⟨q, t, n⟩ := G
      obtain ⟨q', t', n'⟩ := G'
      obtain ⟨hs1, hs2, hs3, hs4, hs5, hs6⟩ := hs
      simp only at e0 e1 e2 hL1 hc1 e0' e1' e2' hL1' hc1' hs1 hs2 hs3 hs4 hs5 hs6
      obtain rfl := hs1
      obtain rfl := hs2
      obtain ⟨N, hNn⟩ : ∃ N, N = n.length := ⟨_, rfl⟩
      rw [← hNn] at e2 hs4 hs5 hs6
      rw [← hs4] at e2'
      have HX := Lib.hid (fun W (hb : Below wz.heap.size wz W) => same_core a1 a1' c1 c1' N n n' W (hL1.below hb) (hL1'.below hb) hNn hs4 hs3 hs5 hs6)
      clear hb hb' hL1 hL1' hc1 hc1' hs3 hs4 hs5 hs6 hNn
      have f1 : ∀ d os, _ := fun d os => Calls.regrown_of (HX.out (Sort.grow (redrawn wz d) os) (below_regrown wz d os))
      have g0 := cell_regrown e0
      have g1 := cell_regrown e1
      have g2 := cell_regrown e2
      have g0' := cell_regrown e0'
      have g1' := cell_regrown e1'
      have g2' := cell_regrown e2'
      clear e0 e1 e2 e0' e1' e2'
      go_wp2_with fail
      refine wp_region_quiet_below (by kernel_rfl) (by kernel_rfl) ?_
      repeat (go_big_quiet_step (with_reducible first | exact f1 _ _))
      refine wpQuiet_nil ?_
      intro _ hw'
      obtain ⟨⟨dq, osq⟩, hw''⟩ := hw'
      subst hw''
      have HBR := Lib.hid (HB.out.trans ((below_regrown wz dq osq).mono HB.out.size))
      clear f1 g0 g1 g2 g0' g1' g2'
      go_wp2_with fail
      go_roundw
      case rel => exact ⟨k + 1, by omega, by go_num, HBR.out⟩
      case measure => simp [intOf]; omega
    · have hd : decide ((k : Int) < (m : Int)) = false := by simp; omega
      obtain rfl : k = m := by omega
      go_wp2_with fail
      go_ret
      exact ⟨rfl, HB.out⟩
end Go.Proofs.YtflpajbcomhkpaaGreatDoor
namespace Go.Proofs.YtflpajbcomhkpaaGreatDoor
open Go.RowKit

end Go.Proofs.YtflpajbcomhkpaaGreatDoor
namespace Go.Proofs.YtflpajbcomhkpaaGreatDoor
open Go.RowKit

noncomputable def encL (a : At) : List UInt8 := (encA a).data.toList
def leA (a b : At) : Prop := ¬ encL b < encL a
def Srt (l : List At) : Prop := l.Pairwise leA
theorem leA.trans {a b c : At} (h : leA a b) (k : leA b c) : leA a c := List.not_lt.2 (List.le_trans (List.not_lt.1 h) (List.not_lt.1 k))
theorem leA_of_lt {a b : At} (h : encL a < encL b) : leA a b := fun k => List.lt_irrefl _ (List.lt_trans h k)
theorem encA_inj {a b : At} (ha : okA a) (hb : okA b) (h : encL a = encL b) : a = b := by
  have h1 : encA a = encA b := ext_list_t h
  obtain ⟨_, _, e1⟩ := read_one (b := encA a) (c := inA a) (by have := inA_size ha; omega) rfl
  obtain ⟨_, _, e2⟩ := read_one (b := encA b) (c := inA b) (by have := inA_size hb; omega) rfl
  have e3 : inA a = inA b := by rw [← e1, ← e2, h1]
  have e4 := decA_elA ha
  have e5 := decA_elA hb
  have e6 : elA a = elA b := by unfold elA; rw [e3, h1]
  rw [e6, e5] at e4
  exact (Prod.mk.inj e4).2.symm
theorem sort_srt (r : List At) : Srt (sortR r) := by
  have tr : ∀ a b c : At, decide (encL a ≤ encL b) = true → decide (encL b ≤ encL c) = true → decide (encL a ≤ encL c) = true := fun a b c h1 h2 => by simp only [decide_eq_true_eq] at *; exact List.le_trans h1 h2
  have tot : ∀ a b : At, (decide (encL a ≤ encL b) || decide (encL b ≤ encL a)) = true := fun a b => by simp only [Bool.or_eq_true, decide_eq_true_eq]; exact List.le_total _ _
  exact (List.pairwise_mergeSort tr tot r).imp fun {a b} hh => List.not_lt.2 (of_decide_eq_true hh)
theorem sort_unique {D r : List At} (hs : Srt D) (hp : D.Perm r) (hok : ∀ a ∈ r, okA a) : D = sortR r := by
  refine List.Perm.eq_of_pairwise (le := leA) (fun a b ha hb h1 h2 => ?_) hs (sort_srt r) (hp.trans (sortR_perm r).symm)
  exact encA_inj (hok a (hp.mem_iff.1 ha)) (hok b ((sortR_perm r).mem_iff.1 hb)) (List.le_antisymm (List.not_lt.1 h1) (List.not_lt.1 h2))
theorem srt_put {P Q : List At} {x : At} (h : Srt (P ++ Q)) (h1 : ∀ y ∈ Q, leA x y) (h2 : ∀ y ∈ P, leA y x) : Srt (P ++ x :: Q) := by
  unfold Srt at *
  rw [List.pairwise_append] at h ⊢
  refine ⟨h.1, List.pairwise_cons.2 ⟨h1, h.2.1⟩, fun a ha b hb => ?_⟩
  rcases List.mem_cons.1 hb with rfl | hb
  · exact h2 a ha
  · exact h.2.2 a ha b hb
theorem srt_last {P : List At} {y x : At} (h : Srt (P ++ [y])) (k : leA y x) : ∀ z ∈ P ++ [y], leA z x := by
  intro z hz
  unfold Srt at h
  rw [List.pairwise_append] at h
  rcases List.mem_append.1 hz with hz | hz
  · exact (h.2.2 z hz y (List.mem_singleton.2 rfl)).trans k
  · rw [List.mem_singleton.1 hz]; exact k
end Go.Proofs.YtflpajbcomhkpaaGreatDoor
