/-
  A field of a general name that a call has returned.
  The contract of the law's some: a general name of the generators, perhaps with a field of another one.
  The contract of Parse: the name that a text denotes, or the error.
  The contract of the law's function awake: the chapter's example answers as written.
  Names that a law holds in blocks of its own; the calls of Match and awake in a region that draws.
-/
import Derived.Test.YtkiniledfcdgjaaGreatDoorPbe
import Derived.Deep.CutRange
import Derived.Deep.DeepCutAuto
import Derived.Test.YtkiniledfcdgjaaGreatDoorPan
import Derived.Test.YtkiniledfcdgjaaGreatDoorPam
import Derived.Test.YtkiniledfcdgjaaGreatDoorPbd
import Derived.Test.YtkiniledfcdgjaaGreatDoorPav
import Derived.Deep.RegionHeld3
import Derived.Lib.QuietBelow
import Derived.BigQuiet
namespace Go.Proofs.YtkiniledfcdgjaaGreatDoor
open Go.RowKit

set_option maxRecDepth 100000 in
theorem gfield1 (q : Int) (t : ByteArray) (a : Option Addr) (n c : Nat) (w : World) : (Instr.field 26 (.agg #[.int .i64 q, .string t, .slice a n c]) 1).run Tryz.prog w = .ok (.string t) w := by
  show (Instr.field 26 (.agg #[.int .i64 q, .string t, .slice a n c]) 1).run Tryz.prog w = .ok (.string t) w
  kernel_rfl
end Go.Proofs.YtkiniledfcdgjaaGreatDoor
namespace Go.Proofs.YtkiniledfcdgjaaGreatDoor
open Go.RowKit

theorem gen_len {q : Int} {t : List UInt8} {n : Nm} (h : GenOk q t n) : t.length ≤ 64 ∧ MadeN n := by
  have m0 : MadeN [] := ⟨by decide, fun r hr => by cases hr⟩
  rcases h with ⟨_, h, rfl⟩ | ⟨_, h, rfl⟩ | ⟨_, h, rfl⟩ | ⟨_, rfl, h⟩
  · exact ⟨(show ∀ t ∈ genMail, t.length ≤ 64 by decide) t h, m0⟩
  · exact ⟨(show ∀ t ∈ genDns, t.length ≤ 64 by decide) t h, m0⟩
  · exact ⟨(show ∀ t ∈ genAddr, t.length ≤ 64 by decide) t h, m0⟩
  · exact ⟨by decide, h⟩
theorem bse_len {q : Int} {t : List UInt8} {n : Nm} (h : BseOk q t n) : t.length ≤ 64 ∧ MadeN n := by
  have m0 : MadeN [] := ⟨by decide, fun r hr => by cases hr⟩
  rcases h with ⟨_, h, rfl⟩ | ⟨_, h, rfl⟩ | ⟨_, h, rfl⟩ | ⟨_, rfl, h⟩
  · exact ⟨(show ∀ t ∈ bseMail, t.length ≤ 64 by decide) t h, m0⟩
  · exact ⟨(show ∀ t ∈ bseDns, t.length ≤ 64 by decide) t h, m0⟩
  · exact ⟨(show ∀ t ∈ bseAddr, t.length ≤ 64 by decide) t h, m0⟩
  · exact ⟨by decide, h⟩
theorem next2 (p : Nat) (a : Option Addr) (cap : Nat) (zs : List Int) (k : Nat) (w : World) (h : DeckAt w p a cap zs k) (hk2 : k < 1000) :
    Calls Tryz.prog 22 #[.pointer (some ⟨p, 0, none⟩), .int .i64 2] w fun e w' => ∃ r k' : Nat, r < 2 ∧ e = .returned (.int .i64 (r : Int)) ∧ DeckAt w' p a cap zs k' ∧ k' ≤ k + 1 ∧ But p w w' :=
  next_any p a cap zs k 2 w h hk2 (by omega) (by omega)
theorem next12 (p : Nat) (a : Option Addr) (cap : Nat) (zs : List Int) (k : Nat) (w : World) (h : DeckAt w p a cap zs k) (hk2 : k < 1000) :
    Calls Tryz.prog 22 #[.pointer (some ⟨p, 0, none⟩), .int .i64 12] w fun e w' => ∃ r k' : Nat, r < 12 ∧ e = .returned (.int .i64 (r : Int)) ∧ DeckAt w' p a cap zs k' ∧ k' ≤ k + 1 ∧ But p w w' :=
  next_any p a cap zs k 12 w h hk2 (by omega) (by omega)
theorem next10 (p : Nat) (a : Option Addr) (cap : Nat) (zs : List Int) (k : Nat) (w : World) (h : DeckAt w p a cap zs k) (hk2 : k < 1000) :
    Calls Tryz.prog 22 #[.pointer (some ⟨p, 0, none⟩), .int .i64 10] w fun e w' => ∃ r k' : Nat, r < 10 ∧ e = .returned (.int .i64 (r : Int)) ∧ DeckAt w' p a cap zs k' ∧ k' ≤ k + 1 ∧ But p w w' :=
  next_any p a cap zs k 10 w h hk2 (by omega) (by omega)
theorem gset0 {w : World} {g : Nat} {x y z a : Value} {t : TypeId} (h : w.heap[g]? = some (.cells #[x, y, z] t (0, 0))) : (w.setCell ⟨g, 0, none⟩ a).heap[g]? = some (.cells #[a, y, z] t (0, 0)) := by
  simp [World.setCell, Array.getElem?_modify, h]
theorem gset1 {w : World} {g : Nat} {x y z a : Value} {t : TypeId} (h : w.heap[g]? = some (.cells #[x, y, z] t (0, 0))) : (w.setCell ⟨g, 1, none⟩ a).heap[g]? = some (.cells #[x, a, z] t (0, 0)) := by
  simp [World.setCell, Array.getElem?_modify, h]
theorem gset2 {w : World} {g : Nat} {x y z a : Value} {t : TypeId} (h : w.heap[g]? = some (.cells #[x, y, z] t (0, 0))) : (w.setCell ⟨g, 2, none⟩ a).heap[g]? = some (.cells #[x, y, a] t (0, 0)) := by
  simp [World.setCell, Array.getElem?_modify, h]
/-- A change of one block that is of another type leaves a name as it was. -/
theorem own_apart {w w' : World} {B k n g : Nat} {e T : TypeId} {v : Value} {xs : List Value} {cs : Array Value} {f : Nat × Nat} (h : w.ownsRow B e k v n xs) (hc : w.heap[g]? = some (.cells cs T f)) (hT : T ≠ e) (hg : But g w w') : w'.ownsRow B e k v n xs := by
  refine World.ownsRow.kept h hg ?_
  rcases h.2 with ⟨hv, _⟩ | ⟨b, cap, cur, hv, _, hb, _⟩
  · exact .inl (by rw [hv]; rfl)
  · refine .inr (fun e1 => ?_)
    rw [hv] at e1
    simp [Value.ownBlock] at e1
    subst e1
    rw [hc] at hb
    simp at hb
    exact hT hb.2.1
theorem OwnN.apart {w w' : World} {B g : Nat} {T : TypeId} {v : Value} {n : Nm} {cs : Array Value} {f : Nat × Nat} (h : OwnN w B v n) (hc : w.heap[g]? = some (.cells cs T f)) (h1 : T ≠ 68) (h2 : T ≠ 66) (hg : But g w w') : OwnN w' B v n := by
  obtain ⟨vs, q1, q2, q3⟩ := h
  exact ⟨vs, q1, own_apart q2 hc h2 hg, fun i hi => own_apart (q3 i hi) hc h1 hg⟩
/-- In the middle of some: the result's cell at r, the general name's at g, the deck at p. -/
def Mid (w0 w : World) (p g K : Nat) (a : Option Addr) (cap : Nat) (zs : List Int) : Prop :=
  ∃ (q : Int) (t : List UInt8) (aq : Option Addr) (cq k : Nat) (n : Nm), w.heap[w0.heap.size]? = some (.cells #[.int .i64 0, .string ⟨#[]⟩, .slice none 0 0] 26 (0, 0)) ∧
    w.heap[g]? = some (.cells #[.int .i64 q, .string (strOf t), .slice aq n.length cq] 26 (0, 0)) ∧ OwnN w w0.heap.size (.slice aq n.length cq) n ∧ DeckAt w p a cap zs k ∧ k ≤ K ∧ t.length ≤ 64 ∧ MadeN n ∧ But p w0 w

set_option maxRecDepth 100000 in
set_option maxHeartbeats 8000000 in
theorem some_any (p : Nat) (a : Option Addr) (cap : Nat) (zs : List Int) (k : Nat) (w : World) (h : DeckAt w p a cap zs k) (hk : k ≤ 700) :
    Calls Tryz.prog 8 #[.pointer (some ⟨p, 0, none⟩)] w fun e w' => ∃ (q : Int) (t : List UInt8) (s : Value) (n : Nm) (k' : Nat), t.length ≤ 64 ∧ MadeN n ∧ e = .returned (.agg #[.int .i64 q, .string (strOf t), s]) ∧ OwnN w' w.heap.size s n ∧ DeckAt w' p a cap zs k' ∧ k' ≤ k + 40 ∧ But p w w' := by
  obtain ⟨W1, hW1⟩ : ∃ W1, W1 = w.alloc (.cells #[.int .i64 0, .string ⟨#[]⟩, .slice none 0 0] 26) := ⟨_, rfl⟩
  have hb1 : Below w.heap.size w W1 := by rw [hW1]; exact belowNew w _
  have hc1 : W1.heap[w.heap.size]? = some (.cells #[.int .i64 0, .string ⟨#[]⟩, .slice none 0 0] 26 (0, 0)) := by rw [hW1]; exact heap_alloc_new w _
  have hp := h.lt
  have HN4 := Lib.hid (general_any p a cap zs k W1 (h.below hb1) (by omega))
  have HB1 := Lib.hid (But.of (p := p) hb1)
  have HC1 := Lib.hid hc1
  have l1 := (Array.getElem?_eq_some_iff.1 hc1).1
  have HK := Lib.hid hk
  have HWE := hW1.symm
  clear h hb1 hc1 hW1 hk
  go_enter Tryz.func8, Tryz.ntmps8
  go_upto_region 2 with (go_at_call 14; (with_reducible refine HN4.out.mono ?_); rintro e w2 ⟨q, t, s, n, k2, hG, rfl, hso, hd2, hk2, hb2⟩; obtain ⟨aq, cq, rfl, hcs, _⟩ := hso.lies; clear hcs; have HC2 := Lib.hid ((hb2.block w.heap.size l1 (by simp; omega)).trans HC1.out); have HO2 := Lib.hid (hso.base (Nat.le_of_lt l1)); have HG2 := Lib.hid (gen_len hG); have HD2 := Lib.hid hd2; have HK2 := Lib.hid (show k2 ≤ k + 12 from hk2); have HB2 := Lib.hid (HB1.out.next hb2); have l2 : w.heap.size < w2.heap.size := (Array.getElem?_eq_some_iff.1 HC2.out).1; clear hG hso hd2 hk2 hb2)
  obtain ⟨W3, hW3⟩ : ∃ W3, W3 = w2.alloc (.cells #[.int .i64 q, .string (strOf t), .slice aq n.length cq] 26) := ⟨_, rfl⟩
  have hb3 : Below w2.heap.size w2 W3 := by rw [hW3]; exact belowNew w2 _
  have hc3 : W3.heap[w2.heap.size]? = some (.cells #[.int .i64 q, .string (strOf t), .slice aq n.length cq] 26 (0, 0)) := by rw [hW3]; exact heap_alloc_new w2 _
  obtain ⟨g, hg⟩ : ∃ g, g = w2.heap.size := ⟨_, rfl⟩
  rw [← hW3]
  rw [← hg] at hc3 l2 ⊢
  have hpg : p < g := by omega
  have HM3 := Lib.hid (show Mid w W3 p g (k + 12) a cap zs from ⟨q, t, aq, cq, k2, n, (hb3.block _ (by omega)).trans HC2.out, hc3, HO2.out.below hb3, HD2.out.below hb3, HK2.out, HG2.out.1, HG2.out.2, HB2.out.next (But.of hb3)⟩)
  clear hb3 hc3 hW3 HO2 HG2 HD2 HK2 HB2 HC2 hg l1 HWE
  clear HC1 HB1 HN4
  obtain ⟨q, t, aq, cq, k3, n, m1, m2, m3, m4, m5, m6, m7, m8⟩ := HM3.out
  have HNX := Lib.hid (next2 p a cap zs k3 W3 m4 (by have := HK.out; omega))
  have M1 := Lib.hid m1
  have M2 := Lib.hid m2
  have M3 := Lib.hid m3
  have M5 := Lib.hid m5
  have M6 := Lib.hid m6
  have M7 := Lib.hid m7
  have M8 := Lib.hid m8
  have lg := (Array.getElem?_eq_some_iff.1 m2).1
  have lr := (Array.getElem?_eq_some_iff.1 m1).1
  have MD := Lib.hid m4
  clear m1 m2 m3 m4 m5 m6 m7 m8 HM3
  go_upto_if 8 with (go_at_call 22; (with_reducible refine HNX.out.mono ?_); rintro e w4 ⟨r, k4, hr, rfl, hd4, hk4, hb4⟩; have HM4 := Lib.hid (show Mid w w4 p g (k + 13) a cap zs from ⟨q, t, aq, cq, k4, n, (hb4.block _ lr (by simp; omega)).trans M1.out, (hb4.block _ lg (by simp; omega)).trans M2.out, M3.out.apart MD.out.1 (by decide) (by decide) hb4, hd4, by have := M5.out; omega, M6.out, M7.out, M8.out.next hb4⟩); clear hd4 hk4 hb4)
  clear M1 M2 M3 M5 M6 M7 M8 MD lg lr HNX
  go_cut [8] (fun _ wx => Mid w wx p g (k + 26) a cap zs)
  case first =>
    obtain rfl | rfl : r = 0 ∨ r = 1 := by omega
    · go_wp2_with fail
      go_meet
      obtain ⟨q, t, aq, cq, k3, n, m1, m2, m3, m4, m5, m6, m7, m8⟩ := HM4.out
      exact ⟨q, t, aq, cq, k3, n, m1, m2, m3, m4, by omega, m6, m7, m8⟩
    · obtain ⟨q, t, aq, cq, k3, n, m1, m2, m3, m4, m5, m6, m7, m8⟩ := HM4.out
      have HNX := Lib.hid (base_any_g p a cap zs k3 w4 m4 (by have := HK.out; omega))
      have M1 := Lib.hid m1
      have M2 := Lib.hid m2
      have M5 := Lib.hid m5
      have M8 := Lib.hid m8
      have lg := (Array.getElem?_eq_some_iff.1 m2).1
      have lr := (Array.getElem?_eq_some_iff.1 m1).1
      clear m1 m2 m3 m4 m5 m6 m7 m8 HM4
      go_wp2_with (go_at_call 15; (with_reducible refine HNX.out.mono ?_); rintro e w5 ⟨q5, t5, s5, n5, k5, hG, rfl, hso, hd5, hk5, hb5⟩; obtain ⟨a5, c5, rfl, hcs, _⟩ := hso.lies; clear hcs; have hc5 := (hb5.block g lg (by simp; omega)).trans M2.out; obtain ⟨c0, c1, c2, f0, f1, f2, hlt⟩ := at_facts hc5; have HC5 := Lib.hid hc5; have HR5 := Lib.hid ((hb5.block _ lr (by simp; omega)).trans M1.out); have HO5 := Lib.hid (hso.base (Nat.le_of_lt lr)); have HG5 := Lib.hid (bse_len hG); have HD5 := Lib.hid hd5; have HK5 := Lib.hid (show k5 ≤ k + 25 by have := M5.out; omega); have HB5 := Lib.hid (M8.out.next hb5); clear hG hso hd5 hk5 hb5 hc5)
      go_meet
      have hs := ((But.set g 0 w5 (.int .i64 q5)).next (But.set g 1 _ (.string (strOf t5)))).next (But.set g 2 _ (.slice a5 n5.length c5))
      exact ⟨q5, t5, a5, c5, k5, n5, (hs.block _ (Array.getElem?_eq_some_iff.1 HR5.out).1 (by simp; omega)).trans HR5.out, at_set HC5.out, HO5.out.apart HC5.out (by decide) (by decide) hs, HD5.out.grown hs (fun j e => by obtain rfl := Option.some.inj e; exact hpg), by have := HK5.out; omega, HG5.out.1, HG5.out.2, HB5.out.fresh hs (by omega)⟩
  case rest =>
    have HM5 := Lib.hid hcut
    clear hcut HM4 hr
    obtain ⟨q, t, aq, cq, k3, n, m1, m2, m3, m4, m5, m6, m7, m8⟩ := HM5.out
    have HNX := Lib.hid (next12 p a cap zs k3 wc m4 (by have := HK.out; omega))
    have M1 := Lib.hid m1
    have M2 := Lib.hid m2
    have M3 := Lib.hid m3
    have M5 := Lib.hid m5
    have M6 := Lib.hid m6
    have M7 := Lib.hid m7
    have M8 := Lib.hid m8
    have lg := (Array.getElem?_eq_some_iff.1 m2).1
    have lr := (Array.getElem?_eq_some_iff.1 m1).1
    have MD := Lib.hid m4
    clear m1 m2 m3 m4 m5 m6 m7 m8 HM5
    go_upto_region 5 with (go_at_call 22; (with_reducible refine HNX.out.mono ?_); rintro e w6 ⟨r, k6, hr, rfl, hd6, hk6, hb6⟩; have HM6 := Lib.hid (show Mid w w6 p g (k + 27) a cap zs from ⟨q, t, aq, cq, k6, n, (hb6.block _ lr (by simp; omega)).trans M1.out, (hb6.block _ lg (by simp; omega)).trans M2.out, M3.out.apart MD.out.1 (by decide) (by decide) hb6, hd6, by have := M5.out; omega, M6.out, M7.out, M8.out.next hb6⟩); clear hd6 hk6 hb6)
    clear M1 M2 M3 M5 M6 M7 M8 MD lg lr HNX
    obtain ⟨q, t, aq, cq, k6, n, m1, m2, m3, m4, m5, m6, m7, m8⟩ := HM6.out
    have M1 := Lib.hid m1
    have M2 := Lib.hid m2
    have M3 := Lib.hid m3
    have M4 := Lib.hid m4
    have M5 := Lib.hid m5
    have M6 := Lib.hid m6
    have M7 := Lib.hid m7
    have M8 := Lib.hid m8
    have lg := (Array.getElem?_eq_some_iff.1 m2).1
    have lr := (Array.getElem?_eq_some_iff.1 m1).1
    clear m1 m2 m3 m4 m5 m6 m7 m8 HM6
    have fin : ∀ (w9 : World) (q : Int) (t : List UInt8) (aq : Option Addr) (cq k9 : Nat) (n : Nm), w9.heap[w.heap.size]? = some (.cells #[.int .i64 0, .string ⟨#[]⟩, .slice none 0 0] 26 (0, 0)) → OwnN w9 w.heap.size (.slice aq n.length cq) n → DeckAt w9 p a cap zs k9 → k9 ≤ k + 40 → t.length ≤ 64 → MadeN n → But p w w9 →
        ∃ (q' : Int) (t' : List UInt8) (s : Value) (n' : Nm) (k' : Nat), t'.length ≤ 64 ∧ MadeN n' ∧ Ending.returned (.agg #[.int .i64 q, .string (strOf t), .slice aq n.length cq]) = .returned (.agg #[.int .i64 q', .string (strOf t'), s]) ∧ OwnN (((w9.setCell ⟨w.heap.size, 0, none⟩ (.int .i64 q)).setCell ⟨w.heap.size, 1, none⟩ (.string (strOf t))).setCell ⟨w.heap.size, 2, none⟩ (.slice aq n.length cq)) w.heap.size s n' ∧ DeckAt (((w9.setCell ⟨w.heap.size, 0, none⟩ (.int .i64 q)).setCell ⟨w.heap.size, 1, none⟩ (.string (strOf t))).setCell ⟨w.heap.size, 2, none⟩ (.slice aq n.length cq)) p a cap zs k' ∧ k' ≤ k + 40 ∧ But p w (((w9.setCell ⟨w.heap.size, 0, none⟩ (.int .i64 q)).setCell ⟨w.heap.size, 1, none⟩ (.string (strOf t))).setCell ⟨w.heap.size, 2, none⟩ (.slice aq n.length cq)) := by
      intro w9 q t aq cq k9 n h1 h2 h3 h4 h5 h6 h7
      have hs := ((But.set w.heap.size 0 w9 (.int .i64 q)).next (But.set w.heap.size 1 _ (.string (strOf t)))).next (But.set w.heap.size 2 _ (.slice aq n.length cq))
      exact ⟨q, t, _, n, k9, h5, h6, rfl, h2.apart h1 (by decide) (by decide) hs, h3.grown hs (fun j e => by obtain rfl := Option.some.inj e; exact hp), h4, h7.fresh hs (Nat.le_refl _)⟩
    have HF := Lib.hid fin
    clear fin
    rcases (show r = 0 ∨ r = 1 ∨ r = 2 ∨ (r ≠ 0 ∧ r ≠ 1 ∧ r ≠ 2) by omega) with rfl | rfl | rfl | hrr
    · have HNX := Lib.hid (general_any p a cap zs k6 w6 M4.out (by have := HK.out; have := M5.out; omega))
      go_wp2_with (go_at_call 14; (with_reducible refine HNX.out.mono ?_); rintro e w7 ⟨q7, t7, s7, n7, k7, hG, rfl, hso, hd7, hk7, hb7⟩; obtain ⟨a7, c7, rfl, _, _⟩ := hso.lies; clear hso; have hfd := fun w => gfield1 q7 (strOf t7) a7 n7.length c7 w; have hc7 := (hb7.block g lg (by simp; omega)).trans M2.out; have hr7 := (hb7.block _ lr (by simp; omega)).trans M1.out; obtain ⟨c0, c1, c2, f0, f1, f2, hlt⟩ := at_facts hc7; obtain ⟨d0, d1, d2, e0, e1, e2, hlu⟩ := at_facts hr7; have HC7 := Lib.hid hc7; have HR7 := Lib.hid hr7; have HO7 := Lib.hid (M3.out.apart M4.out.1 (by decide) (by decide) hb7); have HG7 := Lib.hid (gen_len hG); have HD7 := Lib.hid hd7; have HK7 := Lib.hid (show k7 ≤ k + 40 by have := M5.out; omega); have HB7 := Lib.hid (M8.out.next hb7); clear hG hd7 hk7 hb7 hc7 hr7)
      have hs := But.set g 1 w7 (.string (strOf t7))
      exact bodyPost_ret (gnRes1 rfl _ _ w _ _ _ rfl (at_set ((hs.block _ (Array.getElem?_eq_some_iff.1 HR7.out).1 (by simp; omega)).trans HR7.out))) rfl (HF.out _ q t7 aq cq k7 n ((hs.block _ (Array.getElem?_eq_some_iff.1 HR7.out).1 (by simp; omega)).trans HR7.out) (HO7.out.apart HC7.out (by decide) (by decide) hs) (HD7.out.grown hs (fun j e => by obtain rfl := Option.some.inj e; exact hpg)) HK7.out HG7.out.1 M7.out (HB7.out.fresh hs (by omega)))
    · have HNX := Lib.hid (name_any p a cap zs k6 w6 M4.out (by have := HK.out; have := M5.out; omega))
      go_wp2_with (go_at_call 25; (with_reducible refine HNX.out.mono ?_); rintro e w7 ⟨v7, n7, k7, hG, rfl, ⟨s7, rfl, hso⟩, hd7, hk7, hb7⟩; obtain ⟨a7, c7, rfl, hcs, _⟩ := hso.lies; clear hcs; have hc7 := (hb7.block g lg (by simp; omega)).trans M2.out; have hr7 := (hb7.block _ lr (by simp; omega)).trans M1.out; obtain ⟨c0, c1, c2, f0, f1, f2, hlt⟩ := at_facts hc7; obtain ⟨d0, d1, d2, e0, e1, e2, hlu⟩ := at_facts hr7; have HC7 := Lib.hid hc7; have HR7 := Lib.hid hr7; have HO7 := Lib.hid (hso.base (Nat.le_of_lt lr)); have HG7 := Lib.hid hG; have HD7 := Lib.hid hd7; have HK7 := Lib.hid (show k7 ≤ k + 40 by have := M5.out; omega); have HB7 := Lib.hid (M8.out.next hb7); clear hG hso hd7 hk7 hb7 hc7 hr7)
      have hs := But.set g 2 w7 (.slice a7 n7.length c7)
      exact bodyPost_ret (gnRes1 rfl _ _ w _ _ _ rfl (at_set ((hs.block _ (Array.getElem?_eq_some_iff.1 HR7.out).1 (by simp; omega)).trans HR7.out))) rfl (HF.out _ q t a7 c7 k7 n7 ((hs.block _ (Array.getElem?_eq_some_iff.1 HR7.out).1 (by simp; omega)).trans HR7.out) (HO7.out.apart HC7.out (by decide) (by decide) hs) (HD7.out.grown hs (fun j e => by obtain rfl := Option.some.inj e; exact hpg)) HK7.out M6.out HG7.out (HB7.out.fresh hs (by omega)))
    · have HNX := Lib.hid (next10 p a cap zs k6 w6 M4.out (by have := HK.out; have := M5.out; omega))
      go_wp2_with (go_at_call 22; (with_reducible refine HNX.out.mono ?_); rintro e w7 ⟨r7, k7, _, rfl, hd7, hk7, hb7⟩; have hc7 := (hb7.block g lg (by simp; omega)).trans M2.out; have hr7 := (hb7.block _ lr (by simp; omega)).trans M1.out; obtain ⟨c0, c1, c2, f0, f1, f2, hlt⟩ := at_facts hc7; obtain ⟨d0, d1, d2, e0, e1, e2, hlu⟩ := at_facts hr7; have HC7 := Lib.hid hc7; have HR7 := Lib.hid hr7; have HO7 := Lib.hid (M3.out.apart M4.out.1 (by decide) (by decide) hb7); have HD7 := Lib.hid hd7; have HK7 := Lib.hid (show k7 ≤ k + 40 by have := M5.out; omega); have HB7 := Lib.hid (M8.out.next hb7); clear hd7 hk7 hb7 hc7 hr7)
      have hs := But.set g 0 w7 (.int .i64 (r7 : Int))
      exact bodyPost_ret (gnRes1 rfl _ _ w _ _ _ rfl (at_set ((hs.block _ (Array.getElem?_eq_some_iff.1 HR7.out).1 (by simp; omega)).trans HR7.out))) rfl (HF.out _ (r7 : Int) t aq cq k7 n ((hs.block _ (Array.getElem?_eq_some_iff.1 HR7.out).1 (by simp; omega)).trans HR7.out) (HO7.out.apart HC7.out (by decide) (by decide) hs) (HD7.out.grown hs (fun j e => by obtain rfl := Option.some.inj e; exact hpg)) HK7.out M6.out M7.out (HB7.out.fresh hs (by omega)))
    · obtain ⟨r0, r1, r2⟩ := hrr
      have y0 : ((r : Int) == 0) = false := beq_eq_false_iff_ne.2 (by omega)
      have y1 : ((r : Int) == 1) = false := beq_eq_false_iff_ne.2 (by omega)
      have y2 : ((r : Int) == 2) = false := beq_eq_false_iff_ne.2 (by omega)
      clear r0 r1 r2
      obtain ⟨c0, c1, c2, f0, f1, f2, hlt⟩ := at_facts M2.out
      obtain ⟨d0, d1, d2, e0, e1, e2, hlu⟩ := at_facts M1.out
      go_wp2_with fail
      exact bodyPost_ret (gnRes1 rfl _ _ w _ _ _ rfl (at_set M1.out)) rfl (HF.out _ q t aq cq k6 n M1.out M3.out M4.out (by have := M5.out; omega) M6.out M7.out M8.out)
end Go.Proofs.YtkiniledfcdgjaaGreatDoor
namespace Go.Proofs.YtkiniledfcdgjaaGreatDoor
open Go.RowKit

/-- What Parse answers. -/
noncomputable def prsErr (x : ByteArray) : Nat := match prsN x with | none => 32 | some n => chkN n
noncomputable def prsV (x : ByteArray) : Nm := if prsErr x = 0 then (prsN x).getD [] else []
theorem allO_mem {β γ : Type} {f : β → Option γ} : ∀ {l : List β} {m : List γ}, allO f l = some m → m.length = l.length ∧ ∀ i (h : i < m.length), ∃ x ∈ l, f x = some m[i]
  | [], m, h => by
    obtain rfl : [] = m := by simpa [allO] using h
    exact ⟨rfl, fun i hi => absurd hi (Nat.not_lt_zero _)⟩
  | x :: r, m, h => by
    unfold allO at h
    cases hx : f x with
    | none => rw [hx] at h; cases h
    | some y =>
      rw [hx] at h
      cases hr : allO f r with
      | none => rw [hr] at h; cases h
      | some l =>
        rw [hr] at h
        obtain rfl : y :: l = m := by simpa using h
        obtain ⟨h1, h2⟩ := allO_mem hr
        refine ⟨by simp [h1], fun i hi => ?_⟩
        cases i with
        | zero => exact ⟨x, by simp, hx⟩
        | succ i =>
          obtain ⟨z, hz, e⟩ := h2 i (by simpa using hi)
          exact ⟨z, by simp [hz], by simpa using e⟩
theorem prsA_small {x : ByteArray} {a : At} (h : prsA x = some a) (hx : x.size ≤ 100000) : SmallA a := by
  unfold prsA at h
  rcases index_cases x.data.toList 61 with ⟨hi, _⟩ | ⟨i, hi, hl⟩
  · rw [if_pos hi] at h; cases h
  · rw [hi, if_neg (by omega)] at h
    obtain ⟨wd, hwd⟩ : ∃ wd, wd = x.extract 0 (i : Int).toNat := ⟨_, rfl⟩
    obtain ⟨rs, hrs⟩ : ∃ rs, rs = x.extract ((i : Int).toNat + 1) x.size := ⟨_, rfl⟩
    have hw2 : wd.size ≤ 100000 := by rw [hwd, ByteArray.size_extract]; omega
    have hr2 : rs.size ≤ 100000 := by rw [hrs, ByteArray.size_extract]; omega
    rw [← hwd, ← hrs] at h
    obtain ⟨⟨id, kn⟩, hty⟩ : ∃ p, typ wd = p := ⟨_, rfl⟩
    have hts := typ_size wd
    rw [hty] at h hts
    cases hu : uneO rs.data.toList with
    | none => rw [hu] at h; cases kn <;> cases h
    | some v =>
      have hvs : v.size ≤ rs.size := uneO_size hu
      rw [hu] at h
      cases kn with
      | false => cases h
      | true =>
        obtain rfl : (id, kindV id v, v) = a := by simpa using h
        exact ⟨by show id.size ≤ _; have : id.size ≤ wd.size + 40 := hts; omega, by show v.size ≤ _; omega⟩
theorem pieces_mem {c : UInt8} {x s : ByteArray} (h : s ∈ pcsS c x) : s.size ≤ x.size := by
  obtain ⟨k, hk, rfl⟩ := List.mem_iff_getElem.1 h
  have := pieces_size c x k hk
  rwa [List.getD_eq_getElem?_getD, List.getElem?_eq_getElem hk] at this
theorem getD_mem {α : Type} {l : List α} {i : Nat} (h : i < l.length) (d : α) : l.getD i d = l[i] := by rw [List.getD_eq_getElem?_getD, List.getElem?_eq_getElem h]; rfl
theorem prsR_small {x : ByteArray} {r : List At} (h : prsR x = some r) (hx : x.size ≤ 100000) : SmallR r := by
  obtain ⟨h1, h2⟩ := allO_mem h
  have hcl := count_le x 43
  refine ⟨by rw [h1, pcsS_len]; omega, fun i hi => ?_⟩
  obtain ⟨s, hs, e⟩ := h2 i hi
  rw [getD_mem hi]
  exact prsA_small e (Nat.le_trans (pieces_mem hs) hx)
theorem prsN_small {x : ByteArray} {n : Nm} (h : prsN x = some n) (hx : x.size ≤ 100000) : SmallN n := by
  unfold prsN at h
  by_cases h0 : x.size = 0
  · rw [if_pos h0] at h
    obtain rfl := Option.some.inj h
    exact ⟨by simp, fun i hi => absurd hi (Nat.not_lt_zero _)⟩
  · rw [if_neg h0] at h
    obtain ⟨h1, h2⟩ := allO_mem h
    have hcl := count_le x 44
    refine ⟨by rw [h1, pcsS_len]; omega, fun i hi => ?_⟩
    obtain ⟨s, hs, e⟩ := h2 i hi
    rw [getD_mem hi]
    exact prsR_small e (Nat.le_trans (pieces_mem hs) hx)

end Go.Proofs.YtkiniledfcdgjaaGreatDoor
namespace Go.Proofs.YtkiniledfcdgjaaGreatDoor
open Go.RowKit

theorem dd1 {n : Nat} (h : n < 10) : Lib.decDigits n = [UInt8.ofNat (48 + n)] := Lib.decDigits_one h
theorem dd2 {n : Nat} (h1 : ¬ n < 10) (h2 : n < 100) : Lib.decDigits n = [UInt8.ofNat (48 + n / 10), UInt8.ofNat (48 + n % 10)] := Lib.decDigits_two h1 h2
theorem oid_cn : Oid [50, 46, 53, 46, 52, 46, 51] [2, 5, 4, 3] := by
  refine ⟨⟨by decide, by decide, by decide, by decide, by decide⟩, ?_⟩
  simp only [cat, fdot]
  rw [dd1 (n := 2) (by omega), dd1 (n := 5) (by omega), dd1 (n := 4) (by omega), dd1 (n := 3) (by omega)]
  rfl
theorem oid_o : Oid [50, 46, 53, 46, 52, 46, 49, 48] [2, 5, 4, 10] := by
  refine ⟨⟨by decide, by decide, by decide, by decide, by decide⟩, ?_⟩
  simp only [cat, fdot]
  rw [dd1 (n := 2) (by omega), dd1 (n := 5) (by omega), dd1 (n := 4) (by omega), dd2 (n := 10) (by omega) (by omega)]
  rfl
def cnB : ByteArray := ⟨#[50, 46, 53, 46, 52, 46, 51]⟩
def oB : ByteArray := ⟨#[50, 46, 53, 46, 52, 46, 49, 48]⟩
theorem prsA_eq {x wd rs v id : ByteArray} {i : Nat} (hi : Lib.indexByte x.data.toList 61 = (i : Int)) (h1 : x.extract 0 i = wd) (h2 : x.extract (i + 1) x.size = rs) (ht : typ wd = (id, true)) (hv : escL v.data.toList = rs.data.toList) :
    prsA x = some (id, kindV id v, v) := by
  unfold prsA
  rw [hi, if_neg (by omega)]
  show (match typ (x.extract 0 i), uneO (x.extract (i + 1) x.size).data.toList with | (id, true), some v => some (id, kindV id v, v) | _, _ => none) = _
  rw [h1, h2, ht, une_some hv]
theorem typ_cn : typ ⟨#[67, 78]⟩ = (cnB, true) := typ_hit 0 (by omega) (fun j hj => absurd hj (Nat.not_lt_zero _)) rfl
theorem typ_o : typ ⟨#[79]⟩ = (oB, true) := typ_hit 3 (by omega) (by decide) rfl
theorem prs_a1 : prsA ⟨#[67, 78, 61, 87, 101, 98, 32, 83, 101, 114, 118, 101, 114]⟩ = some (cnB, 19, ⟨#[87, 101, 98, 32, 83, 101, 114, 118, 101, 114]⟩) := by
  have h := prsA_eq (x := ⟨#[67, 78, 61, 87, 101, 98, 32, 83, 101, 114, 118, 101, 114]⟩) (wd := ⟨#[67, 78]⟩) (rs := ⟨#[87, 101, 98, 32, 83, 101, 114, 118, 101, 114]⟩) (v := ⟨#[87, 101, 98, 32, 83, 101, 114, 118, 101, 114]⟩) (i := 2) (by decide +kernel) (by decide +kernel) (by decide +kernel) typ_cn (by decide +kernel)
  rw [show kindV cnB ⟨#[87, 101, 98, 32, 83, 101, 114, 118, 101, 114]⟩ = 19 by decide +kernel] at h
  exact h
theorem prs_a2 : prsA ⟨#[79, 61, 69, 120, 97, 109, 112, 108, 101]⟩ = some (oB, 19, ⟨#[69, 120, 97, 109, 112, 108, 101]⟩) := by
  have h := prsA_eq (x := ⟨#[79, 61, 69, 120, 97, 109, 112, 108, 101]⟩) (wd := ⟨#[79]⟩) (rs := ⟨#[69, 120, 97, 109, 112, 108, 101]⟩) (v := ⟨#[69, 120, 97, 109, 112, 108, 101]⟩) (i := 1) (by decide +kernel) (by decide +kernel) (by decide +kernel) typ_o (by decide +kernel)
  rw [show kindV oB ⟨#[69, 120, 97, 109, 112, 108, 101]⟩ = 19 by decide +kernel] at h
  exact h
theorem prs_b1 : prsA ⟨#[67, 78, 61, 119, 101, 98, 32, 32, 115, 101, 114, 118, 101, 114]⟩ = some (cnB, 19, ⟨#[119, 101, 98, 32, 32, 115, 101, 114, 118, 101, 114]⟩) := by
  have h := prsA_eq (x := ⟨#[67, 78, 61, 119, 101, 98, 32, 32, 115, 101, 114, 118, 101, 114]⟩) (wd := ⟨#[67, 78]⟩) (rs := ⟨#[119, 101, 98, 32, 32, 115, 101, 114, 118, 101, 114]⟩) (v := ⟨#[119, 101, 98, 32, 32, 115, 101, 114, 118, 101, 114]⟩) (i := 2) (by decide +kernel) (by decide +kernel) (by decide +kernel) typ_cn (by decide +kernel)
  rw [show kindV cnB ⟨#[119, 101, 98, 32, 32, 115, 101, 114, 118, 101, 114]⟩ = 19 by decide +kernel] at h
  exact h
theorem prs_b2 : prsA ⟨#[79, 61, 69, 88, 65, 77, 80, 76, 69]⟩ = some (oB, 19, ⟨#[69, 88, 65, 77, 80, 76, 69]⟩) := by
  have h := prsA_eq (x := ⟨#[79, 61, 69, 88, 65, 77, 80, 76, 69]⟩) (wd := ⟨#[79]⟩) (rs := ⟨#[69, 88, 65, 77, 80, 76, 69]⟩) (v := ⟨#[69, 88, 65, 77, 80, 76, 69]⟩) (i := 1) (by decide +kernel) (by decide +kernel) (by decide +kernel) typ_o (by decide +kernel)
  rw [show kindV oB ⟨#[69, 88, 65, 77, 80, 76, 69]⟩ = 19 by decide +kernel] at h
  exact h
def nm_a : Nm := [[(cnB, 19, ⟨#[87, 101, 98, 32, 83, 101, 114, 118, 101, 114]⟩)], [(oB, 19, ⟨#[69, 120, 97, 109, 112, 108, 101]⟩)]]
theorem prsN_a : prsN ⟨#[67, 78, 61, 87, 101, 98, 32, 83, 101, 114, 118, 101, 114, 44, 79, 61, 69, 120, 97, 109, 112, 108, 101]⟩ = some nm_a := by
  unfold prsN
  rw [if_neg (by decide), show pcsS 44 ⟨#[67, 78, 61, 87, 101, 98, 32, 83, 101, 114, 118, 101, 114, 44, 79, 61, 69, 120, 97, 109, 112, 108, 101]⟩ = [⟨#[67, 78, 61, 87, 101, 98, 32, 83, 101, 114, 118, 101, 114]⟩, ⟨#[79, 61, 69, 120, 97, 109, 112, 108, 101]⟩] by decide +kernel]
  unfold allO allO allO
  rw [show prsR ⟨#[67, 78, 61, 87, 101, 98, 32, 83, 101, 114, 118, 101, 114]⟩ = some [(cnB, 19, ⟨#[87, 101, 98, 32, 83, 101, 114, 118, 101, 114]⟩)] by unfold prsR; rw [show pcsS 43 ⟨#[67, 78, 61, 87, 101, 98, 32, 83, 101, 114, 118, 101, 114]⟩ = [⟨#[67, 78, 61, 87, 101, 98, 32, 83, 101, 114, 118, 101, 114]⟩] by decide +kernel]; unfold allO allO; rw [prs_a1]]
  rw [show prsR ⟨#[79, 61, 69, 120, 97, 109, 112, 108, 101]⟩ = some [(oB, 19, ⟨#[69, 120, 97, 109, 112, 108, 101]⟩)] by unfold prsR; rw [show pcsS 43 ⟨#[79, 61, 69, 120, 97, 109, 112, 108, 101]⟩ = [⟨#[79, 61, 69, 120, 97, 109, 112, 108, 101]⟩] by decide +kernel]; unfold allO allO; rw [prs_a2]]
  rfl
theorem chk_a : chkN nm_a = 0 := by
  have h1 : chkR [(cnB, 19, (⟨#[87, 101, 98, 32, 83, 101, 114, 118, 101, 114]⟩ : ByteArray))] = 0 := by
    unfold chkR chkL
    have e : chkA [] (cnB, 19, (⟨#[87, 101, 98, 32, 83, 101, 114, 118, 101, 114]⟩ : ByteArray)) = 0 := by
      unfold chkA
      rw [show oidB cnB = true from oidB_yes oid_cn]
      decide +kernel
    rw [e]; rfl
  have h2 : chkR [(oB, 19, (⟨#[69, 120, 97, 109, 112, 108, 101]⟩ : ByteArray))] = 0 := by
    unfold chkR chkL
    have e : chkA [] (oB, 19, (⟨#[69, 120, 97, 109, 112, 108, 101]⟩ : ByteArray)) = 0 := by
      unfold chkA
      rw [show oidB oB = true from oidB_yes oid_o]
      decide +kernel
    rw [e]; rfl
  show chkRs nm_a = 0
  unfold nm_a chkRs
  rw [h1]
  show chkRs [_] = 0
  unfold chkRs
  rw [h2]
  rfl
theorem small_a : SmallN nm_a := by
  refine ⟨by decide, fun i hi => ?_⟩
  have hi2 : i < 2 := hi
  rcases (by omega : i = 0 ∨ i = 1) with rfl | rfl
  · exact ⟨by decide, fun j hj => by
      have hj1 : j < 1 := hj
      obtain rfl : j = 0 := by omega
      exact ⟨by decide, by decide⟩⟩
  · exact ⟨by decide, fun j hj => by
      have hj1 : j < 1 := hj
      obtain rfl : j = 0 := by omega
      exact ⟨by decide, by decide⟩⟩
def nm_b : Nm := [[(cnB, 19, ⟨#[119, 101, 98, 32, 32, 115, 101, 114, 118, 101, 114]⟩)], [(oB, 19, ⟨#[69, 88, 65, 77, 80, 76, 69]⟩)]]
theorem prsN_b : prsN ⟨#[67, 78, 61, 119, 101, 98, 32, 32, 115, 101, 114, 118, 101, 114, 44, 79, 61, 69, 88, 65, 77, 80, 76, 69]⟩ = some nm_b := by
  unfold prsN
  rw [if_neg (by decide), show pcsS 44 ⟨#[67, 78, 61, 119, 101, 98, 32, 32, 115, 101, 114, 118, 101, 114, 44, 79, 61, 69, 88, 65, 77, 80, 76, 69]⟩ = [⟨#[67, 78, 61, 119, 101, 98, 32, 32, 115, 101, 114, 118, 101, 114]⟩, ⟨#[79, 61, 69, 88, 65, 77, 80, 76, 69]⟩] by decide +kernel]
  unfold allO allO allO
  rw [show prsR ⟨#[67, 78, 61, 119, 101, 98, 32, 32, 115, 101, 114, 118, 101, 114]⟩ = some [(cnB, 19, ⟨#[119, 101, 98, 32, 32, 115, 101, 114, 118, 101, 114]⟩)] by unfold prsR; rw [show pcsS 43 ⟨#[67, 78, 61, 119, 101, 98, 32, 32, 115, 101, 114, 118, 101, 114]⟩ = [⟨#[67, 78, 61, 119, 101, 98, 32, 32, 115, 101, 114, 118, 101, 114]⟩] by decide +kernel]; unfold allO allO; rw [prs_b1]]
  rw [show prsR ⟨#[79, 61, 69, 88, 65, 77, 80, 76, 69]⟩ = some [(oB, 19, ⟨#[69, 88, 65, 77, 80, 76, 69]⟩)] by unfold prsR; rw [show pcsS 43 ⟨#[79, 61, 69, 88, 65, 77, 80, 76, 69]⟩ = [⟨#[79, 61, 69, 88, 65, 77, 80, 76, 69]⟩] by decide +kernel]; unfold allO allO; rw [prs_b2]]
  rfl
theorem chk_b : chkN nm_b = 0 := by
  have h1 : chkR [(cnB, 19, (⟨#[119, 101, 98, 32, 32, 115, 101, 114, 118, 101, 114]⟩ : ByteArray))] = 0 := by
    unfold chkR chkL
    have e : chkA [] (cnB, 19, (⟨#[119, 101, 98, 32, 32, 115, 101, 114, 118, 101, 114]⟩ : ByteArray)) = 0 := by
      unfold chkA
      rw [show oidB cnB = true from oidB_yes oid_cn]
      decide +kernel
    rw [e]; rfl
  have h2 : chkR [(oB, 19, (⟨#[69, 88, 65, 77, 80, 76, 69]⟩ : ByteArray))] = 0 := by
    unfold chkR chkL
    have e : chkA [] (oB, 19, (⟨#[69, 88, 65, 77, 80, 76, 69]⟩ : ByteArray)) = 0 := by
      unfold chkA
      rw [show oidB oB = true from oidB_yes oid_o]
      decide +kernel
    rw [e]; rfl
  show chkRs nm_b = 0
  unfold nm_b chkRs
  rw [h1]
  show chkRs [_] = 0
  unfold chkRs
  rw [h2]
  rfl
theorem small_b : SmallN nm_b := by
  refine ⟨by decide, fun i hi => ?_⟩
  have hi2 : i < 2 := hi
  rcases (by omega : i = 0 ∨ i = 1) with rfl | rfl
  · exact ⟨by decide, fun j hj => by
      have hj1 : j < 1 := hj
      obtain rfl : j = 0 := by omega
      exact ⟨by decide, by decide⟩⟩
  · exact ⟨by decide, fun j hj => by
      have hj1 : j < 1 := hj
      obtain rfl : j = 0 := by omega
      exact ⟨by decide, by decide⟩⟩
theorem match_ab : decide (MatchN nm_a nm_b) = true := by decide +kernel
theorem match_a0 : decide (MatchN nm_a []) = false := by decide +kernel
theorem small_nil : SmallN [] := ⟨by decide, fun i hi => absurd hi (Nat.not_lt_zero _)⟩

end Go.Proofs.YtkiniledfcdgjaaGreatDoor
namespace Go.Proofs.YtkiniledfcdgjaaGreatDoor
open Go.RowKit

/-- A name of a call's own, in block q. -/
def Held (w : World) (q lo : Nat) (n : Nm) : Prop := ∃ s, w.heap[q]? = some (.cells #[s] 24 (0, 0)) ∧ OwnN w lo s n
theorem Held.but {w w' : World} {p q lo : Nat} {n : Nm} (h : Held w q lo n) (hb : But p w w') (hq : p ≠ q) (hl : p < lo) : Held w' q lo n := by
  obtain ⟨s, h1, h2⟩ := h
  exact ⟨s, (hb.block q (Array.getElem?_eq_some_iff.1 h1).1 (by simp; omega)).trans h1, h2.but hb hl⟩
theorem next_up (p : Nat) (a : Option Addr) (cap : Nat) (zs : List Int) (k N : Nat) (w : World) (h : DeckAt w p a cap zs k) (hk : k < 1000) (hN : N ≤ 1000) :
    Calls Tryz.prog 22 #[.pointer (some ⟨p, 0, none⟩), .int .i64 ((N : Int) + 1)] w fun e w' => ∃ r k' : Nat, r < N + 1 ∧ e = .returned (.int .i64 (r : Int)) ∧ DeckAt w' p a cap zs k' ∧ k' ≤ k + 1 ∧ But p w w' :=
  next_any p a cap zs k (N + 1) w h hk (by omega) (by omega)
theorem deck_up {w : World} {p : Nat} {a : Option Addr} {cap : Nat} {zs : List Int} {k : Nat} (h : DeckAt w p a cap zs k) : DeckAt w.drew p a cap zs k := h.below (Below.refl _ w).drew
theorem spN_of_made {n : Nm} (h : MadeN n) : SpN 20 n := by
  refine ⟨h.1, fun r hr => ⟨(h.2 r hr).1.1, fun x hx => ?_⟩⟩
  have hm := (h.2 r hr).1.2.1 x hx
  have hall : ∀ y ∈ madeL, y.1.size ≤ 100 ∧ y.2.2.size ≤ 20 := by decide
  exact hall x hm
theorem small_of_sp {L : Nat} {n : Nm} (h : SpN L n) (hL : L ≤ 1000) : SmallN n := by
  refine ⟨Nat.le_trans h.1 (by omega), fun i hi => ?_⟩
  have hr := h.2 _ (getD_memS n i hi [])
  refine ⟨Nat.le_trans hr.1 (by omega), fun j hj => ?_⟩
  have hx := hr.2 _ (getD_memS _ j hj noAt)
  exact ⟨Nat.le_trans hx.1 (by omega), Nat.le_trans hx.2 (by omega)⟩

/-- A name that can be read: its slice lies in block q. -/
def HoldAt (V : World) (q : Nat) (a : Option Addr) (N c : Nat) (n : Nm) : Prop := V.cell? ⟨q, 0, none⟩ = some (.slice a N c) ∧ N = n.length ∧ N ≤ c ∧ RLies V a n ∧ SmallN n
theorem Held.open {w : World} {q lo L : Nat} {n : Nm} (h : Held w q lo n) (hs : SpN L n) (hL : L ≤ 1000) : ∃ a N c, HoldAt w q a N c n := by
  obtain ⟨s, h1, h2⟩ := h
  obtain ⟨a, c, rfl, hc, hl⟩ := h2.lies
  exact ⟨a, n.length, c, (one_facts h1).1, rfl, hc, hl, small_of_sp hs hL⟩
theorem HoldAt.below {w w' : World} {q N c : Nat} {a : Option Addr} {n : Nm} (h : HoldAt w q a N c n) (hb : Below w.heap.size w w') : HoldAt w' q a N c n :=
  ⟨(hb.cell (p := ⟨q, 0, none⟩) (block_lt h.1)).trans h.1, h.2.1, h.2.2.1, h.2.2.2.1.below hb, h.2.2.2.2⟩
theorem hold_match {V : World} {q1 N1 c1 q2 N2 c2 : Nat} {a1 a2 : Option Addr} {n1 n2 : Nm} (h1 : HoldAt V q1 a1 N1 c1 n1) (h2 : HoldAt V q2 a2 N2 c2 n2) (v : Bool) (hv : decide (MatchN n1 n2) = v) (d : Nat) (os : Array Obj) :
    Calls Tryz.prog 42 #[.agg #[.slice a1 N1 c1], .agg #[.slice a2 N2 c2]] (Sort.grow (redrawn V d) os) fun e w'' => e = .returned (.bool v) ∧ ∃ p : Regrown, w'' = Sort.grow (redrawn V p.d) p.os := by
  refine Calls.regrown_of ?_
  rw [← hv]
  exact match_core a1 a2 c1 c2 N1 N2 n1 n2 _ (h1.2.2.2.1.below (below_regrown V d os)) (h2.2.2.2.1.below (below_regrown V d os)) h1.2.1 h2.2.1 h1.2.2.2.2 h2.2.2.2.2
end Go.Proofs.YtkiniledfcdgjaaGreatDoor
