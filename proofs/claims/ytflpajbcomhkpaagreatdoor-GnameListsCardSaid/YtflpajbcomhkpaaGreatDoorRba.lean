/-
  A field of a general name that a call has returned.
  The contract of the law's some: a general name of the generators, perhaps with a field of another one.
  A row of attributes grows by one that has just been made. Nothing is claimed of the program here.
  The contract of the reference's Dec: the decimal digits of a number.
  The contract of the law's function id: the text of a good list of numbers that is made of the given ones.
  The contract of oid.Decode: the object identifier with these contents, if there is one.
-/
import Derived.Test.YtflpajbcomhkpaaGreatDoorRaz
import Derived.Deep.CutRange
import Derived.Deep.DeepCutAuto
import Derived.Test.YtflpajbcomhkpaaGreatDoorRam
import Derived.Test.YtflpajbcomhkpaaGreatDoorRaa
import Derived.Test.YtflpajbcomhkpaaGreatDoorRap
import Derived.Lib.ItoaLen
namespace Go.Proofs.YtflpajbcomhkpaaGreatDoor
open Go.RowKit

set_option maxRecDepth 100000 in
theorem gfield1 (q : Int) (t : ByteArray) (a : Option Addr) (n c : Nat) (w : World) : (Instr.field 32 (.agg #[.int .i64 q, .string t, .slice a n c]) 1).run Tryz.prog w = .ok (.string t) w := by
  show (Instr.field 32 (.agg #[.int .i64 q, .string t, .slice a n c]) 1).run Tryz.prog w = .ok (.string t) w
  kernel_rfl
end Go.Proofs.YtflpajbcomhkpaaGreatDoor
namespace Go.Proofs.YtflpajbcomhkpaaGreatDoor
open Go.RowKit

theorem gen_len {q : Int} {t : List UInt8} {n : Nm} (h : GenOk q t n) : t.length ≤ 64 ∧ MadeN n := by
  have m0 : MadeN [] := ⟨by decide, fun r hr => by cases hr⟩
  rcases h with ⟨_, h, rfl⟩ | ⟨_, h, rfl⟩ | ⟨_, h, rfl⟩ | ⟨_, rfl, h⟩
  · exact ⟨(show ∀ t ∈ genMail, t.length ≤ 64 by decide) t h, m0⟩
  · exact ⟨(show ∀ t ∈ genDns, t.length ≤ 64 by decide) t h, m0⟩
  · exact ⟨(show ∀ t ∈ genAddr, t.length ≤ 64 by decide) t h, m0⟩
  · exact ⟨by decide, h⟩
theorem bse_len {q : Int} {t : List UInt8} {n : Nm} (h : BseOk q t n) : t.length ≤ 64 ∧ MadeN n := by
  have m0 : MadeN [] := ⟨by decide, fun r hr => by cases hr⟩
  rcases h with ⟨_, h, rfl⟩ | ⟨_, h, rfl⟩ | ⟨_, h, rfl⟩ | ⟨_, rfl, h⟩
  · exact ⟨(show ∀ t ∈ bseMail, t.length ≤ 64 by decide) t h, m0⟩
  · exact ⟨(show ∀ t ∈ bseDns, t.length ≤ 64 by decide) t h, m0⟩
  · exact ⟨(show ∀ t ∈ bseAddr, t.length ≤ 64 by decide) t h, m0⟩
  · exact ⟨by decide, h⟩
theorem next2 (p : Nat) (a : Option Addr) (cap : Nat) (zs : List Int) (k : Nat) (w : World) (h : DeckAt w p a cap zs k) (hk2 : k < 1000) :
    Calls Tryz.prog 11 #[.pointer (some ⟨p, 0, none⟩), .int .i64 2] w fun e w' => ∃ r k' : Nat, r < 2 ∧ e = .returned (.int .i64 (r : Int)) ∧ DeckAt w' p a cap zs k' ∧ k' ≤ k + 1 ∧ But p w w' :=
  next_any p a cap zs k 2 w h hk2 (by omega) (by omega)
theorem next12 (p : Nat) (a : Option Addr) (cap : Nat) (zs : List Int) (k : Nat) (w : World) (h : DeckAt w p a cap zs k) (hk2 : k < 1000) :
    Calls Tryz.prog 11 #[.pointer (some ⟨p, 0, none⟩), .int .i64 12] w fun e w' => ∃ r k' : Nat, r < 12 ∧ e = .returned (.int .i64 (r : Int)) ∧ DeckAt w' p a cap zs k' ∧ k' ≤ k + 1 ∧ But p w w' :=
  next_any p a cap zs k 12 w h hk2 (by omega) (by omega)
theorem next10 (p : Nat) (a : Option Addr) (cap : Nat) (zs : List Int) (k : Nat) (w : World) (h : DeckAt w p a cap zs k) (hk2 : k < 1000) :
    Calls Tryz.prog 11 #[.pointer (some ⟨p, 0, none⟩), .int .i64 10] w fun e w' => ∃ r k' : Nat, r < 10 ∧ e = .returned (.int .i64 (r : Int)) ∧ DeckAt w' p a cap zs k' ∧ k' ≤ k + 1 ∧ But p w w' :=
  next_any p a cap zs k 10 w h hk2 (by omega) (by omega)
/-- A change of one block that is of another type leaves a name as it was. -/
theorem own_apart {w w' : World} {B k n g : Nat} {e T : TypeId} {v : Value} {xs : List Value} {cs : Array Value} {f : Nat × Nat} (h : w.ownsRow B e k v n xs) (hc : w.heap[g]? = some (.cells cs T f)) (hT : T ≠ e) (hg : But g w w') : w'.ownsRow B e k v n xs := by
  refine World.ownsRow.kept h hg ?_
  rcases h.2 with ⟨hv, _⟩ | ⟨b, cap, cur, hv, _, hb, _⟩
  · exact .inl (by rw [hv]; rfl)
  · refine .inr (fun e1 => ?_)
    rw [hv] at e1
    simp [Value.ownBlock] at e1
    subst e1
    rw [hc] at hb
    simp at hb
    exact hT hb.2.1
theorem OwnN.apart {w w' : World} {B g : Nat} {T : TypeId} {v : Value} {n : Nm} {cs : Array Value} {f : Nat × Nat} (h : OwnN w B v n) (hc : w.heap[g]? = some (.cells cs T f)) (h1 : T ≠ 103) (h2 : T ≠ 101) (hg : But g w w') : OwnN w' B v n := by
  obtain ⟨vs, q1, q2, q3⟩ := h
  exact ⟨vs, q1, own_apart q2 hc h2 hg, fun i hi => own_apart (q3 i hi) hc h1 hg⟩
/-- In the middle of some: the result's cell at r, the general name's at g, the deck at p. -/
def Mid (w0 w : World) (p g K : Nat) (a : Option Addr) (cap : Nat) (zs : List Int) : Prop :=
  ∃ (q : Int) (t : List UInt8) (aq : Option Addr) (cq k : Nat) (n : Nm), w.heap[w0.heap.size]? = some (.cells #[.int .i64 0, .string ⟨#[]⟩, .slice none 0 0] 32 (0, 0)) ∧
    w.heap[g]? = some (.cells #[.int .i64 q, .string (strOf t), .slice aq n.length cq] 32 (0, 0)) ∧ OwnN w w0.heap.size (.slice aq n.length cq) n ∧ DeckAt w p a cap zs k ∧ k ≤ K ∧ t.length ≤ 64 ∧ MadeN n ∧ But p w0 w

set_option maxRecDepth 100000 in
set_option maxHeartbeats 8000000 in
theorem some_any (p : Nat) (a : Option Addr) (cap : Nat) (zs : List Int) (k : Nat) (w : World) (h : DeckAt w p a cap zs k) (hk : k ≤ 700) :
    Calls Tryz.prog 9 #[.pointer (some ⟨p, 0, none⟩)] w fun e w' => ∃ (q : Int) (t : List UInt8) (s : Value) (n : Nm) (k' : Nat), t.length ≤ 64 ∧ MadeN n ∧ e = .returned (.agg #[.int .i64 q, .string (strOf t), s]) ∧ OwnN w' w.heap.size s n ∧ DeckAt w' p a cap zs k' ∧ k' ≤ k + 40 ∧ But p w w' := by
  obtain ⟨W1, hW1⟩ : ∃ W1, W1 = w.alloc (.cells #[.int .i64 0, .string ⟨#[]⟩, .slice none 0 0] 32) := ⟨_, rfl⟩
  have hb1 : Below w.heap.size w W1 := by rw [hW1]; exact belowNew w _
  have hc1 : W1.heap[w.heap.size]? = some (.cells #[.int .i64 0, .string ⟨#[]⟩, .slice none 0 0] 32 (0, 0)) := by rw [hW1]; exact heap_alloc_new w _
  have hp := h.lt
  have HN4 := Lib.hid (general_any p a cap zs k W1 (h.below hb1) (by omega))
  have HB1 := Lib.hid (But.of (p := p) hb1)
  have HC1 := Lib.hid hc1
  have l1 := (Array.getElem?_eq_some_iff.1 hc1).1
  have HK := Lib.hid hk
  have HWE := hW1.symm
  clear h hb1 hc1 hW1 hk
  go_enter Tryz.func9, Tryz.ntmps9
  go_upto_region 2 with (go_at_call 19; (with_reducible refine HN4.out.mono ?_); rintro e w2 ⟨q, t, s, n, k2, hG, rfl, hso, hd2, hk2, hb2⟩; obtain ⟨aq, cq, rfl, hcs, _⟩ := hso.lies; clear hcs; have HC2 := Lib.hid ((hb2.block w.heap.size l1 (by simp; omega)).trans HC1.out); have HO2 := Lib.hid (hso.base (Nat.le_of_lt l1)); have HG2 := Lib.hid (gen_len hG); have HD2 := Lib.hid hd2; have HK2 := Lib.hid (show k2 ≤ k + 12 from hk2); have HB2 := Lib.hid (HB1.out.next hb2); have l2 : w.heap.size < w2.heap.size := (Array.getElem?_eq_some_iff.1 HC2.out).1; clear hG hso hd2 hk2 hb2)
  obtain ⟨W3, hW3⟩ : ∃ W3, W3 = w2.alloc (.cells #[.int .i64 q, .string (strOf t), .slice aq n.length cq] 32) := ⟨_, rfl⟩
  have hb3 : Below w2.heap.size w2 W3 := by rw [hW3]; exact belowNew w2 _
  have hc3 : W3.heap[w2.heap.size]? = some (.cells #[.int .i64 q, .string (strOf t), .slice aq n.length cq] 32 (0, 0)) := by rw [hW3]; exact heap_alloc_new w2 _
  obtain ⟨g, hg⟩ : ∃ g, g = w2.heap.size := ⟨_, rfl⟩
  rw [← hW3]
  rw [← hg] at hc3 l2 ⊢
  have hpg : p < g := by omega
  have HM3 := Lib.hid (show Mid w W3 p g (k + 12) a cap zs from ⟨q, t, aq, cq, k2, n, (hb3.block _ (by omega)).trans HC2.out, hc3, HO2.out.below hb3, HD2.out.below hb3, HK2.out, HG2.out.1, HG2.out.2, HB2.out.next (But.of hb3)⟩)
  clear hb3 hc3 hW3 HO2 HG2 HD2 HK2 HB2 HC2 hg l1 HWE
  clear HC1 HB1 HN4
  obtain ⟨q, t, aq, cq, k3, n, m1, m2, m3, m4, m5, m6, m7, m8⟩ := HM3.out
  have HNX := Lib.hid (next2 p a cap zs k3 W3 m4 (by have := HK.out; omega))
  have M1 := Lib.hid m1
  have M2 := Lib.hid m2
  have M3 := Lib.hid m3
  have M5 := Lib.hid m5
  have M6 := Lib.hid m6
  have M7 := Lib.hid m7
  have M8 := Lib.hid m8
  have lg := (Array.getElem?_eq_some_iff.1 m2).1
  have lr := (Array.getElem?_eq_some_iff.1 m1).1
  have MD := Lib.hid m4
  clear m1 m2 m3 m4 m5 m6 m7 m8 HM3
  go_upto_if 8 with (go_at_call 11; (with_reducible refine HNX.out.mono ?_); rintro e w4 ⟨r, k4, hr, rfl, hd4, hk4, hb4⟩; have HM4 := Lib.hid (show Mid w w4 p g (k + 13) a cap zs from ⟨q, t, aq, cq, k4, n, (hb4.block _ lr (by simp; omega)).trans M1.out, (hb4.block _ lg (by simp; omega)).trans M2.out, M3.out.apart MD.out.1 (by decide) (by decide) hb4, hd4, by have := M5.out; omega, M6.out, M7.out, M8.out.next hb4⟩); clear hd4 hk4 hb4)
  clear M1 M2 M3 M5 M6 M7 M8 MD lg lr HNX
  go_cut [8] (fun _ wx => Mid w wx p g (k + 26) a cap zs)
  case first =>
    obtain rfl | rfl : r = 0 ∨ r = 1 := by omega
    · go_wp2_with fail
      go_meet
      obtain ⟨q, t, aq, cq, k3, n, m1, m2, m3, m4, m5, m6, m7, m8⟩ := HM4.out
      exact ⟨q, t, aq, cq, k3, n, m1, m2, m3, m4, by omega, m6, m7, m8⟩
    · obtain ⟨q, t, aq, cq, k3, n, m1, m2, m3, m4, m5, m6, m7, m8⟩ := HM4.out
      have HNX := Lib.hid (base_any_g p a cap zs k3 w4 m4 (by have := HK.out; omega))
      have M1 := Lib.hid m1
      have M2 := Lib.hid m2
      have M5 := Lib.hid m5
      have M8 := Lib.hid m8
      have lg := (Array.getElem?_eq_some_iff.1 m2).1
      have lr := (Array.getElem?_eq_some_iff.1 m1).1
      clear m1 m2 m3 m4 m5 m6 m7 m8 HM4
      go_wp2_with (go_at_call 29; (with_reducible refine HNX.out.mono ?_); rintro e w5 ⟨q5, t5, s5, n5, k5, hG, rfl, hso, hd5, hk5, hb5⟩; obtain ⟨a5, c5, rfl, hcs, _⟩ := hso.lies; clear hcs; have hc5 := (hb5.block g lg (by simp; omega)).trans M2.out; obtain ⟨c0, c1, c2, f0, f1, f2, hlt⟩ := at_facts hc5; have HC5 := Lib.hid hc5; have HR5 := Lib.hid ((hb5.block _ lr (by simp; omega)).trans M1.out); have HO5 := Lib.hid (hso.base (Nat.le_of_lt lr)); have HG5 := Lib.hid (bse_len hG); have HD5 := Lib.hid hd5; have HK5 := Lib.hid (show k5 ≤ k + 25 by have := M5.out; omega); have HB5 := Lib.hid (M8.out.next hb5); clear hG hso hd5 hk5 hb5 hc5)
      go_meet
      have hs := ((But.set g 0 w5 (.int .i64 q5)).next (But.set g 1 _ (.string (strOf t5)))).next (But.set g 2 _ (.slice a5 n5.length c5))
      exact ⟨q5, t5, a5, c5, k5, n5, (hs.block _ (Array.getElem?_eq_some_iff.1 HR5.out).1 (by simp; omega)).trans HR5.out, at_set HC5.out, HO5.out.apart HC5.out (by decide) (by decide) hs, HD5.out.grown hs (fun j e => by obtain rfl := Option.some.inj e; exact hpg), by have := HK5.out; omega, HG5.out.1, HG5.out.2, HB5.out.fresh hs (by omega)⟩
  case rest =>
    have HM5 := Lib.hid hcut
    clear hcut HM4 hr
    obtain ⟨q, t, aq, cq, k3, n, m1, m2, m3, m4, m5, m6, m7, m8⟩ := HM5.out
    have HNX := Lib.hid (next12 p a cap zs k3 wc m4 (by have := HK.out; omega))
    have M1 := Lib.hid m1
    have M2 := Lib.hid m2
    have M3 := Lib.hid m3
    have M5 := Lib.hid m5
    have M6 := Lib.hid m6
    have M7 := Lib.hid m7
    have M8 := Lib.hid m8
    have lg := (Array.getElem?_eq_some_iff.1 m2).1
    have lr := (Array.getElem?_eq_some_iff.1 m1).1
    have MD := Lib.hid m4
    clear m1 m2 m3 m4 m5 m6 m7 m8 HM5
    go_upto_region 5 with (go_at_call 11; (with_reducible refine HNX.out.mono ?_); rintro e w6 ⟨r, k6, hr, rfl, hd6, hk6, hb6⟩; have HM6 := Lib.hid (show Mid w w6 p g (k + 27) a cap zs from ⟨q, t, aq, cq, k6, n, (hb6.block _ lr (by simp; omega)).trans M1.out, (hb6.block _ lg (by simp; omega)).trans M2.out, M3.out.apart MD.out.1 (by decide) (by decide) hb6, hd6, by have := M5.out; omega, M6.out, M7.out, M8.out.next hb6⟩); clear hd6 hk6 hb6)
    clear M1 M2 M3 M5 M6 M7 M8 MD lg lr HNX
    obtain ⟨q, t, aq, cq, k6, n, m1, m2, m3, m4, m5, m6, m7, m8⟩ := HM6.out
    have M1 := Lib.hid m1
    have M2 := Lib.hid m2
    have M3 := Lib.hid m3
    have M4 := Lib.hid m4
    have M5 := Lib.hid m5
    have M6 := Lib.hid m6
    have M7 := Lib.hid m7
    have M8 := Lib.hid m8
    have lg := (Array.getElem?_eq_some_iff.1 m2).1
    have lr := (Array.getElem?_eq_some_iff.1 m1).1
    clear m1 m2 m3 m4 m5 m6 m7 m8 HM6
    have fin : ∀ (w9 : World) (q : Int) (t : List UInt8) (aq : Option Addr) (cq k9 : Nat) (n : Nm), w9.heap[w.heap.size]? = some (.cells #[.int .i64 0, .string ⟨#[]⟩, .slice none 0 0] 32 (0, 0)) → OwnN w9 w.heap.size (.slice aq n.length cq) n → DeckAt w9 p a cap zs k9 → k9 ≤ k + 40 → t.length ≤ 64 → MadeN n → But p w w9 →
        ∃ (q' : Int) (t' : List UInt8) (s : Value) (n' : Nm) (k' : Nat), t'.length ≤ 64 ∧ MadeN n' ∧ Ending.returned (.agg #[.int .i64 q, .string (strOf t), .slice aq n.length cq]) = .returned (.agg #[.int .i64 q', .string (strOf t'), s]) ∧ OwnN (((w9.setCell ⟨w.heap.size, 0, none⟩ (.int .i64 q)).setCell ⟨w.heap.size, 1, none⟩ (.string (strOf t))).setCell ⟨w.heap.size, 2, none⟩ (.slice aq n.length cq)) w.heap.size s n' ∧ DeckAt (((w9.setCell ⟨w.heap.size, 0, none⟩ (.int .i64 q)).setCell ⟨w.heap.size, 1, none⟩ (.string (strOf t))).setCell ⟨w.heap.size, 2, none⟩ (.slice aq n.length cq)) p a cap zs k' ∧ k' ≤ k + 40 ∧ But p w (((w9.setCell ⟨w.heap.size, 0, none⟩ (.int .i64 q)).setCell ⟨w.heap.size, 1, none⟩ (.string (strOf t))).setCell ⟨w.heap.size, 2, none⟩ (.slice aq n.length cq)) := by
      intro w9 q t aq cq k9 n h1 h2 h3 h4 h5 h6 h7
      have hs := ((But.set w.heap.size 0 w9 (.int .i64 q)).next (But.set w.heap.size 1 _ (.string (strOf t)))).next (But.set w.heap.size 2 _ (.slice aq n.length cq))
      exact ⟨q, t, _, n, k9, h5, h6, rfl, h2.apart h1 (by decide) (by decide) hs, h3.grown hs (fun j e => by obtain rfl := Option.some.inj e; exact hp), h4, h7.fresh hs (Nat.le_refl _)⟩
    have HF := Lib.hid fin
    clear fin
    rcases (show r = 0 ∨ r = 1 ∨ r = 2 ∨ (r ≠ 0 ∧ r ≠ 1 ∧ r ≠ 2) by omega) with rfl | rfl | rfl | hrr
    · have HNX := Lib.hid (general_any p a cap zs k6 w6 M4.out (by have := HK.out; have := M5.out; omega))
      go_wp2_with (go_at_call 19; (with_reducible refine HNX.out.mono ?_); rintro e w7 ⟨q7, t7, s7, n7, k7, hG, rfl, hso, hd7, hk7, hb7⟩; obtain ⟨a7, c7, rfl, _, _⟩ := hso.lies; clear hso; have hfd := fun w => gfield1 q7 (strOf t7) a7 n7.length c7 w; have hc7 := (hb7.block g lg (by simp; omega)).trans M2.out; have hr7 := (hb7.block _ lr (by simp; omega)).trans M1.out; obtain ⟨c0, c1, c2, f0, f1, f2, hlt⟩ := at_facts hc7; obtain ⟨d0, d1, d2, e0, e1, e2, hlu⟩ := at_facts hr7; have HC7 := Lib.hid hc7; have HR7 := Lib.hid hr7; have HO7 := Lib.hid (M3.out.apart M4.out.1 (by decide) (by decide) hb7); have HG7 := Lib.hid (gen_len hG); have HD7 := Lib.hid hd7; have HK7 := Lib.hid (show k7 ≤ k + 40 by have := M5.out; omega); have HB7 := Lib.hid (M8.out.next hb7); clear hG hd7 hk7 hb7 hc7 hr7)
      have hs := But.set g 1 w7 (.string (strOf t7))
      exact bodyPost_ret (gnRes1 rfl _ _ w _ _ _ rfl (at_set ((hs.block _ (Array.getElem?_eq_some_iff.1 HR7.out).1 (by simp; omega)).trans HR7.out))) rfl (HF.out _ q t7 aq cq k7 n ((hs.block _ (Array.getElem?_eq_some_iff.1 HR7.out).1 (by simp; omega)).trans HR7.out) (HO7.out.apart HC7.out (by decide) (by decide) hs) (HD7.out.grown hs (fun j e => by obtain rfl := Option.some.inj e; exact hpg)) HK7.out HG7.out.1 M7.out (HB7.out.fresh hs (by omega)))
    · have HNX := Lib.hid (name_any p a cap zs k6 w6 M4.out (by have := HK.out; have := M5.out; omega))
      go_wp2_with (go_at_call 34; (with_reducible refine HNX.out.mono ?_); rintro e w7 ⟨v7, n7, k7, hG, rfl, ⟨s7, rfl, hso⟩, hd7, hk7, hb7⟩; obtain ⟨a7, c7, rfl, hcs, _⟩ := hso.lies; clear hcs; have hc7 := (hb7.block g lg (by simp; omega)).trans M2.out; have hr7 := (hb7.block _ lr (by simp; omega)).trans M1.out; obtain ⟨c0, c1, c2, f0, f1, f2, hlt⟩ := at_facts hc7; obtain ⟨d0, d1, d2, e0, e1, e2, hlu⟩ := at_facts hr7; have HC7 := Lib.hid hc7; have HR7 := Lib.hid hr7; have HO7 := Lib.hid (hso.base (Nat.le_of_lt lr)); have HG7 := Lib.hid hG; have HD7 := Lib.hid hd7; have HK7 := Lib.hid (show k7 ≤ k + 40 by have := M5.out; omega); have HB7 := Lib.hid (M8.out.next hb7); clear hG hso hd7 hk7 hb7 hc7 hr7)
      have hs := But.set g 2 w7 (.slice a7 n7.length c7)
      exact bodyPost_ret (gnRes1 rfl _ _ w _ _ _ rfl (at_set ((hs.block _ (Array.getElem?_eq_some_iff.1 HR7.out).1 (by simp; omega)).trans HR7.out))) rfl (HF.out _ q t a7 c7 k7 n7 ((hs.block _ (Array.getElem?_eq_some_iff.1 HR7.out).1 (by simp; omega)).trans HR7.out) (HO7.out.apart HC7.out (by decide) (by decide) hs) (HD7.out.grown hs (fun j e => by obtain rfl := Option.some.inj e; exact hpg)) HK7.out M6.out HG7.out (HB7.out.fresh hs (by omega)))
    · have HNX := Lib.hid (next10 p a cap zs k6 w6 M4.out (by have := HK.out; have := M5.out; omega))
      go_wp2_with (go_at_call 11; (with_reducible refine HNX.out.mono ?_); rintro e w7 ⟨r7, k7, _, rfl, hd7, hk7, hb7⟩; have hc7 := (hb7.block g lg (by simp; omega)).trans M2.out; have hr7 := (hb7.block _ lr (by simp; omega)).trans M1.out; obtain ⟨c0, c1, c2, f0, f1, f2, hlt⟩ := at_facts hc7; obtain ⟨d0, d1, d2, e0, e1, e2, hlu⟩ := at_facts hr7; have HC7 := Lib.hid hc7; have HR7 := Lib.hid hr7; have HO7 := Lib.hid (M3.out.apart M4.out.1 (by decide) (by decide) hb7); have HD7 := Lib.hid hd7; have HK7 := Lib.hid (show k7 ≤ k + 40 by have := M5.out; omega); have HB7 := Lib.hid (M8.out.next hb7); clear hd7 hk7 hb7 hc7 hr7)
      have hs := But.set g 0 w7 (.int .i64 (r7 : Int))
      exact bodyPost_ret (gnRes1 rfl _ _ w _ _ _ rfl (at_set ((hs.block _ (Array.getElem?_eq_some_iff.1 HR7.out).1 (by simp; omega)).trans HR7.out))) rfl (HF.out _ (r7 : Int) t aq cq k7 n ((hs.block _ (Array.getElem?_eq_some_iff.1 HR7.out).1 (by simp; omega)).trans HR7.out) (HO7.out.apart HC7.out (by decide) (by decide) hs) (HD7.out.grown hs (fun j e => by obtain rfl := Option.some.inj e; exact hpg)) HK7.out M6.out M7.out (HB7.out.fresh hs (by omega)))
    · obtain ⟨r0, r1, r2⟩ := hrr
      have y0 : ((r : Int) == 0) = false := beq_eq_false_iff_ne.2 (by omega)
      have y1 : ((r : Int) == 1) = false := beq_eq_false_iff_ne.2 (by omega)
      have y2 : ((r : Int) == 2) = false := beq_eq_false_iff_ne.2 (by omega)
      clear r0 r1 r2
      obtain ⟨c0, c1, c2, f0, f1, f2, hlt⟩ := at_facts M2.out
      obtain ⟨d0, d1, d2, e0, e1, e2, hlu⟩ := at_facts M1.out
      go_wp2_with fail
      exact bodyPost_ret (gnRes1 rfl _ _ w _ _ _ rfl (at_set M1.out)) rfl (HF.out _ q t aq cq k6 n M1.out M3.out M4.out (by have := M5.out; omega) M6.out M7.out M8.out)
end Go.Proofs.YtflpajbcomhkpaaGreatDoor
namespace Go.Proofs.YtflpajbcomhkpaaGreatDoor
open Go.RowKit

theorem at_news1 (w1 : World) (E : At) : ∀ j u, (atCells E)[j]? = some u → (w1.alloc (.cells #[.string E.1, .int .i64 E.2.1, .string E.2.2] 103)).cell? ((⟨w1.heap.size, 0, none⟩ : Addr).add j) = some u := by
  intro j u h
  exact news_row w1 #[.string E.1, .int .i64 E.2.1, .string E.2.2] 103 j u (by simpa [atCells] using h)
theorem ats_round1 {w wr w1 w2 : World} {B : Nat} {v v' : Value} {D : List At} {e : At} {Y : Obj} (hB : w.heap.size ≤ B) (hown : OwnA wr B v D) (hb : Below w.heap.size w wr) (hb1 : Below wr.heap.size wr w1)
    (hown2 : w2.ownsRow B 103 3 v' (D.length + 1) (atsCells D ++ atCells e)) (hgr2 : (w1.alloc Y).grownBy w2 v.ownBlock) : OwnA w2 B v' (D ++ [e]) ∧ Below w.heap.size w w2 := by
  have h1 := hb.size
  have h2 := hb1.size
  refine ⟨?_, ?_⟩
  · unfold OwnA
    rw [List.length_append, atsCells_snoc]; exact hown2
  · exact ((hb.trans (hb1.mono h1)).alloc (by omega) Y).grown hgr2 (by simp; omega) (fun k e => Nat.le_trans hB (World.ownsRow.lt hown k e).1)
end Go.Proofs.YtflpajbcomhkpaaGreatDoor
namespace Go.Proofs.YtflpajbcomhkpaaGreatDoor
open Go.RowKit

theorem str_dig (d : UInt8) (w : World) : (convert 55 9 (.slice (some ⟨w.heap.size, 0, none⟩) 1 1)).run Tryz.prog (w.alloc (.cells #[.int .u8 ((d.toNat : Nat) : Int)] 5)) = .ok (.string (strOf [d])) (w.alloc (.cells #[.int .u8 ((d.toNat : Nat) : Int)] 5)) :=
  own_str (l := [d]) ⟨rfl, .inr ⟨w.heap.size, 1, _, rfl, Nat.le_refl _, heap_alloc_new w _, Nat.le_refl _, by decide, rfl, rfl⟩⟩

set_option maxRecDepth 100000 in
set_option maxHeartbeats 1000000 in
theorem dec_small (n : Nat) (h : n < 10) (w : World) :
    Calls Tryz.prog 165 #[.int .i64 (n : Int)] w fun e w' => e = .returned (.string (strOf (Lib.decDigits n))) ∧ Below w.heap.size w w' := by
  have d1 : decide ((n : Int) < 10) = true := by simp; omega
  obtain ⟨d, hd⟩ : ∃ d : UInt8, d = UInt8.ofNat (48 + n) := ⟨_, rfl⟩
  have hdn : wrap64 (48 + (n : Int)) % 256 = ((d.toNat : Nat) : Int) := by rw [hd]; unfold wrap64; simp; omega
  have hs := str_dig d
  have HD := Lib.hid (show Lib.decDigits n = [d] by rw [Lib.decDigits_one h, hd])
  clear h hd
  go_enter Tryz.func165, Tryz.ntmps165
  go_wp2_with fail
  go_ret
  exact ⟨by rw [HD.out]; rfl, belowNew _ _⟩
theorem conv_later (d : UInt8) (w w1 : World) (hb : Below (w.alloc (.cells #[.int .u8 ((d.toNat : Nat) : Int)] 5)).drew.heap.size (w.alloc (.cells #[.int .u8 ((d.toNat : Nat) : Int)] 5)).drew w1) :
    (convert 55 9 (.slice (some ⟨w.heap.size, 0, none⟩) 1 1)).run Tryz.prog w1 = .ok (.string (strOf [d])) w1 :=
  own_str (B := w.heap.size) (l := [d]) (own_below (w := (w.alloc (.cells #[.int .u8 ((d.toNat : Nat) : Int)] 5)).drew) (World.ownsRow.drew ⟨rfl, .inr ⟨w.heap.size, 1, _, rfl, Nat.le_refl _, heap_alloc_new w _, Nat.le_refl _, by decide, rfl, rfl⟩⟩) hb)
theorem str_dig_drew (d : UInt8) (w : World) : (convert 55 9 (.slice (some ⟨w.heap.size, 0, none⟩) 1 1)).run Tryz.prog (w.alloc (.cells #[.int .u8 ((d.toNat : Nat) : Int)] 5)).drew = .ok (.string (strOf [d])) (w.alloc (.cells #[.int .u8 ((d.toNat : Nat) : Int)] 5)).drew :=
  own_str (B := w.heap.size) (l := [d]) (World.ownsRow.drew ⟨rfl, .inr ⟨w.heap.size, 1, _, rfl, Nat.le_refl _, heap_alloc_new w _, Nat.le_refl _, by decide, rfl, rfl⟩⟩)
set_option maxRecDepth 100000 in
set_option maxHeartbeats 1000000 in
theorem dec_bound (k : Nat) : ∀ (n : Nat) (w : World), n < 10 ^ (k + 1) → n ≤ 9223372036854775807 →
    Calls Tryz.prog 165 #[.int .i64 (n : Int)] w fun e w' => e = .returned (.string (strOf (Lib.decDigits n))) ∧ Below w.heap.size w w' := by
  induction k with
  | zero => intro n w h _; exact dec_small n (by simpa using h) w
  | succ k ih =>
    intro n w h hn
    by_cases h10 : n < 10
    · exact dec_small n h10 w
    · have d1 : decide ((n : Int) < 10) = false := by simp; omega
      obtain ⟨q, hq⟩ : ∃ q, q = n / 10 := ⟨_, rfl⟩
      obtain ⟨d, hd⟩ : ∃ d : UInt8, d = UInt8.ofNat (48 + n % 10) := ⟨_, rfl⟩
      have hqi : (n : Int) / 10 = (q : Int) := by rw [hq]; omega
      have HIH := Lib.hid (fun w => ih q w (by rw [hq]; rw [Nat.pow_succ] at h; omega) (by omega))
      have hqw : IntKind.i64.wrap (q : Int) = (q : Int) := by rw [wrap_i64]; omega
      have hdn : IntKind.u8.wrap (IntKind.i64.wrap (48 + (n : Int).tmod 10)) = ((d.toNat : Nat) : Int) := by
        rw [hd, wrap_i64, Int.tmod_eq_emod_of_nonneg (by omega)]
        simp [IntKind.wrap, IntKind.bits, IntKind.signed]
        omega
      have hs := str_dig_drew d
      have HD := Lib.hid (show Lib.decDigits n = Lib.decDigits q ++ [d] by
        conv => lhs; rw [Lib.decDigits]
        rw [dif_neg h10, hq, hd])
      have hcat : ∀ w, (Op.stringOp .add (strOf (Lib.decDigits q)) (strOf [d])).run Tryz.prog w = .ok (.string (strOf (Lib.decDigits n))) w := fun w => by
        rw [run_string_add_sum w _ _ (by
          rw [strOf_size, strOf_size, Lib.decDigits_length]
          have := Lib.nDigits_le20 q (by omega)
          simp; omega), str_cat, HD.out]
      clear hq hd ih h
      go_enter Tryz.func165, Tryz.ntmps165
      go_upto_region 3 with fail
      go_region_with (first
        | (go_at_call 165; (with_reducible refine (HIH.out _).mono ?_); rintro e w1 ⟨rfl, hb1⟩; have hs1 := conv_later d w w1 hb1; have HB1 := Lib.hid (show Below w.heap.size w w1 from (belowNew w _).drew.trans (hb1.mono (by simp))); clear hb1)
        | (go_at_call 165; (with_reducible refine (HIH.out _).mono ?_); rintro e w1 ⟨rfl, hb1⟩; have hs1 := str_dig d w1; have HB1 := Lib.hid (show Below w.heap.size w w1 from (Below.refl _ w).drew.trans (hb1.mono (by simp))); clear hb1))
      all_goals
        go_wp2_with fail
        go_ret
        first
        | exact ⟨rfl, HB1.out⟩
        | exact ⟨rfl, HB1.out.alloc HB1.out.size _⟩
theorem decno_any (n : Nat) (w : World) (hn : n ≤ 9223372036854775807) :
    Calls Tryz.prog 165 #[.int .i64 (n : Int)] w fun e w' => e = .returned (.string (strOf (Lib.decDigits n))) ∧ Below w.heap.size w w' :=
  dec_bound 18 n w (by omega) hn
end Go.Proofs.YtflpajbcomhkpaaGreatDoor
namespace Go.Proofs.YtflpajbcomhkpaaGreatDoor
open Go.RowKit

/-- The numbers L can be read from the address a0 on. -/
def WLies (w : World) (a0 : Option Addr) (L : List Nat) : Prop :=
  L = [] ∨ ∃ b off, a0 = some ⟨b, off, none⟩ ∧ ∀ i, i < L.length → w.cell? ⟨b, off + i, none⟩ = some (.int .u32 ((L.getD i 0 : Nat) : Int))
theorem WLies.below {w w' : World} {a0 : Option Addr} {L : List Nat} (h : WLies w a0 L) (hb : Below w.heap.size w w') : WLies w' a0 L := by
  rcases h with h | ⟨b, off, h1, h2⟩
  · exact .inl h
  · refine .inr ⟨b, off, h1, fun i hi => ?_⟩
    rw [← h2 i hi]
    exact hb.cell (World.block_lt_of_cell? _ _ (h2 i hi))
theorem WLies.take {w : World} {a0 : Option Addr} {L : List Nat} (h : WLies w a0 L) (k : Nat) : WLies w a0 (L.take k) := by
  rcases h with h | ⟨b, off, h1, h2⟩
  · exact .inl (by rw [h]; simp)
  · refine .inr ⟨b, off, h1, fun i hi => ?_⟩
    rw [List.length_take] at hi
    rw [h2 i (by omega), List.getD_eq_getElem?_getD, List.getD_eq_getElem?_getD, List.getElem?_take_of_lt (by omega)]
theorem txt_len (a : List Nat) (h : ∀ v ∈ a, v ≤ 2147483647) : (txt a).length ≤ 11 * a.length := by
  by_cases h0 : a = []
  · subst h0; simp [txt]
  · have e := congrArg List.length (txt_dot a h0)
    have key : ∀ a : List Nat, (∀ v ∈ a, v ≤ 2147483647) → (cat fdot a).length ≤ 11 * a.length := by
      intro a
      induction a with
      | nil => intro _; simp [cat]
      | cons v a ih =>
        intro h
        have h1 := dec_len 10 v (Nat.lt_of_le_of_lt (h v (by simp)) (by decide)) (by omega)
        have h2 := ih (fun x hx => h x (by simp [hx]))
        simp only [cat, fdot, List.length_append, List.length_cons, List.length_nil]; omega
    have := key a h
    rw [List.length_append] at e
    simp at e; omega
theorem add_str (a b : List UInt8) (h : a.length + b.length ≤ 9223372036854775807) (w : World) : (Op.stringOp .add (strOf a) (strOf b)).run Tryz.prog w = .ok (.string (strOf (a ++ b))) w := by
  rw [run_string_add_sum w _ _ (by rw [strOf_size, strOf_size]; exact h), str_cat]
theorem add_dot (a : List UInt8) (h : a.length ≤ 1000) (w : World) : (Op.stringOp .add (strOf a) ⟨#[46]⟩).run Tryz.prog w = .ok (.string (strOf (a ++ [46]))) w := add_str a [46] (by simp; omega) w
theorem dot_add (a : List UInt8) (h : a.length ≤ 1000) (w : World) : (Op.stringOp .add ⟨#[46]⟩ (strOf a)).run Tryz.prog w = .ok (.string (strOf (46 :: a))) w := add_str [46] a (by simp; omega) w
end Go.Proofs.YtflpajbcomhkpaaGreatDoor
namespace Go.Proofs.YtflpajbcomhkpaaGreatDoor
open Go.RowKit

def oidVal (a : List Nat) : Value := .tuple #[.string (strOf (txt a)), .int .i64 0]
def OwnS (w : World) (B : Nat) (v : Value) (ss : List ByteArray) : Prop := w.ownsRow B 9 1 v ss.length (ss.map Value.string)
theorem strs_one (ss : List ByteArray) : ∀ v ∈ ss.map Value.string, v.oneCell' = true := by
  intro v hv; obtain ⟨b, _, rfl⟩ := List.mem_map.1 hv; rfl
def decS (n : Nat) : ByteArray := strOf (Lib.decDigits n)
theorem owns_two (w : World) (x y : ByteArray) : OwnS (w.alloc (.cells #[.string x, .string y] 9)) w.heap.size (.slice (some ⟨w.heap.size, 0, none⟩) 2 2) [x, y] :=
  ⟨rfl, .inr ⟨w.heap.size, 2, _, rfl, Nat.le_refl _, heap_alloc_new w _, Nat.le_refl _, by decide, rfl, rfl⟩⟩
theorem owns_form {w : World} {B : Nat} {v : Value} {ss : List ByteArray} (h : OwnS w B v ss) (h0 : ss ≠ []) :
    ∃ g cp, v = .slice (some ⟨g, 0, none⟩) ss.length cp ∧ g < w.heap.size ∧ ss.length ≤ cp ∧ ∀ (j : Nat) x, ss[j]? = some x → w.cell? ⟨g, 0 + j, none⟩ = some (.string x) := by
  rcases h.2 with ⟨_, h1⟩ | ⟨g, cap, cur, rfl, hB, hg, hn, _, hcs, htk⟩
  · exact absurd (List.eq_nil_of_length_eq_zero h1) h0
  · refine ⟨g, cap, rfl, (Array.getElem?_eq_some_iff.1 hg).1, hn, fun j x hx => ?_⟩
    have hj := (List.getElem?_eq_some_iff.1 hx).1
    rw [Nat.zero_add, cell_of_row w g j _ _ _ hg]
    have : (cur.toList.take (ss.length * 1))[j]? = some (.string ss[j]) := by rw [htk]; simp [hj]
    rw [List.getElem?_take_of_lt (by omega)] at this
    rw [List.getElem?_eq_getElem hj] at hx
    rw [← Option.some.inj hx]
    simpa using this
theorem strs_round {w wr w2 : World} {B : Nat} {v v' : Value} {D : List ByteArray} {y : ByteArray} {X : Obj} (hB : w.heap.size ≤ B) (hown : OwnS wr B v D) (hb : Below w.heap.size w wr)
    (hown2 : w2.ownsRow B 9 1 v' (D.length + 1) (D.map Value.string ++ [.string y])) (hgr2 : (wr.alloc X).grownBy w2 v.ownBlock) : OwnS w2 B v' (D ++ [y]) ∧ Below w.heap.size w w2 := by
  refine ⟨?_, ?_⟩
  · unfold OwnS
    rw [List.length_append, List.map_append]; exact hown2
  · exact (Below.alloc hb hb.size X).grown hgr2 (by simp; have := hb.size; omega) (fun k e => Nat.le_trans hB (World.ownsRow.lt hown k e).1)
theorem nums_yes {c : ByteArray} {N : List Nat} (hg : GoodN N) (hN : c.data.toList = cat e128 N) (w : World) (hs : c.size ≤ 1099511627) :
    Calls Tryz.prog 269 #[.string c] w fun e w' => (∃ g cap, e = .returned (.tuple #[.slice (some ⟨g, 0, none⟩) N.length cap, .bool true]) ∧ ILie w' g N ∧ N.length ≤ cap) ∧ Below w.heap.size w w' := by
  refine (nums_any c w hs).mono ?_
  rintro e w' ⟨h, hb⟩
  refine ⟨?_, hb⟩
  rcases h with ⟨M, g, cap, h1, h2, h3, h4, h5, h6⟩ | ⟨h1, _⟩
  · obtain rfl : M = N := code_inj e128_code e128_ne (h2.symm.trans hN)
    exact ⟨g, cap, h3, h4, h6⟩
  · exact absurd (dec_iff hg hN) (h1 _)
theorem nums_no {c : ByteArray} (h : ∀ a, ¬ Dec c.data.toList a) (w : World) (hs : c.size ≤ 1099511627) :
    Calls Tryz.prog 269 #[.string c] w fun e w' => (∃ v, e = .returned (.tuple #[v, .bool false])) ∧ Below w.heap.size w w' := by
  refine (nums_any c w hs).mono ?_
  rintro e w' ⟨h', hb⟩
  refine ⟨?_, hb⟩
  rcases h' with ⟨M, g, cap, h1, h2, _⟩ | ⟨_, h2⟩
  · exact absurd (dec_iff h1 h2) (h _)
  · exact h2
theorem itoaS (n : Nat) (w : World) (hn : n ≤ 9223372036854775807) (ht : Pow10 w) :
    Calls Tryz.prog 270 #[.int .i64 (n : Int)] w fun e w' => e = .returned (.string (decS n)) ∧ Below w.heap.size w w' := itoa_any n w hn ht

set_option maxRecDepth 100000 in
set_option maxHeartbeats 1000000 in
theorem decode_no {c : ByteArray} (h : ∀ a, ¬ Dec c.data.toList a) (w : World) (hs : c.size ≤ 1099511627) :
    Calls Tryz.prog 229 #[.string c] w fun e w' => e = .returned noVal ∧ Below w.heap.size w w' := by
  have HH := Lib.hid h
  clear h
  go_enter Tryz.func229, Tryz.ntmps229
  go_wp2_with (go_at_call 269; (with_reducible refine (nums_no HH.out _ hs).mono ?_); rintro e w1 ⟨⟨v, rfl⟩, hb1⟩; have HB1 := Lib.hid hb1; clear hb1)
  go_ret2
  exact ⟨rfl, HB1.out⟩

theorem join_dec (a : List Nat) : Lib.join ((a.map decS).map (·.data.toList)) [46] = txt a := by
  rw [← join_txt, List.map_map]
  congr 1

set_option maxRecDepth 100000 in
set_option maxHeartbeats 2000000 in
theorem decode_yes {c : ByteArray} {N : List Nat} (hg : GoodN N) (hN : c.data.toList = cat e128 N) (w : World) (hs : c.size ≤ 1099511627) (ht : Pow10 w) :
    Calls Tryz.prog 229 #[.string c] w fun e w' => e = .returned (oidVal (arcsN N)) ∧ Below w.heap.size w w' := by
  obtain ⟨i0, hi, hz0, hz1, hz2⟩ := info_parts strInfo
  have HG := Lib.hid hg
  have HN := Lib.hid hN
  have HT := Lib.hid ht
  obtain ⟨m, M, rfl⟩ : ∃ m M, N = m :: M := by
    cases N with
    | nil => exact absurd hg.1 (by simp)
    | cons m M => exact ⟨m, M, rfl⟩
  have hM : M.length ≤ 10 := by have := hg.2.1; simp at this; omega
  have hm : m ≤ 2147483727 := by simpa using hg.2.2.1
  have HMM := Lib.hid (show ∀ v ∈ M, v ≤ 2147483647 from by simpa using hg.2.2.2)
  obtain ⟨q, hq⟩ : ∃ q, q = m / 40 := ⟨_, rfl⟩
  have hqi : (m : Int) / 40 = (q : Int) := by omega
  obtain ⟨f, hf⟩ : ∃ f, f = min q 2 := ⟨_, rfl⟩
  have hfi : min (q : Int) 2 = (f : Int) := by omega
  have hfb : f ≤ 2 := by omega
  have hf40 : 40 * f ≤ m := by omega
  obtain ⟨z, hz⟩ : ∃ z, z = m - 40 * f := ⟨_, rfl⟩
  have hzi : (m : Int) - 40 * (f : Int) = (z : Int) := by omega
  have hzb : z ≤ 2147483727 := by omega
  have HAR := Lib.hid (show ∀ k, (arcsN (m :: M.take k)).map decS = [decS f, decS z] ++ (M.take k).map decS from fun k => by rw [hz, hf, hq]; simp [arcsN])
  clear hq hf hz hg hN ht hf40
  go_enter Tryz.func229, Tryz.ntmps229
  go_upto_region 5 with (go_at_call 269; (with_reducible refine (nums_yes HG.out HN.out _ hs).mono ?_); rintro e w1 ⟨⟨g, cap, rfl, hl, hcp⟩, hb1⟩; have HB1 := Lib.hid hb1; have HL := Lib.hid hl; have hc0 := hl.cell 0 (by simp); simp only [List.length_cons] at hcp; simp only [List.getD_cons_zero] at hc0; clear hb1 hl)
  have hwr2 : IntKind.i64.wrap (40 * (f : Int)) = 40 * (f : Int) := by rw [wrap_i64]; omega
  have hwr3 : IntKind.i64.wrap (z : Int) = (z : Int) := by rw [wrap_i64]; omega
  have HB1D := Lib.hid (show Below w.heap.size w w1.drew from Below.drew HB1.out)
  have HT1 := Lib.hid (HT.out.below HB1D.out)
  have BF := Lib.hid (show f ≤ 9223372036854775807 by omega)
  have BZ := Lib.hid (show z ≤ 9223372036854775807 by omega)
  go_region_with (first
    | (go_at_call 270; (with_reducible refine (itoaS f _ BF.out HT1.out).mono ?_); rintro e w2 ⟨rfl, hb2⟩; have HB2 := Lib.hid (below_next HB1D.out hb2); have HT2 := Lib.hid (HT.out.below HB2.out); have HL2 := Lib.hid (HL.out.below ((Below.refl _ w1).drew.trans hb2)); have hc2 := HL2.out.cell 0 (by simp); simp only [List.getD_cons_zero] at hc2; clear hb2)
    | (go_at_call 270; (with_reducible refine (itoaS z _ BZ.out HT2.out).mono ?_); rintro e w3 ⟨rfl, hb3⟩; have HB3 := Lib.hid (below_next HB2.out hb3); have HL3 := Lib.hid (HL2.out.below hb3); clear hb3))
  all_goals
    have HO3 := Lib.hid (owns_two w3 (decS f) (decS z))
    have HB4 := Lib.hid (belowNew w3 (.cells #[.string (decS f), .string (decS z)] 9))
    clear hwr2 hwr3 hc0 hc2
    go_wp2_with fail
  all_goals
    go_loopw [7, 35] (fun u i wr => ∃ (k : Nat) (D : List ByteArray), k ≤ M.length ∧ i = .int .i64 (k : Int) ∧ D = (arcsN (m :: M.take k)).map decS ∧ D.length = k + 2 ∧ OwnS wr w3.heap.size u D ∧ Below w3.heap.size w3 wr) (fun _ i _ => M.length - (intOf i).toNat)
    case atStart => exact ⟨0, _, by omega, rfl, rfl, by rw [HAR.out]; rfl, by rw [HAR.out]; exact HO3.out, HB4.out⟩
    case round =>
      obtain ⟨k, D, hk, rfl, hD, hDl, ho, hb⟩ := hrel
      have HB := Lib.hid hb
      have HO := Lib.hid ho
      have HD := Lib.hid hD
      clear hb ho hD
      by_cases hlt : k < M.length
      · have dk : decide ((k : Int) < (M.length : Int)) = true := by simp; omega
        have hcx : wr.cell? ⟨g, 1 + k, none⟩ = some (.int .i64 ((M.getD k 0 : Nat) : Int)) := by
          have h1 := (HL3.out.below HB.out).2 (k + 1) (by simp; omega)
          rw [Nat.add_comm 1 k, h1]
          simp
        have hxb : M.getD k 0 ≤ 2147483647 := by
          rw [List.getD_eq_getElem?_getD, List.getElem?_eq_getElem hlt]
          exact HMM.out _ (by simp)
        have HN2 := Lib.hid (show D ++ [decS (M.getD k 0)] = (arcsN (m :: M.take (k + 1))).map decS by
          rw [HD.out, HAR.out, HAR.out, List.append_assoc, List.take_add_one, List.getD_eq_getElem?_getD, List.getElem?_eq_getElem hlt, List.map_append]
          rfl)
        generalize M.getD k 0 = x at hcx hxb HN2
        have BX := Lib.hid (show x ≤ 9223372036854775807 by omega)
        have HTR := Lib.hid (HT.out.below (below_next HB3.out HB.out))
        go_wp2_with (first
          | (go_at_call 270; (with_reducible refine (itoaS x _ BX.out HTR.out).mono ?_); rintro e w5 ⟨rfl, hb5⟩; have HO5 := Lib.hid (own_below HO.out hb5); have HB5 := Lib.hid (below_next HB.out hb5); clear hb5)
          | (at_builtin; (refine wpList_append_own _ rfl (.tmp 39) (.tmp 42) 51 rfl w3.heap.size 9 i0 (.string ⟨#[]⟩) 1 16 Tryz.underlying51 hi hz0 hz1 hz2 rfl (by decide) _ D.length (D.map Value.string) rfl (HO5.out.alloc _) ⟨w5.heap.size, 0, none⟩ 1 1 [.string (decS x)] rfl rfl (news_row w5 #[.string (decS x)] 9) (strs_one [decS x]) (by unfold maxLen; omega) (by omega) (by have := HB5.out.size; simp; omega) ?_); intro v' w6 hown2 hgr2 _; obtain ⟨P1, P2⟩ := strs_round (Nat.le_refl _) HO5.out HB5.out hown2 hgr2; have HP1 := Lib.hid P1; have HP2 := Lib.hid P2; clear hown2 hgr2 P1 P2))
        all_goals
          go_roundw
          case rel => exact ⟨k + 1, D ++ [decS x], by omega, by go_num, HN2.out, by simp; omega, HP1.out, HP2.out⟩
          case measure => simp [intOf]; omega
      · obtain rfl : k = M.length := by omega
        have dk : decide ((M.length : Int) < (M.length : Int)) = false := by simp
        obtain ⟨h, cp, rfl, hh1, hh2, hh3⟩ := owns_form HO.out (fun e => by rw [e] at hDl; simp at hDl)
        have HDD := Lib.hid (show D = (arcsN (m :: M)).map decS by rw [HD.out, List.take_of_length_le (Nat.le_refl _)])
        have HJ := Lib.hid (show Lib.join (D.map (·.data.toList)) [46] = txt (arcsN (m :: M)) by rw [HDD.out, join_dec])
        have hjl : (Lib.join (D.map (·.data.toList)) [46]).length ≤ 140737488355328 := by
          rw [HJ.out]
          refine Nat.le_trans (txt_len _ (goodN_arcs HG.out).1.2.2.1) ?_
          have := (goodN_arcs HG.out).1.2.1
          omega
        have HJL := Lib.hid hjl
        have hDb : D.length ≤ 12 := by omega
        have HH3 := Lib.hid hh3
        clear hjl hh3 hlt hDl hk
        go_wp2_with (go_at_call 166; (with_reducible refine (join_any h 0 cp D ⟨#[46]⟩ _ HH3.out hh1 (by omega) hh2 HJL.out).mono ?_); rintro e w5 ⟨rfl, hb5⟩; have HB5 := Lib.hid (below_next HB.out hb5); clear hb5)
        go_ret2
        refine ⟨?_, below_next HB3.out HB5.out⟩
        show _ = Ending.returned (oidVal (arcsN (m :: M)))
        rw [oidVal, ← HJ.out]
        rfl
end Go.Proofs.YtflpajbcomhkpaaGreatDoor
