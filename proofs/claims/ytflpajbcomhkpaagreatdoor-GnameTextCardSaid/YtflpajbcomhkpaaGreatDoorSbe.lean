/-
  A field of a general name that a call has returned.
  The contract of the law's some: a general name of the generators, perhaps with a field of another one.
  A row of attributes grows by one that has just been made. Nothing is claimed of the program here.
  The contract of the reference's Dec: the decimal digits of a number.
  The contract of the law's function id: the text of a good list of numbers that is made of the given ones.
  The contract of oid.Decode: the object identifier with these contents, if there is one.
  The contract of the definition's DecodeOID: the object identifier with these contents, if there is one.
  What the decoders of names answer; the contract of slices.Contains over ints, and of the closure next of decodeAttribute.
  The contract of decodeAttribute: what an element says of an attribute, or the error.
  The contract of decodeAttribute: what an element says of an attribute, or the error.
  The contract of decodeRelative: the attributes of an element, or the first error.
  The contract of decodeRelative: the attributes of an element, or the first error.
  The contract of Parse: the name that a text denotes, or the error.
-/
import Derived.Test.YtflpajbcomhkpaaGreatDoorSbd
import Derived.Deep.CutRange
import Derived.Deep.DeepCutAuto
import Derived.Test.YtflpajbcomhkpaaGreatDoorSaq
import Derived.Test.YtflpajbcomhkpaaGreatDoorSaa
import Derived.Test.YtflpajbcomhkpaaGreatDoorSas
import Derived.Lib.ItoaLen
import Derived.Test.YtflpajbcomhkpaaGreatDoorSaw
import Derived.Test.YtflpajbcomhkpaaGreatDoorSav
import Derived.Test.YtflpajbcomhkpaaGreatDoorSak
import Derived.Test.YtflpajbcomhkpaaGreatDoorSam
import Derived.Test.YtflpajbcomhkpaaGreatDoorSan
namespace Go.Proofs.YtflpajbcomhkpaaGreatDoor
open Go.RowKit

set_option maxRecDepth 100000 in
theorem gfield1 (q : Int) (t : ByteArray) (a : Option Addr) (n c : Nat) (w : World) : (Instr.field 32 (.agg #[.int .i64 q, .string t, .slice a n c]) 1).run Tryz.prog w = .ok (.string t) w := by
  show (Instr.field 32 (.agg #[.int .i64 q, .string t, .slice a n c]) 1).run Tryz.prog w = .ok (.string t) w
  kernel_rfl
end Go.Proofs.YtflpajbcomhkpaaGreatDoor
namespace Go.Proofs.YtflpajbcomhkpaaGreatDoor
open Go.RowKit

theorem gen_len {q : Int} {t : List UInt8} {n : Nm} (h : GenOk q t n) : t.length ≤ 64 ∧ MadeN n := by
  have m0 : MadeN [] := ⟨by decide, fun r hr => by cases hr⟩
  rcases h with ⟨_, h, rfl⟩ | ⟨_, h, rfl⟩ | ⟨_, h, rfl⟩ | ⟨_, rfl, h⟩
  · exact ⟨(show ∀ t ∈ genMail, t.length ≤ 64 by decide) t h, m0⟩
  · exact ⟨(show ∀ t ∈ genDns, t.length ≤ 64 by decide) t h, m0⟩
  · exact ⟨(show ∀ t ∈ genAddr, t.length ≤ 64 by decide) t h, m0⟩
  · exact ⟨by decide, h⟩
theorem bse_len {q : Int} {t : List UInt8} {n : Nm} (h : BseOk q t n) : t.length ≤ 64 ∧ MadeN n := by
  have m0 : MadeN [] := ⟨by decide, fun r hr => by cases hr⟩
  rcases h with ⟨_, h, rfl⟩ | ⟨_, h, rfl⟩ | ⟨_, h, rfl⟩ | ⟨_, rfl, h⟩
  · exact ⟨(show ∀ t ∈ bseMail, t.length ≤ 64 by decide) t h, m0⟩
  · exact ⟨(show ∀ t ∈ bseDns, t.length ≤ 64 by decide) t h, m0⟩
  · exact ⟨(show ∀ t ∈ bseAddr, t.length ≤ 64 by decide) t h, m0⟩
  · exact ⟨by decide, h⟩
theorem next2 (p : Nat) (a : Option Addr) (cap : Nat) (zs : List Int) (k : Nat) (w : World) (h : DeckAt w p a cap zs k) (hk2 : k < 1000) :
    Calls Tryz.prog 11 #[.pointer (some ⟨p, 0, none⟩), .int .i64 2] w fun e w' => ∃ r k' : Nat, r < 2 ∧ e = .returned (.int .i64 (r : Int)) ∧ DeckAt w' p a cap zs k' ∧ k' ≤ k + 1 ∧ But p w w' :=
  next_any p a cap zs k 2 w h hk2 (by omega) (by omega)
theorem next12 (p : Nat) (a : Option Addr) (cap : Nat) (zs : List Int) (k : Nat) (w : World) (h : DeckAt w p a cap zs k) (hk2 : k < 1000) :
    Calls Tryz.prog 11 #[.pointer (some ⟨p, 0, none⟩), .int .i64 12] w fun e w' => ∃ r k' : Nat, r < 12 ∧ e = .returned (.int .i64 (r : Int)) ∧ DeckAt w' p a cap zs k' ∧ k' ≤ k + 1 ∧ But p w w' :=
  next_any p a cap zs k 12 w h hk2 (by omega) (by omega)
theorem next10 (p : Nat) (a : Option Addr) (cap : Nat) (zs : List Int) (k : Nat) (w : World) (h : DeckAt w p a cap zs k) (hk2 : k < 1000) :
    Calls Tryz.prog 11 #[.pointer (some ⟨p, 0, none⟩), .int .i64 10] w fun e w' => ∃ r k' : Nat, r < 10 ∧ e = .returned (.int .i64 (r : Int)) ∧ DeckAt w' p a cap zs k' ∧ k' ≤ k + 1 ∧ But p w w' :=
  next_any p a cap zs k 10 w h hk2 (by omega) (by omega)
theorem gset0 {w : World} {g : Nat} {x y z a : Value} {t : TypeId} (h : w.heap[g]? = some (.cells #[x, y, z] t (0, 0))) : (w.setCell ⟨g, 0, none⟩ a).heap[g]? = some (.cells #[a, y, z] t (0, 0)) := by
  simp [World.setCell, Array.getElem?_modify, h]
theorem gset1 {w : World} {g : Nat} {x y z a : Value} {t : TypeId} (h : w.heap[g]? = some (.cells #[x, y, z] t (0, 0))) : (w.setCell ⟨g, 1, none⟩ a).heap[g]? = some (.cells #[x, a, z] t (0, 0)) := by
  simp [World.setCell, Array.getElem?_modify, h]
/-- A change of one block that is of another type leaves a name as it was. -/
theorem own_apart {w w' : World} {B k n g : Nat} {e T : TypeId} {v : Value} {xs : List Value} {cs : Array Value} {f : Nat × Nat} (h : w.ownsRow B e k v n xs) (hc : w.heap[g]? = some (.cells cs T f)) (hT : T ≠ e) (hg : But g w w') : w'.ownsRow B e k v n xs := by
  refine World.ownsRow.kept h hg ?_
  rcases h.2 with ⟨hv, _⟩ | ⟨b, cap, cur, hv, _, hb, _⟩
  · exact .inl (by rw [hv]; rfl)
  · refine .inr (fun e1 => ?_)
    rw [hv] at e1
    simp [Value.ownBlock] at e1
    subst e1
    rw [hc] at hb
    simp at hb
    exact hT hb.2.1
theorem OwnN.apart {w w' : World} {B g : Nat} {T : TypeId} {v : Value} {n : Nm} {cs : Array Value} {f : Nat × Nat} (h : OwnN w B v n) (hc : w.heap[g]? = some (.cells cs T f)) (h1 : T ≠ 103) (h2 : T ≠ 101) (hg : But g w w') : OwnN w' B v n := by
  obtain ⟨vs, q1, q2, q3⟩ := h
  exact ⟨vs, q1, own_apart q2 hc h2 hg, fun i hi => own_apart (q3 i hi) hc h1 hg⟩
/-- In the middle of some: the result's cell at r, the general name's at g, the deck at p. -/
def Mid (w0 w : World) (p g K : Nat) (a : Option Addr) (cap : Nat) (zs : List Int) : Prop :=
  ∃ (q : Int) (t : List UInt8) (aq : Option Addr) (cq k : Nat) (n : Nm), w.heap[w0.heap.size]? = some (.cells #[.int .i64 0, .string ⟨#[]⟩, .slice none 0 0] 32 (0, 0)) ∧
    w.heap[g]? = some (.cells #[.int .i64 q, .string (strOf t), .slice aq n.length cq] 32 (0, 0)) ∧ OwnN w w0.heap.size (.slice aq n.length cq) n ∧ DeckAt w p a cap zs k ∧ k ≤ K ∧ t.length ≤ 64 ∧ MadeN n ∧ But p w0 w

set_option maxRecDepth 100000 in
set_option maxHeartbeats 8000000 in
theorem some_any (p : Nat) (a : Option Addr) (cap : Nat) (zs : List Int) (k : Nat) (w : World) (h : DeckAt w p a cap zs k) (hk : k ≤ 700) :
    Calls Tryz.prog 9 #[.pointer (some ⟨p, 0, none⟩)] w fun e w' => ∃ (q : Int) (t : List UInt8) (s : Value) (n : Nm) (k' : Nat), t.length ≤ 64 ∧ MadeN n ∧ e = .returned (.agg #[.int .i64 q, .string (strOf t), s]) ∧ OwnN w' w.heap.size s n ∧ DeckAt w' p a cap zs k' ∧ k' ≤ k + 40 ∧ But p w w' := by
  obtain ⟨W1, hW1⟩ : ∃ W1, W1 = w.alloc (.cells #[.int .i64 0, .string ⟨#[]⟩, .slice none 0 0] 32) := ⟨_, rfl⟩
  have hb1 : Below w.heap.size w W1 := by rw [hW1]; exact belowNew w _
  have hc1 : W1.heap[w.heap.size]? = some (.cells #[.int .i64 0, .string ⟨#[]⟩, .slice none 0 0] 32 (0, 0)) := by rw [hW1]; exact heap_alloc_new w _
  have hp := h.lt
  have HN4 := Lib.hid (general_any p a cap zs k W1 (h.below hb1) (by omega))
  have HB1 := Lib.hid (But.of (p := p) hb1)
  have HC1 := Lib.hid hc1
  have l1 := (Array.getElem?_eq_some_iff.1 hc1).1
  have HK := Lib.hid hk
  have HWE := hW1.symm
  clear h hb1 hc1 hW1 hk
  go_enter Tryz.func9, Tryz.ntmps9
  go_upto_region 2 with (go_at_call 19; (with_reducible refine HN4.out.mono ?_); rintro e w2 ⟨q, t, s, n, k2, hG, rfl, hso, hd2, hk2, hb2⟩; obtain ⟨aq, cq, rfl, hcs, _⟩ := hso.lies; clear hcs; have HC2 := Lib.hid ((hb2.block w.heap.size l1 (by simp; omega)).trans HC1.out); have HO2 := Lib.hid (hso.base (Nat.le_of_lt l1)); have HG2 := Lib.hid (gen_len hG); have HD2 := Lib.hid hd2; have HK2 := Lib.hid (show k2 ≤ k + 12 from hk2); have HB2 := Lib.hid (HB1.out.next hb2); have l2 : w.heap.size < w2.heap.size := (Array.getElem?_eq_some_iff.1 HC2.out).1; clear hG hso hd2 hk2 hb2)
  obtain ⟨W3, hW3⟩ : ∃ W3, W3 = w2.alloc (.cells #[.int .i64 q, .string (strOf t), .slice aq n.length cq] 32) := ⟨_, rfl⟩
  have hb3 : Below w2.heap.size w2 W3 := by rw [hW3]; exact belowNew w2 _
  have hc3 : W3.heap[w2.heap.size]? = some (.cells #[.int .i64 q, .string (strOf t), .slice aq n.length cq] 32 (0, 0)) := by rw [hW3]; exact heap_alloc_new w2 _
  obtain ⟨g, hg⟩ : ∃ g, g = w2.heap.size := ⟨_, rfl⟩
  rw [← hW3]
  rw [← hg] at hc3 l2 ⊢
  have hpg : p < g := by omega
  have HM3 := Lib.hid (show Mid w W3 p g (k + 12) a cap zs from ⟨q, t, aq, cq, k2, n, (hb3.block _ (by omega)).trans HC2.out, hc3, HO2.out.below hb3, HD2.out.below hb3, HK2.out, HG2.out.1, HG2.out.2, HB2.out.next (But.of hb3)⟩)
  clear hb3 hc3 hW3 HO2 HG2 HD2 HK2 HB2 HC2 hg l1 HWE
  clear HC1 HB1 HN4
  obtain ⟨q, t, aq, cq, k3, n, m1, m2, m3, m4, m5, m6, m7, m8⟩ := HM3.out
  have HNX := Lib.hid (next2 p a cap zs k3 W3 m4 (by have := HK.out; omega))
  have M1 := Lib.hid m1
  have M2 := Lib.hid m2
  have M3 := Lib.hid m3
  have M5 := Lib.hid m5
  have M6 := Lib.hid m6
  have M7 := Lib.hid m7
  have M8 := Lib.hid m8
  have lg := (Array.getElem?_eq_some_iff.1 m2).1
  have lr := (Array.getElem?_eq_some_iff.1 m1).1
  have MD := Lib.hid m4
  clear m1 m2 m3 m4 m5 m6 m7 m8 HM3
  go_upto_if 8 with (go_at_call 11; (with_reducible refine HNX.out.mono ?_); rintro e w4 ⟨r, k4, hr, rfl, hd4, hk4, hb4⟩; have HM4 := Lib.hid (show Mid w w4 p g (k + 13) a cap zs from ⟨q, t, aq, cq, k4, n, (hb4.block _ lr (by simp; omega)).trans M1.out, (hb4.block _ lg (by simp; omega)).trans M2.out, M3.out.apart MD.out.1 (by decide) (by decide) hb4, hd4, by have := M5.out; omega, M6.out, M7.out, M8.out.next hb4⟩); clear hd4 hk4 hb4)
  clear M1 M2 M3 M5 M6 M7 M8 MD lg lr HNX
  go_cut [8] (fun _ wx => Mid w wx p g (k + 26) a cap zs)
  case first =>
    obtain rfl | rfl : r = 0 ∨ r = 1 := by omega
    · go_wp2_with fail
      go_meet
      obtain ⟨q, t, aq, cq, k3, n, m1, m2, m3, m4, m5, m6, m7, m8⟩ := HM4.out
      exact ⟨q, t, aq, cq, k3, n, m1, m2, m3, m4, by omega, m6, m7, m8⟩
    · obtain ⟨q, t, aq, cq, k3, n, m1, m2, m3, m4, m5, m6, m7, m8⟩ := HM4.out
      have HNX := Lib.hid (base_any_g p a cap zs k3 w4 m4 (by have := HK.out; omega))
      have M1 := Lib.hid m1
      have M2 := Lib.hid m2
      have M5 := Lib.hid m5
      have M8 := Lib.hid m8
      have lg := (Array.getElem?_eq_some_iff.1 m2).1
      have lr := (Array.getElem?_eq_some_iff.1 m1).1
      clear m1 m2 m3 m4 m5 m6 m7 m8 HM4
      go_wp2_with (go_at_call 29; (with_reducible refine HNX.out.mono ?_); rintro e w5 ⟨q5, t5, s5, n5, k5, hG, rfl, hso, hd5, hk5, hb5⟩; obtain ⟨a5, c5, rfl, hcs, _⟩ := hso.lies; clear hcs; have hc5 := (hb5.block g lg (by simp; omega)).trans M2.out; obtain ⟨c0, c1, c2, f0, f1, f2, hlt⟩ := at_facts hc5; have HC5 := Lib.hid hc5; have HR5 := Lib.hid ((hb5.block _ lr (by simp; omega)).trans M1.out); have HO5 := Lib.hid (hso.base (Nat.le_of_lt lr)); have HG5 := Lib.hid (bse_len hG); have HD5 := Lib.hid hd5; have HK5 := Lib.hid (show k5 ≤ k + 25 by have := M5.out; omega); have HB5 := Lib.hid (M8.out.next hb5); clear hG hso hd5 hk5 hb5 hc5)
      go_meet
      have hs := ((But.set g 0 w5 (.int .i64 q5)).next (But.set g 1 _ (.string (strOf t5)))).next (But.set g 2 _ (.slice a5 n5.length c5))
      exact ⟨q5, t5, a5, c5, k5, n5, (hs.block _ (Array.getElem?_eq_some_iff.1 HR5.out).1 (by simp; omega)).trans HR5.out, at_set HC5.out, HO5.out.apart HC5.out (by decide) (by decide) hs, HD5.out.grown hs (fun j e => by obtain rfl := Option.some.inj e; exact hpg), by have := HK5.out; omega, HG5.out.1, HG5.out.2, HB5.out.fresh hs (by omega)⟩
  case rest =>
    have HM5 := Lib.hid hcut
    clear hcut HM4 hr
    obtain ⟨q, t, aq, cq, k3, n, m1, m2, m3, m4, m5, m6, m7, m8⟩ := HM5.out
    have HNX := Lib.hid (next12 p a cap zs k3 wc m4 (by have := HK.out; omega))
    have M1 := Lib.hid m1
    have M2 := Lib.hid m2
    have M3 := Lib.hid m3
    have M5 := Lib.hid m5
    have M6 := Lib.hid m6
    have M7 := Lib.hid m7
    have M8 := Lib.hid m8
    have lg := (Array.getElem?_eq_some_iff.1 m2).1
    have lr := (Array.getElem?_eq_some_iff.1 m1).1
    have MD := Lib.hid m4
    clear m1 m2 m3 m4 m5 m6 m7 m8 HM5
    go_upto_region 5 with (go_at_call 11; (with_reducible refine HNX.out.mono ?_); rintro e w6 ⟨r, k6, hr, rfl, hd6, hk6, hb6⟩; have HM6 := Lib.hid (show Mid w w6 p g (k + 27) a cap zs from ⟨q, t, aq, cq, k6, n, (hb6.block _ lr (by simp; omega)).trans M1.out, (hb6.block _ lg (by simp; omega)).trans M2.out, M3.out.apart MD.out.1 (by decide) (by decide) hb6, hd6, by have := M5.out; omega, M6.out, M7.out, M8.out.next hb6⟩); clear hd6 hk6 hb6)
    clear M1 M2 M3 M5 M6 M7 M8 MD lg lr HNX
    obtain ⟨q, t, aq, cq, k6, n, m1, m2, m3, m4, m5, m6, m7, m8⟩ := HM6.out
    have M1 := Lib.hid m1
    have M2 := Lib.hid m2
    have M3 := Lib.hid m3
    have M4 := Lib.hid m4
    have M5 := Lib.hid m5
    have M6 := Lib.hid m6
    have M7 := Lib.hid m7
    have M8 := Lib.hid m8
    have lg := (Array.getElem?_eq_some_iff.1 m2).1
    have lr := (Array.getElem?_eq_some_iff.1 m1).1
    clear m1 m2 m3 m4 m5 m6 m7 m8 HM6
    have fin : ∀ (w9 : World) (q : Int) (t : List UInt8) (aq : Option Addr) (cq k9 : Nat) (n : Nm), w9.heap[w.heap.size]? = some (.cells #[.int .i64 0, .string ⟨#[]⟩, .slice none 0 0] 32 (0, 0)) → OwnN w9 w.heap.size (.slice aq n.length cq) n → DeckAt w9 p a cap zs k9 → k9 ≤ k + 40 → t.length ≤ 64 → MadeN n → But p w w9 →
        ∃ (q' : Int) (t' : List UInt8) (s : Value) (n' : Nm) (k' : Nat), t'.length ≤ 64 ∧ MadeN n' ∧ Ending.returned (.agg #[.int .i64 q, .string (strOf t), .slice aq n.length cq]) = .returned (.agg #[.int .i64 q', .string (strOf t'), s]) ∧ OwnN (((w9.setCell ⟨w.heap.size, 0, none⟩ (.int .i64 q)).setCell ⟨w.heap.size, 1, none⟩ (.string (strOf t))).setCell ⟨w.heap.size, 2, none⟩ (.slice aq n.length cq)) w.heap.size s n' ∧ DeckAt (((w9.setCell ⟨w.heap.size, 0, none⟩ (.int .i64 q)).setCell ⟨w.heap.size, 1, none⟩ (.string (strOf t))).setCell ⟨w.heap.size, 2, none⟩ (.slice aq n.length cq)) p a cap zs k' ∧ k' ≤ k + 40 ∧ But p w (((w9.setCell ⟨w.heap.size, 0, none⟩ (.int .i64 q)).setCell ⟨w.heap.size, 1, none⟩ (.string (strOf t))).setCell ⟨w.heap.size, 2, none⟩ (.slice aq n.length cq)) := by
      intro w9 q t aq cq k9 n h1 h2 h3 h4 h5 h6 h7
      have hs := ((But.set w.heap.size 0 w9 (.int .i64 q)).next (But.set w.heap.size 1 _ (.string (strOf t)))).next (But.set w.heap.size 2 _ (.slice aq n.length cq))
      exact ⟨q, t, _, n, k9, h5, h6, rfl, h2.apart h1 (by decide) (by decide) hs, h3.grown hs (fun j e => by obtain rfl := Option.some.inj e; exact hp), h4, h7.fresh hs (Nat.le_refl _)⟩
    have HF := Lib.hid fin
    clear fin
    rcases (show r = 0 ∨ r = 1 ∨ r = 2 ∨ (r ≠ 0 ∧ r ≠ 1 ∧ r ≠ 2) by omega) with rfl | rfl | rfl | hrr
    · have HNX := Lib.hid (general_any p a cap zs k6 w6 M4.out (by have := HK.out; have := M5.out; omega))
      go_wp2_with (go_at_call 19; (with_reducible refine HNX.out.mono ?_); rintro e w7 ⟨q7, t7, s7, n7, k7, hG, rfl, hso, hd7, hk7, hb7⟩; obtain ⟨a7, c7, rfl, _, _⟩ := hso.lies; clear hso; have hfd := fun w => gfield1 q7 (strOf t7) a7 n7.length c7 w; have hc7 := (hb7.block g lg (by simp; omega)).trans M2.out; have hr7 := (hb7.block _ lr (by simp; omega)).trans M1.out; obtain ⟨c0, c1, c2, f0, f1, f2, hlt⟩ := at_facts hc7; obtain ⟨d0, d1, d2, e0, e1, e2, hlu⟩ := at_facts hr7; have HC7 := Lib.hid hc7; have HR7 := Lib.hid hr7; have HO7 := Lib.hid (M3.out.apart M4.out.1 (by decide) (by decide) hb7); have HG7 := Lib.hid (gen_len hG); have HD7 := Lib.hid hd7; have HK7 := Lib.hid (show k7 ≤ k + 40 by have := M5.out; omega); have HB7 := Lib.hid (M8.out.next hb7); clear hG hd7 hk7 hb7 hc7 hr7)
      have hs := But.set g 1 w7 (.string (strOf t7))
      exact bodyPost_ret (gnRes1 rfl _ _ w _ _ _ rfl (at_set ((hs.block _ (Array.getElem?_eq_some_iff.1 HR7.out).1 (by simp; omega)).trans HR7.out))) rfl (HF.out _ q t7 aq cq k7 n ((hs.block _ (Array.getElem?_eq_some_iff.1 HR7.out).1 (by simp; omega)).trans HR7.out) (HO7.out.apart HC7.out (by decide) (by decide) hs) (HD7.out.grown hs (fun j e => by obtain rfl := Option.some.inj e; exact hpg)) HK7.out HG7.out.1 M7.out (HB7.out.fresh hs (by omega)))
    · have HNX := Lib.hid (name_any p a cap zs k6 w6 M4.out (by have := HK.out; have := M5.out; omega))
      go_wp2_with (go_at_call 34; (with_reducible refine HNX.out.mono ?_); rintro e w7 ⟨v7, n7, k7, hG, rfl, ⟨s7, rfl, hso⟩, hd7, hk7, hb7⟩; obtain ⟨a7, c7, rfl, hcs, _⟩ := hso.lies; clear hcs; have hc7 := (hb7.block g lg (by simp; omega)).trans M2.out; have hr7 := (hb7.block _ lr (by simp; omega)).trans M1.out; obtain ⟨c0, c1, c2, f0, f1, f2, hlt⟩ := at_facts hc7; obtain ⟨d0, d1, d2, e0, e1, e2, hlu⟩ := at_facts hr7; have HC7 := Lib.hid hc7; have HR7 := Lib.hid hr7; have HO7 := Lib.hid (hso.base (Nat.le_of_lt lr)); have HG7 := Lib.hid hG; have HD7 := Lib.hid hd7; have HK7 := Lib.hid (show k7 ≤ k + 40 by have := M5.out; omega); have HB7 := Lib.hid (M8.out.next hb7); clear hG hso hd7 hk7 hb7 hc7 hr7)
      have hs := But.set g 2 w7 (.slice a7 n7.length c7)
      exact bodyPost_ret (gnRes1 rfl _ _ w _ _ _ rfl (at_set ((hs.block _ (Array.getElem?_eq_some_iff.1 HR7.out).1 (by simp; omega)).trans HR7.out))) rfl (HF.out _ q t a7 c7 k7 n7 ((hs.block _ (Array.getElem?_eq_some_iff.1 HR7.out).1 (by simp; omega)).trans HR7.out) (HO7.out.apart HC7.out (by decide) (by decide) hs) (HD7.out.grown hs (fun j e => by obtain rfl := Option.some.inj e; exact hpg)) HK7.out M6.out HG7.out (HB7.out.fresh hs (by omega)))
    · have HNX := Lib.hid (next10 p a cap zs k6 w6 M4.out (by have := HK.out; have := M5.out; omega))
      go_wp2_with (go_at_call 11; (with_reducible refine HNX.out.mono ?_); rintro e w7 ⟨r7, k7, _, rfl, hd7, hk7, hb7⟩; have hc7 := (hb7.block g lg (by simp; omega)).trans M2.out; have hr7 := (hb7.block _ lr (by simp; omega)).trans M1.out; obtain ⟨c0, c1, c2, f0, f1, f2, hlt⟩ := at_facts hc7; obtain ⟨d0, d1, d2, e0, e1, e2, hlu⟩ := at_facts hr7; have HC7 := Lib.hid hc7; have HR7 := Lib.hid hr7; have HO7 := Lib.hid (M3.out.apart M4.out.1 (by decide) (by decide) hb7); have HD7 := Lib.hid hd7; have HK7 := Lib.hid (show k7 ≤ k + 40 by have := M5.out; omega); have HB7 := Lib.hid (M8.out.next hb7); clear hd7 hk7 hb7 hc7 hr7)
      have hs := But.set g 0 w7 (.int .i64 (r7 : Int))
      exact bodyPost_ret (gnRes1 rfl _ _ w _ _ _ rfl (at_set ((hs.block _ (Array.getElem?_eq_some_iff.1 HR7.out).1 (by simp; omega)).trans HR7.out))) rfl (HF.out _ (r7 : Int) t aq cq k7 n ((hs.block _ (Array.getElem?_eq_some_iff.1 HR7.out).1 (by simp; omega)).trans HR7.out) (HO7.out.apart HC7.out (by decide) (by decide) hs) (HD7.out.grown hs (fun j e => by obtain rfl := Option.some.inj e; exact hpg)) HK7.out M6.out M7.out (HB7.out.fresh hs (by omega)))
    · obtain ⟨r0, r1, r2⟩ := hrr
      have y0 : ((r : Int) == 0) = false := beq_eq_false_iff_ne.2 (by omega)
      have y1 : ((r : Int) == 1) = false := beq_eq_false_iff_ne.2 (by omega)
      have y2 : ((r : Int) == 2) = false := beq_eq_false_iff_ne.2 (by omega)
      clear r0 r1 r2
      obtain ⟨c0, c1, c2, f0, f1, f2, hlt⟩ := at_facts M2.out
      obtain ⟨d0, d1, d2, e0, e1, e2, hlu⟩ := at_facts M1.out
      go_wp2_with fail
      exact bodyPost_ret (gnRes1 rfl _ _ w _ _ _ rfl (at_set M1.out)) rfl (HF.out _ q t aq cq k6 n M1.out M3.out M4.out (by have := M5.out; omega) M6.out M7.out M8.out)
end Go.Proofs.YtflpajbcomhkpaaGreatDoor
namespace Go.Proofs.YtflpajbcomhkpaaGreatDoor
open Go.RowKit

theorem at_news1 (w1 : World) (E : At) : ∀ j u, (atCells E)[j]? = some u → (w1.alloc (.cells #[.string E.1, .int .i64 E.2.1, .string E.2.2] 103)).cell? ((⟨w1.heap.size, 0, none⟩ : Addr).add j) = some u := by
  intro j u h
  exact news_row w1 #[.string E.1, .int .i64 E.2.1, .string E.2.2] 103 j u (by simpa [atCells] using h)
theorem ats_round1 {w wr w1 w2 : World} {B : Nat} {v v' : Value} {D : List At} {e : At} {Y : Obj} (hB : w.heap.size ≤ B) (hown : OwnA wr B v D) (hb : Below w.heap.size w wr) (hb1 : Below wr.heap.size wr w1)
    (hown2 : w2.ownsRow B 103 3 v' (D.length + 1) (atsCells D ++ atCells e)) (hgr2 : (w1.alloc Y).grownBy w2 v.ownBlock) : OwnA w2 B v' (D ++ [e]) ∧ Below w.heap.size w w2 := by
  have h1 := hb.size
  have h2 := hb1.size
  refine ⟨?_, ?_⟩
  · unfold OwnA
    rw [List.length_append, atsCells_snoc]; exact hown2
  · exact ((hb.trans (hb1.mono h1)).alloc (by omega) Y).grown hgr2 (by simp; omega) (fun k e => Nat.le_trans hB (World.ownsRow.lt hown k e).1)
end Go.Proofs.YtflpajbcomhkpaaGreatDoor
namespace Go.Proofs.YtflpajbcomhkpaaGreatDoor
open Go.RowKit

end Go.Proofs.YtflpajbcomhkpaaGreatDoor
namespace Go.Proofs.YtflpajbcomhkpaaGreatDoor
open Go.RowKit

/-- The numbers L can be read from the address a0 on. -/
def WLies (w : World) (a0 : Option Addr) (L : List Nat) : Prop :=
  L = [] ∨ ∃ b off, a0 = some ⟨b, off, none⟩ ∧ ∀ i, i < L.length → w.cell? ⟨b, off + i, none⟩ = some (.int .u32 ((L.getD i 0 : Nat) : Int))
theorem WLies.below {w w' : World} {a0 : Option Addr} {L : List Nat} (h : WLies w a0 L) (hb : Below w.heap.size w w') : WLies w' a0 L := by
  rcases h with h | ⟨b, off, h1, h2⟩
  · exact .inl h
  · refine .inr ⟨b, off, h1, fun i hi => ?_⟩
    rw [← h2 i hi]
    exact hb.cell (World.block_lt_of_cell? _ _ (h2 i hi))
theorem WLies.take {w : World} {a0 : Option Addr} {L : List Nat} (h : WLies w a0 L) (k : Nat) : WLies w a0 (L.take k) := by
  rcases h with h | ⟨b, off, h1, h2⟩
  · exact .inl (by rw [h]; simp)
  · refine .inr ⟨b, off, h1, fun i hi => ?_⟩
    rw [List.length_take] at hi
    rw [h2 i (by omega), List.getD_eq_getElem?_getD, List.getD_eq_getElem?_getD, List.getElem?_take_of_lt (by omega)]
end Go.Proofs.YtflpajbcomhkpaaGreatDoor
namespace Go.Proofs.YtflpajbcomhkpaaGreatDoor
open Go.RowKit

end Go.Proofs.YtflpajbcomhkpaaGreatDoor
namespace Go.Proofs.YtflpajbcomhkpaaGreatDoor
open Go.RowKit

end Go.Proofs.YtflpajbcomhkpaaGreatDoor
namespace Go.Proofs.YtflpajbcomhkpaaGreatDoor
open Go.RowKit

/-- The object identifier that contents say. -/
noncomputable def oidD (c : ByteArray) : Option ByteArray := @dite _ (∃ a, Dec c.data.toList a) (Classical.propDecidable _) (fun h => some (strOf (txt h.choose))) (fun _ => none)
theorem oidD_yes {c : ByteArray} {a : List Nat} (h : Dec c.data.toList a) : oidD c = some (strOf (txt a)) := by
  have hx : ∃ a, Dec c.data.toList a := ⟨a, h⟩
  unfold oidD
  rw [dif_pos hx, dec_one hx.choose_spec h]
def strTag (t : Nat) : Bool := t == 12 || t == 19 || t == 22
/-- What the elements of an attribute say: an error and the attribute. -/
noncomputable def decL : List El → Nat × At
  | [] => (3, noAt)
  | x :: r => if x.1 ≠ 6 then (5, noAt) else match oidD x.2.1 with
    | none => (11, noAt)
    | some id => match r with
      | [] => (3, noAt)
      | y :: q => if strTag y.1 = false then (5, noAt) else if q ≠ [] then (4, noAt) else (0, (id, (y.1 : Int), y.2.1))
noncomputable def decA (e : El) : Nat × At := if e.1 ≠ 48 then (5, noAt) else if (lst e.2.1).2 ≠ 0 then ((lst e.2.1).2, noAt) else decL (lst e.2.1).1
/-! ### slices.Contains -/
end Go.Proofs.YtflpajbcomhkpaaGreatDoor
namespace Go.Proofs.YtflpajbcomhkpaaGreatDoor
open Go.RowKit

/-- The elements l lie at an address. -/
def ElAt (w : World) (a : Option Addr) (l : List El) : Prop := l = [] ∨ ∃ b o, a = some ⟨b, o, none⟩ ∧ ∀ k, k < l.length → w.cell? ⟨b, o + k * 3, none⟩ = some (.int .i64 (((l.getD k (0, ⟨#[]⟩, ⟨#[]⟩)).1 : Nat) : Int)) ∧ w.cell? ⟨b, o + k * 3 + 1, none⟩ = some (.string (l.getD k (0, ⟨#[]⟩, ⟨#[]⟩)).2.1) ∧ w.cell? ⟨b, o + k * 3 + 2, none⟩ = some (.string (l.getD k (0, ⟨#[]⟩, ⟨#[]⟩)).2.2)
theorem ElAt.below {w w' : World} {a : Option Addr} {l : List El} (h : ElAt w a l) (hb : Below w.heap.size w w') : ElAt w' a l := by
  rcases h with h | ⟨b, o, h1, h2⟩
  · exact .inl h
  · refine .inr ⟨b, o, h1, fun i hi => ?_⟩
    obtain ⟨c0, c1, c2⟩ := h2 i hi
    exact ⟨(hb.cell (block_lt c0)).trans c0, (hb.cell (block_lt c1)).trans c1, (hb.cell (block_lt c2)).trans c2⟩
theorem ElAt.of {w : World} {B : Nat} {v : Value} {l : List El} (h : OwnE w B v l) : ∃ a c, v = .slice a l.length c ∧ l.length ≤ c ∧ ElAt w a l ∧ (∀ x, a = some x → l ≠ [] → B ≤ x.block ∧ x.block < w.heap.size) := by
  obtain ⟨a, c, hv, hA⟩ := EAt.of h
  have h' := h
  rcases h.2 with ⟨hv', h0⟩ | ⟨g, cap, cur, hv', hB, hg, hn, _⟩
  · rw [hv] at hv'
    obtain ⟨_, _, rfl⟩ : a = none ∧ l.length = 0 ∧ c = 0 := by simpa using hv'
    have hl : l = [] := List.eq_nil_of_length_eq_zero h0
    exact ⟨a, 0, hv, by omega, .inl hl, fun x _ hne => absurd hl hne⟩
  · rw [hv] at hv'
    obtain ⟨rfl, rfl⟩ : a = some ⟨g, 0, none⟩ ∧ c = cap := by simpa using hv'
    refine ⟨_, c, hv, hn, ?_, fun x hx _ => by obtain rfl := Option.some.inj hx; exact ⟨hB, (Array.getElem?_eq_some_iff.1 hg).1⟩⟩
    refine .inr ⟨g, 0, rfl, fun k hk => ?_⟩
    obtain ⟨g', e, hc⟩ := hA k hk
    obtain rfl : g = g' := by simpa using e
    rw [List.getD_eq_getElem?_getD, List.getElem?_eq_getElem hk, Nat.zero_add]
    exact ⟨hc 0 (by omega), hc 1 (by omega), hc 2 (by omega)⟩
/-! ### The closure next -/
end Go.Proofs.YtflpajbcomhkpaaGreatDoor
namespace Go.Proofs.YtflpajbcomhkpaaGreatDoor
open Go.RowKit

theorem ElAt.but {w w' : World} {p : Nat} {a : Option Addr} {l : List El} (h : ElAt w a l) (hb : But p w w') (hne : ∀ x, a = some x → l ≠ [] → x.block ≠ p) : ElAt w' a l := by
  rcases h with h | ⟨b, o, rfl, h2⟩
  · exact .inl h
  · refine .inr ⟨b, o, rfl, fun i hi => ?_⟩
    have hn := hne _ rfl (fun e => by rw [e] at hi; exact absurd hi (Nat.not_lt_zero _))
    obtain ⟨c0, c1, c2⟩ := h2 i hi
    have hbk := hb.block b (block_lt c0) (by simpa using hn)
    exact ⟨(cell_same hbk _).trans c0, (cell_same hbk _).trans c1, (cell_same hbk _).trans c2⟩
end Go.Proofs.YtflpajbcomhkpaaGreatDoor
namespace Go.Proofs.YtflpajbcomhkpaaGreatDoor
open Go.RowKit

/-! ### A row of attributes that is filled one by one -/
end Go.Proofs.YtflpajbcomhkpaaGreatDoor
namespace Go.Proofs.YtflpajbcomhkpaaGreatDoor
open Go.RowKit

end Go.Proofs.YtflpajbcomhkpaaGreatDoor
namespace Go.Proofs.YtflpajbcomhkpaaGreatDoor
open Go.RowKit

/-- What Parse answers. -/
noncomputable def prsErr (x : ByteArray) : Nat := match prsN x with | none => 32 | some n => chkN n
noncomputable def prsV (x : ByteArray) : Nm := if prsErr x = 0 then (prsN x).getD [] else []
theorem allO_mem {β γ : Type} {f : β → Option γ} : ∀ {l : List β} {m : List γ}, allO f l = some m → m.length = l.length ∧ ∀ i (h : i < m.length), ∃ x ∈ l, f x = some m[i]
  | [], m, h => by
    obtain rfl : [] = m := by simpa [allO] using h
    exact ⟨rfl, fun i hi => absurd hi (Nat.not_lt_zero _)⟩
  | x :: r, m, h => by
    unfold allO at h
    cases hx : f x with
    | none => rw [hx] at h; cases h
    | some y =>
      rw [hx] at h
      cases hr : allO f r with
      | none => rw [hr] at h; cases h
      | some l =>
        rw [hr] at h
        obtain rfl : y :: l = m := by simpa using h
        obtain ⟨h1, h2⟩ := allO_mem hr
        refine ⟨by simp [h1], fun i hi => ?_⟩
        cases i with
        | zero => exact ⟨x, by simp, hx⟩
        | succ i =>
          obtain ⟨z, hz, e⟩ := h2 i (by simpa using hi)
          exact ⟨z, by simp [hz], by simpa using e⟩
theorem prsA_small {x : ByteArray} {a : At} (h : prsA x = some a) (hx : x.size ≤ 150000) : SmallA a := by
  unfold prsA at h
  rcases index_cases x.data.toList 61 with ⟨hi, _⟩ | ⟨i, hi, hl⟩
  · rw [if_pos hi] at h; cases h
  · rw [hi, if_neg (by omega)] at h
    obtain ⟨wd, hwd⟩ : ∃ wd, wd = x.extract 0 (i : Int).toNat := ⟨_, rfl⟩
    obtain ⟨rs, hrs⟩ : ∃ rs, rs = x.extract ((i : Int).toNat + 1) x.size := ⟨_, rfl⟩
    have hw2 : wd.size ≤ 150000 := by rw [hwd, ByteArray.size_extract]; omega
    have hr2 : rs.size ≤ 150000 := by rw [hrs, ByteArray.size_extract]; omega
    rw [← hwd, ← hrs] at h
    obtain ⟨⟨id, kn⟩, hty⟩ : ∃ p, typ wd = p := ⟨_, rfl⟩
    have hts := typ_size wd
    rw [hty] at h hts
    cases hu : uneO rs.data.toList with
    | none => rw [hu] at h; cases kn <;> cases h
    | some v =>
      have hvs : v.size ≤ rs.size := uneO_size hu
      rw [hu] at h
      cases kn with
      | false => cases h
      | true =>
        obtain rfl : (id, kindV id v, v) = a := by simpa using h
        exact ⟨by show id.size ≤ _; have : id.size ≤ wd.size + 40 := hts; omega, by show v.size ≤ _; omega⟩
theorem pieces_mem {c : UInt8} {x s : ByteArray} (h : s ∈ pcsS c x) : s.size ≤ x.size := by
  obtain ⟨k, hk, rfl⟩ := List.mem_iff_getElem.1 h
  have := pieces_size c x k hk
  rwa [List.getD_eq_getElem?_getD, List.getElem?_eq_getElem hk] at this
theorem getD_mem {α : Type} {l : List α} {i : Nat} (h : i < l.length) (d : α) : l.getD i d = l[i] := by rw [List.getD_eq_getElem?_getD, List.getElem?_eq_getElem h]; rfl
theorem prsR_small {x : ByteArray} {r : List At} (h : prsR x = some r) (hx : x.size ≤ 150000) : SmallR r := by
  obtain ⟨h1, h2⟩ := allO_mem h
  have hcl := count_le x 43
  refine ⟨by rw [h1, pcsS_len]; omega, fun i hi => ?_⟩
  obtain ⟨s, hs, e⟩ := h2 i hi
  rw [getD_mem hi]
  exact prsA_small e (Nat.le_trans (pieces_mem hs) hx)
theorem prsN_small {x : ByteArray} {n : Nm} (h : prsN x = some n) (hx : x.size ≤ 150000) : SmallN n := by
  unfold prsN at h
  by_cases h0 : x.size = 0
  · rw [if_pos h0] at h
    obtain rfl := Option.some.inj h
    exact ⟨by simp, fun i hi => absurd hi (Nat.not_lt_zero _)⟩
  · rw [if_neg h0] at h
    obtain ⟨h1, h2⟩ := allO_mem h
    have hcl := count_le x 44
    refine ⟨by rw [h1, pcsS_len]; omega, fun i hi => ?_⟩
    obtain ⟨s, hs, e⟩ := h2 i hi
    rw [getD_mem hi]
    exact prsR_small e (Nat.le_trans (pieces_mem hs) hx)

set_option maxRecDepth 100000 in
set_option maxHeartbeats 4000000 in
theorem parse_any (x : ByteArray) (w : World) (hx : x.size ≤ 150000) (hT : Tab w) (hS : ShT w) :
    Calls Tryz.prog 95 #[.string x] w fun e w' => ∃ v, e = .returned (.tuple #[v, .int .i64 ((prsErr x : Nat) : Int)]) ∧ OwnV w' w.heap.size v (prsV x) ∧ Below w.heap.size w w' := by
  obtain ⟨W0, hW0⟩ : ∃ W0, W0 = w.alloc (.cells #[.slice none 0 0] 30) := ⟨_, rfl⟩
  have hwr : w.alloc (.cells #[.slice none 0 0] 30) = W0 := hW0.symm
  have hb0 : Below w.heap.size w W0 := by rw [hW0]; exact belowNew w _
  have hq0 : W0.heap[w.heap.size]? = some (.cells #[.slice none 0 0] 30 (0, 0)) := by rw [hW0]; exact heap_alloc_new w _
  have hz : W0.heap.size = w.heap.size + 1 := by rw [hW0]; simp
  have HB0 := Lib.hid hb0
  have HQ0 := Lib.hid hq0
  have HZ := Lib.hid hz
  have HT := Lib.hid (hT.below hb0)
  have HP := prsN_any x W0 hx (hT.below hb0) (hS.below hb0)
  obtain ⟨E, hE⟩ : ∃ E, E = prsErr x := ⟨_, rfl⟩
  obtain ⟨V, hV⟩ : ∃ V, V = prsV x := ⟨_, rfl⟩
  rw [← hE, ← hV]
  cases hp : prsN x with
  | none =>
    have e1 : E = 32 := by rw [hE]; unfold prsErr; rw [hp]
    have e2 : V = [] := by rw [hV]; unfold prsV; rw [← hE, e1]; rfl
    rw [hp] at HP
    have HPP := Lib.hid HP
    subst e1 e2
    clear hE hV hp HP hb0 hq0 hz hT hS hW0
    go_enter Tryz.func95, Tryz.ntmps95
    go_wp2_with (go_at_call 137; (with_reducible refine HPP.out.mono ?_); rintro e w1 ⟨v, rfl, ho, hb1⟩; obtain ⟨s, rfl, hs⟩ := ho; obtain ⟨av, cv, rfl, _, _⟩ := hs.lies; have hq := (hb1.block _ (one_facts HQ0.out).2.2).trans HQ0.out; have HQ := Lib.hid hq; obtain ⟨r0, g0, hlt0⟩ := one_facts hq; have HB1 := Lib.hid (below_next HB0.out hb1); clear hb1 hq hs)
    have hlt2 : w.heap.size < (w1.setCell ⟨w.heap.size, 0, none⟩ (.slice none 0 0)).heap.size := by simpa [World.setCell] using hlt0
    exact bodyPost_ret (nmRes rfl _ _ w _ rfl (((belowNew _ _).block _ hlt2).trans (one_set HQ.out))) rfl ⟨_, rfl, ⟨_, rfl, OwnN.nil _ _⟩, (HB1.out.setCell (p := ⟨w.heap.size, 0, none⟩) (Nat.le_refl _) _).alloc (Nat.le_of_lt hlt2) _⟩
  | some n =>
    have e1 : E = chkN n := by rw [hE]; unfold prsErr; rw [hp]
    have e2 : V = if E = 0 then n else [] := by rw [hV]; unfold prsV; rw [← hE, hp]; rfl
    have HSM := Lib.hid (prsN_small hp hx)
    rw [hp] at HP
    have HPP := Lib.hid HP
    have HCK := Lib.hid (fun (av : Option Addr) (cv : Nat) W (h : RLies W av n) (hT : Tab W) => chk_core av cv n.length n W h rfl HSM.out hT)
    rw [← e1] at HCK
    by_cases hz0 : E = 0
    · rw [if_pos hz0] at e2
      subst e2
      subst hz0
      clear hE hV hp HP hb0 hq0 hz hT hS hW0 e1
      go_enter Tryz.func95, Tryz.ntmps95
      go_wp2_with (first
        | (go_at_call 137; (with_reducible refine HPP.out.mono ?_); rintro e w1 ⟨v, rfl, ho, hb1⟩; obtain ⟨s, rfl, hs⟩ := ho; obtain ⟨av, cv, rfl, _, hrl⟩ := hs.lies; have HRL := Lib.hid hrl; have HOW := Lib.hid hs; have hq := (hb1.block _ (one_facts HQ0.out).2.2).trans HQ0.out; have HQ := Lib.hid hq; have HB1 := Lib.hid (below_next HB0.out hb1); have HTB := Lib.hid (HT.out.below hb1); clear hb1 hq hs hrl)
        | (go_at_call 83; (with_reducible refine (HCK.out _ _ _ (HRL.out.below (belowNew w1 _)) (HTB.out.below (belowNew w1 _))).mono ?_); rintro e w2 ⟨rfl, hb2⟩; have hq := ((below_next (belowNew w1 _) hb2).block _ (one_facts HQ.out).2.2).trans HQ.out; have HQ2 := Lib.hid hq; obtain ⟨r0, g0, hlt0⟩ := one_facts hq; have hq1 := (hb2.block _ (by simp)).trans (heap_alloc_new w1 _); obtain ⟨m0, n0, hlt1⟩ := one_facts hq1; have HB2 := Lib.hid (below_next (belowNew w1 _) hb2); clear hb2 hq hq1))
      exact bodyPost_ret (nmRes rfl _ _ w _ rfl (one_set HQ2.out)) rfl ⟨_, rfl, ⟨_, rfl, ((HOW.out.below HB2.out).but (p := w.heap.size) (But.set _ _ _ _) (by have := HZ.out; omega)).base (by have := HZ.out; omega)⟩, (below_next HB1.out HB2.out).setCell (p := ⟨w.heap.size, 0, none⟩) (Nat.le_refl _) _⟩
    · rw [if_neg hz0] at e2
      subst e2
      have hz1 := errno_ne hz0
      clear hE hV hp HP hb0 hq0 hz hT hS hW0 e1
      go_enter Tryz.func95, Tryz.ntmps95
      go_wp2_with (first
        | (go_at_call 137; (with_reducible refine HPP.out.mono ?_); rintro e w1 ⟨v, rfl, ho, hb1⟩; obtain ⟨s, rfl, hs⟩ := ho; obtain ⟨av, cv, rfl, _, hrl⟩ := hs.lies; have HRL := Lib.hid hrl; have hq := (hb1.block _ (one_facts HQ0.out).2.2).trans HQ0.out; have HQ := Lib.hid hq; have HB1 := Lib.hid (below_next HB0.out hb1); have HTB := Lib.hid (HT.out.below hb1); clear hb1 hq hs hrl)
        | (go_at_call 83; (with_reducible refine (HCK.out _ _ _ (HRL.out.below (belowNew w1 _)) (HTB.out.below (belowNew w1 _))).mono ?_); rintro e w2 ⟨rfl, hb2⟩; have hq := ((below_next (belowNew w1 _) hb2).block _ (one_facts HQ.out).2.2).trans HQ.out; have HQ2 := Lib.hid hq; obtain ⟨r0, g0, hlt0⟩ := one_facts hq; have HB2 := Lib.hid (below_next (belowNew w1 _) hb2); clear hb2 hq))
      exact bodyPost_ret (nmRes rfl _ _ w _ rfl (one_set HQ2.out)) rfl ⟨_, rfl, ⟨_, rfl, OwnN.nil _ _⟩, (below_next HB1.out HB2.out).setCell (p := ⟨w.heap.size, 0, none⟩) (Nat.le_refl _) _⟩
end Go.Proofs.YtflpajbcomhkpaaGreatDoor
