/-
  Nothing is left of this text.
  Nothing is left of this text.
  Nothing is left of this text.
  Nothing is left of this text.
  Nothing is left of this text.
  The contract of the law's function id: the text of a good list of numbers that is made of the given ones.
  Nothing is left of this text.
  Nothing is left of this text.
  Nothing is left of this text.
  The contract of decodeAttribute: what an element says of an attribute, or the error.
  Nothing is left of this text.
  Nothing is left of this text.
  Nothing is left of this text.
  Nothing is left of this text.
  Nothing is left of this text.
  The contracts of the reference's Split and short: the pieces of a text; the short types and their object identifiers.
  The contracts of the reference's attributes and EncodeName: the same element.
  Nothing is left of this text.
  The size of what a made name's encoding is; Damage of any string.
  The walk of the law OtsRecover: it returns true.
-/
import Derived.Test.YtbmphhiafepnoaaDoorAav
import Derived.Test.YtbmphhiafepnoaaDoorAaa
import Derived.Test.YtbmphhiafepnoaaDoorAao
import Derived.Test.YtbmphhiafepnoaaDoorAan
import Derived.Test.YtbmphhiafepnoaaDoorAaj
import Derived.Test.YtbmphhiafepnoaaDoorAaq
import Derived.Test.YtbmphhiafepnoaaDoorAau





namespace Go.Proofs.YtbmphhiafepnoaaDoor
open Go.RowKit

/-- The numbers L can be read from the address a0 on. -/
def WLies (w : World) (a0 : Option Addr) (L : List Nat) : Prop :=
  L = [] ∨ ∃ b off, a0 = some ⟨b, off, none⟩ ∧ ∀ i, i < L.length → w.cell? ⟨b, off + i, none⟩ = some (.int .u32 ((L.getD i 0 : Nat) : Int))
theorem WLies.below {w w' : World} {a0 : Option Addr} {L : List Nat} (h : WLies w a0 L) (hb : Below w.heap.size w w') : WLies w' a0 L := by
  rcases h with h | ⟨b, off, h1, h2⟩
  · exact .inl h
  · refine .inr ⟨b, off, h1, fun i hi => ?_⟩
    rw [← h2 i hi]
    exact hb.cell (World.block_lt_of_cell? _ _ (h2 i hi))
theorem WLies.take {w : World} {a0 : Option Addr} {L : List Nat} (h : WLies w a0 L) (k : Nat) : WLies w a0 (L.take k) := by
  rcases h with h | ⟨b, off, h1, h2⟩
  · exact .inl (by rw [h]; simp)
  · refine .inr ⟨b, off, h1, fun i hi => ?_⟩
    rw [List.length_take] at hi
    rw [h2 i (by omega), List.getD_eq_getElem?_getD, List.getD_eq_getElem?_getD, List.getElem?_take_of_lt (by omega)]
end Go.Proofs.YtbmphhiafepnoaaDoor



namespace Go.Proofs.YtbmphhiafepnoaaDoor
open Go.RowKit

/-- The elements l lie at an address. -/
def ElAt (w : World) (a : Option Addr) (l : List El) : Prop := l = [] ∨ ∃ b o, a = some ⟨b, o, none⟩ ∧ ∀ k, k < l.length → w.cell? ⟨b, o + k * 3, none⟩ = some (.int .i64 (((l.getD k (0, ⟨#[]⟩, ⟨#[]⟩)).1 : Nat) : Int)) ∧ w.cell? ⟨b, o + k * 3 + 1, none⟩ = some (.string (l.getD k (0, ⟨#[]⟩, ⟨#[]⟩)).2.1) ∧ w.cell? ⟨b, o + k * 3 + 2, none⟩ = some (.string (l.getD k (0, ⟨#[]⟩, ⟨#[]⟩)).2.2)
theorem ElAt.below {w w' : World} {a : Option Addr} {l : List El} (h : ElAt w a l) (hb : Below w.heap.size w w') : ElAt w' a l := by
  rcases h with h | ⟨b, o, h1, h2⟩
  · exact .inl h
  · refine .inr ⟨b, o, h1, fun i hi => ?_⟩
    obtain ⟨c0, c1, c2⟩ := h2 i hi
    exact ⟨(hb.cell (block_lt c0)).trans c0, (hb.cell (block_lt c1)).trans c1, (hb.cell (block_lt c2)).trans c2⟩
/-! ### The closure next -/
end Go.Proofs.YtbmphhiafepnoaaDoor





namespace Go.Proofs.YtbmphhiafepnoaaDoor
open Go.RowKit

/-- The slice value v, of memory from block B on, holds the texts ss. -/
def OwnT (w : World) (B : Nat) (v : Value) (ss : List ByteArray) : Prop := w.ownsRow B 9 1 v ss.length (ss.map Value.string)
theorem OwnT.cells {w : World} {B N : Nat} {v : Value} {ss : List ByteArray} (h : OwnT w B v ss) (hN : N = ss.length) (h0 : ss ≠ []) :
    ∃ g cp, v = .slice (some ⟨g, 0, none⟩) N cp ∧ g < w.heap.size ∧ B ≤ g ∧ N ≤ cp ∧ ∀ j, j < N → w.cell? ⟨g, j, none⟩ = some (.string (ss.getD j ⟨#[]⟩)) := by
  subst hN
  rcases h.2 with ⟨_, h1⟩ | ⟨g, cap, cur, rfl, hB, hg, hn, _, hcs, htk⟩
  · exact absurd (List.eq_nil_of_length_eq_zero h1) h0
  · refine ⟨g, cap, rfl, (Array.getElem?_eq_some_iff.1 hg).1, hB, hn, fun j hj => ?_⟩
    rw [cell_of_row w g j _ _ _ hg]
    have : (cur.toList.take (ss.length * 1))[j]? = some (.string ss[j]) := by rw [htk]; simp [hj]
    rw [List.getElem?_take_of_lt (by omega)] at this
    rw [List.getD_eq_getElem?_getD, List.getElem?_eq_getElem hj]
    simpa using this
end Go.Proofs.YtbmphhiafepnoaaDoor
namespace Go.Proofs.YtbmphhiafepnoaaDoor
open Go.RowKit

theorem OwnT.reads {w : World} {B : Nat} {v : Value} {ss : List ByteArray} (h : OwnT w B v ss) : Reads w v ss := by
  rcases h.2 with ⟨hv, h0⟩ | ⟨g, cap, cur, hv, hB, hg, hn, _, hcs, htk⟩
  · exact ⟨none, 0, by rw [hv, h0], .inl (List.eq_nil_of_length_eq_zero h0)⟩
  · refine ⟨_, cap, hv, .inr ⟨g, 0, rfl, fun j hj => ?_⟩⟩
    rw [cell_of_row w g _ _ _ _ hg]
    have : (cur.toList.take (ss.length * 1))[j]? = some (.string ss[j]) := by rw [htk]; simp [hj]
    rw [List.getElem?_take_of_lt (by omega)] at this
    rw [List.getD_eq_getElem?_getD, List.getElem?_eq_getElem hj, Nat.zero_add]
    simpa using this
end Go.Proofs.YtbmphhiafepnoaaDoor

namespace Go.Proofs.YtbmphhiafepnoaaDoor
open Go.RowKit

set_option maxRecDepth 100000 in
set_option maxHeartbeats 2000000 in
theorem damage_all (p : Nat) (a : Option Addr) (cap : Nat) (zs : List Int) (k : Nat) (s : ByteArray) (w : World) (h : DeckAt w p a cap zs k) (hk : k ≤ 29990) (hs : s.size ≤ 1099511627000) :
    Calls Tryd.prog 19 #[.pointer (some ⟨p, 0, none⟩), .string s] w fun e w' => ∃ (u : ByteArray) (k' : Nat), e = .returned (.string u) ∧ u.size ≤ s.size + 1 ∧ DeckAt w' p a cap zs k' ∧ k' ≤ k + 3 ∧ But p w w' := by
  by_cases h0 : s.size = 0
  · obtain rfl := empty_of_size h0
    have HD := Lib.hid h
    clear h hk hs h0
    go_enter Tryd.func19, Tryd.ntmps19
    go_wp2_with fail
    go_ret
    exact ⟨_, _, rfl, Nat.zero_le _, HD.out, by omega, But.refl _ _⟩
  · exact damage_but p a cap zs k s w h hk h0 hs
end Go.Proofs.YtbmphhiafepnoaaDoor
namespace Go.Proofs.YtbmphhiafepnoaaDoor
open Go.RowKit

theorem recV_tuple (id dg s : ByteArray) (leaf : Int) : ∃ (r : ByteArray) (n : Nat), recV id leaf dg s = .tuple #[.string r, .int .i64 (n : Int)] := by
  unfold recV
  split
  · exact ⟨_, 0, rfl⟩
  · exact ⟨_, _, rfl⟩
set_option maxRecDepth 100000 in
set_option maxHeartbeats 2000000 in
theorem reclaw (hD : DigP) (hR : RecP) (k leaf : Nat) (hk : k < 256) (hl : leaf < 256) (s t : ByteArray) (a : Option Addr) (cap : Nat) (zs : List Int) (w : World) (hli : ILies w a zs) (hz : zs.length ≤ 9223372036854775807) (hK : Holds w 0 kWords) :
    Calls Tryd.prog 6 #[.int .u8 (k : Int), .int .u8 (leaf : Int), .string s, .string t, .slice a zs.length cap] w fun e w' => e = .returned (.bool true) ∧ Below w.heap.size w w' := by
  have HK := Lib.hid hK
  have HAW := Lib.hid (awakeq_any hD)
  have HZ : Hid (Below w.heap.size w w) := Lib.hid (Below.refl w.heap.size w)
  have HN := Lib.hid (new_any a cap zs w hli hz)
  obtain ⟨n, hn⟩ : ∃ n, n = s.size := ⟨_, rfl⟩
  have hni : (s.size : Int) = (n : Int) := by rw [hn]
  obtain ⟨m, hm⟩ : ∃ m, m = t.size := ⟨_, rfl⟩
  have hmi : (t.size : Int) = (m : Int) := by rw [hm]
  obtain ⟨z, hzz⟩ : ∃ z, z = zs.length := ⟨_, rfl⟩
  rw [← hzz] at HN ⊢
  clear hli hz
  by_cases h60 : 60 < n
  · have d1 : decide ((60 : Int) < (n : Int)) = true := by simp; omega
    clear hn hm hzz
    go_enter Tryd.func6, Tryd.ntmps6
    go_wp2_with (first | (go_at_call 12; (with_reducible refine (HAW.out _).mono ?_); rintro e w9 ⟨rfl, hb9⟩; have HZ := Lib.hid (HZ.out.next hb9); clear hb9))
    go_ret
    exact ⟨rfl, HZ.out⟩
  · have d1 : decide ((60 : Int) < (n : Int)) = false := by simp; omega
    by_cases h61 : 60 < m
    · have d2 : decide ((60 : Int) < (m : Int)) = true := by simp; omega
      clear hn hm hzz
      go_enter Tryd.func6, Tryd.ntmps6
      go_wp2_with (first | (go_at_call 12; (with_reducible refine (HAW.out _).mono ?_); rintro e w9 ⟨rfl, hb9⟩; have HZ := Lib.hid (HZ.out.next hb9); clear hb9))
      go_ret
      exact ⟨rfl, HZ.out⟩
    have d2 : decide ((60 : Int) < (m : Int)) = false := by simp; omega
    have hs60 : s.size ≤ 1000 := by omega
    have ht60 : t.size ≤ 1000 := by omega
    clear hn hm hzz
    obtain ⟨I, hI⟩ : ∃ I, I = idS k := ⟨_, rfl⟩
    obtain ⟨E, hE⟩ : ∃ E, E = seedS k := ⟨_, rfl⟩
    obtain ⟨G, hG⟩ : ∃ G, G = dgS s := ⟨_, rfl⟩
    obtain ⟨J, hJ⟩ : ∃ J, J = dgS t := ⟨_, rfl⟩
    obtain ⟨S, hSg⟩ : ∃ S, S = sigS (idS k) (seedS k) leaf (digs (dgS s).data.toList) := ⟨_, rfl⟩
    have hV : sigV I E (leaf : Int) G = .tuple #[.string S, .int .i64 0] := by rw [hI, hE, hG, hSg]; exact sig_ok k leaf hl s
    have HSs := Lib.hid (show S.size = 560 by rw [hSg]; exact sigS_size _ _ _ _)
    obtain ⟨p, hp⟩ : ∃ p, p = w.heap.size := ⟨_, rfl⟩
    have HPP := Lib.hid hp
    have HI : Hid (∀ W : World, Calls Tryd.prog 9 #[.int .u8 (k : Int)] W fun e w' => e = .returned (.string I) ∧ Below W.heap.size W w') := Lib.hid fun W => by rw [hI]; exact idq_any k hk W
    have HE : Hid (∀ W : World, Calls Tryd.prog 10 #[.int .i64 (k : Int)] W fun e w' => e = .returned (.string E) ∧ Below W.heap.size W w') := Lib.hid fun W => by rw [hE]; exact seedq_any k (by omega) W
    have HG : Hid (∀ W : World, Calls Tryd.prog 14 #[.string s] W fun e w' => e = .returned (.string G) ∧ Below W.heap.size W w') := Lib.hid fun W => by rw [hG]; exact dgq_any s hs60 W
    have HJ : Hid (∀ W : World, Calls Tryd.prog 14 #[.string t] W fun e w' => e = .returned (.string J) ∧ Below W.heap.size W w') := Lib.hid fun W => by rw [hJ]; exact dgq_any t ht60 W
    have HSG : Hid (∀ W : World, Calls Tryd.prog 15 #[.string I, .string E, .int .i64 (leaf : Int), .string G] W fun e w' => e = .returned (.tuple #[.string S, .int .i64 0]) ∧ Below W.heap.size W w') := Lib.hid fun W => by rw [← hV]; exact rsgn_any I E G (leaf : Int) W
    have HPR : Hid (∀ (u : ByteArray) (W : World), Holds W 0 kWords → Calls Tryd.prog 16 #[.string I, .int .i64 (leaf : Int), .string J, .string u] W fun e w' => e = .returned (recV I (leaf : Int) J u) ∧ Below W.heap.size W w') := Lib.hid fun u W h => hR I J u (leaf : Int) W h
    have HRR : Hid (∀ (u : ByteArray) (W : World), Calls Tryd.prog 17 #[.string I, .int .i64 (leaf : Int), .string J, .string u] W fun e w' => e = .returned (recV I (leaf : Int) J u) ∧ Below W.heap.size W w') := Lib.hid fun u W => rrec_any I J u (leaf : Int) W
    clear hI hE hG hJ hSg hV hp
    go_enter Tryd.func6, Tryd.ntmps6
    go_wp2_with (first | (go_at_call 18; (with_reducible refine HN.out.mono ?_); rintro e w0 ⟨rfl, hd0, hb0⟩; rw [← HPP.out] at hd0 ⊢; have HDK := Lib.hid hd0; have HZ := Lib.hid hb0; clear hd0 hb0) | (go_at_call 9; (with_reducible refine (HI.out _).mono ?_); rintro e w1 ⟨rfl, hb1⟩; have HZ := Lib.hid (HZ.out.next hb1); have HDK := Lib.hid (HDK.out.below hb1); clear hb1) | (go_at_call 10; (with_reducible refine (HE.out _).mono ?_); rintro e w2 ⟨rfl, hb2⟩; have HZ := Lib.hid (HZ.out.next hb2); have HDK := Lib.hid (HDK.out.below hb2); clear hb2) | (go_at_call 14; (with_reducible refine (HG.out _).mono ?_); rintro e w3 ⟨rfl, hb3⟩; have HZ := Lib.hid (HZ.out.next hb3); have HDK := Lib.hid (HDK.out.below hb3); clear hb3) | (go_at_call 14; (with_reducible refine (HJ.out _).mono ?_); rintro e w4 ⟨rfl, hb4⟩; have HZ := Lib.hid (HZ.out.next hb4); have HDK := Lib.hid (HDK.out.below hb4); clear hb4) | (go_at_call 15; (with_reducible refine (HSG.out _).mono ?_); rintro e w5 ⟨rfl, hb5⟩; have HZ := Lib.hid (HZ.out.next hb5); have HDK := Lib.hid (HDK.out.below hb5); clear hb5) | (go_at_call 19; (with_reducible refine (damage_all p a cap zs 0 S _ HDK.out (by decide) (by rw [HSs.out]; decide)).mono ?_); rintro e w6 ⟨u, k6, rfl, hu6, hd6, hk6, hb6⟩; obtain ⟨R, r, hRV⟩ := recV_tuple I J u (leaf : Int); have HRV := Lib.hid hRV; have HZ := Lib.hid (HZ.out.trans ((hb6.below (Nat.le_of_lt HDK.out.lt)).mono (Nat.le_of_eq HPP.out.symm))); have HDK := Lib.hid hd6; clear hd6 hb6 hRV) | (go_at_call 16; (with_reducible refine (HPR.out _ _ (HK.out.old HZ.out)).mono ?_); rintro e w7 ⟨he, hb7⟩; obtain rfl : e = .returned (.tuple #[.string R, .int .i64 (r : Int)]) := (by rw [he, HRV.out]); have HZ := Lib.hid (HZ.out.next hb7); have HDK := Lib.hid (HDK.out.below hb7); clear hb7) | (go_at_call 17; (with_reducible refine (HRR.out _ _).mono ?_); rintro e w8 ⟨he, hb8⟩; obtain rfl : e = .returned (.tuple #[.string R, .int .i64 (r : Int)]) := (by rw [he, HRV.out]); have HZ := Lib.hid (HZ.out.next hb8); have HDK := Lib.hid (HDK.out.below hb8); clear hb8) | (go_at_call 12; (with_reducible refine (HAW.out _).mono ?_); rintro e w9 ⟨rfl, hb9⟩; have HZ := Lib.hid (HZ.out.next hb9); clear hb9))
    go_ret
    exact ⟨rfl, HZ.out⟩
end Go.Proofs.YtbmphhiafepnoaaDoor
