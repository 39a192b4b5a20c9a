/-
  The walk of the law NameCheck: for every name, list of numbers and attribute it returns true, and leaves all that was there as it was.
-/
import Derived.Test.YtfpfgdbfigdooaaGreatDoorCbb
import Derived.Test.YtfpfgdbfigdooaaGreatDoorCbc
import Derived.Test.YtfpfgdbfigdooaaGreatDoorCbs
namespace Go.Proofs.YtfpfgdbfigdooaaGreatDoor
open Go.RowKit

theorem next_lit5 (p : Nat) (a : Option Addr) (cap : Nat) (zs : List Int) (k : Nat) (w : World) (h : DeckAt w p a cap zs k) (hk : k < 1000) :
    Calls Tryz.prog 12 #[.pointer (some ⟨p, 0, none⟩), .int .i64 5] w fun e w' => ∃ r k' : Nat, r < 5 ∧ e = .returned (.int .i64 (r : Int)) ∧ DeckAt w' p a cap zs k' ∧ k' ≤ k + 1 ∧ But p w w' :=
  next_any p a cap zs k 5 w h hk (by omega) (by omega)
theorem next_lit4 (p : Nat) (a : Option Addr) (cap : Nat) (zs : List Int) (k : Nat) (w : World) (h : DeckAt w p a cap zs k) (hk : k < 1000) :
    Calls Tryz.prog 12 #[.pointer (some ⟨p, 0, none⟩), .int .i64 4] w fun e w' => ∃ r k' : Nat, r < 4 ∧ e = .returned (.int .i64 (r : Int)) ∧ DeckAt w' p a cap zs k' ∧ k' ≤ k + 1 ∧ But p w w' :=
  next_any p a cap zs k 4 w h hk (by omega) (by omega)
theorem next_lit9 (p : Nat) (a : Option Addr) (cap : Nat) (zs : List Int) (k : Nat) (w : World) (h : DeckAt w p a cap zs k) (hk : k < 1000) :
    Calls Tryz.prog 12 #[.pointer (some ⟨p, 0, none⟩), .int .i64 9] w fun e w' => ∃ r k' : Nat, r < 9 ∧ e = .returned (.int .i64 (r : Int)) ∧ DeckAt w' p a cap zs k' ∧ k' ≤ k + 1 ∧ But p w w' :=
  next_any p a cap zs k 9 w h hk (by omega) (by omega)
def polL : List ByteArray := [⟨#[49, 46, 50, 46, 51, 46, 49]⟩, ⟨#[49, 46, 50, 46, 51, 46, 50]⟩, ⟨#[49, 46, 50, 46, 51, 46, 51]⟩, ⟨#[49, 46, 50, 46, 51, 46, 52]⟩, ⟨#[49, 46, 50, 46, 51, 46, 53]⟩, ⟨#[50, 46, 57, 57, 57, 46, 49]⟩, ⟨#[50, 46, 57, 57, 57, 46, 50]⟩, ⟨#[49, 46, 50, 46, 51]⟩, ⟨#[50, 46, 53, 46, 50, 57, 46, 51, 50, 46, 48]⟩]
theorem polL_size : ∀ k, k < 9 → (polL.getD k ⟨#[]⟩).size ≤ 1000000 := by decide
def polA : Array Value := #[.string ⟨#[49, 46, 50, 46, 51, 46, 49]⟩, .string ⟨#[49, 46, 50, 46, 51, 46, 50]⟩, .string ⟨#[49, 46, 50, 46, 51, 46, 51]⟩, .string ⟨#[49, 46, 50, 46, 51, 46, 52]⟩, .string ⟨#[49, 46, 50, 46, 51, 46, 53]⟩, .string ⟨#[50, 46, 57, 57, 57, 46, 49]⟩, .string ⟨#[50, 46, 57, 57, 57, 46, 50]⟩, .string ⟨#[49, 46, 50, 46, 51]⟩, .string ⟨#[50, 46, 53, 46, 50, 57, 46, 51, 50, 46, 48]⟩]
theorem polA_at (m : Nat) (h : m < 9) : polA[m]? = some (.string (polL.getD m ⟨#[]⟩)) := by
  have e : polA = (polL.map Value.string).toArray := rfl
  rw [e, List.getElem?_toArray, List.getElem?_map, List.getD_eq_getElem?_getD, List.getElem?_eq_getElem (show m < polL.length from h)]
  rfl
set_option maxRecDepth 100000 in
set_option maxHeartbeats 1000000 in
theorem policy_any (r : Nat) (hr : r < 9) (w : World) :
    Calls Tryz.prog 13 #[.int .i64 (r : Int)] w fun e w' => (∃ s : ByteArray, e = .returned (.string s) ∧ s.size ≤ 1000000) ∧ Below w.heap.size w w' := by
  have hm : (r : Int).tmod 9 = (r : Int) := by rw [Int.tmod_eq_emod_of_nonneg (by omega)]; omega
  have hm2 : (r : Int) % 9 = (r : Int) := by omega
  have hc : (w.alloc (.cells polA 9)).cell? ⟨w.heap.size, r, none⟩ = some (.string (polL.getD r ⟨#[]⟩)) := by
    rw [cell_of_row _ _ r _ _ _ (heap_alloc_new w _)]; exact polA_at r hr
  have HSZ := Lib.hid (polL_size r hr)
  unfold polA at hc
  generalize polL.getD r ⟨#[]⟩ = s at hc HSZ
  go_enter Tryz.func13, Tryz.ntmps13
  go_wp2_with fail
  go_ret
  exact ⟨⟨s, rfl, HSZ.out⟩, belowNew w _⟩

theorem ok_short {n : Nm} (h : NameOk n) : ∀ i, i < n.length → (n.getD i []).length ≤ 9223372036854775807 ∧ ∀ j, j < (n.getD i []).length → ((n.getD i []).getD j noAt).1.size ≤ 9223372036854775807 ∧ ((n.getD i []).getD j noAt).2.2.size ≤ 9223372036854775807 :=
  fun i hi => ⟨(h.2 i hi).1, fun j hj => ⟨((h.2 i hi).2 j hj).1, ((h.2 i hi).2 j hj).2.1⟩⟩
/-- Each relative name of a name of a call's own is a row of a call's own. -/
theorem OwnN.row {w : World} {B N c : Nat} {a : Option Addr} {n : Nm} (h : OwnN w B (.slice a N c) n) (i : Nat) (hi : i < n.length) : ∃ b v, a = some ⟨b, 0, none⟩ ∧ b < w.heap.size ∧ w.cell? ⟨b, i, none⟩ = some v ∧ OwnA w B v (n.getD i []) := by
  obtain ⟨vs, h1, h2, h3⟩ := h
  have hh := h2
  rcases h2.2 with ⟨hv, h0⟩ | ⟨g, cap, cur, hv, _, hg, _⟩
  · omega
  · obtain ⟨rfl, _⟩ : a = some ⟨g, 0, none⟩ ∧ _ := by simpa using hv
    refine ⟨g, vs.getD i (.slice none 0 0), rfl, (Array.getElem?_eq_some_iff.1 hg).1, ?_, h3 i hi⟩
    rw [hv] at hh
    rw [World.ownsRow.cellAt hh i (by omega), List.getD_eq_getElem?_getD, List.getElem?_eq_getElem (by omega)]
    rfl
theorem OwnN.rl {w : World} {B N c : Nat} {a : Option Addr} {n : Nm} (h : OwnN w B (.slice a N c) n) : RLies w a n := by
  obtain ⟨a', c', e, _, hh⟩ := h.lies
  have e1 : a = a' := by injection e
  rw [e1]; exact hh
/-- What the loop of the law wants of memory. -/
def ChkSt (w V : World) (g b8 : Nat) (aR aN : Option Addr) (NR cR N cN : Nat) (r : Nm) : Prop :=
  V.cell? ⟨g, 0, none⟩ = some (.slice aR NR cR) ∧ V.cell? ⟨b8, 0, none⟩ = some (.slice aN N cN) ∧ RLies V aR r ∧ (∃ n', RLies V aN n' ∧ N = n'.length ∧ SmallN n') ∧ Below w.heap.size w V

theorem chkSt_mk {w w1 V : World} {g b8 : Nat} {aR aN : Option Addr} {NR cR N cN : Nat} {r n : Nm} (h0 : Below w.heap.size w w1) (h5 : Below w1.heap.size w1 V) (c31 : w1.cell? ⟨g, 0, none⟩ = some (.slice aR NR cR)) (lr : RLies w1 aR r)
    (c8 : V.cell? ⟨b8, 0, none⟩ = some (.slice aN N cN)) (hn : RLies V aN n) (hN : N = n.length) (hs : SmallN n) : ChkSt w V g b8 aR aN NR cR N cN r :=
  ⟨(h5.cell (p := ⟨g, 0, none⟩) (block_lt c31)).trans c31, c8, lr.below h5, ⟨n, hn, hN, hs⟩, below_next h0 h5⟩
theorem same_block {g g' n n' c c' : Nat} (e : Value.slice (some ⟨g, 0, none⟩) n c = .slice (some ⟨g', 0, none⟩) n' c') : g = g' :=
  congrArg (fun v => match v with | Value.slice (some q) _ _ => q.block | _ => 0) e
theorem ints_at4 (w : World) : ∀ j, j < 4 → ∃ z : Int, (w.alloc (.cells #[.int .i64 12, .int .i64 22, .int .i64 19, .int .i64 4] 3)).cell? ⟨w.heap.size, j, none⟩ = some (.int .i64 z) := by
  intro j hj
  rw [cell_of_row _ _ j _ _ _ (heap_alloc_new w _)]
  rcases (by omega : j = 0 ∨ j = 1 ∨ j = 2 ∨ j = 3) with rfl | rfl | rfl | rfl <;> exact ⟨_, rfl⟩

set_option maxRecDepth 100000 in
set_option maxHeartbeats 8000000 in
theorem chklaw (u0 : Value) (r : Nm) (a : Option Addr) (cap : Nat) (zs : List Int) (y : At) (w : World) (h1 : NameV w u0 r) (q1 : NameOk r) (hl : ILies w a zs) (hz : zs.length ≤ 9223372036854775807) (hy : AtOk y) (hT : Tab w) (hS : ShT w) :
    Calls Tryz.prog 3 #[u0, .slice a zs.length cap, .agg #[.string y.1, .int .i64 y.2.1, .string y.2.2]] w fun e w' => e = .returned (.bool true) ∧ Below w.heap.size w w' := by
  obtain ⟨aR, cR, rfl, hcR, lR⟩ := h1
  obtain ⟨yt, yk, yv⟩ := y
  obtain ⟨NR, hNR⟩ : ∃ NR, NR = r.length := ⟨_, rfl⟩
  rw [← hNR] at hcR ⊢
  obtain ⟨g, hg⟩ : ∃ g, g = w.heap.size := ⟨_, rfl⟩
  obtain ⟨W, hW⟩ : ∃ W, W = (w.alloc (.cells #[.slice aR NR cR] 24)).alloc (.cells #[.string yt, .int .i64 yk, .string yv] 27) := ⟨_, rfl⟩
  have hb : Below w.heap.size w W := by rw [hW]; exact belowTwo w _ _
  have k0 : W.cell? ⟨g, 0, none⟩ = some (.slice aR NR cR) := by
    rw [hg, hW, World.cell?_alloc_old _ _ _ (by simp), cell_of_row _ _ 0 _ _ _ (heap_alloc_new w _)]; rfl
  have kq : W.heap[g + 1]? = some (.cells #[.string yt, .int .i64 yk, .string yv] 27 (0, 0)) := by
    have := heap_alloc_new (w.alloc (.cells #[.slice aR NR cR] 24)) (.cells #[.string yt, .int .i64 yk, .string yv] 27)
    rw [← hW] at this
    rw [hg]
    simpa using this
  have HWE := Lib.hid (show (w.alloc (.cells #[.slice aR NR cR] 24)).alloc (.cells #[.string yt, .int .i64 yk, .string yv] 27) = W from hW.symm)
  have HG := Lib.hid hg
  have HB := Lib.hid hb
  have HLR := Lib.hid (lR.below hb)
  have HNR := Lib.hid hNR
  have HT := Lib.hid (hT.below hb)
  have HS := Lib.hid (hS.below hb)
  have HAW := Lib.hid (fun V (hb : Below w.heap.size w V) => awake_any V (hT.below hb) (hS.below hb))
  have HTA := Lib.hid (fun V (hb : Below w.heap.size w V) => hT.below hb)
  have HIL := Lib.hid (fun V (hb : Below w.heap.size w V) => hl.below hb (fun x hx hne => by
    rcases hl with h | ⟨b, o, rfl, h⟩
    · exact absurd h hne
    · obtain rfl := Option.some.inj hx
      cases zs with
      | nil => exact absurd rfl hne
      | cons z t => exact block_lt (h 0 (by simp))))
  have HZ := Lib.hid hz
  have HQ1 := Lib.hid q1
  have HK0 := Lib.hid k0
  have HKQ := Lib.hid kq
  have hyt : yt.size ≤ 9223372036854775807 := hy.1
  have hyv : yv.size ≤ 9223372036854775807 := hy.2.1
  obtain ⟨k1, k2, k3, _, _, _, hlk⟩ := at_facts kq
  clear hW hb lR hNR hcR hT hS hl hz q1 hg kq hy
  go_enter Tryz.func3, Tryz.ntmps3
  go_wp2_with fail
  rw [HWE.out, ← HG.out]
  refine (short_core aR cR NR r W HLR.out HNR.out (by rw [HNR.out]; exact HQ1.out.1) (ok_short HQ1.out)).mono ?_
  rintro e w1 ⟨hsh1, hb1⟩
  have HB1 := Lib.hid (below_next HB.out hb1)
  have kq1 := (hb1.block (g + 1) hlk).trans HKQ.out
  have c31 := (hb1.cell (p := ⟨g, 0, none⟩) (block_lt k0)).trans k0
  have HC31 := Lib.hid c31
  have HLR1 := Lib.hid (HLR.out.below hb1)
  have HKQ1 := Lib.hid kq1
  obtain ⟨j1, j2, j3, _, _, _, hlk1⟩ := at_facts kq1
  clear hb1 k0 k1 k2 k3 kq1 hlk c31
  rcases hsh1 with ⟨rfl, hsh1⟩ | rfl
  case inr =>
    go_wp2_with (go_at_call 9; (with_reducible refine (HAW.out _ HB1.out).mono ?_); rintro e w2 ⟨rfl, hb2⟩; have HB2 := Lib.hid (below_next HB1.out hb2); clear hb2)
    go_ret
    exact ⟨rfl, HB2.out⟩
  have HSH1 := Lib.hid hsh1.small
  clear hsh1
  by_cases hby : 200 < yt.size
  · have hd1 : decide ((200 : Int) < (yt.size : Int)) = true := by simp; omega
    go_wp2_with (go_at_call 9; (with_reducible refine (HAW.out _ HB1.out).mono ?_); rintro e w2 ⟨rfl, hb2⟩; have HB2 := Lib.hid (below_next HB1.out hb2); clear hb2)
    go_ret
    exact ⟨rfl, HB2.out⟩
  have hd1 : decide ((200 : Int) < (yt.size : Int)) = false := by simp; omega
  by_cases hbv : 200 < yv.size
  · have hd2 : decide ((200 : Int) < (yv.size : Int)) = true := by simp; omega
    go_wp2_with (go_at_call 9; (with_reducible refine (HAW.out _ HB1.out).mono ?_); rintro e w2 ⟨rfl, hb2⟩; have HB2 := Lib.hid (below_next HB1.out hb2); clear hb2)
    go_ret
    exact ⟨rfl, HB2.out⟩
  have hd2 : decide ((200 : Int) < (yv.size : Int)) = false := by simp; omega
  have HYT := Lib.hid (show yt.size ≤ 1000000 by omega)
  have HYV := Lib.hid (show yv.size ≤ 1000000 by omega)
  clear hby hbv
  go_wp2_with fail
  refine (new_any a cap zs w1 (HIL.out _ HB1.out) HZ.out).mono ?_
  rintro e w2 ⟨rfl, hd2', hb2⟩
  obtain ⟨p, hp⟩ : ∃ p, p = w1.heap.size := ⟨_, rfl⟩
  rw [← hp] at hd2' ⊢
  have hpw : p < w2.heap.size := hd2'.lt
  have HBP := Lib.hid (fun V (h : Below p w2 V) => (show Below w1.heap.size w1 V from hb2.trans (by rw [← hp]; exact h)))
  have HD2 := Lib.hid hd2'
  have HP := Lib.hid hp
  clear hd1 hd2 hd2' hb2 j1 j2 j3 hlk1 hp
  go_wp2_with fail
  refine (name_any p a cap zs 0 w2 HD2.out (by omega)).mono ?_
  rintro e w3 ⟨v3, n, k3, hmade, rfl, ⟨s3, rfl, hown3⟩, hd3, hk3, hb3⟩
  obtain ⟨aN, cN, rfl, hcN, _⟩ := hown3.lies
  have HSMN := Lib.hid (small_of_sp (spN_of_made hmade) (by omega))
  have HMD := Lib.hid hmade
  obtain ⟨N, hN⟩ : ∃ N, N = n.length := ⟨_, rfl⟩
  rw [← hN] at hown3 hcN ⊢
  have HNE := Lib.hid hN
  obtain ⟨b8, hb8⟩ : ∃ b8, b8 = w3.heap.size := ⟨_, rfl⟩
  obtain ⟨W4, hW4⟩ : ∃ W4, W4 = w3.alloc (.cells #[.slice aN N cN] 24) := ⟨_, rfl⟩
  have hw4 : w3.alloc (.cells #[.slice aN N cN] 24) = W4 := hW4.symm
  have c8 : W4.cell? ⟨b8, 0, none⟩ = some (.slice aN N cN) := by rw [hW4, hb8]; exact (one_facts (heap_alloc_new w3 _)).1
  have hnew : Below w3.heap.size w3 W4 := by rw [hW4]; exact belowNew w3 _
  have HO4 := Lib.hid (hown3.below hnew)
  have HD4 := Lib.hid (hd3.below hnew)
  have HB4 := Lib.hid (show But p w2 W4 from hb3.next (But.of hnew))
  have hlt8 : b8 < W4.heap.size := block_lt c8
  have hpb : p < b8 := by rw [hb8]; exact hd3.lt
  have HTW := Lib.hid (fun X (h : Below w.heap.size w X) => HTA.out X h)
  have HW4 := Lib.hid hw4
  have HB8 := Lib.hid hb8
  have hN3 : N ≤ 3 := by rw [hN]; exact hmade.1
  clear hown3 hd3 hb3 hnew hmade hN hW4 hb8
  have HC8 := Lib.hid c8
  clear c8 hw4
  by_cases hn0 : N = 0
  · have hd5 : decide ((0 : Int) < (N : Int)) = false := by simp; omega
    have hd6 : decide (0 < N) = false := by simp; omega
    have HST := Lib.hid (show ChkSt w W4 g b8 aR aN NR cR N cN r from by
      have h5 := HBP.out W4 (HB4.out.below (Nat.le_of_lt hpw))
      exact ⟨(h5.cell (p := ⟨g, 0, none⟩) (block_lt HC31.out)).trans HC31.out, HC8.out, HLR1.out.below h5, ⟨n, HO4.out.rl, HNE.out, HSMN.out⟩, below_next HB1.out h5⟩)
    obtain ⟨e3, e8, eR, ⟨n', eN, hN', hsn⟩, eB⟩ := HST.out
    have HER := Lib.hid eR
    have HEN' := Lib.hid eN
    have HNL := Lib.hid hN'
    have HSNL := Lib.hid hsn
    have HEB := Lib.hid eB
    clear eR eN hN' hsn eB
    have hw4 := HW4.out
    have hb8' := HB8.out.symm
    clear hn0
    go_wp2_with fail
    clear hw4 hb8'
    have hsz : (W4).heap.size = W4.heap.size := by first | rfl | simp [World.setCell]
    have hrow : ∀ kq, kq < 2 → ∃ (a' : Option Addr) (c' len : Nat) (nn : Nm), ((W4).alloc (.cells #[.slice aR NR cR, .slice aN N cN] 24)).cell? ⟨W4.heap.size, kq, none⟩ = some (.slice a' len c') ∧ RLies ((W4).alloc (.cells #[.slice aR NR cR, .slice aN N cN] 24)) a' nn ∧ len = nn.length ∧ SmallN nn := by
      intro kq hkq
      have hc : ∀ j, ((W4).alloc (.cells #[.slice aR NR cR, .slice aN N cN] 24)).cell? ⟨W4.heap.size, j, none⟩ = (#[Value.slice aR NR cR, .slice aN N cN] : Array Value)[j]? := fun j => by
        rw [← hsz]
        exact cell_of_row _ _ j _ _ _ (heap_alloc_new (W4) _)
      rcases (by omega : kq = 0 ∨ kq = 1) with rfl | rfl
      · exact ⟨aR, cR, NR, r, hc 0, HER.out.below (belowNew (W4) _), HNR.out, HSH1.out⟩
      · exact ⟨aN, cN, N, n', hc 1, HEN'.out.below (belowNew (W4) _), HNL.out, HSNL.out⟩
    have HROW := Lib.hid hrow
    have HBV := Lib.hid (below_next HEB.out (belowNew (W4) (.cells #[.slice aR NR cR, .slice aN N cN] 24)))
    clear hrow e3 e8
    generalize (W4).alloc (.cells #[.slice aR NR cR, .slice aN N cN] 24) = VV at HROW HBV ⊢
    clear hsz
    generalize W4.heap.size = G at HROW ⊢
    go_loopw [94] (fun i ws => ∃ k : Nat, k ≤ 2 ∧ i = .int .i64 k ∧ Below VV.heap.size VV ws) (fun i _ => 2 - (intOf i).toNat)
    case atStart => exact ⟨0, Nat.zero_le _, rfl, Below.refl _ _⟩
    case round =>
      obtain ⟨ws, hws⟩ : ∃ ws, ws = wr := ⟨_, rfl⟩
      subst hws
      obtain ⟨q4, hq4, rfl, hb⟩ := hrel
      have HBS := Lib.hid hb
      by_cases hlt4 : q4 < 2
      · have hd4 : decide ((q4 : Int) < 2) = true := by simp; omega
        obtain ⟨a', c', len, nn, hcl, hrl, hlen, hsmn⟩ := HROW.out q4 hlt4
        have c0 := (hb.cell (p := ⟨G, q4, none⟩) (block_lt hcl)).trans hcl
        have HRL := Lib.hid (hrl.below hb)
        have HLE := Lib.hid hlen
        have HSN := Lib.hid hsmn
        have HTB := Lib.hid (fun X (h : Below ws.heap.size ws X) => HTW.out X (below_next (below_next HBV.out HBS.out) h))
        obtain ⟨E, hE⟩ : ∃ E, E = chkN nn := ⟨_, rfl⟩
        obtain ⟨S, hS⟩ : ∃ S, S = encV nn := ⟨_, rfl⟩
        have HEN := Lib.hid (fun X (h : Below ws.heap.size ws X) => encode_core a' c' len nn X (HRL.out.below h) HLE.out HSN.out (HTB.out X h))
        have HRE := Lib.hid (fun X (h : Below ws.heap.size ws X) => rencode_core a' c' len nn X (HRL.out.below h) HLE.out HSN.out)
        have HCK := Lib.hid (fun X (h : Below ws.heap.size ws X) => chk_core a' c' len nn X (HRL.out.below h) HLE.out HSN.out (HTB.out X h))
        have HRC := Lib.hid (fun X (h : Below ws.heap.size ws X) => rchk_core a' c' len nn X (HRL.out.below h) HLE.out HSN.out)
        rw [← hE] at HEN HRE HCK HRC
        rw [← hS] at HEN HRE
        clear hcl hrl hlen hsmn hb hE hS
        go_wp2_with (first
          | (go_at_call 14; (with_reducible refine (HEN.out _ (belowNew ws _)).mono ?_); rintro e x1 ⟨rfl, hb1⟩; have hq1 := (hb1.block ws.heap.size (by simp)).trans (heap_alloc_new ws _); have HX1 := Lib.hid (below_next (belowNew ws _) hb1); have HQ1 := Lib.hid hq1; obtain ⟨z0, _, z1⟩ := one_facts hq1; clear hb1 hq1)
          | (go_at_call 15; (with_reducible refine (HRE.out _ HX1.out).mono ?_); rintro e x2 ⟨rfl, hb2⟩; have hq2 := (hb2.block ws.heap.size (Array.getElem?_eq_some_iff.1 HQ1.out).1).trans HQ1.out; have HX2 := Lib.hid (below_next HX1.out hb2); have HQ2 := Lib.hid hq2; obtain ⟨z0', _, z1'⟩ := one_facts hq2; clear hb2 hq2))
        have hee : ((E : Int) != (E : Int)) = false := by simp
        have hss : (S.toList == S.toList) = true := by simp
        have hss2 : (S.toList != S.toList) = false := by simp
        have c8 := cell_regrown (one_facts HQ2.out).1
        have cE : ∀ d' os, Calls Tryz.prog 16 #[.agg #[.slice a' len c']] (Sort.grow (redrawn x2 d') os) fun e w'' => e = .returned (.int .i64 (E : Int)) ∧ ∃ p : Regrown, w'' = Sort.grow (redrawn x2 p.d) p.os := fun d' os => Calls.regrown_of (HCK.out _ (below_next HX2.out (below_regrown x2 d' os)))
        have cR' : ∀ d' os, Calls Tryz.prog 17 #[.agg #[.slice a' len c']] (Sort.grow (redrawn x2 d') os) fun e w'' => e = .returned (.int .i64 (E : Int)) ∧ ∃ p : Regrown, w'' = Sort.grow (redrawn x2 p.d) p.os := fun d' os => Calls.regrown_of (HRC.out _ (below_next HX2.out (below_regrown x2 d' os)))
        clear c0 z0 z1 z0' z1'
        refine wp_region_quiet_below (by kernel_rfl) (by kernel_rfl) ?_
        repeat (go_big_quiet_step (with_reducible first | exact cE _ _ | exact cR' _ _))
        refine wpQuiet_nil ?_
        intro _ hw'
        obtain ⟨⟨dq, osq⟩, hw''⟩ := hw'
        subst hw''
        clear c8 cE cR'
        have HBZ := Lib.hid (below_next HX2.out (below_regrown x2 dq osq))
        go_wp2_with fail
        go_roundw
        case rel => exact ⟨q4 + 1, by omega, by go_num, below_next HBS.out HBZ.out⟩
        case measure => simp [intOf]; omega
      · have hd4 : decide ((q4 : Int) < 2) = false := by simp; omega
        have HBW := Lib.hid (below_next HBV.out hb)
        clear hb
        go_wp2_with (go_at_call 9; (with_reducible refine (HAW.out _ HBW.out).mono ?_); rintro e w1 ⟨rfl, hb1⟩; have HB1 := Lib.hid (below_next HBW.out hb1); clear hb1)
        go_ret
        exact ⟨rfl, HB1.out⟩
  · have hd5 : decide ((0 : Int) < (N : Int)) = true := by simp; omega
    have hd6 : decide (0 < N) = true := by simp; omega
    have hw4 := HW4.out
    have hb8' := HB8.out.symm
    have c8 := HC8.out
    obtain ⟨bN, _, rfl, hbN, _, _⟩ := OwnN.row HO4.out 0 (by rw [← HNE.out]; omega)
    go_wp2_with fail
    clear hw4 hb8' hd5 hd6
    have HNX := Lib.hid (fun k w h hk => next_any p a cap zs k N w h hk (by omega) (by omega))
    go_cut [9] (fun s9 wx => ∃ (k4 gr cr M : Nat) (xr : List At), s9 = .slice (some ⟨gr, 0, none⟩) M cr ∧ k4 ≤ k3 + 1 ∧ wx.cell? ⟨b8, 0, none⟩ = some (.slice (some ⟨bN, 0, none⟩) N cN) ∧ w2.heap.size ≤ gr ∧ gr < wx.heap.size ∧ M = xr.length ∧ OwnA wx w2.heap.size (.slice (some ⟨gr, 0, none⟩) M cr) xr ∧ DeckAt wx p a cap zs k4 ∧ But p w2 wx ∧ OwnN wx w2.heap.size (.slice (some ⟨bN, 0, none⟩) N cN) n ∧ 1 ≤ M ∧ M ≤ 2)
    case first =>
      go_region_with (first
        | (go_at_call 12; (with_reducible refine (HNX.out k3 _ (by first | exact HD4.out | exact deck_up HD4.out) (by omega)).mono ?_); rintro e w5 ⟨r1, k4, hr1, rfl, hd5, hk4, hb5⟩; have hbx : But p W4 w5 := (by first | exact ((But.refl p W4).drew).next hb5 | exact hb5); have c85 : w5.cell? ⟨b8, 0, none⟩ = some (.slice (some ⟨bN, 0, none⟩) N cN) := (cell_same (hbx.block b8 hlt8 (by simp; omega)) 0).trans c8; have ho5 := HO4.out.but hbx hpw; obtain ⟨bN', v5, eb5, hlt5, e5, hov5⟩ := OwnN.row ho5 r1 (by rw [← HNE.out]; exact hr1); obtain rfl : bN = bN' := (by simpa using eb5); have hri : (r1 : Int) < (N : Int) := (by omega); have hmr := (HMD.out.2 _ (getD_memS n r1 (by rw [← HNE.out]; exact hr1) [])); obtain ⟨xr, hxr⟩ : ∃ xr, xr = n.getD r1 [] := ⟨_, rfl⟩; rw [← hxr] at hov5 hmr; obtain ⟨gr, cr, rfl, hBg, hgr, hfz, hcl⟩ := OwnA.open hov5 (by intro h0; rw [h0] at hmr; exact absurd hmr.2 (by simp)); obtain ⟨M, hM⟩ : ∃ M, M = xr.length := ⟨_, rfl⟩; rw [← hM] at e5 hov5 hmr; have HM := Lib.hid hM; have HCL := Lib.hid hcl; have HOV := Lib.hid hov5; have HD5 := Lib.hid hd5; have HB5 := Lib.hid (HB4.out.next hbx); have HO5 := Lib.hid ho5; have hM2 : 1 ≤ M ∧ M ≤ 2 := (⟨hmr.2, by have := hmr.1.1; omega⟩); clear hb5 hbx ho5 eb5 hmr hxr hov5 hcl hd5 hfz hM hr1))
      all_goals go_wp2_with fail
      all_goals go_meet
      all_goals exact ⟨k4, gr, cr, M, xr, rfl, hk4, c85, hBg, hgr, HM.out, HOV.out, HD5.out, HB5.out, HO5.out, hM2.1, hM2.2⟩
    case rest =>
      obtain ⟨k4, gr, cr, M, xr, rfl, hk4, c85, hBg, hgr, hM, hov5, hd5, hb5, ho5, hM1, hM2⟩ := hcut
      have HM := Lib.hid hM
      have HOV := Lib.hid hov5
      have HD5 := Lib.hid hd5
      have HB5 := Lib.hid hb5
      have HO5 := Lib.hid ho5
      clear hM hov5 hd5 hb5 ho5
      obtain ⟨w5, hw5⟩ : ∃ w5, w5 = wc := ⟨_, rfl⟩
      subst hw5
      go_wp2_with fail
      refine (next_any p a cap zs k4 M w5 HD5.out (by omega) (by omega) (by omega)).mono ?_
      rintro e w6 ⟨k, k5, hk, rfl, hd6, hk5, hb6⟩
      have HD6 := Lib.hid hd6
      have HB6 := Lib.hid hb6
      have HC85 := Lib.hid c85
      clear hd6 hb6 c85
      go_wp2_with fail
      refine (next_lit5 p a cap zs k5 w6 HD6.out (by omega)).mono ?_
      rintro e w7 ⟨sw, k6, hsw, rfl, hd7, hk6, hb7⟩
      have hb57 : But p w5 w7 := HB6.out.next hb7
      have HB7 := Lib.hid (HB5.out.next hb57)
      have HD7 := Lib.hid hd7
      have hpg : p < gr := by omega
      have hkd : (k : Int) < (M : Int) := by omega
      have HOX := Lib.hid (HOV.out.but hb57 hpw)
      have HRX := Lib.hid ((HO5.out.but hb57 hpw).rl)
      have HC8X := Lib.hid ((cell_same (hb57.block b8 (block_lt HC85.out) (by simp; omega)) 0).trans HC85.out)
      have HBX := Lib.hid (HB7.out.below (Nat.le_of_lt hpw))
      have HB67 := Lib.hid hb57
      clear hd7 hb7 hb57
      obtain ⟨z, hz⟩ : ∃ z : Int, z = (sw : Int) := ⟨_, rfl⟩
      rw [← hz]
      have hz4 : z = 0 ∨ z = 1 ∨ z = 2 ∨ z = 3 ∨ z = 4 := by omega
      clear hz hsw
      rcases hz4 with rfl | rfl | rfl | rfl | rfl
      · skip
        obtain ⟨gr', cr', ee, _, hgrX, hfzX, hclX⟩ := OwnA.open HOX.out (by intro h0; have := HM.out; rw [h0] at this; simp at this; omega)
        obtain rfl : gr = gr' := same_block ee
        obtain ⟨cx0, cx1, cx2⟩ := hclX k (by rw [← HM.out]; exact hk)
        have fx0 := hfzX (k * 3)
        have fx1 := hfzX (k * 3 + 1)
        have fx2 := hfzX (k * 3 + 2)
        clear hfzX hclX ee
        have kq7 := (((HBP.out w7 HBX.out).block (g + 1) (Array.getElem?_eq_some_iff.1 HKQ1.out).1)).trans HKQ1.out
        obtain ⟨y0, y1, y2, _, _, _, yl⟩ := at_facts kq7
        have sh0 : Shape (.string (xr.getD k noAt).1) (.string yt) := .inl ⟨_, _, rfl, rfl, HYT.out⟩
        have sh1 : Shape (.int .i64 (xr.getD k noAt).2.1) (.int .i64 yk) := .inr ⟨_, _, rfl, rfl⟩
        have sh2 : Shape (.string (xr.getD k noAt).2.2) (.string yv) := .inl ⟨_, _, rfl, rfl, HYV.out⟩
        have cz1 := (set_other (w := w7) (p := ⟨gr, k * 3, none⟩) (q := ⟨gr, k * 3 + 1, none⟩) (v := .string yt) (by simp)).trans cx1
        have cz2 := (set_other (w := w7.setCell ⟨gr, k * 3, none⟩ (.string yt)) (p := ⟨gr, k * 3 + 1, none⟩) (q := ⟨gr, k * 3 + 2, none⟩) (v := .int .i64 yk) (by simp)).trans ((set_other (w := w7) (p := ⟨gr, k * 3, none⟩) (q := ⟨gr, k * 3 + 2, none⟩) (v := .string yt) (by simp)).trans cx2)
        obtain ⟨na, la, ra, sa⟩ := rlies_set HRX.out HSMN.out cx0 sh0
        obtain ⟨nb, lb, rb, sb⟩ := rlies_set ra sa cz1 sh1
        obtain ⟨nc, lc, rc, sc⟩ := rlies_set rb sb cz2 sh2
        have HST := Lib.hid (chkSt_mk HB1.out (HBP.out _ (((HBX.out.setCell (p := ⟨gr, k * 3, none⟩) (Nat.le_of_lt hpg) (.string yt)).setCell (p := ⟨gr, k * 3 + 1, none⟩) (Nat.le_of_lt hpg) (.int .i64 yk)).setCell (p := ⟨gr, k * 3 + 2, none⟩) (Nat.le_of_lt hpg) (.string yv))) HC31.out HLR1.out (cell_slice cz2 sh2 (cell_slice cz1 sh1 (cell_slice cx0 sh0 HC8X.out))) rc (by rw [lc, lb, la]; exact HNE.out) sc)
        clear sh0 sh1 sh2 cz1 cz2 ra sa rb sb rc sc la lb lc kq7
        obtain ⟨e3, e8, eR, ⟨n', eN, hN', hsn⟩, eB⟩ := HST.out
        have HER := Lib.hid eR
        have HEN' := Lib.hid eN
        have HNL := Lib.hid hN'
        have HSNL := Lib.hid hsn
        have HEB := Lib.hid eB
        clear eR eN hN' hsn eB
        go_wp2_with fail
        have hsz : ((((w7.setCell ⟨gr, k * 3, none⟩ (.string yt)).setCell ⟨gr, k * 3 + 1, none⟩ (.int .i64 yk)).setCell ⟨gr, k * 3 + 2, none⟩ (.string yv))).heap.size = w7.heap.size := by first | rfl | simp [World.setCell]
        have hrow : ∀ kq, kq < 2 → ∃ (a' : Option Addr) (c' len : Nat) (nn : Nm), (((((w7.setCell ⟨gr, k * 3, none⟩ (.string yt)).setCell ⟨gr, k * 3 + 1, none⟩ (.int .i64 yk)).setCell ⟨gr, k * 3 + 2, none⟩ (.string yv))).alloc (.cells #[.slice aR NR cR, .slice (some ⟨bN, 0, none⟩) N cN] 24)).cell? ⟨w7.heap.size, kq, none⟩ = some (.slice a' len c') ∧ RLies (((((w7.setCell ⟨gr, k * 3, none⟩ (.string yt)).setCell ⟨gr, k * 3 + 1, none⟩ (.int .i64 yk)).setCell ⟨gr, k * 3 + 2, none⟩ (.string yv))).alloc (.cells #[.slice aR NR cR, .slice (some ⟨bN, 0, none⟩) N cN] 24)) a' nn ∧ len = nn.length ∧ SmallN nn := by
          intro kq hkq
          have hc : ∀ j, (((((w7.setCell ⟨gr, k * 3, none⟩ (.string yt)).setCell ⟨gr, k * 3 + 1, none⟩ (.int .i64 yk)).setCell ⟨gr, k * 3 + 2, none⟩ (.string yv))).alloc (.cells #[.slice aR NR cR, .slice (some ⟨bN, 0, none⟩) N cN] 24)).cell? ⟨w7.heap.size, j, none⟩ = (#[Value.slice aR NR cR, .slice (some ⟨bN, 0, none⟩) N cN] : Array Value)[j]? := fun j => by
            rw [← hsz]
            exact cell_of_row _ _ j _ _ _ (heap_alloc_new ((((w7.setCell ⟨gr, k * 3, none⟩ (.string yt)).setCell ⟨gr, k * 3 + 1, none⟩ (.int .i64 yk)).setCell ⟨gr, k * 3 + 2, none⟩ (.string yv))) _)
          rcases (by omega : kq = 0 ∨ kq = 1) with rfl | rfl
          · exact ⟨aR, cR, NR, r, hc 0, HER.out.below (belowNew ((((w7.setCell ⟨gr, k * 3, none⟩ (.string yt)).setCell ⟨gr, k * 3 + 1, none⟩ (.int .i64 yk)).setCell ⟨gr, k * 3 + 2, none⟩ (.string yv))) _), HNR.out, HSH1.out⟩
          · exact ⟨(some ⟨bN, 0, none⟩), cN, N, n', hc 1, HEN'.out.below (belowNew ((((w7.setCell ⟨gr, k * 3, none⟩ (.string yt)).setCell ⟨gr, k * 3 + 1, none⟩ (.int .i64 yk)).setCell ⟨gr, k * 3 + 2, none⟩ (.string yv))) _), HNL.out, HSNL.out⟩
        have HROW := Lib.hid hrow
        have HBV := Lib.hid (below_next HEB.out (belowNew ((((w7.setCell ⟨gr, k * 3, none⟩ (.string yt)).setCell ⟨gr, k * 3 + 1, none⟩ (.int .i64 yk)).setCell ⟨gr, k * 3 + 2, none⟩ (.string yv))) (.cells #[.slice aR NR cR, .slice (some ⟨bN, 0, none⟩) N cN] 24)))
        clear hrow e3 e8
        generalize ((((w7.setCell ⟨gr, k * 3, none⟩ (.string yt)).setCell ⟨gr, k * 3 + 1, none⟩ (.int .i64 yk)).setCell ⟨gr, k * 3 + 2, none⟩ (.string yv))).alloc (.cells #[.slice aR NR cR, .slice (some ⟨bN, 0, none⟩) N cN] 24) = VV at HROW HBV ⊢
        clear hsz
        generalize w7.heap.size = G at HROW ⊢
        go_loopw [94] (fun i ws => ∃ k : Nat, k ≤ 2 ∧ i = .int .i64 k ∧ Below VV.heap.size VV ws) (fun i _ => 2 - (intOf i).toNat)
        case atStart => exact ⟨0, Nat.zero_le _, rfl, Below.refl _ _⟩
        case round =>
          obtain ⟨ws, hws⟩ : ∃ ws, ws = wr := ⟨_, rfl⟩
          subst hws
          obtain ⟨q4, hq4, rfl, hb⟩ := hrel
          have HBS := Lib.hid hb
          by_cases hlt4 : q4 < 2
          · have hd4 : decide ((q4 : Int) < 2) = true := by simp; omega
            obtain ⟨a', c', len, nn, hcl, hrl, hlen, hsmn⟩ := HROW.out q4 hlt4
            have c0 := (hb.cell (p := ⟨G, q4, none⟩) (block_lt hcl)).trans hcl
            have HRL := Lib.hid (hrl.below hb)
            have HLE := Lib.hid hlen
            have HSN := Lib.hid hsmn
            have HTB := Lib.hid (fun X (h : Below ws.heap.size ws X) => HTW.out X (below_next (below_next HBV.out HBS.out) h))
            obtain ⟨E, hE⟩ : ∃ E, E = chkN nn := ⟨_, rfl⟩
            obtain ⟨S, hS⟩ : ∃ S, S = encV nn := ⟨_, rfl⟩
            have HEN := Lib.hid (fun X (h : Below ws.heap.size ws X) => encode_core a' c' len nn X (HRL.out.below h) HLE.out HSN.out (HTB.out X h))
            have HRE := Lib.hid (fun X (h : Below ws.heap.size ws X) => rencode_core a' c' len nn X (HRL.out.below h) HLE.out HSN.out)
            have HCK := Lib.hid (fun X (h : Below ws.heap.size ws X) => chk_core a' c' len nn X (HRL.out.below h) HLE.out HSN.out (HTB.out X h))
            have HRC := Lib.hid (fun X (h : Below ws.heap.size ws X) => rchk_core a' c' len nn X (HRL.out.below h) HLE.out HSN.out)
            rw [← hE] at HEN HRE HCK HRC
            rw [← hS] at HEN HRE
            clear hcl hrl hlen hsmn hb hE hS
            go_wp2_with (first
              | (go_at_call 14; (with_reducible refine (HEN.out _ (belowNew ws _)).mono ?_); rintro e x1 ⟨rfl, hb1⟩; have hq1 := (hb1.block ws.heap.size (by simp)).trans (heap_alloc_new ws _); have HX1 := Lib.hid (below_next (belowNew ws _) hb1); have HQ1 := Lib.hid hq1; obtain ⟨z0, _, z1⟩ := one_facts hq1; clear hb1 hq1)
              | (go_at_call 15; (with_reducible refine (HRE.out _ HX1.out).mono ?_); rintro e x2 ⟨rfl, hb2⟩; have hq2 := (hb2.block ws.heap.size (Array.getElem?_eq_some_iff.1 HQ1.out).1).trans HQ1.out; have HX2 := Lib.hid (below_next HX1.out hb2); have HQ2 := Lib.hid hq2; obtain ⟨z0', _, z1'⟩ := one_facts hq2; clear hb2 hq2))
            have hee : ((E : Int) != (E : Int)) = false := by simp
            have hss : (S.toList == S.toList) = true := by simp
            have hss2 : (S.toList != S.toList) = false := by simp
            have c8 := cell_regrown (one_facts HQ2.out).1
            have cE : ∀ d' os, Calls Tryz.prog 16 #[.agg #[.slice a' len c']] (Sort.grow (redrawn x2 d') os) fun e w'' => e = .returned (.int .i64 (E : Int)) ∧ ∃ p : Regrown, w'' = Sort.grow (redrawn x2 p.d) p.os := fun d' os => Calls.regrown_of (HCK.out _ (below_next HX2.out (below_regrown x2 d' os)))
            have cR' : ∀ d' os, Calls Tryz.prog 17 #[.agg #[.slice a' len c']] (Sort.grow (redrawn x2 d') os) fun e w'' => e = .returned (.int .i64 (E : Int)) ∧ ∃ p : Regrown, w'' = Sort.grow (redrawn x2 p.d) p.os := fun d' os => Calls.regrown_of (HRC.out _ (below_next HX2.out (below_regrown x2 d' os)))
            clear c0 z0 z1 z0' z1'
            refine wp_region_quiet_below (by kernel_rfl) (by kernel_rfl) ?_
            repeat (go_big_quiet_step (with_reducible first | exact cE _ _ | exact cR' _ _))
            refine wpQuiet_nil ?_
            intro _ hw'
            obtain ⟨⟨dq, osq⟩, hw''⟩ := hw'
            subst hw''
            clear c8 cE cR'
            have HBZ := Lib.hid (below_next HX2.out (below_regrown x2 dq osq))
            go_wp2_with fail
            go_roundw
            case rel => exact ⟨q4 + 1, by omega, by go_num, below_next HBS.out HBZ.out⟩
            case measure => simp [intOf]; omega
          · have hd4 : decide ((q4 : Int) < 2) = false := by simp; omega
            have HBW := Lib.hid (below_next HBV.out hb)
            clear hb
            go_wp2_with (go_at_call 9; (with_reducible refine (HAW.out _ HBW.out).mono ?_); rintro e w1 ⟨rfl, hb1⟩; have HB1 := Lib.hid (below_next HBW.out hb1); clear hb1)
            go_ret
            exact ⟨rfl, HB1.out⟩
      · skip
        obtain ⟨gr', cr', ee, _, hgrX, hfzX, hclX⟩ := OwnA.open HOX.out (by intro h0; have := HM.out; rw [h0] at this; simp at this; omega)
        obtain rfl : gr = gr' := same_block ee
        obtain ⟨cx0, cx1, cx2⟩ := hclX k (by rw [← HM.out]; exact hk)
        have fx0 := hfzX (k * 3)
        have fx1 := hfzX (k * 3 + 1)
        have fx2 := hfzX (k * 3 + 2)
        clear hfzX hclX ee
        have kq7 := (((HBP.out w7 HBX.out).block (g + 1) (Array.getElem?_eq_some_iff.1 HKQ1.out).1)).trans HKQ1.out
        obtain ⟨y0, y1, y2, _, _, _, yl⟩ := at_facts kq7
        have sh2 : Shape (.string (xr.getD k noAt).2.2) (.string yv) := .inl ⟨_, _, rfl, rfl, HYV.out⟩
        obtain ⟨nc, lc, rc, sc⟩ := rlies_set HRX.out HSMN.out cx2 sh2
        have HST := Lib.hid (chkSt_mk HB1.out (HBP.out _ (HBX.out.setCell (p := ⟨gr, k * 3 + 2, none⟩) (Nat.le_of_lt hpg) (.string yv))) HC31.out HLR1.out (cell_slice cx2 sh2 HC8X.out) rc (by rw [lc]; exact HNE.out) sc)
        clear sh2 rc sc lc kq7
        obtain ⟨e3, e8, eR, ⟨n', eN, hN', hsn⟩, eB⟩ := HST.out
        have HER := Lib.hid eR
        have HEN' := Lib.hid eN
        have HNL := Lib.hid hN'
        have HSNL := Lib.hid hsn
        have HEB := Lib.hid eB
        clear eR eN hN' hsn eB
        go_wp2_with fail
        have hsz : ((w7.setCell ⟨gr, k * 3 + 2, none⟩ (.string yv))).heap.size = w7.heap.size := by first | rfl | simp [World.setCell]
        have hrow : ∀ kq, kq < 2 → ∃ (a' : Option Addr) (c' len : Nat) (nn : Nm), (((w7.setCell ⟨gr, k * 3 + 2, none⟩ (.string yv))).alloc (.cells #[.slice aR NR cR, .slice (some ⟨bN, 0, none⟩) N cN] 24)).cell? ⟨w7.heap.size, kq, none⟩ = some (.slice a' len c') ∧ RLies (((w7.setCell ⟨gr, k * 3 + 2, none⟩ (.string yv))).alloc (.cells #[.slice aR NR cR, .slice (some ⟨bN, 0, none⟩) N cN] 24)) a' nn ∧ len = nn.length ∧ SmallN nn := by
          intro kq hkq
          have hc : ∀ j, (((w7.setCell ⟨gr, k * 3 + 2, none⟩ (.string yv))).alloc (.cells #[.slice aR NR cR, .slice (some ⟨bN, 0, none⟩) N cN] 24)).cell? ⟨w7.heap.size, j, none⟩ = (#[Value.slice aR NR cR, .slice (some ⟨bN, 0, none⟩) N cN] : Array Value)[j]? := fun j => by
            rw [← hsz]
            exact cell_of_row _ _ j _ _ _ (heap_alloc_new ((w7.setCell ⟨gr, k * 3 + 2, none⟩ (.string yv))) _)
          rcases (by omega : kq = 0 ∨ kq = 1) with rfl | rfl
          · exact ⟨aR, cR, NR, r, hc 0, HER.out.below (belowNew ((w7.setCell ⟨gr, k * 3 + 2, none⟩ (.string yv))) _), HNR.out, HSH1.out⟩
          · exact ⟨(some ⟨bN, 0, none⟩), cN, N, n', hc 1, HEN'.out.below (belowNew ((w7.setCell ⟨gr, k * 3 + 2, none⟩ (.string yv))) _), HNL.out, HSNL.out⟩
        have HROW := Lib.hid hrow
        have HBV := Lib.hid (below_next HEB.out (belowNew ((w7.setCell ⟨gr, k * 3 + 2, none⟩ (.string yv))) (.cells #[.slice aR NR cR, .slice (some ⟨bN, 0, none⟩) N cN] 24)))
        clear hrow e3 e8
        generalize ((w7.setCell ⟨gr, k * 3 + 2, none⟩ (.string yv))).alloc (.cells #[.slice aR NR cR, .slice (some ⟨bN, 0, none⟩) N cN] 24) = VV at HROW HBV ⊢
        clear hsz
        generalize w7.heap.size = G at HROW ⊢
        go_loopw [94] (fun i ws => ∃ k : Nat, k ≤ 2 ∧ i = .int .i64 k ∧ Below VV.heap.size VV ws) (fun i _ => 2 - (intOf i).toNat)
        case atStart => exact ⟨0, Nat.zero_le _, rfl, Below.refl _ _⟩
        case round =>
          obtain ⟨ws, hws⟩ : ∃ ws, ws = wr := ⟨_, rfl⟩
          subst hws
          obtain ⟨q4, hq4, rfl, hb⟩ := hrel
          have HBS := Lib.hid hb
          by_cases hlt4 : q4 < 2
          · have hd4 : decide ((q4 : Int) < 2) = true := by simp; omega
            obtain ⟨a', c', len, nn, hcl, hrl, hlen, hsmn⟩ := HROW.out q4 hlt4
            have c0 := (hb.cell (p := ⟨G, q4, none⟩) (block_lt hcl)).trans hcl
            have HRL := Lib.hid (hrl.below hb)
            have HLE := Lib.hid hlen
            have HSN := Lib.hid hsmn
            have HTB := Lib.hid (fun X (h : Below ws.heap.size ws X) => HTW.out X (below_next (below_next HBV.out HBS.out) h))
            obtain ⟨E, hE⟩ : ∃ E, E = chkN nn := ⟨_, rfl⟩
            obtain ⟨S, hS⟩ : ∃ S, S = encV nn := ⟨_, rfl⟩
            have HEN := Lib.hid (fun X (h : Below ws.heap.size ws X) => encode_core a' c' len nn X (HRL.out.below h) HLE.out HSN.out (HTB.out X h))
            have HRE := Lib.hid (fun X (h : Below ws.heap.size ws X) => rencode_core a' c' len nn X (HRL.out.below h) HLE.out HSN.out)
            have HCK := Lib.hid (fun X (h : Below ws.heap.size ws X) => chk_core a' c' len nn X (HRL.out.below h) HLE.out HSN.out (HTB.out X h))
            have HRC := Lib.hid (fun X (h : Below ws.heap.size ws X) => rchk_core a' c' len nn X (HRL.out.below h) HLE.out HSN.out)
            rw [← hE] at HEN HRE HCK HRC
            rw [← hS] at HEN HRE
            clear hcl hrl hlen hsmn hb hE hS
            go_wp2_with (first
              | (go_at_call 14; (with_reducible refine (HEN.out _ (belowNew ws _)).mono ?_); rintro e x1 ⟨rfl, hb1⟩; have hq1 := (hb1.block ws.heap.size (by simp)).trans (heap_alloc_new ws _); have HX1 := Lib.hid (below_next (belowNew ws _) hb1); have HQ1 := Lib.hid hq1; obtain ⟨z0, _, z1⟩ := one_facts hq1; clear hb1 hq1)
              | (go_at_call 15; (with_reducible refine (HRE.out _ HX1.out).mono ?_); rintro e x2 ⟨rfl, hb2⟩; have hq2 := (hb2.block ws.heap.size (Array.getElem?_eq_some_iff.1 HQ1.out).1).trans HQ1.out; have HX2 := Lib.hid (below_next HX1.out hb2); have HQ2 := Lib.hid hq2; obtain ⟨z0', _, z1'⟩ := one_facts hq2; clear hb2 hq2))
            have hee : ((E : Int) != (E : Int)) = false := by simp
            have hss : (S.toList == S.toList) = true := by simp
            have hss2 : (S.toList != S.toList) = false := by simp
            have c8 := cell_regrown (one_facts HQ2.out).1
            have cE : ∀ d' os, Calls Tryz.prog 16 #[.agg #[.slice a' len c']] (Sort.grow (redrawn x2 d') os) fun e w'' => e = .returned (.int .i64 (E : Int)) ∧ ∃ p : Regrown, w'' = Sort.grow (redrawn x2 p.d) p.os := fun d' os => Calls.regrown_of (HCK.out _ (below_next HX2.out (below_regrown x2 d' os)))
            have cR' : ∀ d' os, Calls Tryz.prog 17 #[.agg #[.slice a' len c']] (Sort.grow (redrawn x2 d') os) fun e w'' => e = .returned (.int .i64 (E : Int)) ∧ ∃ p : Regrown, w'' = Sort.grow (redrawn x2 p.d) p.os := fun d' os => Calls.regrown_of (HRC.out _ (below_next HX2.out (below_regrown x2 d' os)))
            clear c0 z0 z1 z0' z1'
            refine wp_region_quiet_below (by kernel_rfl) (by kernel_rfl) ?_
            repeat (go_big_quiet_step (with_reducible first | exact cE _ _ | exact cR' _ _))
            refine wpQuiet_nil ?_
            intro _ hw'
            obtain ⟨⟨dq, osq⟩, hw''⟩ := hw'
            subst hw''
            clear c8 cE cR'
            have HBZ := Lib.hid (below_next HX2.out (below_regrown x2 dq osq))
            go_wp2_with fail
            go_roundw
            case rel => exact ⟨q4 + 1, by omega, by go_num, below_next HBS.out HBZ.out⟩
            case measure => simp [intOf]; omega
          · have hd4 : decide ((q4 : Int) < 2) = false := by simp; omega
            have HBW := Lib.hid (below_next HBV.out hb)
            clear hb
            go_wp2_with (go_at_call 9; (with_reducible refine (HAW.out _ HBW.out).mono ?_); rintro e w1 ⟨rfl, hb1⟩; have HB1 := Lib.hid (below_next HBW.out hb1); clear hb1)
            go_ret
            exact ⟨rfl, HB1.out⟩
      · skip
        go_wp2_with fail
        refine (next_lit4 p a cap zs k6 _ (HD7.out.below (belowNew w7 _)) (by omega)).mono ?_
        rintro e w8 ⟨j4, k7, hj4, rfl, hd8, hk7, hb8⟩
        obtain ⟨z4, hz4⟩ := ints_at4 w7 j4 hj4
        have cz4 := (cell_same (hb8.block w7.heap.size (by simp) (by have := HD7.out.lt; simp; omega)) j4).trans hz4
        have hj4i : (j4 : Int) < 4 := by omega
        have hb78 : But p w7 w8 := (But.of (belowNew w7 _)).next hb8
        have HC88 := Lib.hid ((cell_same (hb78.block b8 (block_lt HC8X.out) (by simp; omega)) 0).trans HC8X.out)
        have HBX8 := Lib.hid ((HB7.out.next hb78).below (Nat.le_of_lt hpw))
        have HOX8 := Lib.hid (HOX.out.but hb78 hpw)
        have HRX8 := Lib.hid (((HO5.out.but HB67.out hpw).but hb78 hpw).rl)
        clear hd8 hb8 hb78 hz4
        obtain ⟨gr', cr', ee, _, hgrX, hfzX, hclX⟩ := OwnA.open HOX8.out (by intro h0; have := HM.out; rw [h0] at this; simp at this; omega)
        obtain rfl : gr = gr' := same_block ee
        obtain ⟨cx0, cx1, cx2⟩ := hclX k (by rw [← HM.out]; exact hk)
        have fx0 := hfzX (k * 3)
        have fx1 := hfzX (k * 3 + 1)
        have fx2 := hfzX (k * 3 + 2)
        clear hfzX hclX ee
        have sh1 : Shape (.int .i64 (xr.getD k noAt).2.1) (.int .i64 z4) := .inr ⟨_, _, rfl, rfl⟩
        obtain ⟨nc, lc, rc, sc⟩ := rlies_set HRX8.out HSMN.out cx1 sh1
        have HST := Lib.hid (chkSt_mk HB1.out (HBP.out _ (HBX8.out.setCell (p := ⟨gr, k * 3 + 1, none⟩) (Nat.le_of_lt hpg) (.int .i64 z4))) HC31.out HLR1.out (cell_slice cx1 sh1 HC88.out) rc (by rw [lc]; exact HNE.out) sc)
        clear sh1 rc sc lc
        obtain ⟨e3, e8, eR, ⟨n', eN, hN', hsn⟩, eB⟩ := HST.out
        have HER := Lib.hid eR
        have HEN' := Lib.hid eN
        have HNL := Lib.hid hN'
        have HSNL := Lib.hid hsn
        have HEB := Lib.hid eB
        clear eR eN hN' hsn eB
        go_wp2_with fail
        have hsz : ((w8.setCell ⟨gr, k * 3 + 1, none⟩ (.int .i64 z4))).heap.size = w8.heap.size := by first | rfl | simp [World.setCell]
        have hrow : ∀ kq, kq < 2 → ∃ (a' : Option Addr) (c' len : Nat) (nn : Nm), (((w8.setCell ⟨gr, k * 3 + 1, none⟩ (.int .i64 z4))).alloc (.cells #[.slice aR NR cR, .slice (some ⟨bN, 0, none⟩) N cN] 24)).cell? ⟨w8.heap.size, kq, none⟩ = some (.slice a' len c') ∧ RLies (((w8.setCell ⟨gr, k * 3 + 1, none⟩ (.int .i64 z4))).alloc (.cells #[.slice aR NR cR, .slice (some ⟨bN, 0, none⟩) N cN] 24)) a' nn ∧ len = nn.length ∧ SmallN nn := by
          intro kq hkq
          have hc : ∀ j, (((w8.setCell ⟨gr, k * 3 + 1, none⟩ (.int .i64 z4))).alloc (.cells #[.slice aR NR cR, .slice (some ⟨bN, 0, none⟩) N cN] 24)).cell? ⟨w8.heap.size, j, none⟩ = (#[Value.slice aR NR cR, .slice (some ⟨bN, 0, none⟩) N cN] : Array Value)[j]? := fun j => by
            rw [← hsz]
            exact cell_of_row _ _ j _ _ _ (heap_alloc_new ((w8.setCell ⟨gr, k * 3 + 1, none⟩ (.int .i64 z4))) _)
          rcases (by omega : kq = 0 ∨ kq = 1) with rfl | rfl
          · exact ⟨aR, cR, NR, r, hc 0, HER.out.below (belowNew ((w8.setCell ⟨gr, k * 3 + 1, none⟩ (.int .i64 z4))) _), HNR.out, HSH1.out⟩
          · exact ⟨(some ⟨bN, 0, none⟩), cN, N, n', hc 1, HEN'.out.below (belowNew ((w8.setCell ⟨gr, k * 3 + 1, none⟩ (.int .i64 z4))) _), HNL.out, HSNL.out⟩
        have HROW := Lib.hid hrow
        have HBV := Lib.hid (below_next HEB.out (belowNew ((w8.setCell ⟨gr, k * 3 + 1, none⟩ (.int .i64 z4))) (.cells #[.slice aR NR cR, .slice (some ⟨bN, 0, none⟩) N cN] 24)))
        clear hrow e3 e8
        generalize ((w8.setCell ⟨gr, k * 3 + 1, none⟩ (.int .i64 z4))).alloc (.cells #[.slice aR NR cR, .slice (some ⟨bN, 0, none⟩) N cN] 24) = VV at HROW HBV ⊢
        clear hsz
        generalize w8.heap.size = G at HROW ⊢
        go_loopw [94] (fun i ws => ∃ k : Nat, k ≤ 2 ∧ i = .int .i64 k ∧ Below VV.heap.size VV ws) (fun i _ => 2 - (intOf i).toNat)
        case atStart => exact ⟨0, Nat.zero_le _, rfl, Below.refl _ _⟩
        case round =>
          obtain ⟨ws, hws⟩ : ∃ ws, ws = wr := ⟨_, rfl⟩
          subst hws
          obtain ⟨q4, hq4, rfl, hb⟩ := hrel
          have HBS := Lib.hid hb
          by_cases hlt4 : q4 < 2
          · have hd4 : decide ((q4 : Int) < 2) = true := by simp; omega
            obtain ⟨a', c', len, nn, hcl, hrl, hlen, hsmn⟩ := HROW.out q4 hlt4
            have c0 := (hb.cell (p := ⟨G, q4, none⟩) (block_lt hcl)).trans hcl
            have HRL := Lib.hid (hrl.below hb)
            have HLE := Lib.hid hlen
            have HSN := Lib.hid hsmn
            have HTB := Lib.hid (fun X (h : Below ws.heap.size ws X) => HTW.out X (below_next (below_next HBV.out HBS.out) h))
            obtain ⟨E, hE⟩ : ∃ E, E = chkN nn := ⟨_, rfl⟩
            obtain ⟨S, hS⟩ : ∃ S, S = encV nn := ⟨_, rfl⟩
            have HEN := Lib.hid (fun X (h : Below ws.heap.size ws X) => encode_core a' c' len nn X (HRL.out.below h) HLE.out HSN.out (HTB.out X h))
            have HRE := Lib.hid (fun X (h : Below ws.heap.size ws X) => rencode_core a' c' len nn X (HRL.out.below h) HLE.out HSN.out)
            have HCK := Lib.hid (fun X (h : Below ws.heap.size ws X) => chk_core a' c' len nn X (HRL.out.below h) HLE.out HSN.out (HTB.out X h))
            have HRC := Lib.hid (fun X (h : Below ws.heap.size ws X) => rchk_core a' c' len nn X (HRL.out.below h) HLE.out HSN.out)
            rw [← hE] at HEN HRE HCK HRC
            rw [← hS] at HEN HRE
            clear hcl hrl hlen hsmn hb hE hS
            go_wp2_with (first
              | (go_at_call 14; (with_reducible refine (HEN.out _ (belowNew ws _)).mono ?_); rintro e x1 ⟨rfl, hb1⟩; have hq1 := (hb1.block ws.heap.size (by simp)).trans (heap_alloc_new ws _); have HX1 := Lib.hid (below_next (belowNew ws _) hb1); have HQ1 := Lib.hid hq1; obtain ⟨z0, _, z1⟩ := one_facts hq1; clear hb1 hq1)
              | (go_at_call 15; (with_reducible refine (HRE.out _ HX1.out).mono ?_); rintro e x2 ⟨rfl, hb2⟩; have hq2 := (hb2.block ws.heap.size (Array.getElem?_eq_some_iff.1 HQ1.out).1).trans HQ1.out; have HX2 := Lib.hid (below_next HX1.out hb2); have HQ2 := Lib.hid hq2; obtain ⟨z0', _, z1'⟩ := one_facts hq2; clear hb2 hq2))
            have hee : ((E : Int) != (E : Int)) = false := by simp
            have hss : (S.toList == S.toList) = true := by simp
            have hss2 : (S.toList != S.toList) = false := by simp
            have c8 := cell_regrown (one_facts HQ2.out).1
            have cE : ∀ d' os, Calls Tryz.prog 16 #[.agg #[.slice a' len c']] (Sort.grow (redrawn x2 d') os) fun e w'' => e = .returned (.int .i64 (E : Int)) ∧ ∃ p : Regrown, w'' = Sort.grow (redrawn x2 p.d) p.os := fun d' os => Calls.regrown_of (HCK.out _ (below_next HX2.out (below_regrown x2 d' os)))
            have cR' : ∀ d' os, Calls Tryz.prog 17 #[.agg #[.slice a' len c']] (Sort.grow (redrawn x2 d') os) fun e w'' => e = .returned (.int .i64 (E : Int)) ∧ ∃ p : Regrown, w'' = Sort.grow (redrawn x2 p.d) p.os := fun d' os => Calls.regrown_of (HRC.out _ (below_next HX2.out (below_regrown x2 d' os)))
            clear c0 z0 z1 z0' z1'
            refine wp_region_quiet_below (by kernel_rfl) (by kernel_rfl) ?_
            repeat (go_big_quiet_step (with_reducible first | exact cE _ _ | exact cR' _ _))
            refine wpQuiet_nil ?_
            intro _ hw'
            obtain ⟨⟨dq, osq⟩, hw''⟩ := hw'
            subst hw''
            clear c8 cE cR'
            have HBZ := Lib.hid (below_next HX2.out (below_regrown x2 dq osq))
            go_wp2_with fail
            go_roundw
            case rel => exact ⟨q4 + 1, by omega, by go_num, below_next HBS.out HBZ.out⟩
            case measure => simp [intOf]; omega
          · have hd4 : decide ((q4 : Int) < 2) = false := by simp; omega
            have HBW := Lib.hid (below_next HBV.out hb)
            clear hb
            go_wp2_with (go_at_call 9; (with_reducible refine (HAW.out _ HBW.out).mono ?_); rintro e w1 ⟨rfl, hb1⟩; have HB1 := Lib.hid (below_next HBW.out hb1); clear hb1)
            go_ret
            exact ⟨rfl, HB1.out⟩
      · skip
        go_wp2_with fail
        refine (next_lit9 p a cap zs k6 w7 HD7.out (by omega)).mono ?_
        rintro e w8 ⟨j9, k7, hj9, rfl, hd8, hk7, hb8⟩
        have HPO := Lib.hid (policy_any j9 hj9 w8)
        have hb78 := hb8
        clear hd8 hb8
        go_wp2_with fail
        refine HPO.out.mono ?_
        rintro e w9 ⟨⟨s9, rfl, hs9⟩, hb9⟩
        have hb79 : But p w7 w9 := hb78.next (But.of hb9)
        have HC88 := Lib.hid ((cell_same (hb79.block b8 (block_lt HC8X.out) (by simp; omega)) 0).trans HC8X.out)
        have HBX8 := Lib.hid ((HB7.out.next hb79).below (Nat.le_of_lt hpw))
        have HOX8 := Lib.hid (HOX.out.but hb79 hpw)
        have HRX8 := Lib.hid (((HO5.out.but HB67.out hpw).but hb79 hpw).rl)
        clear hb9 hb78 hb79
        obtain ⟨gr', cr', ee, _, hgrX, hfzX, hclX⟩ := OwnA.open HOX8.out (by intro h0; have := HM.out; rw [h0] at this; simp at this; omega)
        obtain rfl : gr = gr' := same_block ee
        obtain ⟨cx0, cx1, cx2⟩ := hclX k (by rw [← HM.out]; exact hk)
        have fx0 := hfzX (k * 3)
        have fx1 := hfzX (k * 3 + 1)
        have fx2 := hfzX (k * 3 + 2)
        clear hfzX hclX ee
        have sh0 : Shape (.string (xr.getD k noAt).1) (.string s9) := .inl ⟨_, _, rfl, rfl, hs9⟩
        obtain ⟨nc, lc, rc, sc⟩ := rlies_set HRX8.out HSMN.out cx0 sh0
        have HST := Lib.hid (chkSt_mk HB1.out (HBP.out _ (HBX8.out.setCell (p := ⟨gr, k * 3, none⟩) (Nat.le_of_lt hpg) (.string s9))) HC31.out HLR1.out (cell_slice cx0 sh0 HC88.out) rc (by rw [lc]; exact HNE.out) sc)
        clear sh0 rc sc lc
        obtain ⟨e3, e8, eR, ⟨n', eN, hN', hsn⟩, eB⟩ := HST.out
        have HER := Lib.hid eR
        have HEN' := Lib.hid eN
        have HNL := Lib.hid hN'
        have HSNL := Lib.hid hsn
        have HEB := Lib.hid eB
        clear eR eN hN' hsn eB
        go_wp2_with fail
        have hsz : ((w9.setCell ⟨gr, k * 3, none⟩ (.string s9))).heap.size = w9.heap.size := by first | rfl | simp [World.setCell]
        have hrow : ∀ kq, kq < 2 → ∃ (a' : Option Addr) (c' len : Nat) (nn : Nm), (((w9.setCell ⟨gr, k * 3, none⟩ (.string s9))).alloc (.cells #[.slice aR NR cR, .slice (some ⟨bN, 0, none⟩) N cN] 24)).cell? ⟨w9.heap.size, kq, none⟩ = some (.slice a' len c') ∧ RLies (((w9.setCell ⟨gr, k * 3, none⟩ (.string s9))).alloc (.cells #[.slice aR NR cR, .slice (some ⟨bN, 0, none⟩) N cN] 24)) a' nn ∧ len = nn.length ∧ SmallN nn := by
          intro kq hkq
          have hc : ∀ j, (((w9.setCell ⟨gr, k * 3, none⟩ (.string s9))).alloc (.cells #[.slice aR NR cR, .slice (some ⟨bN, 0, none⟩) N cN] 24)).cell? ⟨w9.heap.size, j, none⟩ = (#[Value.slice aR NR cR, .slice (some ⟨bN, 0, none⟩) N cN] : Array Value)[j]? := fun j => by
            rw [← hsz]
            exact cell_of_row _ _ j _ _ _ (heap_alloc_new ((w9.setCell ⟨gr, k * 3, none⟩ (.string s9))) _)
          rcases (by omega : kq = 0 ∨ kq = 1) with rfl | rfl
          · exact ⟨aR, cR, NR, r, hc 0, HER.out.below (belowNew ((w9.setCell ⟨gr, k * 3, none⟩ (.string s9))) _), HNR.out, HSH1.out⟩
          · exact ⟨(some ⟨bN, 0, none⟩), cN, N, n', hc 1, HEN'.out.below (belowNew ((w9.setCell ⟨gr, k * 3, none⟩ (.string s9))) _), HNL.out, HSNL.out⟩
        have HROW := Lib.hid hrow
        have HBV := Lib.hid (below_next HEB.out (belowNew ((w9.setCell ⟨gr, k * 3, none⟩ (.string s9))) (.cells #[.slice aR NR cR, .slice (some ⟨bN, 0, none⟩) N cN] 24)))
        clear hrow e3 e8
        generalize ((w9.setCell ⟨gr, k * 3, none⟩ (.string s9))).alloc (.cells #[.slice aR NR cR, .slice (some ⟨bN, 0, none⟩) N cN] 24) = VV at HROW HBV ⊢
        clear hsz
        generalize w9.heap.size = G at HROW ⊢
        go_loopw [94] (fun i ws => ∃ k : Nat, k ≤ 2 ∧ i = .int .i64 k ∧ Below VV.heap.size VV ws) (fun i _ => 2 - (intOf i).toNat)
        case atStart => exact ⟨0, Nat.zero_le _, rfl, Below.refl _ _⟩
        case round =>
          obtain ⟨ws, hws⟩ : ∃ ws, ws = wr := ⟨_, rfl⟩
          subst hws
          obtain ⟨q4, hq4, rfl, hb⟩ := hrel
          have HBS := Lib.hid hb
          by_cases hlt4 : q4 < 2
          · have hd4 : decide ((q4 : Int) < 2) = true := by simp; omega
            obtain ⟨a', c', len, nn, hcl, hrl, hlen, hsmn⟩ := HROW.out q4 hlt4
            have c0 := (hb.cell (p := ⟨G, q4, none⟩) (block_lt hcl)).trans hcl
            have HRL := Lib.hid (hrl.below hb)
            have HLE := Lib.hid hlen
            have HSN := Lib.hid hsmn
            have HTB := Lib.hid (fun X (h : Below ws.heap.size ws X) => HTW.out X (below_next (below_next HBV.out HBS.out) h))
            obtain ⟨E, hE⟩ : ∃ E, E = chkN nn := ⟨_, rfl⟩
            obtain ⟨S, hS⟩ : ∃ S, S = encV nn := ⟨_, rfl⟩
            have HEN := Lib.hid (fun X (h : Below ws.heap.size ws X) => encode_core a' c' len nn X (HRL.out.below h) HLE.out HSN.out (HTB.out X h))
            have HRE := Lib.hid (fun X (h : Below ws.heap.size ws X) => rencode_core a' c' len nn X (HRL.out.below h) HLE.out HSN.out)
            have HCK := Lib.hid (fun X (h : Below ws.heap.size ws X) => chk_core a' c' len nn X (HRL.out.below h) HLE.out HSN.out (HTB.out X h))
            have HRC := Lib.hid (fun X (h : Below ws.heap.size ws X) => rchk_core a' c' len nn X (HRL.out.below h) HLE.out HSN.out)
            rw [← hE] at HEN HRE HCK HRC
            rw [← hS] at HEN HRE
            clear hcl hrl hlen hsmn hb hE hS
            go_wp2_with (first
              | (go_at_call 14; (with_reducible refine (HEN.out _ (belowNew ws _)).mono ?_); rintro e x1 ⟨rfl, hb1⟩; have hq1 := (hb1.block ws.heap.size (by simp)).trans (heap_alloc_new ws _); have HX1 := Lib.hid (below_next (belowNew ws _) hb1); have HQ1 := Lib.hid hq1; obtain ⟨z0, _, z1⟩ := one_facts hq1; clear hb1 hq1)
              | (go_at_call 15; (with_reducible refine (HRE.out _ HX1.out).mono ?_); rintro e x2 ⟨rfl, hb2⟩; have hq2 := (hb2.block ws.heap.size (Array.getElem?_eq_some_iff.1 HQ1.out).1).trans HQ1.out; have HX2 := Lib.hid (below_next HX1.out hb2); have HQ2 := Lib.hid hq2; obtain ⟨z0', _, z1'⟩ := one_facts hq2; clear hb2 hq2))
            have hee : ((E : Int) != (E : Int)) = false := by simp
            have hss : (S.toList == S.toList) = true := by simp
            have hss2 : (S.toList != S.toList) = false := by simp
            have c8 := cell_regrown (one_facts HQ2.out).1
            have cE : ∀ d' os, Calls Tryz.prog 16 #[.agg #[.slice a' len c']] (Sort.grow (redrawn x2 d') os) fun e w'' => e = .returned (.int .i64 (E : Int)) ∧ ∃ p : Regrown, w'' = Sort.grow (redrawn x2 p.d) p.os := fun d' os => Calls.regrown_of (HCK.out _ (below_next HX2.out (below_regrown x2 d' os)))
            have cR' : ∀ d' os, Calls Tryz.prog 17 #[.agg #[.slice a' len c']] (Sort.grow (redrawn x2 d') os) fun e w'' => e = .returned (.int .i64 (E : Int)) ∧ ∃ p : Regrown, w'' = Sort.grow (redrawn x2 p.d) p.os := fun d' os => Calls.regrown_of (HRC.out _ (below_next HX2.out (below_regrown x2 d' os)))
            clear c0 z0 z1 z0' z1'
            refine wp_region_quiet_below (by kernel_rfl) (by kernel_rfl) ?_
            repeat (go_big_quiet_step (with_reducible first | exact cE _ _ | exact cR' _ _))
            refine wpQuiet_nil ?_
            intro _ hw'
            obtain ⟨⟨dq, osq⟩, hw''⟩ := hw'
            subst hw''
            clear c8 cE cR'
            have HBZ := Lib.hid (below_next HX2.out (below_regrown x2 dq osq))
            go_wp2_with fail
            go_roundw
            case rel => exact ⟨q4 + 1, by omega, by go_num, below_next HBS.out HBZ.out⟩
            case measure => simp [intOf]; omega
          · have hd4 : decide ((q4 : Int) < 2) = false := by simp; omega
            have HBW := Lib.hid (below_next HBV.out hb)
            clear hb
            go_wp2_with (go_at_call 9; (with_reducible refine (HAW.out _ HBW.out).mono ?_); rintro e w1 ⟨rfl, hb1⟩; have HB1 := Lib.hid (below_next HBW.out hb1); clear hb1)
            go_ret
            exact ⟨rfl, HB1.out⟩
      · skip
        have HST := Lib.hid (chkSt_mk HB1.out (HBP.out _ HBX.out) HC31.out HLR1.out HC8X.out HRX.out HNE.out HSMN.out)
        obtain ⟨e3, e8, eR, ⟨n', eN, hN', hsn⟩, eB⟩ := HST.out
        have HER := Lib.hid eR
        have HEN' := Lib.hid eN
        have HNL := Lib.hid hN'
        have HSNL := Lib.hid hsn
        have HEB := Lib.hid eB
        clear eR eN hN' hsn eB
        go_wp2_with fail
        have hsz : (w7).heap.size = w7.heap.size := by first | rfl | simp [World.setCell]
        have hrow : ∀ kq, kq < 2 → ∃ (a' : Option Addr) (c' len : Nat) (nn : Nm), ((w7).alloc (.cells #[.slice aR NR cR, .slice (some ⟨bN, 0, none⟩) N cN] 24)).cell? ⟨w7.heap.size, kq, none⟩ = some (.slice a' len c') ∧ RLies ((w7).alloc (.cells #[.slice aR NR cR, .slice (some ⟨bN, 0, none⟩) N cN] 24)) a' nn ∧ len = nn.length ∧ SmallN nn := by
          intro kq hkq
          have hc : ∀ j, ((w7).alloc (.cells #[.slice aR NR cR, .slice (some ⟨bN, 0, none⟩) N cN] 24)).cell? ⟨w7.heap.size, j, none⟩ = (#[Value.slice aR NR cR, .slice (some ⟨bN, 0, none⟩) N cN] : Array Value)[j]? := fun j => by
            rw [← hsz]
            exact cell_of_row _ _ j _ _ _ (heap_alloc_new (w7) _)
          rcases (by omega : kq = 0 ∨ kq = 1) with rfl | rfl
          · exact ⟨aR, cR, NR, r, hc 0, HER.out.below (belowNew (w7) _), HNR.out, HSH1.out⟩
          · exact ⟨(some ⟨bN, 0, none⟩), cN, N, n', hc 1, HEN'.out.below (belowNew (w7) _), HNL.out, HSNL.out⟩
        have HROW := Lib.hid hrow
        have HBV := Lib.hid (below_next HEB.out (belowNew (w7) (.cells #[.slice aR NR cR, .slice (some ⟨bN, 0, none⟩) N cN] 24)))
        clear hrow e3 e8
        generalize (w7).alloc (.cells #[.slice aR NR cR, .slice (some ⟨bN, 0, none⟩) N cN] 24) = VV at HROW HBV ⊢
        clear hsz
        generalize w7.heap.size = G at HROW ⊢
        go_loopw [94] (fun i ws => ∃ k : Nat, k ≤ 2 ∧ i = .int .i64 k ∧ Below VV.heap.size VV ws) (fun i _ => 2 - (intOf i).toNat)
        case atStart => exact ⟨0, Nat.zero_le _, rfl, Below.refl _ _⟩
        case round =>
          obtain ⟨ws, hws⟩ : ∃ ws, ws = wr := ⟨_, rfl⟩
          subst hws
          obtain ⟨q4, hq4, rfl, hb⟩ := hrel
          have HBS := Lib.hid hb
          by_cases hlt4 : q4 < 2
          · have hd4 : decide ((q4 : Int) < 2) = true := by simp; omega
            obtain ⟨a', c', len, nn, hcl, hrl, hlen, hsmn⟩ := HROW.out q4 hlt4
            have c0 := (hb.cell (p := ⟨G, q4, none⟩) (block_lt hcl)).trans hcl
            have HRL := Lib.hid (hrl.below hb)
            have HLE := Lib.hid hlen
            have HSN := Lib.hid hsmn
            have HTB := Lib.hid (fun X (h : Below ws.heap.size ws X) => HTW.out X (below_next (below_next HBV.out HBS.out) h))
            obtain ⟨E, hE⟩ : ∃ E, E = chkN nn := ⟨_, rfl⟩
            obtain ⟨S, hS⟩ : ∃ S, S = encV nn := ⟨_, rfl⟩
            have HEN := Lib.hid (fun X (h : Below ws.heap.size ws X) => encode_core a' c' len nn X (HRL.out.below h) HLE.out HSN.out (HTB.out X h))
            have HRE := Lib.hid (fun X (h : Below ws.heap.size ws X) => rencode_core a' c' len nn X (HRL.out.below h) HLE.out HSN.out)
            have HCK := Lib.hid (fun X (h : Below ws.heap.size ws X) => chk_core a' c' len nn X (HRL.out.below h) HLE.out HSN.out (HTB.out X h))
            have HRC := Lib.hid (fun X (h : Below ws.heap.size ws X) => rchk_core a' c' len nn X (HRL.out.below h) HLE.out HSN.out)
            rw [← hE] at HEN HRE HCK HRC
            rw [← hS] at HEN HRE
            clear hcl hrl hlen hsmn hb hE hS
            go_wp2_with (first
              | (go_at_call 14; (with_reducible refine (HEN.out _ (belowNew ws _)).mono ?_); rintro e x1 ⟨rfl, hb1⟩; have hq1 := (hb1.block ws.heap.size (by simp)).trans (heap_alloc_new ws _); have HX1 := Lib.hid (below_next (belowNew ws _) hb1); have HQ1 := Lib.hid hq1; obtain ⟨z0, _, z1⟩ := one_facts hq1; clear hb1 hq1)
              | (go_at_call 15; (with_reducible refine (HRE.out _ HX1.out).mono ?_); rintro e x2 ⟨rfl, hb2⟩; have hq2 := (hb2.block ws.heap.size (Array.getElem?_eq_some_iff.1 HQ1.out).1).trans HQ1.out; have HX2 := Lib.hid (below_next HX1.out hb2); have HQ2 := Lib.hid hq2; obtain ⟨z0', _, z1'⟩ := one_facts hq2; clear hb2 hq2))
            have hee : ((E : Int) != (E : Int)) = false := by simp
            have hss : (S.toList == S.toList) = true := by simp
            have hss2 : (S.toList != S.toList) = false := by simp
            have c8 := cell_regrown (one_facts HQ2.out).1
            have cE : ∀ d' os, Calls Tryz.prog 16 #[.agg #[.slice a' len c']] (Sort.grow (redrawn x2 d') os) fun e w'' => e = .returned (.int .i64 (E : Int)) ∧ ∃ p : Regrown, w'' = Sort.grow (redrawn x2 p.d) p.os := fun d' os => Calls.regrown_of (HCK.out _ (below_next HX2.out (below_regrown x2 d' os)))
            have cR' : ∀ d' os, Calls Tryz.prog 17 #[.agg #[.slice a' len c']] (Sort.grow (redrawn x2 d') os) fun e w'' => e = .returned (.int .i64 (E : Int)) ∧ ∃ p : Regrown, w'' = Sort.grow (redrawn x2 p.d) p.os := fun d' os => Calls.regrown_of (HRC.out _ (below_next HX2.out (below_regrown x2 d' os)))
            clear c0 z0 z1 z0' z1'
            refine wp_region_quiet_below (by kernel_rfl) (by kernel_rfl) ?_
            repeat (go_big_quiet_step (with_reducible first | exact cE _ _ | exact cR' _ _))
            refine wpQuiet_nil ?_
            intro _ hw'
            obtain ⟨⟨dq, osq⟩, hw''⟩ := hw'
            subst hw''
            clear c8 cE cR'
            have HBZ := Lib.hid (below_next HX2.out (below_regrown x2 dq osq))
            go_wp2_with fail
            go_roundw
            case rel => exact ⟨q4 + 1, by omega, by go_num, below_next HBS.out HBZ.out⟩
            case measure => simp [intOf]; omega
          · have hd4 : decide ((q4 : Int) < 2) = false := by simp; omega
            have HBW := Lib.hid (below_next HBV.out hb)
            clear hb
            go_wp2_with (go_at_call 9; (with_reducible refine (HAW.out _ HBW.out).mono ?_); rintro e w1 ⟨rfl, hb1⟩; have HB1 := Lib.hid (below_next HBW.out hb1); clear hb1)
            go_ret
            exact ⟨rfl, HB1.out⟩
end Go.Proofs.YtfpfgdbfigdooaaGreatDoor
