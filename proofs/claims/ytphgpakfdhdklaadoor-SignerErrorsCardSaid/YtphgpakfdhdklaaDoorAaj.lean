/-
  What is wanted of the program's signers, as propositions; and what lies in memory while a law works with a signer and a deck.
  The contract of the law package's sanity check, over what is wanted of the program's signers.
  The contracts of the program's numbers as bytes, of its keys and of the first value, the steps and the public key of a key.
  The contracts of the program's numbers as bytes, of what follows from a public key, and of its checks of a key and of a signature's leaf.
  The contracts of the program's digest of a message, of its node over two nodes and of the way up from a leaf.
-/
import Derived.Test.YtphgpakfdhdklaaDoorAaf
import Derived.Test.YtphgpakfdhdklaaDoorAai
import Derived.Test.YtphgpakfdhdklaaDoorAah
import Derived.Test.YtphgpakfdhdklaaDoorAae
import Derived.Test.YtphgpakfdhdklaaDoorAad
import Derived.Deep.RegionHeld3
namespace Go.Proofs.YtphgpakfdhdklaaDoor
open Go.RowKit

theorem DeckAt.but {w w' : World} {p q B : Nat} {a : Option Addr} {cap : Nat} {zs : List Int} {k : Nat} (h : DeckAt w p a cap zs k) (hb : But q w w') (hq : q ≠ p) (hB : B ≤ q) (hBw : B ≤ w.heap.size) (hx : ∀ x, a = some x → zs ≠ [] → x.block < B) : DeckAt w' p a cap zs k := by
  obtain ⟨h1, h2, h3, h4, h5⟩ := h
  have hp := (Array.getElem?_eq_some_iff.1 h1).1
  have hbl : Below B w w' := ⟨hb.os, hb.tape, hb.output, hb.size, fun k hk => hb.block k (Nat.lt_of_lt_of_le hk hBw) (by simp; omega)⟩
  exact ⟨(hb.block p hp (by simpa using hq.symm)).trans h1, h2.below hbl hx, h3, h4, h5⟩
theorem but_base {w w' : World} {q B : Nat} (hb : But q w w') (hB : B ≤ q) (hBw : B ≤ w.heap.size) : Below B w w' :=
  ⟨hb.os, hb.tape, hb.output, hb.size, fun k hk => hb.block k (Nat.lt_of_lt_of_le hk hBw) (by simp; omega)⟩

/-- SA says of a world and a block that a signer of a seed with a height lies there, whose next leaf is the last number. -/
def SignP := World → Nat → ByteArray → Nat → Nat → Prop
/-- The types of what is written beside. -/
def Other (t : TypeId) : Prop := t = 69 ∨ t = 4 ∨ t = 55
structure Signers (SA : SignP) : Prop where
  keep : ∀ (W W' : World) (p : Nat) (s : ByteArray) (h n : Nat), SA W p s h n → Below W.heap.size W W' → SA W' p s h n
  typ : ∀ (W : World) (p : Nat) (s : ByteArray) (h n : Nat), SA W p s h n → ∃ cs fr, W.heap[p]? = some (.cells cs 55 fr)
  fit : ∀ (W : World) (p : Nat) (s : ByteArray) (h n : Nat), SA W p s h n → s.size = 32 ∧ h ≤ 8 ∧ n ≤ 2 ^ h
  other : ∀ (W W' : World) (p q : Nat) (s : ByteArray) (h n : Nat) (cs : Array Value) (t : TypeId) (fr : Nat × Nat), SA W p s h n → But q W W' → q ≠ p → W.heap[q]? = some (.cells cs t fr) → Other t → SA W' p s h n
  new : ∀ (seed : ByteArray) (h : Nat) (w : World), seed.size = 32 → h ≤ 8 → Holds w 0 kWords → Calls Tryd.prog 9 #[.string seed, .int .i64 (h : Int)] w fun e w' => (∃ p, w.heap.size ≤ p ∧ e = .returned (.tuple #[.pointer (some ⟨p, 0, none⟩), .int .i64 0]) ∧ SA w' p seed h 0) ∧ Below w.heap.size w w'
  at' : ∀ (seed : ByteArray) (h n : Nat) (w : World), seed.size = 32 → h ≤ 8 → n ≤ 2 ^ h → Holds w 0 kWords → Calls Tryd.prog 26 #[.string seed, .int .i64 (h : Int), .int .i64 (n : Int)] w fun e w' => (∃ p, w.heap.size ≤ p ∧ e = .returned (.tuple #[.pointer (some ⟨p, 0, none⟩), .int .i64 0]) ∧ SA w' p seed h n) ∧ Below w.heap.size w w'
  key : ∀ (p : Nat) (s : ByteArray) (h n : Nat) (w : World), SA w p s h n → Calls Tryd.prog 23 #[.pointer (some ⟨p, 0, none⟩)] w fun e w' => e = .returned (keyV (h : Int) (idT s) (rootS s h)) ∧ Below w.heap.size w w'
  next : ∀ (p : Nat) (s : ByteArray) (h n : Nat) (w : World), SA w p s h n → Calls Tryd.prog 21 #[.pointer (some ⟨p, 0, none⟩)] w fun e w' => e = .returned (.int .i64 (n : Int)) ∧ Below w.heap.size w w'
  left : ∀ (p : Nat) (s : ByteArray) (h n : Nat) (w : World), SA w p s h n → Calls Tryd.prog 22 #[.pointer (some ⟨p, 0, none⟩)] w fun e w' => e = .returned (.int .i64 ((2 ^ h - n : Nat) : Int)) ∧ Below w.heap.size w w'
  save : ∀ (p : Nat) (s : ByteArray) (h n : Nat) (w : World), SA w p s h n → Calls Tryd.prog 18 #[.pointer (some ⟨p, 0, none⟩)] w fun e w' => e = .returned (.string (saveS s h n)) ∧ Below w.heap.size w w'
  sign : ∀ (p : Nat) (s : ByteArray) (h n : Nat) (m : ByteArray) (w : World), SA w p s h n → n < 2 ^ h → m.size ≤ 1000000000 → Holds w 0 kWords → Calls Tryd.prog 14 #[.pointer (some ⟨p, 0, none⟩), .string m] w fun e w' => e = .returned (someV (sigT s h n m)) ∧ SA w' p s h (n + 1) ∧ But p w w'
  signx : ∀ (p : Nat) (s : ByteArray) (h n : Nat) (m : ByteArray) (w : World), SA w p s h n → n = 2 ^ h → Calls Tryd.prog 14 #[.pointer (some ⟨p, 0, none⟩), .string m] w fun e w' => e = .returned (.tuple #[.string ⟨#[]⟩, .int .i64 19]) ∧ Below w.heap.size w w'
  skip : ∀ (p : Nat) (s : ByteArray) (h n : Nat) (m : Int) (w : World), SA w p s h n → Calls Tryd.prog 16 #[.pointer (some ⟨p, 0, none⟩), .int .i64 m] w fun e w' => e = .returned (.int .i64 ((min m.toNat (2 ^ h - n) : Nat) : Int)) ∧ SA w' p s h (n + min m.toNat (2 ^ h - n)) ∧ But p w w'
  fork : ∀ (p : Nat) (s : ByteArray) (h n : Nat) (w : World), SA w p s h n → Calls Tryd.prog 17 #[.pointer (some ⟨p, 0, none⟩)] w fun e w' => (∃ p', w.heap.size ≤ p' ∧ e = .returned (.pointer (some ⟨p', 0, none⟩)) ∧ SA w' p' s h n) ∧ Below w.heap.size w w'
  load : ∀ (b : ByteArray) (w : World), LoadOk b → Holds w 0 kWords → Calls Tryd.prog 20 #[.string b] w fun e w' => (∃ p, w.heap.size ≤ p ∧ e = .returned (.tuple #[.pointer (some ⟨p, 0, none⟩), .int .i64 0]) ∧ SA w' p (b.extract 4 36) (u8at b 36) (nextB b)) ∧ Below w.heap.size w w'
  loadx : ∀ (b : ByteArray) (w : World), ¬ LoadOk b → Holds w 0 kWords → Calls Tryd.prog 20 #[.string b] w fun e w' => e = .returned (.tuple #[.pointer none, .int .i64 7]) ∧ Below w.heap.size w w'

/-- What lies in memory while a law works: since the world Wt nothing that was there has changed, a signer lies at p and a deck at dp. -/
structure Run (SA : SignP) (Wt W : World) (dp : Nat) (a : Option Addr) (cap : Nat) (zs : List Int) (k p : Nat) (s : ByteArray) (h n : Nat) : Prop where
  bel : Below Wt.heap.size Wt W
  sa : SA W p s h n
  dk : DeckAt W dp a cap zs k
  hp : Wt.heap.size ≤ p
  hd : Wt.heap.size ≤ dp
  hx : ∀ x, a = some x → zs ≠ [] → x.block < Wt.heap.size
section
variable {SA : SignP} (hS : Signers SA) {Wt W W' : World} {dp : Nat} {a : Option Addr} {cap : Nat} {zs : List Int} {k p : Nat} {s : ByteArray} {h n : Nat}
include hS
theorem Run.apart (r : Run SA Wt W dp a cap zs k p s h n) : dp ≠ p := by
  obtain ⟨cs, fr, e⟩ := hS.typ _ _ _ _ _ r.sa
  intro e1
  have e2 := r.dk.1
  rw [e1, e] at e2
  have e3 : 55 = 69 := by
    simp only [Option.some.injEq, Obj.cells.injEq] at e2
    exact e2.2.1
  exact absurd e3 (by decide)
theorem Run.read (r : Run SA Wt W dp a cap zs k p s h n) (hb : Below W.heap.size W W') : Run SA Wt W' dp a cap zs k p s h n :=
  ⟨r.bel.trans (hb.mono r.bel.size), hS.keep _ _ _ _ _ _ r.sa hb, r.dk.below hb, r.hp, r.hd, r.hx⟩
theorem Run.deck (r : Run SA Wt W dp a cap zs k p s h n) {k' : Nat} (hd : DeckAt W' dp a cap zs k') (hb : But dp W W') : Run SA Wt W' dp a cap zs k' p s h n :=
  ⟨r.bel.trans (but_base hb r.hd r.bel.size), hS.other _ _ _ dp _ _ _ _ _ _ r.sa hb (r.apart hS) r.dk.1 (.inl rfl), hd, r.hp, r.hd, r.hx⟩
theorem Run.mut (r : Run SA Wt W dp a cap zs k p s h n) {n' : Nat} (hs : SA W' p s h n') (hb : But p W W') : Run SA Wt W' dp a cap zs k p s h n' :=
  ⟨r.bel.trans (but_base hb r.hp r.bel.size), hs, r.dk.but hb (r.apart hS).symm r.hp r.bel.size r.hx, r.hp, r.hd, r.hx⟩
omit hS in
theorem Run.swap (r : Run SA Wt W dp a cap zs k p s h n) {p' : Nat} {s' : ByteArray} {h' n' : Nat} (hp : W.heap.size ≤ p' ∨ Wt.heap.size ≤ p') (hs : SA W p' s' h' n') : Run SA Wt W dp a cap zs k p' s' h' n' :=
  ⟨r.bel, hs, r.dk, by have := r.bel.size; omega, r.hd, r.hx⟩
/-- Another signer is not changed by what is done to this one. -/
theorem Run.aside (r : Run SA Wt W dp a cap zs k p s h n) {p' : Nat} {s' : ByteArray} {h' n' : Nat} (hs : SA W p' s' h' n') (hne : p ≠ p') (hb : But p W W') : SA W' p' s' h' n' := by
  obtain ⟨cs, fr, e⟩ := hS.typ _ _ _ _ _ r.sa
  exact hS.other _ _ _ p _ _ _ _ _ _ hs hb hne e (.inr (.inr rfl))
end
theorem Run.holds {SA : SignP} {Wt W : World} {dp : Nat} {a : Option Addr} {cap : Nat} {zs : List Int} {k p : Nat} {s : ByteArray} {h n : Nat} (r : Run SA Wt W dp a cap zs k p s h n) (hK : Holds Wt 0 kWords) : Holds W 0 kWords := hK.old r.bel
end Go.Proofs.YtphgpakfdhdklaaDoor
namespace Go.Proofs.YtphgpakfdhdklaaDoor
open Go.RowKit

set_option maxRecDepth 100000 in
set_option maxHeartbeats 1000000 in
theorem awakev_any {SA : SignP} (hS : Signers SA) (w : World) (hK : Holds w 0 kWords) :
    Calls Tryd.prog 25 #[] w fun e w' => e = .returned (.bool true) ∧ Below w.heap.size w w' := by
  obtain ⟨S, hSS⟩ : ∃ S, S = seedS 1 := ⟨_, rfl⟩
  have hSs : S.size = 32 := by rw [hSS]; exact seedS_size 1
  obtain ⟨X, hX⟩ : ∃ X, X = sigT S 0 0 ⟨#[97]⟩ := ⟨_, rfl⟩
  have HSD : Hid (∀ W : World, Calls Tryd.prog 10 #[.int .i64 1] W fun e w' => e = .returned (.string S) ∧ Below W.heap.size W w') := Lib.hid fun W => by rw [hSS]; exact seedq_any 1 (by omega) W
  have HNW : Hid (∀ W : World, Holds W 0 kWords → Calls Tryd.prog 9 #[.string S, .int .i64 0] W fun e w' => (∃ p, W.heap.size ≤ p ∧ e = .returned (.tuple #[.pointer (some ⟨p, 0, none⟩), .int .i64 0]) ∧ SA w' p S 0 0) ∧ Below W.heap.size W w') := Lib.hid fun W h => hS.new S 0 W hSs (by omega) h
  have HSA : Hid (∀ (p : Nat) (W : World), SA W p S 0 0 → Holds W 0 kWords → Calls Tryd.prog 14 #[.pointer (some ⟨p, 0, none⟩), .string ⟨#[97]⟩] W fun e w' => e = .returned (.tuple #[.string X, .int .i64 0]) ∧ SA w' p S 0 1 ∧ But p W w') := Lib.hid fun p W h k => by
    have := hS.sign p S 0 0 ⟨#[97]⟩ W h (by decide) (by decide) k
    rw [← hX] at this
    exact this
  have HSB : Hid (∀ (p : Nat) (W : World), SA W p S 0 1 → Calls Tryd.prog 14 #[.pointer (some ⟨p, 0, none⟩), .string ⟨#[98]⟩] W fun e w' => e = .returned (.tuple #[.string ⟨#[]⟩, .int .i64 19]) ∧ Below W.heap.size W w') := Lib.hid fun p W h => hS.signx p S 0 1 ⟨#[98]⟩ W h (by decide)
  have HLF : Hid (∀ (p : Nat) (W : World), SA W p S 0 1 → Calls Tryd.prog 22 #[.pointer (some ⟨p, 0, none⟩)] W fun e w' => e = .returned (.int .i64 0) ∧ Below W.heap.size W w') := Lib.hid fun p W h => hS.left p S 0 1 W h
  have HK := Lib.hid hK
  have HKP := Lib.hid hS.keep
  clear hSS hSs hX hK hS
  go_enter Tryd.func25, Tryd.ntmps25
  go_wp2_with (first
    | (go_at_call 10; (with_reducible refine (HSD.out _).mono ?_); rintro e w1 ⟨rfl, hb1⟩; have HB1 := Lib.hid hb1; clear hb1)
    | (go_at_call 9; (with_reducible refine (HNW.out _ (HK.out.old HB1.out)).mono ?_); rintro e w2 ⟨⟨p, hp, rfl, ht⟩, hb2⟩; have HB2 := Lib.hid (HB1.out.next hb2); have HT2 := Lib.hid ht; have HP := Lib.hid (Nat.le_trans HB1.out.size hp); clear hb2 ht hp)
    | (go_at_call 14; (with_reducible refine (HSA.out _ _ HT2.out (HK.out.old HB2.out)).mono ?_); rintro e w3 ⟨rfl, ht, hb3⟩; have HB3 := Lib.hid (HB2.out.trans (but_base hb3 HP.out HB2.out.size)); have HT3 := Lib.hid ht; clear hb3 ht)
    | (go_at_call 14; (with_reducible refine (HSB.out _ _ HT3.out).mono ?_); rintro e w4 ⟨rfl, hb4⟩; have HB4 := Lib.hid (HB3.out.next hb4); have HT4 := Lib.hid (HKP.out _ _ _ _ _ _ HT3.out hb4); clear hb4)
    | (go_at_call 22; (with_reducible refine (HLF.out _ _ HT4.out).mono ?_); rintro e w5 ⟨rfl, hb5⟩; have HB5 := Lib.hid (HB4.out.next hb5); clear hb5))
  go_ret
  exact ⟨rfl, HB5.out⟩
end Go.Proofs.YtphgpakfdhdklaaDoor
namespace Go.Proofs.YtphgpakfdhdklaaDoor
open Go.RowKit

set_option maxRecDepth 100000 in
set_option maxHeartbeats 1000000 in
theorem p1_any (n : Nat) (hn : n < 256) (w : World) :
    Calls Tryd.prog 81 #[.int .i64 (n : Int)] w fun e w' => e = .returned (.string (strOf (b1 n))) ∧ Below w.heap.size w w' := by
  have h1 := text_one (UInt8.ofNat (n % 256))
  rw [bcell_of (n % 256) (n : Int) (by omega)] at h1
  go_enter Tryd.func81, Tryd.ntmps81
  go_wp2_with fail
  go_ret
  exact ⟨rfl, belowNew _ _⟩
set_option maxRecDepth 100000 in
set_option maxHeartbeats 1000000 in
theorem p4_any (n : Nat) (hn : n < 4294967296) (w : World) :
    Calls Tryd.prog 80 #[.int .i64 (n : Int)] w fun e w' => e = .returned (.string (strOf (b4 n))) ∧ Below w.heap.size w w' := by
  have h1 := text_four (UInt8.ofNat (n / 16777216 % 256)) (UInt8.ofNat (n / 65536 % 256)) (UInt8.ofNat (n / 256 % 256)) (UInt8.ofNat (n % 256))
  rw [bcell_of (n / 16777216 % 256) ((n : Int) / 16777216) (by omega), bcell_of (n / 65536 % 256) ((n : Int) / 65536 % 256) (by omega), bcell_of (n / 256 % 256) ((n : Int) / 256 % 256) (by omega), bcell_of (n % 256) ((n : Int) % 256) (by omega)] at h1
  go_enter Tryd.func80, Tryd.ntmps80
  go_wp2_with fail
  go_ret
  exact ⟨rfl, belowNew _ _⟩
theorem less_of {a : Nat} (h : a ≤ 1099511627776) : a < 2305843009213693952 := by omega
theorem sec_less {seed : ByteArray} (hi : seed.size ≤ 1000) (leaf c : Nat) : (cat_z [⟨#[83]⟩, seed, strOf (b4 leaf), strOf (b1 c)]).length < 2305843009213693952 := less_of (sec_room hi leaf c)
theorem key_less {id ends : ByteArray} (hi : id.size ≤ 1000) (he : ends.size ≤ 1000) (leaf : Nat) : (cat_z [⟨#[76]⟩, id, strOf (b4 leaf), ends]).length < 2305843009213693952 := less_of (key_room hi he leaf)
theorem step_less {id v : ByteArray} (hi : id.size ≤ 1000) (hv : v.size ≤ 1000) (leaf c p : Nat) : (cat_z [⟨#[67]⟩, id, strOf (b4 leaf), strOf (b1 c), strOf (b1 p), v]).length < 2305843009213693952 := less_of (step_room hi hv leaf c p)
theorem keySizeQ : (Tryd.prog.info? 98).map (·.size) = some 2 := by kernel_rfl
theorem kcell {w : World} {g : Nat} {a b : Value} {t : TypeId} (h : w.heap[g]? = some (.cells #[a, b] t (0, 0))) : w.cell? ⟨g, 0, none⟩ = some a ∧ w.cell? ⟨g, 1, none⟩ = some b ∧ g < w.heap.size :=
  ⟨by rw [cell_of_row w g _ _ _ _ h]; rfl, by rw [cell_of_row w g _ _ _ _ h]; rfl, (Array.getElem?_eq_some_iff.1 h).1⟩

theorem kset {w : World} {g : Nat} {a b x y : Value} {t : TypeId} (h : w.heap[g]? = some (.cells #[a, b] t (0, 0))) : ((w.setCell ⟨g, 0, none⟩ x).setCell ⟨g, 1, none⟩ y).heap[g]? = some (.cells #[x, y] t (0, 0)) := by
  simp [World.setCell, Array.getElem?_modify, h]
set_option maxRecDepth 100000 in
set_option maxHeartbeats 1000000 in
theorem pkey_any (id : ByteArray) (leaf : Nat) (hl : leaf < 4294967296) (w : World) :
    Calls Tryd.prog 66 #[.string id, .int .i64 (leaf : Int)] w fun e w' => e = .returned (.agg #[.string id, .string (strOf (b4 leaf))]) ∧ Below w.heap.size w w' := by
  have HL := Lib.hid hl
  clear hl
  go_enter Tryd.func66, Tryd.ntmps66
  go_wp2_with (go_at_call 80; (with_reducible refine (p4_any leaf HL.out _).mono ?_); rintro e w2 ⟨rfl, hb2⟩; have hq2 := (hb2.block w.heap.size (by simp)).trans (heap_alloc_new w _); obtain ⟨c0, c1, hlt⟩ := kcell hq2; have f0 := Lib.frozen_of_heap hq2 0; have f1 := Lib.frozen_of_heap hq2 1; have HQ := Lib.hid hq2; have HB := Lib.hid ((belowNew w _).next hb2); clear hb2 hq2)
  exact bodyPost_ret (results_cell_row rfl _ _ w.heap.size 98 _ (0, 0) _ rfl (kset HQ.out) Tryd.underlying98 rfl keySizeQ) rfl ⟨rfl, (HB.out.setCell (p := ⟨w.heap.size, 0, none⟩) (Nat.le_refl _) _).setCell (p := ⟨w.heap.size, 1, none⟩) (Nat.le_refl _) _⟩

set_option maxRecDepth 100000 in
set_option maxHeartbeats 1000000 in
theorem psec_any (id seed : ByteArray) (leaf c : Nat) (hs : seed.size ≤ 1000) (hc : c < 256) (w : World) (hK : Holds w 0 kWords) :
    Calls Tryd.prog 70 #[.agg #[.string id, .string (strOf (b4 leaf))], .string seed, .int .i64 (c : Int)] w fun e w' => e = .returned (.string (secS seed leaf c)) ∧ Below w.heap.size w w' := by
  have HS := Lib.hid hs
  have HC := Lib.hid hc
  have HE := Lib.hid (secS_eq seed leaf c)
  have HK := Lib.hid hK
  obtain ⟨L4, hL4⟩ : ∃ L4, L4 = strOf (b4 leaf) := ⟨_, rfl⟩
  have HR := Lib.hid (sec_less hs leaf c)
  rw [← hL4] at HE HR ⊢
  clear hs hc hK hL4
  go_enter Tryd.func70, Tryd.ntmps70
  go_wp2_with fail
  obtain ⟨W1, hW1⟩ : ∃ W1, W1 = w.alloc (.cells #[.string id, .string L4] 98) := ⟨_, rfl⟩
  rw [← hW1]
  have hq1 : W1.drew.heap[w.heap.size]? = some (.cells #[.string id, .string L4] 98 (0, 0)) := by rw [hW1]; exact heap_alloc_new w _
  have HQ1 := Lib.hid hq1
  have HB1 : Hid (Below w.heap.size w W1.drew) := Lib.hid (by rw [hW1]; exact (belowNew w _).drew)
  obtain ⟨_, c1, hlt⟩ := kcell hq1
  clear hW1 hq1
  go_region_law (first | (go_simp; go_at_call 81; (with_reducible refine (p1_any c HC.out _).mono ?_); rintro e w2 ⟨rfl, hb2⟩; have HB2 := Lib.hid (HB1.out.next hb2); have c2 := (hb2.cell (p := ⟨w.heap.size, 1, none⟩) hlt).trans c1; clear hb2) | (go_simp; go_at_call 57; refine (short_any _ [⟨#[83]⟩, seed, L4, strOf (b1 c)] _ (reads_row _ [⟨#[83]⟩, seed, L4, strOf (b1 c)] 9) (show (4 : Nat) < 4611686018427387904 by decide) (HK.out.old (HB2.out.alloc HB2.out.size _)) HR.out).mono ?_; rintro e w3 ⟨he, hb3⟩; rw [HE.out] at he; obtain rfl : e = .returned (.string (secS seed leaf c)) := he; have HB3 := Lib.hid ((HB2.out.alloc HB2.out.size _).next hb3); clear hb3))
  all_goals
    go_wp2_with fail
    go_ret
    exact ⟨rfl, HB3.out⟩

set_option maxRecDepth 100000 in
set_option maxHeartbeats 1000000 in
theorem pkeyp_any (id ends : ByteArray) (leaf : Nat) (hi : id.size ≤ 1000) (he : ends.size ≤ 1000) (w : World) (hK : Holds w 0 kWords) :
    Calls Tryd.prog 78 #[.agg #[.string id, .string (strOf (b4 leaf))], .string ends] w fun e w' => e = .returned (.string (keySq id leaf ends)) ∧ Below w.heap.size w w' := by
  have HE := Lib.hid (keyS_eq id ends leaf)
  have HK := Lib.hid hK
  obtain ⟨L4, hL4⟩ : ∃ L4, L4 = strOf (b4 leaf) := ⟨_, rfl⟩
  have HR := Lib.hid (key_less hi he leaf)
  rw [← hL4] at HE HR ⊢
  clear hi he hK hL4
  obtain ⟨W2, hW2⟩ : ∃ W2, W2 = (w.alloc (.cells #[.string id, .string L4] 98)).alloc (.cells #[.string ⟨#[76]⟩, .string id, .string L4, .string ends] 9) := ⟨_, rfl⟩
  have HRW : Hid (Reads_z W2 (.slice (some ⟨w.heap.size + 1, 0, none⟩) 4 4) [⟨#[76]⟩, id, L4, ends]) := Lib.hid (by
    have h := reads_row (w.alloc (.cells #[.string id, .string L4] 98)) [⟨#[76]⟩, id, L4, ends] 9
    rw [show (w.alloc (.cells #[.string id, .string L4] 98)).heap.size = w.heap.size + 1 by simp] at h
    rw [hW2]
    exact h)
  have HB2 : Hid (Below w.heap.size w W2) := Lib.hid (by rw [hW2]; exact (belowNew w _).next (belowNew _ _))
  have HK2 : Hid (Holds W2 0 kWords) := Lib.hid (HK.out.old HB2.out)
  have hw2 := hW2.symm
  have HSH : Hid (Calls Tryd.prog 57 #[.slice (some ⟨w.heap.size + 1, 0, none⟩) 4 4] W2 fun e w' => e = .returned (.string (keySq id leaf ends)) ∧ Below W2.heap.size W2 w') := Lib.hid (by
    have h := short_any _ _ W2 HRW.out (show (4 : Nat) < 4611686018427387904 by decide) HK2.out HR.out
    rw [HE.out] at h
    exact h)
  have HWW := Lib.hid hw2
  clear hW2 hw2
  go_enter Tryd.func78, Tryd.ntmps78
  go_wp2_with (go_at_call 57; rw [HWW.out]; (with_reducible refine HSH.out.mono ?_); rintro e w3 ⟨rfl, hb3⟩; have HB3 := Lib.hid (HB2.out.next hb3); clear hb3)
  go_ret
  exact ⟨rfl, HB3.out⟩
end Go.Proofs.YtphgpakfdhdklaaDoor
namespace Go.Proofs.YtphgpakfdhdklaaDoor
open Go.RowKit

set_option maxRecDepth 100000 in
set_option maxHeartbeats 1000000 in
theorem mp1_any (n : Nat) (hn : n < 256) (w : World) :
    Calls Tryd.prog 86 #[.int .i64 (n : Int)] w fun e w' => e = .returned (.string (strOf (b1 n))) ∧ Below w.heap.size w w' := by
  have h1 := text_one (UInt8.ofNat (n % 256))
  rw [bcell_of (n % 256) (n : Int) (by omega)] at h1
  go_enter Tryd.func86, Tryd.ntmps86
  go_wp2_with fail
  go_ret
  exact ⟨rfl, belowNew _ _⟩
set_option maxRecDepth 100000 in
set_option maxHeartbeats 1000000 in
theorem mp4_any (n : Nat) (hn : n < 4294967296) (w : World) :
    Calls Tryd.prog 49 #[.int .i64 (n : Int)] w fun e w' => e = .returned (.string (strOf (b4 n))) ∧ Below w.heap.size w w' := by
  have h1 := text_four (UInt8.ofNat (n / 16777216 % 256)) (UInt8.ofNat (n / 65536 % 256)) (UInt8.ofNat (n / 256 % 256)) (UInt8.ofNat (n % 256))
  rw [bcell_of (n / 16777216 % 256) ((n : Int) / 16777216) (by omega), bcell_of (n / 65536 % 256) ((n : Int) / 65536 % 256) (by omega), bcell_of (n / 256 % 256) ((n : Int) / 256 % 256) (by omega), bcell_of (n % 256) ((n : Int) % 256) (by omega)] at h1
  go_enter Tryd.func49, Tryd.ntmps49
  go_wp2_with fail
  go_ret
  exact ⟨rfl, belowNew _ _⟩
set_option maxRecDepth 100000 in
set_option maxHeartbeats 1000000 in
theorem mheight_any (h : Int) (w : World) :
    Calls Tryd.prog 56 #[.int .i64 h] w fun e w' => e = .returned (.bool (decide (0 ≤ h ∧ h ≤ 8))) ∧ Below w.heap.size w w' := by
  by_cases h1 : 0 ≤ h
  · have d1 : decide (0 ≤ h) = true := by simp; omega
    obtain ⟨b, hb⟩ : ∃ b, b = decide (h ≤ 8) := ⟨_, rfl⟩
    have hb2 : decide (h ≤ 8) = b := hb.symm
    have hbb : decide (0 ≤ h ∧ h ≤ 8) = b := by rw [hb]; simp [h1]
    rw [hbb]
    clear hbb hb
    cases b
    all_goals
      go_enter Tryd.func56, Tryd.ntmps56
      go_wp2_with fail
      go_ret
      exact ⟨rfl, Below.refl _ _⟩
  · have d1 : decide (0 ≤ h) = false := by simp; omega
    have hbb : decide (0 ≤ h ∧ h ≤ 8) = false := by simp; omega
    rw [hbb]
    clear hbb
    go_enter Tryd.func56, Tryd.ntmps56
    go_wp2_with fail
    go_ret
    exact ⟨rfl, Below.refl _ _⟩
set_option maxRecDepth 100000 in
set_option maxHeartbeats 1000000 in
theorem mleaves_any (h : Nat) (hh : h ≤ 8) (id root : ByteArray) (w : World) :
    Calls Tryd.prog 55 #[keyV (h : Int) id root] w fun e w' => e = .returned (.int .i64 ((2 ^ h : Nat) : Int)) ∧ Below w.heap.size w w' := by
  obtain ⟨N, hN⟩ : ∃ N, N = 2 ^ h := ⟨_, rfl⟩
  have hsh := wrap_pow hh hN
  have hh0 : (0 : Int) ≤ (h : Int) := by omega
  rw [← hN]
  unfold keyV
  clear hN
  go_enter Tryd.func55, Tryd.ntmps55
  go_wp2_with fail
  go_ret
  rw [hsh]
  exact ⟨rfl, belowNew _ _⟩
set_option maxRecDepth 100000 in
set_option maxHeartbeats 1000000 in
theorem msize_any (h : Nat) (hh : h ≤ 8) (id root : ByteArray) (w : World) :
    Calls Tryd.prog 61 #[keyV (h : Int) id root] w fun e w' => e = .returned (.int .i64 ((564 + h * 16 : Nat) : Int)) ∧ Below w.heap.size w w' := by
  obtain ⟨t, ht⟩ : ∃ t, t = 564 + h * 16 := ⟨_, rfl⟩
  have hti : (564 : Int) + (h : Int) * 16 = (t : Int) := by omega
  rw [← ht]
  unfold keyV
  clear ht
  go_enter Tryd.func61, Tryd.ntmps61
  go_wp2_with fail
  go_ret
  exact ⟨rfl, belowNew _ _⟩
end Go.Proofs.YtphgpakfdhdklaaDoor
namespace Go.Proofs.YtphgpakfdhdklaaDoor
open Go.RowKit

set_option maxRecDepth 100000 in
set_option maxHeartbeats 1000000 in
theorem mdig_any (h : Int) (id root m : ByteArray) (leaf : Nat) (hl : leaf < 4294967296) (hi : id.size ≤ 1000) (hr : root.size ≤ 1000) (hm : m.size ≤ 1000000000) (w : World) (hK : Holds w 0 kWords) :
    Calls Tryd.prog 48 #[keyV h id root, .int .i64 (leaf : Int), .string m] w fun e w' => e = .returned (.string (dgM id root leaf m)) ∧ Below w.heap.size w w' := by
  obtain ⟨dg, hdg⟩ : ∃ dg, dg = dgM id root leaf m := ⟨_, rfl⟩
  have HDG : Hid (∀ (V : Value) (W : World), Holds W 0 kWords → Reads_z W V [⟨#[77]⟩, id, root, strOf (b4 leaf), m] → Calls Tryd.prog 57 #[V] W fun e w' => e = .returned (.string dg) ∧ Below W.heap.size W w') := Lib.hid fun V W hk hV => by
    rw [hdg]
    exact short_any V _ W hV (show (5 : Nat) < 4611686018427387904 by decide) hk (less_of (dgM_room hi hr hm leaf))
  obtain ⟨g, hg⟩ : ∃ g, g = w.heap.size := ⟨_, rfl⟩
  obtain ⟨W1, hW1⟩ : ∃ W1, W1 = w.alloc (.cells #[.int .i64 h, .string id, .string root] 79) := ⟨_, rfl⟩
  have hq1 : W1.heap[g]? = some (.cells #[.int .i64 h, .string id, .string root] 79 (0, 0)) := by rw [hW1, hg]; exact heap_alloc_new w _
  have HB1 : Hid (Below w.heap.size w W1) := Lib.hid (by rw [hW1]; exact belowNew w _)
  have HK1 : Hid (Holds W1 0 kWords) := Lib.hid (hK.old HB1.out)
  have HW1 := Lib.hid hW1.symm
  have HG := Lib.hid hg
  have HL := Lib.hid hl
  obtain ⟨c0, c1, c2, hgl⟩ := tcell hq1
  have HGL := Lib.hid hgl
  rw [← hdg]
  unfold keyV
  clear hdg hl hi hr hm hK hW1 hq1 hgl hg c0
  go_enter Tryd.func48, Tryd.ntmps48
  go_wp2_with fail
  rw [HW1.out, ← HG.out]
  go_region_held3 (fun w' => w'.cell? ⟨g, 1, none⟩ = some (.string id) ∧ w'.cell? ⟨g, 2, none⟩ = some (.string root)) (first | with_reducible exact ⟨by assumption, by assumption⟩ | go_keep)
    (first
      | (go_at_call 49; (with_reducible refine (mp4_any leaf HL.out _).mono ?_); rintro e w4 ⟨rfl, hb4⟩; have hx : Below W1.heap.size W1 w4 := (by first | exact hb4 | exact (Below.refl _ _).drew.trans hb4); have s1 := (hx.cell (p := ⟨g, 1, none⟩) HGL.out).trans c1; have s2 := (hx.cell (p := ⟨g, 2, none⟩) HGL.out).trans c2; have HB4 := Lib.hid hx; clear hb4 hx)
      | (go_at_call 57; refine (HDG.out _ _ (HK1.out.old (HB4.out.next (belowNew _ _))) (reads_row _ [⟨#[77]⟩, id, root, strOf (b4 leaf), m] 9)).mono ?_; rintro e w5 ⟨rfl, hb5⟩; have hx : Below W1.heap.size W1 w5 := (HB4.out.next (belowNew _ _)).next hb5; have s3 := (hx.cell (p := ⟨g, 1, none⟩) HGL.out).trans c1; have s4 := (hx.cell (p := ⟨g, 2, none⟩) HGL.out).trans c2; have HB5 := Lib.hid hx; clear hb5 hx))
  go_wp2_with fail
  go_ret
  exact ⟨rfl, HB1.out.next HB5.out⟩

set_option maxRecDepth 100000 in
set_option maxHeartbeats 1000000 in
theorem mpar_any (h : Int) (id root x y : ByteArray) (l i : Nat) (hl : l < 256) (hi4 : i < 4294967296) (hi : id.size ≤ 1000) (hx : x.size ≤ 1000) (hy : y.size ≤ 1000) (w : World) (hK : Holds w 0 kWords) :
    Calls Tryd.prog 75 #[keyV h id root, .int .i64 (l : Int), .int .i64 (i : Int), .string x, .string y] w fun e w' => e = .returned (.string (joinQ hQ id.data.toList l i x y)) ∧ Below w.heap.size w w' := by
  obtain ⟨z, hz⟩ : ∃ z, z = joinQ hQ id.data.toList l i x y := ⟨_, rfl⟩
  have HJ : Hid (∀ (V : Value) (W : World), Holds W 0 kWords → Reads_z W V [⟨#[78]⟩, id, strOf (b1 l), strOf (b4 i), x, y] → Calls Tryd.prog 57 #[V] W fun e w' => e = .returned (.string z) ∧ Below W.heap.size W w') := Lib.hid fun V W hk hV => by
    rw [hz, ← join_eq]
    exact short_any V _ W hV (show (6 : Nat) < 4611686018427387904 by decide) hk (less_of (join_room hi hx hy l i))
  obtain ⟨g, hg⟩ : ∃ g, g = w.heap.size := ⟨_, rfl⟩
  obtain ⟨W1, hW1⟩ : ∃ W1, W1 = w.alloc (.cells #[.int .i64 h, .string id, .string root] 79) := ⟨_, rfl⟩
  have hq1 : W1.heap[g]? = some (.cells #[.int .i64 h, .string id, .string root] 79 (0, 0)) := by rw [hW1, hg]; exact heap_alloc_new w _
  have HB1 : Hid (Below w.heap.size w W1) := Lib.hid (by rw [hW1]; exact belowNew w _)
  have HK1 : Hid (Holds W1 0 kWords) := Lib.hid (hK.old HB1.out)
  have HW1 := Lib.hid hW1.symm
  have HG := Lib.hid hg
  have HL := Lib.hid hl
  have HI4 := Lib.hid hi4
  obtain ⟨c0, c1, c2, hgl⟩ := tcell hq1
  have HGL := Lib.hid hgl
  rw [← hz]
  unfold keyV
  clear hz hl hi4 hi hx hy hK hW1 hq1 hgl hg c0 c2
  go_enter Tryd.func75, Tryd.ntmps75
  go_wp2_with fail
  rw [HW1.out, ← HG.out]
  go_region_held3 (fun w' => w'.cell? ⟨g, 1, none⟩ = some (.string id)) (first | with_reducible assumption | go_keep)
    (first
      | (go_at_call 86; (with_reducible refine (mp1_any l HL.out _).mono ?_); rintro e w3 ⟨rfl, hb3⟩; have hx : Below W1.heap.size W1 w3 := (by first | exact hb3 | exact (Below.refl _ _).drew.trans hb3); have s1 := (hx.cell (p := ⟨g, 1, none⟩) HGL.out).trans c1; have HB3 := Lib.hid hx; clear hb3 hx)
      | (go_at_call 49; (with_reducible refine (mp4_any i HI4.out _).mono ?_); rintro e w4 ⟨rfl, hb4⟩; have hx : Below W1.heap.size W1 w4 := (by first | exact HB3.out.next hb4 | exact HB3.out.drew.next hb4); have s2 := (hx.cell (p := ⟨g, 1, none⟩) HGL.out).trans c1; have HB4 := Lib.hid hx; clear hb4 hx)
      | (go_at_call 57; refine (HJ.out _ _ (HK1.out.old (HB4.out.next (belowNew _ _))) (reads_row _ [⟨#[78]⟩, id, strOf (b1 l), strOf (b4 i), x, y] 9)).mono ?_; rintro e w5 ⟨rfl, hb5⟩; have hx : Below W1.heap.size W1 w5 := (HB4.out.next (belowNew _ _)).next hb5; have s3 := (hx.cell (p := ⟨g, 1, none⟩) HGL.out).trans c1; have HB5 := Lib.hid hx; clear hb5 hx))
  go_wp2_with fail
  go_ret
  exact ⟨rfl, HB1.out.next HB5.out⟩
end Go.Proofs.YtphgpakfdhdklaaDoor
