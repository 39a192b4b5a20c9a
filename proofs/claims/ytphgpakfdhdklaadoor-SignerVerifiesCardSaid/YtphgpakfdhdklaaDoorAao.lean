/-
  The contracts of the program's siblings of a leaf and of its Sign.
  A row of strings that a call has made and fills from the front; the contract of the program's oneTimeKeys.
  The contract of the program's grow.
-/
import Derived.Test.YtphgpakfdhdklaaDoorAaj
import Derived.Test.YtphgpakfdhdklaaDoorAan
import Derived.Test.YtphgpakfdhdklaaDoorAal
import Derived.Test.YtphgpakfdhdklaaDoorAai
import Derived.Test.YtphgpakfdhdklaaDoorAam
import Derived.Test.YtphgpakfdhdklaaDoorAag
import Derived.Laws.MakeOwn
import Derived.Deep.RegionHeld3
namespace Go.Proofs.YtphgpakfdhdklaaDoor
open Go.RowKit

theorem sibsS_next (seed : ByteArray) (leaf l : Nat) : sibsS seed leaf (l + 1) = sibsS seed leaf l ++ nodeS seed l (sibQ (leaf / 2 ^ l)) := rfl
set_option maxRecDepth 100000 in
set_option maxHeartbeats 2000000 in
theorem msibs_any (p : Nat) (seed : ByteArray) (h leaf : Nat) (hl : leaf < 2 ^ h) (w : World) (t : TreeAt w p seed h) :
    Calls Tryd.prog 50 #[.pointer (some ⟨p, 0, none⟩), .int .i64 (leaf : Int)] w fun e w' => e = .returned (.string (sibsS seed leaf h)) ∧ Below w.heap.size w w' := by
  have hh := t.1
  have hp := pow_small hh
  have hl256 : leaf < 256 := by omega
  obtain ⟨b, o, c, hq, hc, hb, hlev⟩ := t.open
  obtain ⟨ID, hID⟩ : ∃ ID, ID = idT seed := ⟨_, rfl⟩
  obtain ⟨R, hR⟩ : ∃ R, R = rootS seed h := ⟨_, rfl⟩
  obtain ⟨n, hn⟩ : ∃ n, n = h + 1 := ⟨_, rfl⟩
  rw [← hID, ← hR, ← hn] at hq
  have HQ := Lib.hid hq
  have HLV := Lib.hid hlev
  have HB := Lib.hid hb
  have HH := Lib.hid hh
  have HN := Lib.hid hn
  have HLF := Lib.hid hl
  obtain ⟨g, hg⟩ : ∃ g, g = w.heap.size := ⟨_, rfl⟩
  obtain ⟨W1, hW1⟩ : ∃ W1, W1 = w.alloc (.cells #[.pointer none, .slice none 0 0] 105) := ⟨_, rfl⟩
  have HBD : Hid (BldS g g [] W1) := Lib.hid (by rw [hW1, hg]; exact bldS_new w)
  have HB1 : Hid (Below g w W1) := Lib.hid (by rw [hW1, hg]; exact belowNew w _)
  have HG : Hid (g = w.heap.size) := Lib.hid hg
  have hpl : p < w.heap.size := (Array.getElem?_eq_some_iff.1 hq).1
  have HPL := Lib.hid hpl
  have hpg : ¬ p = w.heap.size := by omega
  have HPG : Hid (p < g) := Lib.hid (by omega)
  have HBG : Hid (b < g) := Lib.hid (by omega)
  obtain ⟨c0, c1, c2, c3, c4, _⟩ := cell5 ((HB1.out.block p HPG.out).trans hq)
  rw [hW1] at c0
  have hGW : Hid (g ≤ W1.heap.size) := Lib.hid (by rw [hg]; exact HB1.out.size)
  have HW1 := Lib.hid hW1.symm
  clear hq hc hb hlev hID hR hn hp hl hW1 t c1 c2 c3 c4 hpl
  go_enter Tryd.func50, Tryd.ntmps50
  go_wp2_with fail
  rw [HW1.out, ← hg]
  clear c0 hg hpg
  go_loopw [14] (fun i wr => ∃ l : Nat, l ≤ h ∧ i = .int .i64 (l : Int) ∧ BldS g g (sibsS seed leaf l).data.toList wr ∧ g ≤ wr.heap.size ∧ Below g w wr) (fun i _ => h - (intOf i).toNat)
  case atStart => exact ⟨0, Nat.zero_le _, rfl, HBD.out, hGW.out, HB1.out⟩
  case round =>
    obtain ⟨l, hlh, rfl, hbd, hgw, hbl⟩ := hrel
    have HBDR := Lib.hid hbd
    have HGWR := Lib.hid hgw
    have HBR := Lib.hid hbl
    obtain ⟨_, _, _, _, c4, hpw⟩ := cell5 ((hbl.block p HPG.out).trans HQ.out)
    clear hbd hgw hbl
    by_cases hlt : l < h
    · have hd : decide ((l : Int) < (h : Int)) = true := by simp; omega
      obtain ⟨b', o', c', e0, e1, hb', hs⟩ := HLV.out l (by omega)
      obtain ⟨M, hM⟩ : ∃ M, M = 2 ^ (h - l) := ⟨_, rfl⟩
      rw [← hM] at e0 e1 hs
      obtain ⟨q, hq⟩ : ∃ q, q = leaf / 2 ^ l := ⟨_, rfl⟩
      have hqi : (leaf : Int) / 2 ^ l = (q : Int) := by rw [hq]; exact int_div_pow leaf l
      have hmin : min l 64 = l := by omega
      have hqM : q < M := by rw [hq, hM]; exact leaf_lt HLF.out (Nat.le_of_lt hlt)
      have hM8 : M ≤ 256 := by rw [hM]; exact (pow_small (by have := HH.out; omega)).1
      obtain ⟨x, hx⟩ : ∃ x, x = sibQ q := ⟨_, rfl⟩
      have hxo : bits BinOp.xor .i64 (q : Int) 1 = (x : Int) := by rw [hx]; exact xor_one (by omega)
      have hxM : x < M := by rw [hx, hM]; exact sib_lt (by omega) (by rw [← hM]; exact hqM)
      have hxi : (x : Int) < (M : Int) := by omega
      have hli : (l : Int) < (n : Int) := by have := HN.out; omega
      have hln : l < n := by have := HN.out; omega
      have y0 := (HBR.out.cell (p := ⟨b, o + l, none⟩) HBG.out).trans e0
      have y1 := (HBR.out.cell (p := ⟨b', o' + x, none⟩) (show b' < g by rw [HG.out]; exact hb')).trans (hs x hxM)
      obtain ⟨y, hy⟩ : ∃ y, y = nodeS seed l x := ⟨_, rfl⟩
      have hys : y.size = 16 := by rw [hy]; exact nodeS_size _ _ _
      rw [← hy] at y1
      have HSB : Hid ((sibsS seed leaf (l + 1)).data.toList = (sibsS seed leaf l).data.toList ++ y.data.toList) := Lib.hid (by rw [sibsS_next, str_add, hy, hx, hq])
      obtain ⟨D, hD⟩ : ∃ D, D = (sibsS seed leaf l).data.toList := ⟨_, rfl⟩
      have hDl : D.length = l * 16 := by rw [hD]; exact sibsS_size seed leaf l
      rw [← hD] at HBDR HSB
      have HWS := Lib.hid (writeString_s g g D y wr HBDR.out (by rw [hDl, hys]; have := HH.out; omega) HGWR.out)
      have HLT := Lib.hid hlt
      clear hM hq hx hy e0 hb' hs hD hDl hys
      go_wp2_with (go_at_call 71; (with_reducible refine HWS.out.mono ?_); rintro e w2 ⟨rfl, hbd2, hb2⟩; have HBD2 := Lib.hid hbd2; have HB2 := Lib.hid hb2; clear hbd2 hb2)
      go_roundw
      case rel => exact ⟨l + 1, HLT.out, by go_num, by rw [HSB.out]; exact HBD2.out, Nat.le_trans HGWR.out HB2.out.size, HBR.out.trans HB2.out⟩
      case measure => have := HLT.out; simp [intOf]; omega
    · have hlh' : l = h := by omega
      subst hlh'
      have hd : decide ((l : Int) < (l : Int)) = false := by simp
      have HST := Lib.hid (string_s g g _ wr HBDR.out HGWR.out)
      go_wp2_with (go_at_call 72; (with_reducible refine HST.out.mono ?_); rintro e w2 ⟨rfl, hb2⟩; have HB2 := Lib.hid hb2; clear hb2)
      go_ret
      refine ⟨by rw [Array.toArray_toList]; rfl, ?_⟩
      rw [← HG.out]
      exact HBR.out.trans HB2.out

set_option maxRecDepth 100000 in
set_option maxHeartbeats 2000000 in
theorem msign_range (p : Nat) (seed : ByteArray) (h : Nat) (leaf : Int) (m : ByteArray) (w : World) (t : TreeAt w p seed h) (hl : ¬ (0 ≤ leaf ∧ leaf < ((2 ^ h : Nat) : Int))) :
    Calls Tryd.prog 34 #[.pointer (some ⟨p, 0, none⟩), .int .i64 leaf, .string m] w fun e w' => e = .returned (.tuple #[.string ⟨#[]⟩, .int .i64 1]) ∧ Below w.heap.size w w' := by
  have HE := Lib.hid (mempty_no t)
  obtain ⟨N, hN⟩ : ∃ N, N = 2 ^ h := ⟨_, rfl⟩
  have HL : Hid (∀ W : World, TreeAt W p seed h → Calls Tryd.prog 38 #[.pointer (some ⟨p, 0, none⟩)] W fun e w' => e = .returned (.int .i64 (N : Int)) ∧ Below W.heap.size W w') := Lib.hid fun W ht => by rw [hN]; exact mleavest_any p seed h W ht
  rw [← hN] at hl
  have HT := Lib.hid t
  clear t hN
  by_cases h0 : leaf < 0
  · have d0 : decide (leaf < 0) = true := by simp; omega
    clear hl
    go_enter Tryd.func34, Tryd.ntmps34
    go_wp2_with (go_at_call 46; (with_reducible refine HE.out.mono ?_); rintro e w1 ⟨rfl, hb1⟩; have HB1 := Lib.hid hb1; clear hb1)
    go_ret2
    exact ⟨rfl, HB1.out⟩
  · have d0 : decide (leaf < 0) = false := by simp; omega
    have h1 : (N : Int) ≤ leaf := by omega
    have d1 : decide ((N : Int) ≤ leaf) = true := by simp; omega
    clear hl
    go_enter Tryd.func34, Tryd.ntmps34
    go_wp2_with (first
      | (go_at_call 46; (with_reducible refine HE.out.mono ?_); rintro e w1 ⟨rfl, hb1⟩; have HB1 := Lib.hid hb1; have HT1 := Lib.hid (TreeAt.keep _ _ _ _ _ HT.out hb1); clear hb1)
      | (go_at_call 38; (with_reducible refine (HL.out _ HT1.out).mono ?_); rintro e w2 ⟨rfl, hb2⟩; have HB2 := Lib.hid (HB1.out.next hb2); clear hb2))
    go_ret2
    exact ⟨rfl, HB2.out⟩

set_option maxRecDepth 100000 in
set_option maxHeartbeats 4000000 in
theorem msign_ok (p : Nat) (seed : ByteArray) (h leaf : Nat) (m : ByteArray) (w : World) (t : TreeAt w p seed h) (hl : leaf < 2 ^ h) (hs : seed.size = 32) (hm : m.size ≤ 1000000000) (hK : Holds w 0 kWords) :
    Calls Tryd.prog 34 #[.pointer (some ⟨p, 0, none⟩), .int .i64 (leaf : Int), .string m] w fun e w' => e = .returned (someV (sigT seed h leaf m)) ∧ Below w.heap.size w w' := by
  have hh := t.1
  have hp := pow_small hh
  have hl256 : leaf < 256 := by omega
  obtain ⟨ID, hID⟩ : ∃ ID, ID = idT seed := ⟨_, rfl⟩
  obtain ⟨R, hR⟩ : ∃ R, R = rootS seed h := ⟨_, rfl⟩
  have hIDs : ID.size = 16 := by rw [hID]; exact idT_size seed
  have hRs : R.size = 16 := by rw [hR]; exact rootS_size seed h
  obtain ⟨dg, hdg⟩ : ∃ dg, dg = dgM ID R leaf m := ⟨_, rfl⟩
  have HE := Lib.hid (mempty_no t)
  obtain ⟨N, hN⟩ : ∃ N, N = 2 ^ h := ⟨_, rfl⟩
  have HL : Hid (∀ W : World, TreeAt W p seed h → Calls Tryd.prog 38 #[.pointer (some ⟨p, 0, none⟩)] W fun e w' => e = .returned (.int .i64 (N : Int)) ∧ Below W.heap.size W w') := Lib.hid fun W ht => by rw [hN]; exact mleavest_any p seed h W ht
  have HDG : Hid (∀ W : World, Holds W 0 kWords → Calls Tryd.prog 48 #[.agg #[.int .i64 (h : Int), .string ID, .string R], .int .i64 (leaf : Int), .string m] W fun e w' => e = .returned (.string dg) ∧ Below W.heap.size W w') := Lib.hid fun W hk => by
    rw [hdg]
    exact mdig_any (h : Int) ID R m leaf (by omega) (by omega) (by omega) hm W hk
  obtain ⟨SG, hSG⟩ : ∃ SG, SG = otsS seed h leaf m := ⟨_, rfl⟩
  have hSGs : SG.size = 560 := by rw [hSG]; exact otsS_size _ _ _ _
  have HSO : Hid (∀ W : World, Holds W 0 kWords → Calls Tryd.prog 47 #[.string ID, .string seed, .int .i64 (leaf : Int), .string dg] W fun e w' => e = .returned (.tuple #[.string SG, .int .i64 0]) ∧ Below W.heap.size W w') := Lib.hid fun W hk => by
    have h1 := sigP ID seed dg (leaf : Int) W hk
    have h2 : sigE ID seed (leaf : Int) dg = 0 := by
      unfold sigE chkQ
      rw [if_pos (show (if ID.size = 16 ∧ seed.size = 32 then (if 0 ≤ (leaf : Int) ∧ (leaf : Int) < 256 then 0 else 1) else 18) = 0 by rw [if_pos ⟨hIDs, hs⟩, if_pos (by omega)]), if_pos (by rw [hdg]; exact dgM_size _ _ _ _)]
    unfold sigV at h1
    rw [if_pos h2] at h1
    have h3 : sigS ID seed (leaf : Int).toNat (digs dg.data.toList) = SG := by rw [hSG, hdg, hID, hR]; rfl
    rw [h3] at h1
    exact h1
  obtain ⟨SB, hSB⟩ : ∃ SB, SB = sibsS seed leaf h := ⟨_, rfl⟩
  have hSBs : SB.size = h * 16 := by rw [hSB]; exact sibsS_size _ _ _
  have HSB : Hid (∀ W : World, TreeAt W p seed h → Calls Tryd.prog 50 #[.pointer (some ⟨p, 0, none⟩), .int .i64 (leaf : Int)] W fun e w' => e = .returned (.string SB) ∧ Below W.heap.size W w') := Lib.hid fun W ht => by rw [hSB]; exact msibs_any p seed h leaf hl W ht
  obtain ⟨P4, hP4⟩ : ∃ P4, P4 = strOf (b4 leaf) := ⟨_, rfl⟩
  have hP4s : P4.size = 4 := by rw [hP4]; rfl
  have HPB : Hid (∀ W : World, Calls Tryd.prog 49 #[.int .i64 (leaf : Int)] W fun e w' => e = .returned (.string P4) ∧ Below W.heap.size W w') := Lib.hid fun W => by rw [hP4]; exact mp4_any leaf (by omega) W
  obtain ⟨S0, hS0⟩ : ∃ S0, S0 = P4 ++ SG := ⟨_, rfl⟩
  have hS0s : S0.size = 564 := by rw [hS0, ByteArray.size_append, hP4s, hSGs]
  obtain ⟨S1, hS1⟩ : ∃ S1, S1 = S0 ++ SB := ⟨_, rfl⟩
  have HRES : Hid (sigT seed h leaf m = S1) := Lib.hid (by unfold sigT; rw [hS1, hS0, hP4, hSG, hSB])
  have hsum : ((P4.size : Nat) : Int) + ((SG.size : Nat) : Int) ≤ 9223372036854775807 := by rw [hP4s, hSGs]; omega
  have hsum2 : ((S0.size : Nat) : Int) + ((SB.size : Nat) : Int) ≤ 9223372036854775807 := by rw [hS0s, hSBs]; omega
  have happ : P4 ++ SG = S0 := hS0.symm
  have happ2 : S0 ++ SB = S1 := hS1.symm
  rw [← hN] at hl
  have d0 : decide ((leaf : Int) < 0) = false := by simp
  have d1 : decide ((N : Int) ≤ (leaf : Int)) = false := by simp; omega
  have dln : ¬ N ≤ leaf := by omega
  have hTC : ∀ W : World, TreeAt W p seed h → ∃ b o c, W.heap[p]? = some (.cells #[.int .i64 (h : Int), .string ID, .string R, .string seed, .slice (some ⟨b, o, none⟩) (h + 1) c] 84 (0, 0)) := fun W ht => by
    obtain ⟨b, o, c, e, _⟩ := ht.open
    rw [← hID, ← hR] at e
    exact ⟨b, o, c, e⟩
  have HTC := Lib.hid hTC
  have HT := Lib.hid t
  have HK := Lib.hid hK
  rw [HRES.out]
  unfold someV
  clear hh hp hID hR hIDs hRs hdg hN hSG hSGs hSB hSBs hP4 hP4s hS0 hS0s hS1 hTC t hK hs hm hl hl256
  go_enter Tryd.func34, Tryd.ntmps34
  go_wp2_with (first
    | (go_at_call 46; (with_reducible refine HE.out.mono ?_); rintro e w1 ⟨rfl, hb1⟩; have HB1 := Lib.hid hb1; have HT1 := Lib.hid (TreeAt.keep _ _ _ _ _ HT.out hb1); clear hb1)
    | (go_at_call 38; (with_reducible refine (HL.out _ HT1.out).mono ?_); rintro e w2 ⟨rfl, hb2⟩; have HB2 := Lib.hid (HB1.out.next hb2); have HT2 := Lib.hid (TreeAt.keep _ _ _ _ _ HT1.out hb2); obtain ⟨b, o, c, hq2⟩ := HTC.out _ HT2.out; obtain ⟨c0, c1, c2, c3, c4, hpl⟩ := cell5 hq2; have HQ2 := Lib.hid hq2; clear hb2 hq2))
  obtain ⟨K, hKK⟩ : ∃ K, K = w2.heap.size := ⟨_, rfl⟩
  obtain ⟨W3, hW3⟩ : ∃ W3, W3 = w2.alloc (.cells #[.int .i64 (h : Int), .string ID, .string R] 79) := ⟨_, rfl⟩
  rw [← hW3, ← hKK]
  have hq3 : W3.heap[p]? = some (.cells #[.int .i64 (h : Int), .string ID, .string R, .string seed, .slice (some ⟨b, o, none⟩) (h + 1) c] 84 (0, 0)) := by rw [hW3]; exact ((belowNew w2 _).block p (Array.getElem?_eq_some_iff.1 HQ2.out).1).trans HQ2.out
  have hk3 : W3.heap[K]? = some (.cells #[.int .i64 (h : Int), .string ID, .string R] 79 (0, 0)) := by rw [hW3, hKK]; exact heap_alloc_new w2 _
  have HB3 : Hid (Below w.heap.size w W3) := Lib.hid (by rw [hW3]; exact HB2.out.next (belowNew w2 _))
  have HT3 : Hid (TreeAt W3 p seed h) := Lib.hid (by rw [hW3]; exact TreeAt.keep _ _ _ _ _ HT2.out (belowNew w2 _))
  clear c0 c1 c2 c3 c4 hpl
  obtain ⟨_, _, _, c3, _, hpl⟩ := cell5 hq3
  obtain ⟨k0, k1, k2, hkl⟩ := tcell hk3
  have HPL := Lib.hid hpl
  have HKL := Lib.hid hkl
  clear hW3 hKK hq3 hk3 d0 d1 dln hpl hkl
  go_region_held3 (fun w' => w'.cell? ⟨K, 0, none⟩ = some (.int .i64 (h : Int)) ∧ w'.cell? ⟨K, 1, none⟩ = some (.string ID) ∧ w'.cell? ⟨K, 2, none⟩ = some (.string R) ∧ w'.cell? ⟨p, 3, none⟩ = some (.string seed)) (first | with_reducible exact ⟨by assumption, by assumption, by assumption, by assumption⟩ | go_keep)
    (first
      | (go_at_call 48; (with_reducible refine (HDG.out _ (HK.out.old (by first | exact HB3.out | exact HB3.out.drew))).mono ?_); rintro e w4 ⟨rfl, hb4⟩; have hx : Below W3.heap.size W3 w4 := (by first | exact hb4 | exact (Below.refl _ _).drew.trans hb4); have s0 := (hx.cell (p := ⟨K, 0, none⟩) HKL.out).trans k0; have s1 := (hx.cell (p := ⟨K, 1, none⟩) HKL.out).trans k1; have s2 := (hx.cell (p := ⟨K, 2, none⟩) HKL.out).trans k2; have s3 := (hx.cell (p := ⟨p, 3, none⟩) HPL.out).trans c3; have HB4 := Lib.hid hx; clear hb4 hx)
      | (go_at_call 47; (with_reducible refine (HSO.out _ (HK.out.old (HB3.out.next HB4.out))).mono ?_); rintro e w5 ⟨rfl, hb5⟩; have hx : Below W3.heap.size W3 w5 := HB4.out.next hb5; have s4 := (hx.cell (p := ⟨K, 0, none⟩) HKL.out).trans k0; have s5 := (hx.cell (p := ⟨K, 1, none⟩) HKL.out).trans k1; have s6 := (hx.cell (p := ⟨K, 2, none⟩) HKL.out).trans k2; have s7 := (hx.cell (p := ⟨p, 3, none⟩) HPL.out).trans c3; have HB5 := Lib.hid hx; clear hb5 hx))
  clear s0 s1 s2 s3 s4 s5 s6 s7 k0 k1 k2 c3
  go_wp2_with (first
    | (go_at_call 49; (with_reducible refine (HPB.out _).mono ?_); rintro e w6 ⟨rfl, hb6⟩; have HB6 := Lib.hid (HB5.out.next hb6); clear hb6)
    | (go_at_call 50; (with_reducible refine (HSB.out _ (TreeAt.keep _ _ _ _ _ HT3.out HB6.out)).mono ?_); rintro e w7 ⟨rfl, hb7⟩; have HB7 := Lib.hid (HB6.out.next hb7); clear hb7))
  go_ret2
  exact ⟨rfl, HB3.out.next HB7.out⟩

theorem msign_any (p : Nat) (seed : ByteArray) (h : Nat) (leaf : Int) (m : ByteArray) (w : World) (t : TreeAt w p seed h) (hs : seed.size = 32) (hm : m.size ≤ 1000000000) (hK : Holds w 0 kWords) :
    Calls Tryd.prog 34 #[.pointer (some ⟨p, 0, none⟩), .int .i64 leaf, .string m] w fun e w' => e = .returned (signV seed h leaf m) ∧ Below w.heap.size w w' := by
  unfold signV
  by_cases hl : 0 ≤ leaf ∧ leaf < ((2 ^ h : Nat) : Int)
  · rw [if_pos hl]
    obtain ⟨n, rfl⟩ : ∃ n : Nat, leaf = (n : Int) := ⟨leaf.toNat, by omega⟩
    rw [Int.toNat_natCast]
    exact msign_ok p seed h n m w t (by omega) hs hm hK
  · rw [if_neg hl]
    exact msign_range p seed h leaf m w t hl
end Go.Proofs.YtphgpakfdhdklaaDoor
namespace Go.Proofs.YtphgpakfdhdklaaDoor
open Go.RowKit

/-- The first k strings, and nothing in the others yet. -/
def partM (f : Nat → ByteArray) (k n : Nat) : List ByteArray := (List.range k).map f ++ List.replicate (n - k) ByteArray.empty
theorem partM_len {f : Nat → ByteArray} {k n : Nat} (h : k ≤ n) : (partM f k n).length = n := by
  unfold partM
  rw [List.length_append, List.length_map, List.length_range, List.length_replicate]
  omega
theorem partM_zero (f : Nat → ByteArray) (n : Nat) : partM f 0 n = List.replicate n ByteArray.empty := rfl
theorem partM_all (f : Nat → ByteArray) (n : Nat) : partM f n n = (List.range n).map f := by
  unfold partM
  rw [Nat.sub_self]
  exact List.append_nil _
theorem partM_set {f : Nat → ByteArray} {k n : Nat} (h : k < n) : (partM f k n).set k (f k) = partM f (k + 1) n := by
  unfold partM
  have hl : ((List.range k).map f).length = k := by rw [List.length_map, List.length_range]
  rw [show n - k = (n - (k + 1)) + 1 by omega, List.replicate_succ, List.range_succ, List.map_append, List.append_assoc]
  rw [List.set_append_right _ _ (by rw [hl]; exact Nat.le_refl _), hl, Nat.sub_self]
  rfl
theorem strs_made (n : Nat) (hn : n ≤ 1000000) : ∃ M : Array Value, M.size = n * 1 ∧ M.toList = (List.replicate n ByteArray.empty).map Value.string ∧ ∀ W : World, (Instr.makeSlice 59 (.int .i64 (n : Int)) (.int .i64 (n : Int))).run Tryd.prog W = .ok (.slice (some ⟨W.heap.size, 0, none⟩) n n) (W.alloc (.cells M 9)) := by
  obtain ⟨i0, hi, hz0, hz1, hz2⟩ := info_parts strInfo
  refine ⟨madeCells (Value.string ByteArray.empty).cells (n * 1), size_madeCells _ _, ?_, fun W => ?_⟩
  · simp only [madeCells, Value.cells, Nat.mul_one]
    apply List.ext_getElem
    · simp
    · intro i h1 h2
      simp [Nat.mod_one]
  · have hr := run_make (P := Tryd.prog) W 59 9 i0 (.string ByteArray.empty) Tryd.underlying59 hi hz0 .i64 .i64 (n : Int) (n : Int) (by omega) (Int.le_refl _) (by rw [hz2]; omega) (by omega)
    rw [hz1] at hr
    simpa using hr
/-- A row made anew. -/
theorem ownl_new {n : Nat} (hn : n ≤ 1000000) {M : Array Value} (hM : M.size = n * 1) (hl : M.toList = (List.replicate n ByteArray.empty).map Value.string) (f : Nat → ByteArray) (W : World) : OwnL (W.alloc (.cells M 9)) W.heap.size (.slice (some ⟨W.heap.size, 0, none⟩) n n) (partM f 0 n) := by
  have := World.ownsRow_lit (base := W.heap.size) (e := 9) (size := 1) W M n (Nat.le_refl _) (by unfold maxLen; omega) hM
  unfold OwnL
  rw [partM_len (Nat.zero_le _), partM_zero, ← hl]
  exact this
theorem ownl_cell {w : World} {B g n cap : Nat} {l : List ByteArray} (h : OwnL w B (.slice (some ⟨g, 0, none⟩) n cap) l) (hl : l.length = n) (j : Nat) (hj : j < n) : w.cell? ⟨g, j, none⟩ = some (.string (l.getD j ByteArray.empty)) ∧ w.frozen? ⟨g, j, none⟩ = false ∧ g < w.heap.size := by
  subst hl
  have h1 := World.ownsRow.cellAt h j (by omega)
  refine ⟨?_, World.ownsRow.frozenAt h j, (World.ownsRow.lt h g rfl).2⟩
  rw [h1, List.getElem?_map, List.getElem?_eq_getElem hj, List.getD_eq_getElem?_getD, List.getElem?_eq_getElem hj]
  rfl
theorem ownl_set {w : World} {B g n cap : Nat} {f : Nat → ByteArray} {k : Nat} (h : OwnL w B (.slice (some ⟨g, 0, none⟩) n cap) (partM f k n)) (hk : k < n) : OwnL (w.setCell ⟨g, k, none⟩ (.string (f k))) B (.slice (some ⟨g, 0, none⟩) n cap) (partM f (k + 1) n) := by
  have hh := h
  unfold OwnL at hh ⊢
  rw [partM_len (Nat.le_of_lt hk)] at hh
  have := (World.ownsRow.stored hh k (.string (f k))).1
  rw [partM_len hk, ← partM_set hk, List.map_set]
  exact this

set_option maxRecDepth 100000 in
set_option maxHeartbeats 2000000 in
theorem mkeys_any (seed root : ByteArray) (h : Nat) (hh : h ≤ 8) (hs : seed.size = 32) (w : World) (hK : Holds w 0 kWords) :
    Calls Tryd.prog 58 #[keyV (h : Int) (idT seed) root, .string seed] w fun e w' => (∃ v, e = .returned (.tuple #[v, .int .i64 0]) ∧ OwnL w' w.heap.size v (levelS seed h 0)) ∧ Below w.heap.size w w' := by
  obtain ⟨ID, hID⟩ : ∃ ID, ID = idT seed := ⟨_, rfl⟩
  have hIDs : ID.size = 16 := by rw [hID]; exact idT_size seed
  obtain ⟨N, hN⟩ : ∃ N, N = 2 ^ h := ⟨_, rfl⟩
  have hp := pow_small hh
  rw [← hN] at hp
  have hlv : levelS seed h 0 = (List.range N).map (nodeS seed 0) := by unfold levelS; rw [Nat.sub_zero, ← hN]
  obtain ⟨M, hM1, hM2, hmk⟩ := strs_made N (by omega)
  have HNW : Hid (∀ W : World, OwnL (W.alloc (.cells M 9)) W.heap.size (.slice (some ⟨W.heap.size, 0, none⟩) N N) (partM (nodeS seed 0) 0 N)) := Lib.hid (ownl_new (by omega) hM1 hM2 (nodeS seed 0))
  have HLV : Hid (∀ W : World, Calls Tryd.prog 55 #[.agg #[.int .i64 (h : Int), .string ID, .string root]] W fun e w' => e = .returned (.int .i64 (N : Int)) ∧ Below W.heap.size W w') := Lib.hid fun W => by
    rw [hN]
    exact mleaves_any h hh ID root W
  have HPB : Hid (∀ (k : Nat) (W : World), k < 256 → Holds W 0 kWords → Calls Tryd.prog 74 #[.string ID, .string seed, .int .i64 (k : Int)] W fun e w' => e = .returned (.tuple #[.string (nodeS seed 0 k), .int .i64 0]) ∧ Below W.heap.size W w') := Lib.hid fun k W hk hk1 => by
    have h1 := pubP ID seed (k : Int) W hk1
    have h2 : chkQ ID seed (k : Int) = 0 := by unfold chkQ; rw [if_pos ⟨hIDs, hs⟩, if_pos (by omega)]
    unfold pubV at h1
    rw [if_pos h2] at h1
    rw [hID] at h1 ⊢
    exact h1
  rw [hlv, ← hID]
  have HP := Lib.hid hp
  have HK := Lib.hid hK
  unfold keyV
  clear hID hIDs hN hp hlv hM1 hM2 hs hh hK
  go_enter Tryd.func58, Tryd.ntmps58
  go_wp2_with (go_at_call 55; (with_reducible refine (HLV.out _).mono ?_); rintro e w1 ⟨rfl, hb1⟩; have HB1 := Lib.hid ((belowNew w _).next hb1); have HQ1 := Lib.hid ((hb1.block w.heap.size (by simp)).trans (heap_alloc_new w _)); clear hb1)
  obtain ⟨B, hB⟩ : ∃ B, B = w1.heap.size := ⟨_, rfl⟩
  obtain ⟨W2, hW2⟩ : ∃ W2, W2 = w1.alloc (.cells M 9) := ⟨_, rfl⟩
  rw [← hW2, ← hB]
  have HO2 : Hid (OwnL W2 B (.slice (some ⟨B, 0, none⟩) N N) (partM (nodeS seed 0) 0 N)) := Lib.hid (by rw [hW2, hB]; exact HNW.out w1)
  have HB2 : Hid (Below B w1 W2) := Lib.hid (by rw [hW2, hB]; exact belowNew w1 _)
  have HGB : Hid (w.heap.size < B) := Lib.hid (by rw [hB]; exact (Array.getElem?_eq_some_iff.1 HQ1.out).1)
  clear hW2 hB
  go_loopw [15] (fun i wr => ∃ k : Nat, k ≤ N ∧ i = .int .i64 (k : Int) ∧ OwnL wr B (.slice (some ⟨B, 0, none⟩) N N) (partM (nodeS seed 0) k N) ∧ Below B w1 wr) (fun i _ => N - (intOf i).toNat)
  case atStart => exact ⟨0, Nat.zero_le _, rfl, HO2.out, HB2.out⟩
  case round =>
    obtain ⟨k, hkN, rfl, hu, hb⟩ := hrel
    have HU := Lib.hid hu
    have HB := Lib.hid hb
    clear hu hb
    by_cases hlt : k < N
    · have hd : decide ((k : Int) < (N : Int)) = true := by simp; omega
      have hkn : (k : Int) < (N : Int) := by omega
      obtain ⟨c0, c1, c2, _⟩ := tcell ((HB.out.block w.heap.size HGB.out).trans HQ1.out)
      obtain ⟨y, hy⟩ : ∃ y, y = nodeS seed 0 k := ⟨_, rfl⟩
      have HPK := Lib.hid (fun W => HPB.out k W (by have := HP.out; omega))
      rw [← hy] at HPK
      have HY := Lib.hid hy
      have HKR : Hid (Holds wr 0 kWords) := Lib.hid (HK.out.old (HB1.out.trans (HB.out.mono (Nat.le_of_lt HGB.out))))
      have HLT := Lib.hid hlt
      have hkb : k < 256 := by have := HP.out; omega
      have HBL := Lib.hid (Nat.le_of_lt (World.ownsRow.lt HU.out B rfl).2)
      clear hy c0 c2
      go_wp2_with (go_at_call 74; (with_reducible refine (HPK.out _ HKR.out).mono ?_); rintro e w3 ⟨rfl, hb3⟩; have hu3 := HU.out.below hb3; obtain ⟨q0, q1, q2⟩ := ownl_cell hu3 (partM_len (Nat.le_of_lt HLT.out)) k HLT.out; have HU3 := Lib.hid hu3; have HB3 := Lib.hid (HB.out.trans (hb3.mono HBL.out)); clear hb3 hu3)
      go_roundw
      case rel => exact ⟨k + 1, HLT.out, by go_num, by rw [HY.out]; exact ownl_set HU3.out HLT.out, HB3.out.setCell (p := ⟨B, k, none⟩) (Nat.le_refl _) _⟩
      case measure => have := HLT.out; simp [intOf]; omega
    · have hkn : k = N := by omega
      subst hkn
      have hd : decide ((k : Int) < (k : Int)) = false := by simp
      go_wp2_with fail
      go_ret2
      refine ⟨⟨_, rfl, ?_⟩, ?_⟩
      · rw [← partM_all]
        exact HU.out.base (Nat.le_of_lt HGB.out)
      · exact HB1.out.trans (HB.out.mono (Nat.le_of_lt HGB.out))
end Go.Proofs.YtphgpakfdhdklaaDoor
namespace Go.Proofs.YtphgpakfdhdklaaDoor
open Go.RowKit

/-- The levels so far: the row of rows is the call's own (from block B on), the rows lie from block B0 on. -/
def OwnLM (w : World) (B0 B : Nat) (v : Value) (n : List (List ByteArray)) : Prop := ∃ vs : List Value, vs.length = n.length ∧ w.ownsRow B 59 1 v n.length vs ∧ ∀ i, i < n.length → OwnL w B0 (vs.getD i (.slice none 0 0)) (n.getD i [])
theorem OwnLM.to {w : World} {B0 B : Nat} {v : Value} {n : List (List ByteArray)} (h : OwnLM w B0 B v n) (hB : B0 ≤ B) : OwnLL w B0 v n := by
  obtain ⟨vs, h1, h2, h3⟩ := h
  refine ⟨vs, h1, ⟨h2.1, ?_⟩, h3⟩
  rcases h2.2 with h0 | ⟨g, cap, cur, hv, hg, r⟩
  · exact .inl h0
  · exact .inr ⟨g, cap, cur, hv, Nat.le_trans hB hg, r⟩
theorem OwnLM.below {w w' : World} {B0 B : Nat} {v : Value} {n : List (List ByteArray)} (h : OwnLM w B0 B v n) (hb : Below w.heap.size w w') : OwnLM w' B0 B v n := by
  obtain ⟨vs, h1, h2, h3⟩ := h
  exact ⟨vs, h1, ownl_below h2 hb, fun i hi => (h3 i hi).below hb⟩
/-- One row more. -/
theorem OwnLM.snoc {w w' : World} {B0 B : Nat} {v v' u : Value} {n : List (List ByteArray)} {r : List ByteArray} {vs : List Value} (h1 : vs.length = n.length) (h2 : w.ownsRow B 59 1 v n.length vs) (h3 : ∀ i, i < n.length → OwnL w B0 (vs.getD i (.slice none 0 0)) (n.getD i []))
    (hr : OwnL w B0 u r) (hg : w.grownBy w' v.ownBlock) (h4 : w'.ownsRow B 59 1 v' (n.length + 1) (vs ++ [u])) : OwnLM w' B0 B v' (n ++ [r]) := by
  refine ⟨vs ++ [u], by simp [h1], by rw [List.length_append]; exact h4, fun i hi => ?_⟩
  by_cases hlt : i < n.length
  · rw [getDl_lt _ _ _ _ (by omega), getDl_lt _ _ _ _ hlt]
    exact (h3 i hlt).kept h2 hg
  · rw [List.length_append, List.length_singleton] at hi
    obtain rfl : i = n.length := by omega
    rw [getDl_eq, ← h1, getDl_eq]
    exact hr.kept h2 hg
/-- The first level alone. -/
theorem ownLM_one {w : World} {B0 : Nat} {v : Value} {r : List ByteArray} (h : OwnL w B0 v r) : OwnLM (w.alloc (.cells #[v] 59)) B0 w.heap.size (.slice (some ⟨w.heap.size, 0, none⟩) 1 1) [r] := by
  refine ⟨[v], rfl, World.ownsRow_lit (base := w.heap.size) (e := 59) (size := 1) w #[v] 1 (Nat.le_refl _) (by unfold maxLen; omega) rfl, fun i hi => ?_⟩
  obtain rfl : i = 0 := by simpa using hi
  exact h.below (belowNew w _)
/-- What lies in the rows so far. -/
theorem OwnLM.open {w : World} {B0 B : Nat} {v : Value} {n : List (List ByteArray)} (h : OwnLM w B0 B v n) (hn : n ≠ []) : ∃ b c, v = .slice (some ⟨b, 0, none⟩) n.length c ∧ B ≤ b ∧ b < w.heap.size ∧ ∀ i, i < n.length → ∃ u, w.cell? ⟨b, i, none⟩ = some u ∧ OwnL w B0 u (n.getD i []) := by
  obtain ⟨vs, h1, h2, h3⟩ := h
  have hh := h2
  rcases h2.2 with ⟨hv, h0⟩ | ⟨g, cap, cur, hv, hB, hg, _⟩
  · exact absurd (List.eq_nil_of_length_eq_zero h0) hn
  · refine ⟨g, cap, hv, hB, (Array.getElem?_eq_some_iff.1 hg).1, fun i hi => ⟨vs.getD i (.slice none 0 0), ?_, h3 i hi⟩⟩
    rw [hv] at hh
    rw [World.ownsRow.cellAt hh i (by omega), List.getD_eq_getElem?_getD, List.getElem?_eq_getElem (by omega)]
    rfl

set_option maxRecDepth 100000 in
set_option maxHeartbeats 4000000 in
theorem mgrow_any (seed : ByteArray) (h : Nat) (hh : h ≤ 8) (root : ByteArray) (v : Value) (B0 : Nat) (w : World) (hB0 : B0 ≤ w.heap.size) (hu : OwnL w B0 v (levelS seed h 0)) (hK : Holds w 0 kWords) :
    Calls Tryd.prog 59 #[keyV (h : Int) (idT seed) root, v] w fun e w' => (∃ V, e = .returned V ∧ OwnLL w' B0 V (levelsS seed h (h + 1))) ∧ Below w.heap.size w w' := by
  obtain ⟨r0, hr, hy0, hy1, hy2⟩ := info_parts rowInfo
  obtain ⟨ID, hID⟩ : ∃ ID, ID = idT seed := ⟨_, rfl⟩
  have hIDs : ID.size = 16 := by rw [hID]; exact idT_size seed
  have HPA : Hid (∀ (l i : Nat) (x y : ByteArray) (W : World), l < 256 → i < 4294967296 → x.size ≤ 1000 → y.size ≤ 1000 → Holds W 0 kWords → Calls Tryd.prog 75 #[.agg #[.int .i64 (h : Int), .string ID, .string root], .int .i64 (l : Int), .int .i64 (i : Int), .string x, .string y] W fun e w' => e = .returned (.string (joinQ hQ (idT seed).data.toList l i x y)) ∧ Below W.heap.size W w') := Lib.hid fun l i x y W h1 h2 h3 h4 hk => by
    rw [← hID]
    exact mpar_any (h : Int) ID root x y l i h1 h2 (by omega) h3 h4 W hk
  obtain ⟨a, c, hv, _, _⟩ := hu.lies
  obtain ⟨n0, hn0⟩ : ∃ n0, n0 = (levelS seed h 0).length := ⟨_, rfl⟩
  rw [← hn0] at hv
  subst hv
  obtain ⟨W1, hW1⟩ : ∃ W1, W1 = w.alloc (.cells #[.int .i64 (h : Int), .string ID, .string root] 79) := ⟨_, rfl⟩
  obtain ⟨B, hB⟩ : ∃ B, B = W1.heap.size := ⟨_, rfl⟩
  have hBg : B = w.heap.size + 1 := by rw [hB, hW1]; simp
  obtain ⟨W2, hW2⟩ : ∃ W2, W2 = W1.alloc (.cells #[.slice a n0 c] 59) := ⟨_, rfl⟩
  have HB1 : Hid (Below w.heap.size w W1) := Lib.hid (by rw [hW1]; exact belowNew w _)
  have HQ1 : Hid (W1.heap[w.heap.size]? = some (.cells #[.int .i64 (h : Int), .string ID, .string root] 79 (0, 0))) := Lib.hid (by rw [hW1]; exact heap_alloc_new w _)
  have HB2 : Hid (Below B W1 W2) := Lib.hid (by rw [hW2, hB]; exact belowNew W1 _)
  have HO2 : Hid (OwnLM W2 B0 B (.slice (some ⟨B, 0, none⟩) 1 1) [levelS seed h 0]) := Lib.hid (by rw [hW2, hB]; exact ownLM_one (hu.below HB1.out))
  have HGB : Hid (w.heap.size < B) := Lib.hid (by omega)
  obtain ⟨c0, c1, c2, _⟩ := tcell ((HB2.out.block w.heap.size HGB.out).trans HQ1.out)
  rw [hW2, hW1] at c0
  have HW2 : Hid ((w.alloc (.cells #[.int .i64 (h : Int), .string ID, .string root] 79)).alloc (.cells #[.slice a n0 c] 59) = W2) := Lib.hid (by rw [hW2, hW1])
  have HBG := Lib.hid hBg
  have HH := Lib.hid hh
  have HB0 := Lib.hid hB0
  have HK := Lib.hid hK
  rw [← hID]
  unfold keyV
  clear hID hIDs hW1 hW2 hB hBg hh hu hK c1 c2 hB0 hn0
  go_enter Tryd.func59, Tryd.ntmps59
  go_wp2_with fail
  rw [HW2.out, ← HBG.out]
  clear c0
  go_loopw [5, 15] (fun V i wr => ∃ l : Nat, l ≤ h ∧ i = .int .i64 (l : Int) ∧ OwnLM wr B0 B V (levelsS seed h (l + 1)) ∧ Below B W1 wr) (fun _ i _ => h - (intOf i).toNat)
  case atStart => exact ⟨0, Nat.zero_le _, rfl, HO2.out, HB2.out⟩
  case round =>
    obtain ⟨wx, hwx⟩ : ∃ wx, wx = wr := ⟨_, rfl⟩
    subst hwx
    obtain ⟨l, hl, rfl, hV, hb⟩ := hrel
    have HVX := Lib.hid hV
    have HBX := Lib.hid hb
    obtain ⟨b, cV, rfl, hBb, hbs, hcs⟩ := hV.open (by intro e; have := levelsS_len seed h (l + 1); rw [e] at this; cases this)
    obtain ⟨l1, hl1⟩ : ∃ l1, l1 = l + 1 := ⟨_, rfl⟩
    rw [levelsS_len, ← hl1] at hcs HVX ⊢
    have HL1 := Lib.hid hl1
    have HBB := Lib.hid hBb
    have HBS := Lib.hid hbs
    have HCS := Lib.hid hcs
    clear hV hb hBb hbs hcs
    by_cases hlt : l < h
    · have hd : decide ((l : Int) < (h : Int)) = true := by simp; omega
      obtain ⟨u, e0, hu⟩ := HCS.out l (by omega)
      rw [hl1, levelsS_at seed h (l + 1) l (by omega)] at hu
      obtain ⟨au, cu, rfl, hcu, hSt⟩ := hu.lies
      obtain ⟨m, hm⟩ : ∃ m, m = 2 ^ (h - l) := ⟨_, rfl⟩
      obtain ⟨m2, hm2⟩ : ∃ m2, m2 = 2 ^ (h - (l + 1)) := ⟨_, rfl⟩
      have hmm : m = 2 * m2 := by rw [hm, hm2, show h - l = (h - (l + 1)) + 1 by omega, Nat.pow_succ, Nat.mul_comm]
      have hm8 : 1 ≤ m ∧ m ≤ 256 := by
        have := pow_small (h := h - l) (by have := HH.out; omega)
        rw [hm]; omega
      obtain ⟨b', o', rfl, hb', hcs'⟩ := strs_at hSt (by intro e; have := levelS_len seed h l; rw [e] at this; have := hm8.1; simp at *; omega)
      have HCS' : Hid (∀ i, i < m → wx.cell? ⟨b', o' + i, none⟩ = some (.string (nodeS seed l i))) := Lib.hid (fun i hi => by
        have := hcs' i (by rw [levelS_len, ← hm]; exact hi)
        rw [levelS_at seed h l i (by rw [← hm]; exact hi)] at this
        exact this)
      rw [levelS_len, ← hm] at e0
      have HB' := Lib.hid hb'
      obtain ⟨M, hM1, hM2, hmk⟩ := strs_made m2 (by omega)
      have HNW : Hid (∀ W : World, OwnL (W.alloc (.cells M 9)) W.heap.size (.slice (some ⟨W.heap.size, 0, none⟩) m2 m2) (partM (nodeS seed (l + 1)) 0 m2)) := Lib.hid (ownl_new (by omega) hM1 hM2 (nodeS seed (l + 1)))
      have hmt : (m : Int).tdiv 2 = (m2 : Int) := by rw [Int.tdiv_eq_ediv_of_nonneg (by omega)]; omega
      have hmq : (m : Int) / 2 = (m2 : Int) := by omega
      have hli : (l : Int) < (l1 : Int) := by omega
      have hll : l < l1 := by omega
      have hm28 : m2 ≤ 128 := by omega
      have HM2 := Lib.hid hm2
      have HMM := Lib.hid hmm
      have HM8 := Lib.hid hm8
      have HLT := Lib.hid hlt
      clear hu hcu hSt hcs' hb' hM1 hM2 hm hm2 hmm hm8 hl1
      go_wp2_with fail
      obtain ⟨B2, hB2⟩ : ∃ B2, B2 = wx.heap.size := ⟨_, rfl⟩
      obtain ⟨W4, hW4⟩ : ∃ W4, W4 = wx.alloc (.cells M 9) := ⟨_, rfl⟩
      rw [← hW4, ← hB2]
      have HO4 : Hid (OwnL W4 B2 (.slice (some ⟨B2, 0, none⟩) m2 m2) (partM (nodeS seed (l + 1)) 0 m2)) := Lib.hid (by rw [hW4, hB2]; exact HNW.out wx)
      have HB4 : Hid (Below B2 wx W4) := Lib.hid (by rw [hW4, hB2]; exact belowNew wx _)
      have HBX2 := Lib.hid hB2
      have HBB2 : Hid (B < B2) := Lib.hid (by rw [hB2]; exact Nat.lt_of_le_of_lt HBB.out HBS.out)
      have HB'2 : Hid (b' < B2) := Lib.hid (by rw [hB2]; exact HB'.out)
      clear hW4 hB2 e0
      go_loopw [28] (fun i wy => ∃ j : Nat, j ≤ m2 ∧ i = .int .i64 (j : Int) ∧ OwnL wy B2 (.slice (some ⟨B2, 0, none⟩) m2 m2) (partM (nodeS seed (l + 1)) j m2) ∧ Below B2 wx wy) (fun i _ => m2 - (intOf i).toNat)
      case atStart => exact ⟨0, Nat.zero_le _, rfl, HO4.out, HB4.out⟩
      case round =>
        obtain ⟨j, hj, rfl, hu, hbj⟩ := hrel
        have HU := Lib.hid hu
        have HBJ := Lib.hid hbj
        clear hu hbj
        by_cases hjl : j < m2
        · have hd : decide ((j : Int) < (m2 : Int)) = true := by simp; omega
          obtain ⟨i, hi2⟩ : ∃ i, i = 2 * j := ⟨_, rfl⟩
          obtain ⟨i1, hi1⟩ : ∃ i1, i1 = i + 1 := ⟨_, rfl⟩
          have hs0 : (2 : Int) * (j : Int) = (i : Int) := by omega
          have hs1 : (i : Int) + 1 = (i1 : Int) := by omega
          have him1 : i1 < m := by have := HMM.out; omega
          have him : i < m := by omega
          obtain ⟨x, hx⟩ : ∃ x, x = nodeS seed l i := ⟨_, rfl⟩
          obtain ⟨y, hy⟩ : ∃ y, y = nodeS seed l i1 := ⟨_, rfl⟩
          have hxs : x.size ≤ 1000 := by rw [hx, nodeS_size]; omega
          have hys : y.size ≤ 1000 := by rw [hy, nodeS_size]; omega
          have hq := (HBJ.out.block w.heap.size (by have := HGB.out; have := HBB2.out; omega)).trans ((HBX.out.block w.heap.size HGB.out).trans HQ1.out)
          obtain ⟨k0, k1, k2, _⟩ := tcell hq
          have p0 := (HBJ.out.cell (p := ⟨b', o' + i, none⟩) HB'2.out).trans (HCS'.out i him)
          have p1 := (HBJ.out.cell (p := ⟨b', o' + i1, none⟩) HB'2.out).trans (HCS'.out i1 him1)
          rw [← hx] at p0
          rw [← hy] at p1
          have him1i : (i1 : Int) < (m : Int) := by omega
          have himi : (i : Int) < (m : Int) := by omega
          have hji : (j : Int) < (m2 : Int) := by omega
          obtain ⟨z, hz⟩ : ∃ z, z = nodeS seed (l + 1) j := ⟨_, rfl⟩
          have hzz : joinQ hQ (idT seed).data.toList l j x y = z := by rw [hz, node_up, hx, hy, hi1, hi2]
          have HJ := Lib.hid (fun W => HPA.out l j x y W (by have := HH.out; omega) (by omega) hxs hys)
          rw [hzz] at HJ
          have HZ := Lib.hid hz
          have HJL := Lib.hid hjl
          have HBL := Lib.hid (Nat.le_of_lt (World.ownsRow.lt HU.out B2 rfl).2)
          have HKR : Hid (Holds wr 0 kWords) := Lib.hid (HK.out.old (HB1.out.trans ((HBX.out.trans (HBJ.out.mono (Nat.le_of_lt HBB2.out))).mono (Nat.le_of_lt HGB.out))))
          have hjb : j < 256 := by omega
          have hwi : IntKind.i64.wrap (i : Int) = (i : Int) := by rw [wrap_i64]; omega
          have hwi1 : IntKind.i64.wrap (i1 : Int) = (i1 : Int) := by rw [wrap_i64]; omega
          clear hzz hz hx hy hi2 hi1 hq hxs hys
          go_wp2_with fail
          have HD := Lib.hid ((Below.refl wr.heap.size wr).drew)
          have HKD : Hid (Holds wr.drew 0 kWords) := Lib.hid (HKR.out.old HD.out)
          have k0' : wr.drew.cell? ⟨w.heap.size, 0, none⟩ = some (.int .i64 (h : Int)) := k0
          have k1' : wr.drew.cell? ⟨w.heap.size, 1, none⟩ = some (.string ID) := k1
          have k2' : wr.drew.cell? ⟨w.heap.size, 2, none⟩ = some (.string root) := k2
          have p0' : wr.drew.cell? ⟨b', o' + i, none⟩ = some (.string x) := p0
          have p1' : wr.drew.cell? ⟨b', o' + i1, none⟩ = some (.string y) := p1
          clear k0 k1 k2 p0 p1
          go_region_law (go_simp; go_at_call 75; (with_reducible refine (HJ.out _ HKD.out).mono ?_); rintro e w5 ⟨rfl, hb5⟩; have hx : Below wr.heap.size wr w5 := HD.out.next hb5; have hu5 := HU.out.below hx; obtain ⟨q0, q1, q2⟩ := ownl_cell hu5 (partM_len (Nat.le_of_lt HJL.out)) j HJL.out; have HU5 := Lib.hid hu5; have HB5 := Lib.hid (HBJ.out.trans (hx.mono HBL.out)); clear hb5 hu5 hx)
          all_goals
            go_wp2_with fail
            go_roundw
            case rel => exact ⟨j + 1, HJL.out, by go_num, by rw [HZ.out]; exact ownl_set HU5.out HJL.out, HB5.out.setCell (p := ⟨B2, j, none⟩) (Nat.le_refl _) _⟩
            case measure => have := HJL.out; simp [intOf]; omega
        · have hjm : j = m2 := by omega
          subst hjm
          have hd : decide ((j : Int) < (j : Int)) = false := by simp
          have hnu : OwnL wr B0 (.slice (some ⟨B2, 0, none⟩) j j) (levelS seed h (l + 1)) := by
            have e : levelS seed h (l + 1) = partM (nodeS seed (l + 1)) j j := by rw [partM_all]; unfold levelS; rw [← HM2.out]
            rw [e]
            exact HU.out.base (by have := HB0.out; have := HGB.out; have := HBB2.out; omega)
          obtain ⟨vs, v1, v2, v3⟩ := HVX.out
          have v2' := ownl_below v2 (show Below wx.heap.size wx wr by rw [← HBX2.out]; exact HBJ.out)
          have v3' : ∀ i, i < (levelsS seed h l1).length → OwnL wr B0 (vs.getD i (.slice none 0 0)) ((levelsS seed h l1).getD i []) := fun i hi => (v3 i hi).below (by rw [← HBX2.out]; exact HBJ.out)
          have HNU := Lib.hid hnu
          have HV1 := Lib.hid v1
          have HV3 := Lib.hid v3'
          have HV2 := Lib.hid v2'
          rw [levelsS_len] at v2'
          have HO2' := Lib.hid v2'
          have HSL := Lib.hid (levelsS_succ seed h l1)
          have HLL := Lib.hid (levelsS_len seed h l1)
          have HBL := Lib.hid (Nat.le_of_lt (World.ownsRow.lt HU.out B2 rfl).2)
          have HBLW : Hid (Below B W1 wr) := Lib.hid (HBX.out.trans (HBJ.out.mono (Nat.le_of_lt HBB2.out)))
          have hl9 : l < 8 := by have := HH.out; omega
          have hl19 : l1 ≤ 8 := by have := HL1.out; omega
          clear hnu v1 v2 v3 v2' v3' hmk hmt hmq
          go_wp2_with (at_builtin; (refine wpList_append_own _ rfl (.tmp 50) (.tmp 52) 23 rfl B 59 r0 (.slice none 0 0) 1 24 Tryd.underlying23 hr hy0 hy1 hy2 rfl (by decide) _ _ _ rfl (ownl_below HO2'.out (belowNew _ _)) ⟨wr.heap.size, 0, none⟩ 1 1 [.slice (some ⟨B2, 0, none⟩) j j] rfl rfl (news_l wr _ _) (ones_row _ rfl) (by unfold maxLen; omega) (by omega) (by have := HBL.out; have := HBB2.out; simp; omega) ?_); intro v' w9 hown9 hgr9 _; obtain ⟨a9, c9, rfl⟩ := own_slice hown9; have hm := OwnLM.snoc (w' := w9) (B0 := B0) (r := levelS seed h (l + 1)) HV1.out (ownl_below HV2.out (belowNew wr _)) (fun i hi => (HV3.out i hi).below (belowNew wr _)) (HNU.out.below (belowNew wr _)) hgr9 (by rw [HLL.out]; exact hown9); have HM9 := Lib.hid hm; have HB9 := Lib.hid (HBLW.out.trans (((Below.alloc (Below.refl B wr) (by have := HBL.out; have := HBB2.out; omega) _)).grown hgr9 (by have := HBL.out; have := HBB2.out; simp; omega) (fun k e => (World.ownsRow.lt HO2'.out k e).1))); clear hm hown9 hgr9)
          go_roundw
          case rel => exact ⟨l + 1, HLT.out, by go_num, by
            have hm9 := HM9.out
            rw [← HL1.out] at hm9 ⊢
            rw [HSL.out]
            exact hm9, HB9.out⟩
          case measure => have := HLT.out; simp [intOf]; omega
    · have hlh : l = h := by omega
      subst hlh
      have hd : decide ((l : Int) < (l : Int)) = false := by simp
      go_wp2_with fail
      go_ret
      refine ⟨⟨_, rfl, ?_⟩, ?_⟩
      · rw [← hl1]
        exact HVX.out.to (by have := HB0.out; have := HGB.out; omega)
      · exact HB1.out.trans (HBX.out.mono (Nat.le_of_lt HGB.out))
end Go.Proofs.YtphgpakfdhdklaaDoor
