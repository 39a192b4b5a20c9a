/-
  The contract of the reference's SignTree, for a leaf that there is.
  The contract of the reference's Verify.
  What is wanted of the program's trees, as propositions; and the contract of the law package's sanity check over them.
  Nothing is left of this text.
  Nothing is left of this text.
  The plain functions: letters and digits, the folded form of a string, its escaped form, hexadecimal digits. Nothing is claimed of the program here.
  Nothing is left of this text.
  Nothing is left of this text.
  Nothing is left of this text.
  Nothing is left of this text.
  The contracts of text.Fold and text.Match: the folded form of a string, and whether two strings have the same; nothing that was there before the call has changed.
  Nothing is left of this text.
  Nothing is left of this text.
  Nothing is left of this text.
  Nothing is left of this text.
  Nothing is left of this text.
  Nothing is left of this text.
  Nothing is left of this text.
  Nothing is left of this text.
  Nothing is left of this text.
  Nothing is left of this text.
  Plain laws on names as lists: what an attribute is, which error a name has, when two names match. Nothing is claimed of the program here.
  Attributes and relative names in memory: that they can be read at an address, and that a slice of a call's own holds them. Nothing is claimed of the program here.
  The contracts of certpathmade's New and Next, with the one block that a deck writes: a number from 0 to n - 1; all other memory as it was.
-/
import Derived.Test.YtphgpakfdhdklaaDoorAah
import Derived.Deep.RegionHeld3
import Derived.Test.YtphgpakfdhdklaaDoorAag
import Derived.Lib.SplitLaws
import Derived.Lib.IndexBytes
import Derived.Lib.Join
import Derived.Lib.JoinLaws
import Derived.Test.YtphgpakfdhdklaaDoorAaa
import Derived.Shelf.Strings.Builder1
import Derived.Lib.ValidLaws
import Derived.Deep.QuietTactic
import Derived.BigQuiet
import Derived.Laws.Runes
import Derived.Lib.OthersKept
import Derived.Deep.LoopGhost
import Derived.Deep.RegionWith
import Derived.Deep.DeepCutAuto
import Derived.Maps.Range
import Derived.Maps.AppendAt
namespace Go.Proofs.YtphgpakfdhdklaaDoor
open Go.RowKit

theorem xor_one_all : ∀ x : Fin 256, bits BinOp.xor .i64 ((x.val : Nat) : Int) 1 = ((sibQ x.val : Nat) : Int) := by decide +kernel
theorem xor_one {x : Nat} (hx : x < 256) : bits BinOp.xor .i64 (x : Int) 1 = ((sibQ x : Nat) : Int) := xor_one_all ⟨x, hx⟩
theorem sib_lt {i k : Nat} (hk : 1 ≤ k) (hi : i < 2 ^ k) : sibQ i < 2 ^ k := by
  obtain ⟨m, rfl⟩ : ∃ m, k = m + 1 := ⟨k - 1, by omega⟩
  rw [Nat.pow_succ] at hi ⊢
  unfold sibQ
  split <;> omega
theorem leaf_lt {leaf h l : Nat} (hl : leaf < 2 ^ h) (hlh : l ≤ h) : leaf / 2 ^ l < 2 ^ (h - l) := by
  rw [Nat.div_lt_iff_lt_mul (Nat.two_pow_pos l), ← Nat.pow_add, show h - l + l = h by omega]
  exact hl
theorem leaf_half (leaf l : Nat) : leaf / 2 ^ l / 2 = leaf / 2 ^ (l + 1) := by rw [Nat.pow_succ, Nat.div_div_eq_div_mul]

set_option maxRecDepth 100000 in
set_option maxHeartbeats 4000000 in
theorem rsgnt_ok (v : Value) (seed : ByteArray) (h leaf : Nat) (m : ByteArray) (hs : seed.size = 32) (hh : h ≤ 8) (hl : leaf < 2 ^ h) (hm : m.size ≤ 1000000000) (w : World) (ht : TreeV w v seed h) :
    Calls Tryd.prog 15 #[v, .int .i64 (leaf : Int), .string m] w fun e w' => e = .returned (someV (sigT seed h leaf m)) ∧ Below w.heap.size w w' := by
  have hp := pow_small hh
  have hl256 : leaf < 256 := by omega
  obtain ⟨b, o, c, hv, hc, hb, hlev⟩ := ht.open
  subst hv
  obtain ⟨ID, hID⟩ : ∃ ID, ID = idT seed := ⟨_, rfl⟩
  obtain ⟨R, hR⟩ : ∃ R, R = rootS seed h := ⟨_, rfl⟩
  have hIDs : ID.size = 16 := by rw [hID]; exact idT_size seed
  have hRs : R.size = 16 := by rw [hR]; exact rootS_size seed h
  obtain ⟨dg, hdg⟩ : ∃ dg, dg = dgM ID R leaf m := ⟨_, rfl⟩
  obtain ⟨n, hn⟩ : ∃ n, n = h + 1 := ⟨_, rfl⟩
  obtain ⟨N, hN⟩ : ∃ N, N = 2 ^ h := ⟨_, rfl⟩
  have hKO : ∀ W : World, TreeV W (.agg #[.string seed, .string ID, .slice (some ⟨b, o, none⟩) n c]) seed h → Calls Tryd.prog 24 #[.agg #[.string seed, .string ID, .slice (some ⟨b, o, none⟩) n c]] W fun e w' => e = .returned (.agg #[.int .i64 (h : Int), .string ID, .string R]) ∧ Below W.heap.size W w' := fun W hW => by
    have := rkeyof_any _ seed h hh W hW
    unfold keyV at this
    rw [← hID, ← hR] at this
    exact this
  have HKO := Lib.hid hKO
  have HDG : Hid (∀ (V : Value) (W : World), Reads_z W V [⟨#[77]⟩, ID, R, strOf (b4 leaf), m] → Calls Tryd.prog 36 #[V] W fun e w' => e = .returned (.string dg) ∧ Below W.heap.size W w') := Lib.hid fun V W hV => by
    rw [hdg]
    exact refshort_any V _ W hV (show (5 : Nat) < 4611686018427387904 by decide) (dgM_room (by omega) (by omega) hm leaf)
  obtain ⟨SG, hSG⟩ : ∃ SG, SG = otsS seed h leaf m := ⟨_, rfl⟩
  have hSGs : SG.size = 560 := by rw [hSG]; exact otsS_size _ _ _ _
  have HSO : Hid (∀ W : World, Calls Tryd.prog 35 #[.string ID, .string seed, .int .i64 (leaf : Int), .string dg] W fun e w' => e = .returned (.tuple #[.string SG, .int .i64 0]) ∧ Below W.heap.size W w') := Lib.hid fun W => by
    have h1 := rsgn_any ID seed dg (leaf : Int) W
    have h2 : sigE ID seed (leaf : Int) dg = 0 := by
      unfold sigE chkQ
      rw [if_pos (show (if ID.size = 16 ∧ seed.size = 32 then (if 0 ≤ (leaf : Int) ∧ (leaf : Int) < 256 then 0 else 1) else 18) = 0 by rw [if_pos ⟨hIDs, hs⟩, if_pos (by omega)]), if_pos (by rw [hdg]; exact dgM_size _ _ _ _)]
    unfold sigV at h1
    rw [if_pos h2] at h1
    have h3 : sigS ID seed (leaf : Int).toNat (digs dg.data.toList) = SG := by rw [hSG, hdg, hID, hR]; rfl
    rw [h3] at h1
    exact h1
  obtain ⟨b0, o0, c0, z0, z1, hb0, _⟩ := hlev 0 (Nat.zero_le _)
  rw [Nat.sub_zero, Nat.add_zero, ← hN] at z0
  rw [Nat.sub_zero, ← hN] at z1
  have HLV := Lib.hid hlev
  have HTR := Lib.hid ht
  rw [← hID, ← hn] at HTR ⊢
  rw [← hN] at hl hp
  have dl0 : decide ((leaf : Int) < 0) = false := by simp
  have dl1 : decide ((N : Int) ≤ (leaf : Int)) = false := by simp; omega
  have dln : ¬ N ≤ leaf := by omega
  have HH := Lib.hid hh
  have HN := Lib.hid hN
  have HNN := Lib.hid hn
  have HID := Lib.hid hID
  have HR := Lib.hid hR
  have HSG := Lib.hid hSG
  have HLF := Lib.hid hl
  have hn0 : (0 : Int) < (n : Int) := by omega
  have HB := Lib.hid hb
  have hn9 : n ≤ 9 := by omega
  obtain ⟨g, hg⟩ : ∃ g, g = w.heap.size := ⟨_, rfl⟩
  obtain ⟨W1, hW1⟩ : ∃ W1, W1 = w.alloc (.cells #[.string seed, .string ID, .slice (some ⟨b, o, none⟩) n c] 25) := ⟨_, rfl⟩
  have HQ1 : Hid (W1.heap[g]? = some (.cells #[.string seed, .string ID, .slice (some ⟨b, o, none⟩) n c] 25 (0, 0))) := Lib.hid (by rw [hW1, hg]; exact heap_alloc_new w _)
  have HB1 : Hid (Below w.heap.size w W1) := Lib.hid (by rw [hW1]; exact belowNew w _)
  have HG := Lib.hid hg
  have HW1 := Lib.hid hW1.symm
  have hbn : ¬ b = w.heap.size := by omega
  clear hlev ht hID hR hdg hn hN hKO hSG hs z1 hg hW1 hm hl hc
  go_enter Tryd.func15, Tryd.ntmps15
  go_wp2_with (go_at_call 24; rw [HW1.out]; (with_reducible refine (HKO.out _ (HTR.out.below HB1.out)).mono ?_); rintro e w1 ⟨rfl, hb1⟩; have HB2 := Lib.hid (HB1.out.next hb1); have HQ2 := Lib.hid ((hb1.block g (Array.getElem?_eq_some_iff.1 HQ1.out).1).trans HQ1.out); clear hb1)
  obtain ⟨K, hK⟩ : ∃ K, K = w1.heap.size := ⟨_, rfl⟩
  obtain ⟨W3, hW3⟩ : ∃ W3, W3 = w1.alloc (.cells #[.int .i64 (h : Int), .string ID, .string R] 46) := ⟨_, rfl⟩
  rw [← hW3, ← hK]
  have hq3 : W3.heap[g]? = some (.cells #[.string seed, .string ID, .slice (some ⟨b, o, none⟩) n c] 25 (0, 0)) := by rw [hW3]; exact ((belowNew w1 _).block g (Array.getElem?_eq_some_iff.1 HQ2.out).1).trans HQ2.out
  have hk3 : W3.heap[K]? = some (.cells #[.int .i64 (h : Int), .string ID, .string R] 46 (0, 0)) := by rw [hW3, hK]; exact heap_alloc_new w1 _
  have HB3 : Hid (Below w.heap.size w W3) := Lib.hid (by rw [hW3]; exact HB2.out.next (belowNew w1 _))
  obtain ⟨t0, t1, t2, hgl⟩ := tcell hq3
  obtain ⟨k0, k1, k2, hKl⟩ := tcell hk3
  have HQ3 := Lib.hid hq3
  have HK3 := Lib.hid hk3
  have HGL := Lib.hid hgl
  have HKL := Lib.hid hKl
  rw [← HG.out]
  clear hW3 hK hq3 hk3 z0 hb hbn t2 k0 dl0 dl1 dln hgl hKl hn0
  go_region_held3 (fun w' => w'.cell? ⟨g, 0, none⟩ = some (.string seed) ∧ w'.cell? ⟨g, 1, none⟩ = some (.string ID) ∧ w'.cell? ⟨K, 1, none⟩ = some (.string ID) ∧ w'.cell? ⟨K, 2, none⟩ = some (.string R)) (first | with_reducible exact ⟨by assumption, by assumption, by assumption, by assumption⟩ | go_keep)
    (first
      | (go_at_call 32; (with_reducible refine (rb4_any leaf (by omega) _).mono ?_); rintro e w4 ⟨rfl, hb4⟩; have hx : Below W3.heap.size W3 w4 := (by first | exact hb4 | exact (Below.refl _ _).drew.trans hb4); have s0 := (hx.cell (p := ⟨g, 0, none⟩) HGL.out).trans t0; have s1 := (hx.cell (p := ⟨g, 1, none⟩) HGL.out).trans t1; have s2 := (hx.cell (p := ⟨K, 1, none⟩) HKL.out).trans k1; have s3 := (hx.cell (p := ⟨K, 2, none⟩) HKL.out).trans k2; have HB4 := Lib.hid hx; clear hb4 hx)
      | (go_at_call 36; refine (HDG.out _ _ (reads_row _ [⟨#[77]⟩, ID, R, strOf (b4 leaf), m] 9)).mono ?_; rintro e w5 ⟨rfl, hb5⟩; have hx : Below W3.heap.size W3 w5 := (HB4.out.next (belowNew _ _)).next hb5; have s4 := (hx.cell (p := ⟨g, 0, none⟩) HGL.out).trans t0; have s5 := (hx.cell (p := ⟨g, 1, none⟩) HGL.out).trans t1; have s6 := (hx.cell (p := ⟨K, 1, none⟩) HKL.out).trans k1; have s7 := (hx.cell (p := ⟨K, 2, none⟩) HKL.out).trans k2; have HB5 := Lib.hid hx; clear hb5 hx)
      | (go_at_call 35; (with_reducible refine (HSO.out _).mono ?_); rintro e w6 ⟨rfl, hb6⟩; have hx : Below W3.heap.size W3 w6 := HB5.out.next hb6; have s8 := (hx.cell (p := ⟨g, 0, none⟩) HGL.out).trans t0; have s9 := (hx.cell (p := ⟨g, 1, none⟩) HGL.out).trans t1; have s10 := (hx.cell (p := ⟨K, 1, none⟩) HKL.out).trans k1; have s11 := (hx.cell (p := ⟨K, 2, none⟩) HKL.out).trans k2; have HB6 := Lib.hid hx; clear hb6 hx))
  clear s0 s1 s2 s3 s4 s5 s6 s7 s8 s9 s10 s11 t0 t1 k1 k2
  obtain ⟨P4, hP4⟩ : ∃ P4, P4 = strOf (b4 leaf) := ⟨_, rfl⟩
  have hP4s : P4.size = 4 := by rw [hP4]; rfl
  have HPB : Hid (∀ W : World, Calls Tryd.prog 32 #[.int .i64 (leaf : Int)] W fun e w' => e = .returned (.string P4) ∧ Below W.heap.size W w') := Lib.hid fun W => by rw [hP4]; exact rb4_any leaf (by omega) W
  have HP4 := Lib.hid hP4
  rw [← hP4]
  clear hP4
  have hsum : ((P4.size : Nat) : Int) + ((SG.size : Nat) : Int) ≤ 9223372036854775807 := by rw [hP4s, hSGs]; omega
  obtain ⟨S0, hS0⟩ : ∃ S0, S0 = P4 ++ SG := ⟨_, rfl⟩
  have HS0 := Lib.hid hS0
  have HS0s := Lib.hid (show S0.size = 564 by rw [hS0, ByteArray.size_append, hP4s, hSGs])
  go_wp2_with (go_at_call 32; (with_reducible refine (HPB.out _).mono ?_); rintro e w7 ⟨rfl, hb7⟩; have HB7 := Lib.hid (HB6.out.next hb7); clear hb7)
  rw [← hS0]
  clear hS0 hsum
  go_loopw [9, 11, 12] (fun t i q wr => ∃ l : Nat, l ≤ h ∧ i = .int .i64 (l : Int) ∧ q = .int .i64 ((leaf / 2 ^ l : Nat) : Int) ∧ t = .string (S0 ++ sibsS seed leaf l) ∧ Below W3.heap.size W3 wr) (fun _ i _ _ => h - (intOf i).toNat)
  case atStart => exact ⟨0, Nat.zero_le _, rfl, by rw [Nat.pow_zero, Nat.div_one], by
    congr 1
    apply list_inj
    rw [str_add]
    exact (List.append_nil _).symm, HB7.out⟩
  case round =>
    obtain ⟨l, hlh, rfl, rfl, rfl, hb⟩ := hrel
    have HBR := Lib.hid hb
    obtain ⟨t0, t1, t2, hgl⟩ := tcell ((hb.block g HGL.out).trans HQ3.out)
    obtain ⟨k0, k1, k2, hKl⟩ := tcell ((hb.block K HKL.out).trans HK3.out)
    clear hb t0 t1 k1 k2 hgl hKl
    by_cases hlt : l < h
    · have hd : decide ((l : Int) < (h : Int)) = true := by simp; omega
      obtain ⟨b', o', c', e0, e1, hb', hs⟩ := HLV.out l (by omega)
      obtain ⟨M, hM⟩ : ∃ M, M = 2 ^ (h - l) := ⟨_, rfl⟩
      rw [← hM] at e0 e1 hs
      obtain ⟨q, hq⟩ : ∃ q, q = leaf / 2 ^ l := ⟨_, rfl⟩
      rw [← hq]
      have hqM : q < M := by rw [hq, hM]; exact leaf_lt (by rw [← HN.out]; exact HLF.out) (Nat.le_of_lt hlt)
      have hM8 : M ≤ 256 := by rw [hM]; exact (pow_small (by have := HH.out; omega)).1
      obtain ⟨x, hx⟩ : ∃ x, x = sibQ q := ⟨_, rfl⟩
      have hxo : bits BinOp.xor .i64 (q : Int) 1 = (x : Int) := by rw [hx]; exact xor_one (by omega)
      have hxM : x < M := by rw [hx, hM]; exact sib_lt (by omega) (by rw [← hM]; exact hqM)
      have hxi : (x : Int) < (M : Int) := by omega
      have hli : (l : Int) < (n : Int) := by have := HNN.out; omega
      have hln : l < n := by have := HNN.out; omega
      have hBW : Below w.heap.size w wr := HB3.out.next HBR.out
      have y0 := (hBW.cell (p := ⟨b, o + l, none⟩) HB.out).trans e0
      have y1 := (hBW.cell (p := ⟨b', o' + x, none⟩) hb').trans (hs x hxM)
      obtain ⟨q2, hq2⟩ : ∃ q2, q2 = q / 2 := ⟨_, rfl⟩
      have hq2i : (q : Int) / 2 = (q2 : Int) := by omega
      have HQ2' := Lib.hid (show q2 = leaf / 2 ^ (l + 1) by rw [hq2, hq, leaf_half])
      obtain ⟨y, hy⟩ : ∃ y, y = nodeS seed l x := ⟨_, rfl⟩
      have hys : y.size = 16 := by rw [hy]; exact nodeS_size _ _ _
      have HSB := Lib.hid (show sibsS seed leaf (l + 1) = sibsS seed leaf l ++ y by rw [hy, hx, hq]; rfl)
      obtain ⟨A, hA⟩ : ∃ A, A = S0 ++ sibsS seed leaf l := ⟨_, rfl⟩
      have HA := Lib.hid hA
      have hAs : A.size = 564 + l * 16 := by rw [hA, ByteArray.size_append, HS0s.out, sibsS_size]
      rw [← hy] at y1
      rw [← hA]
      have hsum : ((A.size : Nat) : Int) + ((y.size : Nat) : Int) ≤ 9223372036854775807 := by rw [hAs, hys]; have := HH.out; omega
      have HLT := Lib.hid hlt
      clear hM hq hx hq2 hy hA hs e0 hb' hBW
      go_wp2_with fail
      go_roundw
      case rel => exact ⟨l + 1, HLT.out, by go_num, by rw [HQ2'.out], by
        congr 1
        rw [HSB.out, HA.out]
        apply list_inj
        simp only [str_add, List.append_assoc], HBR.out⟩
      case measure => have := HLT.out; simp [intOf]; omega
    · have hlh' : l = h := by omega
      subst hlh'
      have hd : decide ((l : Int) < (l : Int)) = false := by simp
      go_wp2_with fail
      go_ret2
      have e : sigT seed l leaf m = S0 ++ sibsS seed leaf l := by
        unfold sigT
        rw [← HSG.out, ← HP4.out, ← HS0.out]
      rw [e]
      exact ⟨rfl, HB3.out.next HBR.out⟩
end Go.Proofs.YtphgpakfdhdklaaDoor
namespace Go.Proofs.YtphgpakfdhdklaaDoor
open Go.RowKit

theorem leafV_long {s : ByteArray} (h : 4 ≤ s.size) : leafV s = .tuple #[.int .i64 ((leafS s : Nat) : Int), .bool true] := by
  unfold leafV
  rw [if_neg (by omega)]
theorem keyE_zero {h : Int} {id root : ByteArray} (e : keyE h id root = 0) : ∃ n : Nat, h = (n : Int) ∧ n ≤ 8 ∧ id.size = 16 ∧ root.size = 16 := by
  unfold keyE at e
  split at e
  · rename_i h1
    exact ⟨h.toNat, by omega, by omega, h1.2.2.1, h1.2.2.2⟩
  · cases e
theorem up_zero (id root m s : ByteArray) : upS id root m s 0 = recS id (leafS s) (digs (dgM id root (leafS s) m).data.toList) (s.extract 4 564) := rfl
theorem up_next (id root m s : ByteArray) (l : Nat) : upS id root m s (l + 1) = if leafS s / 2 ^ l % 2 = 1 then joinQ hQ id.data.toList l (leafS s / 2 ^ l / 2) (sibP s l) (upS id root m s l) else joinQ hQ id.data.toList l (leafS s / 2 ^ l / 2) (upS id root m s l) (sibP s l) := rfl
theorem up_size (id root m s : ByteArray) : ∀ l, (upS id root m s l).size = 16
  | 0 => shortStr_size _
  | l + 1 => by
    rw [up_next]
    split <;> exact joinQ_size _ _ _ _ _

theorem beq_strm (x y : ByteArray) : (x.toList == y.toList) = decide (x = y) := by
  rw [Bool.eq_iff_iff, beq_iff_eq, decide_eq_true_iff, Lib.toList_data, Lib.toList_data]
  exact ⟨fun h => list_inj h, fun h => by rw [h]⟩
theorem wrap_pow {h N : Nat} (hh : h ≤ 8) (hN : N = 2 ^ h) : wrap64 (2 ^ h) = (N : Int) := by
  rw [hN]
  have : ((2 : Int) ^ h) = ((2 ^ h : Nat) : Int) := by norm_cast
  rw [this]
  have h1 := (pow_small hh).1
  generalize 2 ^ h = m at h1
  unfold wrap64
  omega

end Go.Proofs.YtphgpakfdhdklaaDoor
namespace Go.Proofs.YtphgpakfdhdklaaDoor
open Go.RowKit

/-- What Sign returns for a tree that there is. -/
def signV (seed : ByteArray) (h : Nat) (leaf : Int) (m : ByteArray) : Value := if 0 ≤ leaf ∧ leaf < ((2 ^ h : Nat) : Int) then someV (sigT seed h leaf.toNat m) else noneV 1
theorem signV_ok (seed : ByteArray) (h leaf : Nat) (m : ByteArray) (hl : leaf < 2 ^ h) : signV seed h (leaf : Int) m = someV (sigT seed h leaf m) := by
  unfold signV
  rw [if_pos ⟨by omega, by omega⟩, Int.toNat_natCast]
/-- TA says of a world and a block that the tree of a seed with a height lies there. -/
def TreeP := World → Nat → ByteArray → Nat → Prop
def VerPm : Prop := ∀ (h : Int) (id root m s : ByteArray) (w : World), m.size ≤ 1000000000 → s.size ≤ 1000000000 → Holds w 0 kWords → Calls Tryd.prog 30 #[keyV h id root, .string m, .string s] w fun e w' => e = .returned (.int .i64 ((verE h id root m s : Nat) : Int)) ∧ Below w.heap.size w w'
def CheckPm : Prop := ∀ (h : Int) (id root : ByteArray) (w : World), Calls Tryd.prog 43 #[keyV h id root] w fun e w' => e = .returned (.int .i64 ((keyE h id root : Nat) : Int)) ∧ Below w.heap.size w w'
def LeafPm : Prop := ∀ (s : ByteArray) (w : World), Calls Tryd.prog 29 #[.string s] w fun e w' => e = .returned (leafV s) ∧ Below w.heap.size w w'

end Go.Proofs.YtphgpakfdhdklaaDoor


namespace Go.Proofs.YtphgpakfdhdklaaDoor
open Go.RowKit

/-! ### Letters and digits -/
def alnum (n : Nat) : Bool := decide (65 ≤ n ∧ n ≤ 90) || (decide (97 ≤ n ∧ n ≤ 122) || decide (48 ≤ n ∧ n ≤ 57))
/-! ### Folding -/
def small (c : UInt8) : UInt8 := if 65 ≤ c.toNat ∧ c.toNat ≤ 90 then UInt8.ofNat (c.toNat + 32) else c
theorem small_low {c : UInt8} (h : ¬ (65 ≤ c.toNat ∧ c.toNat ≤ 90)) : small c = c := by unfold small; rw [if_neg h]
theorem small_big {c : UInt8} (h : 65 ≤ c.toNat ∧ c.toNat ≤ 90) : (small c).toNat = c.toNat + 32 := by
  unfold small
  rw [if_pos h]
  simp; omega
theorem small_space {c : UInt8} : small c = 32 ↔ c = 32 := by
  by_cases h : 65 ≤ c.toNat ∧ c.toNat ≤ 90
  · constructor
    · intro e
      have := small_big h
      rw [e] at this
      have e32 : (32 : UInt8).toNat = 32 := rfl
      omega
    · intro e
      rw [e] at h
      have e32 : (32 : UInt8).toNat = 32 := rfl
      omega
  · rw [small_low h]

def foldStep (st : List UInt8 × Bool) (c : UInt8) : List UInt8 × Bool := if c = 32 then (st.1, !st.1.isEmpty) else (st.1 ++ (if st.2 then [32] else []) ++ [small c], false)
def foldRun (l : List UInt8) : List UInt8 × Bool := l.foldl foldStep ([], false)
def foldL (l : List UInt8) : List UInt8 := (foldRun l).1
/-- What a state of folding always is. -/
structure FInv (st : List UInt8 × Bool) : Prop where
  gap : st.2 = true → st.1 ≠ []
  last : st.1.getLast? ≠ some 32
theorem FInv.step {st : List UInt8 × Bool} (h : FInv st) (c : UInt8) : FInv (foldStep st c) := by
  unfold foldStep
  by_cases hc : c = 32
  · rw [if_pos hc]
    refine ⟨fun e => ?_, h.last⟩
    intro e2
    rw [show st.1 = [] from e2] at e
    cases e
  · rw [if_neg hc]
    refine ⟨fun e => (by cases e), ?_⟩
    rw [List.getLast?_append]
    simp
    exact fun e => hc (small_space.1 e)
/-! ### Hexadecimal digits -/
def hexDigit (n : Nat) : UInt8 := if n < 10 then UInt8.ofNat (48 + n) else UInt8.ofNat (87 + n)
def hexL (l : List UInt8) : List UInt8 := l.flatMap fun b => [hexDigit (b.toNat / 16), hexDigit (b.toNat % 16)]
def digV (c : Nat) : Option Nat := if 48 ≤ c ∧ c ≤ 57 then some (c - 48) else if 97 ≤ c ∧ c ≤ 102 then some (c - 87) else none
theorem digV_hex : ∀ v, v < 16 → digV (hexDigit v).toNat = some v := by decide
theorem hexDigit_inj {v w : Nat} (hv : v < 16) (hw : w < 16) (h : hexDigit v = hexDigit w) : v = w := by
  have h1 := digV_hex v hv
  rw [h, digV_hex w hw] at h1
  exact (Option.some.inj h1).symm
theorem hexL_cons (a : UInt8) (l : List UInt8) : hexL (a :: l) = hexDigit (a.toNat / 16) :: hexDigit (a.toNat % 16) :: hexL l := by simp [hexL]
theorem byte_of {a b : UInt8} (h1 : hexDigit (a.toNat / 16) = hexDigit (b.toNat / 16)) (h2 : hexDigit (a.toNat % 16) = hexDigit (b.toNat % 16)) : a = b := by
  have hx := a.toNat_lt
  have hy := b.toNat_lt
  have e1 := hexDigit_inj (by omega) (by omega) h1
  have e2 := hexDigit_inj (by omega) (by omega) h2
  exact UInt8.toNat_inj.1 (by omega)
theorem hexL_inj : ∀ {a b : List UInt8}, hexL a = hexL b → a = b
  | [], [], _ => rfl
  | [], y :: b, h => by rw [hexL_cons] at h; cases h
  | x :: a, [], h => by rw [hexL_cons] at h; cases h
  | x :: a, y :: b, h => by
    rw [hexL_cons, hexL_cons] at h
    rw [hexL_inj (List.cons.inj (List.cons.inj h).2).2, byte_of (List.cons.inj h).1 (List.cons.inj (List.cons.inj h).2).1]
/-! ### Escaping -/
def plainL : List UInt8 := [32, 39, 40, 41, 45, 46, 47, 58, 63, 64, 95]
def plainB (c : UInt8) : Bool := alnum c.toNat || plainL.contains c
theorem plain_92 : plainB 92 = false := by decide
def escB (c : UInt8) : List UInt8 := if plainB c = true then [c] else [92, hexDigit (c.toNat / 16), hexDigit (c.toNat % 16)]
def escL (l : List UInt8) : List UInt8 := l.flatMap escB
theorem escB_plain {c : UInt8} (h : plainB c = true) : escB c = [c] := by unfold escB; rw [if_pos h]
theorem escB_other {c : UInt8} (h : plainB c = false) : escB c = [92, hexDigit (c.toNat / 16), hexDigit (c.toNat % 16)] := by unfold escB; rw [if_neg (by rw [h]; decide)]
theorem escL_nil : escL [] = [] := rfl
theorem escL_cons (c : UInt8) (l : List UInt8) : escL (c :: l) = escB c ++ escL l := by simp [escL]
theorem escB_len1 (c : UInt8) : 1 ≤ (escB c).length := by unfold escB; split <;> simp
theorem escB_cut {x y : UInt8} {r t : List UInt8} (h : escB x ++ r = escB y ++ t) : x = y ∧ r = t := by
  cases hx : plainB x <;> cases hy : plainB y
  · rw [escB_other hx, escB_other hy] at h
    simp only [List.cons_append, List.nil_append, List.cons.injEq, true_and] at h
    exact ⟨byte_of h.1 h.2.1, h.2.2⟩
  · rw [escB_other hx, escB_plain hy] at h
    simp only [List.cons_append, List.nil_append, List.cons.injEq] at h
    rw [← h.1, plain_92] at hy; cases hy
  · rw [escB_plain hx, escB_other hy] at h
    simp only [List.cons_append, List.nil_append, List.cons.injEq] at h
    rw [h.1, plain_92] at hx; cases hx
  · rw [escB_plain hx, escB_plain hy] at h
    simp only [List.cons_append, List.nil_append, List.cons.injEq] at h
    exact h
theorem escL_cut : ∀ (D l r : List UInt8), escL l = escL D ++ r → ∃ l2, l = D ++ l2 ∧ escL l2 = r
  | [], l, r, h => ⟨l, rfl, h⟩
  | d :: D, [], r, h => by
    exfalso
    rw [escL_nil, escL_cons] at h
    have := congrArg List.length h
    have h1 := escB_len1 d
    simp at this
    omega
  | d :: D, x :: l, r, h => by
    rw [escL_cons, escL_cons, List.append_assoc] at h
    obtain ⟨rfl, h2⟩ := escB_cut h
    obtain ⟨l2, rfl, h3⟩ := escL_cut D l r h2
    exact ⟨l2, rfl, h3⟩
theorem escL_inj {a b : List UInt8} (h : escL a = escL b) : a = b := by
  obtain ⟨l2, rfl, h2⟩ := escL_cut b a [] (by rw [h, List.append_nil])
  cases l2 with
  | nil => simp
  | cons x l =>
    rw [escL_cons] at h2
    have := congrArg List.length h2
    have h1 := escB_len1 x
    rw [List.length_append, List.length_nil] at this
    omega
theorem drop_cons {s : List UInt8} {i : Nat} {c : UInt8} (h : s[i]? = some c) : s.drop i = c :: s.drop (i + 1) := by
  obtain ⟨hi, rfl⟩ := List.getElem?_eq_some_iff.1 h
  exact List.drop_eq_getElem_cons hi
/-- Where the reference stands: what is escaped as s begins with out, and goes on behind i. -/
def Way (s : List UInt8) (i : Nat) (out : List UInt8) : Prop := ∀ l, escL l = s → ∃ l2, l = out ++ l2 ∧ escL l2 = s.drop i
theorem Way.one {s out : List UInt8} {i : Nat} {c : UInt8} (h : Way s i out) (hc : s[i]? = some c) (h92 : c ≠ 92) : Way s (i + 1) (out ++ [c]) := by
  intro l e
  obtain ⟨l2, rfl, h2⟩ := h l e
  rw [drop_cons hc] at h2
  cases l2 with
  | nil => rw [escL_nil] at h2; cases h2
  | cons x t =>
    rw [escL_cons] at h2
    cases hx : plainB x with
    | true =>
      rw [escB_plain hx] at h2
      simp only [List.cons_append, List.nil_append, List.cons.injEq] at h2
      exact ⟨t, by rw [h2.1]; simp, h2.2⟩
    | false =>
      rw [escB_other hx] at h2
      simp only [List.cons_append, List.nil_append, List.cons.injEq] at h2
      exact absurd h2.1.symm h92
theorem Way.two {s out : List UInt8} {i : Nat} (h : Way s i out) (hc : s[i]? = some 92) {l : List UInt8} (e : escL l = s) :
    ∃ x t, l = out ++ x :: t ∧ i + 3 ≤ s.length ∧ hexL [x] = (s.drop (i + 1)).take 2 ∧ escL t = s.drop (i + 3) := by
  obtain ⟨l2, rfl, h2⟩ := h l e
  rw [drop_cons hc] at h2
  cases l2 with
  | nil => rw [escL_nil] at h2; cases h2
  | cons x t =>
    rw [escL_cons] at h2
    cases hx : plainB x with
    | true =>
      rw [escB_plain hx] at h2
      simp only [List.cons_append, List.nil_append, List.cons.injEq] at h2
      rw [h2.1, plain_92] at hx; cases hx
    | false =>
      rw [escB_other hx] at h2
      simp only [List.cons_append, List.nil_append, List.cons.injEq, true_and] at h2
      have hl := congrArg List.length h2
      simp only [List.length_cons, List.length_drop] at hl
      refine ⟨x, t, rfl, by omega, by rw [← h2]; rfl, ?_⟩
      have e3 : s.drop (i + 3) = (s.drop (i + 1)).drop 2 := by rw [List.drop_drop]
      rw [e3, ← h2]; rfl
theorem Way.next {s out : List UInt8} {i : Nat} {u : ByteArray} (h : Way s i out) (hc : s[i]? = some 92) (hu : hexL u.data.toList = (s.drop (i + 1)).take 2) : Way s (i + 3) (out ++ u.data.toList) := by
  intro l e
  obtain ⟨x, t, rfl, _, h2, h3⟩ := h.two hc e
  have : u.data.toList = [x] := hexL_inj (hu.trans h2.symm)
  exact ⟨t, by rw [this]; simp, h3⟩
theorem Way.no {s out : List UInt8} {i : Nat} (h : Way s i out) (hc : s[i]? = some 92) (hu : ∀ l, hexL l ≠ (s.drop (i + 1)).take 2) : ∀ l, escL l ≠ s := by
  intro l e
  obtain ⟨x, t, _, _, h2, _⟩ := h.two hc e
  exact hu _ h2
theorem Way.short {s out : List UInt8} {i : Nat} (h : Way s i out) (hc : s[i]? = some 92) (hs : s.length < i + 3) : ∀ l, escL l ≠ s := by
  intro l e
  obtain ⟨_, _, _, h1, _⟩ := h.two hc e
  omega
theorem Way.last {s out : List UInt8} {i : Nat} (h : Way s i out) (hi : s.length ≤ i) (hne : escL out ≠ s) : ∀ l, escL l ≠ s := by
  intro l e
  obtain ⟨l2, rfl, h2⟩ := h l e
  rw [List.drop_eq_nil_of_le hi] at h2
  obtain rfl : l2 = [] := escL_inj (h2.trans escL_nil.symm)
  rw [List.append_nil] at e
  exact hne e
end Go.Proofs.YtphgpakfdhdklaaDoor




namespace Go.Proofs.YtphgpakfdhdklaaDoor
open Go.RowKit

/-- The folded form as a text. -/
def foldS (s : ByteArray) : ByteArray := strOf (foldL s.data.toList)
theorem toList_inj {a b : ByteArray} : a.toList = b.toList ↔ a = b :=
  ⟨fun h => list_inj (by rw [← toList_eq_list, ← toList_eq_list, h]), fun h => by rw [h]⟩
end Go.Proofs.YtphgpakfdhdklaaDoor










namespace Go.Proofs.YtphgpakfdhdklaaDoor
open Go.RowKit

/-- An attribute: its type, its kind, its value. A name: its relative names. -/
abbrev At := ByteArray × Int × ByteArray
abbrev Nm := List (List At)
def noAt : At := (⟨#[]⟩, 0, ⟨#[]⟩)

/-! ### The first error of a name -/
noncomputable def oidB (s : ByteArray) : Bool := @decide (∃ a, Oid s.data.toList a) (Classical.propDecidable _)
/-! ### When names match -/
def fa (a : At) : ByteArray × ByteArray := (a.1, foldS a.2.2)
def MatchR (r s : List At) : Prop := r.length = s.length ∧ (∀ x ∈ r, ∃ y ∈ s, fa y = fa x) ∧ (∀ y ∈ s, ∃ x ∈ r, fa x = fa y)
instance (r s : List At) : Decidable (MatchR r s) := by unfold MatchR; infer_instance
theorem MatchR.refl (r : List At) : MatchR r r := ⟨rfl, fun x h => ⟨x, h, rfl⟩, fun x h => ⟨x, h, rfl⟩⟩
theorem MatchR.symm {r s : List At} (h : MatchR r s) : MatchR s r := ⟨h.1.symm, h.2.2, h.2.1⟩
theorem MatchR.trans {r s t : List At} (h : MatchR r s) (k : MatchR s t) : MatchR r t := by
  refine ⟨h.1.trans k.1, fun x hx => ?_, fun x hx => ?_⟩
  · obtain ⟨y, hy, e1⟩ := h.2.1 x hx
    obtain ⟨z, hz, e2⟩ := k.2.1 y hy
    exact ⟨z, hz, e2.trans e1⟩
  · obtain ⟨y, hy, e1⟩ := k.2.2 x hx
    obtain ⟨z, hz, e2⟩ := h.2.2 y hy
    exact ⟨z, hz, e2.trans e1⟩
/-- The relative names of b match the first ones of n. -/
def WithinN (n b : Nm) : Prop := b.length ≤ n.length ∧ ∀ i, i < b.length → MatchR (n.getD i []) (b.getD i [])
def MatchN (n m : Nm) : Prop := n.length = m.length ∧ ∀ i, i < n.length → MatchR (n.getD i []) (m.getD i [])
instance (n b : Nm) : Decidable (WithinN n b) := by unfold WithinN; infer_instance
instance (n b : Nm) : Decidable (MatchN n b) := by unfold MatchN; infer_instance
theorem MatchN.refl (n : Nm) : MatchN n n := ⟨rfl, fun _ _ => MatchR.refl _⟩
theorem MatchN.symm {n m : Nm} (h : MatchN n m) : MatchN m n := ⟨h.1.symm, fun i hi => (h.2 i (by rw [h.1]; exact hi)).symm⟩
theorem MatchN.within {n m : Nm} (h : MatchN n m) : WithinN n m := ⟨Nat.le_of_eq h.1.symm, fun i hi => h.2 i (by rw [h.1]; exact hi)⟩
theorem WithinN.trans {a b c : Nm} (h : WithinN a b) (k : WithinN b c) : WithinN a c := ⟨Nat.le_trans k.1 h.1, fun i hi => (h.2 i (Nat.lt_of_lt_of_le hi k.1)).trans (k.2 i hi)⟩
theorem getD_take {α : Type} (l : List α) (k i : Nat) (h : i < k) (d : α) : (l.take k).getD i d = l.getD i d := by
  rw [List.getD_eq_getElem?_getD, List.getD_eq_getElem?_getD, List.getElem?_take_of_lt h]
end Go.Proofs.YtphgpakfdhdklaaDoor
namespace Go.Proofs.YtphgpakfdhdklaaDoor
open Go.RowKit

theorem block_lt {w : World} {b o : Nat} {v : Value} (h : w.cell? ⟨b, o, none⟩ = some v) : b < w.heap.size := World.block_lt_of_cell? _ _ h
/-- At the address lie the attributes l. -/
def ALies (w : World) (a : Option Addr) (l : List At) : Prop :=
  l = [] ∨ ∃ b o, a = some ⟨b, o, none⟩ ∧ ∀ i, i < l.length → w.cell? ⟨b, o + i * 3, none⟩ = some (.string (l.getD i noAt).1) ∧ w.cell? ⟨b, o + i * 3 + 1, none⟩ = some (.int .i64 (l.getD i noAt).2.1) ∧ w.cell? ⟨b, o + i * 3 + 2, none⟩ = some (.string (l.getD i noAt).2.2)
theorem ALies.nil (w : World) (a : Option Addr) : ALies w a [] := .inl rfl
theorem ALies.below {w w' : World} {a : Option Addr} {l : List At} (h : ALies w a l) (hb : Below w.heap.size w w') : ALies w' a l := by
  rcases h with h | ⟨b, o, h1, h2⟩
  · exact .inl h
  · refine .inr ⟨b, o, h1, fun i hi => ?_⟩
    obtain ⟨c0, c1, c2⟩ := h2 i hi
    exact ⟨(hb.cell (block_lt c0)).trans c0, (hb.cell (block_lt c1)).trans c1, (hb.cell (block_lt c2)).trans c2⟩
theorem ALies.take {w : World} {a : Option Addr} {l : List At} (h : ALies w a l) (k : Nat) : ALies w a (l.take k) := by
  rcases h with h | ⟨b, o, h1, h2⟩
  · exact .inl (by rw [h]; simp)
  · refine .inr ⟨b, o, h1, fun i hi => ?_⟩
    rw [List.length_take] at hi
    rw [getD_take _ _ _ (by omega)]
    exact h2 i (by omega)
theorem ALies.at {w : World} {a : Option Addr} {l : List At} (h : ALies w a l) (k : Nat) (hk : k < l.length) : ∃ b o, a = some ⟨b, o, none⟩ ∧ b < w.heap.size ∧
    w.cell? ⟨b, o + k * 3, none⟩ = some (.string (l.getD k noAt).1) ∧ w.cell? ⟨b, o + k * 3 + 1, none⟩ = some (.int .i64 (l.getD k noAt).2.1) ∧ w.cell? ⟨b, o + k * 3 + 2, none⟩ = some (.string (l.getD k noAt).2.2) := by
  rcases h with h | ⟨b, o, h1, h2⟩
  · rw [h] at hk; exact absurd hk (Nat.not_lt_zero _)
  · obtain ⟨c0, c1, c2⟩ := h2 k hk
    exact ⟨b, o, h1, block_lt c0, c0, c1, c2⟩
/-- At the address lie the relative names n. -/
def RLies (w : World) (a : Option Addr) (n : Nm) : Prop :=
  n = [] ∨ ∃ b o, a = some ⟨b, o, none⟩ ∧ ∀ i, i < n.length → ∃ a' c', w.cell? ⟨b, o + i, none⟩ = some (.slice a' (n.getD i []).length c') ∧ (n.getD i []).length ≤ c' ∧ ALies w a' (n.getD i [])
theorem RLies.nil (w : World) (a : Option Addr) : RLies w a [] := .inl rfl
theorem RLies.below {w w' : World} {a : Option Addr} {n : Nm} (h : RLies w a n) (hb : Below w.heap.size w w') : RLies w' a n := by
  rcases h with h | ⟨b, o, h1, h2⟩
  · exact .inl h
  · refine .inr ⟨b, o, h1, fun i hi => ?_⟩
    obtain ⟨a', c', q1, q3, q2⟩ := h2 i hi
    exact ⟨a', c', (hb.cell (block_lt q1)).trans q1, q3, q2.below hb⟩
theorem RLies.take {w : World} {a : Option Addr} {n : Nm} (h : RLies w a n) (k : Nat) : RLies w a (n.take k) := by
  rcases h with h | ⟨b, o, h1, h2⟩
  · exact .inl (by rw [h]; simp)
  · refine .inr ⟨b, o, h1, fun i hi => ?_⟩
    rw [List.length_take] at hi
    rw [getD_take _ _ _ (by omega)]
    exact h2 i (by omega)
theorem RLies.at {w : World} {a : Option Addr} {n : Nm} (h : RLies w a n) (k : Nat) (hk : k < n.length) : ∃ b o, a = some ⟨b, o, none⟩ ∧ b < w.heap.size ∧
    ∃ a' c', w.cell? ⟨b, o + k, none⟩ = some (.slice a' (n.getD k []).length c') ∧ (n.getD k []).length ≤ c' ∧ ALies w a' (n.getD k []) := by
  rcases h with h | ⟨b, o, h1, h2⟩
  · rw [h] at hk; exact absurd hk (Nat.not_lt_zero _)
  · obtain ⟨a', c', q1, q3, q2⟩ := h2 k hk
    exact ⟨b, o, h1, block_lt q1, a', c', q1, q3, q2⟩
/-- The struct value v is the name n. -/
def NameV (w : World) (v : Value) (n : Nm) : Prop := ∃ a c, v = .agg #[.slice a n.length c] ∧ n.length ≤ c ∧ RLies w a n
theorem NameV.below {w w' : World} {v : Value} {n : Nm} (h : NameV w v n) (hb : Below w.heap.size w w') : NameV w' v n := by
  obtain ⟨a, c, h1, h3, h2⟩ := h
  exact ⟨a, c, h1, h3, h2.below hb⟩

/-! ### Slices of a call's own -/
end Go.Proofs.YtphgpakfdhdklaaDoor
namespace Go.Proofs.YtphgpakfdhdklaaDoor
open Go.RowKit

theorem Below.only {w w' : World} (h : Below w.heap.size w w') : w.grownBy w' none := ⟨h.os, h.tape, h.output, h.size, fun k hk _ => h.block k hk⟩
/-- But for block p, nothing that was there has changed. -/
def But (p : Nat) (w w' : World) : Prop := w.grownBy w' (some p)
theorem But.refl (p : Nat) (w : World) : But p w w := World.grownBy.refl w _
theorem But.of {p : Nat} {w w' : World} (h : Below w.heap.size w w') : But p w w' := ⟨h.os, h.tape, h.output, h.size, fun k hk _ => h.block k hk⟩
theorem But.next {p : Nat} {a b c : World} (h : But p a b) (k : But p b c) : But p a c := World.grownBy.trans h k
theorem But.drew {p : Nat} {a b : World} (h : But p a b) : But p a b.drew := ⟨h.os, h.tape, h.output, h.size, h.block⟩
theorem But.alloc {p : Nat} {a b : World} (h : But p a b) (o : Obj) : But p a (b.alloc o) := h.next (But.of (belowNew b o))
theorem But.below {p : Nat} {w w' : World} (h : But p w w') (hp : p ≤ w.heap.size) : Below p w w' :=
  ⟨h.os, h.tape, h.output, h.size, fun k hk => h.block k (by omega) (by simp; omega)⟩
theorem But.set (p j : Nat) (w : World) (v : Value) : But p w (w.setCell ⟨p, j, none⟩ v) :=
  ⟨rfl, rfl, rfl, by simp [World.setCell], fun k _ hne => Below.heap_setCell _ _ _ _ (by simpa using hne)⟩
/-- At the address lie the numbers zs. -/
def ILies (w : World) (a : Option Addr) (zs : List Int) : Prop := zs = [] ∨ ∃ b o, a = some ⟨b, o, none⟩ ∧ ∀ i, i < zs.length → w.cell? ⟨b, o + i, none⟩ = some (.int .i64 (zs.getD i 0))
theorem ILies.at {w : World} {a : Option Addr} {zs : List Int} (h : ILies w a zs) (k : Nat) (hk : k < zs.length) : ∃ b o, a = some ⟨b, o, none⟩ ∧ w.cell? ⟨b, o + k, none⟩ = some (.int .i64 (zs.getD k 0)) := by
  rcases h with h | ⟨b, o, h1, h2⟩
  · rw [h] at hk; exact absurd hk (Nat.not_lt_zero _)
  · exact ⟨b, o, h1, h2 k hk⟩
theorem ILies.below {w w' : World} {B : Nat} {a : Option Addr} {zs : List Int} (h : ILies w a zs) (hb : Below B w w') (hB : ∀ x, a = some x → zs ≠ [] → x.block < B) : ILies w' a zs := by
  rcases h with h | ⟨b, o, rfl, h⟩
  · exact .inl h
  · exact .inr ⟨b, o, rfl, fun i hi => (hb.cell (p := ⟨b, o + i, none⟩) (hB ⟨b, o, none⟩ rfl (fun e => by rw [e] at hi; exact absurd hi (Nat.not_lt_zero _)))).trans (h i hi)⟩
/-- A deck of the numbers zs in block p, at place k. -/
def DeckAt (w : World) (p : Nat) (a : Option Addr) (cap : Nat) (zs : List Int) (k : Nat) : Prop :=
  w.heap[p]? = some (.cells #[.slice a zs.length cap, .int .i64 (k : Int)] 69 (0, 0)) ∧ ILies w a zs ∧ (∀ x, a = some x → zs ≠ [] → x.block < p) ∧ k ≤ 30000 ∧ zs.length ≤ 9223372036854775807

set_option maxRecDepth 100000 in
set_option maxHeartbeats 1000000 in
theorem next_end (p : Nat) (a : Option Addr) (cap : Nat) (zs : List Int) (k : Nat) (N : Nat) (w : World) (h : DeckAt w p a cap zs k) (hk : zs.length ≤ k) :
    Calls Tryd.prog 13 #[.pointer (some ⟨p, 0, none⟩), .int .i64 (N : Int)] w fun e w' => e = .returned (.int .i64 0) ∧ DeckAt w' p a cap zs k ∧ But p w w' := by
  have HD := Lib.hid h
  obtain ⟨h1, _, _, _, h4⟩ := h
  obtain ⟨n, hn⟩ : ∃ n, n = zs.length := ⟨_, rfl⟩
  rw [← hn] at h1 hk h4
  have c0 : w.cell? ⟨p, 0, none⟩ = some (.slice a n cap) := by rw [Lib.cell_of_heap h1]; rfl
  have c1 : w.cell? ⟨p, 1, none⟩ = some (.int .i64 (k : Int)) := by rw [Lib.cell_of_heap h1]; rfl
  have d0 : decide ((n : Int) ≤ (k : Int)) = true := by simp; omega
  clear h1 hn
  go_enter Tryd.func13, Tryd.ntmps13
  go_wp2_with fail
  go_region
  go_wp2_with fail
  go_ret
  exact ⟨rfl, HD.out, (But.refl _ _).drew⟩
theorem next_num (z : Int) (N : Nat) (hN : 0 < N) (hN2 : N ≤ 1099511627776) : ∃ x y : Int, ∃ r : Nat, z.tmod (N : Int) = x ∧ -1099511627776 ≤ x ∧ x ≤ 1099511627776 ∧ x + (N : Int) = y ∧ 0 ≤ y ∧ y ≤ 2199023255552 ∧ y.tmod (N : Int) = (r : Int) ∧ r < N := by
  have hx1 : -(N : Int) < z.tmod (N : Int) := by
    have := Int.lt_tmod_of_pos z (show (0 : Int) < (N : Int) by omega)
    simpa using this
  have hx2 : z.tmod (N : Int) < (N : Int) := Int.tmod_lt_of_pos z (by omega)
  refine ⟨_, _, (z.tmod (N : Int) + (N : Int)).tmod (N : Int) |>.toNat, rfl, by omega, by omega, rfl, by omega, by omega, ?_, ?_⟩
  · have h1 : 0 ≤ (z.tmod (N : Int) + (N : Int)).tmod (N : Int) := Int.tmod_nonneg _ (by omega)
    omega
  · have h2 : (z.tmod (N : Int) + (N : Int)).tmod (N : Int) < (N : Int) := Int.tmod_lt_of_pos _ (by omega)
    omega

theorem deck_set {w : World} {p : Nat} {a : Option Addr} {cap : Nat} {zs : List Int} {k : Nat} (h : DeckAt w p a cap zs k) (hk : k < 30000) : DeckAt (w.setCell ⟨p, 1, none⟩ (.int .i64 ((k : Int) + 1))) p a cap zs (k + 1) := by
  obtain ⟨h1, h2, h3, _, h4⟩ := h
  refine ⟨?_, h2.below ((Below.refl p w).setCell (p := ⟨p, 1, none⟩) (Nat.le_refl _) _) h3, h3, by omega, h4⟩
  simp [World.setCell, Array.getElem?_modify, h1]
set_option maxRecDepth 100000 in
set_option maxHeartbeats 1000000 in
theorem next_more (p : Nat) (a : Option Addr) (cap : Nat) (zs : List Int) (k : Nat) (N : Nat) (w : World) (h : DeckAt w p a cap zs k) (hk : k < zs.length) (hk2 : k < 30000) (hN : 0 < N) (hN2 : N ≤ 1099511627776) :
    Calls Tryd.prog 13 #[.pointer (some ⟨p, 0, none⟩), .int .i64 (N : Int)] w fun e w' => (∃ r : Nat, r < N ∧ e = .returned (.int .i64 (r : Int))) ∧ DeckAt w' p a cap zs (k + 1) ∧ But p w w' := by
  have HD := Lib.hid h
  obtain ⟨h1, h2, h3, _, h4⟩ := h
  obtain ⟨b, o, ha, hc⟩ := h2.at k hk
  have hbp := h3 _ ha (fun e => by rw [e] at hk; exact absurd hk (Nat.not_lt_zero _))
  subst ha
  generalize zs.getD k 0 = z at hc
  obtain ⟨x, y, r, e1, x1, x2, e2, y1, y2, e3, hr⟩ := next_num z N hN hN2
  obtain ⟨n, hn⟩ : ∃ n, n = zs.length := ⟨_, rfl⟩
  rw [← hn] at h1 hk h4
  have c0 : w.cell? ⟨p, 0, none⟩ = some (.slice (some ⟨b, o, none⟩) n cap) := by rw [Lib.cell_of_heap h1]; rfl
  have c1 : w.cell? ⟨p, 1, none⟩ = some (.int .i64 (k : Int)) := by rw [Lib.cell_of_heap h1]; rfl
  have f1 : w.frozen? ⟨p, 1, none⟩ = false := Lib.frozen_of_heap h1 1
  have hne : b ≠ p := by simp at hbp; omega
  have d0 : decide ((n : Int) ≤ (k : Int)) = false := by simp; omega
  have HR := Lib.hid hr
  clear h1 hn h2 h3 hr hbp
  go_enter Tryd.func13, Tryd.ntmps13
  go_wp2_with fail
  go_region
  go_wp2_with fail
  go_region
  go_wp2_with fail
  go_ret
  exact ⟨⟨r, HR.out, rfl⟩, deck_set HD.out hk2, (But.set p 1 w _).drew.drew⟩

theorem next_any (p : Nat) (a : Option Addr) (cap : Nat) (zs : List Int) (k : Nat) (N : Nat) (w : World) (h : DeckAt w p a cap zs k) (hk2 : k < 30000) (hN : 0 < N) (hN2 : N ≤ 1099511627776) :
    Calls Tryd.prog 13 #[.pointer (some ⟨p, 0, none⟩), .int .i64 (N : Int)] w fun e w' => ∃ r k' : Nat, r < N ∧ e = .returned (.int .i64 (r : Int)) ∧ DeckAt w' p a cap zs k' ∧ k' ≤ k + 1 ∧ But p w w' := by
  by_cases hk : k < zs.length
  · exact (next_more p a cap zs k N w h hk hk2 hN hN2).mono fun e w' hh => by
      obtain ⟨⟨r, hr, he⟩, h1, h2⟩ := hh
      exact ⟨r, k + 1, hr, he, h1, Nat.le_refl _, h2⟩
  · exact (next_end p a cap zs k N w h (by omega)).mono fun e w' hh => ⟨0, k, hN, by rw [hh.1]; rfl, hh.2.1, by omega, hh.2.2⟩

set_option maxRecDepth 100000 in
theorem new_any (a : Option Addr) (cap : Nat) (zs : List Int) (w : World) (hl : ILies w a zs) (hz : zs.length ≤ 9223372036854775807) :
    Calls Tryd.prog 11 #[.slice a zs.length cap] w fun e w' => e = .returned (.pointer (some ⟨w.heap.size, 0, none⟩)) ∧ DeckAt w' w.heap.size a cap zs 0 ∧ Below w.heap.size w w' := by
  have ha : ∀ x, a = some x → zs ≠ [] → x.block < w.heap.size := by
    intro x hx hne
    rcases hl with h | ⟨b, o, h1, h2⟩
    · exact absurd h hne
    · obtain rfl := Option.some.inj (hx.symm.trans h1)
      exact block_lt_of_cell (h2 0 (List.length_pos_iff.2 hne))
  have HL := Lib.hid hl
  obtain ⟨n, hn⟩ : ∃ n, n = zs.length := ⟨_, rfl⟩
  have HN := Lib.hid hn
  rw [← hn]
  clear hl hn
  go_enter Tryd.func11, Tryd.ntmps11
  go_wp2_with fail
  go_ret
  have hb : Below w.heap.size w (w.alloc (.cells #[.slice a n cap, .int .i64 0] 69)) := (Below.refl _ _).alloc (Nat.le_refl _) _
  refine ⟨rfl, ⟨?_, HL.out.below hb ha, ha, by omega, hz⟩, hb⟩
  rw [← HN.out]
  exact heap_alloc_new w _
theorem DeckAt.lt {w : World} {p : Nat} {a : Option Addr} {cap : Nat} {zs : List Int} {k : Nat} (h : DeckAt w p a cap zs k) : p < w.heap.size := (Array.getElem?_eq_some_iff.1 h.1).1
/-- A call that leaves all old memory alone leaves the deck alone. -/
theorem DeckAt.below {w w' : World} {p : Nat} {a : Option Addr} {cap : Nat} {zs : List Int} {k : Nat} (h : DeckAt w p a cap zs k) (hb : Below w.heap.size w w') : DeckAt w' p a cap zs k := by
  have hp := h.lt
  obtain ⟨h1, h2, h3, h5, h4⟩ := h
  exact ⟨(hb.block p hp).trans h1, h2.below (hb.mono (Nat.le_of_lt hp)) h3, h3, h5, h4⟩
/-- Growth of a row of a block behind the deck's leaves the deck alone. -/
theorem DeckAt.grown {w w' : World} {p : Nat} {a : Option Addr} {cap : Nat} {zs : List Int} {k : Nat} {row : Option Nat} (h : DeckAt w p a cap zs k) (hg : w.grownBy w' row) (hr : ∀ j, row = some j → p < j) : DeckAt w' p a cap zs k := by
  have hp := h.lt
  obtain ⟨h1, h2, h3, h5, h4⟩ := h
  have hb : Below p w w' := ⟨hg.os, hg.tape, hg.output, hg.size, fun j hj => hg.block j (by omega) (fun e => by have := hr j e.symm; omega)⟩
  exact ⟨(hg.block p hp (fun e => by have := hr p e.symm; omega)).trans h1, h2.below hb h3, h3, h5, h4⟩
end Go.Proofs.YtphgpakfdhdklaaDoor
