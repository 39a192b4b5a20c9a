/-
  The contract of the reference's Verify.
  What is wanted of the program's trees, as propositions; and the contract of the law package's sanity check over them.
  The walk of the law MerkleGenerate, over what is wanted of the program.
  The contracts of the program's numbers as bytes, of its keys and of the first value, the steps and the public key of a key.
  The contracts of the program's numbers as bytes, of what follows from a public key, and of its checks of a key and of a signature's leaf.
  The contracts of the program's digest of a message, of its node over two nodes and of the way up from a leaf.
-/
import Derived.Test.YtnmcocolahgfnaaDoorAag
import Derived.Test.YtnmcocolahgfnaaDoorAaf
import Derived.Deep.RegionHeld3
import Derived.Deep.RegionLaw
import Derived.Test.YtnmcocolahgfnaaDoorAae
import Derived.Test.YtnmcocolahgfnaaDoorAad
namespace Go.Proofs.YtnmcocolahgfnaaDoor
open Go.RowKit

theorem leafV_some (s : ByteArray) : ∃ (l : Nat) (b : Bool), leafV s = .tuple #[.int .i64 (l : Int), .bool b] := by
  unfold leafV
  split
  · exact ⟨0, false, rfl⟩
  · exact ⟨_, true, rfl⟩
theorem leafV_long {s : ByteArray} (h : 4 ≤ s.size) : leafV s = .tuple #[.int .i64 ((leafS s : Nat) : Int), .bool true] := by
  unfold leafV
  rw [if_neg (by omega)]
theorem keyE_zero {h : Int} {id root : ByteArray} (e : keyE h id root = 0) : ∃ n : Nat, h = (n : Int) ∧ n ≤ 8 ∧ id.size = 16 ∧ root.size = 16 := by
  unfold keyE at e
  split at e
  · rename_i h1
    exact ⟨h.toNat, by omega, by omega, h1.2.2.1, h1.2.2.2⟩
  · cases e
theorem up_zero (id root m s : ByteArray) : upS id root m s 0 = recS id (leafS s) (digs (dgM id root (leafS s) m).data.toList) (s.extract 4 564) := rfl
theorem up_next (id root m s : ByteArray) (l : Nat) : upS id root m s (l + 1) = if leafS s / 2 ^ l % 2 = 1 then joinQ hQ id.data.toList l (leafS s / 2 ^ l / 2) (sibP s l) (upS id root m s l) else joinQ hQ id.data.toList l (leafS s / 2 ^ l / 2) (upS id root m s l) (sibP s l) := rfl
theorem up_size (id root m s : ByteArray) : ∀ l, (upS id root m s l).size = 16
  | 0 => shortStr_size _
  | l + 1 => by
    rw [up_next]
    split <;> exact joinQ_size _ _ _ _ _

set_option maxRecDepth 100000 in
set_option maxHeartbeats 1000000 in
theorem rver_bad (h : Int) (id root m s : ByteArray) (hk : keyE h id root ≠ 0) (w : World) :
    Calls Tryd.prog 26 #[keyV h id root, .string m, .string s] w fun e w' => e = .returned (.int .i64 18) ∧ Below w.heap.size w w' := by
  have h18 : keyE h id root = 18 := by
    unfold keyE at hk ⊢
    split at hk
    · exact absurd rfl hk
    · rename_i h1
      rw [if_neg h1]
  have HC : Hid (∀ W : World, Calls Tryd.prog 19 #[.agg #[.int .i64 h, .string id, .string root]] W fun e w' => e = .returned (.int .i64 18) ∧ Below W.heap.size W w') := Lib.hid fun W => by
    have := rckey_any h id root W
    rw [h18] at this
    exact this
  unfold keyV
  clear hk h18
  go_enter Tryd.func26, Tryd.ntmps26
  go_wp2_with (go_at_call 19; (with_reducible refine (HC.out _).mono ?_); rintro e w1 ⟨rfl, hb1⟩; have HB1 := Lib.hid ((belowNew w _).next hb1); clear hb1)
  go_ret
  exact ⟨rfl, HB1.out⟩

set_option maxRecDepth 100000 in
set_option maxHeartbeats 1000000 in
theorem rver_len (h : Nat) (id root m s : ByteArray) (hk : keyE (h : Int) id root = 0) (hz : s.size ≠ 564 + h * 16) (_ : s.size ≤ 1000000000) (w : World) :
    Calls Tryd.prog 26 #[keyV (h : Int) id root, .string m, .string s] w fun e w' => e = .returned (.int .i64 17) ∧ Below w.heap.size w w' := by
  have HC : Hid (∀ W : World, Calls Tryd.prog 19 #[.agg #[.int .i64 (h : Int), .string id, .string root]] W fun e w' => e = .returned (.int .i64 0) ∧ Below W.heap.size W w') := Lib.hid fun W => by
    have := rckey_any (h : Int) id root W
    rw [hk] at this
    exact this
  obtain ⟨n, hn, hn8, _, _⟩ := keyE_zero hk
  have hh : h ≤ 8 := by omega
  obtain ⟨lf, ok, hlv⟩ := leafV_some s
  have HL : Hid (∀ W : World, Calls Tryd.prog 27 #[.string s] W fun e w' => e = .returned (.tuple #[.int .i64 (lf : Int), .bool ok]) ∧ Below W.heap.size W w') := Lib.hid fun W => by
    have := rleaf_any s W
    rw [hlv] at this
    exact this
  obtain ⟨k, hk2⟩ : ∃ k, k = s.size := ⟨_, rfl⟩
  have hki : (s.size : Int) = (k : Int) := by rw [hk2]
  obtain ⟨t, ht⟩ : ∃ t, t = 564 + h * 16 := ⟨_, rfl⟩
  have hti : (564 : Int) + (h : Int) * 16 = (t : Int) := by omega
  have hkt : ¬ k = t := by omega
  have dkt : ((k : Int) == (t : Int)) = false := by simp; omega
  unfold keyV
  clear hk hn hn8 hlv hk2 ht hz
  go_enter Tryd.func26, Tryd.ntmps26
  go_wp2_with (first
    | (go_at_call 19; (with_reducible refine (HC.out _).mono ?_); rintro e w1 ⟨rfl, hb1⟩; have HB1 := Lib.hid ((belowNew w _).next hb1); obtain ⟨k0, k1, k2, hgl⟩ := tcell ((hb1.block w.heap.size (by simp)).trans (heap_alloc_new w _)); have HGL := Lib.hid hgl; clear hb1)
    | (go_at_call 27; (with_reducible refine (HL.out _).mono ?_); rintro e w2 ⟨rfl, hb2⟩; have HB2 := Lib.hid (HB1.out.next hb2); have j0 := (hb2.cell (p := ⟨w.heap.size, 0, none⟩) HGL.out).trans k0; clear hb2))
  go_ret
  exact ⟨rfl, HB2.out⟩
theorem beq_strm (x y : ByteArray) : (x.toList == y.toList) = decide (x = y) := by
  rw [Bool.eq_iff_iff, beq_iff_eq, decide_eq_true_iff, Lib.toList_data, Lib.toList_data]
  exact ⟨fun h => list_inj h, fun h => by rw [h]⟩
theorem wrap_pow {h N : Nat} (hh : h ≤ 8) (hN : N = 2 ^ h) : wrap64 (2 ^ h) = (N : Int) := by
  rw [hN]
  have : ((2 : Int) ^ h) = ((2 ^ h : Nat) : Int) := by norm_cast
  rw [this]
  have h1 := (pow_small hh).1
  generalize 2 ^ h = m at h1
  unfold wrap64
  omega

set_option maxRecDepth 100000 in
set_option maxHeartbeats 1000000 in
theorem rver_leaf (h : Nat) (id root m s : ByteArray) (hk : keyE (h : Int) id root = 0) (hz : s.size = 564 + h * 16) (hl : 2 ^ h ≤ leafS s) (w : World) :
    Calls Tryd.prog 26 #[keyV (h : Int) id root, .string m, .string s] w fun e w' => e = .returned (.int .i64 17) ∧ Below w.heap.size w w' := by
  have HC : Hid (∀ W : World, Calls Tryd.prog 19 #[.agg #[.int .i64 (h : Int), .string id, .string root]] W fun e w' => e = .returned (.int .i64 0) ∧ Below W.heap.size W w') := Lib.hid fun W => by
    have := rckey_any (h : Int) id root W
    rw [hk] at this
    exact this
  obtain ⟨n, hn, hn8, _, _⟩ := keyE_zero hk
  have hh : h ≤ 8 := by omega
  obtain ⟨lf, hlf⟩ : ∃ lf, lf = leafS s := ⟨_, rfl⟩
  have HL : Hid (∀ W : World, Calls Tryd.prog 27 #[.string s] W fun e w' => e = .returned (.tuple #[.int .i64 (lf : Int), .bool true]) ∧ Below W.heap.size W w') := Lib.hid fun W => by
    have := rleaf_any s W
    rw [leafV_long (by omega), ← hlf] at this
    exact this
  obtain ⟨N, hN⟩ : ∃ N, N = 2 ^ h := ⟨_, rfl⟩
  rw [← hN, ← hlf] at hl
  have hsh := wrap_pow hh hN
  have hlt : lf < 4294967296 := by rw [hlf]; exact leafS_lt s
  obtain ⟨t, ht⟩ : ∃ t, t = 564 + h * 16 := ⟨_, rfl⟩
  have hki : (s.size : Int) = (t : Int) := by omega
  have hti : (564 : Int) + (h : Int) * 16 = (t : Int) := by omega
  have dl : decide ((N : Int) ≤ (lf : Int)) = true := by simp; omega
  unfold keyV
  clear hk hn hn8 hlf ht hz hN
  go_enter Tryd.func26, Tryd.ntmps26
  go_wp2_with (first
    | (go_at_call 19; (with_reducible refine (HC.out _).mono ?_); rintro e w1 ⟨rfl, hb1⟩; have HB1 := Lib.hid ((belowNew w _).next hb1); obtain ⟨k0, k1, k2, hgl⟩ := tcell ((hb1.block w.heap.size (by simp)).trans (heap_alloc_new w _)); have HGL := Lib.hid hgl; clear hb1)
    | (go_at_call 27; (with_reducible refine (HL.out _).mono ?_); rintro e w2 ⟨rfl, hb2⟩; have HB2 := Lib.hid (HB1.out.next hb2); have j0 := (hb2.cell (p := ⟨w.heap.size, 0, none⟩) HGL.out).trans k0; clear hb2))
  go_ret
  exact ⟨rfl, HB2.out⟩

set_option maxRecDepth 100000 in
set_option maxHeartbeats 4000000 in
theorem rver_main (h : Nat) (id root m s : ByteArray) (hk : keyE (h : Int) id root = 0) (hz : s.size = 564 + h * 16) (hl : leafS s < 2 ^ h) (hm : m.size ≤ 1000000000) (w : World) :
    Calls Tryd.prog 26 #[keyV (h : Int) id root, .string m, .string s] w fun e w' => e = .returned (.int .i64 (if upS id root m s h = root then 0 else 17)) ∧ Below w.heap.size w w' := by
  have HC : Hid (∀ W : World, Calls Tryd.prog 19 #[.agg #[.int .i64 (h : Int), .string id, .string root]] W fun e w' => e = .returned (.int .i64 0) ∧ Below W.heap.size W w') := Lib.hid fun W => by
    have := rckey_any (h : Int) id root W
    rw [hk] at this
    exact this
  obtain ⟨n, hn, hn8, hids, hroots⟩ := keyE_zero hk
  have hh : h ≤ 8 := by omega
  have hp := pow_small hh
  obtain ⟨lf, hlf⟩ : ∃ lf, lf = leafS s := ⟨_, rfl⟩
  have HL : Hid (∀ W : World, Calls Tryd.prog 27 #[.string s] W fun e w' => e = .returned (.tuple #[.int .i64 (lf : Int), .bool true]) ∧ Below W.heap.size W w') := Lib.hid fun W => by
    have := rleaf_any s W
    rw [leafV_long (by omega), ← hlf] at this
    exact this
  obtain ⟨N, hN⟩ : ∃ N, N = 2 ^ h := ⟨_, rfl⟩
  rw [← hN] at hp
  rw [← hN, ← hlf] at hl
  have HSHL := Lib.hid (wrap_pow hh hN)
  have hlf8 : lf < 256 := by omega
  obtain ⟨t, ht⟩ : ∃ t, t = 564 + h * 16 := ⟨_, rfl⟩
  have hki : (s.size : Int) = (t : Int) := by omega
  have hti : (564 : Int) + (h : Int) * 16 = (t : Int) := by omega
  have dln : ¬ N ≤ lf := Nat.not_le.2 hl
  have ht5 : (564 : Int) ≤ (t : Int) := by omega
  have dl : decide ((N : Int) ≤ (lf : Int)) = false := by simp; omega
  have DL := Lib.hid dl
  clear dl
  obtain ⟨dg, hdg⟩ : ∃ dg, dg = dgM id root lf m := ⟨_, rfl⟩
  have HDG : Hid (∀ (V : Value) (W : World), Reads_z W V [⟨#[77]⟩, id, root, strOf (b4 lf), m] → Calls Tryd.prog 38 #[V] W fun e w' => e = .returned (.string dg) ∧ Below W.heap.size W w') := Lib.hid fun V W hV => by
    rw [hdg]
    exact refshort_any V _ W hV (show (5 : Nat) < 4611686018427387904 by decide) (dgM_room (by omega) (by omega) hm lf)
  obtain ⟨x, hx⟩ : ∃ x, x = s.extract 4 564 := ⟨_, rfl⟩
  have hxs : x.size = 560 := by rw [hx, ByteArray.size_extract]; omega
  obtain ⟨v0, hv0⟩ : ∃ v0, v0 = upS id root m s 0 := ⟨_, rfl⟩
  have HRC : Hid (∀ W : World, Calls Tryd.prog 47 #[.string id, .int .i64 (lf : Int), .string dg, .string x] W fun e w' => e = .returned (.tuple #[.string v0, .int .i64 0]) ∧ Below W.heap.size W w') := Lib.hid fun W => by
    have h1 := rrec_any id dg x (lf : Int) W
    have h2 : recE id (lf : Int) dg x = 0 := by
      unfold recE
      rw [if_pos hids, if_pos (by omega), if_pos (by rw [hdg]; exact dgM_size _ _ _ _), if_pos hxs]
    unfold recV at h1
    rw [if_pos h2] at h1
    have h3 : recS id (lf : Int).toNat (digs dg.data.toList) x = v0 := by rw [Int.toNat_natCast, hv0, up_zero, hdg, hx, hlf]
    rw [h3] at h1
    exact h1
  have hex : s.extract 4 564 = x := hx.symm
  obtain ⟨E, hE⟩ : ∃ E : Int, E = (if upS id root m s h = root then 0 else 17) := ⟨_, rfl⟩
  rw [← hE]
  have HE := Lib.hid hE
  clear hE
  have dl := DL.out
  have hsh := HSHL.out
  have HV0 := Lib.hid hv0
  have HLF := Lib.hid hlf
  have HZ := Lib.hid hz
  have HT := Lib.hid ht
  unfold keyV
  clear hk hn hn8 ht hz hN hdg hx hv0 hxs hm hlf
  go_enter Tryd.func26, Tryd.ntmps26
  go_wp2_with (first
    | (go_at_call 19; (with_reducible refine (HC.out _).mono ?_); rintro e w1 ⟨rfl, hb1⟩; have HB1 := Lib.hid ((belowNew w _).next hb1); have HQ1 := Lib.hid ((hb1.block w.heap.size (by simp)).trans (heap_alloc_new w _)); obtain ⟨k0, k1, k2, hgl⟩ := tcell HQ1.out; have HGL := Lib.hid hgl; clear hb1 hgl)
    | (go_at_call 27; (with_reducible refine (HL.out _).mono ?_); rintro e w2 ⟨rfl, hb2⟩; have HB2 := Lib.hid (HB1.out.next hb2); have HQ2 := Lib.hid ((hb2.block w.heap.size HGL.out).trans HQ1.out); have j0 := (hb2.cell (p := ⟨w.heap.size, 0, none⟩) HGL.out).trans k0; have j1 := (hb2.cell (p := ⟨w.heap.size, 1, none⟩) HGL.out).trans k1; have j2 := (hb2.cell (p := ⟨w.heap.size, 2, none⟩) HGL.out).trans k2; have HGL2 := Lib.hid (Nat.lt_of_lt_of_le HGL.out hb2.size); clear hb2))
  obtain ⟨g, hg⟩ : ∃ g, g = w.heap.size := ⟨_, rfl⟩
  have HQ2' : Hid (w2.heap[g]? = some (.cells #[.int .i64 (h : Int), .string id, .string root] 29 (0, 0))) := Lib.hid (by rw [hg]; exact HQ2.out)
  have HGL3 : Hid (g < w2.heap.size) := Lib.hid (by rw [hg]; exact HGL2.out)
  rw [← hg] at j0 j1 j2 ⊢
  have HG := Lib.hid hg
  clear k0 k1 k2 HQ1 HQ2 hg HGL2
  have HLF4 := Lib.hid (show lf < 4294967296 by omega)
  go_region_held3 (fun w' => w'.cell? ⟨g, 1, none⟩ = some (.string id) ∧ w'.cell? ⟨g, 2, none⟩ = some (.string root)) (first | with_reducible exact ⟨by assumption, by assumption⟩ | go_keep)
    (first
      | (go_at_call 35; (with_reducible refine (rb4_any lf HLF4.out _).mono ?_); rintro e w4 ⟨rfl, hb4⟩; have hx : Below w2.heap.size w2 w4 := (by first | exact hb4 | exact (Below.refl _ _).drew.trans hb4); have s1 := (hx.cell (p := ⟨g, 1, none⟩) HGL3.out).trans j1; have s2 := (hx.cell (p := ⟨g, 2, none⟩) HGL3.out).trans j2; have HB4 := Lib.hid hx; clear hb4 hx)
      | (go_at_call 38; refine (HDG.out _ _ (reads_row _ [⟨#[77]⟩, id, root, strOf (b4 lf), m] 9)).mono ?_; rintro e w5 ⟨rfl, hb5⟩; have hx : Below w2.heap.size w2 w5 := (HB4.out.next (belowNew _ _)).next hb5; have s3 := (hx.cell (p := ⟨g, 1, none⟩) HGL3.out).trans j1; have s4 := (hx.cell (p := ⟨g, 2, none⟩) HGL3.out).trans j2; have HB5 := Lib.hid hx; clear hb5 hx)
      | (go_at_call 47; (with_reducible refine (HRC.out _).mono ?_); rintro e w6 ⟨rfl, hb6⟩; have hx : Below w2.heap.size w2 w6 := HB5.out.next hb6; have s5 := (hx.cell (p := ⟨g, 1, none⟩) HGL3.out).trans j1; have s6 := (hx.cell (p := ⟨g, 2, none⟩) HGL3.out).trans j2; have HB6 := Lib.hid hx; clear hb6 hx))
  clear s1 s2 s3 s4 s5 s6 hex hsh dl dln j0 j1 j2 ht5 hti
  go_wp2_with fail
  go_loopw [11, 13] (fun v i wr => ∃ l : Nat, l ≤ h ∧ i = .int .i64 (l : Int) ∧ v = .string (upS id root m s l) ∧ Below w2.heap.size w2 wr) (fun _ i _ => h - (intOf i).toNat)
  case atStart => exact ⟨0, Nat.zero_le _, rfl, by rw [← HV0.out], HB6.out⟩
  case round =>
    obtain ⟨l, hlh, rfl, rfl, hb⟩ := hrel
    have HBR := Lib.hid hb
    obtain ⟨n0, n1, n2, hgl⟩ := tcell ((hb.block g HGL3.out).trans HQ2'.out)
    have HGR := Lib.hid hgl
    clear hb hgl
    by_cases hlt : l < h
    · have hd : decide ((l : Int) < (h : Int)) = true := by simp; omega
      have HLT := Lib.hid hlt
      have HLB := Lib.hid (show l < 256 by omega)
      obtain ⟨u, hu⟩ : ∃ u, u = upS id root m s l := ⟨_, rfl⟩
      have hus : u.size ≤ 1000 := by rw [hu, up_size]; omega
      obtain ⟨sb, hsb⟩ : ∃ sb, sb = sibP s l := ⟨_, rfl⟩
      have hsbs : sb.size ≤ 1000 := by rw [hsb]; unfold sibP; rw [ByteArray.size_extract]; omega
      obtain ⟨lo, hlo⟩ : ∃ lo, lo = 564 + l * 16 := ⟨_, rfl⟩
      obtain ⟨l1, hl1⟩ : ∃ l1, l1 = l + 1 := ⟨_, rfl⟩
      obtain ⟨up, hup⟩ : ∃ up, up = 564 + l1 * 16 := ⟨_, rfl⟩
      have a1 : (564 : Int) + (l : Int) * 16 = (lo : Int) := by omega
      have a2 : (l : Int) + 1 = (l1 : Int) := by omega
      have a3 : (564 : Int) + (l1 : Int) * 16 = (up : Int) := by omega
      have a4 : (lo : Int) ≤ (up : Int) := by omega
      have a5 : (up : Int) ≤ (t : Int) := by have := HT.out; omega
      have hex2 : s.extract lo up = sb := by rw [hsb, hlo, hup, hl1]; rfl
      obtain ⟨q, hq⟩ : ∃ q, q = lf / 2 ^ l := ⟨_, rfl⟩
      have hql : q ≤ lf := by rw [hq]; exact Nat.div_le_self _ _
      have hqi : (lf : Int) / 2 ^ l = (q : Int) := by
        rw [hq, show ((2 : Int) ^ l) = ((2 ^ l : Nat) : Int) by norm_cast]
        rfl
      obtain ⟨r, hr⟩ : ∃ r, r = q % 2 := ⟨_, rfl⟩
      have hri : (q : Int) % 2 = (r : Int) := by omega
      obtain ⟨q2, hq2⟩ : ∃ q2, q2 = q / 2 := ⟨_, rfl⟩
      have hq2i : (q : Int) / 2 = (q2 : Int) := by omega
      have hq2t : (q : Int).tdiv 2 = (q2 : Int) := by rw [Int.tdiv_eq_ediv_of_nonneg (by omega)]; exact hq2i
      have hq2w : IntKind.i64.wrap (q2 : Int) = (q2 : Int) := by rw [wrap_i64]; omega
      have HQ24 := Lib.hid (show q2 < 4294967296 by omega)
      obtain ⟨z, hz2⟩ : ∃ z, z = upS id root m s (l + 1) := ⟨_, rfl⟩
      have HZ2 := Lib.hid hz2
      rw [← hu]
      by_cases hodd : r = 1
      · have hzz : joinQ hQ id.data.toList l q2 sb u = z := by rw [hz2, up_next, ← HLF.out, ← hq, ← hr, if_pos hodd, hq2, hsb, hu]
        have HJ : Hid (∀ (V : Value) (W : World), Reads_z W V [⟨#[78]⟩, id, strOf (b1 l), strOf (b4 q2), sb, u] → Calls Tryd.prog 38 #[V] W fun e w' => e = .returned (.string z) ∧ Below W.heap.size W w') := Lib.hid fun V W hV => by
          rw [← hzz]
          exact rjoin_any id sb u l q2 (by omega) hsbs hus V W hV
        have hrb : ((r : Int) == 1) = true := by rw [hodd]; rfl
        subst hodd
        clear hzz hz2 hq2 hq hr hup hl1 hlo hsb hu hsbs hus hql
        go_wp2_with fail
        go_region_held3 (fun w' => w'.cell? ⟨g, 1, none⟩ = some (.string id)) (first | with_reducible assumption | go_keep)
          (first
            | (go_at_call 40; (with_reducible refine (rb1_any l HLB.out _).mono ?_); rintro e w7 ⟨rfl, hb7⟩; have hx : Below wr.heap.size wr w7 := (by first | exact hb7 | exact (Below.refl _ _).drew.trans hb7); have s1 := (hx.cell (p := ⟨g, 1, none⟩) HGR.out).trans n1; have HB7 := Lib.hid hx; clear hb7 hx)
            | (go_at_call 35; (with_reducible refine (rb4_any q2 HQ24.out _).mono ?_); rintro e w8 ⟨rfl, hb8⟩; have hx : Below wr.heap.size wr w8 := (by first | exact HB7.out.next hb8 | exact HB7.out.drew.next hb8); have s2 := (hx.cell (p := ⟨g, 1, none⟩) HGR.out).trans n1; have HB8 := Lib.hid hx; clear hb8 hx)
            | (go_at_call 38; refine (HJ.out _ _ (reads_row _ [⟨#[78]⟩, id, strOf (b1 l), strOf (b4 q2), sb, u] 9)).mono ?_; rintro e w9 ⟨rfl, hb9⟩; have hx : Below wr.heap.size wr w9 := (HB8.out.next (belowNew _ _)).next hb9; have s3 := (hx.cell (p := ⟨g, 1, none⟩) HGR.out).trans n1; have HB9 := Lib.hid hx; clear hb9 hx))
        go_wp2_with fail
        go_roundw
        case rel => exact ⟨l + 1, HLT.out, by go_num, by rw [HZ2.out], HBR.out.next HB9.out⟩
        case measure => have := HLT.out; simp [intOf]; omega
      · have hzz : joinQ hQ id.data.toList l q2 u sb = z := by rw [hz2, up_next, ← HLF.out, ← hq, ← hr, if_neg hodd, hq2, hsb, hu]
        have HJ : Hid (∀ (V : Value) (W : World), Reads_z W V [⟨#[78]⟩, id, strOf (b1 l), strOf (b4 q2), u, sb] → Calls Tryd.prog 38 #[V] W fun e w' => e = .returned (.string z) ∧ Below W.heap.size W w') := Lib.hid fun V W hV => by
          rw [← hzz]
          exact rjoin_any id u sb l q2 (by omega) hus hsbs V W hV
        obtain rfl : r = 0 := by omega
        clear hzz hz2 hq2 hq hr hup hl1 hlo hsb hu hsbs hus hql hodd
        go_wp2_with fail
        go_region_held3 (fun w' => w'.cell? ⟨g, 1, none⟩ = some (.string id)) (first | with_reducible assumption | go_keep)
          (first
            | (go_at_call 40; (with_reducible refine (rb1_any l HLB.out _).mono ?_); rintro e w7 ⟨rfl, hb7⟩; have hx : Below wr.heap.size wr w7 := (by first | exact hb7 | exact (Below.refl _ _).drew.trans hb7); have s1 := (hx.cell (p := ⟨g, 1, none⟩) HGR.out).trans n1; have HB7 := Lib.hid hx; clear hb7 hx)
            | (go_at_call 35; (with_reducible refine (rb4_any q2 HQ24.out _).mono ?_); rintro e w8 ⟨rfl, hb8⟩; have hx : Below wr.heap.size wr w8 := (by first | exact HB7.out.next hb8 | exact HB7.out.drew.next hb8); have s2 := (hx.cell (p := ⟨g, 1, none⟩) HGR.out).trans n1; have HB8 := Lib.hid hx; clear hb8 hx)
            | (go_at_call 38; refine (HJ.out _ _ (reads_row _ [⟨#[78]⟩, id, strOf (b1 l), strOf (b4 q2), u, sb] 9)).mono ?_; rintro e w9 ⟨rfl, hb9⟩; have hx : Below wr.heap.size wr w9 := (HB8.out.next (belowNew _ _)).next hb9; have s3 := (hx.cell (p := ⟨g, 1, none⟩) HGR.out).trans n1; have HB9 := Lib.hid hx; clear hb9 hx))
        go_wp2_with fail
        go_roundw
        case rel => exact ⟨l + 1, HLT.out, by go_num, by rw [HZ2.out], HBR.out.next HB9.out⟩
        case measure => have := HLT.out; simp [intOf]; omega
    · have hlh' : l = h := by omega
      subst hlh'
      have hd : decide ((l : Int) < (l : Int)) = false := by simp
      obtain ⟨u, hu⟩ : ∃ u, u = upS id root m s l := ⟨_, rfl⟩
      rw [← hu]
      by_cases hur : u = root
      · have e : E = 0 := by rw [HE.out, if_pos (by rw [← hu]; exact hur)]
        subst e
        have hbe : (u.toList == root.toList) = true := by rw [beq_strm, decide_eq_true_iff]; exact hur
        have hbn : u.toList = root.toList := by rw [hur]
        clear hur hu HE
        go_wp2_with fail
        go_ret
        exact ⟨rfl, HB2.out.next HBR.out⟩
      · have e : E = 17 := by rw [HE.out, if_neg (by rw [← hu]; exact hur)]
        subst e
        have hbe : (u.toList == root.toList) = false := by rw [beq_strm, decide_eq_false_iff_not]; exact hur
        have hbn : ¬ u.toList = root.toList := by intro h1; rw [h1] at hbe; simp at hbe
        clear hur hu HE
        go_wp2_with fail
        go_ret
        exact ⟨rfl, HB2.out.next HBR.out⟩
theorem rver_any (h : Int) (id root m s : ByteArray) (hm : m.size ≤ 1000000000) (hs : s.size ≤ 1000000000) (w : World) :
    Calls Tryd.prog 26 #[keyV h id root, .string m, .string s] w fun e w' => e = .returned (.int .i64 ((verE h id root m s : Nat) : Int)) ∧ Below w.heap.size w w' := by
  unfold verE
  by_cases hk : keyE h id root = 0
  · rw [if_pos hk]
    obtain ⟨n, rfl, hn8, _, _⟩ := keyE_zero hk
    rw [Int.toNat_natCast]
    by_cases hz : s.size = 564 + n * 16
    · by_cases hl : leafS s < 2 ^ n
      · refine (rver_main n id root m s hk hz hl hm w).mono fun e w' ⟨he, hb⟩ => ⟨?_, hb⟩
        rw [he]
        by_cases hu : upS id root m s n = root
        · rw [if_pos hu, if_pos ⟨hz, hl, hu⟩]; rfl
        · rw [if_neg hu, if_neg (fun h1 => hu h1.2.2)]; rfl
      · rw [if_neg (fun h1 => hl h1.2.1)]
        exact rver_leaf n id root m s hk hz (Nat.not_lt.1 hl) w
    · rw [if_neg (fun h1 => hz h1.1)]
      exact rver_len n id root m s hk hz hs w
  · rw [if_neg hk]
    exact rver_bad h id root m s hk w
end Go.Proofs.YtnmcocolahgfnaaDoor
namespace Go.Proofs.YtnmcocolahgfnaaDoor
open Go.RowKit

/-- What Sign returns for a tree that there is. -/
def signV (seed : ByteArray) (h : Nat) (leaf : Int) (m : ByteArray) : Value := if 0 ≤ leaf ∧ leaf < ((2 ^ h : Nat) : Int) then someV (sigT seed h leaf.toNat m) else noneV 1
theorem signV_ok (seed : ByteArray) (h leaf : Nat) (m : ByteArray) (hl : leaf < 2 ^ h) : signV seed h (leaf : Int) m = someV (sigT seed h leaf m) := by
  unfold signV
  rw [if_pos ⟨by omega, by omega⟩, Int.toNat_natCast]
/-- TA says of a world and a block that the tree of a seed with a height lies there. -/
def TreeP := World → Nat → ByteArray → Nat → Prop
structure Trees (TA : TreeP) : Prop where
  keep : ∀ (W W' : World) (p : Nat) (seed : ByteArray) (h : Nat), TA W p seed h → Below W.heap.size W W' → TA W' p seed h
  gen : ∀ (seed : ByteArray) (h : Nat) (w : World), seed.size = 32 → h ≤ 8 → Holds w 0 kWords → Calls Tryd.prog 9 #[.string seed, .int .i64 (h : Int)] w fun e w' => (∃ p, e = .returned (.tuple #[.pointer (some ⟨p, 0, none⟩), .int .i64 0]) ∧ TA w' p seed h) ∧ Below w.heap.size w w'
  key : ∀ (p : Nat) (seed : ByteArray) (h : Nat) (w : World), TA w p seed h → Calls Tryd.prog 12 #[.pointer (some ⟨p, 0, none⟩)] w fun e w' => e = .returned (keyV (h : Int) (idT seed) (rootS seed h)) ∧ Below w.heap.size w w'
  leaves : ∀ (p : Nat) (seed : ByteArray) (h : Nat) (w : World), TA w p seed h → Calls Tryd.prog 15 #[.pointer (some ⟨p, 0, none⟩)] w fun e w' => e = .returned (.int .i64 ((2 ^ h : Nat) : Int)) ∧ Below w.heap.size w w'
  sign : ∀ (p : Nat) (seed : ByteArray) (h : Nat) (leaf : Int) (m : ByteArray) (w : World), TA w p seed h → seed.size = 32 → h ≤ 8 → m.size ≤ 1000000000 → Holds w 0 kWords → Calls Tryd.prog 17 #[.pointer (some ⟨p, 0, none⟩), .int .i64 leaf, .string m] w fun e w' => e = .returned (signV seed h leaf m) ∧ Below w.heap.size w w'
def VerPm : Prop := ∀ (h : Int) (id root m s : ByteArray) (w : World), m.size ≤ 1000000000 → s.size ≤ 1000000000 → Holds w 0 kWords → Calls Tryd.prog 25 #[keyV h id root, .string m, .string s] w fun e w' => e = .returned (.int .i64 ((verE h id root m s : Nat) : Int)) ∧ Below w.heap.size w w'
def CheckPm : Prop := ∀ (h : Int) (id root : ByteArray) (w : World), Calls Tryd.prog 18 #[keyV h id root] w fun e w' => e = .returned (.int .i64 ((keyE h id root : Nat) : Int)) ∧ Below w.heap.size w w'
def LeafPm : Prop := ∀ (s : ByteArray) (w : World), Calls Tryd.prog 21 #[.string s] w fun e w' => e = .returned (leafV s) ∧ Below w.heap.size w w'

set_option maxRecDepth 100000 in
set_option maxHeartbeats 1000000 in
theorem awakem_any {TA : TreeP} (hT : Trees TA) (hV : VerPm) (w : World) (hK : Holds w 0 kWords) :
    Calls Tryd.prog 11 #[] w fun e w' => e = .returned (.bool true) ∧ Below w.heap.size w w' := by
  obtain ⟨S, hS⟩ : ∃ S, S = seedS 1 := ⟨_, rfl⟩
  have hSs : S.size = 32 := by rw [hS]; exact seedS_size 1
  obtain ⟨M, hM⟩ : ∃ M : ByteArray, M = ⟨#[109, 101, 115, 115, 97, 103, 101]⟩ := ⟨_, rfl⟩
  have hMs : M.size ≤ 1000000000 := by rw [hM]; exact of_decide_eq_true rfl
  obtain ⟨X, hX⟩ : ∃ X, X = sigT S 1 1 M := ⟨_, rfl⟩
  have hXs : X.size = 580 := by rw [hX, sigT_size]
  have hXi : (X.size : Int) = 580 := by rw [hXs]; rfl
  obtain ⟨ID, hID⟩ : ∃ ID, ID = idT S := ⟨_, rfl⟩
  obtain ⟨R, hR⟩ : ∃ R, R = rootS S 1 := ⟨_, rfl⟩
  have HSD : Hid (∀ W : World, Calls Tryd.prog 10 #[.int .i64 1] W fun e w' => e = .returned (.string S) ∧ Below W.heap.size W w') := Lib.hid fun W => by rw [hS]; exact seedq_any 1 (by omega) W
  have HGN : Hid (∀ W : World, Holds W 0 kWords → Calls Tryd.prog 9 #[.string S, .int .i64 1] W fun e w' => (∃ p, e = .returned (.tuple #[.pointer (some ⟨p, 0, none⟩), .int .i64 0]) ∧ TA w' p S 1) ∧ Below W.heap.size W w') := Lib.hid fun W h => hT.gen S 1 W hSs (by omega) h
  have HSG : Hid (∀ (p : Nat) (W : World), TA W p S 1 → Holds W 0 kWords → Calls Tryd.prog 17 #[.pointer (some ⟨p, 0, none⟩), .int .i64 1, .string M] W fun e w' => e = .returned (.tuple #[.string X, .int .i64 0]) ∧ Below W.heap.size W w') := Lib.hid fun p W h k => by
    have := hT.sign p S 1 ((1 : Nat) : Int) M W h hSs (by omega) hMs k
    rw [signV_ok S 1 1 M (by omega), ← hX] at this
    exact this
  have HKY : Hid (∀ (p : Nat) (W : World), TA W p S 1 → Calls Tryd.prog 12 #[.pointer (some ⟨p, 0, none⟩)] W fun e w' => e = .returned (.agg #[.int .i64 1, .string ID, .string R]) ∧ Below W.heap.size W w') := Lib.hid fun p W h => by
    have := hT.key p S 1 W h
    unfold keyV at this
    rw [← hID, ← hR] at this
    exact this
  have HVE : Hid (∀ W : World, Holds W 0 kWords → Calls Tryd.prog 25 #[.agg #[.int .i64 1, .string ID, .string R], .string M, .string X] W fun e w' => e = .returned (.int .i64 0) ∧ Below W.heap.size W w') := Lib.hid fun W k => by
    have h1 := hV ((1 : Nat) : Int) ID R M X W hMs (by omega) k
    rw [hID, hR, hX, sigT_ver S 1 1 M (by omega) (by omega), ← hX, ← hID, ← hR] at h1
    exact h1
  have HK := Lib.hid hK
  have HTK := Lib.hid hT.keep
  rw [hM] at HSG HVE
  clear hS hSs hMs hX hXs hID hR hK hT hV hM
  go_enter Tryd.func11, Tryd.ntmps11
  go_wp2_with (first
    | (go_at_call 10; (with_reducible refine (HSD.out _).mono ?_); rintro e w1 ⟨rfl, hb1⟩; have HB1 := Lib.hid hb1; clear hb1)
    | (go_at_call 9; (with_reducible refine (HGN.out _ (HK.out.old HB1.out)).mono ?_); rintro e w2 ⟨⟨p, rfl, ht⟩, hb2⟩; have HB2 := Lib.hid (HB1.out.next hb2); have HT2 := Lib.hid ht; clear hb2 ht)
    | (go_at_call 17; (with_reducible refine (HSG.out _ _ HT2.out (HK.out.old HB2.out)).mono ?_); rintro e w3 ⟨rfl, hb3⟩; have HB3 := Lib.hid (HB2.out.next hb3); have HT3 := Lib.hid (HTK.out _ _ _ _ _ HT2.out hb3); clear hb3)
    | (go_at_call 12; (with_reducible refine (HKY.out _ _ HT3.out).mono ?_); rintro e w4 ⟨rfl, hb4⟩; have HB4 := Lib.hid (HB3.out.next hb4); clear hb4)
    | (go_at_call 25; (with_reducible refine (HVE.out _ (HK.out.old HB4.out)).mono ?_); rintro e w5 ⟨rfl, hb5⟩; have HB5 := Lib.hid (HB4.out.next hb5); clear hb5))
  go_ret
  exact ⟨rfl, HB5.out⟩
end Go.Proofs.YtnmcocolahgfnaaDoor
namespace Go.Proofs.YtnmcocolahgfnaaDoor
open Go.RowKit

theorem wrap_pow2 {h N : Nat} (hh : h ≤ 8) (hN : N = 2 ^ h) : IntKind.i64.wrap (2 ^ h) = (N : Int) := by
  have := wrap_pow hh hN
  rw [wrap_i64]
  unfold wrap64 at this
  exact this

set_option maxRecDepth 100000 in
set_option maxHeartbeats 2000000 in
theorem genlaw {TA : TreeP} (hT : Trees TA) (hV : VerPm) (k x : Nat) (hk : k < 256) (w : World) (hK : Holds w 0 kWords) :
    Calls Tryd.prog 3 #[.int .u8 (k : Int), .int .u8 (x : Int)] w fun e w' => e = .returned (.bool true) ∧ Below w.heap.size w w' := by
  obtain ⟨h, hx⟩ : ∃ h, h = x % 4 := ⟨_, rfl⟩
  have hxi : (x : Int) % 4 = (h : Int) := by omega
  have hh : h ≤ 8 := by omega
  obtain ⟨S, hS⟩ : ∃ S, S = seedS k := ⟨_, rfl⟩
  have hSs : S.size = 32 := by rw [hS]; exact seedS_size k
  obtain ⟨N, hN⟩ : ∃ N, N = 2 ^ h := ⟨_, rfl⟩
  obtain ⟨ID, hID⟩ : ∃ ID, ID = idT S := ⟨_, rfl⟩
  obtain ⟨R, hR⟩ : ∃ R, R = rootS S h := ⟨_, rfl⟩
  have HSD : Hid (∀ W : World, Calls Tryd.prog 10 #[.int .i64 (k : Int)] W fun e w' => e = .returned (.string S) ∧ Below W.heap.size W w') := Lib.hid fun W => by rw [hS]; exact seedq_any k (by omega) W
  have HGN := Lib.hid (fun W hk => hT.gen S h W hSs hh hk)
  have HAW := Lib.hid (fun W hk => awakem_any hT hV W hk)
  have HKY : Hid (∀ (p : Nat) (W : World), TA W p S h → Calls Tryd.prog 12 #[.pointer (some ⟨p, 0, none⟩)] W fun e w' => e = .returned (.agg #[.int .i64 (h : Int), .string ID, .string R]) ∧ Below W.heap.size W w') := Lib.hid fun p W ht => by
    have := hT.key p S h W ht
    unfold keyV at this
    rw [← hID, ← hR] at this
    exact this
  have HTR : Hid (∀ W : World, Calls Tryd.prog 14 #[.int .i64 (k : Int), .int .i64 (h : Int)] W fun e w' => (∃ v, e = .returned v ∧ TreeV w' v S h) ∧ Below W.heap.size W w') := Lib.hid fun W => by rw [hS]; exact treeq_any k h (by omega) hh W
  have HKO : Hid (∀ (v : Value) (W : World), TreeV W v S h → Calls Tryd.prog 13 #[v] W fun e w' => e = .returned (.agg #[.int .i64 (h : Int), .string ID, .string R]) ∧ Below W.heap.size W w') := Lib.hid fun v W ht => by
    have := rkeyof_any v S h hh W ht
    unfold keyV at this
    rw [← hID, ← hR] at this
    exact this
  have HLV : Hid (∀ (p : Nat) (W : World), TA W p S h → Calls Tryd.prog 15 #[.pointer (some ⟨p, 0, none⟩)] W fun e w' => e = .returned (.int .i64 (N : Int)) ∧ Below W.heap.size W w') := Lib.hid fun p W ht => by rw [hN]; exact hT.leaves p S h W ht
  have hkw : IntKind.i64.wrap (k : Int) = (k : Int) := by rw [wrap_i64]; omega
  have hw1 := wrap_pow hh hN
  have hw2 := wrap_pow2 hh hN
  have HK := Lib.hid hK
  have HTK := Lib.hid hT.keep
  clear hS hSs hN hID hR hK hT hV hx
  go_enter Tryd.func3, Tryd.ntmps3
  go_wp2_with (first
    | (go_at_call 10; (with_reducible refine (HSD.out _).mono ?_); rintro e w1 ⟨rfl, hb1⟩; have HB1 := Lib.hid hb1; clear hb1)
    | (go_at_call 9; (with_reducible refine (HGN.out _ (HK.out.old HB1.out)).mono ?_); rintro e w2 ⟨⟨p, rfl, ht⟩, hb2⟩; have HB2 := Lib.hid (HB1.out.next hb2); have HT2 := Lib.hid ht; clear hb2 ht))
  have HBD := Lib.hid HB2.out.drew
  have HTD : Hid (TA w2.drew p S h) := Lib.hid (HTK.out _ _ _ _ _ HT2.out (Below.refl _ _).drew)
  go_region_law (first
    | (go_simp; go_at_call 11; (with_reducible refine (HAW.out _ (HK.out.old HBD.out)).mono ?_); rintro e w3 ⟨rfl, hb3⟩; have HB3 := Lib.hid (HBD.out.next hb3); have HT3 := Lib.hid (HTK.out _ _ _ _ _ HTD.out hb3); clear hb3)
    | (go_simp; go_at_call 12; (with_reducible refine (HKY.out _ _ HT3.out).mono ?_); rintro e w4 ⟨rfl, hb4⟩; have HB4 := Lib.hid (HB3.out.next hb4); have HT4 := Lib.hid (HTK.out _ _ _ _ _ HT3.out hb4); clear hb4)
    | (go_simp; go_at_call 14; (with_reducible refine (HTR.out _).mono ?_); rintro e w5 ⟨⟨v, rfl, hv⟩, hb5⟩; have HB5 := Lib.hid (HB4.out.next hb5); have HT5 := Lib.hid (HTK.out _ _ _ _ _ HT4.out hb5); have HV5 := Lib.hid hv; clear hb5 hv)
    | (go_simp; go_at_call 13; (with_reducible refine (HKO.out _ _ HV5.out).mono ?_); rintro e w6 ⟨rfl, hb6⟩; have HB6 := Lib.hid (HB5.out.next hb6); have HT6 := Lib.hid (HTK.out _ _ _ _ _ HT5.out hb6); clear hb6)
    | (go_simp; go_at_call 15; (with_reducible refine (HLV.out _ _ HT6.out).mono ?_); rintro e w7 ⟨rfl, hb7⟩; have HB7 := Lib.hid (HB6.out.next hb7); clear hb7))
  all_goals
    go_wp2_with fail
    go_ret
    exact ⟨rfl, HB7.out⟩
end Go.Proofs.YtnmcocolahgfnaaDoor
namespace Go.Proofs.YtnmcocolahgfnaaDoor
open Go.RowKit

set_option maxRecDepth 100000 in
set_option maxHeartbeats 1000000 in
theorem p1_any (n : Nat) (hn : n < 256) (w : World) :
    Calls Tryd.prog 77 #[.int .i64 (n : Int)] w fun e w' => e = .returned (.string (strOf (b1 n))) ∧ Below w.heap.size w w' := by
  have h1 := text_one (UInt8.ofNat (n % 256))
  rw [bcell_of (n % 256) (n : Int) (by omega)] at h1
  go_enter Tryd.func77, Tryd.ntmps77
  go_wp2_with fail
  go_ret
  exact ⟨rfl, belowNew _ _⟩
set_option maxRecDepth 100000 in
set_option maxHeartbeats 1000000 in
theorem p4_any (n : Nat) (hn : n < 4294967296) (w : World) :
    Calls Tryd.prog 76 #[.int .i64 (n : Int)] w fun e w' => e = .returned (.string (strOf (b4 n))) ∧ Below w.heap.size w w' := by
  have h1 := text_four (UInt8.ofNat (n / 16777216 % 256)) (UInt8.ofNat (n / 65536 % 256)) (UInt8.ofNat (n / 256 % 256)) (UInt8.ofNat (n % 256))
  rw [bcell_of (n / 16777216 % 256) ((n : Int) / 16777216) (by omega), bcell_of (n / 65536 % 256) ((n : Int) / 65536 % 256) (by omega), bcell_of (n / 256 % 256) ((n : Int) / 256 % 256) (by omega), bcell_of (n % 256) ((n : Int) % 256) (by omega)] at h1
  go_enter Tryd.func76, Tryd.ntmps76
  go_wp2_with fail
  go_ret
  exact ⟨rfl, belowNew _ _⟩
theorem less_of {a : Nat} (h : a ≤ 1099511627776) : a < 2305843009213693952 := by omega
theorem sec_less {seed : ByteArray} (hi : seed.size ≤ 1000) (leaf c : Nat) : (cat_z [⟨#[83]⟩, seed, strOf (b4 leaf), strOf (b1 c)]).length < 2305843009213693952 := less_of (sec_room hi leaf c)
theorem key_less {id ends : ByteArray} (hi : id.size ≤ 1000) (he : ends.size ≤ 1000) (leaf : Nat) : (cat_z [⟨#[76]⟩, id, strOf (b4 leaf), ends]).length < 2305843009213693952 := less_of (key_room hi he leaf)
theorem step_less {id v : ByteArray} (hi : id.size ≤ 1000) (hv : v.size ≤ 1000) (leaf c p : Nat) : (cat_z [⟨#[67]⟩, id, strOf (b4 leaf), strOf (b1 c), strOf (b1 p), v]).length < 2305843009213693952 := less_of (step_room hi hv leaf c p)
theorem keySizeQ : (Tryd.prog.info? 89).map (·.size) = some 2 := by kernel_rfl
theorem kcell {w : World} {g : Nat} {a b : Value} {t : TypeId} (h : w.heap[g]? = some (.cells #[a, b] t (0, 0))) : w.cell? ⟨g, 0, none⟩ = some a ∧ w.cell? ⟨g, 1, none⟩ = some b ∧ g < w.heap.size :=
  ⟨by rw [cell_of_row w g _ _ _ _ h]; rfl, by rw [cell_of_row w g _ _ _ _ h]; rfl, (Array.getElem?_eq_some_iff.1 h).1⟩

theorem kset {w : World} {g : Nat} {a b x y : Value} {t : TypeId} (h : w.heap[g]? = some (.cells #[a, b] t (0, 0))) : ((w.setCell ⟨g, 0, none⟩ x).setCell ⟨g, 1, none⟩ y).heap[g]? = some (.cells #[x, y] t (0, 0)) := by
  simp [World.setCell, Array.getElem?_modify, h]
set_option maxRecDepth 100000 in
set_option maxHeartbeats 1000000 in
theorem pkey_any (id : ByteArray) (leaf : Nat) (hl : leaf < 4294967296) (w : World) :
    Calls Tryd.prog 58 #[.string id, .int .i64 (leaf : Int)] w fun e w' => e = .returned (.agg #[.string id, .string (strOf (b4 leaf))]) ∧ Below w.heap.size w w' := by
  have HL := Lib.hid hl
  clear hl
  go_enter Tryd.func58, Tryd.ntmps58
  go_wp2_with (go_at_call 76; (with_reducible refine (p4_any leaf HL.out _).mono ?_); rintro e w2 ⟨rfl, hb2⟩; have hq2 := (hb2.block w.heap.size (by simp)).trans (heap_alloc_new w _); obtain ⟨c0, c1, hlt⟩ := kcell hq2; have f0 := Lib.frozen_of_heap hq2 0; have f1 := Lib.frozen_of_heap hq2 1; have HQ := Lib.hid hq2; have HB := Lib.hid ((belowNew w _).next hb2); clear hb2 hq2)
  exact bodyPost_ret (results_cell_row rfl _ _ w.heap.size 89 _ (0, 0) _ rfl (kset HQ.out) Tryd.underlying89 rfl keySizeQ) rfl ⟨rfl, (HB.out.setCell (p := ⟨w.heap.size, 0, none⟩) (Nat.le_refl _) _).setCell (p := ⟨w.heap.size, 1, none⟩) (Nat.le_refl _) _⟩

set_option maxRecDepth 100000 in
set_option maxHeartbeats 1000000 in
theorem psec_any (id seed : ByteArray) (leaf c : Nat) (hs : seed.size ≤ 1000) (hc : c < 256) (w : World) (hK : Holds w 0 kWords) :
    Calls Tryd.prog 62 #[.agg #[.string id, .string (strOf (b4 leaf))], .string seed, .int .i64 (c : Int)] w fun e w' => e = .returned (.string (secS seed leaf c)) ∧ Below w.heap.size w w' := by
  have HS := Lib.hid hs
  have HC := Lib.hid hc
  have HE := Lib.hid (secS_eq seed leaf c)
  have HK := Lib.hid hK
  obtain ⟨L4, hL4⟩ : ∃ L4, L4 = strOf (b4 leaf) := ⟨_, rfl⟩
  have HR := Lib.hid (sec_less hs leaf c)
  rw [← hL4] at HE HR ⊢
  clear hs hc hK hL4
  go_enter Tryd.func62, Tryd.ntmps62
  go_wp2_with fail
  obtain ⟨W1, hW1⟩ : ∃ W1, W1 = w.alloc (.cells #[.string id, .string L4] 89) := ⟨_, rfl⟩
  rw [← hW1]
  have hq1 : W1.drew.heap[w.heap.size]? = some (.cells #[.string id, .string L4] 89 (0, 0)) := by rw [hW1]; exact heap_alloc_new w _
  have HQ1 := Lib.hid hq1
  have HB1 : Hid (Below w.heap.size w W1.drew) := Lib.hid (by rw [hW1]; exact (belowNew w _).drew)
  obtain ⟨_, c1, hlt⟩ := kcell hq1
  clear hW1 hq1
  go_region_law (first | (go_simp; go_at_call 77; (with_reducible refine (p1_any c HC.out _).mono ?_); rintro e w2 ⟨rfl, hb2⟩; have HB2 := Lib.hid (HB1.out.next hb2); have c2 := (hb2.cell (p := ⟨w.heap.size, 1, none⟩) hlt).trans c1; clear hb2) | (go_simp; go_at_call 30; refine (short_any _ [⟨#[83]⟩, seed, L4, strOf (b1 c)] _ (reads_row _ [⟨#[83]⟩, seed, L4, strOf (b1 c)] 9) (show (4 : Nat) < 4611686018427387904 by decide) (HK.out.old (HB2.out.alloc HB2.out.size _)) HR.out).mono ?_; rintro e w3 ⟨he, hb3⟩; rw [HE.out] at he; obtain rfl : e = .returned (.string (secS seed leaf c)) := he; have HB3 := Lib.hid ((HB2.out.alloc HB2.out.size _).next hb3); clear hb3))
  all_goals
    go_wp2_with fail
    go_ret
    exact ⟨rfl, HB3.out⟩

set_option maxRecDepth 100000 in
set_option maxHeartbeats 1000000 in
theorem pkeyp_any (id ends : ByteArray) (leaf : Nat) (hi : id.size ≤ 1000) (he : ends.size ≤ 1000) (w : World) (hK : Holds w 0 kWords) :
    Calls Tryd.prog 72 #[.agg #[.string id, .string (strOf (b4 leaf))], .string ends] w fun e w' => e = .returned (.string (keySq id leaf ends)) ∧ Below w.heap.size w w' := by
  have HE := Lib.hid (keyS_eq id ends leaf)
  have HK := Lib.hid hK
  obtain ⟨L4, hL4⟩ : ∃ L4, L4 = strOf (b4 leaf) := ⟨_, rfl⟩
  have HR := Lib.hid (key_less hi he leaf)
  rw [← hL4] at HE HR ⊢
  clear hi he hK hL4
  obtain ⟨W2, hW2⟩ : ∃ W2, W2 = (w.alloc (.cells #[.string id, .string L4] 89)).alloc (.cells #[.string ⟨#[76]⟩, .string id, .string L4, .string ends] 9) := ⟨_, rfl⟩
  have HRW : Hid (Reads_z W2 (.slice (some ⟨w.heap.size + 1, 0, none⟩) 4 4) [⟨#[76]⟩, id, L4, ends]) := Lib.hid (by
    have h := reads_row (w.alloc (.cells #[.string id, .string L4] 89)) [⟨#[76]⟩, id, L4, ends] 9
    rw [show (w.alloc (.cells #[.string id, .string L4] 89)).heap.size = w.heap.size + 1 by simp] at h
    rw [hW2]
    exact h)
  have HB2 : Hid (Below w.heap.size w W2) := Lib.hid (by rw [hW2]; exact (belowNew w _).next (belowNew _ _))
  have HK2 : Hid (Holds W2 0 kWords) := Lib.hid (HK.out.old HB2.out)
  have hw2 := hW2.symm
  have HSH : Hid (Calls Tryd.prog 30 #[.slice (some ⟨w.heap.size + 1, 0, none⟩) 4 4] W2 fun e w' => e = .returned (.string (keySq id leaf ends)) ∧ Below W2.heap.size W2 w') := Lib.hid (by
    have h := short_any _ _ W2 HRW.out (show (4 : Nat) < 4611686018427387904 by decide) HK2.out HR.out
    rw [HE.out] at h
    exact h)
  have HWW := Lib.hid hw2
  clear hW2 hw2
  go_enter Tryd.func72, Tryd.ntmps72
  go_wp2_with (go_at_call 30; rw [HWW.out]; (with_reducible refine HSH.out.mono ?_); rintro e w3 ⟨rfl, hb3⟩; have HB3 := Lib.hid (HB2.out.next hb3); clear hb3)
  go_ret
  exact ⟨rfl, HB3.out⟩
end Go.Proofs.YtnmcocolahgfnaaDoor
namespace Go.Proofs.YtnmcocolahgfnaaDoor
open Go.RowKit

set_option maxRecDepth 100000 in
set_option maxHeartbeats 1000000 in
theorem mp1_any (n : Nat) (hn : n < 256) (w : World) :
    Calls Tryd.prog 73 #[.int .i64 (n : Int)] w fun e w' => e = .returned (.string (strOf (b1 n))) ∧ Below w.heap.size w w' := by
  have h1 := text_one (UInt8.ofNat (n % 256))
  rw [bcell_of (n % 256) (n : Int) (by omega)] at h1
  go_enter Tryd.func73, Tryd.ntmps73
  go_wp2_with fail
  go_ret
  exact ⟨rfl, belowNew _ _⟩
set_option maxRecDepth 100000 in
set_option maxHeartbeats 1000000 in
theorem mp4_any (n : Nat) (hn : n < 4294967296) (w : World) :
    Calls Tryd.prog 43 #[.int .i64 (n : Int)] w fun e w' => e = .returned (.string (strOf (b4 n))) ∧ Below w.heap.size w w' := by
  have h1 := text_four (UInt8.ofNat (n / 16777216 % 256)) (UInt8.ofNat (n / 65536 % 256)) (UInt8.ofNat (n / 256 % 256)) (UInt8.ofNat (n % 256))
  rw [bcell_of (n / 16777216 % 256) ((n : Int) / 16777216) (by omega), bcell_of (n / 65536 % 256) ((n : Int) / 65536 % 256) (by omega), bcell_of (n / 256 % 256) ((n : Int) / 256 % 256) (by omega), bcell_of (n % 256) ((n : Int) % 256) (by omega)] at h1
  go_enter Tryd.func43, Tryd.ntmps43
  go_wp2_with fail
  go_ret
  exact ⟨rfl, belowNew _ _⟩
set_option maxRecDepth 100000 in
set_option maxHeartbeats 1000000 in
theorem mheight_any (h : Int) (w : World) :
    Calls Tryd.prog 29 #[.int .i64 h] w fun e w' => e = .returned (.bool (decide (0 ≤ h ∧ h ≤ 8))) ∧ Below w.heap.size w w' := by
  by_cases h1 : 0 ≤ h
  · have d1 : decide (0 ≤ h) = true := by simp; omega
    obtain ⟨b, hb⟩ : ∃ b, b = decide (h ≤ 8) := ⟨_, rfl⟩
    have hb2 : decide (h ≤ 8) = b := hb.symm
    have hbb : decide (0 ≤ h ∧ h ≤ 8) = b := by rw [hb]; simp [h1]
    rw [hbb]
    clear hbb hb
    cases b
    all_goals
      go_enter Tryd.func29, Tryd.ntmps29
      go_wp2_with fail
      go_ret
      exact ⟨rfl, Below.refl _ _⟩
  · have d1 : decide (0 ≤ h) = false := by simp; omega
    have hbb : decide (0 ≤ h ∧ h ≤ 8) = false := by simp; omega
    rw [hbb]
    clear hbb
    go_enter Tryd.func29, Tryd.ntmps29
    go_wp2_with fail
    go_ret
    exact ⟨rfl, Below.refl _ _⟩
set_option maxRecDepth 100000 in
set_option maxHeartbeats 1000000 in
theorem mleaves_any (h : Nat) (hh : h ≤ 8) (id root : ByteArray) (w : World) :
    Calls Tryd.prog 37 #[keyV (h : Int) id root] w fun e w' => e = .returned (.int .i64 ((2 ^ h : Nat) : Int)) ∧ Below w.heap.size w w' := by
  obtain ⟨N, hN⟩ : ∃ N, N = 2 ^ h := ⟨_, rfl⟩
  have hsh := wrap_pow hh hN
  have hh0 : (0 : Int) ≤ (h : Int) := by omega
  rw [← hN]
  unfold keyV
  clear hN
  go_enter Tryd.func37, Tryd.ntmps37
  go_wp2_with fail
  go_ret
  rw [hsh]
  exact ⟨rfl, belowNew _ _⟩
set_option maxRecDepth 100000 in
set_option maxHeartbeats 1000000 in
theorem msize_any (h : Nat) (hh : h ≤ 8) (id root : ByteArray) (w : World) :
    Calls Tryd.prog 66 #[keyV (h : Int) id root] w fun e w' => e = .returned (.int .i64 ((564 + h * 16 : Nat) : Int)) ∧ Below w.heap.size w w' := by
  obtain ⟨t, ht⟩ : ∃ t, t = 564 + h * 16 := ⟨_, rfl⟩
  have hti : (564 : Int) + (h : Int) * 16 = (t : Int) := by omega
  rw [← ht]
  unfold keyV
  clear ht
  go_enter Tryd.func66, Tryd.ntmps66
  go_wp2_with fail
  go_ret
  exact ⟨rfl, belowNew _ _⟩
end Go.Proofs.YtnmcocolahgfnaaDoor
namespace Go.Proofs.YtnmcocolahgfnaaDoor
open Go.RowKit

set_option maxRecDepth 100000 in
set_option maxHeartbeats 1000000 in
theorem mdig_any (h : Int) (id root m : ByteArray) (leaf : Nat) (hl : leaf < 4294967296) (hi : id.size ≤ 1000) (hr : root.size ≤ 1000) (hm : m.size ≤ 1000000000) (w : World) (hK : Holds w 0 kWords) :
    Calls Tryd.prog 42 #[keyV h id root, .int .i64 (leaf : Int), .string m] w fun e w' => e = .returned (.string (dgM id root leaf m)) ∧ Below w.heap.size w w' := by
  obtain ⟨dg, hdg⟩ : ∃ dg, dg = dgM id root leaf m := ⟨_, rfl⟩
  have HDG : Hid (∀ (V : Value) (W : World), Holds W 0 kWords → Reads_z W V [⟨#[77]⟩, id, root, strOf (b4 leaf), m] → Calls Tryd.prog 30 #[V] W fun e w' => e = .returned (.string dg) ∧ Below W.heap.size W w') := Lib.hid fun V W hk hV => by
    rw [hdg]
    exact short_any V _ W hV (show (5 : Nat) < 4611686018427387904 by decide) hk (less_of (dgM_room hi hr hm leaf))
  obtain ⟨g, hg⟩ : ∃ g, g = w.heap.size := ⟨_, rfl⟩
  obtain ⟨W1, hW1⟩ : ∃ W1, W1 = w.alloc (.cells #[.int .i64 h, .string id, .string root] 43) := ⟨_, rfl⟩
  have hq1 : W1.heap[g]? = some (.cells #[.int .i64 h, .string id, .string root] 43 (0, 0)) := by rw [hW1, hg]; exact heap_alloc_new w _
  have HB1 : Hid (Below w.heap.size w W1) := Lib.hid (by rw [hW1]; exact belowNew w _)
  have HK1 : Hid (Holds W1 0 kWords) := Lib.hid (hK.old HB1.out)
  have HW1 := Lib.hid hW1.symm
  have HG := Lib.hid hg
  have HL := Lib.hid hl
  obtain ⟨c0, c1, c2, hgl⟩ := tcell hq1
  have HGL := Lib.hid hgl
  rw [← hdg]
  unfold keyV
  clear hdg hl hi hr hm hK hW1 hq1 hgl hg c0
  go_enter Tryd.func42, Tryd.ntmps42
  go_wp2_with fail
  rw [HW1.out, ← HG.out]
  go_region_held3 (fun w' => w'.cell? ⟨g, 1, none⟩ = some (.string id) ∧ w'.cell? ⟨g, 2, none⟩ = some (.string root)) (first | with_reducible exact ⟨by assumption, by assumption⟩ | go_keep)
    (first
      | (go_at_call 43; (with_reducible refine (mp4_any leaf HL.out _).mono ?_); rintro e w4 ⟨rfl, hb4⟩; have hx : Below W1.heap.size W1 w4 := (by first | exact hb4 | exact (Below.refl _ _).drew.trans hb4); have s1 := (hx.cell (p := ⟨g, 1, none⟩) HGL.out).trans c1; have s2 := (hx.cell (p := ⟨g, 2, none⟩) HGL.out).trans c2; have HB4 := Lib.hid hx; clear hb4 hx)
      | (go_at_call 30; refine (HDG.out _ _ (HK1.out.old (HB4.out.next (belowNew _ _))) (reads_row _ [⟨#[77]⟩, id, root, strOf (b4 leaf), m] 9)).mono ?_; rintro e w5 ⟨rfl, hb5⟩; have hx : Below W1.heap.size W1 w5 := (HB4.out.next (belowNew _ _)).next hb5; have s3 := (hx.cell (p := ⟨g, 1, none⟩) HGL.out).trans c1; have s4 := (hx.cell (p := ⟨g, 2, none⟩) HGL.out).trans c2; have HB5 := Lib.hid hx; clear hb5 hx))
  go_wp2_with fail
  go_ret
  exact ⟨rfl, HB1.out.next HB5.out⟩

set_option maxRecDepth 100000 in
set_option maxHeartbeats 1000000 in
theorem mpar_any (h : Int) (id root x y : ByteArray) (l i : Nat) (hl : l < 256) (hi4 : i < 4294967296) (hi : id.size ≤ 1000) (hx : x.size ≤ 1000) (hy : y.size ≤ 1000) (w : World) (hK : Holds w 0 kWords) :
    Calls Tryd.prog 50 #[keyV h id root, .int .i64 (l : Int), .int .i64 (i : Int), .string x, .string y] w fun e w' => e = .returned (.string (joinQ hQ id.data.toList l i x y)) ∧ Below w.heap.size w w' := by
  obtain ⟨z, hz⟩ : ∃ z, z = joinQ hQ id.data.toList l i x y := ⟨_, rfl⟩
  have HJ : Hid (∀ (V : Value) (W : World), Holds W 0 kWords → Reads_z W V [⟨#[78]⟩, id, strOf (b1 l), strOf (b4 i), x, y] → Calls Tryd.prog 30 #[V] W fun e w' => e = .returned (.string z) ∧ Below W.heap.size W w') := Lib.hid fun V W hk hV => by
    rw [hz, ← join_eq]
    exact short_any V _ W hV (show (6 : Nat) < 4611686018427387904 by decide) hk (less_of (join_room hi hx hy l i))
  obtain ⟨g, hg⟩ : ∃ g, g = w.heap.size := ⟨_, rfl⟩
  obtain ⟨W1, hW1⟩ : ∃ W1, W1 = w.alloc (.cells #[.int .i64 h, .string id, .string root] 43) := ⟨_, rfl⟩
  have hq1 : W1.heap[g]? = some (.cells #[.int .i64 h, .string id, .string root] 43 (0, 0)) := by rw [hW1, hg]; exact heap_alloc_new w _
  have HB1 : Hid (Below w.heap.size w W1) := Lib.hid (by rw [hW1]; exact belowNew w _)
  have HK1 : Hid (Holds W1 0 kWords) := Lib.hid (hK.old HB1.out)
  have HW1 := Lib.hid hW1.symm
  have HG := Lib.hid hg
  have HL := Lib.hid hl
  have HI4 := Lib.hid hi4
  obtain ⟨c0, c1, c2, hgl⟩ := tcell hq1
  have HGL := Lib.hid hgl
  rw [← hz]
  unfold keyV
  clear hz hl hi4 hi hx hy hK hW1 hq1 hgl hg c0 c2
  go_enter Tryd.func50, Tryd.ntmps50
  go_wp2_with fail
  rw [HW1.out, ← HG.out]
  go_region_held3 (fun w' => w'.cell? ⟨g, 1, none⟩ = some (.string id)) (first | with_reducible assumption | go_keep)
    (first
      | (go_at_call 73; (with_reducible refine (mp1_any l HL.out _).mono ?_); rintro e w3 ⟨rfl, hb3⟩; have hx : Below W1.heap.size W1 w3 := (by first | exact hb3 | exact (Below.refl _ _).drew.trans hb3); have s1 := (hx.cell (p := ⟨g, 1, none⟩) HGL.out).trans c1; have HB3 := Lib.hid hx; clear hb3 hx)
      | (go_at_call 43; (with_reducible refine (mp4_any i HI4.out _).mono ?_); rintro e w4 ⟨rfl, hb4⟩; have hx : Below W1.heap.size W1 w4 := (by first | exact HB3.out.next hb4 | exact HB3.out.drew.next hb4); have s2 := (hx.cell (p := ⟨g, 1, none⟩) HGL.out).trans c1; have HB4 := Lib.hid hx; clear hb4 hx)
      | (go_at_call 30; refine (HJ.out _ _ (HK1.out.old (HB4.out.next (belowNew _ _))) (reads_row _ [⟨#[78]⟩, id, strOf (b1 l), strOf (b4 i), x, y] 9)).mono ?_; rintro e w5 ⟨rfl, hb5⟩; have hx : Below W1.heap.size W1 w5 := (HB4.out.next (belowNew _ _)).next hb5; have s3 := (hx.cell (p := ⟨g, 1, none⟩) HGL.out).trans c1; have HB5 := Lib.hid hx; clear hb5 hx))
  go_wp2_with fail
  go_ret
  exact ⟨rfl, HB1.out.next HB5.out⟩
end Go.Proofs.YtnmcocolahgfnaaDoor
