/-
  The contract of the program's way up from a leaf to the root.
  The contracts of the program's Check and Leaf.
  What is wanted of the program's Digits, Public, Sign and Recover, as propositions; and the contract of the law package's sanity check over them.
  The contracts of the program's appendSum and Digits.
-/
import Derived.Test.YtphgpakfdhdklaaDoorAaj
import Derived.Test.YtphgpakfdhdklaaDoorAak
import Derived.Test.YtphgpakfdhdklaaDoorAai
import Derived.Test.YtphgpakfdhdklaaDoorAah
namespace Go.Proofs.YtphgpakfdhdklaaDoor
open Go.RowKit

def sibB (sb : ByteArray) (l : Nat) : ByteArray := sb.extract (l * 16) ((l + 1) * 16)
def climbB (id sb node : ByteArray) (leaf l : Nat) : ByteArray := climbQ hQ id.data.toList leaf (sibB sb) l node
theorem climbB_next (id sb node : ByteArray) (leaf l : Nat) : climbB id sb node leaf (l + 1) = if leaf / 2 ^ l % 2 = 1 then joinQ hQ id.data.toList l (leaf / 2 ^ l / 2) (sibB sb l) (climbB id sb node leaf l) else joinQ hQ id.data.toList l (leaf / 2 ^ l / 2) (climbB id sb node leaf l) (sibB sb l) := rfl
theorem climbB_size {id sb node : ByteArray} {leaf : Nat} (hn : node.size ≤ 1000) : ∀ l, (climbB id sb node leaf l).size ≤ 1000
  | 0 => hn
  | l + 1 => by
    rw [climbB_next]
    split <;> (rw [joinQ_size]; omega)
theorem div_pow_next (a l : Nat) : a / 2 ^ (l + 1) = a / 2 ^ l / 2 := by rw [Nat.pow_succ, Nat.div_div_eq_div_mul]
theorem int_div_pow (a l : Nat) : (a : Int) / 2 ^ l = ((a / 2 ^ l : Nat) : Int) := by
  rw [show ((2 : Int) ^ l) = ((2 ^ l : Nat) : Int) by norm_cast]
  rfl

set_option maxRecDepth 100000 in
set_option maxHeartbeats 2000000 in
theorem mclimb_any (h : Nat) (id root node sb : ByteArray) (leaf : Nat) (hh : h ≤ 8) (hi : id.size ≤ 1000) (hn : node.size ≤ 1000) (hs : sb.size = h * 16) (hl : leaf < 4294967296) (w : World) (hK : Holds w 0 kWords) :
    Calls Tryd.prog 63 #[keyV (h : Int) id root, .int .i64 (leaf : Int), .string node, .string sb] w fun e w' => e = .returned (.string (climbB id sb node leaf h)) ∧ Below w.heap.size w w' := by
  obtain ⟨W1, hW1⟩ : ∃ W1, W1 = w.alloc (.cells #[.int .i64 (h : Int), .string id, .string root] 79) := ⟨_, rfl⟩
  have HQ1 : Hid (W1.heap[w.heap.size]? = some (.cells #[.int .i64 (h : Int), .string id, .string root] 79 (0, 0))) := Lib.hid (by rw [hW1]; exact heap_alloc_new w _)
  have HB1 : Hid (Below w.heap.size w W1) := Lib.hid (by rw [hW1]; exact belowNew w _)
  have HK1 : Hid (Holds W1 0 kWords) := Lib.hid (hK.old HB1.out)
  have HPA : Hid (∀ (l i : Nat) (x y : ByteArray) (W : World), l < 256 → i < 4294967296 → x.size ≤ 1000 → y.size ≤ 1000 → Holds W 0 kWords → Calls Tryd.prog 75 #[.agg #[.int .i64 (h : Int), .string id, .string root], .int .i64 (l : Int), .int .i64 (i : Int), .string x, .string y] W fun e w' => e = .returned (.string (joinQ hQ id.data.toList l i x y)) ∧ Below W.heap.size W w') := Lib.hid fun l i x y W h1 h2 h3 h4 hk => mpar_any (h : Int) id root x y l i h1 h2 hi h3 h4 W hk
  obtain ⟨c0, c1, c2, hgl⟩ := tcell HQ1.out
  have HGL := Lib.hid hgl
  have HW1 := Lib.hid hW1.symm
  have HH := Lib.hid hh
  have HS := Lib.hid hs
  have HL := Lib.hid hl
  have HNS := Lib.hid hn
  obtain ⟨t, ht⟩ : ∃ t, t = h * 16 := ⟨_, rfl⟩
  have HT := Lib.hid ht
  have hki : (sb.size : Int) = (t : Int) := by omega
  unfold keyV
  clear hh hi hn hs hl hK hW1 hgl ht
  go_enter Tryd.func63, Tryd.ntmps63
  go_wp2_with fail
  rw [HW1.out]
  clear c0 c1 c2
  go_loopw [2, 15] (fun v i wr => ∃ l : Nat, l ≤ h ∧ i = .int .i64 (l : Int) ∧ v = .string (climbB id sb node leaf l) ∧ Below W1.heap.size W1 wr) (fun _ i _ => h - (intOf i).toNat)
  case atStart => exact ⟨0, Nat.zero_le _, rfl, rfl, Below.refl _ _⟩
  case round =>
    obtain ⟨l, hlh, rfl, rfl, hb⟩ := hrel
    have HBR := Lib.hid hb
    have HQR := Lib.hid ((hb.block w.heap.size HGL.out).trans HQ1.out)
    clear hb
    by_cases hlt : l < h
    · have hd : decide ((l : Int) < (h : Int)) = true := by simp; omega
      have HLT := Lib.hid hlt
      have HLB := Lib.hid (show l < 256 by have := HH.out; omega)
      obtain ⟨u, hu⟩ : ∃ u, u = climbB id sb node leaf l := ⟨_, rfl⟩
      have HUS := Lib.hid (show u.size ≤ 1000 by rw [hu]; exact climbB_size HNS.out l)
      obtain ⟨s, hsb⟩ : ∃ s, s = sibB sb l := ⟨_, rfl⟩
      have HSS := Lib.hid (show s.size ≤ 1000 by rw [hsb]; unfold sibB; rw [ByteArray.size_extract]; omega)
      obtain ⟨lo, hlo⟩ : ∃ lo, lo = l * 16 := ⟨_, rfl⟩
      obtain ⟨z, hz⟩ : ∃ z, z = sb.extract lo sb.size := ⟨_, rfl⟩
      obtain ⟨m, hm⟩ : ∃ m, m = t - lo := ⟨_, rfl⟩
      have hlt16 : lo + 16 ≤ t := by have := HT.out; omega
      have hzs : (z.size : Int) = (m : Int) := by rw [hz, ByteArray.size_extract, hm]; omega
      have hzq : z.extract 0 16 = s := by
        rw [hz, extract_twice sb sb.size lo (by omega), hsb, hlo]
        unfold sibB
        rw [show l * 16 + 16 = (l + 1) * 16 by omega]
      have hex : sb.extract lo sb.size = z := hz.symm
      have hw1 : IntKind.i64.wrap ((l : Int) * 16) = (lo : Int) := by rw [wrap_i64]; have := HLB.out; omega
      have hub : (lo : Int) ≤ (t : Int) := by omega
      have hlz : (16 : Int) ≤ (m : Int) := by omega
      obtain ⟨l1, hl1⟩ : ∃ l1, l1 = l + 1 := ⟨_, rfl⟩
      have a2 : (l : Int) + 1 = (l1 : Int) := by omega
      have a3 : IntKind.i64.wrap (l1 : Int) = (l1 : Int) := by rw [wrap_i64]; have := HLB.out; omega
      obtain ⟨q, hq⟩ : ∃ q, q = leaf / 2 ^ l := ⟨_, rfl⟩
      have hql : q ≤ leaf := by rw [hq]; exact Nat.div_le_self _ _
      have hqi : (leaf : Int) / 2 ^ l = (q : Int) := by rw [hq]; exact int_div_pow leaf l
      obtain ⟨r, hr⟩ : ∃ r, r = q % 2 := ⟨_, rfl⟩
      have hri : (q : Int) % 2 = (r : Int) := by omega
      have hrt : (q : Int).tmod 2 = (r : Int) := by rw [Int.tmod_eq_emod_of_nonneg (by omega)]; exact hri
      have hmin : min l 64 = l := by have := HLB.out; have := HH.out; omega
      have hmin1 : min l1 64 = l1 := by have := HH.out; omega
      obtain ⟨q2, hq2⟩ : ∃ q2, q2 = q / 2 := ⟨_, rfl⟩
      have hq2i : (leaf : Int) / 2 ^ l1 = (q2 : Int) := by rw [hq2, hq, ← div_pow_next, ← hl1]; exact int_div_pow leaf l1
      have HQ24 := Lib.hid (show q2 < 4294967296 by have := HL.out; omega)
      obtain ⟨x, hx⟩ : ∃ x, x = climbB id sb node leaf (l + 1) := ⟨_, rfl⟩
      have HX := Lib.hid hx
      have HC0 := Lib.hid (tcell HQR.out)
      rw [← hu]
      by_cases hodd : r = 1
      · have hzz : joinQ hQ id.data.toList l q2 s u = x := by rw [hx, climbB_next, ← hq, ← hr, if_pos hodd, hq2, hsb, hu]
        have HJ : Hid (∀ W : World, Holds W 0 kWords → Calls Tryd.prog 75 #[.agg #[.int .i64 (h : Int), .string id, .string root], .int .i64 (l : Int), .int .i64 (q2 : Int), .string s, .string u] W fun e w' => e = .returned (.string x) ∧ Below W.heap.size W w') := Lib.hid fun W hk => by
          rw [← hzz]
          exact HPA.out l q2 s u W HLB.out HQ24.out HSS.out HUS.out hk
        have hrb : ((r : Int) == 1) = true := by rw [hodd]; rfl
        subst hodd
        clear hzz hx hq2 hq hr hl1 hz hm hlo hsb hu hql hlt16
        go_wp2_with fail
        go_region
        go_wp2_with fail
        obtain ⟨W2, hW2⟩ : ∃ W2, W2 = wr.drew := ⟨_, rfl⟩
        obtain ⟨e0, e1, e2, _⟩ := HC0.out
        have d0 : W2.drew.cell? ⟨w.heap.size, 0, none⟩ = some (.int .i64 (h : Int)) := by rw [hW2]; exact e0
        have d1 : W2.drew.cell? ⟨w.heap.size, 1, none⟩ = some (.string id) := by rw [hW2]; exact e1
        have d2 : W2.drew.cell? ⟨w.heap.size, 2, none⟩ = some (.string root) := by rw [hW2]; exact e2
        have HD : Hid (Below W1.heap.size W1 W2.drew) := Lib.hid (by rw [hW2]; exact HBR.out.drew.drew)
        rw [← hW2]
        clear hW2 e0 e1 e2
        go_region_law (go_simp; go_at_call 75; (with_reducible refine (HJ.out _ (HK1.out.old HD.out)).mono ?_); rintro e w2 ⟨rfl, hb2⟩; have HB2 := Lib.hid (HD.out.next hb2); clear hb2)
        all_goals
          go_wp2_with fail
          go_roundw
          case rel => exact ⟨l + 1, HLT.out, by go_num, by rw [HX.out], HB2.out⟩
          case measure => have := HLT.out; simp [intOf]; omega
      · have hzz : joinQ hQ id.data.toList l q2 u s = x := by rw [hx, climbB_next, ← hq, ← hr, if_neg hodd, hq2, hsb, hu]
        have HJ : Hid (∀ W : World, Holds W 0 kWords → Calls Tryd.prog 75 #[.agg #[.int .i64 (h : Int), .string id, .string root], .int .i64 (l : Int), .int .i64 (q2 : Int), .string u, .string s] W fun e w' => e = .returned (.string x) ∧ Below W.heap.size W w') := Lib.hid fun W hk => by
          rw [← hzz]
          exact HPA.out l q2 u s W HLB.out HQ24.out HUS.out HSS.out hk
        obtain rfl : r = 0 := by omega
        have hrb : (((0 : Nat) : Int) == 1) = false := rfl
        clear hzz hx hq2 hq hr hl1 hz hm hlo hsb hu hql hlt16 hodd
        go_wp2_with fail
        go_region
        go_wp2_with fail
        obtain ⟨W2, hW2⟩ : ∃ W2, W2 = wr.drew := ⟨_, rfl⟩
        obtain ⟨e0, e1, e2, _⟩ := HC0.out
        have d0 : W2.drew.cell? ⟨w.heap.size, 0, none⟩ = some (.int .i64 (h : Int)) := by rw [hW2]; exact e0
        have d1 : W2.drew.cell? ⟨w.heap.size, 1, none⟩ = some (.string id) := by rw [hW2]; exact e1
        have d2 : W2.drew.cell? ⟨w.heap.size, 2, none⟩ = some (.string root) := by rw [hW2]; exact e2
        have HD : Hid (Below W1.heap.size W1 W2.drew) := Lib.hid (by rw [hW2]; exact HBR.out.drew.drew)
        rw [← hW2]
        clear hW2 e0 e1 e2
        go_region_law (go_simp; go_at_call 75; (with_reducible refine (HJ.out _ (HK1.out.old HD.out)).mono ?_); rintro e w2 ⟨rfl, hb2⟩; have HB2 := Lib.hid (HD.out.next hb2); clear hb2)
        all_goals
          go_wp2_with fail
          go_roundw
          case rel => exact ⟨l + 1, HLT.out, by go_num, by rw [HX.out], HB2.out⟩
          case measure => have := HLT.out; simp [intOf]; omega
    · have hlh' : l = h := by omega
      subst hlh'
      have hd : decide ((l : Int) < (l : Int)) = false := by simp
      go_wp2_with fail
      go_ret
      exact ⟨rfl, HB1.out.next HBR.out⟩
end Go.Proofs.YtphgpakfdhdklaaDoor
namespace Go.Proofs.YtphgpakfdhdklaaDoor
open Go.RowKit

set_option maxRecDepth 100000 in
set_option maxHeartbeats 1000000 in
theorem mcheck_any : CheckPm := by
  intro h id root w
  unfold keyV
  obtain ⟨n, hn⟩ : ∃ n, n = id.size := ⟨_, rfl⟩
  obtain ⟨m, hm⟩ : ∃ m, m = root.size := ⟨_, rfl⟩
  have hni : (id.size : Int) = (n : Int) := by rw [hn]
  have hmi : (root.size : Int) = (m : Int) := by rw [hm]
  have HQ := Lib.hid (show keyE h id root = if 0 ≤ h ∧ h ≤ 8 ∧ n = 16 ∧ m = 16 then 0 else 18 by unfold keyE; rw [hn, hm])
  clear hn hm
  by_cases h1 : 0 ≤ h ∧ h ≤ 8
  · have HV : Hid (∀ W : World, Calls Tryd.prog 56 #[.int .i64 h] W fun e w' => e = .returned (.bool true) ∧ Below W.heap.size W w') := Lib.hid fun W => by
      have := mheight_any h W
      rw [decide_eq_true h1] at this
      exact this
    rcases Nat.decEq n 16 with h3 | h3
    · have d3 : ((n : Int) == 16) = false := by simp; omega
      have h3i : ¬ (n : Int) = 16 := by omega
      have HR := Lib.hid (show keyE h id root = 18 by rw [HQ.out, if_neg (by omega)])
      clear HQ h1
      go_enter Tryd.func43, Tryd.ntmps43
      go_wp2_with (go_at_call 56; (with_reducible refine (HV.out _).mono ?_); rintro e w1 ⟨rfl, hb1⟩; have HB1 := Lib.hid ((belowNew w _).next hb1); obtain ⟨k0, k1, k2, hgl⟩ := tcell ((hb1.block w.heap.size (by simp)).trans (heap_alloc_new w _)); clear hb1)
      go_ret
      rw [HR.out]
      exact ⟨rfl, HB1.out⟩
    · subst h3
      rcases Nat.decEq m 16 with h4 | h4
      · have d4 : ((m : Int) == 16) = false := by simp; omega
        have h4i : ¬ (m : Int) = 16 := by omega
        have HR := Lib.hid (show keyE h id root = 18 by rw [HQ.out, if_neg (by omega)])
        clear HQ h1
        go_enter Tryd.func43, Tryd.ntmps43
        go_wp2_with (go_at_call 56; (with_reducible refine (HV.out _).mono ?_); rintro e w1 ⟨rfl, hb1⟩; have HB1 := Lib.hid ((belowNew w _).next hb1); obtain ⟨k0, k1, k2, hgl⟩ := tcell ((hb1.block w.heap.size (by simp)).trans (heap_alloc_new w _)); clear hb1)
        go_ret
        rw [HR.out]
        exact ⟨rfl, HB1.out⟩
      · subst h4
        have HR := Lib.hid (show keyE h id root = 0 by rw [HQ.out, if_pos (by omega)])
        clear HQ h1
        go_enter Tryd.func43, Tryd.ntmps43
        go_wp2_with (go_at_call 56; (with_reducible refine (HV.out _).mono ?_); rintro e w1 ⟨rfl, hb1⟩; have HB1 := Lib.hid ((belowNew w _).next hb1); obtain ⟨k0, k1, k2, hgl⟩ := tcell ((hb1.block w.heap.size (by simp)).trans (heap_alloc_new w _)); clear hb1)
        go_ret
        rw [HR.out]
        exact ⟨rfl, HB1.out⟩
  · have HV : Hid (∀ W : World, Calls Tryd.prog 56 #[.int .i64 h] W fun e w' => e = .returned (.bool false) ∧ Below W.heap.size W w') := Lib.hid fun W => by
      have := mheight_any h W
      rw [decide_eq_false h1] at this
      exact this
    have HR := Lib.hid (show keyE h id root = 18 by rw [HQ.out, if_neg (by omega)])
    clear HQ h1
    go_enter Tryd.func43, Tryd.ntmps43
    go_wp2_with (go_at_call 56; (with_reducible refine (HV.out _).mono ?_); rintro e w1 ⟨rfl, hb1⟩; have HB1 := Lib.hid ((belowNew w _).next hb1); obtain ⟨k0, k1, k2, hgl⟩ := tcell ((hb1.block w.heap.size (by simp)).trans (heap_alloc_new w _)); clear hb1)
    go_ret
    rw [HR.out]
    exact ⟨rfl, HB1.out⟩

/-- The number that the first bytes are. -/
def leafK (s : ByteArray) : Nat → Nat
  | 0 => 0
  | k + 1 => leafK s k * 256 + u8at s k
theorem leafK_four (s : ByteArray) : leafK s 4 = leafS s := by
  unfold leafS
  show (((0 * 256 + u8at s 0) * 256 + u8at s 1) * 256 + u8at s 2) * 256 + u8at s 3 = _
  omega
theorem leafK_lt (s : ByteArray) : ∀ k, leafK s k < 256 ^ k
  | 0 => Nat.one_pos
  | k + 1 => by
    have h1 := leafK_lt s k
    have h2 := u8at_lt s k
    rw [Nat.pow_succ]
    show leafK s k * 256 + u8at s k < 256 ^ k * 256
    omega
theorem leafK_small (s : ByteArray) {k : Nat} (hk : k < 4) : leafK s k < 16777216 := by
  have h1 := leafK_lt s k
  have h2 : 256 ^ k ≤ 256 ^ 3 := Nat.pow_le_pow_right (by omega) (by omega)
  omega

set_option maxRecDepth 100000 in
set_option maxHeartbeats 1000000 in
theorem mleaf_any : LeafPm := by
  intro s w
  unfold leafV
  obtain ⟨n, hn⟩ : ∃ n, n = s.size := ⟨_, rfl⟩
  have hni : (s.size : Int) = (n : Int) := by rw [hn]
  by_cases h4 : n < 4
  · have d1 : decide ((n : Int) < 4) = true := by simp; omega
    rw [if_pos (by omega)]
    clear hn
    go_enter Tryd.func29, Tryd.ntmps29
    go_wp2_with fail
    go_ret2
    exact ⟨rfl, Below.refl _ _⟩
  · have d1 : decide ((n : Int) < 4) = false := by simp; omega
    rw [if_neg (by omega)]
    have HN := Lib.hid hn
    have HN4 := Lib.hid h4
    clear hn h4
    go_enter Tryd.func29, Tryd.ntmps29
    go_wp2_with fail
    go_loopw [4, 9] (fun v i wr => ∃ k : Nat, k ≤ 4 ∧ i = .int .i64 (k : Int) ∧ v = .int .i64 ((leafK s k : Nat) : Int) ∧ Below w.heap.size w wr) (fun _ i _ => 4 - (intOf i).toNat)
    case atStart => exact ⟨0, by omega, rfl, rfl, Below.refl _ _⟩
    case round =>
      obtain ⟨k, hk, rfl, rfl, hb⟩ := hrel
      have HB := Lib.hid hb
      clear hb
      by_cases hlt : k < 4
      · have hd : decide ((k : Int) < 4) = true := by simp; omega
        obtain ⟨x, hx⟩ : ∃ x, x = leafK s k := ⟨_, rfl⟩
        obtain ⟨y, hy⟩ : ∃ y, y = u8at s k := ⟨_, rfl⟩
        have hx24 : x < 16777216 := by rw [hx]; exact leafK_small s hlt
        have hy8 : y < 256 := by rw [hy]; exact u8at_lt s k
        obtain ⟨z, hz⟩ : ∃ z, z = leafK s (k + 1) := ⟨_, rfl⟩
        have hzz : x * 256 + y = z := by rw [hx, hy, hz]; rfl
        have hor : bits BinOp.or .i64 ((x : Int) * 256) (y : Int) = (z : Int) := by
          have := or_add (x * 256) y 8 (by omega) (by omega) ⟨x, by omega⟩ (by omega)
          rw [hzz] at this
          rw [← this]
          congr 1
        have hix : ∀ w, (Instr.index 9 (.string s) (.int .i64 (k : Int))).run Tryd.prog w = .ok (.int .u8 ((y : Nat) : Int)) w := fun w => by rw [hy]; exact run_index_u8 Tryd.underlying9 s k (by have := HN.out; have := HN4.out; omega) (k : Int) rfl w
        have HZ := Lib.hid hz
        have HLT := Lib.hid hlt
        rw [← hx]
        clear hx hy hz hzz
        go_wp2_with fail
        go_roundw
        case rel => exact ⟨k + 1, HLT.out, by go_num, by rw [HZ.out], HB.out⟩
        case measure => have := HLT.out; simp [intOf]; omega
      · have hk4 : k = 4 := by omega
        subst hk4
        have hd : decide (((4 : Nat) : Int) < 4) = false := by simp
        have HF := Lib.hid (leafK_four s)
        go_wp2_with fail
        go_ret2
        rw [HF.out]
        exact ⟨rfl, HB.out⟩
end Go.Proofs.YtphgpakfdhdklaaDoor
namespace Go.Proofs.YtphgpakfdhdklaaDoor
open Go.RowKit

def PubP : Prop := ∀ (id seed : ByteArray) (leaf : Int) (w : World), Holds w 0 kWords → Calls Tryd.prog 74 #[.string id, .string seed, .int .i64 leaf] w fun e w' => e = .returned (pubV id seed leaf) ∧ Below w.heap.size w w'
def SigP : Prop := ∀ (id seed dg : ByteArray) (leaf : Int) (w : World), Holds w 0 kWords → Calls Tryd.prog 47 #[.string id, .string seed, .int .i64 leaf, .string dg] w fun e w' => e = .returned (sigV id seed leaf dg) ∧ Below w.heap.size w w'
def RecP : Prop := ∀ (id dg s : ByteArray) (leaf : Int) (w : World), Holds w 0 kWords → Calls Tryd.prog 62 #[.string id, .int .i64 leaf, .string dg, .string s] w fun e w' => e = .returned (recV id leaf dg s) ∧ Below w.heap.size w w'

end Go.Proofs.YtphgpakfdhdklaaDoor
namespace Go.Proofs.YtphgpakfdhdklaaDoor
open Go.RowKit

theorem own_one_d {w wr w2 : World} {B : Nat} {v v' : Value} {D : List Nat} {y : Nat} {X : Obj} (hown : OwnI wr B v D) (hb : Below B w wr) (hB : B ≤ w.heap.size)
    (hown2 : w2.ownsRow B 3 1 v' (D.length + 1) (D.map icell ++ [icell y])) (hgr2 : (wr.alloc X).grownBy w2 v.ownBlock) : OwnI w2 B v' (D ++ [y]) ∧ Below B w w2 := by
  refine ⟨?_, ?_⟩
  · unfold OwnI
    rw [List.length_append, List.map_append]; exact hown2
  · exact (Below.alloc hb (Nat.le_trans hB hb.size) X).grown hgr2 (by simp; have := hb.size; omega) (fun k e => (World.ownsRow.lt hown k e).1)
theorem and15_i64 {p : Nat} (hp : p < 65536) : bits BinOp.and .i64 ((p : Nat) : Int) 15 = ((p % 16 : Nat) : Int) := by
  show IntKind.i64.wrap ((BitVec.ofInt 64 (p : Int) &&& BitVec.ofInt 64 15).toNat : Int) = _
  rw [BitVec.toNat_and, BitVec.ofInt_natCast, BitVec.toNat_ofNat, Nat.mod_eq_of_lt (by omega), show (BitVec.ofInt 64 15).toNat = 2 ^ 4 - 1 by decide, Nat.and_two_pow_sub_one_eq_mod, wrap_i64]
  omega
theorem and15_all : ∀ x : Fin 256, bits BinOp.and .u8 ((x.val : Nat) : Int) 15 = ((x.val % 16 : Nat) : Int) := by decide +kernel
theorem and15_u8 {x : Nat} (hx : x < 256) : bits BinOp.and .u8 (x : Int) 15 = ((x % 16 : Nat) : Int) := and15_all ⟨x, hx⟩

def sum3 (n : Nat) : List Nat := [n / 256 % 16, n / 16 % 16, n % 16]

set_option maxRecDepth 100000 in
set_option maxHeartbeats 2000000 in
theorem asum_any (B : Nat) (v : Value) (D : List Nat) (n : Nat) (hn : n < 4096) (w : World) (ho : OwnI w B v D) (hB : B ≤ w.heap.size) (hD : D.length ≤ 1000) :
    Calls Tryd.prog 79 #[v, .int .i64 (n : Int)] w fun e w' => (∃ v', e = .returned v' ∧ OwnI w' B v' (D ++ sum3 n)) ∧ Below B w w' := by
  obtain ⟨i0, hi, hz0, hz1, hz2⟩ := info_parts intInfo
  obtain ⟨L, hL⟩ : ∃ L, L = sum3 n := ⟨_, rfl⟩
  rw [← hL]
  have HL := Lib.hid hL
  have HO := Lib.hid ho
  have HB := Lib.hid hB
  have HD := Lib.hid hD
  have HN := Lib.hid hn
  clear hL ho hB hn hD
  go_enter Tryd.func79, Tryd.ntmps79
  go_wp2_with fail
  go_loopw [0, 7] (fun o i wr => ∃ k : Nat, k ≤ 3 ∧ i = .int .i64 (k : Int) ∧ OwnI wr B o (D ++ L.take k) ∧ Below B w wr) (fun _ i _ => 3 - (intOf i).toNat)
  case atStart => exact ⟨0, by decide, rfl, by rw [List.take_zero, List.append_nil]; exact HO.out, Below.refl _ _⟩
  case round =>
    obtain ⟨k, hk, rfl, hok, hb⟩ := hrel
    have HOK := Lib.hid hok
    have HBK := Lib.hid hb
    clear hok hb
    rcases (show k = 0 ∨ k = 1 ∨ k = 2 ∨ k = 3 by omega) with rfl | rfl | rfl | rfl
    · have hd : decide ((0 : Int) < 3) = true := by decide
      obtain ⟨p, hp⟩ : ∃ p, p = (n / 256) % 16 := ⟨_, rfl⟩
      have hb1 : bits BinOp.and .i64 ((n : Int) / 256) 15 = (p : Int) := by
        have h := and15_i64 (p := (n / 256)) (by have := HN.out; omega)
        rw [← hp] at h
        exact h
      have HT : Hid (D ++ L.take 1 = (D ++ L.take 0) ++ [p]) := Lib.hid (by rw [HL.out, hp]; simp [sum3])
      have HLN : Hid ((D ++ L.take 0).length ≤ 2000) := Lib.hid (by have := HD.out; rw [HL.out]; simp [sum3]; omega)
      obtain ⟨E, hE⟩ : ∃ E, E = D ++ L.take 0 := ⟨_, rfl⟩
      rw [← hE] at HOK HT HLN
      clear hE hp
      go_wp2_with (at_builtin; (refine wpList_append_own _ rfl (.tmp 13) (.tmp 18) 22 rfl B 3 i0 (.int .i64 0) 1 8 Tryd.underlying22 hi hz0 hz1 hz2 rfl (by decide) _ _ _ rfl (HOK.out.alloc _) ⟨wr.heap.size, 0, none⟩ 1 1 [icell p] rfl rfl (news_row wr #[icell p] 3) (icells_one [p]) (by have := HLN.out; unfold maxLen; omega) (by have := HLN.out; omega) (by have := HBK.out.size; have := HB.out; simp; omega) ?_); intro v' w2 hown2 hgr2 _; have HO2 := Lib.hid (own_one_d HOK.out HBK.out HB.out hown2 hgr2).1; have HB2 := Lib.hid (own_one_d HOK.out HBK.out HB.out hown2 hgr2).2; clear hown2 hgr2)
      go_roundw
      case rel => exact ⟨1, by decide, by rfl, by rw [HT.out]; exact HO2.out, HB2.out⟩
      case measure => simp [intOf]
    · have hd : decide ((1 : Int) < 3) = true := by decide
      obtain ⟨p, hp⟩ : ∃ p, p = (n / 16) % 16 := ⟨_, rfl⟩
      have hb1 : bits BinOp.and .i64 ((n : Int) / 16) 15 = (p : Int) := by
        have h := and15_i64 (p := (n / 16)) (by have := HN.out; omega)
        rw [← hp] at h
        exact h
      have HT : Hid (D ++ L.take 2 = (D ++ L.take 1) ++ [p]) := Lib.hid (by rw [HL.out, hp]; simp [sum3])
      have HLN : Hid ((D ++ L.take 1).length ≤ 2000) := Lib.hid (by have := HD.out; rw [HL.out]; simp [sum3]; omega)
      obtain ⟨E, hE⟩ : ∃ E, E = D ++ L.take 1 := ⟨_, rfl⟩
      rw [← hE] at HOK HT HLN
      clear hE hp
      go_wp2_with (at_builtin; (refine wpList_append_own _ rfl (.tmp 13) (.tmp 18) 22 rfl B 3 i0 (.int .i64 0) 1 8 Tryd.underlying22 hi hz0 hz1 hz2 rfl (by decide) _ _ _ rfl (HOK.out.alloc _) ⟨wr.heap.size, 0, none⟩ 1 1 [icell p] rfl rfl (news_row wr #[icell p] 3) (icells_one [p]) (by have := HLN.out; unfold maxLen; omega) (by have := HLN.out; omega) (by have := HBK.out.size; have := HB.out; simp; omega) ?_); intro v' w2 hown2 hgr2 _; have HO2 := Lib.hid (own_one_d HOK.out HBK.out HB.out hown2 hgr2).1; have HB2 := Lib.hid (own_one_d HOK.out HBK.out HB.out hown2 hgr2).2; clear hown2 hgr2)
      go_roundw
      case rel => exact ⟨2, by decide, by rfl, by rw [HT.out]; exact HO2.out, HB2.out⟩
      case measure => simp [intOf]
    · have hd : decide ((2 : Int) < 3) = true := by decide
      obtain ⟨p, hp⟩ : ∃ p, p = n % 16 := ⟨_, rfl⟩
      have hb1 : bits BinOp.and .i64 ((n : Nat) : Int) 15 = (p : Int) := by
        have h := and15_i64 (p := n) (by have := HN.out; omega)
        rw [← hp] at h
        exact h
      have HT : Hid (D ++ L.take 3 = (D ++ L.take 2) ++ [p]) := Lib.hid (by rw [HL.out, hp]; simp [sum3])
      have HLN : Hid ((D ++ L.take 2).length ≤ 2000) := Lib.hid (by have := HD.out; rw [HL.out]; simp [sum3]; omega)
      obtain ⟨E, hE⟩ : ∃ E, E = D ++ L.take 2 := ⟨_, rfl⟩
      rw [← hE] at HOK HT HLN
      clear hE hp
      go_wp2_with (at_builtin; (refine wpList_append_own _ rfl (.tmp 13) (.tmp 18) 22 rfl B 3 i0 (.int .i64 0) 1 8 Tryd.underlying22 hi hz0 hz1 hz2 rfl (by decide) _ _ _ rfl (HOK.out.alloc _) ⟨wr.heap.size, 0, none⟩ 1 1 [icell p] rfl rfl (news_row wr #[icell p] 3) (icells_one [p]) (by have := HLN.out; unfold maxLen; omega) (by have := HLN.out; omega) (by have := HBK.out.size; have := HB.out; simp; omega) ?_); intro v' w2 hown2 hgr2 _; have HO2 := Lib.hid (own_one_d HOK.out HBK.out HB.out hown2 hgr2).1; have HB2 := Lib.hid (own_one_d HOK.out HBK.out HB.out hown2 hgr2).2; clear hown2 hgr2)
      go_roundw
      case rel => exact ⟨3, by decide, by rfl, by rw [HT.out]; exact HO2.out, HB2.out⟩
      case measure => simp [intOf]
    · have hd : decide ((3 : Int) < 3) = false := by decide
      go_wp2_with fail
      go_ret
      exact ⟨⟨_, rfl, by have h := HOK.out; rw [List.take_of_length_le (by rw [HL.out]; simp [sum3])] at h; exact h⟩, HBK.out⟩
set_option maxRecDepth 100000 in
set_option maxHeartbeats 1000000 in
theorem pdig_bad (s : ByteArray) (hs : s.size ≠ 16) (w : World) :
    Calls Tryd.prog 65 #[.string s] w fun e w' => e = .returned (.tuple #[.slice none 0 0, .int .i64 7]) ∧ Below w.heap.size w w' := by
  obtain ⟨n, hn⟩ : ∃ n, n = s.size := ⟨_, rfl⟩
  have d1 : ((n : Int) == 16) = false := by simp; omega
  have hni : (s.size : Int) = (n : Int) := by rw [hn]
  clear hn
  go_enter Tryd.func65, Tryd.ntmps65
  go_wp2_with fail
  go_ret2
  exact ⟨rfl, Below.refl _ _⟩
theorem own_two_d {B : Nat} {w wr w2 : World} {v v' : Value} {D : List Nat} {x y : Nat} {X : Obj} (hown : OwnI wr B v D) (hb : Below B w wr) (hB : B ≤ w.heap.size)
    (hown2 : w2.ownsRow B 3 1 v' (D.length + 2) (D.map icell ++ [icell x, icell y])) (hgr2 : (wr.alloc X).grownBy w2 v.ownBlock) : OwnI w2 B v' (D ++ [x, y]) ∧ Below B w w2 := by
  refine ⟨?_, ?_⟩
  · unfold OwnI
    rw [List.length_append, List.map_append]; exact hown2
  · exact (Below.alloc hb (Nat.le_trans hB hb.size) X).grown hgr2 (by simp; have := hb.size; omega) (fun k e => (World.ownsRow.lt hown k e).1)
set_option maxRecDepth 100000 in
set_option maxHeartbeats 2000000 in
theorem pdig_ok (s : ByteArray) (hs : s.size = 16) (w : World) :
    Calls Tryd.prog 65 #[.string s] w fun e w' => (∃ v, e = .returned (.tuple #[v, .int .i64 0]) ∧ OwnI w' w.heap.size v (digs s.data.toList)) ∧ Below w.heap.size w w' := by
  obtain ⟨i0, hi, hz0, hz1, hz2⟩ := info_parts intInfo
  have hni : (s.size : Int) = 16 := by rw [hs]; rfl
  have HS := Lib.hid hs
  have HSL := Lib.hid (show s.data.toList.length = 16 from hs)
  clear hs
  go_enter Tryd.func65, Tryd.ntmps65
  go_wp2_with (at_make; refine wpList_make_own _ rfl _ _ 22 rfl w.heap.size 3 i0 (.int .i64 0) 1 Tryd.underlying22 hi hz0 hz1 .i64 .i64 35 35 rfl rfl rfl (by rw [hz2]; omega) (by unfold maxLen; omega) (Nat.le_refl _) ?_; intro w1 hown1 hgr1; have HO1 : Hid (OwnI w1 w.heap.size _ []) := Lib.hid hown1; have HB1 := Lib.hid ((Below.refl w.heap.size w).grown hgr1 (Nat.le_refl _) (fun _ e => by cases e)); clear hown1 hgr1)
  go_loopw [4, 5, 15] (fun o t i wr => ∃ k : Nat, k ≤ 16 ∧ i = .int .i64 (k : Int) ∧ t = .int .i64 ((lack (halves (s.data.toList.take k)) : Nat) : Int) ∧ OwnI wr w.heap.size o (halves (s.data.toList.take k)) ∧ Below w.heap.size w wr) (fun _ _ i _ => 16 - (intOf i).toNat)
  case atStart => exact ⟨0, by decide, rfl, rfl, HO1.out, HB1.out⟩
  case round =>
    obtain ⟨k, hk, rfl, rfl, ho, hb⟩ := hrel
    have HO := Lib.hid ho
    have HB := Lib.hid hb
    clear ho hb
    obtain ⟨D, hD⟩ : ∃ D, D = halves (s.data.toList.take k) := ⟨_, rfl⟩
    rw [← hD] at HO ⊢
    have HD := Lib.hid hD
    have hlen : D.length = 2 * k := by rw [hD, halves_len, List.length_take, HSL.out]; omega
    have hlk : lack D ≤ 30 * k := by
      have := lack_half_le (s.data.toList.take k)
      rw [← hD, List.length_take, HSL.out] at this
      omega
    clear hD
    by_cases hlt : k < 16
    · have hd : decide ((k : Int) < 16) = true := by simp; omega
      have hks : k < s.size := by rw [HS.out]; exact hlt
      obtain ⟨b, hbv⟩ : ∃ b, b = u8at s k := ⟨_, rfl⟩
      have hb256 : b < 256 := by rw [hbv]; exact u8at_lt s k
      obtain ⟨x, hx⟩ : ∃ x, x = b / 16 := ⟨_, rfl⟩
      obtain ⟨y, hy⟩ : ∃ y, y = b % 16 := ⟨_, rfl⟩
      have hq : ((b : Nat) : Int) / 16 = (x : Int) := by rw [hx]; rfl
      have hr : bits BinOp.and .u8 ((b : Nat) : Int) 15 = (y : Int) := by rw [hy]; exact and15_u8 hb256
      have hx15 : x ≤ 15 := by omega
      have hy15 : y ≤ 15 := by omega
      have HX := Lib.hid hx
      have HY := Lib.hid hy
      have HBV := Lib.hid hbv
      clear hx hy
      have hix : ∀ w, (Instr.index 9 (.string s) (.int .i64 (k : Int))).run Tryd.prog w = .ok (.int .u8 ((b : Nat) : Int)) w := fun w => by rw [hbv]; exact run_index_u8 Tryd.underlying9 s k hks (k : Int) rfl w
      clear hbv
      go_wp2_with fail
      obtain ⟨cb, hcb, hcv⟩ := u8at_list s k hks
      have HT : Hid (halves (s.data.toList.take (k + 1)) = D ++ [x, y]) := Lib.hid (by rw [take_snoc hcb, halves_snoc, ← HD.out, HX.out, HY.out, HBV.out, hcv])
      have HLK : Hid (lack (halves (s.data.toList.take (k + 1))) = lack D + (30 - x - y)) := Lib.hid (by rw [take_snoc hcb, lack_snoc, ← HD.out, HX.out, HY.out, HBV.out, hcv])
      clear hcb hcv
      go_region
      have HOD : Hid (OwnI wr.drew w.heap.size u4 D) := HO
      have HBD : Hid (Below w.heap.size w wr.drew) := Lib.hid HB.out.drew
      generalize wr.drew = wd at HOD HBD ⊢
      go_wp2_with (at_builtin; (refine wpList_append_own _ rfl (.tmp 28) (.tmp 31) 22 rfl w.heap.size 3 i0 (.int .i64 0) 1 8 Tryd.underlying22 hi hz0 hz1 hz2 rfl (by decide) _ _ _ rfl (HOD.out.alloc _) ⟨wd.heap.size, 0, none⟩ 2 2 [icell x, icell y] rfl rfl (news_row wd #[icell x, icell y] 3) (icells_one [x, y]) (by rw [hlen]; unfold maxLen; omega) (by rw [hlen]; omega) (by have := HBD.out.size; simp; omega) ?_); intro v' w2 hown2 hgr2 _; have HO2 := Lib.hid (own_two_d HOD.out HBD.out (Nat.le_refl _) hown2 hgr2).1; have HB2 := Lib.hid (own_two_d HOD.out HBD.out (Nat.le_refl _) hown2 hgr2).2; clear hown2 hgr2)
      go_roundw
      case rel =>
        refine ⟨k + 1, by omega, by go_num, ?_, by rw [HT.out]; exact HO2.out, HB2.out⟩
        rw [HLK.out]
        congr 1
        omega
      case measure => simp [intOf]; omega
    · have hk16 : k = 16 := by omega
      subst hk16
      have hd : decide ((16 : Int) < 16) = false := by decide
      have hln : lack D < 4096 := by omega
      have HAS := Lib.hid (asum_any w.heap.size u4 D (lack D) hln wr HO.out HB.out.size (by omega))
      have HT : Hid (digs s.data.toList = D ++ sum3 (lack D)) := Lib.hid (by
        have := HD.out
        rw [List.take_of_length_le (by rw [HSL.out]; exact Nat.le_refl _)] at this
        unfold digs sumD sum3
        rw [← this, show lack D / 256 % 16 = lack D / 256 by omega])
      go_wp2_with (go_at_call 79; (with_reducible refine HAS.out.mono ?_); rintro e w2 ⟨⟨v', rfl, ho2⟩, hb2⟩; have HO2 := Lib.hid ho2; have HB2 := Lib.hid (HB.out.trans hb2); clear ho2 hb2)
      go_ret2
      exact ⟨⟨_, rfl, by rw [HT.out]; exact HO2.out⟩, HB2.out⟩
end Go.Proofs.YtphgpakfdhdklaaDoor
