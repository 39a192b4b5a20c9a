/-
  The walk of the law HashSum: for every slice of strings it returns true, and leaves all that was there as it was.
  The contracts of the reference's numbers as bytes (B4, B1), and of its hash over a literal row of strings.
  Nothing is left of this text.
  Nothing is left of this text.
  Nothing is left of this text.
  Keys, signatures and what a signature leads to, as rows of chains that are put one behind the other. Nothing is claimed of the program here.
  Trees of one-time keys: ids, nodes, levels, signatures and what a signature leads to. Nothing is claimed of the program here.
  Nothing is left of this text.
  Nothing is left of this text.
  The contracts of the reference's CheckKey, Leaf and Verify's parts.
  Bit strings: what Bits and PutBits answer; the contracts of the program's and of the reference's. (Layer 3's texts over the common base.)
-/
import Derived.Test.YtpmlkofceidnjaaDoorAas
import Derived.Test.YtpmlkofceidnjaaDoorAap
import Derived.Test.YtpmlkofceidnjaaDoorAad
import Derived.Shelf.Small.Bits
import Derived.WalkKit
import Derived.BigQuiet
import Derived.Test.YtpmlkofceidnjaaDoorAaa
namespace Go.Proofs.YtpmlkofceidnjaaDoor
open Go.RowKit

theorem refsum_any (v : Value) (ss : List ByteArray) (w : World) (hv : Reads_z w v ss) (hn : ss.length < 4611686018427387904) (hm : (cat_z ss).length ≤ 1099511627776) :
    Calls Tryd.prog 24 #[v] w fun e w' => e = .returned (.string (shaStr (cat_z ss))) ∧ Below w.heap.size w w' := by
  obtain ⟨a, cap, rfl, h⟩ := hv
  exact refsum_core a cap ss w h hn hm

end Go.Proofs.YtpmlkofceidnjaaDoor
namespace Go.Proofs.YtpmlkofceidnjaaDoor
open Go.RowKit

theorem text_four (a b c d : UInt8) (w : World) : (convert 59 9 (.slice (some ⟨w.heap.size, 0, none⟩) 4 4)).run Tryd.prog (w.alloc (.cells #[bcell a, bcell b, bcell c, bcell d] 5)) = .ok (.string (strOf [a, b, c, d])) (w.alloc (.cells #[bcell a, bcell b, bcell c, bcell d] 5)) :=
  own_str (l := [a, b, c, d]) ⟨rfl, .inr ⟨w.heap.size, 4, _, rfl, Nat.le_refl _, heap_alloc_new w _, Nat.le_refl _, by decide, rfl, rfl⟩⟩
theorem text_one (a : UInt8) (w : World) : (convert 59 9 (.slice (some ⟨w.heap.size, 0, none⟩) 1 1)).run Tryd.prog (w.alloc (.cells #[bcell a] 5)) = .ok (.string (strOf [a])) (w.alloc (.cells #[bcell a] 5)) :=
  own_str (l := [a]) ⟨rfl, .inr ⟨w.heap.size, 1, _, rfl, Nat.le_refl _, heap_alloc_new w _, Nat.le_refl _, by decide, rfl, rfl⟩⟩

theorem bcell_of (m : Nat) (z : Int) (h : z = ((m % 256 : Nat) : Int)) : bcell (UInt8.ofNat m) = .int .u8 z := by
  subst h
  rfl

set_option maxRecDepth 100000 in
set_option maxHeartbeats 1000000 in
theorem rb4_any (n : Nat) (hn : n < 4294967296) (w : World) :
    Calls Tryd.prog 25 #[.int .i64 (n : Int)] w fun e w' => e = .returned (.string (strOf (b4 n))) ∧ Below w.heap.size w w' := by
  have h1 := text_four (UInt8.ofNat (n / 16777216 % 256)) (UInt8.ofNat (n / 65536 % 256)) (UInt8.ofNat (n / 256 % 256)) (UInt8.ofNat (n % 256))
  rw [bcell_of (n / 16777216 % 256) ((n : Int) / 16777216) (by omega), bcell_of (n / 65536 % 256) ((n : Int) / 65536 % 256) (by omega), bcell_of (n / 256 % 256) ((n : Int) / 256 % 256) (by omega), bcell_of (n % 256) ((n : Int) % 256) (by omega)] at h1
  go_enter Tryd.func25, Tryd.ntmps25
  go_wp2_with fail
  go_ret
  exact ⟨rfl, belowNew _ _⟩

/-! ### What the hash is handed -/
abbrev hQ : List UInt8 → ByteArray := shortStr
def stepS (id : ByteArray) (leaf c p : Nat) (v : ByteArray) : ByteArray := stepQ hQ id.data.toList leaf c p v
def secS (seed : ByteArray) (leaf c : Nat) : ByteArray := secQ hQ seed.data.toList leaf c
end Go.Proofs.YtpmlkofceidnjaaDoor



namespace Go.Proofs.YtpmlkofceidnjaaDoor
open Go.RowKit

/-- The first n strings, one behind the other. -/
def rowB (f : Nat → ByteArray) : Nat → ByteArray
  | 0 => ⟨#[]⟩
  | n + 1 => rowB f n ++ f n
/-- The value of chain c at position d. -/
def valS (id seed : ByteArray) (leaf c d : Nat) : ByteArray := stepsF (stepS id leaf c) 0 d (secS seed leaf c)
def keySq (id : ByteArray) (leaf : Nat) (ends : ByteArray) : ByteArray := shortStr (76 :: (id.data.toList ++ b4 leaf ++ ends.data.toList))
def pubS (id seed : ByteArray) (leaf : Nat) : ByteArray := keySq id leaf (rowB (fun c => valS id seed leaf c 15) 35)
/-! ### What the functions return -/
end Go.Proofs.YtpmlkofceidnjaaDoor
namespace Go.Proofs.YtpmlkofceidnjaaDoor
open Go.RowKit

/-- The id of a seed. -/
def idT (seed : ByteArray) : ByteArray := shortStr (73 :: seed.data.toList)
/-- Node i of level l of the tree of a seed. -/
def nodeS (seed : ByteArray) (l i : Nat) : ByteArray := nodeQ hQ (idT seed).data.toList (fun j => pubS (idT seed) seed j) l i
/-- Level l of the tree of a seed with height h. -/
def levelS (seed : ByteArray) (h l : Nat) : List ByteArray := (List.range (2 ^ (h - l))).map (nodeS seed l)
def levelsS (seed : ByteArray) (h n : Nat) : List (List ByteArray) := (List.range n).map (levelS seed h)
theorem levelS_len (seed : ByteArray) (h l : Nat) : (levelS seed h l).length = 2 ^ (h - l) := by unfold levelS; rw [List.length_map, List.length_range]
theorem levelS_at (seed : ByteArray) (h l i : Nat) (hi : i < 2 ^ (h - l)) : (levelS seed h l).getD i ByteArray.empty = nodeS seed l i := by
  unfold levelS
  rw [List.getD_eq_getElem?_getD, List.getElem?_map, List.getElem?_range hi]
  rfl
theorem levelsS_len (seed : ByteArray) (h n : Nat) : (levelsS seed h n).length = n := by unfold levelsS; rw [List.length_map, List.length_range]
theorem levelsS_at (seed : ByteArray) (h n l : Nat) (hl : l < n) : (levelsS seed h n).getD l [] = levelS seed h l := by
  unfold levelsS
  rw [List.getD_eq_getElem?_getD, List.getElem?_map, List.getElem?_range hl]
  rfl
/-! ### Signatures -/
/-- The first error of a key. -/
def keyE (h : Int) (id root : ByteArray) : Nat := if 0 ≤ h ∧ h ≤ 8 ∧ id.size = 16 ∧ root.size = 16 then 0 else 18
end Go.Proofs.YtpmlkofceidnjaaDoor


namespace Go.Proofs.YtpmlkofceidnjaaDoor
open Go.RowKit

def keyV (h : Int) (id root : ByteArray) : Value := .agg #[.int .i64 h, .string id, .string root]
end Go.Proofs.YtpmlkofceidnjaaDoor
namespace Go.Proofs.YtpmlkofceidnjaaDoor
open Go.Shelf Go.RowKit

def renP : Go.Shelf.Ren := ⟨fun | 136 => 38 | n => n, fun | 3 => 3 | 4 => 4 | 5 => 5 | 9 => 9 | n => n, fun | n => n⟩
theorem lays136 : Go.Proofs.Lays.n136 Tryd.prog renP := {
  mixed := by kernel_rfl
  f136 := Tryd.func38.trans (congrArg some (by kernel_rfl))
  t3 := Tryd.underlying3
  a3 := Tryd.isAgg3
  z3 := Tryd.sizeOf3
  v3 := Tryd.zeroValue3
  t5 := Tryd.underlying5
  a5 := Tryd.isAgg5
  z5 := Tryd.sizeOf5
  v5 := Tryd.zeroValue5
  t9 := Tryd.underlying9
  a9 := Tryd.isAgg9
  z9 := Tryd.sizeOf9
  v9 := Tryd.zeroValue9 }
theorem tz_any (n : Nat) (w : World) (h : n < 256) :
    Calls Tryd.prog 38 #[.int .u8 (n : Nat)] w fun e w' => e = .returned (.int .i64 ((Lib.trailingZeros8 n : Nat) : Int)) ∧ w' = w := by
  have h2 := Any.bits_TrailingZeros8 lays136 (n : Int) w (by omega) (by omega)
  exact h2

def unusedOk (b : ByteArray) (u : Nat) : Bool := decide (u = 0) || (decide (b.size ≠ 0) && decide (u8at b (b.size - 1) % 2 ^ u = 0))
def bitsErr (c : ByteArray) : Nat := if c.size = 0 ∨ 7 < u8at c 0 ∨ unusedOk (c.extract 1 c.size) (u8at c 0) = false then 7 else 0
def bitsStr (c : ByteArray) : ByteArray := if bitsErr c = 0 then c.extract 1 c.size else ⟨#[]⟩
def bitsNum (c : ByteArray) : Nat := if bitsErr c = 0 then u8at c 0 else 0
def bitsVal (c : ByteArray) : Value := .tuple #[.string (bitsStr c), .int .i64 ((bitsNum c : Nat) : Int), .int .i64 ((bitsErr c : Nat) : Int)]
def putBitsErr (b : ByteArray) (u : Int) : Nat := if u < 0 ∨ 7 < u then 1 else if unusedOk b u.toNat = false then 7 else 0
def putBitsStr (b : ByteArray) (u : Int) : ByteArray := if putBitsErr b u = 0 then strOf (UInt8.ofNat u.toNat :: b.data.toList) else ⟨#[]⟩
def putBitsVal (b : ByteArray) (u : Int) : Value := .tuple #[.string (putBitsStr b u), .int .i64 ((putBitsErr b u : Nat) : Int)]
theorem tz_all : ∀ x : Fin 256, ∀ u : Fin 8, decide (u.val ≤ Lib.trailingZeros8 x.val) = decide (x.val % 2 ^ u.val = 0) := by decide +kernel
theorem tz_iff {x u : Nat} (hx : x < 256) (hu : u ≤ 7) : decide (u ≤ Lib.trailingZeros8 x) = decide (x % 2 ^ u = 0) := tz_all ⟨x, hx⟩ ⟨u, by omega⟩
theorem last_u8 (b : ByteArray) (h : b.size ≠ 0) (w : World) : (Instr.index 9 (.string b) (.int .i64 ((b.size : Int) - 1))).run Tryd.prog w = .ok (.int .u8 ((u8at b (b.size - 1) : Nat) : Int)) w :=
  run_index_u8 (P := Tryd.prog) Tryd.underlying9 b (b.size - 1) (by omega) ((b.size : Int) - 1) (by omega) w
theorem unusedOk_zero (b : ByteArray) : unusedOk b 0 = true := by unfold unusedOk; simp
theorem unusedOk_empty {u : Nat} (h : u ≠ 0) : unusedOk ⟨#[]⟩ u = false := by
  unfold unusedOk
  rw [decide_eq_false h]; rfl
theorem unusedOk_some {b : ByteArray} {u : Nat} (h : u ≠ 0) (hb : b.size ≠ 0) : unusedOk b u = decide (u8at b (b.size - 1) % 2 ^ u = 0) := by
  unfold unusedOk
  rw [decide_eq_false h, decide_eq_true hb]; rfl

set_option maxRecDepth 100000 in
set_option maxHeartbeats 1000000 in
theorem unused_any (b : ByteArray) (u : Nat) (w : World) (hu : u ≤ 7) (hs : b.size ≤ 1099511627776) :
    Calls Tryd.prog 27 #[.string b, .int .i64 (u : Int)] w fun e w' => e = .returned (.bool (unusedOk b u)) ∧ w' = w := by
  by_cases h0 : u = 0
  · subst h0
    rw [unusedOk_zero]
    go_enter Tryd.func27, Tryd.ntmps27
    go_wp2_with fail
    go_ret
    exact ⟨rfl, rfl⟩
  · have d0 : ((u : Int) == 0) = false := beq_eq_false_iff_ne.2 (by omega)
    by_cases hb : b.size = 0
    · obtain rfl := empty_of_size hb
      rw [unusedOk_empty h0]
      clear hb h0 hs
      go_enter Tryd.func27, Tryd.ntmps27
      go_wp2_with fail
      go_ret
      exact ⟨rfl, rfl⟩
    · have he := nonempty_list hb
      have xl := last_u8 b hb
      have hx := u8at_lt b (b.size - 1)
      rw [unusedOk_some h0 hb]
      generalize u8at b (b.size - 1) = x at xl hx
      have ht := tz_iff hx hu
      rw [← ht]
      have HT := Lib.hid (fun w => tz_any x w (by omega))
      generalize Lib.trailingZeros8 x = t at HT
      have hb1 : 1 ≤ b.size := by omega
      clear ht h0 hb hx
      go_enter Tryd.func27, Tryd.ntmps27
      go_wp2_with (go_at_call 38; (with_reducible refine (HT.out _).mono ?_); rintro e w1 ⟨rfl, rfl⟩)
      go_ret
      exact ⟨rfl, rfl⟩
theorem bits_bad {c : ByteArray} (h : c.size = 0 ∨ 7 < u8at c 0 ∨ unusedOk (c.extract 1 c.size) (u8at c 0) = false) : bitsVal c = .tuple #[.string ⟨#[]⟩, .int .i64 0, .int .i64 7] := by
  have e : bitsErr c = 7 := by unfold bitsErr; exact if_pos h
  unfold bitsVal bitsStr bitsNum
  rw [e]; rfl
theorem bits_good {c : ByteArray} (h0 : c.size ≠ 0) (h1 : ¬ 7 < u8at c 0) (h2 : unusedOk (c.extract 1 c.size) (u8at c 0) = true) : bitsVal c = .tuple #[.string (c.extract 1 c.size), .int .i64 ((u8at c 0 : Nat) : Int), .int .i64 0] := by
  have e : bitsErr c = 0 := by
    unfold bitsErr
    refine if_neg fun h => ?_
    rcases h with h | h | h
    · exact h0 h
    · exact h1 h
    · rw [h2] at h; cases h
  unfold bitsVal bitsStr bitsNum
  rw [e]; rfl
set_option maxRecDepth 100000 in
set_option maxHeartbeats 1000000 in
theorem bits_any (c : ByteArray) (w : World) (hs : c.size ≤ 1099511627776) :
    Calls Tryd.prog 50 #[.string c] w fun e w' => e = .returned (bitsVal c) ∧ Below w.heap.size w w' := by
  by_cases h0 : c.size = 0
  · rw [bits_bad (.inl h0)]
    obtain rfl := empty_of_size h0
    clear h0 hs
    go_enter Tryd.func50, Tryd.ntmps50
    go_wp2_with fail
    refine bodyPost_ret (results_tmp3 rfl _ _ _) rfl ?_
    exact ⟨rfl, Below.refl _ _⟩
  · have he := nonempty_list h0
    have x0 := fun w => run_index_u8 (P := Tryd.prog) Tryd.underlying9 c 0 (by omega) (0 : Int) rfl w
    have h0' : 1 ≤ c.size := by omega
    have dsz : decide ((c.size : Int) < 1) = false := by simp; omega
    obtain ⟨x, hx⟩ : ∃ x, x = u8at c 0 := ⟨_, rfl⟩
    have hxl : x < 256 := by rw [hx]; exact u8at_lt c 0
    rw [← hx] at x0
    by_cases h7 : 7 < x
    · rw [bits_bad (.inr (.inl (by rw [← hx]; exact h7)))]
      have d7 : decide ((7 : Int) < (x : Int)) = true := by simp; omega
      clear h0 hx h7
      go_enter Tryd.func50, Tryd.ntmps50
      go_wp2_with fail
      go_region
      go_wp2_with fail
      refine bodyPost_ret (results_tmp3 rfl _ _ _) rfl ?_
      exact ⟨rfl, (Below.refl _ _).drew⟩
    · have d7 : decide ((7 : Int) < (x : Int)) = false := by simp; omega
      have hes : (c.extract 1 c.size).size ≤ 1099511627776 := by rw [ByteArray.size_extract]; omega
      have HU := Lib.hid (fun w => unused_any (c.extract 1 c.size) x w (by omega) hes)
      cases hB : unusedOk (c.extract 1 c.size) x with
      | false =>
        rw [bits_bad (.inr (.inr (by rw [← hx]; exact hB)))]
        rw [hB] at HU
        clear h0 hx h7 hB hes
        go_enter Tryd.func50, Tryd.ntmps50
        go_wp2_with fail
        go_region
        go_wp2_with (go_at_call 27; (with_reducible refine (HU.out _).mono ?_); rintro e w1 ⟨rfl, rfl⟩)
        refine bodyPost_ret (results_tmp3 rfl _ _ _) rfl ?_
        exact ⟨rfl, (Below.refl _ _).drew⟩
      | true =>
        rw [bits_good h0 (by rw [← hx]; exact h7) (by rw [← hx]; exact hB), ← hx]
        rw [hB] at HU
        clear h0 hx h7 hB hes
        go_enter Tryd.func50, Tryd.ntmps50
        go_wp2_with fail
        go_region
        go_wp2_with (go_at_call 27; (with_reducible refine (HU.out _).mono ?_); rintro e w1 ⟨rfl, rfl⟩)
        refine bodyPost_ret (results_tmp3 rfl _ _ _) rfl ?_
        exact ⟨rfl, (Below.refl _ _).drew⟩
theorem str_cons (y : UInt8) (b : ByteArray) : strOf [y] ++ b = strOf (y :: b.data.toList) := by
  apply ByteArray.ext
  rw [ByteArray.data_append]
  apply Array.ext'
  rw [Array.toList_append]
  rfl
theorem pbits_out {b : ByteArray} {u : Int} (h : u < 0 ∨ 7 < u) : putBitsVal b u = .tuple #[.string ⟨#[]⟩, .int .i64 1] := by
  have e : putBitsErr b u = 1 := by unfold putBitsErr; exact if_pos h
  unfold putBitsVal putBitsStr
  rw [e]; rfl
theorem pbits_bad {b : ByteArray} {u : Nat} (h : u ≤ 7) (k : unusedOk b u = false) : putBitsVal b (u : Int) = .tuple #[.string ⟨#[]⟩, .int .i64 7] := by
  have e : putBitsErr b (u : Int) = 7 := by unfold putBitsErr; rw [if_neg (by omega), Int.toNat_natCast]; exact if_pos k
  unfold putBitsVal putBitsStr
  rw [e]; rfl
theorem pbits_good {b : ByteArray} {y : UInt8} (h : y.toNat ≤ 7) (k : unusedOk b y.toNat = true) : putBitsVal b ((y.toNat : Nat) : Int) = .tuple #[.string (strOf [y] ++ b), .int .i64 0] := by
  have e : putBitsErr b ((y.toNat : Nat) : Int) = 0 := by unfold putBitsErr; rw [if_neg (by omega), Int.toNat_natCast]; exact if_neg (by rw [k]; decide)
  unfold putBitsVal putBitsStr
  rw [e, Int.toNat_natCast, UInt8.ofNat_toNat, str_cons]; rfl

set_option maxRecDepth 100000 in
set_option maxHeartbeats 1000000 in
theorem pbits_any (b : ByteArray) (u : Int) (w : World) (hs : b.size ≤ 1099511627776) :
    Calls Tryd.prog 13 #[.string b, .int .i64 u] w fun e w' => e = .returned (putBitsVal b u) ∧ Below w.heap.size w w' := by
  by_cases h0 : u < 0
  · rw [pbits_out (.inl h0)]
    have d0 : decide (u < 0) = true := by simpa using h0
    clear h0
    go_enter Tryd.func13, Tryd.ntmps13
    go_wp2_with fail
    go_ret2
    exact ⟨rfl, Below.refl _ _⟩
  · by_cases h7 : 7 < u
    · rw [pbits_out (.inr h7)]
      have d0 : decide (u < 0) = false := by simpa using h0
      have d7 : decide (7 < u) = true := by simpa using h7
      clear h0 h7
      go_enter Tryd.func13, Tryd.ntmps13
      go_wp2_with fail
      go_ret2
      exact ⟨rfl, Below.refl _ _⟩
    · obtain ⟨n, rfl⟩ : ∃ n : Nat, u = (n : Int) := ⟨u.toNat, by omega⟩
      have hn : n ≤ 7 := by omega
      obtain ⟨y, rfl⟩ : ∃ y : UInt8, n = y.toNat := ⟨UInt8.ofNat n, by simp; omega⟩
      have d7 : decide ((7 : Int) < ((y.toNat : Nat) : Int)) = false := by simp; omega
      have HU := Lib.hid (fun w => unused_any b y.toNat w hn hs)
      clear h0 h7
      cases hB : unusedOk b y.toNat with
      | false =>
        rw [pbits_bad hn hB]
        rw [hB] at HU
        clear hB
        go_enter Tryd.func13, Tryd.ntmps13
        go_wp2_with (go_at_call 27; (with_reducible refine (HU.out _).mono ?_); rintro e w1 ⟨rfl, rfl⟩)
        go_ret2
        exact ⟨rfl, Below.refl _ _⟩
      | true =>
        rw [pbits_good hn hB]
        rw [hB] at HU
        have hmod : ((y.toNat : Nat) : Int) % 256 = ((y.toNat : Nat) : Int) := by omega
        have hcv := own_str (own_one w y)
        have hsz : (strOf [y]).size = 1 := rfl
        clear hB
        go_enter Tryd.func13, Tryd.ntmps13
        go_wp2_with (go_at_call 27; (with_reducible refine (HU.out _).mono ?_); rintro e w1 ⟨rfl, rfl⟩)
        go_ret2
        exact ⟨rfl, belowNew _ _⟩
end Go.Proofs.YtpmlkofceidnjaaDoor
