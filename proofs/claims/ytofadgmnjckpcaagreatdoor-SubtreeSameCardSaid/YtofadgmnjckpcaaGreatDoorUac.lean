/-
  The contracts of the functions that say of one character or byte whether it is in a set, and of the functions that make a letter small: isAlphanumeric, isUTF8, isIA5 and small of the program, Alnum of the reference.
  The contracts of text.Fold and text.Match: the folded form of a string, and whether two strings have the same; nothing that was there before the call has changed.
  Rows of bytes that can be read and written: what a conversion of a string lays, and stores into it. Nothing is claimed of the program here.
  The contracts of the reference's Lower, Fold and MatchText; nothing that was there before the call has changed.
  DNS names, patterns, bases and mail addresses as lists of bytes; when one lies within another, and that what lies within two bases makes them nested. Nothing is claimed of the program here.
-/
import Derived.Test.YtofadgmnjckpcaaGreatDoorUab
import Derived.Laws.IdiomStrings
namespace Go.Proofs.YtofadgmnjckpcaaGreatDoor
open Go.RowKit

set_option maxHeartbeats 1000000 in
theorem small_any (c : UInt8) (w : World) :
    Calls Tryz.prog 144 #[.int .u8 ((c.toNat : Nat) : Int)] w fun e w' => e = .returned (.int .u8 (((small c).toNat : Nat) : Int)) ∧ w' = w := by
  by_cases h : 65 ≤ c.toNat ∧ c.toNat ≤ 90
  · have HS := Lib.hid (small_big h)
    obtain ⟨n, hn⟩ : ∃ n, n = c.toNat := ⟨_, rfl⟩
    rw [← hn] at h HS ⊢
    have d1 : decide ((65 : Int) ≤ (n : Int)) = true := by simp; omega
    have d2 : decide ((n : Int) ≤ 90) = true := by simp; omega
    obtain ⟨m, hm⟩ : ∃ m, m = (small c).toNat := ⟨_, rfl⟩
    rw [← hm] at HS ⊢
    have HM := Lib.hid (show (m : Int) = (n : Int) - 65 + 97 by have := HS.out; omega)
    clear hm hn
    go_enter Tryz.func144, Tryz.ntmps144
    go_wp2_with fail
    go_ret
    exact ⟨by rw [HM.out]; rfl, rfl⟩
  · have HS := Lib.hid (small_low h)
    obtain ⟨n, hn⟩ : ∃ n, n = c.toNat := ⟨_, rfl⟩
    have HN := Lib.hid (show small c = c → (small c).toNat = n from fun e => by rw [e, hn])
    rw [← hn] at h ⊢
    clear hn
    by_cases h1 : 65 ≤ n
    · have d1 : decide ((65 : Int) ≤ (n : Int)) = true := by simp; omega
      have d2 : decide ((n : Int) ≤ 90) = false := by simp; omega
      clear h
      go_enter Tryz.func144, Tryz.ntmps144
      go_wp2_with fail
      go_ret
      exact ⟨by rw [HN.out HS.out]; rfl, rfl⟩
    · have d1 : decide ((65 : Int) ≤ (n : Int)) = false := by simp; omega
      clear h
      go_enter Tryz.func144, Tryz.ntmps144
      go_wp2_with fail
      go_ret
      exact ⟨by rw [HN.out HS.out]; rfl, rfl⟩
end Go.Proofs.YtofadgmnjckpcaaGreatDoor
namespace Go.Proofs.YtofadgmnjckpcaaGreatDoor
open Go.RowKit

theorem own_form {E : TypeId} {w : World} {B : Nat} {v : Value} {l : List UInt8} (h : OwnB E w B v l) : ∃ a cp, v = .slice a l.length cp := by
  rcases h.2 with ⟨rfl, h0⟩ | ⟨g, cap, cur, rfl, _⟩
  · rw [h0]; exact ⟨_, _, rfl⟩
  · exact ⟨_, _, rfl⟩
theorem take_len (s : ByteArray) {k : Nat} (h : k ≤ s.size) : (s.data.toList.take k).length = k := by
  rw [List.length_take]
  have : s.data.toList.length = s.size := rfl
  omega
theorem take_all (s : ByteArray) {k : Nat} (h : s.size ≤ k) : s.data.toList.take k = s.data.toList := List.take_of_length_le (show s.data.toList.length ≤ k from h)

set_option maxRecDepth 100000 in
set_option maxHeartbeats 2000000 in
theorem fold_any (s : ByteArray) (w : World) (hn : s.size ≤ 1099511627776) :
    Calls Tryz.prog 130 #[.string s] w fun e w' => e = .returned (.string (strOf (foldL s.data.toList))) ∧ Below w.heap.size w w' := by
  obtain ⟨i0, hi, hz0, hz1, hz2⟩ := info_parts byteInfo
  go_enter Tryz.func130, Tryz.ntmps130
  go_wp2_with (at_make; refine wpList_make_own _ rfl _ _ 119 rfl w.heap.size 5 i0 (.int .u8 0) 1 Tryz.underlying119 hi hz0 hz1 .i64 .i64 (s.size : Int) s.size rfl rfl (by omega) (by rw [hz2]; omega) (by unfold maxLen; omega) (Nat.le_refl _) ?_; intro w1 hown1 hgr1; have HO1 := Lib.hid hown1; have HG1 := Lib.hid hgr1; clear hown1 hgr1)
  go_loopw [3, 4, 11] (fun v g i wr => ∃ (k : Nat) (D : List UInt8) (gp : Bool), k ≤ s.size ∧ i = .int .i64 k ∧ g = .bool gp ∧ foldRun (s.data.toList.take k) = (D, gp) ∧ OwnB 5 wr w.heap.size v D ∧ Below w.heap.size w wr) (fun _ _ i _ => s.size - (intOf i).toNat)
  case atStart => exact ⟨0, [], false, Nat.zero_le _, rfl, rfl, rfl, HO1.out, (Below.refl _ _).grown HG1.out (Nat.le_refl _) (fun _ e => by cases e)⟩
  case round =>
    obtain ⟨k, D, gp, hk, rfl, rfl, hD, hown, hb⟩ := hrel
    obtain ⟨a, cp, rfl⟩ := own_form hown
    have HO := Lib.hid hown
    have HB := Lib.hid hb
    have HD := Lib.hid hD
    have hDl : D.length ≤ k := by
      have h1 := foldL_len (s.data.toList.take k)
      rw [take_len s hk] at h1
      unfold foldL at h1
      rwa [hD] at h1
    clear hown hb hD
    by_cases hlt : k < s.size
    · have hd : decide ((k : Int) < (s.size : Int)) = true := by simp; omega
      obtain ⟨c, hc, hcn⟩ := u8at_list s k hlt
      have hix := fun w => run_index_u8 (P := Tryz.prog) Tryz.underlying9 s k hlt (k : Int) rfl w
      rw [hcn] at hix
      have HS := Lib.hid (show foldRun (s.data.toList.take (k + 1)) = foldStep (D, gp) c by rw [take_snoc hc, foldRun_snoc, HD.out])
      clear hc hcn
      by_cases h32 : c = 32
      · have hq : (((c.toNat : Nat) : Int) == 32) = true := by rw [h32]; rfl
        have HN := Lib.hid (show foldRun (s.data.toList.take (k + 1)) = (D, decide (0 < D.length)) by
          rw [HS.out]
          unfold foldStep
          rw [if_pos h32]
          cases D <;> simp)
        clear h32
        go_wp2_with fail
        go_roundw
        case rel => exact ⟨k + 1, D, decide (0 < D.length), by omega, by go_num, by first | rfl | simp, HN.out, HO.out, HB.out⟩
        case measure => simp [intOf]; omega
      · have h32n : ¬ c.toNat = 32 := fun h => h32 (UInt8.toNat_inj.1 h)
        have hq : (((c.toNat : Nat) : Int) == 32) = false := by simp; omega
        obtain ⟨y, hy⟩ : ∃ y, y = small c := ⟨_, rfl⟩
        have HSM := Lib.hid (fun w => small_any c w)
        rw [← hy] at HSM
        cases gp with
        | true =>
          have HN := Lib.hid (show foldRun (s.data.toList.take (k + 1)) = (D ++ [32] ++ [y], false) by
            rw [HS.out]
            unfold foldStep
            rw [if_neg h32, hy]
            rfl)
          clear h32 hy h32n
          go_wp2_with (first
            | (at_builtin; (refine wpList_append_own _ rfl (.tmp 22) (.tmp 23) 119 rfl w.heap.size 5 i0 (.int .u8 0) 1 1 Tryz.underlying119 hi hz0 hz1 hz2 rfl (by decide) _ _ _ rfl (HO.out.alloc _) ⟨wr.heap.size, 0, none⟩ 1 1 [bcell 32] rfl rfl (news_row wr #[bcell 32] 5) (bcells_one [32]) (by unfold maxLen; omega) (by omega) (by simp; have := HB.out.size; omega) ?_); intro v' w2 hown2 hgr2 _; obtain ⟨P1, P2⟩ := out_round HO.out HB.out hown2 hgr2; have HP1 := Lib.hid P1; have HP2 := Lib.hid P2; clear hown2 hgr2 P1 P2)
            | (go_at_call 144; (with_reducible refine (HSM.out _).mono ?_); rintro e w3 ⟨rfl, rfl⟩)
            | (at_builtin; (refine wpList_append_own _ rfl (.tmp 25) (.tmp 30) 119 rfl w.heap.size 5 i0 (.int .u8 0) 1 1 Tryz.underlying119 hi hz0 hz1 hz2 rfl (by decide) _ _ _ rfl (HP1.out.alloc _) ⟨w3.heap.size, 0, none⟩ 1 1 [bcell y] rfl rfl (news_row w3 #[bcell y] 5) (bcells_one [y]) (by simp; unfold maxLen; omega) (by simp; omega) (by simp; have := HP2.out.size; omega) ?_); intro v'' w4 hown2 hgr2 _; obtain ⟨P1, P2⟩ := out_round HP1.out HP2.out hown2 hgr2; have HQ1 := Lib.hid P1; have HQ2 := Lib.hid P2; clear hown2 hgr2 P1 P2))
          go_roundw
          case rel => exact ⟨k + 1, D ++ [32] ++ [y], false, by omega, by go_num, rfl, HN.out, HQ1.out, HQ2.out⟩
          case measure => simp [intOf]; omega
        | false =>
          have HN := Lib.hid (show foldRun (s.data.toList.take (k + 1)) = (D ++ [y], false) by
            rw [HS.out]
            unfold foldStep
            rw [if_neg h32, hy]
            simp)
          clear h32 hy h32n
          go_wp2_with (first
            | (go_at_call 144; (with_reducible refine (HSM.out _).mono ?_); rintro e w3 ⟨rfl, rfl⟩)
            | (at_builtin; (refine wpList_append_own _ rfl (.tmp 25) (.tmp 30) 119 rfl w.heap.size 5 i0 (.int .u8 0) 1 1 Tryz.underlying119 hi hz0 hz1 hz2 rfl (by decide) _ _ _ rfl (HO.out.alloc _) ⟨w3.heap.size, 0, none⟩ 1 1 [bcell y] rfl rfl (news_row w3 #[bcell y] 5) (bcells_one [y]) (by unfold maxLen; omega) (by omega) (by simp; have := HB.out.size; omega) ?_); intro v' w2 hown2 hgr2 _; obtain ⟨P1, P2⟩ := out_round HO.out HB.out hown2 hgr2; have HP1 := Lib.hid P1; have HP2 := Lib.hid P2; clear hown2 hgr2 P1 P2))
          go_roundw
          case rel => exact ⟨k + 1, D ++ [y], false, by omega, by go_num, rfl, HN.out, HP1.out, HP2.out⟩
          case measure => simp [intOf]; omega
    · have ek : k = s.size := by omega
      subst ek
      have hd : decide ((s.size : Int) < (s.size : Int)) = false := by simp
      have hconv := own_str HO.out
      go_wp2_with fail
      go_ret
      refine ⟨?_, HB.out⟩
      have e1 := HD.out
      rw [take_all s (Nat.le_refl _)] at e1
      unfold foldL
      rw [e1]
      rfl

/-- The folded form as a text. -/
def foldS (s : ByteArray) : ByteArray := strOf (foldL s.data.toList)
theorem foldS_size (s : ByteArray) : (foldS s).size ≤ s.size := foldL_len s.data.toList
theorem foldS_any (s : ByteArray) (w : World) (hn : s.size ≤ 1099511627776) :
    Calls Tryz.prog 130 #[.string s] w fun e w' => e = .returned (.string (foldS s)) ∧ Below w.heap.size w w' := fold_any s w hn

theorem toList_inj {a b : ByteArray} : a.toList = b.toList ↔ a = b :=
  ⟨fun h => list_inj (by rw [← toList_eq_list, ← toList_eq_list, h]), fun h => by rw [h]⟩
end Go.Proofs.YtofadgmnjckpcaaGreatDoor
namespace Go.Proofs.YtofadgmnjckpcaaGreatDoor
open Go.RowKit

/-- The bytes l lie from the beginning of block g on, and may be written. -/
def BL (w : World) (g : Nat) (l : List UInt8) : Prop := g < w.heap.size ∧ ∀ j, j < l.length → w.cell? ⟨g, j, none⟩ = some (.int .u8 (((l.getD j 0).toNat : Nat) : Int)) ∧ w.frozen? ⟨g, j, none⟩ = false
theorem addr_ne {g h i j : Nat} (e : g ≠ h) : (⟨g, i, none⟩ : Addr) ≠ ⟨h, j, none⟩ := fun k => e (by injection k)
theorem addr_ne2 {g i j : Nat} (e : i ≠ j) : (⟨g, i, none⟩ : Addr) ≠ ⟨g, j, none⟩ := fun k => e (by injection k)
theorem getD_set_same {α : Type} {l : List α} {j : Nat} (h : j < l.length) (v d : α) : (l.set j v).getD j d = v := by
  rw [List.getD_eq_getElem?_getD]; simp [h]
theorem getD_set_other {α : Type} {l : List α} {i j : Nat} (h : i ≠ j) (v d : α) : (l.set i v).getD j d = l.getD j d := by
  rw [List.getD_eq_getElem?_getD, List.getD_eq_getElem?_getD, List.getElem?_set_ne h]
theorem BL.put {w : World} {g : Nat} {l : List UInt8} (h : BL w g l) {j : Nat} (hj : j < l.length) (b : UInt8) : BL (w.setCell ⟨g, j, none⟩ (.int .u8 ((b.toNat : Nat) : Int))) g (l.set j b) := by
  refine ⟨by simpa using h.1, fun i hi => ?_⟩
  rw [List.length_set] at hi
  rw [World.frozen?_setCell]
  refine ⟨?_, (h.2 i hi).2⟩
  by_cases e : j = i
  · subst e
    rw [World.cell?_setCell_same _ _ _ (h.2 j hj).1, getD_set_same hj]
  · rw [World.cell?_setCell_other _ _ _ _ (addr_ne2 e), getD_set_other e]
    exact (h.2 i hi).1
theorem BL.other {w : World} {g : Nat} {l : List UInt8} (h : BL w g l) {k : Nat} (hk : k ≠ g) (j : Nat) (v : Value) : BL (w.setCell ⟨k, j, none⟩ v) g l := by
  refine ⟨by simpa using h.1, fun i hi => ?_⟩
  rw [World.frozen?_setCell, World.cell?_setCell_other _ _ _ _ (addr_ne hk)]
  exact h.2 i hi
theorem BL.drew {w : World} {g : Nat} {l : List UInt8} (h : BL w g l) : BL w.drew g l := h
theorem BL.new (w : World) (s : ByteArray) (cap : Nat) (t : TypeId) : BL (w.alloc (.cells (bytesRow s cap) t ((bytesRow s cap).size, (bytesRow s cap).size + 1))) w.heap.size s.data.toList := by
  refine ⟨by simp, fun j hj => ?_⟩
  have hj2 : j < s.data.size := hj
  refine ⟨?_, ?_⟩
  · rw [cell_of_row _ _ j _ _ _ (heap_alloc_new w _)]
    unfold bytesRow
    rw [Array.getElem?_append_left (by simpa using hj2)]
    rw [List.getD_eq_getElem?_getD]
    simp
    exact ⟨s.data[j], Array.getElem?_eq_getElem hj2, by rw [Array.getElem?_eq_getElem hj2]; rfl⟩
  · rw [World.frozen?_alloc_mark]
    have : (bytesRow s cap).size ≥ s.data.size := by unfold bytesRow; simp
    have h2 : ¬ (bytesRow s cap).size ≤ j := by omega
    rw [decide_eq_false h2]; rfl

theorem BL.text {w : World} {g : Nat} {l : List UInt8} (h : BL w g l) (n cap : Nat) (hn : n = l.length) : (convert 119 9 (.slice (some ⟨g, 0, none⟩) n cap)).run Tryz.prog w = .ok (.string (strOf l)) w := by
  subst hn
  refine run_convert_bytes_back w _ _ _ ⟨g, 0, none⟩ cap l Tryz.underlying119 Tryz.underlying5 Tryz.underlying9 (fun j hj => ?_)
  have hadd : (⟨g, 0, none⟩ : Addr).add j = ⟨g, j, none⟩ := by unfold Addr.add; split <;> simp_all
  rw [hadd, (h.2 j hj).1, List.getD_eq_getElem?_getD, List.getElem?_eq_getElem hj]
  rfl

theorem conv_made (L : List UInt8) (wb : World) : ∃ cap W, (convert 9 119 (.string (strOf L))).run Tryz.prog wb = .ok (.slice (some ⟨wb.heap.size, 0, none⟩) L.length cap) W ∧ BL W wb.heap.size L ∧ Below wb.heap.size wb W := by
  refine ⟨_, _, run_bytes_of_string wb 9 119 5 (strOf L) Tryz.underlying9 Tryz.underlying119 Tryz.underlying5, ?_, ?_⟩
  · exact BL.new wb.drew (strOf L) _ _
  · exact (Below.refl _ wb).drew.alloc (Nat.le_refl _) _
theorem BL.putv {w : World} {g : Nat} {l : List UInt8} (h : BL w g l) {j : Nat} (hj : j < l.length) (b : UInt8) (z : Int) (hz : z = ((b.toNat : Nat) : Int)) : BL (w.setCell ⟨g, j, none⟩ (.int .u8 z)) g (l.set j b) := by
  subst hz
  exact h.put hj b
theorem BL.below {w w' : World} {g : Nat} {l : List UInt8} (h : BL w g l) (hb : Below w.heap.size w w') : BL w' g l :=
  ⟨Nat.lt_of_lt_of_le h.1 hb.size, fun j hj => ⟨(hb.cell (p := ⟨g, j, none⟩) h.1).trans (h.2 j hj).1, (hb.frozen (p := ⟨g, j, none⟩) h.1).trans (h.2 j hj).2⟩⟩
end Go.Proofs.YtofadgmnjckpcaaGreatDoor
namespace Go.Proofs.YtofadgmnjckpcaaGreatDoor
open Go.RowKit

end Go.Proofs.YtofadgmnjckpcaaGreatDoor
namespace Go.Proofs.YtofadgmnjckpcaaGreatDoor
open Go.RowKit

def lowL (l : List UInt8) : List UInt8 := l.map small
def pcsL (c : UInt8) (l : List UInt8) : List (List UInt8) := (pcsS c (strOf l)).map (·.data.toList)
theorem pcsL_spl (c : UInt8) (l : List UInt8) : Spl c l (pcsL c l) := pcsS_spl c (strOf l)
def lbl (p : List UInt8) : Bool := decide (1 ≤ p.length) && decide (p.length ≤ 63) && p.head? != some 45 && p.getLast? != some 45 && p.all (fun c => alnum c.toNat || c == 45)
def dnsB (l : List UInt8) : Bool := decide (l.length ≤ 128) && (pcsL 46 l).all lbl
def patB (l : List UInt8) : Bool := dnsB l || (decide (l.length ≤ 128) && decide (2 < l.length) && decide (l.take 2 = [42, 46]) && dnsB (l.drop 2) && decide (2 < (pcsL 46 l).length))
def baseB (l : List UInt8) : Bool := decide (l = []) || dnsB l
def alikeB (a b : List UInt8) : Bool := decide (lowL a = lowL b)
def endsB (s t : List UInt8) : Bool := decide (t.length ≤ s.length) && alikeB (s.drop (s.length - t.length)) t
def dnsWithinB (s b : List UInt8) : Bool := (decide (s = []) || patB s) && baseB b && (decide (b = []) || alikeB s b || endsB s (46 :: b))
def signsL : List UInt8 := [33, 35, 36, 37, 38, 39, 42, 43, 45, 47, 61, 63, 94, 95, 96, 123, 124, 125, 126, 46]
def atK (l : List UInt8) : Nat := (l.takeWhile (fun c => c != 64)).length
/-- The local part is well-formed: allowed bytes, and no two points one after the other. -/
def localB : List UInt8 → Bool
  | [] => true
  | c :: r => (alnum c.toNat || signsL.contains c) && !(c == 46 && r.head? == some 46) && localB r
def mailB (l : List UInt8) : Bool := decide (l.length ≤ 128) && decide (1 ≤ atK l) && decide (atK l ≤ 64) && decide (atK l < l.length) && dnsB (l.drop (atK l + 1)) && l.head? != some 46 && (l.take (atK l)).getLast? != some 46 && localB (l.take (atK l))
def localP (l : List UInt8) : List UInt8 := l.take (atK l)
def domP (l : List UInt8) : List UInt8 := l.drop (atK l + 1)
def mailBaseB (l : List UInt8) : Bool := mailB l || dnsB l || (decide (l.length ≤ 128) && decide (1 < l.length) && l.head? == some 46 && dnsB (l.drop 1))
def mailMatchB (a b : List UInt8) : Bool := mailB a && mailB b && decide (localP a = localP b) && alikeB (domP a) (domP b)
def relB (d b : List UInt8) : Bool := alikeB d b || (b.head? == some 46 && endsB d b)
def mailWithinB (s b : List UInt8) : Bool :=
  mailBaseB b && (if mailB s = true then (if mailB b = true then mailMatchB s b else relB (domP s) b) else mailBaseB s && !mailB b && relB s b)

/-! ### Ends -/
theorem small_dot (c : UInt8) : small c = 46 ↔ c = 46 := by
  by_cases h : 65 ≤ c.toNat ∧ c.toNat ≤ 90
  · constructor
    · intro e
      have h1 := small_big h
      rw [e] at h1
      have : (46 : UInt8).toNat = 46 := rfl
      omega
    · intro e
      subst e
      exact absurd h (by decide)
  · rw [small_low h]
theorem lowL_length (l : List UInt8) : (lowL l).length = l.length := List.length_map _
theorem lowL_nil {l : List UInt8} : lowL l = [] ↔ l = [] := List.map_eq_nil_iff
theorem lowL_head (l : List UInt8) : (lowL l).head? = some 46 ↔ l.head? = some 46 := by
  cases l with
  | nil => exact ⟨fun h => by (cases h), fun h => by (cases h)⟩
  | cons c r =>
    show some (small c) = some 46 ↔ some c = some 46
    rw [Option.some.injEq, Option.some.injEq]
    exact small_dot c
theorem alikeB_iff (a b : List UInt8) : alikeB a b = true ↔ lowL a = lowL b := by unfold alikeB; rw [decide_eq_true_iff]
theorem endsB_iff (s t : List UInt8) : endsB s t = true ↔ lowL t <:+ lowL s := by
  unfold endsB
  rw [Bool.and_eq_true, decide_eq_true_iff, alikeB_iff]
  constructor
  · rintro ⟨h1, h2⟩
    rw [← h2]
    have e : lowL s = lowL (s.take (s.length - t.length)) ++ lowL (s.drop (s.length - t.length)) := by
      unfold lowL
      rw [← List.map_append, List.take_append_drop]
    rw [e]
    exact List.suffix_append _ _
  · rintro ⟨p, hp⟩
    have hl := congrArg List.length hp
    rw [List.length_append, lowL_length, lowL_length] at hl
    refine ⟨by omega, ?_⟩
    have e : lowL (s.drop (s.length - t.length)) = (lowL s).drop (s.length - t.length) := by unfold lowL; rw [List.map_drop]
    rw [e, ← hp, show s.length - t.length = p.length by omega]
    simp
/-- One list lies within another one: it is the other, or ends with a point and it; everything lies within nothing. -/
def Rel (S X : List UInt8) : Prop := X = [] ∨ S = X ∨ (46 :: X) <:+ S
theorem Rel.nested {S X Y : List UInt8} (h : Rel S X) (k : Rel S Y) : Rel X Y ∨ Rel Y X := by
  rcases h with h | h | h
  · exact .inr (.inl h)
  · exact .inl (h ▸ k)
  · rcases k with k | k | k
    · exact .inl (.inl k)
    · exact .inr (k ▸ .inr (.inr h))
    · rcases List.suffix_or_suffix_of_suffix h k with g | g
      · rcases List.suffix_cons_iff.1 g with e | e
        · exact .inl (.inr (.inl (List.cons.inj e).2))
        · exact .inr (.inr (.inr e))
      · rcases List.suffix_cons_iff.1 g with e | e
        · exact .inl (.inr (.inl (List.cons.inj e).2.symm))
        · exact .inl (.inr (.inr e))
theorem Rel.trans {A B C : List UInt8} (h : Rel A B) (k : Rel B C) : Rel A C := by
  rcases k with k | k | k
  · exact .inl k
  · exact k ▸ h
  · rcases h with h | h | h
    · rw [h] at k
      have := k.length_le
      simp at this
    · exact .inr (.inr (h ▸ k))
    · exact .inr (.inr (k.trans ((List.suffix_cons _ _).trans h)))
theorem dnsWithin_iff (s b : List UInt8) : dnsWithinB s b = true ↔ (s = [] ∨ patB s = true) ∧ baseB b = true ∧ Rel (lowL s) (lowL b) := by
  unfold dnsWithinB Rel
  rw [Bool.and_eq_true, Bool.and_eq_true, Bool.or_eq_true, Bool.or_eq_true, Bool.or_eq_true, decide_eq_true_iff, decide_eq_true_iff, alikeB_iff, endsB_iff, lowL_nil, and_assoc, or_assoc]
  rfl
theorem base_pat {b : List UInt8} (h : baseB b = true) : b = [] ∨ patB b = true := by
  unfold baseB at h
  rw [Bool.or_eq_true, decide_eq_true_iff] at h
  exact h.imp id fun h => by unfold patB; rw [h]; rfl
theorem dns_nested {s x y : List UInt8} (h : dnsWithinB s x = true) (k : dnsWithinB s y = true) : dnsWithinB x y = true ∨ dnsWithinB y x = true := by
  rw [dnsWithin_iff] at h k
  rw [dnsWithin_iff, dnsWithin_iff]
  rcases h.2.2.nested k.2.2 with g | g
  · exact .inl ⟨base_pat h.2.1, k.2.1, g⟩
  · exact .inr ⟨base_pat k.2.1, h.2.1, g⟩
theorem dns_chain {a b c : List UInt8} (h : dnsWithinB a b = true) (k : dnsWithinB b c = true) : dnsWithinB a c = true := by
  rw [dnsWithin_iff] at *
  exact ⟨h.1, k.2.1, h.2.2.trans k.2.2⟩
def RelM (D B : List UInt8) : Prop := D = B ∨ (B.head? = some 46 ∧ B <:+ D)
theorem RelM.nested {D P Q : List UInt8} (h : RelM D P) (k : RelM D Q) : RelM P Q ∨ RelM Q P := by
  rcases h with h | ⟨h1, h2⟩
  · exact .inl (h ▸ k)
  · rcases k with k | ⟨k1, k2⟩
    · exact .inr (k ▸ .inr ⟨h1, h2⟩)
    · rcases List.suffix_or_suffix_of_suffix h2 k2 with g | g
      · exact .inr (.inr ⟨h1, g⟩)
      · exact .inl (.inr ⟨k1, g⟩)
theorem RelM.trans {A B C : List UInt8} (h : RelM A B) (k : RelM B C) : RelM A C := by
  rcases k with k | ⟨k1, k2⟩
  · exact k ▸ h
  · rcases h with h | ⟨_, h2⟩
    · exact .inr ⟨k1, h ▸ k2⟩
    · exact .inr ⟨k1, k2.trans h2⟩
theorem relB_iff (d b : List UInt8) : relB d b = true ↔ RelM (lowL d) (lowL b) := by
  unfold relB RelM
  rw [Bool.or_eq_true, Bool.and_eq_true, alikeB_iff, endsB_iff, beq_iff_eq, lowL_head]
theorem match_iffM (a b : List UInt8) : mailMatchB a b = true ↔ mailB a = true ∧ mailB b = true ∧ localP a = localP b ∧ lowL (domP a) = lowL (domP b) := by
  unfold mailMatchB
  rw [Bool.and_eq_true, Bool.and_eq_true, Bool.and_eq_true, decide_eq_true_iff, alikeB_iff, and_assoc, and_assoc]
/-- Within, for mail addresses and for the others. -/
theorem within_mail {s b : List UInt8} (hs : mailB s = true) (hb : mailB b = true) : mailWithinB s b = true ↔ localP s = localP b ∧ lowL (domP s) = lowL (domP b) := by
  unfold mailWithinB
  rw [if_pos hs, if_pos hb, Bool.and_eq_true, match_iffM]
  exact ⟨fun h => h.2.2.2, fun h => ⟨by unfold mailBaseB; rw [hb]; rfl, hs, hb, h⟩⟩
theorem within_dom {s b : List UInt8} (hs : mailB s = true) (hb : mailB b = false) : mailWithinB s b = true ↔ mailBaseB b = true ∧ RelM (lowL (domP s)) (lowL b) := by
  unfold mailWithinB
  rw [if_pos hs, hb, if_neg (by simp), Bool.and_eq_true, relB_iff]
theorem within_no {s b : List UInt8} (hs : mailB s = false) : mailWithinB s b = true ↔ mailBaseB b = true ∧ mailBaseB s = true ∧ mailB b = false ∧ RelM (lowL s) (lowL b) := by
  unfold mailWithinB
  rw [hs, if_neg (by simp), Bool.and_eq_true, Bool.and_eq_true, Bool.and_eq_true, relB_iff, Bool.not_eq_true', and_assoc]
theorem mail_nested {s p q : List UInt8} (h : mailWithinB s p = true) (k : mailWithinB s q = true) : mailWithinB p q = true ∨ mailWithinB q p = true := by
  cases hs : mailB s with
  | true =>
    cases hp : mailB p with
    | true =>
      rw [within_mail hs hp] at h
      cases hq : mailB q with
      | true =>
        rw [within_mail hs hq] at k
        exact .inl ((within_mail hp hq).2 ⟨h.1.symm.trans k.1, h.2.symm.trans k.2⟩)
      | false =>
        rw [within_dom hs hq] at k
        exact .inl ((within_dom hp hq).2 ⟨k.1, h.2 ▸ k.2⟩)
    | false =>
      rw [within_dom hs hp] at h
      cases hq : mailB q with
      | true =>
        rw [within_mail hs hq] at k
        exact .inr ((within_dom hq hp).2 ⟨h.1, k.2 ▸ h.2⟩)
      | false =>
        rw [within_dom hs hq] at k
        rcases h.2.nested k.2 with g | g
        · exact .inl ((within_no hp).2 ⟨k.1, h.1, hq, g⟩)
        · exact .inr ((within_no hq).2 ⟨h.1, k.1, hp, g⟩)
  | false =>
    rw [within_no hs] at h k
    rcases h.2.2.2.nested k.2.2.2 with g | g
    · exact .inl ((within_no h.2.2.1).2 ⟨k.1, h.1, k.2.2.1, g⟩)
    · exact .inr ((within_no k.2.2.1).2 ⟨h.1, k.1, h.2.2.1, g⟩)
theorem mail_chain {x y z : List UInt8} (h : mailWithinB x y = true) (k : mailWithinB y z = true) : mailWithinB x z = true := by
  cases hx : mailB x with
  | true =>
    cases hy : mailB y with
    | true =>
      rw [within_mail hx hy] at h
      cases hz : mailB z with
      | true =>
        rw [within_mail hy hz] at k
        exact (within_mail hx hz).2 ⟨h.1.trans k.1, h.2.trans k.2⟩
      | false =>
        rw [within_dom hy hz] at k
        exact (within_dom hx hz).2 ⟨k.1, h.2 ▸ k.2⟩
    | false =>
      rw [within_dom hx hy] at h
      rw [within_no hy] at k
      exact (within_dom hx k.2.2.1).2 ⟨k.1, h.2.trans k.2.2.2⟩
  | false =>
    rw [within_no hx] at h
    rw [within_no h.2.2.1] at k
    exact (within_no hx).2 ⟨k.1, h.2.1, k.2.2.1, h.2.2.2.trans k.2.2.2⟩
end Go.Proofs.YtofadgmnjckpcaaGreatDoor
