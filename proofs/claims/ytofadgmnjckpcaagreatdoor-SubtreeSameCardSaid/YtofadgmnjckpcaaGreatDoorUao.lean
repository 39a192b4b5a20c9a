/-
  Constraints on names in memory: a row of pairs of rows of general names; and one name after the other. Nothing is claimed of the program here.
  The contracts of the reference's In, limits and Permits.
  The contracts of the program's functions that say of one byte whether it may stand in a label or in a local part, and of consists: whether each byte of a text is in a set.
-/
import Derived.Test.YtofadgmnjckpcaaGreatDoorUan
import Derived.Test.YtofadgmnjckpcaaGreatDoorUak
import Derived.Test.YtofadgmnjckpcaaGreatDoorUad
import Derived.Test.YtofadgmnjckpcaaGreatDoorUai
import Derived.Test.YtofadgmnjckpcaaGreatDoorUal
namespace Go.Proofs.YtofadgmnjckpcaaGreatDoor
open Go.RowKit

abbrev Sub := List Gn × List Gn
def noSub : Sub := ([], [])
/-- At the address lie the constraints l. -/
def SLies (w : World) (a : Option Addr) (l : List Sub) : Prop :=
  l = [] ∨ ∃ b o, a = some ⟨b, o, none⟩ ∧ ∀ i, i < l.length → ∃ a1 c1 a2 c2, w.cell? ⟨b, o + i * 2, none⟩ = some (.slice a1 (l.getD i noSub).1.length c1) ∧ w.cell? ⟨b, o + i * 2 + 1, none⟩ = some (.slice a2 (l.getD i noSub).2.length c2) ∧
    ((l.getD i noSub).1.length ≤ c1 ∧ GLies w a1 (l.getD i noSub).1) ∧ (l.getD i noSub).2.length ≤ c2 ∧ GLies w a2 (l.getD i noSub).2
theorem SLies.below {w w' : World} {a : Option Addr} {l : List Sub} (h : SLies w a l) (hb : Below w.heap.size w w') : SLies w' a l := by
  rcases h with h | ⟨b, o, h1, h2⟩
  · exact .inl h
  · refine .inr ⟨b, o, h1, fun i hi => ?_⟩
    obtain ⟨a1, c1, a2, c2, e1, e2, ⟨h3, h4⟩, h5, h6⟩ := h2 i hi
    exact ⟨a1, c1, a2, c2, (hb.cell (block_lt e1)).trans e1, (hb.cell (block_lt e2)).trans e2, ⟨h3, h4.below hb⟩, h5, h6.below hb⟩
theorem SLies.at {w : World} {a : Option Addr} {l : List Sub} (h : SLies w a l) (k : Nat) (hk : k < l.length) : ∃ b o, a = some ⟨b, o, none⟩ ∧ b < w.heap.size ∧ ∃ a1 c1 a2 c2, w.cell? ⟨b, o + k * 2, none⟩ = some (.slice a1 (l.getD k noSub).1.length c1) ∧ w.cell? ⟨b, o + k * 2 + 1, none⟩ = some (.slice a2 (l.getD k noSub).2.length c2) ∧
    ((l.getD k noSub).1.length ≤ c1 ∧ GLies w a1 (l.getD k noSub).1) ∧ (l.getD k noSub).2.length ≤ c2 ∧ GLies w a2 (l.getD k noSub).2 := by
  rcases h with h | ⟨b, o, h1, h2⟩
  · rw [h] at hk; exact absurd hk (Nat.not_lt_zero _)
  · obtain ⟨a1, c1, a2, c2, e1, e2, h3, h4⟩ := h2 k hk
    exact ⟨b, o, h1, block_lt e1, a1, c1, a2, c2, e1, e2, h3, h4⟩
/-! ### One name after the other -/
theorem perG_step (g : Gn) : ∀ (l : List Sub) (k : Nat), k < l.length → perG (l.drop k) g = (!(inG g (l.getD k noSub).2 || limG (l.getD k noSub).1 g.1 && !inG g (l.getD k noSub).1) && perG (l.drop (k + 1)) g)
  | [], k, h => absurd h (Nat.not_lt_zero _)
  | b :: r, 0, _ => rfl
  | b :: r, k + 1, h => by
    have := perG_step g r k (by simpa using h)
    simpa using this
/-- Is one that is the same among the first k? -/
theorem addG_cases (l : List Gn) (g : Gn) : (l.any (fun x => sG x g) = true ∧ addG l g = l) ∨ (l.any (fun x => sG x g) = false ∧ addG l g = l ++ [g]) := by
  unfold addG
  cases l.any (fun x => sG x g) with
  | true => exact .inl ⟨rfl, if_pos rfl⟩
  | false => exact .inr ⟨rfl, if_neg (by decide)⟩
/-! ### What the generator makes -/
/-- Bounds under which the functions on general names are known. -/
def SmG (g : Gn) : Prop := g.2.1.length ≤ 100000 ∧ SmallN g.2.2
def SmL (l : List Gn) : Prop := ∀ g ∈ l, SmG g
def SmS (L : List Sub) : Prop := ∀ s ∈ L, SmL s.1 ∧ SmL s.2
theorem SmL.at {l : List Gn} (h : SmL l) {i : Nat} (hi : i < l.length) : SmG (l.getD i noG) := by
  rw [List.getD_eq_getElem?_getD, List.getElem?_eq_getElem hi]; exact h _ (List.getElem_mem hi)
theorem SmS.at {l : List Sub} (h : SmS l) {i : Nat} (hi : i < l.length) : SmL (l.getD i noSub).1 ∧ SmL (l.getD i noSub).2 := by
  rw [List.getD_eq_getElem?_getD, List.getElem?_eq_getElem hi]; exact h _ (List.getElem_mem hi)
def BsG (g : Gn) : Prop := BseOk g.1 g.2.1 g.2.2
/-- Constraints of the generator. -/
def GenB (s : Sub) : Prop := s.1.length ≤ 3 ∧ s.2.length ≤ 2 ∧ ¬ (s.1.length = 0 ∧ s.2.length = 0) ∧ (∀ g ∈ s.1, BsG g) ∧ ∀ g ∈ s.2, BsG g
set_option maxRecDepth 100000 in
theorem bs_base {g : Gn} (h : BsG g) : BaseG g.1 g.2.1 := by
  obtain ⟨k, t, n⟩ := g
  rcases h with ⟨h0, h, _⟩ | ⟨h0, h, _⟩ | ⟨h0, h, _⟩ | ⟨h0, _, _⟩
  · simp only at h0 h; subst h0; exact .inr ((show ∀ t ∈ bseMail, mailBaseB t = true by decide +kernel) t h)
  · simp only at h0 h; subst h0; exact .inr ((show ∀ t ∈ bseDns, baseB t = true by decide +kernel) t h)
  · simp only at h0 h; subst h0; exact .inr ((show ∀ t ∈ bseAddr, rangeB t = true by decide +kernel) t h)
  · exact .inl h0
theorem gen_kind {k : Int} {t : List UInt8} {n : Nm} (h : GenOk k t n) : k ∈ kindsG := by
  rcases h with ⟨h, _⟩ | ⟨h, _⟩ | ⟨h, _⟩ | ⟨h, _⟩ <;> subst h <;> decide
/-- A state of constraints that the generator makes: the reduced state permits what it permits. -/
theorem reduce_genB {st : List Sub} (h : ∀ s ∈ st, GenB s) {k : Int} {t : List UInt8} {n : Nm} (hg : k ∈ kindsG) : perR (limitedG st) (permG st) (exclG st) (k, t, n) = perG st (k, t, n) :=
  reduce_same (fun s hs => ⟨fun b hb => bs_base ((h s hs).2.2.2.1 b hb), fun b hb => bs_base ((h s hs).2.2.2.2 b hb)⟩) hg
end Go.Proofs.YtofadgmnjckpcaaGreatDoor
namespace Go.Proofs.YtofadgmnjckpcaaGreatDoor
open Go.RowKit

theorem two_facts {w : World} {g : Nat} {x y : Value} {t : TypeId} (h : w.heap[g]? = some (.cells #[x, y] t (0, 0))) :
    w.cell? ⟨g, 0, none⟩ = some x ∧ w.cell? ⟨g, 1, none⟩ = some y ∧ g < w.heap.size := by
  refine ⟨?_, ?_, (Array.getElem?_eq_some_iff.1 h).1⟩ <;> (rw [Lib.cell_of_heap h]; rfl)
theorem heap_first (w : World) (o p : Obj) : ((w.alloc o).alloc p).heap[w.heap.size]? = (w.alloc o).heap[w.heap.size]? := (belowNew (w.alloc o) p).block _ (by simp)
theorem heap_second (w : World) (o : Obj) (cs : Array Value) (T : TypeId) : ((w.alloc o).alloc (.cells cs T)).heap[w.heap.size + 1]? = some (.cells cs T (0, 0)) := by
  have := heap_alloc_new (w.alloc o) (.cells cs T)
  simpa using this
end Go.Proofs.YtofadgmnjckpcaaGreatDoor
namespace Go.Proofs.YtofadgmnjckpcaaGreatDoor
open Go.RowKit

theorem pidx_any (s : ByteArray) (c : UInt8) (w : World) : Calls Tryz.prog 141 #[.string s, .int .u8 ((c.toNat : Nat) : Int)] w fun e w' => e = .returned (.int .i64 (Lib.indexByte s.data.toList c)) ∧ w' = w := by
  have h := Any.strings_IndexByte lays137 s ((c.toNat : Nat) : Int) w
  have e : ((c.toNat : Nat) : Int).toNat.toUInt8 = c := by simp
  rw [e] at h
  exact h
set_option maxHeartbeats 1000000 in
theorem palnum_any (n : Nat) (w : World) :
    Calls Tryz.prog 140 #[.int .u8 (n : Int)] w fun e w' => e = .returned (.bool (alnum n)) ∧ w' = w := by
  rcases (by omega : (n < 48) ∨ (48 ≤ n ∧ n ≤ 57) ∨ (58 ≤ n ∧ n ≤ 64) ∨ (65 ≤ n ∧ n ≤ 90) ∨ (91 ≤ n ∧ n ≤ 96) ∨ (97 ≤ n ∧ n ≤ 122) ∨ (123 ≤ n)) with h | h | h | h | h | h | h
  · have hr : alnum n = false := by simp [alnum]; omega
    have d0 : decide ((65 : Int) ≤ (n : Int)) = false := by simp; omega
    have d1 : decide ((n : Int) ≤ 90) = true := by simp; omega
    have d2 : decide ((97 : Int) ≤ (n : Int)) = false := by simp; omega
    have d3 : decide ((n : Int) ≤ 122) = true := by simp; omega
    have d4 : decide ((48 : Int) ≤ (n : Int)) = false := by simp; omega
    have d5 : decide ((n : Int) ≤ 57) = true := by simp; omega
    have HR := Lib.hid hr
    clear hr h
    go_enter Tryz.func140, Tryz.ntmps140
    go_wp2_with fail
    go_ret
    exact ⟨by rw [HR.out]; rfl, rfl⟩
  · have hr : alnum n = true := by simp [alnum]; omega
    have d0 : decide ((65 : Int) ≤ (n : Int)) = false := by simp; omega
    have d1 : decide ((n : Int) ≤ 90) = true := by simp; omega
    have d2 : decide ((97 : Int) ≤ (n : Int)) = false := by simp; omega
    have d3 : decide ((n : Int) ≤ 122) = true := by simp; omega
    have d4 : decide ((48 : Int) ≤ (n : Int)) = true := by simp; omega
    have d5 : decide ((n : Int) ≤ 57) = true := by simp; omega
    have HR := Lib.hid hr
    clear hr h
    go_enter Tryz.func140, Tryz.ntmps140
    go_wp2_with fail
    go_ret
    exact ⟨by rw [HR.out]; rfl, rfl⟩
  · have hr : alnum n = false := by simp [alnum]; omega
    have d0 : decide ((65 : Int) ≤ (n : Int)) = false := by simp; omega
    have d1 : decide ((n : Int) ≤ 90) = true := by simp; omega
    have d2 : decide ((97 : Int) ≤ (n : Int)) = false := by simp; omega
    have d3 : decide ((n : Int) ≤ 122) = true := by simp; omega
    have d4 : decide ((48 : Int) ≤ (n : Int)) = true := by simp; omega
    have d5 : decide ((n : Int) ≤ 57) = false := by simp; omega
    have HR := Lib.hid hr
    clear hr h
    go_enter Tryz.func140, Tryz.ntmps140
    go_wp2_with fail
    go_ret
    exact ⟨by rw [HR.out]; rfl, rfl⟩
  · have hr : alnum n = true := by simp [alnum]; omega
    have d0 : decide ((65 : Int) ≤ (n : Int)) = true := by simp; omega
    have d1 : decide ((n : Int) ≤ 90) = true := by simp; omega
    have d2 : decide ((97 : Int) ≤ (n : Int)) = false := by simp; omega
    have d3 : decide ((n : Int) ≤ 122) = true := by simp; omega
    have d4 : decide ((48 : Int) ≤ (n : Int)) = true := by simp; omega
    have d5 : decide ((n : Int) ≤ 57) = false := by simp; omega
    have HR := Lib.hid hr
    clear hr h
    go_enter Tryz.func140, Tryz.ntmps140
    go_wp2_with fail
    go_ret
    exact ⟨by rw [HR.out]; rfl, rfl⟩
  · have hr : alnum n = false := by simp [alnum]; omega
    have d0 : decide ((65 : Int) ≤ (n : Int)) = true := by simp; omega
    have d1 : decide ((n : Int) ≤ 90) = false := by simp; omega
    have d2 : decide ((97 : Int) ≤ (n : Int)) = false := by simp; omega
    have d3 : decide ((n : Int) ≤ 122) = true := by simp; omega
    have d4 : decide ((48 : Int) ≤ (n : Int)) = true := by simp; omega
    have d5 : decide ((n : Int) ≤ 57) = false := by simp; omega
    have HR := Lib.hid hr
    clear hr h
    go_enter Tryz.func140, Tryz.ntmps140
    go_wp2_with fail
    go_ret
    exact ⟨by rw [HR.out]; rfl, rfl⟩
  · have hr : alnum n = true := by simp [alnum]; omega
    have d0 : decide ((65 : Int) ≤ (n : Int)) = true := by simp; omega
    have d1 : decide ((n : Int) ≤ 90) = false := by simp; omega
    have d2 : decide ((97 : Int) ≤ (n : Int)) = true := by simp; omega
    have d3 : decide ((n : Int) ≤ 122) = true := by simp; omega
    have d4 : decide ((48 : Int) ≤ (n : Int)) = true := by simp; omega
    have d5 : decide ((n : Int) ≤ 57) = false := by simp; omega
    have HR := Lib.hid hr
    clear hr h
    go_enter Tryz.func140, Tryz.ntmps140
    go_wp2_with fail
    go_ret
    exact ⟨by rw [HR.out]; rfl, rfl⟩
  · have hr : alnum n = false := by simp [alnum]; omega
    have d0 : decide ((65 : Int) ≤ (n : Int)) = true := by simp; omega
    have d1 : decide ((n : Int) ≤ 90) = false := by simp; omega
    have d2 : decide ((97 : Int) ≤ (n : Int)) = true := by simp; omega
    have d3 : decide ((n : Int) ≤ 122) = false := by simp; omega
    have d4 : decide ((48 : Int) ≤ (n : Int)) = true := by simp; omega
    have d5 : decide ((n : Int) ≤ 57) = false := by simp; omega
    have HR := Lib.hid hr
    clear hr h
    go_enter Tryz.func140, Tryz.ntmps140
    go_wp2_with fail
    go_ret
    exact ⟨by rw [HR.out]; rfl, rfl⟩


theorem palnum_is {c : UInt8} {b : Bool} (h : alnum c.toNat = b) (w : World) : Calls Tryz.prog 140 #[.int .u8 ((c.toNat : Nat) : Int)] w fun e w' => e = .returned (.bool b) ∧ w' = w := by
  have := palnum_any c.toNat w
  rwa [h] at this
set_option maxHeartbeats 1000000 in
theorem plb_any (c : UInt8) (w : World) : Calls Tryz.prog 143 #[.int .u8 ((c.toNat : Nat) : Int)] w fun e w' => e = .returned (.bool (lblB c)) ∧ w' = w := by
  cases ha : alnum c.toNat with
  | true =>
    have HR := Lib.hid (show lblB c = true by unfold lblB; rw [ha]; rfl)
    have HA := Lib.hid (fun w => palnum_is ha w)
    clear ha
    go_enter Tryz.func143, Tryz.ntmps143
    go_wp2_with (go_at_call 140; (with_reducible refine (HA.out _).mono ?_); rintro e w1 ⟨rfl, rfl⟩)
    go_ret
    exact ⟨by rw [HR.out]; rfl, rfl⟩
  | false =>
    have HA := Lib.hid (fun w => palnum_is ha w)
    by_cases h : c = 45
    · have d : (((c.toNat : Nat) : Int) == (45 : Int)) = true := by rw [h]; rfl
      have HR := Lib.hid (show lblB c = true by unfold lblB; rw [h]; rfl)
      clear ha h
      go_enter Tryz.func143, Tryz.ntmps143
      go_wp2_with (go_at_call 140; (with_reducible refine (HA.out _).mono ?_); rintro e w1 ⟨rfl, rfl⟩)
      go_ret
      exact ⟨by rw [HR.out]; rfl, rfl⟩
    · have d : (((c.toNat : Nat) : Int) == (45 : Int)) = false := by
        have : ¬ c.toNat = 45 := fun k => h (UInt8.toNat_inj.1 k)
        simp; omega
      have HR := Lib.hid (show lblB c = false by unfold lblB; rw [ha, beq_eq_false_iff_ne.2 h]; rfl)
      clear ha h
      go_enter Tryz.func143, Tryz.ntmps143
      go_wp2_with (go_at_call 140; (with_reducible refine (HA.out _).mono ?_); rintro e w1 ⟨rfl, rfl⟩)
      go_ret
      exact ⟨by rw [HR.out]; rfl, rfl⟩

def locB (c : UInt8) : Bool := alnum c.toNat || signsL.contains c
theorem pidx_signs (c : UInt8) (w : World) : Calls Tryz.prog 141 #[.string ⟨#[33, 35, 36, 37, 38, 39, 42, 43, 45, 47, 61, 63, 94, 95, 96, 123, 124, 125, 126, 46]⟩, .int .u8 ((c.toNat : Nat) : Int)] w fun e w' => e = .returned (.int .i64 (Lib.indexByte signsL c)) ∧ w' = w :=
  pidx_any ⟨#[33, 35, 36, 37, 38, 39, 42, 43, 45, 47, 61, 63, 94, 95, 96, 123, 124, 125, 126, 46]⟩ c w
set_option maxHeartbeats 1000000 in
theorem pxb_any (c : UInt8) (w : World) : Calls Tryz.prog 127 #[.int .u8 ((c.toNat : Nat) : Int)] w fun e w' => e = .returned (.bool (locB c)) ∧ w' = w := by
  cases ha : alnum c.toNat with
  | true =>
    have HR := Lib.hid (show locB c = true by unfold locB; rw [ha]; rfl)
    have HA := Lib.hid (fun w => palnum_is ha w)
    clear ha
    go_enter Tryz.func127, Tryz.ntmps127
    go_wp2_with (go_at_call 140; (with_reducible refine (HA.out _).mono ?_); rintro e w1 ⟨rfl, rfl⟩)
    go_ret
    exact ⟨by rw [HR.out]; rfl, rfl⟩
  | false =>
    have HA := Lib.hid (fun w => palnum_is ha w)
    have HX := Lib.hid (fun w => pidx_signs c w)
    have HR := Lib.hid (show locB c = decide (0 ≤ Lib.indexByte signsL c) by unfold locB; rw [ha, idx_has]; rfl)
    generalize Lib.indexByte signsL c = z at HX HR
    clear ha
    cases hz : decide ((0 : Int) ≤ z)
    · rw [hz] at HR
      go_enter Tryz.func127, Tryz.ntmps127
      go_wp2_with (first
        | (go_at_call 140; (with_reducible refine (HA.out _).mono ?_); rintro e w1 ⟨rfl, rfl⟩)
        | (go_at_call 141; (with_reducible refine (HX.out _).mono ?_); rintro e w1 ⟨rfl, rfl⟩))
      go_ret
      exact ⟨by rw [HR.out]; rfl, rfl⟩
    · rw [hz] at HR
      go_enter Tryz.func127, Tryz.ntmps127
      go_wp2_with (first
        | (go_at_call 140; (with_reducible refine (HA.out _).mono ?_); rintro e w1 ⟨rfl, rfl⟩)
        | (go_at_call 141; (with_reducible refine (HX.out _).mono ?_); rintro e w1 ⟨rfl, rfl⟩))
      go_ret
      exact ⟨by rw [HR.out]; rfl, rfl⟩

/-- The function numbered g says of each byte whether p holds. -/
def PaysB (g : Nat) (p : UInt8 → Bool) : Prop := ∀ (c : UInt8) w, Calls Tryz.prog g #[.int .u8 ((c.toNat : Nat) : Int)] w fun e w' => e = .returned (.bool (p c)) ∧ w' = w
set_option maxRecDepth 100000 in
set_option maxHeartbeats 2000000 in
theorem pcons_any (g : Nat) (eg : ∀ args w, (callFunc g args).run Tryz.prog w = .ok (.enter g args) w) (p : UInt8 → Bool) (hp : PaysB g p) (L : List UInt8) (hL : L.length ≤ 100000) (w : World) :
    Calls Tryz.prog 126 #[.string (strOf L), .func (.func g) #[] #[]] w fun e w' => e = .returned (.bool (L.all p)) ∧ w' = w := by
  have es := strOf_size L
  have HP := Lib.hid hp
  clear hp
  go_enter Tryz.func126, Tryz.ntmps126
  go_wp2_with fail
  go_loopw [8] (fun i wr => ∃ m : Nat, m ≤ L.length ∧ i = .int .i64 (m : Int) ∧ L.all p = (L.drop m).all p ∧ wr = w) (fun i _ => L.length - (intOf i).toNat)
  case atStart => exact ⟨0, Nat.zero_le _, rfl, rfl, rfl⟩
  case round =>
    obtain ⟨m, hm, rfl, hal, rfl⟩ := hrel
    by_cases hmt : m < L.length
    · have hd : decide ((m : Int) < (L.length : Int)) = true := by simp; omega
      obtain ⟨c, hc, hcn⟩ := u8at_list (strOf L) m (by rw [es]; exact hmt)
      have hix := run_index_u8 (P := Tryz.prog) Tryz.underlying9 (strOf L) m (by rw [es]; exact hmt) (m : Int) rfl
      rw [hcn] at hix
      rw [strOf_list] at hc
      rw [drop_cons hc, List.all_cons] at hal
      have HAL := Lib.hid hal
      have HC := Lib.hid (HP.out c wr)
      clear hc hcn hal
      cases ha : p c with
      | true =>
        rw [ha] at HAL HC
        have HN2 := Lib.hid (show L.all p = (L.drop (m + 1)).all p by rw [HAL.out, Bool.true_and])
        clear ha
        go_wp2_with (go_at_fn g; refine HC.out.mono ?_; rintro e W' ⟨rfl, rfl⟩)
        go_roundw
        case rel => exact ⟨m + 1, by omega, by go_num, HN2.out, by first | exact trivial | rfl⟩
        case measure => simp [intOf]; omega
      | false =>
        rw [ha] at HAL HC
        have HF := Lib.hid (show L.all p = false by rw [HAL.out, Bool.false_and])
        clear ha
        go_wp2_with (go_at_fn g; refine HC.out.mono ?_; rintro e W' ⟨rfl, rfl⟩)
        go_ret
        exact ⟨by rw [HF.out]; rfl, rfl⟩
    · have hd : decide ((m : Int) < (L.length : Int)) = false := by simp; omega
      have HF := Lib.hid (show L.all p = true by rw [hal, List.drop_eq_nil_of_le (by omega)]; rfl)
      clear hal
      go_wp2_with fail
      go_ret
      exact ⟨by rw [HF.out]; rfl, rfl⟩
theorem pcons_lb (L : List UInt8) (hL : L.length ≤ 100000) (w : World) : Calls Tryz.prog 126 #[.string (strOf L), .func (.func 143) #[] #[]] w fun e w' => e = .returned (.bool (L.all lblB)) ∧ w' = w :=
  pcons_any _ (enters_of Tryz.func143 (by kernel_rfl) rfl) lblB plb_any L hL w
theorem pcons_xb (L : List UInt8) (hL : L.length ≤ 100000) (w : World) : Calls Tryz.prog 126 #[.string (strOf L), .func (.func 127) #[] #[]] w fun e w' => e = .returned (.bool (L.all locB)) ∧ w' = w :=
  pcons_any _ (enters_of Tryz.func127 (by kernel_rfl) rfl) locB pxb_any L hL w
end Go.Proofs.YtofadgmnjckpcaaGreatDoor
