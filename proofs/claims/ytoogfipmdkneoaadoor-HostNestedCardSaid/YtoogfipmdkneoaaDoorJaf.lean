/-
  DNS names, patterns, bases and mail addresses as lists of bytes; when one lies within another, and that what lies within two bases makes them nested. Nothing is claimed of the program here.
  The contracts of isPlain of the program, and of Among and plain of the reference: whether a byte is one that is not escaped.
-/
import Derived.Test.YtoogfipmdkneoaaDoorJac
import Derived.Test.YtoogfipmdkneoaaDoorJae
namespace Go.Proofs.YtoogfipmdkneoaaDoor
open Go.RowKit

def lowL (l : List UInt8) : List UInt8 := l.map small
def pcsL (c : UInt8) (l : List UInt8) : List (List UInt8) := (pcsS c (strOf l)).map (·.data.toList)
theorem pcsL_spl (c : UInt8) (l : List UInt8) : Spl c l (pcsL c l) := pcsS_spl c (strOf l)
def lbl (p : List UInt8) : Bool := decide (1 ≤ p.length) && decide (p.length ≤ 63) && p.head? != some 45 && p.getLast? != some 45 && p.all (fun c => alnum c.toNat || c == 45)
def dnsB (l : List UInt8) : Bool := decide (l.length ≤ 128) && (pcsL 46 l).all lbl
def patB (l : List UInt8) : Bool := dnsB l || (decide (l.length ≤ 128) && decide (2 < l.length) && decide (l.take 2 = [42, 46]) && dnsB (l.drop 2) && decide (2 < (pcsL 46 l).length))
def baseB (l : List UInt8) : Bool := decide (l = []) || dnsB l
def alikeB (a b : List UInt8) : Bool := decide (lowL a = lowL b)
def endsB (s t : List UInt8) : Bool := decide (t.length ≤ s.length) && alikeB (s.drop (s.length - t.length)) t
def firstK (s : List UInt8) : Nat := ((pcsL 46 s).headD []).length
def dnsMatchB (p s : List UInt8) : Bool := patB p && dnsB s && (if p.head? ≠ some 42 then alikeB p s else decide (firstK s < s.length) && alikeB (s.drop (firstK s)) (p.drop 1))
def dnsWithinB (s b : List UInt8) : Bool := (decide (s = []) || patB s) && baseB b && (decide (b = []) || alikeB s b || endsB s (46 :: b))
def signsL : List UInt8 := [33, 35, 36, 37, 38, 39, 42, 43, 45, 47, 61, 63, 94, 95, 96, 123, 124, 125, 126, 46]
def atK (l : List UInt8) : Nat := (l.takeWhile (fun c => c != 64)).length
/-- The local part is well-formed: allowed bytes, and no two points one after the other. -/
def localB : List UInt8 → Bool
  | [] => true
  | c :: r => (alnum c.toNat || signsL.contains c) && !(c == 46 && r.head? == some 46) && localB r
def mailB (l : List UInt8) : Bool := decide (l.length ≤ 128) && decide (1 ≤ atK l) && decide (atK l ≤ 64) && decide (atK l < l.length) && dnsB (l.drop (atK l + 1)) && l.head? != some 46 && (l.take (atK l)).getLast? != some 46 && localB (l.take (atK l))
def localP (l : List UInt8) : List UInt8 := l.take (atK l)
def domP (l : List UInt8) : List UInt8 := l.drop (atK l + 1)
def mailBaseB (l : List UInt8) : Bool := mailB l || dnsB l || (decide (l.length ≤ 128) && decide (1 < l.length) && l.head? == some 46 && dnsB (l.drop 1))
def mailMatchB (a b : List UInt8) : Bool := mailB a && mailB b && decide (localP a = localP b) && alikeB (domP a) (domP b)
def relB (d b : List UInt8) : Bool := alikeB d b || (b.head? == some 46 && endsB d b)
def mailWithinB (s b : List UInt8) : Bool :=
  mailBaseB b && (if mailB s = true then (if mailB b = true then mailMatchB s b else relB (domP s) b) else mailBaseB s && !mailB b && relB s b)

/-! ### Ends -/
theorem small_dot (c : UInt8) : small c = 46 ↔ c = 46 := by
  by_cases h : 65 ≤ c.toNat ∧ c.toNat ≤ 90
  · constructor
    · intro e
      have h1 := small_big h
      rw [e] at h1
      have : (46 : UInt8).toNat = 46 := rfl
      omega
    · intro e
      subst e
      exact absurd h (by decide)
  · rw [small_low h]
theorem lowL_length (l : List UInt8) : (lowL l).length = l.length := List.length_map _
theorem lowL_nil {l : List UInt8} : lowL l = [] ↔ l = [] := List.map_eq_nil_iff
theorem lowL_head (l : List UInt8) : (lowL l).head? = some 46 ↔ l.head? = some 46 := by
  cases l with
  | nil => exact ⟨fun h => by (cases h), fun h => by (cases h)⟩
  | cons c r =>
    show some (small c) = some 46 ↔ some c = some 46
    rw [Option.some.injEq, Option.some.injEq]
    exact small_dot c
theorem alikeB_iff (a b : List UInt8) : alikeB a b = true ↔ lowL a = lowL b := by unfold alikeB; rw [decide_eq_true_iff]
theorem endsB_iff (s t : List UInt8) : endsB s t = true ↔ lowL t <:+ lowL s := by
  unfold endsB
  rw [Bool.and_eq_true, decide_eq_true_iff, alikeB_iff]
  constructor
  · rintro ⟨h1, h2⟩
    rw [← h2]
    have e : lowL s = lowL (s.take (s.length - t.length)) ++ lowL (s.drop (s.length - t.length)) := by
      unfold lowL
      rw [← List.map_append, List.take_append_drop]
    rw [e]
    exact List.suffix_append _ _
  · rintro ⟨p, hp⟩
    have hl := congrArg List.length hp
    rw [List.length_append, lowL_length, lowL_length] at hl
    refine ⟨by omega, ?_⟩
    have e : lowL (s.drop (s.length - t.length)) = (lowL s).drop (s.length - t.length) := by unfold lowL; rw [List.map_drop]
    rw [e, ← hp, show s.length - t.length = p.length by omega]
    simp
/-- One list lies within another one: it is the other, or ends with a point and it; everything lies within nothing. -/
def Rel (S X : List UInt8) : Prop := X = [] ∨ S = X ∨ (46 :: X) <:+ S
theorem Rel.nested {S X Y : List UInt8} (h : Rel S X) (k : Rel S Y) : Rel X Y ∨ Rel Y X := by
  rcases h with h | h | h
  · exact .inr (.inl h)
  · exact .inl (h ▸ k)
  · rcases k with k | k | k
    · exact .inl (.inl k)
    · exact .inr (k ▸ .inr (.inr h))
    · rcases List.suffix_or_suffix_of_suffix h k with g | g
      · rcases List.suffix_cons_iff.1 g with e | e
        · exact .inl (.inr (.inl (List.cons.inj e).2))
        · exact .inr (.inr (.inr e))
      · rcases List.suffix_cons_iff.1 g with e | e
        · exact .inl (.inr (.inl (List.cons.inj e).2.symm))
        · exact .inl (.inr (.inr e))
theorem Rel.trans {A B C : List UInt8} (h : Rel A B) (k : Rel B C) : Rel A C := by
  rcases k with k | k | k
  · exact .inl k
  · exact k ▸ h
  · rcases h with h | h | h
    · rw [h] at k
      have := k.length_le
      simp at this
    · exact .inr (.inr (h ▸ k))
    · exact .inr (.inr (k.trans ((List.suffix_cons _ _).trans h)))
theorem dnsWithin_iff (s b : List UInt8) : dnsWithinB s b = true ↔ (s = [] ∨ patB s = true) ∧ baseB b = true ∧ Rel (lowL s) (lowL b) := by
  unfold dnsWithinB Rel
  rw [Bool.and_eq_true, Bool.and_eq_true, Bool.or_eq_true, Bool.or_eq_true, Bool.or_eq_true, decide_eq_true_iff, decide_eq_true_iff, alikeB_iff, endsB_iff, lowL_nil, and_assoc, or_assoc]
  rfl
theorem base_pat {b : List UInt8} (h : baseB b = true) : b = [] ∨ patB b = true := by
  unfold baseB at h
  rw [Bool.or_eq_true, decide_eq_true_iff] at h
  exact h.imp id fun h => by unfold patB; rw [h]; rfl
theorem dns_nested {s x y : List UInt8} (h : dnsWithinB s x = true) (k : dnsWithinB s y = true) : dnsWithinB x y = true ∨ dnsWithinB y x = true := by
  rw [dnsWithin_iff] at h k
  rw [dnsWithin_iff, dnsWithin_iff]
  rcases h.2.2.nested k.2.2 with g | g
  · exact .inl ⟨base_pat h.2.1, k.2.1, g⟩
  · exact .inr ⟨base_pat k.2.1, h.2.1, g⟩
theorem dns_chain {a b c : List UInt8} (h : dnsWithinB a b = true) (k : dnsWithinB b c = true) : dnsWithinB a c = true := by
  rw [dnsWithin_iff] at *
  exact ⟨h.1, k.2.1, h.2.2.trans k.2.2⟩
def RelM (D B : List UInt8) : Prop := D = B ∨ (B.head? = some 46 ∧ B <:+ D)
theorem RelM.nested {D P Q : List UInt8} (h : RelM D P) (k : RelM D Q) : RelM P Q ∨ RelM Q P := by
  rcases h with h | ⟨h1, h2⟩
  · exact .inl (h ▸ k)
  · rcases k with k | ⟨k1, k2⟩
    · exact .inr (k ▸ .inr ⟨h1, h2⟩)
    · rcases List.suffix_or_suffix_of_suffix h2 k2 with g | g
      · exact .inr (.inr ⟨h1, g⟩)
      · exact .inl (.inr ⟨k1, g⟩)
theorem RelM.trans {A B C : List UInt8} (h : RelM A B) (k : RelM B C) : RelM A C := by
  rcases k with k | ⟨k1, k2⟩
  · exact k ▸ h
  · rcases h with h | ⟨_, h2⟩
    · exact .inr ⟨k1, h ▸ k2⟩
    · exact .inr ⟨k1, k2.trans h2⟩
theorem relB_iff (d b : List UInt8) : relB d b = true ↔ RelM (lowL d) (lowL b) := by
  unfold relB RelM
  rw [Bool.or_eq_true, Bool.and_eq_true, alikeB_iff, endsB_iff, beq_iff_eq, lowL_head]
theorem match_iffM (a b : List UInt8) : mailMatchB a b = true ↔ mailB a = true ∧ mailB b = true ∧ localP a = localP b ∧ lowL (domP a) = lowL (domP b) := by
  unfold mailMatchB
  rw [Bool.and_eq_true, Bool.and_eq_true, Bool.and_eq_true, decide_eq_true_iff, alikeB_iff, and_assoc, and_assoc]
/-- Within, for mail addresses and for the others. -/
theorem within_mail {s b : List UInt8} (hs : mailB s = true) (hb : mailB b = true) : mailWithinB s b = true ↔ localP s = localP b ∧ lowL (domP s) = lowL (domP b) := by
  unfold mailWithinB
  rw [if_pos hs, if_pos hb, Bool.and_eq_true, match_iffM]
  exact ⟨fun h => h.2.2.2, fun h => ⟨by unfold mailBaseB; rw [hb]; rfl, hs, hb, h⟩⟩
theorem within_dom {s b : List UInt8} (hs : mailB s = true) (hb : mailB b = false) : mailWithinB s b = true ↔ mailBaseB b = true ∧ RelM (lowL (domP s)) (lowL b) := by
  unfold mailWithinB
  rw [if_pos hs, hb, if_neg (by simp), Bool.and_eq_true, relB_iff]
theorem within_no {s b : List UInt8} (hs : mailB s = false) : mailWithinB s b = true ↔ mailBaseB b = true ∧ mailBaseB s = true ∧ mailB b = false ∧ RelM (lowL s) (lowL b) := by
  unfold mailWithinB
  rw [hs, if_neg (by simp), Bool.and_eq_true, Bool.and_eq_true, Bool.and_eq_true, relB_iff, Bool.not_eq_true', and_assoc]
theorem mail_nested {s p q : List UInt8} (h : mailWithinB s p = true) (k : mailWithinB s q = true) : mailWithinB p q = true ∨ mailWithinB q p = true := by
  cases hs : mailB s with
  | true =>
    cases hp : mailB p with
    | true =>
      rw [within_mail hs hp] at h
      cases hq : mailB q with
      | true =>
        rw [within_mail hs hq] at k
        exact .inl ((within_mail hp hq).2 ⟨h.1.symm.trans k.1, h.2.symm.trans k.2⟩)
      | false =>
        rw [within_dom hs hq] at k
        exact .inl ((within_dom hp hq).2 ⟨k.1, h.2 ▸ k.2⟩)
    | false =>
      rw [within_dom hs hp] at h
      cases hq : mailB q with
      | true =>
        rw [within_mail hs hq] at k
        exact .inr ((within_dom hq hp).2 ⟨h.1, k.2 ▸ h.2⟩)
      | false =>
        rw [within_dom hs hq] at k
        rcases h.2.nested k.2 with g | g
        · exact .inl ((within_no hp).2 ⟨k.1, h.1, hq, g⟩)
        · exact .inr ((within_no hq).2 ⟨h.1, k.1, hp, g⟩)
  | false =>
    rw [within_no hs] at h k
    rcases h.2.2.2.nested k.2.2.2 with g | g
    · exact .inl ((within_no h.2.2.1).2 ⟨k.1, h.1, k.2.2.1, g⟩)
    · exact .inr ((within_no k.2.2.1).2 ⟨h.1, k.1, h.2.2.1, g⟩)
theorem mail_chain {x y z : List UInt8} (h : mailWithinB x y = true) (k : mailWithinB y z = true) : mailWithinB x z = true := by
  cases hx : mailB x with
  | true =>
    cases hy : mailB y with
    | true =>
      rw [within_mail hx hy] at h
      cases hz : mailB z with
      | true =>
        rw [within_mail hy hz] at k
        exact (within_mail hx hz).2 ⟨h.1.trans k.1, h.2.trans k.2⟩
      | false =>
        rw [within_dom hy hz] at k
        exact (within_dom hx hz).2 ⟨k.1, h.2 ▸ k.2⟩
    | false =>
      rw [within_dom hx hy] at h
      rw [within_no hy] at k
      exact (within_dom hx k.2.2.1).2 ⟨k.1, h.2.trans k.2.2.2⟩
  | false =>
    rw [within_no hx] at h
    rw [within_no h.2.2.1] at k
    exact (within_no hx).2 ⟨k.1, h.2.1, k.2.2.1, h.2.2.2.trans k.2.2.2⟩
end Go.Proofs.YtoogfipmdkneoaaDoor
namespace Go.Proofs.YtoogfipmdkneoaaDoor
open Go.RowKit

theorem ralnum_is {n : Nat} {b : Bool} (h : alnum n = b) (w : World) : Calls Tryd.prog 42 #[.int .u8 (n : Int)] w fun e w' => e = .returned (.bool b) ∧ w' = w := by
  have := ralnum_any n w
  rwa [h] at this
set_option maxHeartbeats 1000000 in
theorem among_any (c : UInt8) (l : ByteArray) (hl : l.size ≤ 1000000) (w : World) :
    Calls Tryd.prog 66 #[.int .u8 ((c.toNat : Nat) : Int), .string l] w fun e w' => e = .returned (.bool (l.data.toList.contains c)) ∧ w' = w := by
  go_enter Tryd.func66, Tryd.ntmps66
  go_wp2_with fail
  go_loopw [5] (fun i wr => ∃ k : Nat, k ≤ l.size ∧ i = .int .i64 (k : Int) ∧ wr = w ∧ l.data.toList.contains c = (l.data.toList.drop k).contains c) (fun i _ => l.size - (intOf i).toNat)
  case atStart => exact ⟨0, by omega, rfl, rfl, by simp⟩
  case round =>
    obtain ⟨k, hk, rfl, rfl, hc⟩ := hrel
    by_cases hlt : k < l.size
    · have hd : decide ((k : Int) < (l.size : Int)) = true := by simp; omega
      obtain ⟨x, hx, hxn⟩ := u8at_list l k hlt
      have hix := run_index_u8 (P := Tryd.prog) Tryd.underlying9 l k hlt (k : Int) rfl wr
      rw [hxn] at hix
      rw [drop_cons hx, List.contains_cons] at hc
      by_cases e : x = c
      · have hq : ((x.toNat : Nat) : Int) == ((c.toNat : Nat) : Int) := by rw [e]; simp
        have HC := Lib.hid (show l.data.toList.contains c = true by rw [hc, e]; simp)
        clear hc hx hxn e
        go_wp2_with fail
        go_ret
        exact ⟨by rw [HC.out]; rfl, rfl⟩
      · have hne : ¬ x.toNat = c.toNat := fun h => e (UInt8.toNat_inj.1 h)
        have hq : (((x.toNat : Nat) : Int) == ((c.toNat : Nat) : Int)) = false := by simp; omega
        have HC := Lib.hid (show l.data.toList.contains c = (l.data.toList.drop (k + 1)).contains c by
          rw [hc, show (c == x) = false by simp; exact fun h => e h.symm, Bool.false_or])
        clear hc hx hxn e hne
        go_wp2_with fail
        go_roundw
        case rel => exact ⟨k + 1, by omega, by go_num, by first | exact trivial | rfl, HC.out⟩
        case measure => simp [intOf]; omega
    · have hd : decide ((k : Int) < (l.size : Int)) = false := by simp; omega
      have HC := Lib.hid (show l.data.toList.contains c = false by
        rw [hc, List.drop_eq_nil_of_le (show l.data.toList.length ≤ k by show l.size ≤ k; omega)]; rfl)
      clear hc
      go_wp2_with fail
      go_ret
      exact ⟨by rw [HC.out]; rfl, rfl⟩
theorem among_is {c : UInt8} {l : ByteArray} {b : Bool} (h : l.data.toList.contains c = b) (hl : l.size ≤ 1000000) (w : World) :
    Calls Tryd.prog 66 #[.int .u8 ((c.toNat : Nat) : Int), .string l] w fun e w' => e = .returned (.bool b) ∧ w' = w := by
  have := among_any c l hl w
  rwa [h] at this

end Go.Proofs.YtoogfipmdkneoaaDoor
