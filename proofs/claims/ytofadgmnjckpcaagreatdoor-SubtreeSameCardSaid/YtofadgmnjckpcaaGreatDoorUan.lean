/-
  A field of a general name that a call has returned.
  The contract of the law's some: a general name of the generators, perhaps with a field of another one.
  General names that are the same are within the same bases: plain laws; and what the law GnameSame wants of the program's functions.
  Ranges of addresses: each is an address under a mask of some bits; what lies within two ranges makes them nested; within is passed on. Nothing is claimed of the program here.
  Constraints on names as lists: what Permits, Reduce and PermitsReduced answer; that what lies within two bases makes them nested, that bases that are the same have the same names, and that a reduced state permits what the state permits. Nothing is claimed of the program here.
-/
import Derived.Test.YtofadgmnjckpcaaGreatDoorUam
import Derived.Deep.CutRange
import Derived.Deep.DeepCutAuto
import Derived.Test.YtofadgmnjckpcaaGreatDoorUal
import Derived.Test.YtofadgmnjckpcaaGreatDoorUad
import Derived.Test.YtofadgmnjckpcaaGreatDoorUai
namespace Go.Proofs.YtofadgmnjckpcaaGreatDoor
open Go.RowKit

end Go.Proofs.YtofadgmnjckpcaaGreatDoor
namespace Go.Proofs.YtofadgmnjckpcaaGreatDoor
open Go.RowKit

theorem gen_len {q : Int} {t : List UInt8} {n : Nm} (h : GenOk q t n) : t.length ≤ 64 ∧ MadeN n := by
  have m0 : MadeN [] := ⟨by decide, fun r hr => by cases hr⟩
  rcases h with ⟨_, h, rfl⟩ | ⟨_, h, rfl⟩ | ⟨_, h, rfl⟩ | ⟨_, rfl, h⟩
  · exact ⟨(show ∀ t ∈ genMail, t.length ≤ 64 by decide) t h, m0⟩
  · exact ⟨(show ∀ t ∈ genDns, t.length ≤ 64 by decide) t h, m0⟩
  · exact ⟨(show ∀ t ∈ genAddr, t.length ≤ 64 by decide) t h, m0⟩
  · exact ⟨by decide, h⟩
theorem bse_len {q : Int} {t : List UInt8} {n : Nm} (h : BseOk q t n) : t.length ≤ 64 ∧ MadeN n := by
  have m0 : MadeN [] := ⟨by decide, fun r hr => by cases hr⟩
  rcases h with ⟨_, h, rfl⟩ | ⟨_, h, rfl⟩ | ⟨_, h, rfl⟩ | ⟨_, rfl, h⟩
  · exact ⟨(show ∀ t ∈ bseMail, t.length ≤ 64 by decide) t h, m0⟩
  · exact ⟨(show ∀ t ∈ bseDns, t.length ≤ 64 by decide) t h, m0⟩
  · exact ⟨(show ∀ t ∈ bseAddr, t.length ≤ 64 by decide) t h, m0⟩
  · exact ⟨by decide, h⟩
theorem gset2 {w : World} {g : Nat} {x y z a : Value} {t : TypeId} (h : w.heap[g]? = some (.cells #[x, y, z] t (0, 0))) : (w.setCell ⟨g, 2, none⟩ a).heap[g]? = some (.cells #[x, y, a] t (0, 0)) := by
  simp [World.setCell, Array.getElem?_modify, h]
/-- A change of one block that is of another type leaves a name as it was. -/
theorem own_apart {w w' : World} {B k n g : Nat} {e T : TypeId} {v : Value} {xs : List Value} {cs : Array Value} {f : Nat × Nat} (h : w.ownsRow B e k v n xs) (hc : w.heap[g]? = some (.cells cs T f)) (hT : T ≠ e) (hg : But g w w') : w'.ownsRow B e k v n xs := by
  refine World.ownsRow.kept h hg ?_
  rcases h.2 with ⟨hv, _⟩ | ⟨b, cap, cur, hv, _, hb, _⟩
  · exact .inl (by rw [hv]; rfl)
  · refine .inr (fun e1 => ?_)
    rw [hv] at e1
    simp [Value.ownBlock] at e1
    subst e1
    rw [hc] at hb
    simp at hb
    exact hT hb.2.1
theorem OwnN.apart {w w' : World} {B g : Nat} {T : TypeId} {v : Value} {n : Nm} {cs : Array Value} {f : Nat × Nat} (h : OwnN w B v n) (hc : w.heap[g]? = some (.cells cs T f)) (h1 : T ≠ 69) (h2 : T ≠ 67) (hg : But g w w') : OwnN w' B v n := by
  obtain ⟨vs, q1, q2, q3⟩ := h
  exact ⟨vs, q1, own_apart q2 hc h2 hg, fun i hi => own_apart (q3 i hi) hc h1 hg⟩
end Go.Proofs.YtofadgmnjckpcaaGreatDoor
namespace Go.Proofs.YtofadgmnjckpcaaGreatDoor
open Go.RowKit

theorem sameG_kind {k l : Int} {t u : List UInt8} {n m : Nm} (h : sameG k t n l u m = true) : k = l := by
  unfold sameG at h
  by_cases e : k = l
  · exact e
  · rw [if_pos e] at h; cases h
end Go.Proofs.YtofadgmnjckpcaaGreatDoor
namespace Go.Proofs.YtofadgmnjckpcaaGreatDoor
open Go.RowKit

set_option maxRecDepth 100000 in
theorem bits_sum : ∀ x : Nat, x < 256 → x = x / 2 ^ (7 - 0) % 2 * 128 + x / 2 ^ (7 - 1) % 2 * 64 + x / 2 ^ (7 - 2) % 2 * 32 + x / 2 ^ (7 - 3) % 2 * 16 + x / 2 ^ (7 - 4) % 2 * 8 + x / 2 ^ (7 - 5) % 2 * 4 + x / 2 ^ (7 - 6) % 2 * 2 + x / 2 ^ (7 - 7) % 2 := by decide +kernel
theorem bit_eq {p q : Nat} (h : p % 2 = 1 ↔ q % 2 = 1) : p % 2 = q % 2 := by omega
theorem byte_bits {a b : UInt8} (h : ∀ j, j < 8 → (a.toNat / 2 ^ (7 - j) % 2 = 1 ↔ b.toNat / 2 ^ (7 - j) % 2 = 1)) : a = b := by
  apply UInt8.toNat_inj.1
  have ha := bits_sum a.toNat a.toNat_lt
  have hb := bits_sum b.toNat b.toNat_lt
  rw [bit_eq (h 0 (by decide)), bit_eq (h 1 (by decide)), bit_eq (h 2 (by decide)), bit_eq (h 3 (by decide)), bit_eq (h 4 (by decide)), bit_eq (h 5 (by decide)), bit_eq (h 6 (by decide)), bit_eq (h 7 (by decide)), ← hb] at ha
  exact ha
set_option maxRecDepth 100000 in
theorem and_keep : ∀ t, t ≤ 8 → ∀ x : Nat, x < 256 → (∀ j, j < 8 → t ≤ j → ¬ (x / 2 ^ (7 - j) % 2 = 1)) → UInt8.ofNat x &&& maskT t = UInt8.ofNat x := by decide +kernel
theorem exists_run (p : Nat → Bool) : ∀ n, ∃ k, k ≤ n ∧ (∀ i, i < k → p i = true) ∧ (k < n → p k = false)
  | 0 => ⟨0, Nat.le_refl _, fun i h => absurd h (by omega), fun h => absurd h (by omega)⟩
  | n + 1 => by
    obtain ⟨k, h1, h2, h3⟩ := exists_run p n
    by_cases e : k < n
    · exact ⟨k, by omega, h2, fun _ => h3 e⟩
    · obtain rfl : k = n := by omega
      cases hp : p k with
      | true =>
        refine ⟨k + 1, by omega, fun i hi => ?_, fun h => absurd h (by omega)⟩
        by_cases g : i < k
        · exact h2 i g
        · obtain rfl : i = k := by omega
          exact hp
      | false => exact ⟨k, by omega, h2, fun _ => hp⟩
/-- Each range is an address under a mask. -/
theorem range_net {x : List UInt8} (h : rangeB x = true) : ∃ k n, (n = 4 ∨ n = 16) ∧ x = netB x k n := by
  unfold rangeB at h
  rw [Bool.and_eq_true, Bool.or_eq_true, decide_eq_true_iff, decide_eq_true_iff, List.all_eq_true] at h
  obtain ⟨hl, hb⟩ := h
  obtain ⟨n, hn⟩ : ∃ n, n = x.length / 2 := ⟨_, rfl⟩
  rw [← hn] at hb
  have hx : x.length = 2 * n := by omega
  have hb : ∀ i, i < 8 * n → bitOk x i = true := fun i hi => hb i (List.mem_range.2 hi)
  obtain ⟨k, hk, h1, h2⟩ := exists_run (mbit x) (8 * n)
  have hm : ∀ i, i < 8 * n → mbit x i = decide (i < k) := by
    intro i hi
    by_cases e : i < k
    · rw [h1 i e, decide_eq_true e]
    · rw [decide_eq_false e]
      cases hp : mbit x i with
      | false => rfl
      | true =>
        have h3 := hb i hi
        unfold bitOk at h3
        rw [if_pos hp] at h3
        unfold onesTo at h3
        rw [List.all_eq_true] at h3
        have h4 := h2 (by omega)
        by_cases g : i = k
        · rw [g, h4] at hp; exact hp.symm
        · have := h3 k (List.mem_range.2 (by omega))
          rw [h4] at this; exact this.symm
  have ha : ∀ i, i < 8 * n → k ≤ i → abit x i = false := by
    intro i hi hki
    have h3 := hb i hi
    unfold bitOk at h3
    rw [hm i hi, if_neg (by simp; omega)] at h3
    simpa using h3
  have hhi : ∀ i, i < n → x.getD (n + i) 0 = maskB k i := by
    intro i hi
    refine byte_bits fun j hj => ?_
    have h3 := hm (8 * i + j) (by omega)
    unfold mbit bitAt at h3
    rw [← hn, show (8 * i + j) / 8 = i by omega, show (8 * i + j) % 8 = j by omega, decide_eq_decide] at h3
    rw [h3]
    unfold maskB
    rw [maskT_bit _ (Nat.min_le_left _ _) _ hj]
    omega
  have hlo : ∀ i, i < n → x.getD i 0 &&& maskB k i = x.getD i 0 := by
    intro i hi
    have := and_keep (min 8 (k - 8 * i)) (Nat.min_le_left _ _) (x.getD i 0).toNat (UInt8.toNat_lt _) (fun j hj hkj => by
      have h3 := ha (8 * i + j) (by omega) (by omega)
      unfold abit bitAt at h3
      rw [Nat.zero_add, show (8 * i + j) / 8 = i by omega, show (8 * i + j) % 8 = j by omega, decide_eq_false_iff_not] at h3
      exact h3)
    rw [show UInt8.ofNat (x.getD i 0).toNat = x.getD i 0 by simp] at this
    exact this
  refine ⟨k, n, by omega, ?_⟩
  refine List.ext_getElem (by rw [net_len, hx]) fun i hi _ => ?_
  have e : ∀ (l : List UInt8) (h : i < l.length), l[i] = l.getD i 0 := fun l h => by rw [List.getD_eq_getElem?_getD, List.getElem?_eq_getElem h]; rfl
  rw [e _ hi, e _ (by rw [net_len, ← hx]; exact hi)]
  by_cases g : i < n
  · rw [net_low g, hlo i g]
  · obtain ⟨j, rfl⟩ : ∃ j, i = n + j := ⟨i - n, by omega⟩
    rw [net_high (by omega), hhi j (by omega)]
/-- What within a range says of the bytes. -/
theorem within_low {a y : List UInt8} {l n : Nat} (h : addrWithinB a (netB y l n) = true) : ∀ i, i < n → a.getD i 0 &&& maskB l i = y.getD i 0 &&& maskB l i := by
  intro i hi
  unfold addrWithinB at h
  rw [Bool.and_eq_true] at h
  have h := h.2
  rw [net_len, show 2 * n / 2 = n by omega, List.all_eq_true] at h
  have hb := h i (List.mem_range.2 hi)
  unfold byteIn at hb
  rw [Bool.and_eq_true, decide_eq_true_iff, net_high hi, net_low hi] at hb
  exact hb.1
theorem within_len {a y : List UInt8} (h : addrWithinB a y = true) : rangeB y = true ∧ ((addrB a = true ∧ a.length = y.length / 2) ∨ (rangeB a = true ∧ a.length = y.length)) := by
  unfold addrWithinB wholeB at h
  rw [Bool.and_eq_true, Bool.and_eq_true, Bool.or_eq_true, Bool.and_eq_true, Bool.and_eq_true, decide_eq_true_iff, decide_eq_true_iff] at h
  exact h.1
theorem addr_nested {a x y : List UInt8} (h : addrWithinB a x = true) (k : addrWithinB a y = true) : addrWithinB x y = true ∨ addrWithinB y x = true := by
  have h1 := within_len h
  have k1 := within_len k
  obtain ⟨kx, n, hn, ex⟩ := range_net h1.1
  obtain ⟨ky, m, hm, ey⟩ := range_net k1.1
  have lx : x.length = 2 * n := by rw [ex, net_len]
  have ly : y.length = 2 * m := by rw [ey, net_len]
  have ab : addrB a = true → a.length = 4 ∨ a.length = 16 := fun h => by
    unfold addrB at h
    rw [Bool.or_eq_true, decide_eq_true_iff, decide_eq_true_iff] at h
    exact h
  have ar : rangeB a = true → a.length = 8 ∨ a.length = 32 := fun h => by
    unfold rangeB at h
    rw [Bool.and_eq_true, Bool.or_eq_true, decide_eq_true_iff, decide_eq_true_iff] at h
    exact h.1
  have e : n = m := by
    rcases h1.2 with ⟨p, q⟩ | ⟨p, q⟩ <;> rcases k1.2 with ⟨p', q'⟩ | ⟨p', q'⟩
    · omega
    · have := ab p; have := ar p'; omega
    · have := ab p'; have := ar p; omega
    · omega
  subst e
  rw [ex] at h
  rw [ey] at k
  have hx := within_low h
  have hy := within_low k
  rw [ex, ey]
  rcases Nat.le_total ky kx with g | g
  · refine .inl (byteIn_net hn (fun i hi => ?_) g)
    rw [← hx i hi, ← hy i hi, UInt8.and_assoc, mask_and, Nat.min_eq_right g]
  · refine .inr (byteIn_net hn (fun i hi => ?_) g)
    rw [← hx i hi, ← hy i hi, UInt8.and_assoc, mask_and, Nat.min_eq_right g]
theorem addr_chain {a x y : List UInt8} (h : addrWithinB a x = true) (k : addrWithinB x y = true) : addrWithinB a y = true := by
  have h1 := within_len h
  have k1 := within_len k
  have rx : ∀ {z : List UInt8}, rangeB z = true → z.length = 8 ∨ z.length = 32 := fun h => by
    unfold rangeB at h
    rw [Bool.and_eq_true, Bool.or_eq_true, decide_eq_true_iff, decide_eq_true_iff] at h
    exact h.1
  have l1 := rx h1.1
  have l2 := rx k1.1
  have k2 : rangeB x = true ∧ x.length = y.length := by
    rcases k1.2 with ⟨p, q⟩ | p
    · unfold addrB at p
      rw [Bool.or_eq_true, decide_eq_true_iff, decide_eq_true_iff] at p
      omega
    · exact p
  have wy : wholeB x y = false := by
    unfold wholeB
    rw [decide_eq_false (show ¬ x.length = y.length / 2 by omega), Bool.and_false]
  have wa : wholeB a x = wholeB a y := by unfold wholeB; rw [k2.2]
  unfold addrWithinB at h k ⊢
  rw [Bool.and_eq_true, Bool.and_eq_true, List.all_eq_true] at h k ⊢
  refine ⟨⟨k1.1, by rw [← wa, ← k2.2]; exact h.1.2⟩, fun i hi => ?_⟩
  have b1 := h.2 i (by rw [k2.2]; exact hi)
  have b2 := k.2 i hi
  unfold byteIn at b1 b2 ⊢
  rw [wy, Bool.false_or, Bool.and_eq_true, decide_eq_true_iff, decide_eq_true_iff] at b2
  rw [k2.2] at b1
  rw [← wa]
  rw [Bool.and_eq_true, Bool.or_eq_true, decide_eq_true_iff, decide_eq_true_iff] at b1 ⊢
  refine ⟨?_, b1.2.imp id fun g => ?_⟩
  · rw [← b2.1, ← b1.1, UInt8.and_assoc, b2.2]
  · rw [← b2.2, ← UInt8.and_assoc, g]
end Go.Proofs.YtofadgmnjckpcaaGreatDoor
namespace Go.Proofs.YtofadgmnjckpcaaGreatDoor
open Go.RowKit

/-! ### Within, for every kind -/
theorem within_kind {k l : Int} {t u : List UInt8} {n m : Nm} (h : withinG k t n l u m = true) : k = l := by
  unfold withinG at h
  by_cases e : k = l
  · exact e
  · rw [if_pos e] at h; cases h
theorem withinN_nested {n b c : Nm} (h : WithinN n b) (k : WithinN n c) : WithinN b c ∨ WithinN c b := by
  rcases Nat.le_total c.length b.length with g | g
  · exact .inl ⟨g, fun i hi => (h.2 i (by omega)).symm.trans (k.2 i hi)⟩
  · exact .inr ⟨g, fun i hi => (k.2 i (by omega)).symm.trans (h.2 i hi)⟩
theorem withinG_1 (t u : List UInt8) (n m : Nm) : withinG 1 t n 1 u m = mailWithinB t u := by unfold withinG; rw [if_neg (by decide), if_pos rfl]
theorem withinG_2 (t u : List UInt8) (n m : Nm) : withinG 2 t n 2 u m = dnsWithinB t u := by unfold withinG; rw [if_neg (by decide), if_neg (by decide), if_pos rfl]
theorem withinG_4 (t u : List UInt8) (n m : Nm) : withinG 4 t n 4 u m = decide (WithinN n m) := by unfold withinG; rw [if_neg (by decide), if_neg (by decide), if_neg (by decide), if_pos rfl]
theorem withinG_7 (t u : List UInt8) (n m : Nm) : withinG 7 t n 7 u m = addrWithinB t u := by unfold withinG; rw [if_neg (by decide), if_neg (by decide), if_neg (by decide), if_neg (by decide), if_pos rfl]
theorem withinG_no {k : Int} (h : k ≠ 1 ∧ k ≠ 2 ∧ k ≠ 4 ∧ k ≠ 7) (t u : List UInt8) (n m : Nm) : withinG k t n k u m = false := by unfold withinG; rw [if_neg (by simp), if_neg h.1, if_neg h.2.1, if_neg h.2.2.1, if_neg h.2.2.2]
theorem withinG_nested {k : Int} {t u v : List UInt8} {n m p : Nm} (h : withinG k t n k u m = true) (g : withinG k t n k v p = true) : withinG k u m k v p = true ∨ withinG k v p k u m = true := by
  rcases kind_or k with rfl | rfl | rfl | rfl | hk
  · rw [withinG_1] at *; rw [withinG_1]; exact mail_nested h g
  · rw [withinG_2] at *; rw [withinG_2]; exact dns_nested h g
  · rw [withinG_4] at *; rw [withinG_4]; exact (withinN_nested (of_decide_eq_true h) (of_decide_eq_true g)).imp (fun e => decide_eq_true e) (fun e => decide_eq_true e)
  · rw [withinG_7] at *; rw [withinG_7]; exact addr_nested h g
  · rw [withinG_no hk] at h; cases h
theorem withinG_chain {k : Int} {t u v : List UInt8} {n m p : Nm} (h : withinG k t n k u m = true) (g : withinG k u m k v p = true) : withinG k t n k v p = true := by
  rcases kind_or k with rfl | rfl | rfl | rfl | hk
  · rw [withinG_1] at *; exact mail_chain h g
  · rw [withinG_2] at *; exact dns_chain h g
  · rw [withinG_4] at *; exact decide_eq_true ((of_decide_eq_true h).trans (of_decide_eq_true g))
  · rw [withinG_7] at *; exact addr_chain h g
  · rw [withinG_no hk] at h; cases h

/-! ### Bases that are the same -/
theorem small_at (c : UInt8) : small c = 64 ↔ c = 64 := by
  by_cases h : 65 ≤ c.toNat ∧ c.toNat ≤ 90
  · constructor
    · intro e
      have h1 := small_big h
      rw [e] at h1
      have : (64 : UInt8).toNat = 64 := rfl
      omega
    · intro e
      subst e
      exact absurd h (by decide)
  · rw [small_low h]
theorem mail_mem {t : List UInt8} (h : mailB t = true) : 64 ∈ t := by
  have : atK t < t.length := by
    unfold mailB at h
    simp only [Bool.and_eq_true, decide_eq_true_eq] at h
    exact h.1.1.1.1.2
  exact List.mem_of_getElem? (atK_at this)
theorem mem_joinS {c d : UInt8} : ∀ {ps : List (List UInt8)}, c ∈ Lib.join ps [d] → c = d ∨ ∃ p ∈ ps, c ∈ p
  | [], h => by simp [Lib.join] at h
  | [p], h => by rw [Lib.join_one] at h; exact .inr ⟨p, by simp, h⟩
  | p :: q :: r, h => by
    rw [join_two, List.mem_append, List.mem_cons] at h
    rcases h with h | h | h
    · exact .inr ⟨p, by simp, h⟩
    · exact .inl h
    · rcases mem_joinS h with e | ⟨x, hx, e⟩
      · exact .inl e
      · exact .inr ⟨x, by simp only [List.mem_cons] at hx ⊢; exact .inr hx, e⟩
theorem dns_mem {t : List UInt8} (h : dnsB t = true) : 64 ∉ t := by
  intro hm
  unfold dnsB at h
  rw [Bool.and_eq_true, List.all_eq_true] at h
  have hs := pcsL_spl 46 t
  rw [← hs.2.1] at hm
  rcases mem_joinS hm with e | ⟨p, hp, e⟩
  · exact absurd e (by decide)
  · have := h.2 p hp
    unfold lbl at this
    rw [Bool.and_eq_true, List.all_eq_true] at this
    exact absurd (this.2 64 e) (by decide)
theorem base_mem {t : List UInt8} (h : mailBaseB t = true) (h2 : mailB t = false) : 64 ∉ t := by
  unfold mailBaseB at h
  rw [h2, Bool.false_or, Bool.or_eq_true] at h
  rcases h with h | h
  · exact dns_mem h
  · simp only [Bool.and_eq_true, beq_iff_eq] at h
    intro hm
    cases t with
    | nil => simp at hm
    | cons c r =>
      rcases List.mem_cons.1 hm with e | e
      · have := h.1.2
        rw [← e, List.head?_cons] at this
        exact absurd (Option.some.inj this) (by decide)
      · exact dns_mem h.2 e
theorem low_mem {t u : List UInt8} (h : lowL t = lowL u) (hm : 64 ∈ t) : 64 ∈ u := by
  have h1 : (64 : UInt8) ∈ lowL u := by rw [← h]; exact List.mem_map.2 ⟨64, hm, by decide⟩
  obtain ⟨c, hc, e⟩ := List.mem_map.1 h1
  rwa [← (small_at c).1 e]
/-- A base that Check accepts. -/
def BaseG (k : Int) (t : List UInt8) : Prop := k = 4 ∨ okT k true t = true
theorem mail_sameb {t u : List UInt8} (ht : mailBaseB t = true) (hu : mailBaseB u = true) (h : (if mailB t = true ∧ mailB u = true then mailMatchB t u else alikeB t u) = true) (s : List UInt8) : mailWithinB s t = mailWithinB s u := by
  by_cases e : mailB t = true ∧ mailB u = true
  · rw [if_pos e, match_iffM] at h
    obtain ⟨_, _, h1, h2⟩ := h
    refine bool_iff ?_
    cases hs : mailB s with
    | true => rw [within_mail hs e.1, within_mail hs e.2, h1, h2]
    | false => rw [within_no hs, within_no hs, e.1, e.2]; exact ⟨fun h => absurd h.2.2.1 (by decide), fun h => absurd h.2.2.1 (by decide)⟩
  · rw [if_neg e, alikeB_iff] at h
    have e1 : mailB t = false := by
      cases k : mailB t with
      | false => rfl
      | true =>
        cases k2 : mailB u with
        | true => exact absurd ⟨k, k2⟩ e
        | false => exact absurd (low_mem h (mail_mem k)) (base_mem hu k2)
    have e2 : mailB u = false := by
      cases k : mailB u with
      | false => rfl
      | true => exact absurd (low_mem h.symm (mail_mem k)) (base_mem ht e1)
    refine bool_iff ?_
    cases hs : mailB s with
    | true => rw [within_dom hs e1, within_dom hs e2, h, ht, hu]
    | false => rw [within_no hs, within_no hs, h, ht, hu, e1, e2]
theorem same_base {k l : Int} {t u : List UInt8} {n m : Nm} (h : sameG k t n l u m = true) (h1 : BaseG k t) (h2 : BaseG l u) (q : Int) (x : List UInt8) (r : Nm) : withinG q x r k t n = withinG q x r l u m := by
  obtain rfl := sameG_kind h
  by_cases e : q = k
  · subst e
    unfold sameG at h
    rw [if_neg (by simp)] at h
    rcases kind_or q with rfl | rfl | rfl | rfl | hk
    · rw [withinG_1, withinG_1]
      rw [if_pos rfl] at h
      have a1 := h1.resolve_left (by decide)
      have a2 := h2.resolve_left (by decide)
      rw [okT_1, if_pos rfl] at a1 a2
      exact mail_sameb a1 a2 h x
    · rw [withinG_2, withinG_2]
      rw [if_neg (by decide), if_pos rfl, alikeB_iff] at h
      have a1 := h1.resolve_left (by decide)
      have a2 := h2.resolve_left (by decide)
      rw [okT_2, if_pos rfl] at a1 a2
      refine bool_iff ?_
      rw [dnsWithin_iff, dnsWithin_iff, h, a1, a2]
    · rw [withinG_4, withinG_4]
      rw [if_neg (by decide), if_neg (by decide), if_pos rfl] at h
      have h := of_decide_eq_true h
      exact decide_eq_decide.2 ⟨fun g => g.trans h.within, fun g => g.trans h.symm.within⟩
    · rw [withinG_7, withinG_7]
      rw [if_neg (by decide), if_neg (by decide), if_neg (by decide), if_pos rfl] at h
      rw [of_decide_eq_true h]
    · rw [withinG_no hk, withinG_no hk]
  · unfold withinG; rw [if_pos e, if_pos e]

/-! ### States -/
abbrev GnS := Int × List UInt8 × Nm
abbrev SubS := List GnS × List GnS
noncomputable def wG (g b : GnS) : Bool := withinG g.1 g.2.1 g.2.2 b.1 b.2.1 b.2.2
noncomputable def sG (a b : GnS) : Bool := sameG a.1 a.2.1 a.2.2 b.1 b.2.1 b.2.2
noncomputable def inG (g : GnS) (l : List GnS) : Bool := l.any (wG g)
def limG (l : List GnS) (k : Int) : Bool := l.any (fun b => decide (b.1 = k))
noncomputable def perG (st : List SubS) (g : GnS) : Bool := st.all (fun s => !(inG g s.2 || limG s.1 g.1 && !inG g s.1))
noncomputable def addG (l : List GnS) (g : GnS) : List GnS := if l.any (fun x => sG x g) = true then l else l ++ [g]
noncomputable def addsG (l m : List GnS) : List GnS := m.foldl addG l
noncomputable def everyG (st : List SubS) (k : Int) (g : GnS) : Bool := decide (g.1 = k) && st.all (fun o => !(limG o.1 k && !inG g o.1))
def kindsG : List Int := [1, 2, 4, 7]
def limitedG (st : List SubS) : List Int := kindsG.filter (fun k => st.any (fun s => limG s.1 k))
noncomputable def permG (st : List SubS) : List GnS := addsG [] ((limitedG st).flatMap (fun k => (st.flatMap (·.1)).filter (everyG st k)))
noncomputable def exclG (st : List SubS) : List GnS := addsG [] (st.flatMap (·.2))
noncomputable def perR (lim : List Int) (per exc : List GnS) (g : GnS) : Bool := !inG g exc && (!lim.contains g.1 || inG g per)
theorem wG_kind {g b : GnS} (h : wG g b = true) : g.1 = b.1 := within_kind h
theorem wG_nested {g b c : GnS} (h : wG g b = true) (k : wG g c = true) : wG b c = true ∨ wG c b = true := by
  have e1 := wG_kind h
  have e2 := wG_kind k
  unfold wG at h k ⊢
  rw [← e1] at h ⊢
  rw [← e2] at k ⊢
  exact withinG_nested h k
theorem wG_chain {a b c : GnS} (h : wG a b = true) (k : wG b c = true) : wG a c = true := by
  have e1 := wG_kind h
  have e2 := wG_kind k
  unfold wG at h k ⊢
  rw [← e1] at h
  rw [← e2, ← e1] at k ⊢
  exact withinG_chain h k
theorem inG_true {g : GnS} {l : List GnS} : inG g l = true ↔ ∃ b ∈ l, wG g b = true := by unfold inG; rw [List.any_eq_true]
/-- A base that is left out has the names of one that is there. -/
theorem inG_adds (g : GnS) : ∀ (m l : List GnS), (∀ b ∈ l ++ m, BaseG b.1 b.2.1) → inG g (addsG l m) = (inG g l || inG g m)
  | [], l, _ => by show inG g l = (inG g l || false); rw [Bool.or_false]
  | x :: m, l, hb => by
    show inG g (addsG (addG l x) m) = _
    have hx : BaseG x.1 x.2.1 := hb x (by simp)
    have hm : inG g (x :: m) = (wG g x || inG g m) := rfl
    unfold addG
    by_cases e : l.any (fun y => sG y x) = true
    · rw [if_pos e, inG_adds g m l (fun b h => hb b (by simp only [List.mem_append, List.mem_cons] at h ⊢; exact h.imp id .inr)), hm]
      obtain ⟨y, hy, hs⟩ := List.any_eq_true.1 e
      cases hw : wG g x with
      | false => rw [Bool.false_or]
      | true =>
        have : wG g y = true := (same_base hs (hb y (by simp [hy])) hx g.1 g.2.1 g.2.2).trans hw
        rw [inG_true.2 ⟨y, hy, this⟩]; rfl
    · rw [if_neg e, inG_adds g m (l ++ [x]) (fun b h => hb b (by simpa using h)), hm]
      unfold inG
      rw [List.any_append, Bool.or_assoc]
      simp
/-- The smallest of the bases that hold a name: one for each constraint. -/
theorem leastG (g : GnS) : ∀ (L : List SubS), L ≠ [] → (∀ s ∈ L, inG g s.1 = true) → ∃ s ∈ L, ∃ q ∈ s.1, wG g q = true ∧ ∀ o ∈ L, inG q o.1 = true
  | [], h, _ => absurd rfl h
  | [s], _, h => by
    obtain ⟨q, hq, e⟩ := inG_true.1 (h s (by simp))
    refine ⟨s, by simp, q, hq, e, fun o ho => ?_⟩
    rw [List.mem_singleton.1 ho]
    exact inG_true.2 ⟨q, hq, (wG_nested e e).elim id id⟩
  | s :: t :: r, _, h => by
    obtain ⟨s2, hs2, q, hq, e, hall⟩ := leastG g (t :: r) (by simp) (fun o ho => h o (List.mem_cons_of_mem _ ho))
    obtain ⟨p, hp, e2⟩ := inG_true.1 (h s (by simp))
    rcases wG_nested e e2 with k | k
    · refine ⟨s2, List.mem_cons_of_mem _ hs2, q, hq, e, fun o ho => ?_⟩
      rcases List.mem_cons.1 ho with rfl | ho
      · exact inG_true.2 ⟨p, hp, k⟩
      · exact hall o ho
    · refine ⟨s, by simp, p, hp, e2, fun o ho => ?_⟩
      rcases List.mem_cons.1 ho with rfl | ho
      · exact inG_true.2 ⟨p, hp, (wG_nested e2 e2).elim id id⟩
      · obtain ⟨x, hx, ex⟩ := inG_true.1 (hall o ho)
        exact inG_true.2 ⟨x, hx, wG_chain k ex⟩
def BasesG (st : List SubS) : Prop := ∀ s ∈ st, (∀ b ∈ s.1, BaseG b.1 b.2.1) ∧ ∀ b ∈ s.2, BaseG b.1 b.2.1
/-- A reduced state permits what the state permits. -/
theorem reduce_same {st : List SubS} (hst : BasesG st) {g : GnS} (hg : g.1 ∈ kindsG) : perR (limitedG st) (permG st) (exclG st) g = perG st g := by
  have hperm : ∀ b ∈ (limitedG st).flatMap (fun k => (st.flatMap (·.1)).filter (everyG st k)), BaseG b.1 b.2.1 := by
    intro b hb
    obtain ⟨k, _, h⟩ := List.mem_flatMap.1 hb
    obtain ⟨s, hs, h2⟩ := List.mem_flatMap.1 (List.mem_filter.1 h).1
    exact (hst s hs).1 b h2
  have hexc : ∀ b ∈ st.flatMap (·.2), BaseG b.1 b.2.1 := by
    intro b hb
    obtain ⟨s, hs, h2⟩ := List.mem_flatMap.1 hb
    exact (hst s hs).2 b h2
  have e1 : inG g (exclG st) = inG g (st.flatMap (·.2)) := (inG_adds g _ [] (by simpa using hexc)).trans (Bool.false_or _)
  have e2 : inG g (permG st) = inG g ((limitedG st).flatMap (fun k => (st.flatMap (·.1)).filter (everyG st k))) := (inG_adds g _ [] (by simpa using hperm)).trans (Bool.false_or _)
  have hlim : (limitedG st).contains g.1 = true ↔ ∃ s ∈ st, limG s.1 g.1 = true := by
    rw [List.contains_iff_mem]
    unfold limitedG
    rw [List.mem_filter, List.any_eq_true]
    exact ⟨fun h => h.2, fun h => ⟨hg, h⟩⟩
  refine bool_iff ?_
  unfold perR perG
  rw [e1, e2, Bool.and_eq_true, Bool.not_eq_true', Bool.or_eq_true, Bool.not_eq_true', List.all_eq_true]
  constructor
  · rintro ⟨h1, h2⟩ s hs
    have a1 : inG g s.2 = false := by
      cases k : inG g s.2 with
      | false => rfl
      | true =>
        obtain ⟨b, hb, e⟩ := inG_true.1 k
        rw [inG_true.2 ⟨b, List.mem_flatMap.2 ⟨s, hs, hb⟩, e⟩] at h1
        exact h1
    rw [a1, Bool.false_or]
    cases k : limG s.1 g.1 with
    | false => rfl
    | true =>
      have h3 := h2.resolve_left (by rw [hlim.2 ⟨s, hs, k⟩]; decide)
      obtain ⟨b, hb, e⟩ := inG_true.1 h3
      obtain ⟨q, _, hf⟩ := List.mem_flatMap.1 hb
      have hev := (List.mem_filter.1 hf).2
      unfold everyG at hev
      rw [Bool.and_eq_true, decide_eq_true_iff, List.all_eq_true] at hev
      have h5 := hev.2 s hs
      rw [← hev.1, ← wG_kind e, k, Bool.true_and, Bool.not_not] at h5
      obtain ⟨c, hc, ec⟩ := inG_true.1 h5
      rw [inG_true.2 ⟨c, hc, wG_chain e ec⟩]
      rfl
  · intro h
    have h' : ∀ s ∈ st, inG g s.2 = false ∧ (limG s.1 g.1 = true → inG g s.1 = true) := by
      intro s hs
      have := h s hs
      revert this
      cases inG g s.2 <;> cases limG s.1 g.1 <;> cases inG g s.1 <;> decide
    refine ⟨?_, ?_⟩
    · cases k : inG g (st.flatMap (·.2)) with
      | false => rfl
      | true =>
        obtain ⟨b, hb, e⟩ := inG_true.1 k
        obtain ⟨s, hs, h2⟩ := List.mem_flatMap.1 hb
        have := (h' s hs).1
        rw [inG_true.2 ⟨b, h2, e⟩] at this
        exact this
    · cases k : (limitedG st).contains g.1 with
      | false => exact .inl rfl
      | true =>
        refine .inr ?_
        obtain ⟨s, hs, hl⟩ := hlim.1 k
        obtain ⟨s0, hs0, q, hq, e, hall⟩ := leastG g (st.filter (fun s => limG s.1 g.1)) (by
          intro h0
          have : s ∈ st.filter (fun s => limG s.1 g.1) := List.mem_filter.2 ⟨hs, hl⟩
          rw [h0] at this; cases this) (fun o ho => by
          obtain ⟨h1, h2⟩ := List.mem_filter.1 ho
          exact (h' o h1).2 h2)
        have ho0 := List.mem_filter.1 hs0
        refine inG_true.2 ⟨q, List.mem_flatMap.2 ⟨g.1, List.contains_iff_mem.1 k, List.mem_filter.2 ⟨List.mem_flatMap.2 ⟨s0, ho0.1, hq⟩, ?_⟩⟩, e⟩
        unfold everyG
        rw [Bool.and_eq_true, decide_eq_true_iff, List.all_eq_true]
        refine ⟨(wG_kind e).symm, fun o ho => ?_⟩
        cases kl : limG o.1 g.1 with
        | false => rfl
        | true => rw [hall o (List.mem_filter.2 ⟨ho, kl⟩)]; rfl
end Go.Proofs.YtofadgmnjckpcaaGreatDoor
