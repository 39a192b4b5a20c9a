/-
  What is accepted is what is written, as lists of bytes. Nothing is claimed of the program here.
  What Wrap writes is read, whatever stands behind it; what One accepts is what Wrap writes. Nothing is claimed of the program here.
  The contract of Few of certpathmade: whether a list of strings is small enough for a law.
  Elements that Wrap writes, in ascending order, one after the other: List reads them back, and they ascend.
  Plain laws on the short types as the reference looks them up, one after the other. Nothing is claimed of the program here.
  Elements, and what is read of them; attributes, relative names and names, and their encodings: each determines the other. Nothing is claimed of the program here.
-/
import Derived.Test.YtbpdenfiifcfcaaGreatDoorKbb
import Derived.Test.YtbpdenfiifcfcaaGreatDoorKak
import Derived.Test.YtbpdenfiifcfcaaGreatDoorKaq
import Derived.Test.YtbpdenfiifcfcaaGreatDoorKba
namespace Go.Proofs.YtbpdenfiifcfcaaGreatDoor
open Go.RowKit

theorem u8at_list_t {b : ByteArray} {L : List UInt8} (h : b.data.toList = L) (i : Nat) : u8at b i = (L.getD i 0).toNat := by unfold u8at; rw [h]
theorem size_list {b : ByteArray} {L : List UInt8} (h : b.data.toList = L) : b.size = L.length := by rw [← h]; rfl
theorem data_extract (b : ByteArray) (i j : Nat) : (b.extract i j).data.toList = (b.data.toList.drop i).take (j - i) := by
  rw [ByteArray.data_extract, Array.toList_extract, List.extract_eq_take_drop]
theorem lst_ge {L : List UInt8} (k : Nat) (h : k + 1 ≤ L.length) : ∃ x r, L = x :: r ∧ k ≤ r.length := by
  cases L with
  | nil => exact absurd h (Nat.not_succ_le_zero _)
  | cons x r => exact ⟨x, r, rfl, by simpa using h⟩

/-- The header that was read is the one that is written. -/
theorem head_back {b : ByteArray} (h : rdErr b = 0) : b.data.toList = UInt8.ofNat (rdTag b) :: (lenO (rd b).2.2 ++ b.data.toList.drop (rd b).2.1) := by
  obtain ⟨h0, h1, h2, h3, h4⟩ := rd_cases h
  obtain ⟨L, hL⟩ : ∃ L, b.data.toList = L := ⟨_, rfl⟩
  have hu := u8at_list_t hL
  have hsz := size_list hL
  rw [h4, hL]
  unfold rdTag
  simp only
  revert h2 h3
  unfold lnAt
  by_cases c1 : b.size ≤ 1
  · rw [if_pos c1]; intro x; cases x
  · rw [if_neg c1]
    by_cases c2 : u8at b 1 < 128
    · rw [if_pos c2]
      intro _ h3
      simp only at h3 ⊢
      obtain ⟨x0, r0, rfl, g0⟩ := lst_ge (L := L) 1 (by omega)
      obtain ⟨x1, r1, rfl, g1⟩ := lst_ge (L := r0) 0 (by omega)
      have e0 : u8at b 0 = x0.toNat := hu 0
      have e1 : u8at b 1 = x1.toNat := hu 1
      rw [e1] at c2 ⊢
      rw [e0]
      have e2 : lenO x1.toNat = [x1] := by unfold lenO; rw [if_pos (lsz1 c2), UInt8.ofNat_toNat]
      rw [e2, UInt8.ofNat_toNat]
      rfl
    · rw [if_neg c2]
      by_cases c3 : u8at b 1 = 128 ∨ 131 < u8at b 1
      · rw [if_pos c3]; intro x; cases x
      · rw [if_neg c3]
        by_cases c4 : b.size < 1 + 1 + (u8at b 1 - 128)
        · rw [if_pos c4]; intro x; cases x
        · rw [if_neg c4]
          by_cases c5 : be b (1 + 1) (u8at b 1 - 128) < least (u8at b 1 - 128) ∨ 131072 < be b (1 + 1) (u8at b 1 - 128)
          · rw [if_pos c5]; intro x; cases x
          · rw [if_neg c5]
            intro _ h3
            simp only at h3 ⊢
            have hn := be_lt b (1 + 1) (u8at b 1 - 128)
            obtain ⟨k, hk⟩ : ∃ k, k = u8at b 1 - 128 := ⟨_, rfl⟩
            rw [← hk] at c4 c5 hn ⊢
            obtain ⟨x0, r0, rfl, g0⟩ := lst_ge (L := L) 1 (by omega)
            obtain ⟨x1, r1, rfl, g1⟩ := lst_ge (L := r0) 0 (by omega)
            have e0 : u8at b 0 = x0.toNat := hu 0
            have e1 : u8at b 1 = x1.toNat := hu 1
            have hl : r1.length + 2 = b.size := by rw [hsz]; rfl
            rw [e0, UInt8.ofNat_toNat]
            rcases (by omega : k = 1 ∨ k = 2 ∨ k = 3) with rfl | rfl | rfl
            · obtain ⟨x2, r2, rfl, g2⟩ := lst_ge (L := r1) 0 (by omega)
              have e2 : u8at b 2 = x2.toNat := hu 2
              have ev : be b (1 + 1) 1 = x2.toNat := by show 256 * 0 + u8at b 2 = _; omega
              rw [ev] at c5 hn ⊢
              rw [least_one] at c5
              have hz : lsz x2.toNat = 2 := lsz2 (by omega) (by omega)
              have e3 : lenO x2.toNat = [x1, x2] := by
                unfold lenO
                rw [if_neg (by omega), hz]
                show [UInt8.ofNat 129, UInt8.ofNat (x2.toNat / 256 ^ 0)] = _
                rw [show (129 : Nat) = x1.toNat by omega, Nat.pow_zero, Nat.div_one, UInt8.ofNat_toNat, UInt8.ofNat_toNat]
              rw [e3]
              rfl
            · obtain ⟨x2, r2, rfl, g2⟩ := lst_ge (L := r1) 1 (by omega)
              obtain ⟨x3, r3, rfl, g3⟩ := lst_ge (L := r2) 0 (by omega)
              have e2 : u8at b 2 = x2.toNat := hu 2
              have e3 : u8at b 3 = x3.toNat := hu 3
              have l2 := x2.toNat_lt
              have l3 := x3.toNat_lt
              obtain ⟨v, hv⟩ : ∃ v, v = be b (1 + 1) 2 := ⟨_, rfl⟩
              have ev : v = 256 * x2.toNat + x3.toNat := by rw [hv]; show 256 * (256 * 0 + u8at b 2) + u8at b 3 = _; omega
              rw [← hv] at c5 hn ⊢
              rw [least_two] at c5
              have hz : lsz v = 3 := lsz3 (by omega) (by omega)
              have e4 : lenO v = [x1, x2, x3] := by
                unfold lenO
                rw [if_neg (by omega), hz]
                show [UInt8.ofNat 130, UInt8.ofNat (v / 256 ^ 1), UInt8.ofNat (v / 256 ^ 0)] = _
                have q1 : UInt8.ofNat (v / 256 ^ 1) = x2 := by rw [← UInt8.toNat_inj]; simp; omega
                have q2 : UInt8.ofNat (v / 256 ^ 0) = x3 := by rw [← UInt8.toNat_inj]; simp; omega
                rw [show (130 : Nat) = x1.toNat by omega, UInt8.ofNat_toNat, q1, q2]
              rw [e4]
              rfl
            · obtain ⟨x2, r2, rfl, g2⟩ := lst_ge (L := r1) 2 (by omega)
              obtain ⟨x3, r3, rfl, g3⟩ := lst_ge (L := r2) 1 (by omega)
              obtain ⟨x4, r4, rfl, g4⟩ := lst_ge (L := r3) 0 (by omega)
              have e2 : u8at b 2 = x2.toNat := hu 2
              have e3 : u8at b 3 = x3.toNat := hu 3
              have e4 : u8at b 4 = x4.toNat := hu 4
              have l2 := x2.toNat_lt
              have l3 := x3.toNat_lt
              have l4 := x4.toNat_lt
              obtain ⟨v, hv⟩ : ∃ v, v = be b (1 + 1) 3 := ⟨_, rfl⟩
              have ev : v = 256 * (256 * x2.toNat + x3.toNat) + x4.toNat := by rw [hv]; show 256 * (256 * (256 * 0 + u8at b 2) + u8at b 3) + u8at b 4 = _; omega
              rw [← hv] at c5 hn ⊢
              rw [least_three] at c5
              have hz : lsz v = 4 := lsz4 (by omega)
              have e5 : lenO v = [x1, x2, x3, x4] := by
                unfold lenO
                rw [if_neg (by omega), hz]
                show [UInt8.ofNat 131, UInt8.ofNat (v / 256 ^ 2), UInt8.ofNat (v / 256 ^ 1), UInt8.ofNat (v / 256 ^ 0)] = _
                have q1 : UInt8.ofNat (v / 256 ^ 2) = x2 := by rw [← UInt8.toNat_inj]; simp; omega
                have q2 : UInt8.ofNat (v / 256 ^ 1) = x3 := by rw [← UInt8.toNat_inj]; simp; omega
                have q3 : UInt8.ofNat (v / 256 ^ 0) = x4 := by rw [← UInt8.toNat_inj]; simp; omega
                rw [show (131 : Nat) = x1.toNat by omega, UInt8.ofNat_toNat, q1, q2, q3]
              rw [e5]
              rfl
end Go.Proofs.YtbpdenfiifcfcaaGreatDoor
namespace Go.Proofs.YtbpdenfiifcfcaaGreatDoor
open Go.RowKit

theorem rd_len_le {b : ByteArray} (h : rdErr b = 0) : (rd b).2.2 ≤ 131072 := by
  obtain ⟨_, _, h2, _, h4⟩ := rd_cases h
  rw [h4]
  simp only
  revert h2
  unfold lnAt
  repeat' split
  all_goals first | exact fun x => absurd x (by decide) | (intro _; simp only; omega)
theorem ofNat_small {n : Nat} (h : n < 256) : (UInt8.ofNat n).toNat = n := by simp; omega

/-- What Wrap has written is read, whatever stands behind it. -/
theorem rd_wrap {b : ByteArray} {t : Nat} {c d : List UInt8} (ht : t < 256) (h1 : t % 32 ≠ 31) (hc : c.length ≤ 131072) (hb : b.data.toList = wrapL t c ++ d) : rd b = (0, 1 + lsz c.length, c.length) := by
  have hu := u8at_list_t hb
  have hsz := size_list hb
  have hw : wrapL t c ++ d = UInt8.ofNat t :: (lenO c.length ++ (c ++ d)) := by unfold wrapL; simp
  rw [hw] at hu hsz
  have e0 : u8at b 0 = t := by rw [hu 0]; exact ofNat_small ht
  have hl : b.size = 1 + lsz c.length + c.length + d.length := by rw [hsz]; simp [lenO_length]; omega
  have hz := lsz_le c.length
  obtain ⟨n, hn⟩ : ∃ n, n = c.length := ⟨_, rfl⟩
  rw [← hn] at hc hu hl hz ⊢
  have key : lnAt b 1 = (n, lsz n, 0) := by
    unfold lnAt
    rw [if_neg (show ¬ b.size ≤ 1 by omega)]
    have hcs := lsz_cases n
    by_cases c1 : lsz n = 1
    · have e1 : u8at b 1 = n := by
        rw [hu 1]; unfold lenO; rw [if_pos c1]; exact ofNat_small (by omega)
      rw [e1, if_pos (by omega), c1]
    · have e1 : u8at b 1 = 127 + lsz n := by
        rw [hu 1]; unfold lenO; rw [if_neg c1]; exact ofNat_small (by omega)
      obtain ⟨k, hk⟩ : ∃ k, lsz n = 1 + k := ⟨lsz n - 1, by omega⟩
      have e2 : 127 + lsz n - 128 = k := by omega
      have eo : lenO n = UInt8.ofNat (127 + lsz n) :: octs n k := by unfold lenO; rw [if_neg c1, show lsz n - 1 = k by omega]
      have hle := least_ok (v := n) (k := k) (by omega) (by omega) hk
      have ev : be b (1 + 1) k = n := by
        rw [eo] at hu
        rcases (by omega : k = 1 ∨ k = 2 ∨ k = 3) with rfl | rfl | rfl
        · have a2 : u8at b 2 = n % 256 := by rw [hu 2]; show (UInt8.ofNat (n / 256 ^ 0)).toNat = _; simp
          show 256 * 0 + u8at b 2 = n
          omega
        · have a2 : u8at b 2 = n / 256 % 256 := by rw [hu 2]; show (UInt8.ofNat (n / 256 ^ 1)).toNat = _; simp
          have a3 : u8at b 3 = n % 256 := by rw [hu 3]; show (UInt8.ofNat (n / 256 ^ 0)).toNat = _; simp
          show 256 * (256 * 0 + u8at b 2) + u8at b 3 = n
          omega
        · have a2 : u8at b 2 = n / 65536 % 256 := by rw [hu 2]; show (UInt8.ofNat (n / 256 ^ 2)).toNat = _; simp
          have a3 : u8at b 3 = n / 256 % 256 := by rw [hu 3]; show (UInt8.ofNat (n / 256 ^ 1)).toNat = _; simp
          have a4 : u8at b 4 = n % 256 := by rw [hu 4]; show (UInt8.ofNat (n / 256 ^ 0)).toNat = _; simp
          show 256 * (256 * (256 * 0 + u8at b 2) + u8at b 3) + u8at b 4 = n
          omega
      rw [e1, if_neg (by omega), if_neg (by omega), e2, if_neg (by omega), ev, if_neg (by omega), hk]
  rw [rd_mk (b := b) (by omega) (by rw [e0]; exact h1) (by rw [key]) (by rw [key]; simp only; omega), key]

theorem take_wrap (t : Nat) (c d : List UInt8) : (wrapL t c ++ d).take (1 + lsz c.length + c.length) = wrapL t c := by
  have : (wrapL t c).length = 1 + lsz c.length + c.length := by unfold wrapL; simp [lenO_length]; omega
  rw [List.take_append_of_le_length (by omega), List.take_of_length_le (by omega)]
theorem drop_wrap (t : Nat) (c d : List UInt8) : (wrapL t c ++ d).drop (1 + lsz c.length + c.length) = d := by
  have : (wrapL t c).length = 1 + lsz c.length + c.length := by unfold wrapL; simp [lenO_length]; omega
  rw [← this, List.drop_left]
theorem mid_wrap (t : Nat) (c d : List UInt8) : ((wrapL t c ++ d).drop (1 + lsz c.length)).take c.length = c := by
  have h : wrapL t c ++ d = (UInt8.ofNat t :: lenO c.length) ++ (c ++ d) := by unfold wrapL; simp
  have h2 : (UInt8.ofNat t :: lenO c.length).length = 1 + lsz c.length := by simp [lenO_length]; omega
  rw [h, ← h2, List.drop_left, List.take_left]
theorem ext_list_t {a b : ByteArray} (h : a.data.toList = b.data.toList) : a = b := ByteArray.ext (Array.toList_inj.1 h)

/-- .. so that the element has these parts. -/
theorem read_wrap {b : ByteArray} {t : Nat} {c d : List UInt8} (ht : t < 256) (h1 : t % 32 ≠ 31) (hc : c.length ≤ 131072) (hb : b.data.toList = wrapL t c ++ d) :
    rdVal b = .tuple #[.agg #[.int .i64 ((t : Nat) : Int), .string ⟨c.toArray⟩, .string ⟨(wrapL t c).toArray⟩], .string ⟨d.toArray⟩, .int .i64 0] := by
  have h := rd_wrap ht h1 hc hb
  have he : rdErr b = 0 := by unfold rdErr; rw [h]
  have hsz : b.size = 1 + lsz c.length + c.length + d.length := by rw [size_list hb]; unfold wrapL; simp [lenO_length]; omega
  have e0 : rdTag b = t := by
    unfold rdTag
    rw [u8at_list_t hb 0]
    exact ofNat_small ht
  have e1 : rdContent b = ⟨c.toArray⟩ := by
    apply ext_list_t
    unfold rdContent
    rw [data_extract, h, hb]
    simp only
    rw [show 1 + lsz c.length + c.length - (1 + lsz c.length) = c.length by omega, mid_wrap]
  have e2 : rdRaw b = ⟨(wrapL t c).toArray⟩ := by
    apply ext_list_t
    unfold rdRaw
    rw [data_extract, h, hb]
    simp only [List.drop_zero, Nat.sub_zero]
    exact take_wrap t c d
  have e3 : rdRest b = ⟨d.toArray⟩ := by
    apply ext_list_t
    unfold rdRest
    rw [data_extract, h, hb]
    simp only
    rw [drop_wrap]
    exact List.take_of_length_le (by omega)
  rw [rdVal_good he, e0, e1, e2, e3]

/-- What One accepts is what Wrap writes for its parts. -/
theorem wrap_one {b : ByteArray} (h : oneErr b = 0) : wrapVal ((rdTag b : Nat) : Int) (cat_t [rdContent b]) = .tuple #[.string b, .int .i64 0] ∧ rdRaw b = b := by
  have he := oneErr_rd h
  have hs := oneErr_size h
  have hlen := rd_len_le he
  obtain ⟨_, h1, _, _, _⟩ := rd_cases he
  have hd : (rdContent b).data.toList = b.data.toList.drop (rd b).2.1 := by
    unfold rdContent
    rw [data_extract]
    refine List.take_of_length_le ?_
    rw [List.length_drop]
    show b.size - _ ≤ _
    omega
  have hc : cat_t [rdContent b] = b.data.toList.drop (rd b).2.1 := by simp [cat_t, hd]
  have hn : (b.data.toList.drop (rd b).2.1).length = (rd b).2.2 := by
    rw [List.length_drop]
    show b.size - _ = _
    omega
  have ht := rdTag_lt b
  constructor
  · have e : wrapErr ((rdTag b : Nat) : Int) (cat_t [rdContent b]).length = 0 := by
      rw [hc, hn]
      unfold wrapErr
      rw [if_neg (by unfold rdTag at ht ⊢; omega), if_neg (by omega)]
    unfold wrapVal wrapStr
    rw [e, if_pos rfl, hc]
    have e2 : wrapL ((rdTag b : Nat) : Int).toNat (b.data.toList.drop (rd b).2.1) = b.data.toList := by
      unfold wrapL
      rw [hn]
      exact (head_back he).symm
    rw [e2]
    rfl
  · apply ext_list_t
    unfold rdRaw
    rw [data_extract, hs, List.drop_zero, Nat.sub_zero]
    exact List.take_of_length_le (Nat.le_refl _)
end Go.Proofs.YtbpdenfiifcfcaaGreatDoor
namespace Go.Proofs.YtbpdenfiifcfcaaGreatDoor
open Go.RowKit

end Go.Proofs.YtbpdenfiifcfcaaGreatDoor
namespace Go.Proofs.YtbpdenfiifcfcaaGreatDoor
open Go.RowKit

/-- The element of OCTETS with the content s: its bytes, and what the law writes. -/
def encS (s : ByteArray) : ByteArray := ⟨(wrapL 4 s.data.toList).toArray⟩
def elS (s : ByteArray) : El := (4, s, encS s)
theorem ordL_sorted (L : List (List UInt8)) : (ordL L).Pairwise (fun a b => ¬ b < a) := by
  have tr : ∀ a b c : List UInt8, decide (a ≤ b) = true → decide (b ≤ c) = true → decide (a ≤ c) = true := fun a b c h1 h2 => by simp only [decide_eq_true_eq] at *; exact List.le_trans h1 h2
  have tot : ∀ a b : List UInt8, (decide (a ≤ b) || decide (b ≤ a)) = true := fun a b => by simp only [Bool.or_eq_true, decide_eq_true_eq]; exact List.le_total a b
  exact (List.pairwise_mergeSort tr tot L).imp fun {a b} hh => List.not_lt.2 (of_decide_eq_true hh)

theorem asc_of {els : List El} {L : List (List UInt8)} (h : els.map (fun e => e.2.2.data.toList) = L) (hs : L.Pairwise (fun a b => ¬ b < a)) : ascP els els.length := by
  intro i h1 h2
  have hl : els.length = L.length := by rw [← h, List.length_map]
  have g : ∀ j (hj : j < L.length), rawAt els j = L[j] := fun j hj => by
    unfold rawAt
    rw [List.getD_eq_getElem?_getD, List.getElem?_eq_getElem (by omega)]
    simp only [← h, List.getElem_map, Option.getD_some]
  rw [g i (by omega), g (i - 1) (by omega)]
  exact List.pairwise_iff_getElem.1 hs (i - 1) i (by omega) (by omega) (by omega)

/-- Two values share no block. -/
def Apart (u v : Value) : Prop := ∀ g, u.ownBlock = some g → v.ownBlock = some g → False
theorem Apart.symm {u v : Value} (h : Apart u v) : Apart v u := fun g a b => h g b a
theorem own_keep {w w' : World} {B : Nat} {e : TypeId} {k n : Nat} {u v : Value} {xs : List Value} (hu : w.ownsRow B e k u n xs) (hg : w.grownBy w' v.ownBlock) (hd : Apart u v) : w'.ownsRow B e k u n xs := by
  refine World.ownsRow.kept hu hg ?_
  cases hb : u.ownBlock with
  | none => exact .inl rfl
  | some g => exact .inr fun e => hd g hb e.symm
theorem apart_step {w : World} {B : Nat} {e : TypeId} {k n : Nat} {u v v' : Value} {xs : List Value} (hu : w.ownsRow B e k u n xs) (hd : Apart u v) (hat : v'.ownBlock = v.ownBlock ∨ v'.ownBlock = some w.heap.size) : Apart u v' := by
  intro g h1 h2
  rcases hat with hat | hat
  · exact hd g h1 (by rw [← hat]; exact h2)
  · have h3 := (World.ownsRow.lt hu g h1).2
    rw [hat] at h2
    have := Option.some.inj h2
    omega
/-- The law's three slices. -/
def Tri (w wr : World) (v1 v2 v3 : Value) (L1 L2 : List ByteArray) (L3 : List El) : Prop :=
  OwnS_t wr w.heap.size v1 L1 ∧ OwnS_t wr w.heap.size v2 L2 ∧ OwnE wr w.heap.size v3 L3 ∧ Apart v1 v2 ∧ Apart v1 v3 ∧ Apart v2 v3 ∧ Below w.heap.size w wr
theorem Tri.nil (w : World) : Tri w w (.slice none 0 0) (.slice none 0 0) (.slice none 0 0) [] [] [] :=
  ⟨World.ownsRow_nil _ _ _ _, World.ownsRow_nil _ _ _ _, World.ownsRow_nil _ _ _ _, fun _ h => by simp [Value.ownBlock] at h, fun _ h => by simp [Value.ownBlock] at h, fun _ h => by simp [Value.ownBlock] at h, Below.refl _ _⟩
theorem Tri.below {w wr w' : World} {v1 v2 v3 : Value} {L1 L2 : List ByteArray} {L3 : List El} (h : Tri w wr v1 v2 v3 L1 L2 L3) (hb : Below wr.heap.size wr w') : Tri w w' v1 v2 v3 L1 L2 L3 := by
  obtain ⟨a, b, c, d, e, f, g⟩ := h
  exact ⟨own_below a hb, own_below b hb, own_below c hb, d, e, f, below_next_t g hb⟩
theorem Tri.alloc {w wr : World} {v1 v2 v3 : Value} {L1 L2 : List ByteArray} {L3 : List El} (h : Tri w wr v1 v2 v3 L1 L2 L3) (o : Obj) : Tri w (wr.alloc o) v1 v2 v3 L1 L2 L3 :=
  h.below (belowNew wr o)
theorem Tri.first {w wr w2 : World} {v1 v2 v3 v' : Value} {L1 L2 : List ByteArray} {L3 : List El} {s : ByteArray} (h : Tri w wr v1 v2 v3 L1 L2 L3)
    (ho : w2.ownsRow w.heap.size 9 1 v' (L1.length + 1) (L1.map Value.string ++ [Value.string s])) (hg : wr.grownBy w2 v1.ownBlock) (hat : v'.ownBlock = v1.ownBlock ∨ v'.ownBlock = some wr.heap.size) :
    Tri w w2 v' v2 v3 (L1 ++ [s]) L2 L3 := by
  obtain ⟨a, b, c, d, e, f, g⟩ := h
  refine ⟨?_, own_keep b hg d.symm, own_keep c hg e.symm, (apart_step b d.symm hat).symm, (apart_step c e.symm hat).symm, f, g.grown hg g.size (fun k e => (World.ownsRow.lt a k e).1)⟩
  unfold OwnS_t
  simpa using ho
theorem Tri.second {w wr w2 : World} {v1 v2 v3 v' : Value} {L1 L2 : List ByteArray} {L3 : List El} {s : ByteArray} (h : Tri w wr v1 v2 v3 L1 L2 L3)
    (ho : w2.ownsRow w.heap.size 9 1 v' (L2.length + 1) (L2.map Value.string ++ [Value.string s])) (hg : wr.grownBy w2 v2.ownBlock) (hat : v'.ownBlock = v2.ownBlock ∨ v'.ownBlock = some wr.heap.size) :
    Tri w w2 v1 v' v3 L1 (L2 ++ [s]) L3 := by
  obtain ⟨a, b, c, d, e, f, g⟩ := h
  refine ⟨own_keep a hg d, ?_, own_keep c hg f.symm, apart_step a d hat, e, (apart_step c f.symm hat).symm, g.grown hg g.size (fun k e => (World.ownsRow.lt b k e).1)⟩
  unfold OwnS_t
  simpa using ho
theorem Tri.next {w wr : World} {v1 v2 v3 : Value} {D ss : List ByteArray} {s x : ByteArray} {k : Nat} (h : Tri w wr v1 v2 v3 (D ++ [s]) (D.map encS ++ [x]) (D.map elS ++ [(4, s, x)])) (hx : x = encS s) (hD : D = ss.take k) (hk : k < ss.length)
    (hs : s = ss.getD k ByteArray.empty) : Tri w wr v1 v2 v3 (ss.take (k + 1)) ((ss.take (k + 1)).map encS) ((ss.take (k + 1)).map elS) := by
  have e : ss.take (k + 1) = D ++ [s] := by
    rw [List.take_succ_eq_append_getElem hk, hs, hD]
    simp [hk]
  rw [e, List.map_append, List.map_append]
  subst hx
  exact h
theorem OwnS_t.reads {w : World} {B : Nat} {v : Value} {D : List ByteArray} (h : OwnS_t w B v D) : Reads w v D := h.lies

theorem OwnE.old {B : Nat} {w w' : World} {v : Value} {l : List El} (h : OwnE w B v l) (hb : Below w.heap.size w w') : OwnE w' B v l := own_below h hb
end Go.Proofs.YtbpdenfiifcfcaaGreatDoor
namespace Go.Proofs.YtbpdenfiifcfcaaGreatDoor
open Go.RowKit

theorem oid_c : Oid [50, 46, 53, 46, 52, 46, 54] [2, 5, 4, 6] := by
  refine ⟨⟨by decide, by decide, by decide, by decide, by decide⟩, ?_⟩
  decide +kernel
theorem oid_l : Oid [50, 46, 53, 46, 52, 46, 55] [2, 5, 4, 7] := by
  refine ⟨⟨by decide, by decide, by decide, by decide, by decide⟩, ?_⟩
  decide +kernel
theorem oid_ou : Oid [50, 46, 53, 46, 52, 46, 49, 49] [2, 5, 4, 11] := by
  refine ⟨⟨by decide, by decide, by decide, by decide, by decide⟩, ?_⟩
  decide +kernel
theorem oid_dc : Oid [48, 46, 57, 46, 50, 51, 52, 50, 46, 49, 57, 50, 48, 48, 51, 48, 48, 46, 49, 48, 48, 46, 49, 46, 50, 53] [0, 9, 2342, 19200300, 100, 1, 25] := by
  refine ⟨⟨by decide, by decide, by decide, by decide, by decide⟩, ?_⟩
  decide +kernel
theorem oid_e : Oid [49, 46, 50, 46, 56, 52, 48, 46, 49, 49, 51, 53, 52, 57, 46, 49, 46, 57, 46, 49] [1, 2, 840, 113549, 1, 9, 1] := by
  refine ⟨⟨by decide, by decide, by decide, by decide, by decide⟩, ?_⟩
  decide +kernel
end Go.Proofs.YtbpdenfiifcfcaaGreatDoor
namespace Go.Proofs.YtbpdenfiifcfcaaGreatDoor
open Go.RowKit

/-! ### Elements -/
theorem wr1_list {t : Nat} {c : ByteArray} (ht : t < 256) (h1 : t % 32 ≠ 31) (hc : c.size ≤ 131072) : (wr1 ((t : Nat) : Int) c).data.toList = wrapL t c.data.toList := by
  have e : wrapErr ((t : Nat) : Int) c.data.toList.length = 0 := by
    have : c.data.toList.length = c.size := rfl
    unfold wrapErr
    rw [if_neg (by omega), if_neg (by omega)]
  unfold wr1 wrapStr
  rw [e, if_pos rfl]
  rfl
/-- An element as Wrap writes it. -/
def OkE (e : El) : Prop := e.1 < 256 ∧ e.1 % 32 ≠ 31 ∧ e.2.1.size ≤ 131072 ∧ e.2.2 = wr1 ((e.1 : Nat) : Int) e.2.1
def raws (L : List El) : List (List UInt8) := L.map fun e => e.2.2.data.toList
theorem lst_els : ∀ (L : List El), (∀ e ∈ L, OkE e) → ∀ b : ByteArray, b.data.toList = (raws L).flatten → lst b = (L, 0)
  | [], _, b, hb => lst_nil (by rw [size_list hb]; rfl)
  | e :: L, h, b, hb => by
    obtain ⟨t, c, r⟩ := e
    obtain ⟨ht, h1, hc, hr⟩ := h _ List.mem_cons_self
    simp only at ht h1 hc hr
    have hw := wr1_list ht h1 hc
    have hb2 : b.data.toList = wrapL t c.data.toList ++ (raws L).flatten := by
      rw [hb, raws, List.map_cons, List.flatten_cons, hr, hw]; rfl
    have hrd := rd_wrap ht h1 hc hb2
    have he : rdErr b = 0 := by unfold rdErr; rw [hrd]
    have hv := read_wrap ht h1 hc hb2
    rw [rdVal_good he] at hv
    have h0 : b.size ≠ 0 := by
      rw [size_list hb2]
      unfold wrapL
      simp
    simp only [Value.tuple.injEq, Array.mk.injEq, List.cons.injEq, Value.agg.injEq, Value.string.injEq, Value.int.injEq] at hv
    have e1 : rdTag b = t := by have := hv.1.1.2; omega
    have e2 : rdRaw b = r := by rw [hv.1.2.2.1, hr]; exact (ext_list_t (by rw [hw])).symm
    have e3 : rdContent b = c := by rw [hv.1.2.1]
    have e4 : rdRest b = ⟨(raws L).flatten.toArray⟩ := hv.2.1
    have i1 := lst_els L (fun x hx => h x (List.mem_cons_of_mem _ hx)) (rdRest b) (by rw [e4])
    rw [lst_step h0 he, i1, if_pos rfl]
    unfold rdElem
    rw [e1, e2, e3]
theorem rd_parts {b : ByteArray} (h : rdErr b = 0) : OkE (rdElem b) ∧ b.data.toList = (rdRaw b).data.toList ++ (rdRest b).data.toList := by
  have hh := head_back h
  obtain ⟨h2, h5, hs, hx, h0⟩ := rd_ok h
  have hlen := rd_len_le h
  have ht := rdTag_lt b
  obtain ⟨n, hn⟩ : ∃ n, n = (rd b).2.2 := ⟨_, rfl⟩
  obtain ⟨p, hp⟩ : ∃ p, p = (rd b).2.1 := ⟨_, rfl⟩
  have hraw : (rdRaw b).data.toList = b.data.toList.take (p + n) := by unfold rdRaw; rw [data_extract, ← hn, ← hp]; simp
  have hrest : (rdRest b).data.toList = b.data.toList.drop (p + n) := by
    unfold rdRest
    rw [data_extract, ← hn, ← hp]
    refine List.take_of_length_le ?_
    rw [List.length_drop]
    exact Nat.le_refl _
  have hcon : (rdContent b).data.toList = (b.data.toList.drop p).take n := by unfold rdContent; rw [data_extract, ← hn, ← hp]; congr 1; omega
  rw [← hn, ← hp] at hh
  rw [← hn] at hlen
  rw [← hn, ← hp] at hs
  obtain ⟨D, hD⟩ : ∃ D, D = b.data.toList.drop p := ⟨_, rfl⟩
  have hDl : D.length = b.size - p := by rw [hD, List.length_drop]; rfl
  rw [← hD] at hh hcon
  have hl := congrArg List.length hh
  have hlb : b.data.toList.length = b.size := rfl
  rw [hlb, List.length_cons, List.length_append, hDl] at hl
  have hc : (rdContent b).size = n := by
    have : (rdContent b).data.toList.length = (rdContent b).size := rfl
    rw [← this, hcon, List.length_take, hDl]
    omega
  refine ⟨⟨ht, hx, by show (rdContent b).size ≤ _; omega, ?_⟩, by rw [hraw, hrest, List.take_append_drop]⟩
  show rdRaw b = wr1 _ (rdContent b)
  apply ext_list_t
  show _ = (wr1 ((rdTag b : Nat) : Int) (rdContent b)).data.toList
  rw [wr1_list ht hx (by omega), hraw, hcon]
  have hcl : (D.take n).length = n := by rw [← hcon]; exact hc
  unfold wrapL
  rw [hcl]
  conv => lhs; rw [hh]
  rw [show p + n = (lenO n).length + n + 1 by omega, List.take_succ_cons, List.take_append]
  congr 1
  rw [List.take_of_length_le (by omega), show (lenO n).length + n - (lenO n).length = n by omega]
theorem els_lst (k : Nat) : ∀ (b : ByteArray) (L : List El), b.size ≤ k → lst b = (L, 0) → (∀ e ∈ L, OkE e) ∧ b.data.toList = (raws L).flatten := by
  induction k with
  | zero =>
    intro b L hk h
    have h0 : b.size = 0 := by omega
    rw [lst_nil h0] at h
    obtain rfl : L = [] := (Prod.mk.inj h).1.symm
    exact ⟨fun e he => (by cases he), List.length_eq_zero_iff.1 h0⟩
  | succ k ih =>
    intro b L hk h
    by_cases h0 : b.size = 0
    · rw [lst_nil h0] at h
      obtain rfl : L = [] := (Prod.mk.inj h).1.symm
      exact ⟨fun e he => (by cases he), List.length_eq_zero_iff.1 h0⟩
    · by_cases he : rdErr b = 0
      · obtain ⟨p1, p2⟩ := rd_parts he
        have hsz := rdRest_size he
        rw [lst_step h0 he] at h
        by_cases hr : (lst (rdRest b)).2 = 0
        · rw [if_pos hr] at h
          obtain rfl : L = rdElem b :: (lst (rdRest b)).1 := (Prod.mk.inj h).1.symm
          obtain ⟨M, hM⟩ : ∃ M, M = (lst (rdRest b)).1 := ⟨_, rfl⟩
          have h3 : lst (rdRest b) = (M, 0) := by rw [hM, ← hr]
          rw [← hM]
          obtain ⟨i1, i2⟩ := ih (rdRest b) M (by omega) h3
          refine ⟨fun e hm => ?_, ?_⟩
          · rcases List.mem_cons.1 hm with rfl | hm
            · exact p1
            · exact i1 e hm
          · rw [p2, i2]; rfl
        · rw [if_neg hr] at h
          exact absurd (Prod.mk.inj h).2 hr
      · rw [lst_bad h0 he] at h
        exact absurd (Prod.mk.inj h).2 he

/-! ### Attributes -/
def okA (a : At) : Prop := oidB a.1 = true ∧ a.2.2.size ≠ 0 ∧ validB a.2.1 a.2.2.data.toList = true ∧ a.2.2.size ≤ 64
theorem chkA_zero (b : List At) (a : At) : chkA b a = 0 ↔ okA a ∧ ∀ x ∈ b, x.1 ≠ a.1 := by
  unfold chkA okA
  by_cases h1 : oidB a.1 = false
  · rw [if_pos h1]; simp [h1]
  · rw [if_neg h1]
    by_cases h2 : a.2.2.size = 0
    · rw [if_pos h2]; simp [h2]
    · rw [if_neg h2]
      by_cases h3 : validB a.2.1 a.2.2.data.toList = false
      · rw [if_pos h3]; simp [h3]
      · rw [if_neg h3]
        by_cases h4 : 64 < a.2.2.size
        · rw [if_pos h4]
          constructor
          · intro h; cases h
          · intro h; have := h.1.2.2.2; omega
        · rw [if_neg h4]
          by_cases h5 : b.any (fun x => decide (x.1 = a.1)) = true
          · rw [if_pos h5]
            constructor
            · intro h; cases h
            · intro h
              obtain ⟨x, hx, e⟩ := List.any_eq_true.1 h5
              exact absurd (of_decide_eq_true e) (h.2 x hx)
          · rw [if_neg h5]
            refine ⟨fun _ => ⟨⟨by simpa using h1, h2, by simpa using h3, by omega⟩, fun x hx e => h5 (List.any_eq_true.2 ⟨x, hx, decide_eq_true e⟩)⟩, fun _ => rfl⟩
theorem chkL_zero : ∀ (r b : List At), chkL b r = 0 ↔ (∀ a ∈ r, okA a) ∧ (∀ a ∈ r, ∀ x ∈ b, x.1 ≠ a.1) ∧ (r.map (·.1)).Nodup
  | [], b => ⟨fun _ => ⟨fun _ h => by (cases h), fun _ h => by (cases h), by simp⟩, fun _ => rfl⟩
  | a :: r, b => by
    unfold chkL
    have ih := chkL_zero r (b ++ [a])
    have hA := chkA_zero b a
    by_cases h : chkA b a = 0
    · rw [if_pos h, ih]
      obtain ⟨h1, h2⟩ := hA.1 h
      rw [List.map_cons, List.nodup_cons]
      constructor
      · rintro ⟨k1, k2, k3⟩
        refine ⟨fun x hx => ?_, fun x hx => ?_, fun hm => ?_, k3⟩
        · rcases List.mem_cons.1 hx with rfl | hx
          · exact h1
          · exact k1 x hx
        · rcases List.mem_cons.1 hx with rfl | hx
          · exact h2
          · exact fun y hy => k2 x hx y (List.mem_append_left _ hy)
        · obtain ⟨x, hx, e⟩ := List.mem_map.1 hm
          exact k2 x hx a (List.mem_append_right _ (List.mem_singleton.2 rfl)) e.symm
      · rintro ⟨k1, k2, k3, k4⟩
        refine ⟨fun x hx => k1 x (List.mem_cons_of_mem _ hx), fun x hx y hy => ?_, k4⟩
        rcases List.mem_append.1 hy with hy | hy
        · exact k2 x (List.mem_cons_of_mem _ hx) y hy
        · obtain rfl := List.mem_singleton.1 hy
          exact fun e => k3 (List.mem_map.2 ⟨x, hx, e.symm⟩)
    · rw [if_neg h]
      constructor
      · intro k; exact absurd k h
      · rintro ⟨k1, k2, _⟩
        exact hA.2 ⟨k1 a List.mem_cons_self, k2 a List.mem_cons_self⟩
theorem chkR_iff (r : List At) : chkR r = 0 ↔ 1 ≤ r.length ∧ r.length ≤ 4 ∧ (∀ a ∈ r, okA a) ∧ (r.map (·.1)).Nodup := by
  unfold chkR
  by_cases h1 : r.length = 0
  · rw [if_pos h1]
    exact ⟨fun h => by (cases h), fun h => by omega⟩
  · rw [if_neg h1]
    by_cases h2 : 4 < r.length
    · rw [if_pos h2]
      exact ⟨fun h => by (cases h), fun h => by omega⟩
    · rw [if_neg h2, chkL_zero]
      exact ⟨fun h => ⟨by omega, by omega, h.1, h.2.2⟩, fun h => ⟨h.2.2.1, fun a ha x hx => by (cases hx), h.2.2.2⟩⟩
theorem chkR_perm {r s : List At} (h : r.Perm s) : chkR r = 0 → chkR s = 0 := by
  rw [chkR_iff, chkR_iff]
  rintro ⟨h1, h2, h3, h4⟩
  exact ⟨by rw [← h.length_eq]; exact h1, by rw [← h.length_eq]; exact h2, fun a ha => h3 a (h.mem_iff.2 ha), (h.map _).nodup_iff.1 h4⟩
theorem chkRs_iff : ∀ n : Nm, chkRs n = 0 ↔ ∀ r ∈ n, chkR r = 0
  | [] => ⟨fun _ _ h => by (cases h), fun _ => rfl⟩
  | r :: n => by
    unfold chkRs
    by_cases h : chkR r = 0
    · rw [if_pos h, chkRs_iff n]
      exact ⟨fun k x hx => by
        rcases List.mem_cons.1 hx with rfl | hx
        · exact h
        · exact k x hx, fun k x hx => k x (List.mem_cons_of_mem _ hx)⟩
    · rw [if_neg h]
      exact ⟨fun k => absurd k h, fun k => k r List.mem_cons_self⟩
theorem chkN_iff (n : Nm) : chkN n = 0 ↔ n.length ≤ 8 ∧ ∀ r ∈ n, chkR r = 0 := by
  unfold chkN
  by_cases h : 8 < n.length
  · rw [if_pos h]
    exact ⟨fun k => by (cases k), fun k => by omega⟩
  · rw [if_neg h, chkRs_iff]
    exact ⟨fun k => ⟨by omega, k⟩, fun k => k.2⟩
theorem valid_kind {k : Int} {l : List UInt8} (h : validB k l = true) : k = 12 ∨ k = 19 ∨ k = 22 := by
  unfold validB at h
  by_cases h1 : k = 12
  · exact .inl h1
  · rw [if_neg h1] at h
    by_cases h2 : k = 19
    · exact .inr (.inl h2)
    · rw [if_neg h2] at h
      by_cases h3 : k = 22
      · exact .inr (.inr h3)
      · rw [if_neg h3] at h; cases h

/-! ### Object identifiers -/
theorem oid_there {s : ByteArray} (h : oidB s = true) : oidD (oidS s) = some s := by
  obtain ⟨a, ha⟩ := oidB_true h
  rw [oidS_yes ha, oidD_yes (a := a) ⟨ha.1, strOf_list _⟩]
  exact congrArg some (strOf_of (oid_txt ha)).symm
theorem oid_back {c id : ByteArray} (h : oidD c = some id) : oidS id = c ∧ oidB id = true := by
  by_cases hx : ∃ a, Dec c.data.toList a
  · obtain ⟨a, ha⟩ := hx
    rw [oidD_yes ha] at h
    obtain rfl := Option.some.inj h
    have ho : Oid (strOf (txt a)).data.toList a := by rw [strOf_list]; exact oid_of ha.1
    exact ⟨by rw [oidS_yes ho]; exact (strOf_of ha.2).symm, oidB_yes ho⟩
  · rw [oidD_no (fun a k => hx ⟨a, k⟩)] at h
    cases h
end Go.Proofs.YtbpdenfiifcfcaaGreatDoor
