/-
  What Wrap writes is read, whatever stands behind it; what One accepts is what Wrap writes. Nothing is claimed of the program here.
-/
import Derived.Test.YtgpockpfefjjkaaTcanon2
namespace Go.Proofs.Ytgpockpfefjjkaa
open Go.RowKit

theorem rd_len_le {b : ByteArray} (h : rdErr b = 0) : (rd b).2.2 ≤ 131072 := by
  obtain ⟨_, _, h2, _, h4⟩ := rd_cases h
  rw [h4]
  simp only
  revert h2
  unfold lnAt
  repeat' split
  all_goals first | exact fun x => absurd x (by decide) | (intro _; simp only; omega)
theorem ofNat_small {n : Nat} (h : n < 256) : (UInt8.ofNat n).toNat = n := by simp; omega

/-- What Wrap has written is read, whatever stands behind it. -/
theorem rd_wrap {b : ByteArray} {t : Nat} {c d : List UInt8} (ht : t < 256) (h1 : t % 32 ≠ 31) (hc : c.length ≤ 131072) (hb : b.data.toList = wrapL t c ++ d) : rd b = (0, 1 + lsz c.length, c.length) := by
  have hu := u8at_list hb
  have hsz := size_list hb
  have hw : wrapL t c ++ d = UInt8.ofNat t :: (lenO c.length ++ (c ++ d)) := by unfold wrapL; simp
  rw [hw] at hu hsz
  have e0 : u8at b 0 = t := by rw [hu 0]; exact ofNat_small ht
  have hl : b.size = 1 + lsz c.length + c.length + d.length := by rw [hsz]; simp [lenO_length]; omega
  have hz := lsz_le c.length
  obtain ⟨n, hn⟩ : ∃ n, n = c.length := ⟨_, rfl⟩
  rw [← hn] at hc hu hl hz ⊢
  have key : lnAt b 1 = (n, lsz n, 0) := by
    unfold lnAt
    rw [if_neg (show ¬ b.size ≤ 1 by omega)]
    have hcs := lsz_cases n
    by_cases c1 : lsz n = 1
    · have e1 : u8at b 1 = n := by
        rw [hu 1]; unfold lenO; rw [if_pos c1]; exact ofNat_small (by omega)
      rw [e1, if_pos (by omega), c1]
    · have e1 : u8at b 1 = 127 + lsz n := by
        rw [hu 1]; unfold lenO; rw [if_neg c1]; exact ofNat_small (by omega)
      obtain ⟨k, hk⟩ : ∃ k, lsz n = 1 + k := ⟨lsz n - 1, by omega⟩
      have e2 : 127 + lsz n - 128 = k := by omega
      have eo : lenO n = UInt8.ofNat (127 + lsz n) :: octs n k := by unfold lenO; rw [if_neg c1, show lsz n - 1 = k by omega]
      have hle := least_ok (v := n) (k := k) (by omega) (by omega) hk
      have ev : be b (1 + 1) k = n := by
        rw [eo] at hu
        rcases (by omega : k = 1 ∨ k = 2 ∨ k = 3) with rfl | rfl | rfl
        · have a2 : u8at b 2 = n % 256 := by rw [hu 2]; show (UInt8.ofNat (n / 256 ^ 0)).toNat = _; simp
          show 256 * 0 + u8at b 2 = n
          omega
        · have a2 : u8at b 2 = n / 256 % 256 := by rw [hu 2]; show (UInt8.ofNat (n / 256 ^ 1)).toNat = _; simp
          have a3 : u8at b 3 = n % 256 := by rw [hu 3]; show (UInt8.ofNat (n / 256 ^ 0)).toNat = _; simp
          show 256 * (256 * 0 + u8at b 2) + u8at b 3 = n
          omega
        · have a2 : u8at b 2 = n / 65536 % 256 := by rw [hu 2]; show (UInt8.ofNat (n / 256 ^ 2)).toNat = _; simp
          have a3 : u8at b 3 = n / 256 % 256 := by rw [hu 3]; show (UInt8.ofNat (n / 256 ^ 1)).toNat = _; simp
          have a4 : u8at b 4 = n % 256 := by rw [hu 4]; show (UInt8.ofNat (n / 256 ^ 0)).toNat = _; simp
          show 256 * (256 * (256 * 0 + u8at b 2) + u8at b 3) + u8at b 4 = n
          omega
      rw [e1, if_neg (by omega), if_neg (by omega), e2, if_neg (by omega), ev, if_neg (by omega), hk]
  rw [rd_mk (b := b) (by omega) (by rw [e0]; exact h1) (by rw [key]) (by rw [key]; simp only; omega), key]

theorem take_wrap (t : Nat) (c d : List UInt8) : (wrapL t c ++ d).take (1 + lsz c.length + c.length) = wrapL t c := by
  have : (wrapL t c).length = 1 + lsz c.length + c.length := by unfold wrapL; simp [lenO_length]; omega
  rw [List.take_append_of_le_length (by omega), List.take_of_length_le (by omega)]
theorem drop_wrap (t : Nat) (c d : List UInt8) : (wrapL t c ++ d).drop (1 + lsz c.length + c.length) = d := by
  have : (wrapL t c).length = 1 + lsz c.length + c.length := by unfold wrapL; simp [lenO_length]; omega
  rw [← this, List.drop_left]
theorem mid_wrap (t : Nat) (c d : List UInt8) : ((wrapL t c ++ d).drop (1 + lsz c.length)).take c.length = c := by
  have h : wrapL t c ++ d = (UInt8.ofNat t :: lenO c.length) ++ (c ++ d) := by unfold wrapL; simp
  have h2 : (UInt8.ofNat t :: lenO c.length).length = 1 + lsz c.length := by simp [lenO_length]; omega
  rw [h, ← h2, List.drop_left, List.take_left]
theorem ext_list {a b : ByteArray} (h : a.data.toList = b.data.toList) : a = b := ByteArray.ext (Array.toList_inj.1 h)

/-- .. so that the element has these parts. -/
theorem read_wrap {b : ByteArray} {t : Nat} {c d : List UInt8} (ht : t < 256) (h1 : t % 32 ≠ 31) (hc : c.length ≤ 131072) (hb : b.data.toList = wrapL t c ++ d) :
    rdVal b = .tuple #[.agg #[.int .i64 ((t : Nat) : Int), .string ⟨c.toArray⟩, .string ⟨(wrapL t c).toArray⟩], .string ⟨d.toArray⟩, .int .i64 0] := by
  have h := rd_wrap ht h1 hc hb
  have he : rdErr b = 0 := by unfold rdErr; rw [h]
  have hsz : b.size = 1 + lsz c.length + c.length + d.length := by rw [size_list hb]; unfold wrapL; simp [lenO_length]; omega
  have e0 : rdTag b = t := by
    unfold rdTag
    rw [u8at_list hb 0]
    exact ofNat_small ht
  have e1 : rdContent b = ⟨c.toArray⟩ := by
    apply ext_list
    unfold rdContent
    rw [data_extract, h, hb]
    simp only
    rw [show 1 + lsz c.length + c.length - (1 + lsz c.length) = c.length by omega, mid_wrap]
  have e2 : rdRaw b = ⟨(wrapL t c).toArray⟩ := by
    apply ext_list
    unfold rdRaw
    rw [data_extract, h, hb]
    simp only [List.drop_zero, Nat.sub_zero]
    exact take_wrap t c d
  have e3 : rdRest b = ⟨d.toArray⟩ := by
    apply ext_list
    unfold rdRest
    rw [data_extract, h, hb]
    simp only
    rw [drop_wrap]
    exact List.take_of_length_le (by omega)
  rw [rdVal_good he, e0, e1, e2, e3]

/-- What One accepts is what Wrap writes for its parts. -/
theorem wrap_one {b : ByteArray} (h : oneErr b = 0) : wrapVal ((rdTag b : Nat) : Int) (cat [rdContent b]) = .tuple #[.string b, .int .i64 0] ∧ rdRaw b = b := by
  have he := oneErr_rd h
  have hs := oneErr_size h
  have hlen := rd_len_le he
  obtain ⟨_, h1, _, _, _⟩ := rd_cases he
  have hd : (rdContent b).data.toList = b.data.toList.drop (rd b).2.1 := by
    unfold rdContent
    rw [data_extract]
    refine List.take_of_length_le ?_
    rw [List.length_drop]
    show b.size - _ ≤ _
    omega
  have hc : cat [rdContent b] = b.data.toList.drop (rd b).2.1 := by simp [cat, hd]
  have hn : (b.data.toList.drop (rd b).2.1).length = (rd b).2.2 := by
    rw [List.length_drop]
    show b.size - _ = _
    omega
  have ht := rdTag_lt b
  constructor
  · have e : wrapErr ((rdTag b : Nat) : Int) (cat [rdContent b]).length = 0 := by
      rw [hc, hn]
      unfold wrapErr
      rw [if_neg (by unfold rdTag at ht ⊢; omega), if_neg (by omega)]
    unfold wrapVal wrapStr
    rw [e, if_pos rfl, hc]
    have e2 : wrapL ((rdTag b : Nat) : Int).toNat (b.data.toList.drop (rd b).2.1) = b.data.toList := by
      unfold wrapL
      rw [hn]
      exact (head_back he).symm
    rw [e2]
    rfl
  · apply ext_list
    unfold rdRaw
    rw [data_extract, hs, List.drop_zero, Nat.sub_zero]
    exact List.take_of_length_le (Nat.le_refl _)
end Go.Proofs.Ytgpockpfefjjkaa
