/-
  The contract of the definition's DecodeOID: the object identifier with these contents, if there is one.
  What the decoders of names answer; the contract of slices.Contains over ints, and of the closure next of decodeAttribute.
  The contract of decodeAttribute: what an element says of an attribute, or the error.
  The contract of decodeAttribute: what an element says of an attribute, or the error.
  The contract of decodeRelative: the attributes of an element, or the first error.
  Nothing is left of this text.
  Nothing is left of this text.
  Nothing is left of this text.
  Nothing is left of this text.
  Rows of bytes that can be read and written: what a conversion of a string lays, and stores into it. Nothing is claimed of the program here.
  Nothing is left of this text.
  Nothing is left of this text.
  Nothing is left of this text.
  Names that a law holds in blocks of its own; the calls of Match and awake in a region that draws.
  Nothing is left of this text.
  The contract of certpathmade's Damage: a string that is at most one byte longer; nothing below the deck has changed.
  The contracts of certpathmade's Damage and replaced, with the deck kept.
  The contract of certpathmade's replaced.
-/
import Derived.Test.YtpmlkofceidnjaaGreatDoorAai
import Derived.Test.YtpmlkofceidnjaaGreatDoorAah
import Derived.Test.YtpmlkofceidnjaaGreatDoorAad
import Derived.Test.YtpmlkofceidnjaaGreatDoorAae
import Derived.Test.YtpmlkofceidnjaaGreatDoorAaa
import Derived.Laws.IdiomStrings
import Derived.Laws.AppendOwnNone
import Derived.Test.YtpmlkofceidnjaaGreatDoorAag
import Derived.Deep.DeepCutAuto
import Derived.Deep.RegionHeld3
import Derived.Lib.QuietBelow
import Derived.BigQuiet
namespace Go.Proofs.YtpmlkofceidnjaaGreatDoor
open Go.RowKit

/-- What Decode and its definition answer. -/
def Decd (c : List UInt8) (e : Ending) : Prop := (∃ a, Dec c a ∧ e = .returned (oidVal a)) ∨ ((∀ a, ¬ Dec c a) ∧ e = .returned noVal)
theorem decode_any (c : ByteArray) (w : World) (hs : c.size ≤ 1099511627) (ht : Pow10 w) :
    Calls Tryz.prog 45 #[.string c] w fun e w' => Decd c.data.toList e ∧ Below w.heap.size w w' := by
  by_cases h : ∃ a, Dec c.data.toList a
  · obtain ⟨a, h1, h2⟩ := h
    have hg := good_nums h1
    refine (decode_yes hg.1 h2 w hs ht).mono ?_
    rintro e w' ⟨rfl, hb⟩
    exact ⟨.inl ⟨a, ⟨h1, h2⟩, by rw [hg.2]⟩, hb⟩
  · have h' : ∀ a, ¬ Dec c.data.toList a := fun a k => h ⟨a, k⟩
    refine (decode_no h' w hs).mono ?_
    rintro e w' ⟨rfl, hb⟩
    exact ⟨.inr ⟨h', rfl⟩, hb⟩
theorem arcs_snoc {A : List Nat} (h : A ≠ []) (x : Nat) : arcsN (A ++ [x]) = arcsN A ++ [x] := by
  cases A with
  | nil => exact absurd rfl h
  | cons m M => simp [arcsN]
theorem arcs_ne {A : List Nat} (h : A ≠ []) : arcsN A ≠ [] := by
  cases A with
  | nil => exact absurd rfl h
  | cons m M => simp [arcsN]
theorem dec_le10' {v : Nat} (h : v ≤ 2147483727) : (Lib.decDigits v).length ≤ 10 := dec_len 10 v (Nat.lt_of_le_of_lt h (by decide)) (by omega)
theorem cat_nil_e {M : List Nat} (h : ([] : List UInt8) = cat e128 M) : M = [] := by
  cases M with
  | nil => rfl
  | cons m M => have := h.symm; simp [cat, e128] at this
theorem limit_le {A M : List Nat} {m : Nat} (h : GoodN (A ++ m :: M)) : m ≤ 2147483727 := by
  have := limit_of h
  split at this <;> omega

set_option maxRecDepth 100000 in
set_option maxHeartbeats 8000000 in
theorem rdecode_any (c : ByteArray) (w : World) (hs : c.size ≤ 1099511627) :
    Calls Tryz.prog 46 #[.string c] w fun e w' => Decd c.data.toList e ∧ Below w.heap.size w w' := by
  go_enter Tryz.func46, Tryz.ntmps46
  go_wp2_with fail
  go_loopw [4, 5, 6, 7, 8] (fun s v o n i wr => ∃ (j : Nat) (A : List Nat) (u : List UInt8) (x k : Nat) (op : Bool) (T : List UInt8), j ≤ c.size ∧ i = .int .i64 (j : Int) ∧ c.data.toList.take j = cat e128 A ++ u ∧ (∀ b ∈ u, 128 ≤ b.toNat) ∧ u.head? ≠ some 128 ∧ x = val7 u ∧ x ≤ 2147483727 ∧ v = .int .i64 (x : Int) ∧ o = .bool op ∧ op = !u.isEmpty ∧ A.length ≤ 11 ∧ k = (if A = [] then 0 else A.length + 1) ∧ n = .int .i64 (k : Int) ∧ T = txt (arcsN A) ∧ T.length ≤ 11 * (A.length + 1) ∧ s = .string (strOf T) ∧ Below w.heap.size w wr) (fun _ _ _ _ i _ => c.size - (intOf i).toNat)
  case atStart => exact ⟨0, [], [], 0, 0, false, [], by omega, rfl, rfl, by simp, by simp, rfl, by omega, rfl, rfl, rfl, by simp, rfl, rfl, rfl, by simp, rfl, Below.refl _ _⟩
  case round =>
    obtain ⟨j, A, u, x, k, op, T, hj, rfl, htk, hall, hhd, hx, hxb, rfl, rfl, hop, hA, hk, rfl, hT, hTl, rfl, hb⟩ := hrel
    have HB := Lib.hid hb
    have HTK := Lib.hid htk
    have HALL := Lib.hid hall
    have HHD := Lib.hid hhd
    have HX := Lib.hid hx
    have HK := Lib.hid hk
    have HT := Lib.hid hT
    have hkb : k ≤ 12 := by rw [hk]; split <;> omega
    clear hb htk hall hhd hx hk hT
    by_cases hlt : j < c.size
    · have dj : decide ((j : Int) < (c.size : Int)) = true := by simp; omega
      have hij := fun w => run_index_u8 (P := Tryz.prog) Tryz.underlying9 c j hlt (j : Int) rfl w
      obtain ⟨b, hb, hbv⟩ := u8at_list c j hlt
      obtain ⟨y, hy⟩ : ∃ y, y = u8at c j := ⟨_, rfl⟩
      have hy256 : y < 256 := by rw [hy]; exact u8at_lt c j
      rw [← hy] at hij hbv
      have HS := Lib.hid (show c.data.toList = cat e128 A ++ (u ++ b :: c.data.toList.drop (j + 1)) by
        rw [← List.append_assoc, ← HTK.out]
        exact at_split _ _ _ hb)
      have HSN := Lib.hid (show c.data.toList.take (j + 1) = cat e128 A ++ (u ++ [b]) by
        rw [take_snoc hb, HTK.out, List.append_assoc])
      have HDN := Lib.hid (fun a (h : Dec c.data.toList a) => dec_next HS.out h)
      clear hy hb
      obtain ⟨y7, hy7⟩ : ∃ y7, y7 = y % 128 := ⟨_, rfl⟩
      have hy7i : (y : Int) % 128 = (y7 : Int) := by omega
      have hy7b : y7 < 128 := by omega
      obtain ⟨x2, hx2⟩ : ∃ x2, x2 = 128 * x + y7 := ⟨_, rfl⟩
      have hx2i : 128 * (x : Int) + (y : Int) % 128 = (x2 : Int) := by omega
      have hx2b : x2 < 274877920000 := by omega
      have HX2 := Lib.hid (show x2 = val7 (u ++ [b]) by rw [val7_snoc, ← HX.out, hx2, hy7, hbv])
      clear hx2 hy7i hy7b hy7
      by_cases hbad : u = [] ∧ y = 128
      · obtain ⟨rfl, rfl⟩ := hbad
        have HNO := Lib.hid (show ∀ a, ¬ Dec c.data.toList a from fun a h => by
          obtain ⟨M, _, h2, h3⟩ := HDN.out a h
          refine next_head h2 ?_
          rw [List.nil_append, List.head?_cons]
          congr 1
          exact UInt8.toNat_inj.1 (by rw [← hbv]; rfl))
        obtain rfl : op = false := hop
        clear hbv
        go_wp2_with fail
        go_ret2
        exact ⟨.inr ⟨HNO.out, rfl⟩, HB.out⟩
      · have HOR := Lib.hid (show (u = [] ∧ y ≠ 128) ∨ u ≠ [] by
          by_cases hu : u = []
          · left; exact ⟨hu, fun e => hbad ⟨hu, e⟩⟩
          · right; exact hu)
        have HUB := Lib.hid (show (u ++ [b]).head? ≠ some 128 by
          rcases HOR.out with ⟨rfl, h⟩ | h
          · intro e
            refine h ?_
            rw [hbv, Option.some.inj e]; rfl
          · rw [head_left h]; exact HHD.out)
        have hor : (op = false ∧ ((y : Int) == 128) = false) ∨ op = true := by
          rcases HOR.out with ⟨rfl, h⟩ | h
          · left; exact ⟨hop, beq_eq_false_iff_ne.2 (by omega)⟩
          · right; rw [hop]; cases u with
            | nil => exact absurd rfl h
            | cons => rfl
        clear hbad hop
        by_cases hbig : 2147483727 < x2
        · have d1 : decide (2147483727 < (x2 : Int)) = true := by simp; omega
          have HNO := Lib.hid (show ∀ a, ¬ Dec c.data.toList a from fun a h => by
            obtain ⟨M, _, h2, h3⟩ := HDN.out a h
            obtain ⟨m, M', rfl, h5⟩ := next_ge2 h2 rfl HALL.out
            have h6 := limit_le h3
            rw [← HX2.out] at h5
            omega)
          clear hbv
          rcases hor with ⟨rfl, g2⟩ | rfl
          all_goals
            go_wp2_with fail
            go_ret2
            exact ⟨.inr ⟨HNO.out, rfl⟩, HB.out⟩
        · have d1 : decide (2147483727 < (x2 : Int)) = false := by simp; omega
          by_cases hend : y < 128
          · have d2 : decide (128 ≤ (y : Int)) = false := by simp; omega
            have HE := Lib.hid (show u ++ [b] = e128 x2 by
              rw [HX2.out]
              exact e128_of _ _ HALL.out HUB.out (by omega))
            have HA2 := Lib.hid (show c.data.toList.take (j + 1) = cat e128 (A ++ [x2]) ++ [] by
              rw [HSN.out, HE.out, cat_append]; simp [cat])
            clear hbv
            by_cases hA0 : A = []
            · obtain rfl : k = 0 := by rw [HK.out, if_pos hA0]
              subst hA0
              obtain ⟨q, hq⟩ : ∃ q, q = x2 / 40 := ⟨_, rfl⟩
              have hqi : (x2 : Int) / 40 = (q : Int) := by omega
              obtain ⟨f, hf⟩ : ∃ f, f = min q 2 := ⟨_, rfl⟩
              have hfi : min (q : Int) 2 = (f : Int) := by omega
              have hfb : f ≤ 2 := by omega
              obtain ⟨z, hz⟩ : ∃ z, z = x2 - 40 * f := ⟨_, rfl⟩
              have hzi : (x2 : Int) - 40 * (f : Int) = (z : Int) := by omega
              have hzb : z ≤ 2147483727 := by omega
              have HT2 := Lib.hid (show Lib.decDigits f ++ 46 :: Lib.decDigits z = txt (arcsN ([] ++ [x2])) by rw [hz, hf, hq]; simp [arcsN, txt])
              have HL2 := Lib.hid (show (Lib.decDigits f ++ 46 :: Lib.decDigits z).length ≤ 11 * (([] ++ [x2] : List Nat).length + 1) by
                have h1 := dec_le10' (v := f) (by omega)
                have h2 := dec_le10' hzb
                simp; omega)
              have c1 := add_dot (Lib.decDigits f) (Nat.le_trans (dec_le10' (by omega)) (by omega))
              have c2 := add_str (Lib.decDigits f ++ [46]) (Lib.decDigits z) (by have := HL2.out; simp at this ⊢; omega)
              have BF := Lib.hid (show f ≤ 9223372036854775807 by omega)
              have BZ := Lib.hid (show z ≤ 9223372036854775807 by omega)
              clear hq hf hz
              rcases hor with ⟨rfl, g2⟩ | rfl
              all_goals
                go_wp2_with (first
                  | (go_at_call 63; (with_reducible refine (decno_any f _ BF.out).mono ?_); rintro e w1 ⟨rfl, hb1⟩; have HB1 := Lib.hid hb1; clear hb1)
                  | (go_at_call 63; (with_reducible refine (decno_any z _ BZ.out).mono ?_); rintro e w2 ⟨rfl, hb2⟩; have HB2 := Lib.hid hb2; clear hb2))
                go_roundw
                case rel => exact ⟨j + 1, [] ++ [x2], [], 0, 2, false, Lib.decDigits f ++ 46 :: Lib.decDigits z, by omega, by go_num, HA2.out, by simp, by simp, rfl, by omega, rfl, rfl, rfl, by simp, rfl, rfl, HT2.out, HL2.out, rfl, below_next (below_next HB.out HB1.out) HB2.out⟩
                case measure => simp [intOf]; omega
            · have hk1 : k = A.length + 1 := by rw [HK.out, if_neg hA0]
              have dk : ((k : Int) == 0) = false := beq_eq_false_iff_ne.2 (by omega)
              have HT2 := Lib.hid (show T ++ 46 :: Lib.decDigits x2 = txt (arcsN (A ++ [x2])) by
                rw [arcs_snoc hA0, txt_snoc _ (arcs_ne hA0), HT.out])
              have hd10 := dec_le10' (v := x2) (by omega)
              have HL2 := Lib.hid (show (T ++ 46 :: Lib.decDigits x2).length ≤ 11 * ((A ++ [x2]).length + 1) by simp; omega)
              have c1 := dot_add (Lib.decDigits x2) (by omega)
              have c2 := add_str T (46 :: Lib.decDigits x2) (by simp; omega)
              have BX := Lib.hid (show x2 ≤ 9223372036854775807 by omega)
              have HA0 := Lib.hid hA0
              clear hA0 hd10
              by_cases h11 : A.length = 11
              · have dn : decide (12 < (k : Int) + 1) = true := by simp; omega
                have HNO := Lib.hid (show ∀ a, ¬ Dec c.data.toList a from fun a h => by
                  obtain ⟨M, h1, h2, h3⟩ := HDN.out a h
                  cases M with
                  | nil => simp [cat] at h2
                  | cons m M' => have := h3.2.1; simp at this; omega)
                clear h11 hk1
                rcases hor with ⟨rfl, g2⟩ | rfl
                all_goals
                  go_wp2_with (go_at_call 63; (with_reducible refine (decno_any x2 _ BX.out).mono ?_); rintro e w1 ⟨rfl, hb1⟩; have HB1 := Lib.hid hb1; clear hb1)
                  go_ret2
                  exact ⟨.inr ⟨HNO.out, rfl⟩, below_next HB.out HB1.out⟩
              · have dn : decide (12 < (k : Int) + 1) = false := by simp; omega
                have hA10 : A.length ≤ 10 := by omega
                have HK2 := Lib.hid (show k + 1 = (if A ++ [x2] = [] then 0 else (A ++ [x2]).length + 1) by rw [if_neg (by simp)]; simp; omega)
                clear h11 hk1
                rcases hor with ⟨rfl, g2⟩ | rfl
                all_goals
                  go_wp2_with (go_at_call 63; (with_reducible refine (decno_any x2 _ BX.out).mono ?_); rintro e w1 ⟨rfl, hb1⟩; have HB1 := Lib.hid hb1; clear hb1)
                  go_roundw
                  case rel => exact ⟨j + 1, A ++ [x2], [], 0, k + 1, false, T ++ 46 :: Lib.decDigits x2, by omega, by go_num, HA2.out, by simp, by simp, rfl, by omega, rfl, rfl, rfl, by simp; omega, HK2.out, by go_num, HT2.out, HL2.out, rfl, below_next HB.out HB1.out⟩
                  case measure => simp [intOf]; omega
          · have d2 : decide (128 ≤ (y : Int)) = true := by simp; omega
            have HAL2 := Lib.hid (show ∀ z ∈ u ++ [b], 128 ≤ z.toNat by
              intro z hz
              rcases List.mem_append.1 hz with hz | hz
              · exact HALL.out z hz
              · obtain rfl : z = b := by simpa using hz
                omega)
            have HNE2 := Lib.hid (show true = (!(u ++ [b]).isEmpty) by simp)
            clear hbv
            rcases hor with ⟨rfl, g2⟩ | rfl
            all_goals
              go_wp2_with fail
              go_roundw
              case rel => exact ⟨j + 1, A, u ++ [b], x2, k, true, T, by omega, by go_num, HSN.out, HAL2.out, HUB.out, HX2.out, by omega, rfl, rfl, HNE2.out, hA, HK.out, rfl, HT.out, hTl, rfl, HB.out⟩
              case measure => simp [intOf]; omega
    · obtain rfl : j = c.size := by omega
      have dj : decide ((c.size : Int) < (c.size : Int)) = false := by simp
      have HC := Lib.hid (show c.data.toList = cat e128 A ++ u by rw [← HTK.out, List.take_of_length_le (show c.data.toList.length ≤ c.size from Nat.le_refl _)])
      have HDN := Lib.hid (fun a (h : Dec c.data.toList a) => dec_next HC.out h)
      clear hlt
      by_cases h0 : c.size = 0
      · have d0 : ((c.size : Int) == 0) = true := by rw [h0]; rfl
        clear hop
        have HNO := Lib.hid (show ∀ a, ¬ Dec c.data.toList a from fun a h => by
          have hn : c.data.toList = [] := List.eq_nil_of_length_eq_zero h0
          have h2 := h.2
          rw [hn] at h2
          have h3 := (good_nums h.1).1.1
          rw [cat_nil_e h2] at h3
          simp at h3)
        clear h0
        go_wp2_with fail
        all_goals
          go_ret2
          exact ⟨.inr ⟨HNO.out, rfl⟩, HB.out⟩
      · have d0 : ((c.size : Int) == 0) = false := beq_eq_false_iff_ne.2 (by omega)
        by_cases hu : u = []
        · subst hu
          obtain rfl : op = false := hop
          have hA0 : A ≠ [] := by
            rintro rfl
            refine h0 ?_
            show c.data.toList.length = 0
            rw [HC.out]; rfl
          have HCC := Lib.hid (show c.data.toList = cat e128 A by rw [HC.out, List.append_nil])
          have hTs : (strOf T).size ≤ 1099511627 := by rw [strOf_size]; omega
          have HTS := Lib.hid hTs
          rcases oid_or (strOf T).data.toList with ⟨a, ho⟩ | hno
          · have HO := Lib.hid ho
            have HYES := Lib.hid (show Dec c.data.toList (arcsN A) ∧ T = txt (arcsN A) from by
              have ho' := ho
              rw [strOf_list, HT.out] at ho'
              have e := good_of_txt (arcs_ne hA0) ho'
              subst e
              exact ⟨dec_iff (goodN_of hA0 ho'.1) HCC.out, HT.out⟩)
            clear h0 hA0 ho hTs
            go_wp2_with (go_at_call 64; (with_reducible refine (rvalid_yes HO.out _ HTS.out).mono ?_); rintro e w1 ⟨rfl, hb1⟩; have HB1 := Lib.hid hb1; clear hb1)
            all_goals
              go_ret2
              exact ⟨.inl ⟨arcsN A, HYES.out.1, by rw [HYES.out.2]; rfl⟩, below_next HB.out HB1.out⟩
          · have HNV := Lib.hid hno
            have HNO := Lib.hid (show ∀ a, ¬ Dec c.data.toList a from fun a h => by
              have e : numsOf a = A := code_inj e128_code e128_ne (h.2.symm.trans HCC.out)
              have g := good_nums h.1
              refine hno (arcsN A) ?_
              rw [strOf_list, HT.out, ← e, g.2]
              exact oid_of h.1)
            clear h0 hA0 hno hTs
            go_wp2_with (go_at_call 64; (with_reducible refine (rvalid_no HNV.out _ HTS.out).mono ?_); rintro e w1 ⟨rfl, hb1⟩; have HB1 := Lib.hid hb1; clear hb1)
            all_goals
              go_ret2
              exact ⟨.inr ⟨HNO.out, rfl⟩, below_next HB.out HB1.out⟩
        · obtain rfl : op = true := by
            rw [hop]
            cases u with
            | nil => exact absurd rfl hu
            | cons => rfl
          have HNO := Lib.hid (show ∀ a, ¬ Dec c.data.toList a from fun a h => by
            obtain ⟨M, _, h2, h3⟩ := HDN.out a h
            exact next_open h2 HALL.out hu)
          clear h0 hu hop
          go_wp2_with fail
          all_goals
            go_ret2
            exact ⟨.inr ⟨HNO.out, rfl⟩, HB.out⟩
end Go.Proofs.YtpmlkofceidnjaaGreatDoor
namespace Go.Proofs.YtpmlkofceidnjaaGreatDoor
open Go.RowKit

/-- The object identifier that contents say. -/
noncomputable def oidD (c : ByteArray) : Option ByteArray := @dite _ (∃ a, Dec c.data.toList a) (Classical.propDecidable _) (fun h => some (strOf (txt h.choose))) (fun _ => none)
theorem oidD_yes {c : ByteArray} {a : List Nat} (h : Dec c.data.toList a) : oidD c = some (strOf (txt a)) := by
  have hx : ∃ a, Dec c.data.toList a := ⟨a, h⟩
  unfold oidD
  rw [dif_pos hx, dec_one hx.choose_spec h]
theorem oidD_no {c : ByteArray} (h : ∀ a, ¬ Dec c.data.toList a) : oidD c = none := by
  unfold oidD
  rw [dif_neg (fun ⟨a, k⟩ => h a k)]
theorem oidD_decd {c : ByteArray} {e : Ending} (h : Decd c.data.toList e) : (∃ id, oidD c = some id ∧ e = .returned (.tuple #[.string id, .int .i64 0])) ∨ (oidD c = none ∧ e = .returned (.tuple #[.string ⟨#[]⟩, .int .i64 11])) := by
  rcases h with ⟨a, h1, rfl⟩ | ⟨h1, rfl⟩
  · exact .inl ⟨_, oidD_yes h1, rfl⟩
  · exact .inr ⟨oidD_no h1, rfl⟩
/-! ### slices.Contains -/
end Go.Proofs.YtpmlkofceidnjaaGreatDoor
namespace Go.Proofs.YtpmlkofceidnjaaGreatDoor
open Go.RowKit

theorem elRes0 {fn : Func} {p u : Tmp} (h : fn.results = #[.cell p 42, .tmp u]) (tmps : Array Value) (w : World) (g : Nat) (x y z : Value)
    (hp : tmps.getD p undef = .pointer (some ⟨g, 0, none⟩)) (hg : w.heap[g]? = some (.cells #[x, y, z] 42 (0, 0))) :
    (results fn tmps).run Tryz.prog w = .ok (.tuple #[.agg #[x, y, z], tmps.getD u undef]) w :=
  results_cell_row2 h tmps w g 42 #[x, y, z] (0, 0) _ hp hg Tryz.underlying42 rfl (by kernel_rfl)
/-- The elements l lie at an address. -/
def ElAt (w : World) (a : Option Addr) (l : List El) : Prop := l = [] ∨ ∃ b o, a = some ⟨b, o, none⟩ ∧ ∀ k, k < l.length → w.cell? ⟨b, o + k * 3, none⟩ = some (.int .i64 (((l.getD k (0, ⟨#[]⟩, ⟨#[]⟩)).1 : Nat) : Int)) ∧ w.cell? ⟨b, o + k * 3 + 1, none⟩ = some (.string (l.getD k (0, ⟨#[]⟩, ⟨#[]⟩)).2.1) ∧ w.cell? ⟨b, o + k * 3 + 2, none⟩ = some (.string (l.getD k (0, ⟨#[]⟩, ⟨#[]⟩)).2.2)
theorem ElAt.below {w w' : World} {a : Option Addr} {l : List El} (h : ElAt w a l) (hb : Below w.heap.size w w') : ElAt w' a l := by
  rcases h with h | ⟨b, o, h1, h2⟩
  · exact .inl h
  · refine .inr ⟨b, o, h1, fun i hi => ?_⟩
    obtain ⟨c0, c1, c2⟩ := h2 i hi
    exact ⟨(hb.cell (block_lt c0)).trans c0, (hb.cell (block_lt c1)).trans c1, (hb.cell (block_lt c2)).trans c2⟩
theorem ElAt.of {w : World} {B : Nat} {v : Value} {l : List El} (h : OwnE w B v l) : ∃ a c, v = .slice a l.length c ∧ l.length ≤ c ∧ ElAt w a l ∧ (∀ x, a = some x → l ≠ [] → B ≤ x.block ∧ x.block < w.heap.size) := by
  obtain ⟨a, c, hv, hA⟩ := EAt.of h
  have h' := h
  rcases h.2 with ⟨hv', h0⟩ | ⟨g, cap, cur, hv', hB, hg, hn, _⟩
  · rw [hv] at hv'
    obtain ⟨_, _, rfl⟩ : a = none ∧ l.length = 0 ∧ c = 0 := by simpa using hv'
    have hl : l = [] := List.eq_nil_of_length_eq_zero h0
    exact ⟨a, 0, hv, by omega, .inl hl, fun x _ hne => absurd hl hne⟩
  · rw [hv] at hv'
    obtain ⟨rfl, rfl⟩ : a = some ⟨g, 0, none⟩ ∧ c = cap := by simpa using hv'
    refine ⟨_, c, hv, hn, ?_, fun x hx _ => by obtain rfl := Option.some.inj hx; exact ⟨hB, (Array.getElem?_eq_some_iff.1 hg).1⟩⟩
    refine .inr ⟨g, 0, rfl, fun k hk => ?_⟩
    obtain ⟨g', e, hc⟩ := hA k hk
    obtain rfl : g = g' := by simpa using e
    rw [List.getD_eq_getElem?_getD, List.getElem?_eq_getElem hk, Nat.zero_add]
    exact ⟨hc 0 (by omega), hc 1 (by omega), hc 2 (by omega)⟩
/-! ### The closure next -/
end Go.Proofs.YtpmlkofceidnjaaGreatDoor
namespace Go.Proofs.YtpmlkofceidnjaaGreatDoor
open Go.RowKit

theorem lst_mem : ∀ (n : Nat) (b : ByteArray), b.size ≤ n → ∀ e ∈ (lst b).1, e.2.1.size ≤ b.size
  | 0, b, h, e, he => by rw [lst_nil (by omega)] at he; cases he
  | n + 1, b, h, e, he => by
    by_cases h0 : b.size = 0
    · rw [lst_nil h0] at he; cases he
    · by_cases hr : rdErr b = 0
      · rw [lst_step h0 hr] at he
        have h1 := rdRest_size hr
        have h2 := rdContent_size hr
        split at he
        · rcases List.mem_cons.1 he with rfl | he
          · exact Nat.le_of_lt h2
          · have := lst_mem n (rdRest b) (by omega) e he
            omega
        · cases he
      · rw [lst_bad h0 hr] at he; cases he
theorem ElAt.but {w w' : World} {p : Nat} {a : Option Addr} {l : List El} (h : ElAt w a l) (hb : But p w w') (hne : ∀ x, a = some x → l ≠ [] → x.block ≠ p) : ElAt w' a l := by
  rcases h with h | ⟨b, o, rfl, h2⟩
  · exact .inl h
  · refine .inr ⟨b, o, rfl, fun i hi => ?_⟩
    have hn := hne _ rfl (fun e => by rw [e] at hi; exact absurd hi (Nat.not_lt_zero _))
    obtain ⟨c0, c1, c2⟩ := h2 i hi
    have hbk := hb.block b (block_lt c0) (by simpa using hn)
    exact ⟨(cell_same hbk _).trans c0, (cell_same hbk _).trans c1, (cell_same hbk _).trans c2⟩
end Go.Proofs.YtpmlkofceidnjaaGreatDoor
namespace Go.Proofs.YtpmlkofceidnjaaGreatDoor
open Go.RowKit

abbrev noEle : El := (0, ⟨#[]⟩, ⟨#[]⟩)
/-! ### A row of attributes that is filled one by one -/
end Go.Proofs.YtpmlkofceidnjaaGreatDoor




namespace Go.Proofs.YtpmlkofceidnjaaGreatDoor
open Go.RowKit

/-- The bytes l lie from the beginning of block g on, and may be written. -/
def BL (w : World) (g : Nat) (l : List UInt8) : Prop := g < w.heap.size ∧ ∀ j, j < l.length → w.cell? ⟨g, j, none⟩ = some (.int .u8 (((l.getD j 0).toNat : Nat) : Int)) ∧ w.frozen? ⟨g, j, none⟩ = false
theorem addr_ne {g h i j : Nat} (e : g ≠ h) : (⟨g, i, none⟩ : Addr) ≠ ⟨h, j, none⟩ := fun k => e (by injection k)
theorem addr_ne2 {g i j : Nat} (e : i ≠ j) : (⟨g, i, none⟩ : Addr) ≠ ⟨g, j, none⟩ := fun k => e (by injection k)
theorem getD_set_same {α : Type} {l : List α} {j : Nat} (h : j < l.length) (v d : α) : (l.set j v).getD j d = v := by
  rw [List.getD_eq_getElem?_getD]; simp [h]
theorem getD_set_other {α : Type} {l : List α} {i j : Nat} (h : i ≠ j) (v d : α) : (l.set i v).getD j d = l.getD j d := by
  rw [List.getD_eq_getElem?_getD, List.getD_eq_getElem?_getD, List.getElem?_set_ne h]
theorem BL.put {w : World} {g : Nat} {l : List UInt8} (h : BL w g l) {j : Nat} (hj : j < l.length) (b : UInt8) : BL (w.setCell ⟨g, j, none⟩ (.int .u8 ((b.toNat : Nat) : Int))) g (l.set j b) := by
  refine ⟨by simpa using h.1, fun i hi => ?_⟩
  rw [List.length_set] at hi
  rw [World.frozen?_setCell]
  refine ⟨?_, (h.2 i hi).2⟩
  by_cases e : j = i
  · subst e
    rw [World.cell?_setCell_same _ _ _ (h.2 j hj).1, getD_set_same hj]
  · rw [World.cell?_setCell_other _ _ _ _ (addr_ne2 e), getD_set_other e]
    exact (h.2 i hi).1
theorem BL.other {w : World} {g : Nat} {l : List UInt8} (h : BL w g l) {k : Nat} (hk : k ≠ g) (j : Nat) (v : Value) : BL (w.setCell ⟨k, j, none⟩ v) g l := by
  refine ⟨by simpa using h.1, fun i hi => ?_⟩
  rw [World.frozen?_setCell, World.cell?_setCell_other _ _ _ _ (addr_ne hk)]
  exact h.2 i hi
theorem BL.drew {w : World} {g : Nat} {l : List UInt8} (h : BL w g l) : BL w.drew g l := h
theorem BL.new (w : World) (s : ByteArray) (cap : Nat) (t : TypeId) : BL (w.alloc (.cells (bytesRow s cap) t ((bytesRow s cap).size, (bytesRow s cap).size + 1))) w.heap.size s.data.toList := by
  refine ⟨by simp, fun j hj => ?_⟩
  have hj2 : j < s.data.size := hj
  refine ⟨?_, ?_⟩
  · rw [cell_of_row _ _ j _ _ _ (heap_alloc_new w _)]
    unfold bytesRow
    rw [Array.getElem?_append_left (by simpa using hj2)]
    rw [List.getD_eq_getElem?_getD]
    simp
    exact ⟨s.data[j], Array.getElem?_eq_getElem hj2, by rw [Array.getElem?_eq_getElem hj2]; rfl⟩
  · rw [World.frozen?_alloc_mark]
    have : (bytesRow s cap).size ≥ s.data.size := by unfold bytesRow; simp
    have h2 : ¬ (bytesRow s cap).size ≤ j := by omega
    rw [decide_eq_false h2]; rfl

theorem BL.text {w : World} {g : Nat} {l : List UInt8} (h : BL w g l) (n cap : Nat) (hn : n = l.length) : (convert 53 9 (.slice (some ⟨g, 0, none⟩) n cap)).run Tryz.prog w = .ok (.string (strOf l)) w := by
  subst hn
  refine run_convert_bytes_back w _ _ _ ⟨g, 0, none⟩ cap l Tryz.underlying53 Tryz.underlying5 Tryz.underlying9 (fun j hj => ?_)
  have hadd : (⟨g, 0, none⟩ : Addr).add j = ⟨g, j, none⟩ := by unfold Addr.add; split <;> simp_all
  rw [hadd, (h.2 j hj).1, List.getD_eq_getElem?_getD, List.getElem?_eq_getElem hj]
  rfl

theorem BL.below {w w' : World} {g : Nat} {l : List UInt8} (h : BL w g l) (hb : Below w.heap.size w w') : BL w' g l :=
  ⟨Nat.lt_of_lt_of_le h.1 hb.size, fun j hj => ⟨(hb.cell (p := ⟨g, j, none⟩) h.1).trans (h.2 j hj).1, (hb.frozen (p := ⟨g, j, none⟩) h.1).trans (h.2 j hj).2⟩⟩
end Go.Proofs.YtpmlkofceidnjaaGreatDoor



namespace Go.Proofs.YtpmlkofceidnjaaGreatDoor
open Go.RowKit

theorem deck_up {w : World} {p : Nat} {a : Option Addr} {cap : Nat} {zs : List Int} {k : Nat} (h : DeckAt w p a cap zs k) : DeckAt w.drew p a cap zs k := h.below (Below.refl _ w).drew
/-- A name that can be read: its slice lies in block q. -/
def HoldAt (V : World) (q : Nat) (a : Option Addr) (N c : Nat) (n : Nm) : Prop := V.cell? ⟨q, 0, none⟩ = some (.slice a N c) ∧ N = n.length ∧ N ≤ c ∧ RLies V a n ∧ SmallN n
theorem HoldAt.below {w w' : World} {q N c : Nat} {a : Option Addr} {n : Nm} (h : HoldAt w q a N c n) (hb : Below w.heap.size w w') : HoldAt w' q a N c n :=
  ⟨(hb.cell (p := ⟨q, 0, none⟩) (block_lt h.1)).trans h.1, h.2.1, h.2.2.1, h.2.2.2.1.below hb, h.2.2.2.2⟩
end Go.Proofs.YtpmlkofceidnjaaGreatDoor

namespace Go.Proofs.YtpmlkofceidnjaaGreatDoor
open Go.RowKit

theorem deck_alloc {w : World} {p : Nat} {a : Option Addr} {cap : Nat} {zs : List Int} {k : Nat} (h : DeckAt w p a cap zs k) (o : Obj) : DeckAt (w.alloc o) p a cap zs k := by
  obtain ⟨h1, h2, h3, h5, h4⟩ := h
  have hp : p < w.heap.size := (Array.getElem?_eq_some_iff.1 h1).1
  exact ⟨heap_keep h1 o, h2.below ((Below.refl p w).alloc (by omega) o) h3, h3, h5, h4⟩
end Go.Proofs.YtpmlkofceidnjaaGreatDoor
namespace Go.Proofs.YtpmlkofceidnjaaGreatDoor
open Go.RowKit

theorem next_intN (p : Nat) (a : Option Addr) (cap : Nat) (zs : List Int) (k : Nat) (N : Nat) (M : Int) (w : World) (h : DeckAt w p a cap zs k) (hk2 : k < 30000) (hN : 0 < N) (hN2 : N ≤ 1099511627776) (hM : M = (N : Int)) :
    Calls Tryz.prog 9 #[.pointer (some ⟨p, 0, none⟩), .int .i64 M] w fun e w' => ∃ r k' : Nat, r < N ∧ e = .returned (.int .i64 (r : Int)) ∧ DeckAt w' p a cap zs k' ∧ k' ≤ k + 1 ∧ But p w w' := by
  rw [hM]
  exact next_any p a cap zs k N w h hk2 hN hN2
theorem but_any {p : Nat} {w w1 w2 w3 : World} {o : Obj} (h1 : But p w w1) (h2 : But p w1 w2) (h3 : But p (w2.alloc o) w3) : But p w w3 :=
  ((h1.next h2).next (But.of (belowNew w2 o))).next h3
theorem but_drew {p : Nat} {w w' : World} (h : But p w w') : But p w w'.drew := h.next (But.of (Below.refl _ w').drew)
set_option maxRecDepth 100000 in
set_option maxHeartbeats 2000000 in
theorem damage_but (p : Nat) (a : Option Addr) (cap : Nat) (zs : List Int) (k : Nat) (s : ByteArray) (w : World) (h : DeckAt w p a cap zs k) (hk : k ≤ 29990) (h0 : s.size ≠ 0) (hs : s.size ≤ 1099511627000) :
    Calls Tryz.prog 10 #[.pointer (some ⟨p, 0, none⟩), .string s] w fun e w' => ∃ (u : ByteArray) (k' : Nat), e = .returned (.string u) ∧ u.size ≤ s.size + 1 ∧ DeckAt w' p a cap zs k' ∧ k' ≤ k + 3 ∧ But p w w' := by
  have he := nonempty_list h0
  have HD := Lib.hid h
  have HK := Lib.hid hk
  have HP := Lib.hid (show 0 < s.size by omega)
  have HS := Lib.hid hs
  clear h hk h0
  go_enter Tryz.func10, Tryz.ntmps10
  go_wp2_with (first | (go_at_call 9; (with_reducible refine (next_intN p a cap zs k s.size (s.size : Int) _ HD.out (by have := HK.out; omega) HP.out (by have := HS.out; omega) rfl).mono ?_); rintro e w1 ⟨r1, k1, hr1, rfl, hd1, hk1, hb1⟩; have HD1 := Lib.hid hd1; have HK1 := Lib.hid hk1; have HB1 := Lib.hid hb1; clear hd1 hk1 hb1) | (go_at_call 9; (with_reducible refine (next_intN p a cap zs k1 256 256 _ HD1.out (by have := HK.out; have := HK1.out; omega) (by omega) (by omega) rfl).mono ?_); rintro e w2 ⟨r2, k2, hr2, rfl, hd2, hk2, hb2⟩; have HD2 := Lib.hid hd2; have HK2 := Lib.hid hk2; have HB2 := Lib.hid hb2; clear hd2 hk2 hb2; obtain ⟨y, rfl⟩ : ∃ y : UInt8, r2 = y.toNat := ⟨UInt8.ofNat r2, by simp; omega⟩; have hymod : ((y.toNat : Nat) : Int) % 256 = ((y.toNat : Nat) : Int) := (by omega); have hcv := row_conv w2 w2.heap.size 1 rfl [y] rfl #[.int .u8 ((y.toNat : Nat) : Int)] rfl; obtain ⟨C, hC⟩ : ∃ C : ByteArray, C = ⟨[y].toArray⟩ := ⟨_, rfl⟩; rw [← hC] at hcv; have hC1 : C.size = 1 := (by rw [hC]; rfl); clear hC) | (go_at_call 9; (with_reducible refine (next_intN p a cap zs k2 5 5 _ (deck_alloc HD2.out _) (by have := HK.out; have := HK1.out; have := HK2.out; omega) (by omega) (by omega) rfl).mono ?_); rintro e w3 ⟨r3, k3, hr3, rfl, hd3, hk3, hb3⟩; have HD3 := Lib.hid hd3; have HKK := Lib.hid (show k3 ≤ k + 3 by have := HK1.out; have := HK2.out; omega); have HB3 := Lib.hid (but_any HB1.out HB2.out hb3); clear hb3 hd3 hk3))
  · have q1 : (s.extract 0 r1).size = r1 := by rw [ByteArray.size_extract]; omega
    have q2 : (s.extract (r1 + 1) s.size).size = s.size - (r1 + 1) := by rw [ByteArray.size_extract]; omega
    have q3 : (s.extract 0 r1 ++ C).size = r1 + 1 := by rw [ByteArray.size_append, q1, hC1]
    have hs := HS.out
    go_region
    go_wp2_with fail
    go_ret
    exact ⟨_, _, rfl, by rw [ByteArray.size_append, q3, q2]; omega, deck_up HD3.out, HKK.out, but_drew HB3.out⟩
  · have q1 : (s.extract 0 r1).size = r1 := by rw [ByteArray.size_extract]; omega
    have q2 : (s.extract r1 s.size).size = s.size - r1 := by rw [ByteArray.size_extract]; omega
    have q3 : (s.extract 0 r1 ++ C).size = r1 + 1 := by rw [ByteArray.size_append, q1, hC1]
    have hs := HS.out
    go_region
    go_wp2_with fail
    go_ret
    exact ⟨_, _, rfl, by rw [ByteArray.size_append, q3, q2]; omega, deck_up HD3.out, HKK.out, but_drew HB3.out⟩
  · have q1 : (s.extract 0 r1).size = r1 := by rw [ByteArray.size_extract]; omega
    have q2 : (s.extract (r1 + 1) s.size).size = s.size - (r1 + 1) := by rw [ByteArray.size_extract]; omega
    have hs := HS.out
    go_region
    go_wp2_with fail
    go_ret
    exact ⟨_, _, rfl, by rw [ByteArray.size_append, q1, q2]; omega, deck_up HD3.out, HKK.out, but_drew HB3.out⟩
  · have hs := HS.out
    go_ret
    exact ⟨_, _, rfl, by rw [ByteArray.size_extract]; omega, HD3.out, HKK.out, HB3.out⟩
  · go_ret
    exact ⟨_, _, rfl, by omega, HD3.out, HKK.out, HB3.out⟩
end Go.Proofs.YtpmlkofceidnjaaGreatDoor
namespace Go.Proofs.YtpmlkofceidnjaaGreatDoor
open Go.RowKit

theorem wr1_size (T : Int) (x : ByteArray) : (wr1 T x).size ≤ 131080 := wrapStr_size _ _
set_option maxRecDepth 100000 in
set_option maxHeartbeats 2000000 in
theorem replaced_any (p : Nat) (a : Option Addr) (cap : Nat) (zs : List Int) (k : Nat) (s : ByteArray) (w : World) (h : DeckAt w p a cap zs k) (hk : k ≤ 29980) (hs : s.size ≤ 1000000) :
    Calls Tryz.prog 34 #[.pointer (some ⟨p, 0, none⟩), .string s] w fun e w' => ∃ (u : ByteArray) (k' : Nat), e = .returned (.string u) ∧ u.size ≤ s.size + 131080 ∧ DeckAt w' p a cap zs k' ∧ k' ≤ k + 4 ∧ But p w w' := by
  have HD := Lib.hid h
  have HK := Lib.hid hk
  have HS := Lib.hid hs
  by_cases h2 : s.size < 2
  · have hd : decide ((s.size : Int) < 2) = true := by simp; omega
    clear h hk hs
    go_enter Tryz.func34, Tryz.ntmps34
    go_wp2_with fail
    go_ret
    exact ⟨_, _, rfl, by omega, HD.out, by omega, But.refl _ _⟩
  have hd : decide ((s.size : Int) < 2) = false := by simp; omega
  have he := nonempty_list (show s.size ≠ 0 by omega)
  obtain ⟨c, hc⟩ : ∃ c, c = s.extract 2 s.size := ⟨_, rfl⟩
  have hsl : ∀ w, (Instr.slice 9 (.string s) (some (.int .i64 2)) none none).run Tryz.prog w = .ok (.string c) w := fun w => by
    have := run_slice_string_from_if (P := Tryz.prog) w 9 s .i64 2 Tryz.underlying9
    rw [this, if_pos ⟨by omega, by omega⟩, hc]
    rfl
  have hixx := fun w => run_index_u8 (P := Tryz.prog) Tryz.underlying9 s 0 (by omega) 0 rfl w
  have HCZ := Lib.hid (show c.size ≤ 1099511627776 by rw [hc, ByteArray.size_extract]; omega)
  generalize u8at s 0 = cc at hixx
  have HDM := Lib.hid (fun k w h hk => damage_but p a cap zs k s w h hk (by omega) (by omega))
  have HW1 := Lib.hid (fun T g W h => rw1 T g c W h HCZ.out)
  have HW0 := Lib.hid (fun T g W h => rw1 T g ⟨#[]⟩ W h (Nat.zero_le _))
  clear h hk hs hc h2
  go_enter Tryz.func34, Tryz.ntmps34
  go_wp2_with (first
    | (go_at_call 9; (with_reducible refine (next_intN p a cap zs k 6 6 _ HD.out (by have := HK.out; omega) (by omega) (by omega) rfl).mono ?_); rintro e w1 ⟨r1, k1, hr1, rfl, hd1, hk1, hb1⟩; have HD1 := Lib.hid hd1; have HK1 := Lib.hid hk1; have HB1 := Lib.hid hb1; clear hd1 hk1 hb1)
    | (go_at_call 9; (with_reducible refine (next_intN p a cap zs k1 31 31 _ HD1.out (by have := HK.out; have := HK1.out; omega) (by omega) (by omega) rfl).mono ?_); rintro e w2 ⟨r2, k2, hr2, rfl, hd2, hk2, hb2⟩; have HD2 := Lib.hid hd2; have HK2 := Lib.hid hk2; have HB2 := Lib.hid hb2; clear hd2 hk2 hb2)
    | (go_at_call 9; (with_reducible refine (next_intN p a cap zs k1 256 256 _ HD1.out (by have := HK.out; have := HK1.out; omega) (by omega) (by omega) rfl).mono ?_); rintro e w2 ⟨r2, k2, hr2, rfl, hd2, hk2, hb2⟩; have HD2 := Lib.hid hd2; have HK2 := Lib.hid hk2; have HB2 := Lib.hid hb2; clear hd2 hk2 hb2; obtain ⟨y, rfl⟩ : ∃ y : UInt8, r2 = y.toNat := ⟨UInt8.ofNat r2, by simp; omega⟩; have hymod : ((y.toNat : Nat) : Int) % 256 = ((y.toNat : Nat) : Int) := (by omega); have hcv := row_conv w2 w2.heap.size 1 rfl [y] rfl #[.int .u8 ((y.toNat : Nat) : Int)] rfl; obtain ⟨C, hC⟩ : ∃ C : ByteArray, C = ⟨[y].toArray⟩ := ⟨_, rfl⟩; rw [← hC] at hcv; have hC1 : C.size = 1 := (by rw [hC]; rfl); clear hC)
    | (go_at_call 30; (with_reducible refine (HW1.out _ _ _ (bx1 _ _ _)).mono ?_); rintro e w5 ⟨rfl, hb5⟩; have HB5 := Lib.hid hb5; clear hb5)
    | (go_at_call 30; (with_reducible refine (HW0.out _ _ _ (bx1 _ _ _)).mono ?_); rintro e w5 ⟨rfl, hb5⟩; have HB5 := Lib.hid hb5; clear hb5)
    | (go_at_call 10; (with_reducible refine (HDM.out k1 _ HD1.out (by have := HK.out; have := HK1.out; omega)).mono ?_); rintro e w5 ⟨u, k5, rfl, hu, hd5, hk5, hb5⟩; have HD5 := Lib.hid hd5; have HB5 := Lib.hid hb5; clear hb5 hd5))
  · go_ret
    exact ⟨_, _, rfl, Nat.le_trans (wr1_size _ _) (by omega), (HD2.out.below (belowNew _ _)).below HB5.out, by have := HK1.out; have := HK2.out; omega, ((HB1.out.next HB2.out).next (But.of (belowNew _ _))).next (But.of HB5.out)⟩
  · go_ret
    exact ⟨_, _, rfl, Nat.le_trans (wr1_size _ _) (by omega), (HD1.out.below (belowNew _ _)).below HB5.out, by have := HK1.out; omega, (HB1.out.next (But.of (belowNew _ _))).next (But.of HB5.out)⟩
  · go_ret
    exact ⟨_, _, rfl, Nat.le_trans (wr1_size _ _) (by omega), (HD1.out.below (belowNew _ _)).below HB5.out, by have := HK1.out; omega, (HB1.out.next (But.of (belowNew _ _))).next (But.of HB5.out)⟩
  · go_ret
    refine ⟨_, _, rfl, ?_, HD2.out.below (belowNew _ _), by have := HK1.out; have := HK2.out; omega, (HB1.out.next HB2.out).next (But.of (belowNew _ _))⟩
    rw [ByteArray.size_append, hC1]
    exact Nat.le_trans (show 3 ≤ 131080 by omega) (by omega)
  · go_ret
    exact ⟨_, _, rfl, Nat.le_trans (show 2 ≤ 131080 by omega) (by omega), HD1.out, by have := HK1.out; omega, HB1.out⟩
  · go_ret
    exact ⟨_, _, rfl, by omega, HD5.out, by have := HK1.out; omega, HB1.out.next HB5.out⟩
end Go.Proofs.YtpmlkofceidnjaaGreatDoor
