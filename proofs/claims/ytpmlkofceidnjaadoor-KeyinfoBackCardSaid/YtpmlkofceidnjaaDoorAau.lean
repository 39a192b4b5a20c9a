/-
  Keys as bytes: what Algorithm, CheckAlgorithm, Encode, Decode and Identifier answer; encoding and decoding undo each other. Nothing is claimed of the program here.
  The contracts of the reference's Algorithm, raw, EncodeKey and Identifier.
  The contracts of the law package's small functions: seeds, ids and digests of the right size.
  The contract of certpathmade's Key: a key that there may be; and what is wanted of the program's keyinfo, as propositions.
  What is wanted of the program's keyinfo, as propositions; and the contract of the law package's sanity check over them.
-/
import Derived.Test.YtpmlkofceidnjaaDoorAap
import Derived.Test.YtpmlkofceidnjaaDoorAat
import Derived.Test.YtpmlkofceidnjaaDoorAam
import Derived.Deep.RegionHeld3
import Derived.Test.YtpmlkofceidnjaaDoorAan
import Derived.Deep.RegionLaw
namespace Go.Proofs.YtpmlkofceidnjaaDoor
open Go.RowKit

/-! ### The algorithm -/
/-- The text of the algorithm's object identifier, and its arcs. -/
def oidA : ByteArray := ⟨#[49, 46, 51, 46, 54, 46, 49, 46, 52, 46, 49, 46, 53, 56, 56, 56, 56, 46, 49, 46, 49]⟩
def arcA : List Nat := [1, 3, 6, 1, 4, 1, 58888, 1, 1]
theorem dd_of (l : List UInt8) (n : Nat) (h0 : l ≠ []) (h1 : ∀ c ∈ l, 48 ≤ c.toNat ∧ c.toNat ≤ 57) (h2 : l.head? = some 48 → l.length = 1) (hn : dval l = n) : Lib.decDigits n = l := by
  rw [← hn]
  exact (dec_of l h0 h1 h2).symm
theorem oidA_txt : oidA.data.toList = txt arcA := by
  have d1 : Lib.decDigits 1 = [49] := dd_of _ _ (by decide) (by decide) (by decide) (by decide)
  have d3 : Lib.decDigits 3 = [51] := dd_of _ _ (by decide) (by decide) (by decide) (by decide)
  have d4 : Lib.decDigits 4 = [52] := dd_of _ _ (by decide) (by decide) (by decide) (by decide)
  have d6 : Lib.decDigits 6 = [54] := dd_of _ _ (by decide) (by decide) (by decide) (by decide)
  have d8 : Lib.decDigits 58888 = [53, 56, 56, 56, 56] := dd_of _ _ (by decide) (by decide) (by decide) (by decide)
  unfold arcA
  simp only [txt, d1, d3, d4, d6, d8]
  rfl
theorem oidA_oid : Oid oidA.data.toList arcA := by
  rw [oidA_txt]
  exact oid_of ⟨by decide, by decide, by decide, by decide, by decide⟩
theorem e128_small {n : Nat} (h : n < 128) : e128 n = [UInt8.ofNat n] := by
  unfold e128
  rw [Nat.div_eq_of_lt h, Nat.mod_eq_of_lt h, hd7_zero]
  rfl
theorem e128_big : e128 58888 = [131, 204, 8] := by
  unfold e128
  rw [hd7_pos (by decide), hd7_pos (by decide), show 58888 / 128 / 128 / 128 = 0 by decide, hd7_zero]
  rfl
theorem oidA_enc : oidS oidA = strOf [43, 6, 1, 4, 1, 131, 204, 8, 1, 1] := by
  rw [oidS_yes oidA_oid]
  congr 1
  unfold enc
  rw [show numsOf arcA = [43, 6, 1, 4, 1, 58888, 1, 1] from rfl]
  simp only [cat, e128_big, e128_small (n := 43) (by decide), e128_small (n := 6) (by decide), e128_small (n := 1) (by decide), e128_small (n := 4) (by decide)]
  rfl
/-- The whole element of the algorithm. -/
noncomputable def algS : ByteArray := wr1 48 (wr1 6 (oidS oidA))
theorem algS_eq : algS = strOf [48, 12, 6, 10, 43, 6, 1, 4, 1, 131, 204, 8, 1, 1] := by
  unfold algS
  rw [oidA_enc]
  rfl
theorem algS_size : algS.size = 14 := by rw [algS_eq]; rfl
/-- What CheckAlgorithm answers. -/
noncomputable def algL : List El → Nat
  | [] => 3
  | x :: r => if x.1 ≠ 6 then 5 else match oidD x.2.1 with
    | none => 11
    | some id => if id ≠ oidA ∨ r ≠ [] then 16 else 0
theorem algL_cons (x : El) (r : List El) : algL (x :: r) = if x.1 ≠ 6 then 5 else match oidD x.2.1 with
    | none => 11
    | some id => if id ≠ oidA ∨ r ≠ [] then 16 else 0 := rfl
noncomputable def chkAlg (t : Int) (c : ByteArray) : Nat := if t ≠ 48 then 5 else if (lst c).2 ≠ 0 then (lst c).2 else algL (lst c).1

/-! ### Keys -/
abbrev KeyT := Int × ByteArray × ByteArray
def nok : KeyT := (0, ⟨#[]⟩, ⟨#[]⟩)
def keyEE (k : KeyT) : Nat := keyE k.1 k.2.1 k.2.2
def keyVV (k : KeyT) : Value := keyV k.1 k.2.1 k.2.2
/-- The bytes of a key. -/
def rawK (k : KeyT) : ByteArray := (strOf (b1 k.1.toNat) ++ k.2.1) ++ k.2.2
noncomputable def encK (k : KeyT) : ByteArray := wr2 48 algS (wr1 3 (strOf [0] ++ rawK k))
noncomputable def encKV (k : KeyT) : Value := if keyEE k = 0 then .tuple #[.string (encK k), .int .i64 0] else .tuple #[.string ⟨#[]⟩, .int .i64 18]
/-- The key that the bytes of a bit string are. -/
def keyOf (s : ByteArray) : KeyT := ((u8at s 0 : Int), s.extract 1 17, s.extract 17 33)
def keyB (c : ByteArray) : Nat × KeyT :=
  if bitsErr c ≠ 0 then (7, nok)
  else if bitsNum c ≠ 0 ∨ (bitsStr c).size ≠ 33 then (18, nok)
  else if keyEE (keyOf (bitsStr c)) ≠ 0 then (18, nok)
  else (0, keyOf (bitsStr c))
noncomputable def keyL : List El → Nat × KeyT
  | [] => (3, nok)
  | x :: r => if chkAlg (x.1 : Int) x.2.1 ≠ 0 then (chkAlg (x.1 : Int) x.2.1, nok) else match r with
    | [] => (3, nok)
    | y :: q => if y.1 ≠ 3 then (5, nok) else if (keyB y.2.1).1 ≠ 0 then ((keyB y.2.1).1, nok) else if q ≠ [] then (4, nok) else (0, (keyB y.2.1).2)
theorem keyL_one (x : El) : keyL [x] = if chkAlg (x.1 : Int) x.2.1 ≠ 0 then (chkAlg (x.1 : Int) x.2.1, nok) else (3, nok) := rfl
theorem keyL_two (x y : El) (q : List El) : keyL (x :: y :: q) = if chkAlg (x.1 : Int) x.2.1 ≠ 0 then (chkAlg (x.1 : Int) x.2.1, nok) else if y.1 ≠ 3 then (5, nok) else if (keyB y.2.1).1 ≠ 0 then ((keyB y.2.1).1, nok) else if q ≠ [] then (4, nok) else (0, (keyB y.2.1).2) := rfl
noncomputable def decK (b : ByteArray) : Nat × KeyT :=
  if oneErr b ≠ 0 then (oneErr b, nok) else if rdTag b ≠ 48 then (5, nok) else if (lst (rdContent b)).2 ≠ 0 then ((lst (rdContent b)).2, nok) else keyL (lst (rdContent b)).1
noncomputable def decKV (b : ByteArray) : Value := .tuple #[keyVV (decK b).2, .int .i64 (((decK b).1 : Nat) : Int)]

theorem keyEE_zero {k : KeyT} (h : keyEE k = 0) : 0 ≤ k.1 ∧ k.1 ≤ 8 ∧ k.2.1.size = 16 ∧ k.2.2.size = 16 := by
  unfold keyEE keyE at h
  split at h
  · assumption
  · cases h
theorem keyEE_or (k : KeyT) : keyEE k = 0 ∨ keyEE k = 18 := by
  unfold keyEE keyE
  split
  · exact .inl rfl
  · exact .inr rfl
theorem rawK_list (k : KeyT) : (rawK k).data.toList = UInt8.ofNat (k.1.toNat % 256) :: (k.2.1.data.toList ++ k.2.2.data.toList) := by
  unfold rawK
  rw [str_add, str_add, strOf_list, List.append_assoc]
  rfl
theorem rawK_size {k : KeyT} (h : keyEE k = 0) : (rawK k).size = 33 := by
  obtain ⟨_, _, h1, h2⟩ := keyEE_zero h
  have e : (rawK k).data.toList.length = (rawK k).size := rfl
  rw [← e, rawK_list, List.length_cons, List.length_append]
  have e1 : k.2.1.data.toList.length = k.2.1.size := rfl
  have e2 : k.2.2.data.toList.length = k.2.2.size := rfl
  omega
theorem keyOf_raw {k : KeyT} (h : keyEE k = 0) : keyOf (rawK k) = k := by
  obtain ⟨z0, z8, h1, h2⟩ := keyEE_zero h
  have e1 : k.2.1.data.toList.length = 16 := h1
  have e2 : k.2.2.data.toList.length = 16 := h2
  have hl := rawK_list k
  unfold keyOf
  have a0 : (u8at (rawK k) 0 : Int) = k.1 := by
    rw [u8at_list_t hl]
    show (((UInt8.ofNat (k.1.toNat % 256)).toNat : Nat) : Int) = k.1
    rw [UInt8.toNat_ofNat']
    omega
  have a1 : (rawK k).extract 1 17 = k.2.1 := by
    apply list_inj
    rw [data_extract, hl, List.drop_succ_cons, List.drop_zero, List.take_append_of_le_length (by omega), List.take_of_length_le (by omega)]
  have a2 : (rawK k).extract 17 33 = k.2.2 := by
    apply list_inj
    rw [data_extract, hl, List.drop_succ_cons, ← e1, List.drop_left, List.take_of_length_le (by omega)]
  rw [a0, a1, a2]
theorem raw_keyOf {s : ByteArray} (h : s.size = 33) : rawK (keyOf s) = s := by
  apply list_inj
  rw [rawK_list]
  unfold keyOf
  have hl : s.data.toList.length = 33 := h
  have hu := u8at_lt s 0
  simp only [data_extract]
  obtain ⟨x, r, e, _⟩ := lst_ge (L := s.data.toList) 0 (by omega)
  have hx : UInt8.ofNat (((u8at s 0 : Nat) : Int).toNat % 256) = x := by
    rw [u8at_list_t e]
    show UInt8.ofNat ((((x.toNat : Nat) : Int).toNat) % 256) = x
    rw [Int.toNat_natCast, Nat.mod_eq_of_lt x.toNat_lt, UInt8.ofNat_toNat]
  have hr : r.length = 32 := by rw [e] at hl; simpa using hl
  rw [hx, e, List.drop_succ_cons, List.drop_succ_cons, List.drop_zero, show 33 - 17 = 16 by omega]
  congr 1
  rw [show (r.drop 16).take 16 = r.drop 16 from List.take_of_length_le (by rw [List.length_drop]; omega), List.take_append_drop]
/-- The contents of a bit string of these bytes without unused bits. -/
theorem bits_of (s : ByteArray) : bitsErr (strOf [0] ++ s) = 0 ∧ bitsNum (strOf [0] ++ s) = 0 ∧ bitsStr (strOf [0] ++ s) = s := by
  have hl : (strOf [0] ++ s).data.toList = 0 :: s.data.toList := by rw [str_add, strOf_list]; rfl
  have h0 : u8at (strOf [0] ++ s) 0 = 0 := by rw [u8at_list_t hl]; rfl
  have hz : (strOf [0] ++ s).size ≠ 0 := by rw [size_list hl]; simp
  have he : bitsErr (strOf [0] ++ s) = 0 := by
    unfold bitsErr
    rw [h0]
    refine if_neg fun h => ?_
    rcases h with h | h | h
    · exact hz h
    · exact absurd h (by decide)
    · rw [unusedOk_zero] at h; cases h
  refine ⟨he, by unfold bitsNum; rw [if_pos he, h0], ?_⟩
  unfold bitsStr
  rw [if_pos he]
  apply list_inj
  rw [data_extract, hl, List.drop_succ_cons, List.drop_zero]
  refine List.take_of_length_le ?_
  rw [size_list hl, List.length_cons]
  omega
theorem of_bits {c : ByteArray} (h : bitsErr c = 0) (k : bitsNum c = 0) : c = strOf [0] ++ bitsStr c := by
  have h2 := h
  unfold bitsErr at h2
  split at h2
  · cases h2
  · rename_i hn
    have h0 : c.size ≠ 0 := fun e => hn (.inl e)
    unfold bitsNum at k
    rw [if_pos h] at k
    unfold bitsStr
    rw [if_pos h]
    apply list_inj
    rw [str_add, strOf_list, data_extract]
    obtain ⟨x, r, e, _⟩ := lst_ge (L := c.data.toList) 0 (by have : c.data.toList.length = c.size := rfl; omega)
    rw [u8at_list_t e] at k
    have hx : x = 0 := by
      have : x.toNat = 0 := k
      exact UInt8.toNat.inj this
    have hs := size_list e
    rw [e, hx, List.drop_succ_cons, List.drop_zero, hs, List.length_cons, Nat.add_sub_cancel, List.take_length]
    rfl
theorem keyB_raw {k : KeyT} (h : keyEE k = 0) : keyB (strOf [0] ++ rawK k) = (0, k) := by
  obtain ⟨h1, h2, h3⟩ := bits_of (rawK k)
  unfold keyB
  rw [h1, h2, h3, keyOf_raw h, rawK_size h, h]
  rfl
theorem keyB_ok {c : ByteArray} {k : KeyT} (h : keyB c = (0, k)) : keyEE k = 0 ∧ c = strOf [0] ++ rawK k := by
  unfold keyB at h
  by_cases h1 : bitsErr c ≠ 0
  · rw [if_pos h1] at h; cases (Prod.mk.inj h).1
  · rw [if_neg h1] at h
    by_cases h2 : bitsNum c ≠ 0 ∨ (bitsStr c).size ≠ 33
    · rw [if_pos h2] at h; cases (Prod.mk.inj h).1
    · rw [if_neg h2] at h
      by_cases h3 : keyEE (keyOf (bitsStr c)) ≠ 0
      · rw [if_pos h3] at h; cases (Prod.mk.inj h).1
      · rw [if_neg h3] at h
        obtain rfl := (Prod.mk.inj h).2.symm
        rw [raw_keyOf (by omega)]
        exact ⟨by omega, of_bits (by omega) (by omega)⟩
/-! ### Encoding and decoding -/
noncomputable def elAlg : El := (48, wr1 6 (oidS oidA), algS)
def elBit (k : KeyT) : El := (3, strOf [0] ++ rawK k, wr1 3 (strOf [0] ++ rawK k))
noncomputable def inK (k : KeyT) : ByteArray := ⟨(algS.data.toList ++ (wr1 3 (strOf [0] ++ rawK k)).data.toList).toArray⟩
theorem encK_wr (k : KeyT) : encK k = wr1 ((48 : Nat) : Int) (inK k) := rfl
theorem oidA_there : oidD (oidS oidA) = some oidA := oid_there (oidB_yes oidA_oid)
theorem chkAlg_ok : chkAlg 48 (wr1 6 (oidS oidA)) = 0 := by
  have hz : (oidS oidA).size = 10 := by rw [oidA_enc]; rfl
  have hl : lst (wr1 6 (oidS oidA)) = ([(6, oidS oidA, wr1 6 (oidS oidA))], 0) := lst_els [(6, oidS oidA, wr1 6 (oidS oidA))] (fun e hm => by
    rw [List.mem_singleton.1 hm]
    exact ⟨by decide, by decide, by show (oidS oidA).size ≤ _; omega, rfl⟩) _ (by unfold raws; simp)
  unfold chkAlg
  rw [if_neg (by simp), hl, if_neg (by simp)]
  show algL [(6, oidS oidA, wr1 6 (oidS oidA))] = 0
  rw [algL_cons, if_neg (by simp)]
  simp only [oidA_there]
  simp
theorem algE_ok : OkE elAlg := ⟨by show 48 < 256; decide, by show 48 % 32 ≠ 31; decide, by show (wr1 6 (oidS oidA)).size ≤ _; rw [oidA_enc]; exact of_decide_eq_true rfl, rfl⟩
theorem bitE_ok {k : KeyT} (h : keyEE k = 0) : OkE (elBit k) := ⟨by show 3 < 256; decide, by show 3 % 32 ≠ 31; decide, by show (strOf [0] ++ rawK k).size ≤ _; rw [ByteArray.size_append, rawK_size h]; exact of_decide_eq_true rfl, rfl⟩
theorem inK_size {k : KeyT} (h : keyEE k = 0) : (inK k).size = 50 := by
  have e : (inK k).size = algS.data.toList.length + (wr1 3 (strOf [0] ++ rawK k)).data.toList.length := List.length_append
  have h1 : algS.data.toList.length = 14 := algS_size
  have h2 := wr1_list (t := 3) (c := strOf [0] ++ rawK k) (by decide) (by decide) (bitE_ok h).2.2.1
  have h3 : (strOf [0] ++ rawK k).data.toList.length = 34 := by
    show (strOf [0] ++ rawK k).size = 34
    rw [ByteArray.size_append, rawK_size h]; rfl
  rw [e, h1, show ((3 : Nat) : Int) = 3 from rfl] at *
  rw [h2]
  unfold wrapL
  rw [h3, List.length_cons, List.length_append, h3]
  rfl
theorem encK_size {k : KeyT} (h : keyEE k = 0) : (encK k).size = 52 := by
  have h2 := wr1_list (t := 48) (c := inK k) (by decide) (by decide) (by rw [inK_size h]; decide)
  have e : (encK k).size = (wr1 ((48 : Nat) : Int) (inK k)).data.toList.length := by rw [← encK_wr]; rfl
  have h3 : (inK k).data.toList.length = 50 := inK_size h
  rw [e, h2]
  unfold wrapL
  rw [h3, List.length_cons, List.length_append, h3]
  rfl
theorem dec_encK {k : KeyT} (h : keyEE k = 0) : decK (encK k) = (0, k) := by
  obtain ⟨h1, e1, e2⟩ := read_one (b := encK k) (c := inK k) (by rw [inK_size h]; decide) (encK_wr k)
  have hl : lst (inK k) = ([elAlg, elBit k], 0) := lst_els [elAlg, elBit k] (fun e hm => by
    rcases List.mem_cons.1 hm with rfl | hm
    · exact algE_ok
    · rw [List.mem_singleton.1 hm]; exact bitE_ok h) _ (by unfold raws; simp [elAlg, elBit, inK])
  unfold decK
  rw [h1, e1, e2, hl, if_neg (by simp), if_neg (by simp), if_neg (by simp)]
  rw [keyL_two]
  unfold elAlg elBit
  have hc : chkAlg ((48 : Nat) : Int) (wr1 6 (oidS oidA)) = 0 := chkAlg_ok
  simp only [hc, keyB_raw h]
  simp
theorem algL_ok {L : List El} (h : algL L = 0) : ∃ x : El, L = [x] ∧ x.1 = 6 ∧ oidD x.2.1 = some oidA := by
  match L, h with
  | [], h => cases h
  | x :: r, h =>
    rw [algL_cons] at h
    by_cases h1 : x.1 ≠ 6
    · rw [if_pos h1] at h; cases h
    · rw [if_neg h1] at h
      cases ho : oidD x.2.1 with
      | none => rw [ho] at h; cases h
      | some id =>
        rw [ho] at h
        simp only at h
        by_cases h2 : id ≠ oidA ∨ r ≠ []
        · rw [if_pos h2] at h; cases h
        · have h3 : id = oidA := Decidable.not_not.1 fun k => h2 (.inl k)
          have h4 : r = [] := Decidable.not_not.1 fun k => h2 (.inr k)
          exact ⟨x, by rw [h4], by omega, by rw [ho, h3]⟩
/-- An element of which CheckAlgorithm finds nothing wrong is the algorithm. -/
theorem alg_back {e : El} (he : OkE e) (h : chkAlg (e.1 : Int) e.2.1 = 0) : e.2.2 = algS := by
  unfold chkAlg at h
  by_cases h1 : (e.1 : Int) ≠ 48
  · rw [if_pos h1] at h; cases h
  · rw [if_neg h1] at h
    by_cases h2 : (lst e.2.1).2 ≠ 0
    · rw [if_pos h2] at h; exact absurd h h2
    · rw [if_neg h2] at h
      obtain ⟨x, hx, h6, ho⟩ := algL_ok h
      obtain ⟨k1, k2⟩ := els_lst _ e.2.1 (lst e.2.1).1 (Nat.le_refl _) (by rw [← show (lst e.2.1).2 = 0 by omega])
      rw [hx] at k1 k2
      obtain ⟨_, _, _, k3⟩ := k1 x List.mem_cons_self
      have hid := (oid_back ho).1
      have hc : e.2.1 = x.2.2 := by
        apply list_inj
        rw [k2]
        unfold raws
        simp
      have h48 : e.1 = 48 := by omega
      rw [he.2.2.2, hc, k3, h6, ← hid, h48]
      rfl
theorem enc_decK {b : ByteArray} {k : KeyT} (h : decK b = (0, k)) : keyEE k = 0 ∧ encK k = b := by
  unfold decK at h
  by_cases h1 : oneErr b ≠ 0
  · rw [if_pos h1] at h; exact absurd (Prod.mk.inj h).1 h1
  · rw [if_neg h1] at h
    by_cases h2 : rdTag b ≠ 48
    · rw [if_pos h2] at h; cases (Prod.mk.inj h).1
    · rw [if_neg h2] at h
      by_cases h3 : (lst (rdContent b)).2 ≠ 0
      · rw [if_pos h3] at h; exact absurd (Prod.mk.inj h).1 h3
      · rw [if_neg h3] at h
        obtain ⟨k1, k2⟩ := els_lst _ (rdContent b) (lst (rdContent b)).1 (Nat.le_refl _) (by rw [← show (lst (rdContent b)).2 = 0 by omega])
        generalize (lst (rdContent b)).1 = L at h k1 k2
        match L, h with
        | [], h => unfold keyL at h; cases (Prod.mk.inj h).1
        | [x], h =>
          rw [keyL_one] at h
          by_cases h4 : chkAlg (x.1 : Int) x.2.1 ≠ 0
          · rw [if_pos h4] at h; exact absurd (Prod.mk.inj h).1 h4
          · rw [if_neg h4] at h; cases (Prod.mk.inj h).1
        | x :: y :: q, h =>
          rw [keyL_two] at h
          by_cases h4 : chkAlg (x.1 : Int) x.2.1 ≠ 0
          · rw [if_pos h4] at h; exact absurd (Prod.mk.inj h).1 h4
          · rw [if_neg h4] at h
            by_cases h5 : y.1 ≠ 3
            · rw [if_pos h5] at h; cases (Prod.mk.inj h).1
            · rw [if_neg h5] at h
              by_cases h6 : (keyB y.2.1).1 ≠ 0
              · rw [if_pos h6] at h; exact absurd (Prod.mk.inj h).1 h6
              · rw [if_neg h6] at h
                by_cases h7 : q ≠ []
                · rw [if_pos h7] at h; cases (Prod.mk.inj h).1
                · rw [if_neg h7] at h
                  obtain rfl := (Prod.mk.inj h).2.symm
                  have hq : q = [] := Decidable.not_not.1 h7
                  subst hq
                  obtain ⟨b1, b2⟩ := keyB_ok (c := y.2.1) (k := (keyB y.2.1).2) (by rw [← show (keyB y.2.1).1 = 0 by omega])
                  refine ⟨b1, ?_⟩
                  have ex := alg_back (k1 x List.mem_cons_self) (by omega)
                  obtain ⟨_, _, _, ey⟩ := k1 y (List.mem_cons_of_mem _ List.mem_cons_self)
                  obtain ⟨_, w2⟩ := wrap_one (b := b) (by omega)
                  have he := oneErr_rd (show oneErr b = 0 by omega)
                  obtain ⟨p1, _⟩ := rd_parts he
                  have p3 : rdRaw b = wr1 ((rdTag b : Nat) : Int) (rdContent b) := p1.2.2.2
                  rw [w2, show rdTag b = 48 by omega] at p3
                  rw [p3]
                  show wrapStr 48 _ = wrapStr 48 _
                  congr 1
                  rw [k2]
                  unfold raws
                  simp only [List.map_cons, List.map_nil, List.flatten_cons, List.flatten_nil, List.append_nil]
                  rw [ex, ey, show y.1 = 3 by omega, ← b2]
                  rfl
end Go.Proofs.YtpmlkofceidnjaaDoor
namespace Go.Proofs.YtpmlkofceidnjaaDoor
open Go.RowKit

theorem kcell3 {w : World} {g : Nat} {a b c : Value} {t : TypeId} (h : w.heap[g]? = some (.cells #[a, b, c] t (0, 0))) : w.cell? ⟨g, 0, none⟩ = some a ∧ w.cell? ⟨g, 1, none⟩ = some b ∧ w.cell? ⟨g, 2, none⟩ = some c ∧ g < w.heap.size :=
  ⟨by rw [Lib.cell_of_heap h]; rfl, by rw [Lib.cell_of_heap h]; rfl, by rw [Lib.cell_of_heap h]; rfl, (Array.getElem?_eq_some_iff.1 h).1⟩
theorem bx2a (V : World) (x y : ByteArray) (T : TypeId) : (V.alloc (.cells #[.string x, .string y] T)).cell? ⟨V.heap.size, 0, none⟩ = some (.string x) := by rw [Lib.cell_of_heap (heap_alloc_new V _)]; rfl
theorem bx2b (V : World) (x y : ByteArray) (T : TypeId) : (V.alloc (.cells #[.string x, .string y] T)).cell? ⟨V.heap.size, 1, none⟩ = some (.string y) := by rw [Lib.cell_of_heap (heap_alloc_new V _)]; rfl
theorem beq_strk (x y : ByteArray) : (x.toList == y.toList) = decide (x = y) := by
  rw [Bool.eq_iff_iff, beq_iff_eq, decide_eq_true_iff, Lib.toList_data, Lib.toList_data]
  exact ⟨fun h => list_inj h, fun h => by rw [h]⟩
end Go.Proofs.YtpmlkofceidnjaaDoor
namespace Go.Proofs.YtpmlkofceidnjaaDoor
open Go.RowKit

def seedS (k : Nat) : ByteArray := shaStr (cat_z [⟨#[115, 101, 101, 100]⟩, strOf (b4 k)])
theorem seedS_size (k : Nat) : (seedS k).size = 32 := shaStr_size _
theorem cat_pairq (a b : ByteArray) : (cat_z [a, b]).length = a.size + b.size := by
  simp [cat_z]

set_option maxRecDepth 100000 in
set_option maxHeartbeats 1000000 in
theorem seedq_any (k : Nat) (hk : k < 4294967296) (w : World) :
    Calls Tryd.prog 10 #[.int .i64 (k : Int)] w fun e w' => e = .returned (.string (seedS k)) ∧ Below w.heap.size w w' := by
  have HK := Lib.hid hk
  obtain ⟨S, hS⟩ : ∃ S, S = seedS k := ⟨_, rfl⟩
  have HSM : Hid (∀ (V : Value) (W : World), Reads_z W V [⟨#[115, 101, 101, 100]⟩, strOf (b4 k)] → Calls Tryd.prog 24 #[V] W fun e w' => e = .returned (.string S) ∧ Below W.heap.size W w') := Lib.hid fun V W h => by
    rw [hS]
    exact refsum_any V _ W h (show (2 : Nat) < 4611686018427387904 by decide) (by rw [cat_pairq]; show 4 + 4 ≤ 1099511627776; omega)
  rw [← hS]
  clear hk hS
  go_enter Tryd.func10, Tryd.ntmps10
  go_wp2_with (first | (go_at_call 25; (with_reducible refine (rb4_any k HK.out _).mono ?_); rintro e w1 ⟨rfl, hb1⟩; have HB1 := Lib.hid hb1; clear hb1) | (go_at_call 24; refine (HSM.out _ _ (reads_row _ [⟨#[115, 101, 101, 100]⟩, strOf (b4 k)] 9)).mono ?_; rintro e w2 ⟨rfl, hb2⟩; have HB2 := Lib.hid ((HB1.out.alloc HB1.out.size _).next hb2); clear hb2))
  go_ret
  exact ⟨rfl, HB2.out⟩
end Go.Proofs.YtpmlkofceidnjaaDoor
namespace Go.Proofs.YtpmlkofceidnjaaDoor
open Go.RowKit

theorem DeckAt.aside {w w' : World} {p q : Nat} {a : Option Addr} {cap : Nat} {zs : List Int} {k : Nat} (h : DeckAt w p a cap zs k) (hb : But q w w') (hq : p < q) (hs : q ≤ w.heap.size) : DeckAt w' p a cap zs k := by
  obtain ⟨h1, h2, h3, h4, h5⟩ := h
  have hp := (Array.getElem?_eq_some_iff.1 h1).1
  exact ⟨(hb.block p hp (by simp; omega)).trans h1, h2.below (hb.below hs) (fun x e hz => by have := h3 x e hz; omega), h3, h4, h5⟩
theorem next50k (p : Nat) (a : Option Addr) (cap : Nat) (zs : List Int) (k : Nat) (w : World) (h : DeckAt w p a cap zs k) (hk2 : k < 30000) :
    Calls Tryd.prog 11 #[.pointer (some ⟨p, 0, none⟩), .int .i64 50] w fun e w' => ∃ r k' : Nat, r < 50 ∧ e = .returned (.int .i64 (r : Int)) ∧ DeckAt w' p a cap zs k' ∧ k' ≤ k + 1 ∧ But p w w' :=
  next_any p a cap zs k 50 w h hk2 (by omega) (by omega)
theorem next9k (p : Nat) (a : Option Addr) (cap : Nat) (zs : List Int) (k : Nat) (w : World) (h : DeckAt w p a cap zs k) (hk2 : k < 30000) :
    Calls Tryd.prog 11 #[.pointer (some ⟨p, 0, none⟩), .int .i64 9] w fun e w' => ∃ r k' : Nat, r < 9 ∧ e = .returned (.int .i64 (r : Int)) ∧ DeckAt w' p a cap zs k' ∧ k' ≤ k + 1 ∧ But p w w' :=
  next_any p a cap zs k 9 w h hk2 (by omega) (by omega)
theorem kRes1 {fn : Func} {p : Tmp} (h : fn.results = #[.cell p 26]) (tmps : Array Value) (w : World) (g : Nat) (x y z : Value)
    (hp : tmps.getD p undef = .pointer (some ⟨g, 0, none⟩)) (hg : w.heap[g]? = some (.cells #[x, y, z] 26 (0, 0))) :
    (results fn tmps).run Tryd.prog w = .ok (.agg #[x, y, z]) w :=
  results_cell_row h tmps w g 26 #[x, y, z] (0, 0) _ hp hg Tryd.underlying26 rfl (by kernel_rfl)
/-- The key of a seed and a height. -/
def madeK (S : ByteArray) (h : Nat) : KeyT := ((h : Int), S.extract 0 16, S.extract 16 32)
theorem madeK_ok {S : ByteArray} {h : Nat} (hS : S.size = 32) (hh : h ≤ 8) : keyEE (madeK S h) = 0 := by
  unfold keyEE keyE madeK
  exact if_pos ⟨by simp, by simp; omega, by simp only [ByteArray.size_extract]; omega, by simp only [ByteArray.size_extract]; omega⟩
set_option maxRecDepth 100000 in
set_option maxHeartbeats 2000000 in
theorem keyq_any (p : Nat) (a : Option Addr) (cap : Nat) (zs : List Int) (kd : Nat) (w : World) (h : DeckAt w p a cap zs kd) (hkd : kd < 29990) :
    Calls Tryd.prog 5 #[.pointer (some ⟨p, 0, none⟩)] w fun e w' => ∃ (k : KeyT) (k' : Nat), keyEE k = 0 ∧ e = .returned (keyVV k) ∧ DeckAt w' p a cap zs k' ∧ k' ≤ kd + 2 ∧ But p w w' := by
  obtain ⟨g, hg⟩ : ∃ g, g = w.heap.size := ⟨_, rfl⟩
  obtain ⟨W1, hW1⟩ : ∃ W1, W1 = w.alloc (.cells #[.int .i64 0, .string ⟨#[]⟩, .string ⟨#[]⟩] 26) := ⟨_, rfl⟩
  have hb1 : Below w.heap.size w W1 := by rw [hW1]; exact belowNew w _
  have HQ1 : Hid (W1.heap[g]? = some (.cells #[.int .i64 0, .string ⟨#[]⟩, .string ⟨#[]⟩] 26 (0, 0))) := Lib.hid (by rw [hW1, hg]; exact heap_alloc_new w _)
  have HD1 := Lib.hid (h.below hb1)
  have HU1 := Lib.hid (show But p w W1 from But.of hb1)
  have HPG : Hid (p < g) := Lib.hid (by rw [hg]; exact (Array.getElem?_eq_some_iff.1 h.1).1)
  have HKD := Lib.hid hkd
  have HW1 := Lib.hid hW1.symm
  have HG := Lib.hid hg
  clear hg hW1 hb1 h hkd
  go_enter Tryd.func5, Tryd.ntmps5
  go_wp2_with (first
    | (go_at_call 11
       rw [HW1.out, ← HG.out]
       (with_reducible refine (next50k p a cap zs kd _ HD1.out (by have := HKD.out; omega)).mono ?_)
       rintro e w2 ⟨r, k2, hr, rfl, hd2, hk2, hb2⟩
       have HD2 := Lib.hid hd2
       have HK2 := Lib.hid hk2
       have HR := Lib.hid hr
       have HQ2 := Lib.hid ((hb2.block g (Array.getElem?_eq_some_iff.1 HQ1.out).1 (by have := HPG.out; simp; omega)).trans HQ1.out)
       have HU2 := Lib.hid (HU1.out.next hb2)
       clear hd2 hk2 hr hb2)
    | (go_at_call 10
       (with_reducible refine (seedq_any r (by have := HR.out; omega) _).mono ?_)
       rintro e w3 ⟨rfl, hb3⟩
       have HD3 := Lib.hid (HD2.out.below hb3)
       have HQ3 := Lib.hid ((hb3.block g (Array.getElem?_eq_some_iff.1 HQ2.out).1).trans HQ2.out)
       have HU3 := Lib.hid (HU2.out.next (But.of hb3))
       clear hb3))
  obtain ⟨S, hS⟩ : ∃ S, S = seedS r := ⟨_, rfl⟩
  have hSs : S.size = 32 := by rw [hS]; exact seedS_size r
  rw [← hS]
  obtain ⟨i1, hi1⟩ : ∃ i1, i1 = S.extract 0 16 := ⟨_, rfl⟩
  obtain ⟨i2, hi2⟩ : ∃ i2, i2 = S.extract 16 32 := ⟨_, rfl⟩
  have hx1 : S.extract 0 16 = i1 := hi1.symm
  have hx2 : S.extract 16 S.size = i2 := by rw [hSs]; exact hi2.symm
  have hsi : (S.size : Int) = 32 := by omega
  have HKK : Hid (∀ n : Nat, n < 9 → keyEE ((n : Int), i1, i2) = 0) := Lib.hid fun n hn => by rw [hi1, hi2]; exact madeK_ok hSs (by omega)
  clear hS hi1 hi2 hSs
  have HDD := Lib.hid (show DeckAt w3.drew p a cap zs k2 from HD3.out)
  go_region_law (first
    | (go_simp; go_at_call 11
       (with_reducible refine (next9k p a cap zs k2 _ HDD.out (by have := HKD.out; have := HK2.out; omega)).mono ?_)
       rintro e w4 ⟨n, k4, hn, rfl, hd4, hk4, hb4⟩
       have hb4 : But p w3 w4 := But.next (But.of (Below.refl _ _).drew) hb4
       have hq4 := (hb4.block g (Array.getElem?_eq_some_iff.1 HQ3.out).1 (by have := HPG.out; simp; omega)).trans HQ3.out
       have HD4 := Lib.hid hd4
       have HK4 := Lib.hid hk4
       have HN := Lib.hid hn
       have HU4 := Lib.hid (HU3.out.next hb4)
       have HQ4 := Lib.hid hq4
       obtain ⟨c0, c1, c2, f0, f1, f2, gl⟩ := el_facts hq4
       clear hb4 hd4 hk4 hn hq4))
  all_goals
    have hB := ((But.set g 0 w4 (.int .i64 (n : Int))).next (But.set g 1 _ (.string i1))).next (But.set g 2 _ (.string i2))
    have HDF := Lib.hid (HD4.out.aside hB HPG.out (Nat.le_of_lt gl))
    have HUF := Lib.hid (HU4.out.fresh hB (by rw [HG.out]; exact Nat.le_refl _))
    clear hB
    go_wp2_with fail
    exact bodyPost_ret (kRes1 rfl _ _ _ _ _ _ rfl (el_set HQ4.out)) rfl ⟨((n : Int), i1, i2), k4, HKK.out n HN.out, rfl, HDF.out, by have := HK2.out; have := HK4.out; omega, HUF.out⟩
end Go.Proofs.YtpmlkofceidnjaaDoor
namespace Go.Proofs.YtpmlkofceidnjaaDoor
open Go.RowKit

def AlgPk : Prop := ∀ (w : World), Calls Tryd.prog 16 #[] w fun e w' => e = .returned (.string algS) ∧ Below w.heap.size w w'
def ChkPk : Prop := ∀ (t : Int) (c r : ByteArray) (w : World), c.size ≤ 1000000 → Pow10 w → Calls Tryd.prog 49 #[.agg #[.int .i64 t, .string c, .string r]] w fun e w' => e = .returned (.int .i64 ((chkAlg t c : Nat) : Int)) ∧ Below w.heap.size w w'
def EncPk : Prop := ∀ (k : KeyT) (w : World), Calls Tryd.prog 6 #[keyVV k] w fun e w' => e = .returned (encKV k) ∧ Below w.heap.size w w'
def DecPk : Prop := ∀ (b : ByteArray) (w : World), b.size ≤ 1000000 → Pow10 w → Calls Tryd.prog 7 #[.string b] w fun e w' => e = .returned (decKV b) ∧ Below w.heap.size w w'
theorem key_new (w : World) (x y z : Value) : (w.alloc (.cells #[x, y, z] 26)).heap[w.heap.size]? = some (.cells #[x, y, z] 26 (0, 0)) := heap_alloc_new w _
theorem encKV_ok {k : KeyT} (h : keyEE k = 0) : encKV k = .tuple #[.string (encK k), .int .i64 0] := if_pos h
theorem decKV_enc {k : KeyT} (h : keyEE k = 0) : decKV (encK k) = .tuple #[keyVV k, .int .i64 0] := by unfold decKV; rw [dec_encK h]; rfl
set_option maxRecDepth 100000 in
set_option maxHeartbeats 2000000 in
theorem awakek_any (hA : AlgPk) (hE : EncPk) (hD : DecPk) (w : World) (hP : Pow10 w) :
    Calls Tryd.prog 9 #[] w fun e w' => e = .returned (.bool true) ∧ Below w.heap.size w w' := by
  have hL : ILies (w.alloc (.cells #[.int .i64 1, .int .i64 3] 3)) (some ⟨w.heap.size, 0, none⟩) [1, 3] := .inr ⟨w.heap.size, 0, rfl, fun i hi => by
    rw [Nat.zero_add]
    exact row_ints w [1, 3] i hi⟩
  have HND : Hid (Calls Tryd.prog 4 #[.slice (some ⟨w.heap.size, 0, none⟩) 2 2] (w.alloc (.cells #[.int .i64 1, .int .i64 3] 3)) fun e w' => e = .returned (.pointer (some ⟨w.heap.size + 1, 0, none⟩)) ∧ DeckAt w' (w.heap.size + 1) (some ⟨w.heap.size, 0, none⟩) 2 [1, 3] 0 ∧ Below (w.heap.size + 1) (w.alloc (.cells #[.int .i64 1, .int .i64 3] 3)) w') := Lib.hid (by
    have h1 := new_any (some ⟨w.heap.size, 0, none⟩) 2 [1, 3] _ hL (by decide)
    rw [show (w.alloc (.cells #[.int .i64 1, .int .i64 3] 3)).heap.size = w.heap.size + 1 by simp] at h1
    exact h1)
  have HP := Lib.hid hP
  have HEN := Lib.hid hE
  have HDE := Lib.hid hD
  have HAL := Lib.hid hA
  have HAS := Lib.hid algS_size
  clear hL hP hE hD hA
  obtain ⟨A, hAA⟩ : ∃ A, A = algS := ⟨_, rfl⟩
  have HAL2 : Hid (∀ W : World, Calls Tryd.prog 16 #[] W fun e w' => e = .returned (.string A) ∧ Below W.heap.size W w') := Lib.hid fun W => by rw [hAA]; exact HAL.out W
  have hAs : (A.size : Int) = 14 := by rw [hAA, HAS.out]; rfl
  clear hAA HAS HAL
  go_enter Tryd.func9, Tryd.ntmps9
  go_wp2_with (first
    | (go_at_call 4
       (with_reducible refine HND.out.mono ?_)
       rintro e w1 ⟨rfl, hd1, hb1⟩
       have HD1 := Lib.hid hd1
       have HB1 : Hid (Below w.heap.size w w1) := Lib.hid ((belowNew w _).trans (hb1.mono (by omega)))
       clear hd1 hb1)
    | (go_at_call 5
       (with_reducible refine (keyq_any (w.heap.size + 1) _ _ _ 0 _ HD1.out (by omega)).mono ?_)
       rintro e w2 ⟨k, k', hk, rfl, _, _, hb2⟩
       have HB2 : Hid (Below w.heap.size w w2) := Lib.hid (HB1.out.trans ((hb2.below (Nat.le_of_lt (Array.getElem?_eq_some_iff.1 HD1.out.1).1)).mono (by omega)))
       have he := encKV_ok hk
       have hdd := decKV_enc hk
       have hz := encK_size hk
       have HE3 := Lib.hid (fun W => HEN.out k W)
       obtain ⟨X, hX⟩ : ∃ X, X = encK k := ⟨_, rfl⟩
       rw [← hX] at he hdd hz
       rw [he] at HE3
       have HD3 := Lib.hid (fun W h => HDE.out X W (by omega) h)
       rw [hdd] at HD3
       have hzi : (X.size : Int) = 52 := by omega
       obtain ⟨h, id, root⟩ := k
       unfold keyVV keyV at HE3 HD3 ⊢
       simp only at HE3 HD3 ⊢
       have hn2 := key_new w2 (.int .i64 h) (.string id) (.string root)
       have HN2 := Lib.hid hn2
       obtain ⟨c0, c1, c2, _⟩ := kcell3 hn2
       clear hX he hdd hz hk hb2 hn2)
    | (go_at_call 6
       (with_reducible refine (HE3.out _).mono ?_)
       rintro e w3 ⟨rfl, hb3⟩
       have HB3 := Lib.hid (below_next HB2.out (below_next (belowNew _ _) hb3))
       have HQ3 := Lib.hid ((hb3.block w2.heap.size (Array.getElem?_eq_some_iff.1 HN2.out).1).trans HN2.out)
       clear hb3 c0 c1 c2)
    | (go_at_call 7
       (with_reducible refine (HD3.out _ (HP.out.below HB3.out)).mono ?_)
       rintro e w4 ⟨rfl, hb4⟩
       have HB4 := Lib.hid (below_next HB3.out hb4)
       have hq4 := (hb4.block w2.heap.size (Array.getElem?_eq_some_iff.1 HQ3.out).1).trans HQ3.out
       have hl4 := (Array.getElem?_eq_some_iff.1 hq4).1
       have hn4 := key_new w4 (.int .i64 h) (.string id) (.string root)
       obtain ⟨a0, a1, a2, _⟩ := kcell3 hn4
       obtain ⟨b0, b1, b2, _⟩ := kcell3 (((belowNew w4 (.cells #[.int .i64 h, .string id, .string root] 26)).block w2.heap.size hl4).trans hq4)
       clear hb4 hq4 hl4 hn4)
    | (go_at_call 16
       (with_reducible refine (HAL2.out _).mono ?_)
       rintro e w5 ⟨rfl, hb5⟩
       have HB5 := Lib.hid (below_next HB4.out (below_next (belowNew _ _) hb5))
       clear hb5))
  go_ret
  exact ⟨rfl, HB5.out⟩
end Go.Proofs.YtpmlkofceidnjaaDoor
