/-
  Keys as bytes: what Algorithm, CheckAlgorithm, Encode, Decode and Identifier answer; encoding and decoding undo each other. Nothing is claimed of the program here.
  The contracts of the reference's Algorithm, raw, EncodeKey and Identifier.
  The contracts of the law package's small functions: seeds, ids and digests of the right size.
  The contract of certpathmade's Key: a key that there may be; and what is wanted of the program's keyinfo, as propositions.
  What is wanted of the program's keyinfo, as propositions; and the contract of the law package's sanity check over them.
-/
import Derived.Test.YtpmlkofceidnjaaGreatDoorAak
import Derived.Test.YtpmlkofceidnjaaGreatDoorAao
import Derived.Test.YtpmlkofceidnjaaGreatDoorAai
import Derived.Deep.RegionHeld3
import Derived.Test.YtpmlkofceidnjaaGreatDoorAaj
import Derived.Deep.RegionLaw
namespace Go.Proofs.YtpmlkofceidnjaaGreatDoor
open Go.RowKit

/-! ### The algorithm -/
/-- The text of the algorithm's object identifier, and its arcs. -/
def oidA : ByteArray := ⟨#[49, 46, 51, 46, 54, 46, 49, 46, 52, 46, 49, 46, 53, 56, 56, 56, 56, 46, 49, 46, 49]⟩
def arcA : List Nat := [1, 3, 6, 1, 4, 1, 58888, 1, 1]
theorem dd_of (l : List UInt8) (n : Nat) (h0 : l ≠ []) (h1 : ∀ c ∈ l, 48 ≤ c.toNat ∧ c.toNat ≤ 57) (h2 : l.head? = some 48 → l.length = 1) (hn : dval l = n) : Lib.decDigits n = l := by
  rw [← hn]
  exact (dec_of l h0 h1 h2).symm
theorem oidA_txt : oidA.data.toList = txt arcA := by
  have d1 : Lib.decDigits 1 = [49] := dd_of _ _ (by decide) (by decide) (by decide) (by decide)
  have d3 : Lib.decDigits 3 = [51] := dd_of _ _ (by decide) (by decide) (by decide) (by decide)
  have d4 : Lib.decDigits 4 = [52] := dd_of _ _ (by decide) (by decide) (by decide) (by decide)
  have d6 : Lib.decDigits 6 = [54] := dd_of _ _ (by decide) (by decide) (by decide) (by decide)
  have d8 : Lib.decDigits 58888 = [53, 56, 56, 56, 56] := dd_of _ _ (by decide) (by decide) (by decide) (by decide)
  unfold arcA
  simp only [txt, d1, d3, d4, d6, d8]
  rfl
theorem oidA_oid : Oid oidA.data.toList arcA := by
  rw [oidA_txt]
  exact oid_of ⟨by decide, by decide, by decide, by decide, by decide⟩
theorem e128_small {n : Nat} (h : n < 128) : e128 n = [UInt8.ofNat n] := by
  unfold e128
  rw [Nat.div_eq_of_lt h, Nat.mod_eq_of_lt h, hd7_zero]
  rfl
theorem e128_big : e128 58888 = [131, 204, 8] := by
  unfold e128
  rw [hd7_pos (by decide), hd7_pos (by decide), show 58888 / 128 / 128 / 128 = 0 by decide, hd7_zero]
  rfl
theorem oidA_enc : oidS oidA = strOf [43, 6, 1, 4, 1, 131, 204, 8, 1, 1] := by
  rw [oidS_yes oidA_oid]
  congr 1
  unfold enc
  rw [show numsOf arcA = [43, 6, 1, 4, 1, 58888, 1, 1] from rfl]
  simp only [cat, e128_big, e128_small (n := 43) (by decide), e128_small (n := 6) (by decide), e128_small (n := 1) (by decide), e128_small (n := 4) (by decide)]
  rfl
/-- The whole element of the algorithm. -/
noncomputable def algS : ByteArray := wr1 48 (wr1 6 (oidS oidA))
theorem algS_eq : algS = strOf [48, 12, 6, 10, 43, 6, 1, 4, 1, 131, 204, 8, 1, 1] := by
  unfold algS
  rw [oidA_enc]
  rfl
theorem algS_size : algS.size = 14 := by rw [algS_eq]; rfl
/-- What CheckAlgorithm answers. -/
noncomputable def algL : List El → Nat
  | [] => 3
  | x :: r => if x.1 ≠ 6 then 5 else match oidD x.2.1 with
    | none => 11
    | some id => if id ≠ oidA ∨ r ≠ [] then 16 else 0
theorem algL_cons (x : El) (r : List El) : algL (x :: r) = if x.1 ≠ 6 then 5 else match oidD x.2.1 with
    | none => 11
    | some id => if id ≠ oidA ∨ r ≠ [] then 16 else 0 := rfl
noncomputable def chkAlg (t : Int) (c : ByteArray) : Nat := if t ≠ 48 then 5 else if (lst c).2 ≠ 0 then (lst c).2 else algL (lst c).1

/-! ### Keys -/
abbrev KeyT := Int × ByteArray × ByteArray
def nok : KeyT := (0, ⟨#[]⟩, ⟨#[]⟩)
def keyEE (k : KeyT) : Nat := keyE k.1 k.2.1 k.2.2
def keyVV (k : KeyT) : Value := keyV k.1 k.2.1 k.2.2
/-- The bytes of a key. -/
def rawK (k : KeyT) : ByteArray := (strOf (b1 k.1.toNat) ++ k.2.1) ++ k.2.2
noncomputable def encK (k : KeyT) : ByteArray := wr2 48 algS (wr1 3 (strOf [0] ++ rawK k))
noncomputable def encKV (k : KeyT) : Value := if keyEE k = 0 then .tuple #[.string (encK k), .int .i64 0] else .tuple #[.string ⟨#[]⟩, .int .i64 18]
def idenS (k : KeyT) : ByteArray := if keyEE k = 0 then shortStr (rawK k).data.toList else ⟨#[]⟩
/-- The key that the bytes of a bit string are. -/
def keyOf (s : ByteArray) : KeyT := ((u8at s 0 : Int), s.extract 1 17, s.extract 17 33)
def keyB (c : ByteArray) : Nat × KeyT :=
  if bitsErr c ≠ 0 then (7, nok)
  else if bitsNum c ≠ 0 ∨ (bitsStr c).size ≠ 33 then (18, nok)
  else if keyEE (keyOf (bitsStr c)) ≠ 0 then (18, nok)
  else (0, keyOf (bitsStr c))
noncomputable def keyL : List El → Nat × KeyT
  | [] => (3, nok)
  | x :: r => if chkAlg (x.1 : Int) x.2.1 ≠ 0 then (chkAlg (x.1 : Int) x.2.1, nok) else match r with
    | [] => (3, nok)
    | y :: q => if y.1 ≠ 3 then (5, nok) else if (keyB y.2.1).1 ≠ 0 then ((keyB y.2.1).1, nok) else if q ≠ [] then (4, nok) else (0, (keyB y.2.1).2)
theorem keyL_one (x : El) : keyL [x] = if chkAlg (x.1 : Int) x.2.1 ≠ 0 then (chkAlg (x.1 : Int) x.2.1, nok) else (3, nok) := rfl
theorem keyL_two (x y : El) (q : List El) : keyL (x :: y :: q) = if chkAlg (x.1 : Int) x.2.1 ≠ 0 then (chkAlg (x.1 : Int) x.2.1, nok) else if y.1 ≠ 3 then (5, nok) else if (keyB y.2.1).1 ≠ 0 then ((keyB y.2.1).1, nok) else if q ≠ [] then (4, nok) else (0, (keyB y.2.1).2) := rfl
noncomputable def decK (b : ByteArray) : Nat × KeyT :=
  if oneErr b ≠ 0 then (oneErr b, nok) else if rdTag b ≠ 48 then (5, nok) else if (lst (rdContent b)).2 ≠ 0 then ((lst (rdContent b)).2, nok) else keyL (lst (rdContent b)).1
noncomputable def decKV (b : ByteArray) : Value := .tuple #[keyVV (decK b).2, .int .i64 (((decK b).1 : Nat) : Int)]

theorem keyEE_zero {k : KeyT} (h : keyEE k = 0) : 0 ≤ k.1 ∧ k.1 ≤ 8 ∧ k.2.1.size = 16 ∧ k.2.2.size = 16 := by
  unfold keyEE keyE at h
  split at h
  · assumption
  · cases h
theorem keyEE_or (k : KeyT) : keyEE k = 0 ∨ keyEE k = 18 := by
  unfold keyEE keyE
  split
  · exact .inl rfl
  · exact .inr rfl
theorem rawK_list (k : KeyT) : (rawK k).data.toList = UInt8.ofNat (k.1.toNat % 256) :: (k.2.1.data.toList ++ k.2.2.data.toList) := by
  unfold rawK
  rw [str_add, str_add, strOf_list, List.append_assoc]
  rfl
theorem rawK_size {k : KeyT} (h : keyEE k = 0) : (rawK k).size = 33 := by
  obtain ⟨_, _, h1, h2⟩ := keyEE_zero h
  have e : (rawK k).data.toList.length = (rawK k).size := rfl
  rw [← e, rawK_list, List.length_cons, List.length_append]
  have e1 : k.2.1.data.toList.length = k.2.1.size := rfl
  have e2 : k.2.2.data.toList.length = k.2.2.size := rfl
  omega
theorem keyOf_raw {k : KeyT} (h : keyEE k = 0) : keyOf (rawK k) = k := by
  obtain ⟨z0, z8, h1, h2⟩ := keyEE_zero h
  have e1 : k.2.1.data.toList.length = 16 := h1
  have e2 : k.2.2.data.toList.length = 16 := h2
  have hl := rawK_list k
  unfold keyOf
  have a0 : (u8at (rawK k) 0 : Int) = k.1 := by
    rw [u8at_list_t hl]
    show (((UInt8.ofNat (k.1.toNat % 256)).toNat : Nat) : Int) = k.1
    rw [UInt8.toNat_ofNat']
    omega
  have a1 : (rawK k).extract 1 17 = k.2.1 := by
    apply list_inj
    rw [data_extract, hl, List.drop_succ_cons, List.drop_zero, List.take_append_of_le_length (by omega), List.take_of_length_le (by omega)]
  have a2 : (rawK k).extract 17 33 = k.2.2 := by
    apply list_inj
    rw [data_extract, hl, List.drop_succ_cons, ← e1, List.drop_left, List.take_of_length_le (by omega)]
  rw [a0, a1, a2]
/-- The contents of a bit string of these bytes without unused bits. -/
theorem bits_of (s : ByteArray) : bitsErr (strOf [0] ++ s) = 0 ∧ bitsNum (strOf [0] ++ s) = 0 ∧ bitsStr (strOf [0] ++ s) = s := by
  have hl : (strOf [0] ++ s).data.toList = 0 :: s.data.toList := by rw [str_add, strOf_list]; rfl
  have h0 : u8at (strOf [0] ++ s) 0 = 0 := by rw [u8at_list_t hl]; rfl
  have hz : (strOf [0] ++ s).size ≠ 0 := by rw [size_list hl]; simp
  have he : bitsErr (strOf [0] ++ s) = 0 := by
    unfold bitsErr
    rw [h0]
    refine if_neg fun h => ?_
    rcases h with h | h | h
    · exact hz h
    · exact absurd h (by decide)
    · rw [unusedOk_zero] at h; cases h
  refine ⟨he, by unfold bitsNum; rw [if_pos he, h0], ?_⟩
  unfold bitsStr
  rw [if_pos he]
  apply list_inj
  rw [data_extract, hl, List.drop_succ_cons, List.drop_zero]
  refine List.take_of_length_le ?_
  rw [size_list hl, List.length_cons]
  omega
theorem keyB_raw {k : KeyT} (h : keyEE k = 0) : keyB (strOf [0] ++ rawK k) = (0, k) := by
  obtain ⟨h1, h2, h3⟩ := bits_of (rawK k)
  unfold keyB
  rw [h1, h2, h3, keyOf_raw h, rawK_size h, h]
  rfl
/-! ### Encoding and decoding -/
noncomputable def elAlg : El := (48, wr1 6 (oidS oidA), algS)
def elBit (k : KeyT) : El := (3, strOf [0] ++ rawK k, wr1 3 (strOf [0] ++ rawK k))
noncomputable def inK (k : KeyT) : ByteArray := ⟨(algS.data.toList ++ (wr1 3 (strOf [0] ++ rawK k)).data.toList).toArray⟩
theorem encK_wr (k : KeyT) : encK k = wr1 ((48 : Nat) : Int) (inK k) := rfl
theorem oidA_there : oidD (oidS oidA) = some oidA := oid_there (oidB_yes oidA_oid)
theorem chkAlg_ok : chkAlg 48 (wr1 6 (oidS oidA)) = 0 := by
  have hz : (oidS oidA).size = 10 := by rw [oidA_enc]; rfl
  have hl : lst (wr1 6 (oidS oidA)) = ([(6, oidS oidA, wr1 6 (oidS oidA))], 0) := lst_els [(6, oidS oidA, wr1 6 (oidS oidA))] (fun e hm => by
    rw [List.mem_singleton.1 hm]
    exact ⟨by decide, by decide, by show (oidS oidA).size ≤ _; omega, rfl⟩) _ (by unfold raws; simp)
  unfold chkAlg
  rw [if_neg (by simp), hl, if_neg (by simp)]
  show algL [(6, oidS oidA, wr1 6 (oidS oidA))] = 0
  rw [algL_cons, if_neg (by simp)]
  simp only [oidA_there]
  simp
theorem algE_ok : OkE elAlg := ⟨by show 48 < 256; decide, by show 48 % 32 ≠ 31; decide, by show (wr1 6 (oidS oidA)).size ≤ _; rw [oidA_enc]; exact of_decide_eq_true rfl, rfl⟩
theorem bitE_ok {k : KeyT} (h : keyEE k = 0) : OkE (elBit k) := ⟨by show 3 < 256; decide, by show 3 % 32 ≠ 31; decide, by show (strOf [0] ++ rawK k).size ≤ _; rw [ByteArray.size_append, rawK_size h]; exact of_decide_eq_true rfl, rfl⟩
theorem inK_size {k : KeyT} (h : keyEE k = 0) : (inK k).size = 50 := by
  have e : (inK k).size = algS.data.toList.length + (wr1 3 (strOf [0] ++ rawK k)).data.toList.length := List.length_append
  have h1 : algS.data.toList.length = 14 := algS_size
  have h2 := wr1_list (t := 3) (c := strOf [0] ++ rawK k) (by decide) (by decide) (bitE_ok h).2.2.1
  have h3 : (strOf [0] ++ rawK k).data.toList.length = 34 := by
    show (strOf [0] ++ rawK k).size = 34
    rw [ByteArray.size_append, rawK_size h]; rfl
  rw [e, h1, show ((3 : Nat) : Int) = 3 from rfl] at *
  rw [h2]
  unfold wrapL
  rw [h3, List.length_cons, List.length_append, h3]
  rfl
theorem encK_size {k : KeyT} (h : keyEE k = 0) : (encK k).size = 52 := by
  have h2 := wr1_list (t := 48) (c := inK k) (by decide) (by decide) (by rw [inK_size h]; decide)
  have e : (encK k).size = (wr1 ((48 : Nat) : Int) (inK k)).data.toList.length := by rw [← encK_wr]; rfl
  have h3 : (inK k).data.toList.length = 50 := inK_size h
  rw [e, h2]
  unfold wrapL
  rw [h3, List.length_cons, List.length_append, h3]
  rfl
theorem dec_encK {k : KeyT} (h : keyEE k = 0) : decK (encK k) = (0, k) := by
  obtain ⟨h1, e1, e2⟩ := read_one (b := encK k) (c := inK k) (by rw [inK_size h]; decide) (encK_wr k)
  have hl : lst (inK k) = ([elAlg, elBit k], 0) := lst_els [elAlg, elBit k] (fun e hm => by
    rcases List.mem_cons.1 hm with rfl | hm
    · exact algE_ok
    · rw [List.mem_singleton.1 hm]; exact bitE_ok h) _ (by unfold raws; simp [elAlg, elBit, inK])
  unfold decK
  rw [h1, e1, e2, hl, if_neg (by simp), if_neg (by simp), if_neg (by simp)]
  rw [keyL_two]
  unfold elAlg elBit
  have hc : chkAlg ((48 : Nat) : Int) (wr1 6 (oidS oidA)) = 0 := chkAlg_ok
  simp only [hc, keyB_raw h]
  simp
end Go.Proofs.YtpmlkofceidnjaaGreatDoor
namespace Go.Proofs.YtpmlkofceidnjaaGreatDoor
open Go.RowKit

theorem kcell3 {w : World} {g : Nat} {a b c : Value} {t : TypeId} (h : w.heap[g]? = some (.cells #[a, b, c] t (0, 0))) : w.cell? ⟨g, 0, none⟩ = some a ∧ w.cell? ⟨g, 1, none⟩ = some b ∧ w.cell? ⟨g, 2, none⟩ = some c ∧ g < w.heap.size :=
  ⟨by rw [Lib.cell_of_heap h]; rfl, by rw [Lib.cell_of_heap h]; rfl, by rw [Lib.cell_of_heap h]; rfl, (Array.getElem?_eq_some_iff.1 h).1⟩
set_option maxRecDepth 100000 in
set_option maxHeartbeats 1000000 in
theorem ralg_any (w : World) :
    Calls Tryz.prog 18 #[] w fun e w' => e = .returned (.string algS) ∧ Below w.heap.size w w' := by
  obtain ⟨X, hX⟩ : ∃ X, X = wr1 6 (oidS oidA) := ⟨_, rfl⟩
  have HO : Hid (∀ W : World, Calls Tryz.prog 43 #[.string ⟨#[49, 46, 51, 46, 54, 46, 49, 46, 52, 46, 49, 46, 53, 56, 56, 56, 56, 46, 49, 46, 49]⟩] W fun e w' => e = .returned (.string X) ∧ Below W.heap.size W w') := Lib.hid fun W => by rw [hX]; exact roid_any oidA W (by decide)
  have HC : Hid (∀ (g : Nat) (W : World), W.cell? ⟨g, 0, none⟩ = some (.string X) → Calls Tryz.prog 30 #[.int .i64 48, .slice (some ⟨g, 0, none⟩) 1 1] W fun e w' => e = .returned (.string algS) ∧ Below W.heap.size W w') := Lib.hid fun g W h => by
    have h1 := rw1 48 g X W h (by rw [hX]; exact Nat.le_trans (wrapStr_size _ _) (by omega))
    rw [show wr1 48 X = algS by rw [hX]; rfl] at h1
    exact h1
  clear hX
  go_enter Tryz.func18, Tryz.ntmps18
  go_wp2_with (first
    | (go_at_call 43; (with_reducible refine (HO.out _).mono ?_); rintro e w1 ⟨rfl, hb⟩; have HB := Lib.hid hb; clear hb)
    | (go_at_call 30; (with_reducible refine (HC.out _ _ (bx1 _ _ _)).mono ?_); rintro e w2 ⟨rfl, hb⟩; have HB2 := Lib.hid (below_next HB.out (below_next (belowNew _ _) hb)); clear hb))
  go_ret
  exact ⟨rfl, HB2.out⟩
set_option maxRecDepth 100000 in
set_option maxHeartbeats 1000000 in
theorem rraw_any (k : KeyT) (hk : keyEE k = 0) (w : World) :
    Calls Tryz.prog 31 #[keyVV k] w fun e w' => e = .returned (.string (rawK k)) ∧ Below w.heap.size w w' := by
  obtain ⟨z0, z8, zi, zr⟩ := keyEE_zero hk
  obtain ⟨h, id, root⟩ := k
  simp only at z0 z8 zi zr
  obtain ⟨n, rfl⟩ : ∃ n : Nat, h = (n : Int) := ⟨h.toNat, by omega⟩
  obtain ⟨X1, hX1⟩ : ∃ X, X = strOf (b1 n) := ⟨_, rfl⟩
  have h1s : X1.size = 1 := by rw [hX1]; rfl
  obtain ⟨S1, hS1⟩ : ∃ S, S = X1 ++ id := ⟨_, rfl⟩
  have hS1s : S1.size = 17 := by rw [hS1, ByteArray.size_append, h1s, zi]
  obtain ⟨S2, hS2⟩ : ∃ S, S = S1 ++ root := ⟨_, rfl⟩
  have HR : Hid (rawK ((n : Int), id, root) = S2) := Lib.hid (by rw [hS2, hS1, hX1]; rfl)
  have a1 : X1 ++ id = S1 := hS1.symm
  have a2 : S1 ++ root = S2 := hS2.symm
  have z1 : ((X1.size : Nat) : Int) + ((id.size : Nat) : Int) ≤ 9223372036854775807 := by omega
  have z2 : ((S1.size : Nat) : Int) + ((root.size : Nat) : Int) ≤ 9223372036854775807 := by omega
  have y1 : ¬ 9223372036854775807 < X1.size + id.size := by omega
  have y2 : ¬ 9223372036854775807 < S1.size + root.size := by omega
  have HB1 : Hid (∀ W : World, Calls Tryz.prog 53 #[.int .i64 (n : Int)] W fun e w' => e = .returned (.string X1) ∧ Below W.heap.size W w') := Lib.hid fun W => by rw [hX1]; exact rb1_any n (by omega) W
  rw [HR.out]
  unfold keyVV keyV
  obtain ⟨g, hg⟩ : ∃ g, g = w.heap.size := ⟨_, rfl⟩
  obtain ⟨W1, hW1⟩ : ∃ W1, W1 = w.alloc (.cells #[.int .i64 (n : Int), .string id, .string root] 23) := ⟨_, rfl⟩
  have hq1 : W1.heap[g]? = some (.cells #[.int .i64 (n : Int), .string id, .string root] 23 (0, 0)) := by rw [hW1, hg]; exact heap_alloc_new w _
  have HW : Hid (Below w.heap.size w W1) := Lib.hid (by rw [hW1]; exact belowNew w _)
  have HW1 := Lib.hid hW1.symm
  have HG := Lib.hid hg
  obtain ⟨c0, c1, c2, hgl⟩ := kcell3 hq1
  have HGL := Lib.hid hgl
  clear hX1 h1s hS1 hS1s hS2 hk z0 z8 zi zr hW1 hq1 hgl hg
  go_enter Tryz.func31, Tryz.ntmps31
  go_wp2_with fail
  rw [HW1.out, ← HG.out]
  go_region_held3 (fun w' => w'.cell? ⟨g, 0, none⟩ = some (.int .i64 (n : Int)) ∧ w'.cell? ⟨g, 1, none⟩ = some (.string id) ∧ w'.cell? ⟨g, 2, none⟩ = some (.string root)) (first | with_reducible exact ⟨by assumption, by assumption, by assumption⟩ | go_keep)
    (first
      | (go_at_call 53; (with_reducible refine (HB1.out _).mono ?_); rintro e w4 ⟨rfl, hb4⟩; have hx : Below W1.heap.size W1 w4 := (by first | exact hb4 | exact (Below.refl _ _).drew.trans hb4); have s0 := (hx.cell (p := ⟨g, 0, none⟩) HGL.out).trans c0; have s1 := (hx.cell (p := ⟨g, 1, none⟩) HGL.out).trans c1; have s2 := (hx.cell (p := ⟨g, 2, none⟩) HGL.out).trans c2; have HB4 := Lib.hid hx; clear hb4 hx))
  go_wp2_with fail
  go_ret
  exact ⟨rfl, below_next HW.out HB4.out⟩
theorem bx2a (V : World) (x y : ByteArray) (T : TypeId) : (V.alloc (.cells #[.string x, .string y] T)).cell? ⟨V.heap.size, 0, none⟩ = some (.string x) := by rw [Lib.cell_of_heap (heap_alloc_new V _)]; rfl
theorem bx2b (V : World) (x y : ByteArray) (T : TypeId) : (V.alloc (.cells #[.string x, .string y] T)).cell? ⟨V.heap.size, 1, none⟩ = some (.string y) := by rw [Lib.cell_of_heap (heap_alloc_new V _)]; rfl
theorem beq_strk (x y : ByteArray) : (x.toList == y.toList) = decide (x = y) := by
  rw [Bool.eq_iff_iff, beq_iff_eq, decide_eq_true_iff, Lib.toList_data, Lib.toList_data]
  exact ⟨fun h => list_inj h, fun h => by rw [h]⟩
theorem rck_any (k : KeyT) (w : World) :
    Calls Tryz.prog 29 #[keyVV k] w fun e w' => e = .returned (.int .i64 ((keyEE k : Nat) : Int)) ∧ Below w.heap.size w w' := rckey_any k.1 k.2.1 k.2.2 w
set_option maxRecDepth 100000 in
set_option maxHeartbeats 1000000 in
theorem riden_any (k : KeyT) (w : World) :
    Calls Tryz.prog 14 #[keyVV k] w fun e w' => e = .returned (.string (idenS k)) ∧ Below w.heap.size w w' := by
  have HRW := Lib.hid (fun (hk : keyEE k = 0) (W : World) => rraw_any k hk W)
  have HCK := Lib.hid (fun W : World => rck_any k W)
  unfold idenS
  obtain ⟨h, id, root⟩ := k
  unfold keyVV keyV at HRW HCK ⊢
  simp only at HRW HCK ⊢
  obtain ⟨g, hg⟩ : ∃ g, g = w.heap.size := ⟨_, rfl⟩
  obtain ⟨W1, hW1⟩ : ∃ W1, W1 = w.alloc (.cells #[.int .i64 h, .string id, .string root] 23) := ⟨_, rfl⟩
  have hq1 : W1.heap[g]? = some (.cells #[.int .i64 h, .string id, .string root] 23 (0, 0)) := by rw [hW1, hg]; exact heap_alloc_new w _
  have HW : Hid (Below w.heap.size w W1) := Lib.hid (by rw [hW1]; exact belowNew w _)
  have HW1 := Lib.hid hW1.symm
  have HG := Lib.hid hg
  have HQ1 := Lib.hid hq1
  clear hg
  rcases keyEE_or (h, id, root) with hz | hz
  · have HRW2 := Lib.hid (HRW.out hz)
    have HSZ := Lib.hid (rawK_size hz)
    rw [if_pos hz]
    rw [hz] at HCK
    obtain ⟨X, hX⟩ : ∃ X, X = rawK (h, id, root) := ⟨_, rfl⟩
    rw [← hX] at HRW2 HSZ ⊢
    have HSH : Hid (∀ W : World, Calls Tryz.prog 33 #[.slice (some ⟨W.heap.size, 0, none⟩) 1 1] (W.alloc (.cells #[.string X] 9)) fun e w' => e = .returned (.string (shortStr X.data.toList)) ∧ Below (W.alloc (.cells #[.string X] 9)).heap.size (W.alloc (.cells #[.string X] 9)) w') := Lib.hid fun W => by
      have h1 := refshort_any _ _ _ (reads_row W [X] 9) (show (1 : Nat) < 4611686018427387904 by decide) (by show (X.data.toList ++ []).length ≤ _; rw [List.append_nil]; show X.size ≤ _; rw [HSZ.out]; decide)
      rw [show cat_z [X] = X.data.toList by simp [cat_z]] at h1
      exact h1
    clear hX HRW hz hW1 hq1
    go_enter Tryz.func14, Tryz.ntmps14
    go_wp2_with fail
    rw [HW1.out]
    refine (HCK.out _).mono ?_
    rintro e w2 ⟨rfl, hb2⟩
    obtain ⟨c0, c1, c2, hgl⟩ := kcell3 ((hb2.block g (Array.getElem?_eq_some_iff.1 HQ1.out).1).trans HQ1.out)
    have HB2 := Lib.hid (below_next HW.out hb2)
    rw [← HG.out]
    clear hb2
    go_wp2_with (first
      | (go_at_call 31; (with_reducible refine (HRW2.out _).mono ?_); rintro e w3 ⟨rfl, hb3⟩; have HB3 := Lib.hid (below_next HB2.out hb3); clear hb3)
      | (go_at_call 33; (with_reducible refine (HSH.out _).mono ?_); rintro e w4 ⟨rfl, hb4⟩; have HB4 := Lib.hid (below_next HB3.out (below_next (belowNew _ _) hb4)); clear hb4))
    go_ret
    exact ⟨rfl, HB4.out⟩
  · rw [if_neg (by omega)]
    rw [hz] at HCK
    clear HRW hz hW1 hq1
    go_enter Tryz.func14, Tryz.ntmps14
    go_wp2_with fail
    rw [HW1.out]
    refine (HCK.out _).mono ?_
    rintro e w2 ⟨rfl, hb2⟩
    have HB2 := Lib.hid (below_next HW.out hb2)
    clear hb2
    go_wp2_with fail
    go_ret
    exact ⟨rfl, HB2.out⟩
set_option maxRecDepth 100000 in
set_option maxHeartbeats 1000000 in
theorem renck_any (k : KeyT) (w : World) :
    Calls Tryz.prog 12 #[keyVV k] w fun e w' => e = .returned (encKV k) ∧ Below w.heap.size w w' := by
  have HRW := Lib.hid (fun (hk : keyEE k = 0) (W : World) => rraw_any k hk W)
  have HCK := Lib.hid (fun W : World => rck_any k W)
  unfold encKV encK
  obtain ⟨h, id, root⟩ := k
  unfold keyVV keyV at HRW HCK ⊢
  simp only at HRW HCK ⊢
  obtain ⟨g, hg⟩ : ∃ g, g = w.heap.size := ⟨_, rfl⟩
  obtain ⟨W1, hW1⟩ : ∃ W1, W1 = w.alloc (.cells #[.int .i64 h, .string id, .string root] 23) := ⟨_, rfl⟩
  have hq1 : W1.heap[g]? = some (.cells #[.int .i64 h, .string id, .string root] 23 (0, 0)) := by rw [hW1, hg]; exact heap_alloc_new w _
  have HW : Hid (Below w.heap.size w W1) := Lib.hid (by rw [hW1]; exact belowNew w _)
  have HW1 := Lib.hid hW1.symm
  have HG := Lib.hid hg
  have HQ1 := Lib.hid hq1
  clear hg
  rcases keyEE_or (h, id, root) with hz | hz
  · have HRW2 := Lib.hid (HRW.out hz)
    have hsz := rawK_size hz
    rw [if_pos hz]
    rw [hz] at HCK
    obtain ⟨X, hX⟩ : ∃ X, X = rawK (h, id, root) := ⟨_, rfl⟩
    rw [← hX] at HRW2 hsz ⊢
    obtain ⟨C1, hC1⟩ : ∃ C, C = strOf [0] ++ X := ⟨_, rfl⟩
    have hC1s : C1.size = 34 := by rw [hC1, ByteArray.size_append, hsz]; rfl
    rw [← hC1]
    have a1 : (⟨#[0]⟩ : ByteArray) ++ X = C1 := hC1.symm
    have y1 : ¬ 9223372036854775807 < 1 + X.size := by omega
    have z1 : (1 : Int) + ((X.size : Nat) : Int) ≤ 9223372036854775807 := by omega
    obtain ⟨Y, hY⟩ : ∃ Y, Y = wr1 3 C1 := ⟨_, rfl⟩
    obtain ⟨A, hA⟩ : ∃ A, A = algS := ⟨_, rfl⟩
    obtain ⟨Z, hZ⟩ : ∃ Z, Z = wr2 48 A Y := ⟨_, rfl⟩
    have HAL : Hid (∀ W : World, Calls Tryz.prog 18 #[] W fun e w' => e = .returned (.string A) ∧ Below W.heap.size W w') := Lib.hid fun W => by rw [hA]; exact ralg_any W
    have HW3 : Hid (∀ (gg : Nat) (W : World), W.cell? ⟨gg, 0, none⟩ = some (.string C1) → Calls Tryz.prog 30 #[.int .i64 3, .slice (some ⟨gg, 0, none⟩) 1 1] W fun e w' => e = .returned (.string Y) ∧ Below W.heap.size W w') := Lib.hid fun gg W hh => by rw [hY]; exact rw1 3 gg C1 W hh (by omega)
    have HW48 : Hid (∀ (gg : Nat) (W : World), W.cell? ⟨gg, 0, none⟩ = some (.string A) → W.cell? ⟨gg, 1, none⟩ = some (.string Y) → Calls Tryz.prog 30 #[.int .i64 48, .slice (some ⟨gg, 0, none⟩) 2 2] W fun e w' => e = .returned (.string Z) ∧ Below W.heap.size W w') := Lib.hid fun gg W hh kk => by
      rw [hZ]
      refine rw2 48 gg A Y W hh kk ?_
      have h1 : A.size = 14 := by rw [hA]; exact algS_size
      have h2 : Y.size ≤ 131080 := by rw [hY]; exact wrapStr_size _ _
      omega
    rw [← hA, ← hY, ← hZ]
    clear hX HRW hz hW1 hq1 hC1 hC1s hsz hY hA hZ
    go_enter Tryz.func12, Tryz.ntmps12
    go_wp2_with fail
    rw [HW1.out]
    refine (HCK.out _).mono ?_
    rintro e w2 ⟨rfl, hb2⟩
    obtain ⟨c0, c1, c2, hgl⟩ := kcell3 ((hb2.block g (Array.getElem?_eq_some_iff.1 HQ1.out).1).trans HQ1.out)
    have HGL := Lib.hid hgl
    have HB2 := Lib.hid (below_next HW.out hb2)
    rw [← HG.out]
    clear hb2 hgl
    go_wp2_with fail
    go_region_held3 (fun w' => w'.cell? ⟨g, 0, none⟩ = some (.int .i64 h) ∧ w'.cell? ⟨g, 1, none⟩ = some (.string id) ∧ w'.cell? ⟨g, 2, none⟩ = some (.string root)) (first | with_reducible exact ⟨by assumption, by assumption, by assumption⟩ | go_keep)
      (first
        | (go_at_call 18; (with_reducible refine (HAL.out _).mono ?_); rintro e w3 ⟨rfl, hb3⟩; have hx : Below w2.heap.size w2 w3 := (by first | exact hb3 | exact (Below.refl _ _).drew.trans hb3); have s0 := (hx.cell (p := ⟨g, 0, none⟩) HGL.out).trans c0; have s1 := (hx.cell (p := ⟨g, 1, none⟩) HGL.out).trans c1; have s2 := (hx.cell (p := ⟨g, 2, none⟩) HGL.out).trans c2; have HB3 := Lib.hid hx; clear hb3 hx)
        | (go_at_call 31; (with_reducible refine (HRW2.out _).mono ?_); rintro e w4 ⟨rfl, hb4⟩; have hx : Below w2.heap.size w2 w4 := HB3.out.trans (hb4.mono HB3.out.size); have s3 := (hx.cell (p := ⟨g, 0, none⟩) HGL.out).trans c0; have s4 := (hx.cell (p := ⟨g, 1, none⟩) HGL.out).trans c1; have s5 := (hx.cell (p := ⟨g, 2, none⟩) HGL.out).trans c2; have HB4 := Lib.hid hx; clear hb4 hx)
        | (go_at_call 30; (with_reducible refine (HW3.out _ _ (bx1 _ _ _)).mono ?_); rintro e w5 ⟨rfl, hb5⟩; have hx : Below w2.heap.size w2 w5 := HB4.out.trans ((below_next (belowNew _ _) hb5).mono HB4.out.size); have s6 := (hx.cell (p := ⟨g, 0, none⟩) HGL.out).trans c0; have s7 := (hx.cell (p := ⟨g, 1, none⟩) HGL.out).trans c1; have s8 := (hx.cell (p := ⟨g, 2, none⟩) HGL.out).trans c2; have HB5 := Lib.hid hx; clear hb5 hx)
        | (go_at_call 30; (with_reducible refine (HW48.out _ _ (bx2a _ _ _ _) (bx2b _ _ _ _)).mono ?_); rintro e w6 ⟨rfl, hb6⟩; have hx : Below w2.heap.size w2 w6 := HB5.out.trans ((below_next (belowNew _ _) hb6).mono HB5.out.size); have s9 := (hx.cell (p := ⟨g, 0, none⟩) HGL.out).trans c0; have s10 := (hx.cell (p := ⟨g, 1, none⟩) HGL.out).trans c1; have s11 := (hx.cell (p := ⟨g, 2, none⟩) HGL.out).trans c2; have HB6 := Lib.hid hx; clear hb6 hx))
    go_wp2_with fail
    go_ret2
    exact ⟨rfl, below_next HB2.out HB6.out⟩
  · rw [if_neg (by omega)]
    rw [hz] at HCK
    clear HRW hz hW1 hq1
    go_enter Tryz.func12, Tryz.ntmps12
    go_wp2_with fail
    rw [HW1.out]
    refine (HCK.out _).mono ?_
    rintro e w2 ⟨rfl, hb2⟩
    have HB2 := Lib.hid (below_next HW.out hb2)
    clear hb2
    go_wp2_with fail
    go_ret2
    exact ⟨rfl, HB2.out⟩
end Go.Proofs.YtpmlkofceidnjaaGreatDoor
namespace Go.Proofs.YtpmlkofceidnjaaGreatDoor
open Go.RowKit

def seedS (k : Nat) : ByteArray := shaStr (cat_z [⟨#[115, 101, 101, 100]⟩, strOf (b4 k)])
theorem seedS_size (k : Nat) : (seedS k).size = 32 := shaStr_size _
theorem cat_pairq (a b : ByteArray) : (cat_z [a, b]).length = a.size + b.size := by
  simp [cat_z]

set_option maxRecDepth 100000 in
set_option maxHeartbeats 1000000 in
theorem seedq_any (k : Nat) (hk : k < 4294967296) (w : World) :
    Calls Tryz.prog 24 #[.int .i64 (k : Int)] w fun e w' => e = .returned (.string (seedS k)) ∧ Below w.heap.size w w' := by
  have HK := Lib.hid hk
  obtain ⟨S, hS⟩ : ∃ S, S = seedS k := ⟨_, rfl⟩
  have HSM : Hid (∀ (V : Value) (W : World), Reads_z W V [⟨#[115, 101, 101, 100]⟩, strOf (b4 k)] → Calls Tryz.prog 48 #[V] W fun e w' => e = .returned (.string S) ∧ Below W.heap.size W w') := Lib.hid fun V W h => by
    rw [hS]
    exact refsum_any V _ W h (show (2 : Nat) < 4611686018427387904 by decide) (by rw [cat_pairq]; show 4 + 4 ≤ 1099511627776; omega)
  rw [← hS]
  clear hk hS
  go_enter Tryz.func24, Tryz.ntmps24
  go_wp2_with (first | (go_at_call 49; (with_reducible refine (rb4_any k HK.out _).mono ?_); rintro e w1 ⟨rfl, hb1⟩; have HB1 := Lib.hid hb1; clear hb1) | (go_at_call 48; refine (HSM.out _ _ (reads_row _ [⟨#[115, 101, 101, 100]⟩, strOf (b4 k)] 9)).mono ?_; rintro e w2 ⟨rfl, hb2⟩; have HB2 := Lib.hid ((HB1.out.alloc HB1.out.size _).next hb2); clear hb2))
  go_ret
  exact ⟨rfl, HB2.out⟩
end Go.Proofs.YtpmlkofceidnjaaGreatDoor
namespace Go.Proofs.YtpmlkofceidnjaaGreatDoor
open Go.RowKit

theorem DeckAt.aside {w w' : World} {p q : Nat} {a : Option Addr} {cap : Nat} {zs : List Int} {k : Nat} (h : DeckAt w p a cap zs k) (hb : But q w w') (hq : p < q) (hs : q ≤ w.heap.size) : DeckAt w' p a cap zs k := by
  obtain ⟨h1, h2, h3, h4, h5⟩ := h
  have hp := (Array.getElem?_eq_some_iff.1 h1).1
  exact ⟨(hb.block p hp (by simp; omega)).trans h1, h2.below (hb.below hs) (fun x e hz => by have := h3 x e hz; omega), h3, h4, h5⟩
theorem next50k (p : Nat) (a : Option Addr) (cap : Nat) (zs : List Int) (k : Nat) (w : World) (h : DeckAt w p a cap zs k) (hk2 : k < 30000) :
    Calls Tryz.prog 9 #[.pointer (some ⟨p, 0, none⟩), .int .i64 50] w fun e w' => ∃ r k' : Nat, r < 50 ∧ e = .returned (.int .i64 (r : Int)) ∧ DeckAt w' p a cap zs k' ∧ k' ≤ k + 1 ∧ But p w w' :=
  next_any p a cap zs k 50 w h hk2 (by omega) (by omega)
theorem next9k (p : Nat) (a : Option Addr) (cap : Nat) (zs : List Int) (k : Nat) (w : World) (h : DeckAt w p a cap zs k) (hk2 : k < 30000) :
    Calls Tryz.prog 9 #[.pointer (some ⟨p, 0, none⟩), .int .i64 9] w fun e w' => ∃ r k' : Nat, r < 9 ∧ e = .returned (.int .i64 (r : Int)) ∧ DeckAt w' p a cap zs k' ∧ k' ≤ k + 1 ∧ But p w w' :=
  next_any p a cap zs k 9 w h hk2 (by omega) (by omega)
theorem kRes1 {fn : Func} {p : Tmp} (h : fn.results = #[.cell p 23]) (tmps : Array Value) (w : World) (g : Nat) (x y z : Value)
    (hp : tmps.getD p undef = .pointer (some ⟨g, 0, none⟩)) (hg : w.heap[g]? = some (.cells #[x, y, z] 23 (0, 0))) :
    (results fn tmps).run Tryz.prog w = .ok (.agg #[x, y, z]) w :=
  results_cell_row h tmps w g 23 #[x, y, z] (0, 0) _ hp hg Tryz.underlying23 rfl (by kernel_rfl)
/-- The key of a seed and a height. -/
def madeK (S : ByteArray) (h : Nat) : KeyT := ((h : Int), S.extract 0 16, S.extract 16 32)
theorem madeK_ok {S : ByteArray} {h : Nat} (hS : S.size = 32) (hh : h ≤ 8) : keyEE (madeK S h) = 0 := by
  unfold keyEE keyE madeK
  exact if_pos ⟨by simp, by simp; omega, by simp only [ByteArray.size_extract]; omega, by simp only [ByteArray.size_extract]; omega⟩
set_option maxRecDepth 100000 in
set_option maxHeartbeats 2000000 in
theorem keyq_any (p : Nat) (a : Option Addr) (cap : Nat) (zs : List Int) (kd : Nat) (w : World) (h : DeckAt w p a cap zs kd) (hkd : kd < 29990) :
    Calls Tryz.prog 8 #[.pointer (some ⟨p, 0, none⟩)] w fun e w' => ∃ (k : KeyT) (k' : Nat), keyEE k = 0 ∧ e = .returned (keyVV k) ∧ DeckAt w' p a cap zs k' ∧ k' ≤ kd + 2 ∧ But p w w' := by
  obtain ⟨g, hg⟩ : ∃ g, g = w.heap.size := ⟨_, rfl⟩
  obtain ⟨W1, hW1⟩ : ∃ W1, W1 = w.alloc (.cells #[.int .i64 0, .string ⟨#[]⟩, .string ⟨#[]⟩] 23) := ⟨_, rfl⟩
  have hb1 : Below w.heap.size w W1 := by rw [hW1]; exact belowNew w _
  have HQ1 : Hid (W1.heap[g]? = some (.cells #[.int .i64 0, .string ⟨#[]⟩, .string ⟨#[]⟩] 23 (0, 0))) := Lib.hid (by rw [hW1, hg]; exact heap_alloc_new w _)
  have HD1 := Lib.hid (h.below hb1)
  have HU1 := Lib.hid (show But p w W1 from But.of hb1)
  have HPG : Hid (p < g) := Lib.hid (by rw [hg]; exact (Array.getElem?_eq_some_iff.1 h.1).1)
  have HKD := Lib.hid hkd
  have HW1 := Lib.hid hW1.symm
  have HG := Lib.hid hg
  clear hg hW1 hb1 h hkd
  go_enter Tryz.func8, Tryz.ntmps8
  go_wp2_with (first
    | (go_at_call 9
       rw [HW1.out, ← HG.out]
       (with_reducible refine (next50k p a cap zs kd _ HD1.out (by have := HKD.out; omega)).mono ?_)
       rintro e w2 ⟨r, k2, hr, rfl, hd2, hk2, hb2⟩
       have HD2 := Lib.hid hd2
       have HK2 := Lib.hid hk2
       have HR := Lib.hid hr
       have HQ2 := Lib.hid ((hb2.block g (Array.getElem?_eq_some_iff.1 HQ1.out).1 (by have := HPG.out; simp; omega)).trans HQ1.out)
       have HU2 := Lib.hid (HU1.out.next hb2)
       clear hd2 hk2 hr hb2)
    | (go_at_call 24
       (with_reducible refine (seedq_any r (by have := HR.out; omega) _).mono ?_)
       rintro e w3 ⟨rfl, hb3⟩
       have HD3 := Lib.hid (HD2.out.below hb3)
       have HQ3 := Lib.hid ((hb3.block g (Array.getElem?_eq_some_iff.1 HQ2.out).1).trans HQ2.out)
       have HU3 := Lib.hid (HU2.out.next (But.of hb3))
       clear hb3))
  obtain ⟨S, hS⟩ : ∃ S, S = seedS r := ⟨_, rfl⟩
  have hSs : S.size = 32 := by rw [hS]; exact seedS_size r
  rw [← hS]
  obtain ⟨i1, hi1⟩ : ∃ i1, i1 = S.extract 0 16 := ⟨_, rfl⟩
  obtain ⟨i2, hi2⟩ : ∃ i2, i2 = S.extract 16 32 := ⟨_, rfl⟩
  have hx1 : S.extract 0 16 = i1 := hi1.symm
  have hx2 : S.extract 16 S.size = i2 := by rw [hSs]; exact hi2.symm
  have hsi : (S.size : Int) = 32 := by omega
  have HKK : Hid (∀ n : Nat, n < 9 → keyEE ((n : Int), i1, i2) = 0) := Lib.hid fun n hn => by rw [hi1, hi2]; exact madeK_ok hSs (by omega)
  clear hS hi1 hi2 hSs
  have HDD := Lib.hid (show DeckAt w3.drew p a cap zs k2 from HD3.out)
  go_region_law (first
    | (go_simp; go_at_call 9
       (with_reducible refine (next9k p a cap zs k2 _ HDD.out (by have := HKD.out; have := HK2.out; omega)).mono ?_)
       rintro e w4 ⟨n, k4, hn, rfl, hd4, hk4, hb4⟩
       have hb4 : But p w3 w4 := But.next (But.of (Below.refl _ _).drew) hb4
       have hq4 := (hb4.block g (Array.getElem?_eq_some_iff.1 HQ3.out).1 (by have := HPG.out; simp; omega)).trans HQ3.out
       have HD4 := Lib.hid hd4
       have HK4 := Lib.hid hk4
       have HN := Lib.hid hn
       have HU4 := Lib.hid (HU3.out.next hb4)
       have HQ4 := Lib.hid hq4
       obtain ⟨c0, c1, c2, f0, f1, f2, gl⟩ := el_facts hq4
       clear hb4 hd4 hk4 hn hq4))
  all_goals
    have hB := ((But.set g 0 w4 (.int .i64 (n : Int))).next (But.set g 1 _ (.string i1))).next (But.set g 2 _ (.string i2))
    have HDF := Lib.hid (HD4.out.aside hB HPG.out (Nat.le_of_lt gl))
    have HUF := Lib.hid (HU4.out.fresh hB (by rw [HG.out]; exact Nat.le_refl _))
    clear hB
    go_wp2_with fail
    exact bodyPost_ret (kRes1 rfl _ _ _ _ _ _ rfl (el_set HQ4.out)) rfl ⟨((n : Int), i1, i2), k4, HKK.out n HN.out, rfl, HDF.out, by have := HK2.out; have := HK4.out; omega, HUF.out⟩
end Go.Proofs.YtpmlkofceidnjaaGreatDoor
namespace Go.Proofs.YtpmlkofceidnjaaGreatDoor
open Go.RowKit

def AlgPk : Prop := ∀ (w : World), Calls Tryz.prog 23 #[] w fun e w' => e = .returned (.string algS) ∧ Below w.heap.size w w'
def ChkPk : Prop := ∀ (t : Int) (c r : ByteArray) (w : World), c.size ≤ 1000000 → Pow10 w → Calls Tryz.prog 21 #[.agg #[.int .i64 t, .string c, .string r]] w fun e w' => e = .returned (.int .i64 ((chkAlg t c : Nat) : Int)) ∧ Below w.heap.size w w'
def EncPk : Prop := ∀ (k : KeyT) (w : World), Calls Tryz.prog 11 #[keyVV k] w fun e w' => e = .returned (encKV k) ∧ Below w.heap.size w w'
def DecPk : Prop := ∀ (b : ByteArray) (w : World), b.size ≤ 1000000 → Pow10 w → Calls Tryz.prog 16 #[.string b] w fun e w' => e = .returned (decKV b) ∧ Below w.heap.size w w'
def IdPk : Prop := ∀ (k : KeyT) (w : World), Holds w 0 kWords → Calls Tryz.prog 13 #[keyVV k] w fun e w' => e = .returned (.string (idenS k)) ∧ Below w.heap.size w w'

theorem key_new (w : World) (x y z : Value) : (w.alloc (.cells #[x, y, z] 23)).heap[w.heap.size]? = some (.cells #[x, y, z] 23 (0, 0)) := heap_alloc_new w _
theorem encKV_ok {k : KeyT} (h : keyEE k = 0) : encKV k = .tuple #[.string (encK k), .int .i64 0] := if_pos h
theorem decKV_enc {k : KeyT} (h : keyEE k = 0) : decKV (encK k) = .tuple #[keyVV k, .int .i64 0] := by unfold decKV; rw [dec_encK h]; rfl
set_option maxRecDepth 100000 in
set_option maxHeartbeats 2000000 in
theorem awakek_any (hA : AlgPk) (hE : EncPk) (hD : DecPk) (w : World) (hP : Pow10 w) :
    Calls Tryz.prog 6 #[] w fun e w' => e = .returned (.bool true) ∧ Below w.heap.size w w' := by
  have hL : ILies (w.alloc (.cells #[.int .i64 1, .int .i64 3] 3)) (some ⟨w.heap.size, 0, none⟩) [1, 3] := .inr ⟨w.heap.size, 0, rfl, fun i hi => by
    rw [Nat.zero_add]
    exact row_ints w [1, 3] i hi⟩
  have HND : Hid (Calls Tryz.prog 7 #[.slice (some ⟨w.heap.size, 0, none⟩) 2 2] (w.alloc (.cells #[.int .i64 1, .int .i64 3] 3)) fun e w' => e = .returned (.pointer (some ⟨w.heap.size + 1, 0, none⟩)) ∧ DeckAt w' (w.heap.size + 1) (some ⟨w.heap.size, 0, none⟩) 2 [1, 3] 0 ∧ Below (w.heap.size + 1) (w.alloc (.cells #[.int .i64 1, .int .i64 3] 3)) w') := Lib.hid (by
    have h1 := new_any (some ⟨w.heap.size, 0, none⟩) 2 [1, 3] _ hL (by decide)
    rw [show (w.alloc (.cells #[.int .i64 1, .int .i64 3] 3)).heap.size = w.heap.size + 1 by simp] at h1
    exact h1)
  have HP := Lib.hid hP
  have HEN := Lib.hid hE
  have HDE := Lib.hid hD
  have HAL := Lib.hid hA
  have HAS := Lib.hid algS_size
  clear hL hP hE hD hA
  obtain ⟨A, hAA⟩ : ∃ A, A = algS := ⟨_, rfl⟩
  have HAL2 : Hid (∀ W : World, Calls Tryz.prog 23 #[] W fun e w' => e = .returned (.string A) ∧ Below W.heap.size W w') := Lib.hid fun W => by rw [hAA]; exact HAL.out W
  have hAs : (A.size : Int) = 14 := by rw [hAA, HAS.out]; rfl
  clear hAA HAS HAL
  go_enter Tryz.func6, Tryz.ntmps6
  go_wp2_with (first
    | (go_at_call 7
       (with_reducible refine HND.out.mono ?_)
       rintro e w1 ⟨rfl, hd1, hb1⟩
       have HD1 := Lib.hid hd1
       have HB1 : Hid (Below w.heap.size w w1) := Lib.hid ((belowNew w _).trans (hb1.mono (by omega)))
       clear hd1 hb1)
    | (go_at_call 8
       (with_reducible refine (keyq_any (w.heap.size + 1) _ _ _ 0 _ HD1.out (by omega)).mono ?_)
       rintro e w2 ⟨k, k', hk, rfl, _, _, hb2⟩
       have HB2 : Hid (Below w.heap.size w w2) := Lib.hid (HB1.out.trans ((hb2.below (Nat.le_of_lt (Array.getElem?_eq_some_iff.1 HD1.out.1).1)).mono (by omega)))
       have he := encKV_ok hk
       have hdd := decKV_enc hk
       have hz := encK_size hk
       have HE3 := Lib.hid (fun W => HEN.out k W)
       obtain ⟨X, hX⟩ : ∃ X, X = encK k := ⟨_, rfl⟩
       rw [← hX] at he hdd hz
       rw [he] at HE3
       have HD3 := Lib.hid (fun W h => HDE.out X W (by omega) h)
       rw [hdd] at HD3
       have hzi : (X.size : Int) = 52 := by omega
       obtain ⟨h, id, root⟩ := k
       unfold keyVV keyV at HE3 HD3 ⊢
       simp only at HE3 HD3 ⊢
       have hn2 := key_new w2 (.int .i64 h) (.string id) (.string root)
       have HN2 := Lib.hid hn2
       obtain ⟨c0, c1, c2, _⟩ := kcell3 hn2
       clear hX he hdd hz hk hb2 hn2)
    | (go_at_call 11
       (with_reducible refine (HE3.out _).mono ?_)
       rintro e w3 ⟨rfl, hb3⟩
       have HB3 := Lib.hid (below_next HB2.out (below_next (belowNew _ _) hb3))
       have HQ3 := Lib.hid ((hb3.block w2.heap.size (Array.getElem?_eq_some_iff.1 HN2.out).1).trans HN2.out)
       clear hb3 c0 c1 c2)
    | (go_at_call 16
       (with_reducible refine (HD3.out _ (HP.out.below HB3.out)).mono ?_)
       rintro e w4 ⟨rfl, hb4⟩
       have HB4 := Lib.hid (below_next HB3.out hb4)
       have hq4 := (hb4.block w2.heap.size (Array.getElem?_eq_some_iff.1 HQ3.out).1).trans HQ3.out
       have hl4 := (Array.getElem?_eq_some_iff.1 hq4).1
       have hn4 := key_new w4 (.int .i64 h) (.string id) (.string root)
       obtain ⟨a0, a1, a2, _⟩ := kcell3 hn4
       obtain ⟨b0, b1, b2, _⟩ := kcell3 (((belowNew w4 (.cells #[.int .i64 h, .string id, .string root] 23)).block w2.heap.size hl4).trans hq4)
       clear hb4 hq4 hl4 hn4)
    | (go_at_call 23
       (with_reducible refine (HAL2.out _).mono ?_)
       rintro e w5 ⟨rfl, hb5⟩
       have HB5 := Lib.hid (below_next HB4.out (below_next (belowNew _ _) hb5))
       clear hb5))
  go_ret
  exact ⟨rfl, HB5.out⟩
end Go.Proofs.YtpmlkofceidnjaaGreatDoor
