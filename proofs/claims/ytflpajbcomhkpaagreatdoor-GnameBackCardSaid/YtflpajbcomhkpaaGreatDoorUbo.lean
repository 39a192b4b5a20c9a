/-
  General names of the generators: what they are encoded and written as is read as them. Nothing is claimed of the program here.
  The contracts of gname's formatRest and Format: the text of a general name, or the error.
-/
import Derived.Test.YtflpajbcomhkpaaGreatDoorUbi
import Derived.Test.YtflpajbcomhkpaaGreatDoorUbk
import Derived.Test.YtflpajbcomhkpaaGreatDoorUbn
import Derived.Test.YtflpajbcomhkpaaGreatDoorUav
import Derived.Test.YtflpajbcomhkpaaGreatDoorUbg
import Derived.Test.YtflpajbcomhkpaaGreatDoorUae
namespace Go.Proofs.YtflpajbcomhkpaaGreatDoor
open Go.RowKit

/-- A general name of a generator: no constraint, or one. -/
def OkC (con : Bool) (k : Int) (t : List UInt8) (n : Nm) : Prop := if con = true then BseOk k t n else GenOk k t n
set_option maxRecDepth 100000 in
theorem okC_parts {con : Bool} {k : Int} {t : List UInt8} {n : Nm} (h : OkC con k t n) : ((k = 1 ∨ k = 2 ∨ k = 7) ∧ okT k con t = true ∧ n = [] ∧ t.length ≤ 64) ∨ (k = 4 ∧ t = [] ∧ MadeN n) := by
  unfold OkC at h
  cases con with
  | false =>
    rw [if_neg (by decide)] at h
    have hl := (gen_len h).1
    rcases h with ⟨rfl, h, rfl⟩ | ⟨rfl, h, rfl⟩ | ⟨rfl, h, rfl⟩ | ⟨rfl, rfl, h⟩
    · exact .inl ⟨.inl rfl, (show ∀ t ∈ genMail, mailB t = true by decide +kernel) t h, rfl, hl⟩
    · exact .inl ⟨.inr (.inl rfl), (show ∀ t ∈ genDns, patB t = true by decide +kernel) t h, rfl, hl⟩
    · exact .inl ⟨.inr (.inr rfl), (show ∀ t ∈ genAddr, addrB t = true by decide +kernel) t h, rfl, hl⟩
    · exact .inr ⟨rfl, rfl, h⟩
  | true =>
    rw [if_pos rfl] at h
    have hl := (bse_len h).1
    rcases h with ⟨rfl, h, rfl⟩ | ⟨rfl, h, rfl⟩ | ⟨rfl, h, rfl⟩ | ⟨rfl, rfl, h⟩
    · exact .inl ⟨.inl rfl, (show ∀ t ∈ bseMail, mailBaseB t = true by decide +kernel) t h, rfl, hl⟩
    · exact .inl ⟨.inr (.inl rfl), (show ∀ t ∈ bseDns, baseB t = true by decide +kernel) t h, rfl, hl⟩
    · exact .inl ⟨.inr (.inr rfl), (show ∀ t ∈ bseAddr, rangeB t = true by decide +kernel) t h, rfl, hl⟩
    · exact .inr ⟨rfl, rfl, h⟩
theorem okC_chk {con : Bool} {k : Int} {t : List UInt8} {n : Nm} (h : OkC con k t n) : chkG con k t n = 0 := by
  rcases okC_parts h with ⟨hk, ho, rfl, _⟩ | ⟨rfl, rfl, hn⟩
  · rw [chkG_not (by omega), if_pos ⟨ho, rfl⟩]
  · rw [chkG_dir, if_pos rfl]; exact made_chkN hn
theorem okC_len {con : Bool} {k : Int} {t : List UInt8} {n : Nm} (h : OkC con k t n) : t.length ≤ 64 ∧ MadeN n := by
  rcases okC_parts h with ⟨_, _, rfl, hl⟩ | ⟨_, rfl, hn⟩
  · exact ⟨hl, by decide, fun r hr => by cases hr⟩
  · exact ⟨by decide, hn⟩
/-- The identifier octet and the contents of its element. -/
def tgC (k : Int) : Nat := if k = 4 then 164 else if k = 1 then 129 else if k = 2 then 130 else 135
noncomputable def ctC (k : Int) (t : List UInt8) (n : Nm) : ByteArray := if k = 4 then encN n else strOf t
noncomputable def elC (con : Bool) (k : Int) (t : List UInt8) (n : Nm) : El := (tgC k, ctC k t n, encG con k t n)
theorem elC_ok {con : Bool} {k : Int} {t : List UInt8} {n : Nm} (h : OkC con k t n) : OkE (elC con k t n) := by
  have hc := okC_chk h
  rcases okC_parts h with ⟨hk, ho, rfl, hl⟩ | ⟨rfl, rfl, hn⟩
  · have e : encG con k t [] = wr1 (128 + k) (strOf t) := by unfold encG; rw [if_pos hc, if_neg (by omega)]
    have e2 : ctC k t [] = strOf t := if_neg (by omega)
    refine ⟨?_, ?_, ?_, ?_⟩
    · show tgC k < 256; unfold tgC; rcases hk with rfl | rfl | rfl <;> decide
    · show tgC k % 32 ≠ 31; unfold tgC; rcases hk with rfl | rfl | rfl <;> decide
    · show (ctC k t []).size ≤ _; rw [e2, strOf_size]; omega
    · show encG con k t [] = wr1 ((tgC k : Nat) : Int) (ctC k t [])
      rw [e, e2]
      rcases hk with rfl | rfl | rfl <;> rfl
  · have e : encG con 4 [] n = wr1 164 (encN n) := by unfold encG; rw [if_pos hc, if_pos rfl]
    have e2 : ctC 4 [] n = encN n := if_pos rfl
    have hs : (encN n).size ≤ 650 := by
      have h1 := encV_le (spN_of_made hn)
      rwa [show encV n = encN n by unfold encV; rw [if_pos (made_chkN hn)]] at h1
    exact ⟨by show 164 < 256; omega, by show 164 % 32 ≠ 31; omega, by show (ctC 4 [] n).size ≤ _; rw [e2]; omega, by show encG con 4 [] n = wr1 ((164 : Nat) : Int) (ctC 4 [] n); rw [e, e2]; rfl⟩
theorem one_el {e : El} (h : OkE e) : oneErr e.2.2 = 0 ∧ rdTag e.2.2 = e.1 ∧ rdContent e.2.2 = e.2.1 := by
  obtain ⟨h1, he⟩ := one_of_lst (lst_els [e] (fun x hm => by rw [List.mem_singleton.1 hm]; exact h) e.2.2 (by unfold raws; simp))
  unfold rdElem at he
  obtain ⟨t, c, r⟩ := e
  obtain ⟨e1, e2⟩ := Prod.mk.inj he
  obtain ⟨e3, _⟩ := Prod.mk.inj e2
  exact ⟨h1, e1, e3⟩
/-- What is encoded is decoded, apart from the order of attributes. -/
theorem dec_okC {con : Bool} {k : Int} {t : List UInt8} {n : Nm} (h : OkC con k t n) : decG con ((tgC k : Nat) : Int) (ctC k t n) = (0, (k, t, n.map sortR)) := by
  have hc := okC_chk h
  rcases okC_parts h with ⟨hk, ho, rfl, hl⟩ | ⟨rfl, rfl, hn⟩
  · have e2 : ctC k t [] = strOf t := if_neg (by omega)
    rw [e2]
    rcases hk with rfl | rfl | rfl
    · show decG con 129 (strOf t) = _
      unfold decG
      rw [if_pos (by decide), strOf_list]
      show (if chkG con 1 t [] = 0 then ((0 : Nat), ((1 : Int), t, ([] : Nm))) else (chkG con 1 t [], noG)) = (0, (1, t, []))
      rw [if_pos hc]
    · show decG con 130 (strOf t) = _
      unfold decG
      rw [if_pos (by decide), strOf_list]
      show (if chkG con 2 t [] = 0 then ((0 : Nat), ((2 : Int), t, ([] : Nm))) else (chkG con 2 t [], noG)) = (0, (2, t, []))
      rw [if_pos hc]
    · show decG con 135 (strOf t) = _
      unfold decG
      rw [if_pos (by decide), strOf_list]
      show (if chkG con 7 t [] = 0 then ((0 : Nat), ((7 : Int), t, ([] : Nm))) else (chkG con 7 t [], noG)) = (0, (7, t, []))
      rw [if_pos hc]
  · have e2 : ctC 4 [] n = encN n := if_pos rfl
    rw [e2]
    show decG con 164 (encN n) = _
    unfold decG
    rw [if_neg (by decide), if_pos rfl, dec_enc (made_chkN hn), if_pos rfl]
theorem okC_alike {con : Bool} {k : Int} {t : List UInt8} {n : Nm} (h : OkC con k t n) : AlikeG (k, t, n) (k, t, n.map sortR) := by
  have hs : ∀ i, i < n.length → (n.map sortR).getD i [] = sortR (n.getD i []) := fun i hi => by
    rw [getD_mem (by rw [List.length_map]; exact hi) _, getD_mem hi _, List.getElem_map]
  exact ⟨rfl, rfl, madeN_small (okC_len h).2, (List.length_map _).symm, fun i hi => by show ((n.map sortR).getD i []).length = _; rw [hs i hi, (sortR_perm _).length_eq], fun i hi x hx => by show x ∈ (n.map sortR).getD i []; rw [hs i hi]; exact (sortR_perm _).mem_iff.2 hx⟩
/-! ### Texts -/
theorem une_esc (t : List UInt8) : uneF (escL t) = (strOf t, true) := uneF_eq (.inl ⟨rfl, by rw [strOf_list]⟩)
theorem unh_hex (t : List UInt8) : unhF (hexL t) = (strOf t, true) := unhF_eq (.inl ⟨rfl, by rw [strOf_list]⟩)
theorem eit_okC {con : Bool} {k : Int} {t : List UInt8} {n : Nm} (h : OkC con k t n) : eitG k t n = 0 := by
  have hc := okC_chk h
  unfold eitG
  cases con with
  | false => rw [if_neg (fun q => q.1 hc)]; exact hc
  | true =>
    by_cases h0 : chkG false k t n = 0
    · rw [if_neg (fun q => q.1 h0)]; exact h0
    · rw [if_pos ⟨h0, hc⟩]
theorem strOf_cat (a b : List UInt8) : (strOf a ++ strOf b).data.toList = a ++ b := by
  show (strOf a ++ strOf b).data.toList = a ++ b
  rw [ByteArray.data_append, Array.toList_append]; rfl
theorem fmtN_smallB {n : Nm} (h : SpN 20 n) : (fmtN n).size ≤ 120000 := by
  have hr : ∀ r ∈ n, (fmtR r).data.toList.length ≤ 400 := fun r hr => by
    have hl := join_len 43 164 ((outF r).map (·.data.toList)) (fun p hp => by
      obtain ⟨s, hs, rfl⟩ := List.mem_map.1 hp
      obtain ⟨a, ha, rfl⟩ := List.mem_map.1 hs
      obtain ⟨q1, q2⟩ := (h.2 r hr).2 a ((sortR_perm r).mem_iff.1 ha)
      have e1 : (fmtA a).data.toList.length = (shortO a.1).data.toList.length + ((escL a.2.2.data.toList).length + 1) := by
        show ((shortO a.1).data.toList ++ 61 :: escL a.2.2.data.toList).length = _
        rw [List.length_append, List.length_cons]
      have e2 := escL_len a.2.2.data.toList
      have e3 := shortO_size a.1
      have e4 : a.2.2.data.toList.length = a.2.2.size := rfl
      have e5 : (shortO a.1).data.toList.length = (shortO a.1).size := rfl
      omega)
    rw [List.length_map, outF_len] at hl
    have := (h.2 r hr).1
    show (Lib.join ((outF r).map (·.data.toList)) [43]).length ≤ _
    omega
  have hl := join_len 44 400 ((n.map fmtR).map (·.data.toList)) (fun p hp => by
    obtain ⟨s, hs, rfl⟩ := List.mem_map.1 hp
    obtain ⟨r, hr', rfl⟩ := List.mem_map.1 hs
    exact hr r hr')
  rw [List.length_map, List.length_map] at hl
  have := h.1
  show (Lib.join ((n.map fmtR).map (·.data.toList)) [44]).length ≤ _
  omega
theorem text_backB {n : Nm} (h : MadeN n) : chkN n = 0 ∧ fmtV n = fmtN n ∧ (fmtN n).size ≤ 120000 ∧ ∃ m, prsErr (fmtN n) = 0 ∧ prsV (fmtN n) = m ∧ SmallN m ∧ MatchN n m := by
  have h0 := made_chkN h
  have hz := fmtN_smallB (spN_of_made h)
  have hp := prs_fmtN (n := n) (fun r hr => okR_of (((chkN_iff n).1 h0).2 r hr))
  have hc : chkN (n.map fun r => (sortR r).map reK) = 0 := made_re h
  have he : prsErr (fmtN n) = 0 := by unfold prsErr; rw [hp]; exact hc
  refine ⟨h0, by unfold fmtV; rw [if_pos h0], hz, _, he, rfl, ?_, ?_⟩
  · unfold prsV
    rw [if_pos he, hp]
    exact prsN_small hp (Nat.le_trans hz (by omega))
  · unfold prsV
    rw [if_pos he, hp]
    exact match_re n

/-- What is written is read: a general name that is the same. -/
theorem par_okC {con : Bool} {k : Int} {t : List UInt8} {n : Nm} (h : OkC con k t n) : (fmtG k t n).2 = 0 ∧ (fmtG k t n).1.size ≤ 130000 ∧ ∃ m, parG (fmtG k t n).1.data.toList = (0, (k, t, m)) ∧ SmallN m ∧ MatchN n m := by
  rcases okC_parts h with ⟨hk, ho, rfl, hl⟩ | ⟨rfl, rfl, hn⟩
  · have h0 : SmallN [] := ⟨by decide, fun i hi => absurd hi (Nat.not_lt_zero _)⟩
    have he := eit_okC h
    have hez := escS_size (strOf t)
    rw [strOf_size] at hez
    have hes : escS (strOf t) = strOf (escL t) := by unfold escS; rw [strOf_list]
    rcases hk with rfl | rfl | rfl
    · have e : fmtG 1 t [] = (strOf [109, 97, 105, 108, 58] ++ escS (strOf t), 0) := by unfold fmtG; rw [if_pos rfl]
      rw [e]
      refine ⟨rfl, by show (strOf [109, 97, 105, 108, 58] ++ escS (strOf t)).size ≤ _; rw [ByteArray.size_append, strOf_size]; simp only [List.length_cons, List.length_nil]; omega, [], ?_, h0, MatchN.refl _⟩
      show parG (strOf [109, 97, 105, 108, 58] ++ escS (strOf t)).data.toList = _
      rw [hes, strOf_cat]
      have hc : cutW ([109, 97, 105, 108, 58] ++ escL t) = (0, escL t) := cutW_colon (A := [109, 97, 105, 108]) (B := escL t) (by decide)
      have hp : prtP 0 (escL t) = (0, (1, t, [])) := by unfold prtP; rw [if_pos rfl, une_esc, if_pos rfl]; show (0, (_, (strOf t).data.toList, _)) = _; rw [strOf_list]
      rw [parG_good (g := (1, t, [])) hc hp]
      show genC 0 (1, t, []) (eitG 1 t []) = _
      rw [he]; exact genC_c
    · have e : fmtG 2 t [] = (strOf [100, 110, 115, 58] ++ escS (strOf t), 0) := by unfold fmtG; rw [if_neg (by decide), if_pos rfl]
      rw [e]
      refine ⟨rfl, by show (strOf [100, 110, 115, 58] ++ escS (strOf t)).size ≤ _; rw [ByteArray.size_append, strOf_size]; simp only [List.length_cons, List.length_nil]; omega, [], ?_, h0, MatchN.refl _⟩
      show parG (strOf [100, 110, 115, 58] ++ escS (strOf t)).data.toList = _
      rw [hes, strOf_cat]
      have hc : cutW ([100, 110, 115, 58] ++ escL t) = (1, escL t) := cutW_colon (A := [100, 110, 115]) (B := escL t) (by decide)
      have hp : prtP 1 (escL t) = (0, (2, t, [])) := by unfold prtP; rw [if_neg (by decide), if_pos rfl, une_esc, if_pos rfl]; show (0, (_, (strOf t).data.toList, _)) = _; rw [strOf_list]
      rw [parG_good (g := (2, t, [])) hc hp]
      show genC 0 (2, t, []) (eitG 2 t []) = _
      rw [he]; exact genC_c
    · have e : fmtG 7 t [] = (strOf [105, 112, 58] ++ strOf (hexL t), 0) := by unfold fmtG; rw [if_neg (by decide), if_neg (by decide), if_pos rfl]; rfl
      rw [e]
      refine ⟨rfl, by show (strOf [105, 112, 58] ++ strOf (hexL t)).size ≤ _; rw [ByteArray.size_append, strOf_size, strOf_size, hexL_length]; simp only [List.length_cons, List.length_nil]; omega, [], ?_, h0, MatchN.refl _⟩
      show parG (strOf [105, 112, 58] ++ strOf (hexL t)).data.toList = _
      rw [strOf_cat]
      have hc : cutW ([105, 112, 58] ++ hexL t) = (3, hexL t) := cutW_colon (A := [105, 112]) (B := hexL t) (by decide)
      have hp : prtP 3 (hexL t) = (0, (7, t, [])) := by unfold prtP; rw [if_neg (by decide), if_neg (by decide), if_neg (by decide), if_pos rfl, unh_hex, if_pos rfl]; show (0, (_, (strOf t).data.toList, _)) = _; rw [strOf_list]
      rw [parG_good (g := (7, t, [])) hc hp]
      show genC 0 (7, t, []) (eitG 7 t []) = _
      rw [he]; exact genC_c
  · obtain ⟨h1, _, h3, m, h4, h5, h6, h7⟩ := text_backB hn
    have e : fmtG 4 [] n = (strOf [100, 105, 114, 58] ++ fmtN n, 0) := by unfold fmtG; rw [if_neg (by decide), if_neg (by decide), if_neg (by decide), if_pos rfl, if_pos h1]
    rw [e]
    refine ⟨rfl, by show (strOf [100, 105, 114, 58] ++ fmtN n).size ≤ _; rw [ByteArray.size_append, strOf_size]; simp only [List.length_cons, List.length_nil]; omega, m, ?_, h6, h7⟩
    show parG (strOf [100, 105, 114, 58] ++ fmtN n).data.toList = _
    obtain ⟨x, hx⟩ : ∃ x, fmtN n = strOf x := ⟨_, strOf_of rfl⟩
    rw [hx, strOf_cat]
    rw [hx] at h4 h5
    have hc : cutW ([100, 105, 114, 58] ++ x) = (2, x) := cutW_colon (A := [100, 105, 114]) (B := x) (by decide)
    rw [parG_2 hc, if_neg (by rw [h4]; simp), h5]
theorem same_okC {con : Bool} {k : Int} {t : List UInt8} {n m : Nm} (h : OkC con k t n) (hm : MatchN n m) : sameG k t n k t m = true := by
  unfold sameG
  rw [if_neg (by simp)]
  rcases okC_parts h with ⟨hk, _, _, _⟩ | ⟨rfl, _, _⟩
  · rcases hk with rfl | rfl | rfl
    · rw [if_pos rfl]
      by_cases hq : mailB t = true ∧ mailB t = true
      · rw [if_pos hq]; exact mailMatch_refl hq.1
      · rw [if_neg hq]; exact alikeB_refl t
    · rw [if_neg (by decide), if_pos rfl]; exact alikeB_refl t
    · rw [if_neg (by decide), if_neg (by decide), if_neg (by decide), if_pos rfl]; exact decide_eq_true rfl
  · rw [if_neg (by decide), if_neg (by decide), if_pos rfl]; exact decide_eq_true hm
/-! ### Lists -/
theorem decGs_cons {e : El} {r : List El} {g : Gn} {M : List Gn} (h : decEl e = (0, g)) (hr : decGs r = (0, M)) : decGs (e :: r) = (0, g :: M) := by
  show (if (decEl e).1 ≠ 0 then ((decEl e).1, []) else if (decGs r).1 ≠ 0 then ((decGs r).1, []) else (0, (decEl e).2 :: (decGs r).2)) = _
  rw [h, hr, if_neg (by simp), if_neg (by simp)]
theorem list_okC {k1 k2 : Int} {t1 t2 : List UInt8} {n1 n2 : Nm} (h1 : OkC false k1 t1 n1) (h2 : OkC false k2 t2 n2) :
    ∃ S : ByteArray, listV [(k1, t1, n1), (k2, t2, n2)] = (S, 0) ∧ S.size ≤ 2000 ∧ dlst S = (0, [(k1, t1, n1.map sortR), (k2, t2, n2.map sortR)]) := by
  have c1 := okC_chk h1
  have c2 := okC_chk h2
  have z1 := encG_small (con := false) (k := k1) (okC_len h1).1 (okC_len h1).2
  have z2 := encG_small (con := false) (k := k2) (okC_len h2).1 (okC_len h2).2
  have hE : errL [(k1, t1, n1), (k2, t2, n2)] = 0 := by
    have e1 : xG (k1, t1, n1) = 0 := c1
    have e2 : xG (k2, t2, n2) = 0 := c2
    unfold errL; rw [if_neg (by rw [e1]; simp)]
    unfold errL; rw [if_neg (by rw [e2]; simp)]; rfl
  refine ⟨⟨(cat_t ([(k1, t1, n1), (k2, t2, n2)].map eG)).toArray⟩, ?_, ?_, ?_⟩
  · unfold listV; rw [if_neg (by simp), if_neg (by simp), if_pos hE]
  · have e : cat_t ([(k1, t1, n1), (k2, t2, n2)].map eG) = (encG false k1 t1 n1).data.toList ++ ((encG false k2 t2 n2).data.toList ++ []) := rfl
    show (cat_t ([(k1, t1, n1), (k2, t2, n2)].map eG)).toArray.size ≤ _
    rw [List.size_toArray, e, List.length_append, List.length_append]
    have q1 : (encG false k1 t1 n1).data.toList.length = (encG false k1 t1 n1).size := rfl
    have q2 : (encG false k2 t2 n2).data.toList.length = (encG false k2 t2 n2).size := rfl
    simp only [List.length_nil]
    omega
  · have hl := lst_els [elC false k1 t1 n1, elC false k2 t2 n2] (fun e he => by
      rcases List.mem_cons.1 he with rfl | he
      · exact elC_ok h1
      · rw [List.mem_singleton.1 he]; exact elC_ok h2) ⟨(cat_t ([(k1, t1, n1), (k2, t2, n2)].map eG)).toArray⟩ (by
        show cat_t ([(k1, t1, n1), (k2, t2, n2)].map eG) = (raws [elC false k1 t1 n1, elC false k2 t2 n2]).flatten
        rfl)
    unfold dlst
    rw [hl, if_neg (by simp)]
    simp only []
    rw [if_neg (show ¬ numE [elC false k1 t1 n1, elC false k2 t2 n2].length ≠ 0 from (by decide : ¬ numE 2 ≠ 0))]
    have d1 : decEl (elC false k1 t1 n1) = (0, (k1, t1, n1.map sortR)) := dec_okC h1
    have d2 : decEl (elC false k2 t2 n2) = (0, (k2, t2, n2.map sortR)) := dec_okC h2
    exact decGs_cons d1 (decGs_cons d2 rfl)
end Go.Proofs.YtflpajbcomhkpaaGreatDoor
namespace Go.Proofs.YtflpajbcomhkpaaGreatDoor
open Go.RowKit

/-- What is written behind the word of a kind. -/
noncomputable def rstG (k : Int) (t : List UInt8) (n : Nm) : ByteArray × Nat :=
  if k = 4 then (fmtV n, chkN n) else if k = 7 then (⟨(hexL t).toArray⟩, 0) else (escS (strOf t), 0)
set_option maxRecDepth 100000 in
set_option maxHeartbeats 4000000 in
theorem frest_core (a0 : Option Addr) (c m : Nat) (k : Int) (t : List UInt8) (n : Nm) (w : World) (hk : k = 1 ∨ k = 2 ∨ k = 4 ∨ k = 7) (h : RLies w a0 n) (hn : m = n.length) (ht : t.length ≤ 150000) (hs : SmallN n) (h2 : ∀ r ∈ n, ∀ x ∈ r, x.1.size ≤ 200000) (hT : Tab w) (hS : ShT w) :
    Calls Tryz.prog 51 #[.int .i64 ((kdOf k : Nat) : Int), .agg #[.int .i64 k, .string (strOf t), .slice a0 m c]] w fun e w' => e = .returned (.tuple #[.string (rstG k t n).1, .int .i64 (((rstG k t n).2 : Nat) : Int)]) ∧ Below w.heap.size w w' := by
  obtain ⟨W0, hW0⟩ : ∃ W0, W0 = w.alloc (.cells #[.int .i64 k, .string (strOf t), .slice a0 m c] 32) := ⟨_, rfl⟩
  have hwr : w.alloc (.cells #[.int .i64 k, .string (strOf t), .slice a0 m c] 32) = W0 := hW0.symm
  have hb0 : Below w.heap.size w W0 := by rw [hW0]; exact belowNew w _
  have hq0 : W0.heap[w.heap.size]? = some (.cells #[.int .i64 k, .string (strOf t), .slice a0 m c] 32 (0, 0)) := by rw [hW0]; exact heap_alloc_new w _
  obtain ⟨c0, c1, c2, l0⟩ := three_facts hq0
  have HB0 := Lib.hid hb0
  have HX := Lib.hid (esc_any (strOf t) W0 (by rw [strOf_size]; omega))
  have HH := Lib.hid (hex_any (strOf t) W0 (by rw [strOf_size]; omega))
  have HF := Lib.hid (format_core a0 c m n W0 (h.below hb0) hn hs h2 (hT.below hb0) (hS.below hb0))
  rw [strOf_list] at HH
  obtain ⟨R, hR⟩ : ∃ R, R = rstG k t n := ⟨_, rfl⟩
  rw [← hR]
  have HR := Lib.hid hR
  clear h hn ht hs h2 hT hS hW0 hb0 hq0 hR
  rcases hk with rfl | rfl | rfl | rfl
  · have HV := Lib.hid (show R = (escS (strOf t), 0) by rw [HR.out]; unfold rstG; rw [if_neg (by decide), if_neg (by decide)])
    rw [show ((kdOf 1 : Nat) : Int) = 0 from rfl]
    generalize escS (strOf t) = S at HV HX
    go_enter Tryz.func51, Tryz.ntmps51
    go_wp2_with (go_at_call 91; (with_reducible refine HX.out.mono ?_); rintro e w1 ⟨rfl, hb1⟩; have HB1 := Lib.hid (below_next HB0.out hb1); clear hb1)
    go_ret2
    exact ⟨by rw [HV.out]; rfl, HB1.out⟩
  · have HV := Lib.hid (show R = (escS (strOf t), 0) by rw [HR.out]; unfold rstG; rw [if_neg (by decide), if_neg (by decide)])
    rw [show ((kdOf 2 : Nat) : Int) = 1 from rfl]
    generalize escS (strOf t) = S at HV HX
    go_enter Tryz.func51, Tryz.ntmps51
    go_wp2_with (go_at_call 91; (with_reducible refine HX.out.mono ?_); rintro e w1 ⟨rfl, hb1⟩; have HB1 := Lib.hid (below_next HB0.out hb1); clear hb1)
    go_ret2
    exact ⟨by rw [HV.out]; rfl, HB1.out⟩
  · have HV := Lib.hid (show R = (fmtV n, chkN n) by rw [HR.out]; unfold rstG; rw [if_pos rfl])
    rw [show ((kdOf 4 : Nat) : Int) = 2 from rfl]
    generalize fmtV n = S at HV HF
    generalize chkN n = E at HV HF
    go_enter Tryz.func51, Tryz.ntmps51
    go_wp2_with (go_at_call 89; (with_reducible refine HF.out.mono ?_); rintro e w1 ⟨rfl, hb1⟩; have HB1 := Lib.hid (below_next HB0.out hb1); clear hb1)
    go_ret2
    exact ⟨by rw [HV.out]; rfl, HB1.out⟩
  · have HV := Lib.hid (show R = ((⟨(hexL t).toArray⟩ : ByteArray), 0) by rw [HR.out]; unfold rstG; rw [if_neg (by decide), if_pos rfl])
    rw [show ((kdOf 7 : Nat) : Int) = 3 from rfl]
    generalize (⟨(hexL t).toArray⟩ : ByteArray) = S at HV HH
    go_enter Tryz.func51, Tryz.ntmps51
    go_wp2_with (go_at_call 90; (with_reducible refine HH.out.mono ?_); rintro e w1 ⟨rfl, hb1⟩; have HB1 := Lib.hid (below_next HB0.out hb1); clear hb1)
    go_ret2
    exact ⟨by rw [HV.out]; rfl, HB1.out⟩
theorem fmtG_rst {k : Int} (hk : k = 1 ∨ k = 2 ∨ k = 4 ∨ k = 7) (t : List UInt8) (n : Nm) : fmtG k t n = if (rstG k t n).2 = 0 then (kdW (kdOf k) ++ (rstG k t n).1, 0) else (⟨#[]⟩, (rstG k t n).2) := by
  rcases hk with rfl | rfl | rfl | rfl
  · have e : rstG 1 t n = (escS (strOf t), 0) := by unfold rstG; rw [if_neg (by decide), if_neg (by decide)]
    rw [e, if_pos rfl]; unfold fmtG; rw [if_pos rfl]; rfl
  · have e : rstG 2 t n = (escS (strOf t), 0) := by unfold rstG; rw [if_neg (by decide), if_neg (by decide)]
    rw [e, if_pos rfl]; unfold fmtG; rw [if_neg (by decide), if_pos rfl]; rfl
  · have e : rstG 4 t n = (fmtV n, chkN n) := by unfold rstG; rw [if_pos rfl]
    rw [e]; unfold fmtG; rw [if_neg (by decide), if_neg (by decide), if_neg (by decide), if_pos rfl]
    by_cases hz : chkN n = 0
    · have hfv : fmtV n = fmtN n := by unfold fmtV; rw [if_pos hz]
      rw [if_pos hz, if_pos hz, hfv]; rfl
    · rw [if_neg hz, if_neg hz]
  · have e : rstG 7 t n = (⟨(hexL t).toArray⟩, 0) := by unfold rstG; rw [if_neg (by decide), if_pos rfl]
    rw [e, if_pos rfl]; unfold fmtG; rw [if_neg (by decide), if_neg (by decide), if_pos rfl]; rfl
theorem rstG_len {k : Int} (hk : k = 1 ∨ k = 2 ∨ k = 4 ∨ k = 7) {t : List UInt8} {n : Nm} (ht : t.length ≤ 150000) (h2 : ∀ r ∈ n, ∀ x ∈ r, x.1.size ≤ 200000) (h0 : (rstG k t n).2 = 0) : (rstG k t n).1.size ≤ 9000000 := by
  have hez := escS_size (strOf t)
  rw [strOf_size] at hez
  rcases hk with rfl | rfl | rfl | rfl
  · rw [show rstG 1 t n = (escS (strOf t), 0) by unfold rstG; rw [if_neg (by decide), if_neg (by decide)]]
    show (escS (strOf t)).size ≤ _; omega
  · rw [show rstG 2 t n = (escS (strOf t), 0) by unfold rstG; rw [if_neg (by decide), if_neg (by decide)]]
    show (escS (strOf t)).size ≤ _; omega
  · have e : rstG 4 t n = (fmtV n, chkN n) := by unfold rstG; rw [if_pos rfl]
    rw [e] at h0 ⊢
    have hz : chkN n = 0 := h0
    have hfv : fmtV n = fmtN n := by unfold fmtV; rw [if_pos hz]
    show (fmtV n).size ≤ _
    rw [hfv]
    exact Nat.le_trans (fmtN_bound hz h2) (by omega)
  · rw [show rstG 7 t n = (⟨(hexL t).toArray⟩, 0) by unfold rstG; rw [if_neg (by decide), if_pos rfl]]
    show (hexL t).toArray.size ≤ _
    rw [List.size_toArray, hexL_length]; omega
set_option maxRecDepth 100000 in
set_option maxHeartbeats 4000000 in
theorem gfmt_core (a0 : Option Addr) (c m : Nat) (k : Int) (t : List UInt8) (n : Nm) (w : World) (h : RLies w a0 n) (hn : m = n.length) (ht : t.length ≤ 150000) (hs : SmallN n) (h2 : ∀ r ∈ n, ∀ x ∈ r, x.1.size ≤ 200000) (hT : Tab w) (hS : ShT w) (hK : KdT w) :
    Calls Tryz.prog 25 #[.agg #[.int .i64 k, .string (strOf t), .slice a0 m c]] w fun e w' => e = .returned (.tuple #[.string (fmtG k t n).1, .int .i64 (((fmtG k t n).2 : Nat) : Int)]) ∧ Below w.heap.size w w' := by
  obtain ⟨W0, hW0⟩ : ∃ W0, W0 = w.alloc (.cells #[.int .i64 k, .string (strOf t), .slice a0 m c] 32) := ⟨_, rfl⟩
  have hwr : w.alloc (.cells #[.int .i64 k, .string (strOf t), .slice a0 m c] 32) = W0 := hW0.symm
  have hb0 : Below w.heap.size w W0 := by rw [hW0]; exact belowNew w _
  have hq0 : W0.heap[w.heap.size]? = some (.cells #[.int .i64 k, .string (strOf t), .slice a0 m c] 32 (0, 0)) := by rw [hW0]; exact heap_alloc_new w _
  obtain ⟨c0, c1, c2, l0⟩ := three_facts hq0
  have HB0 := Lib.hid hb0
  have HK := Lib.hid (gkind_any k (strOf t) a0 m c W0 (hK.below hb0))
  have HKC := Lib.hid (fun W (hb : Below w.heap.size w W) => (hK.below hb).cells)
  obtain ⟨R, hR⟩ : ∃ R, R = fmtG k t n := ⟨_, rfl⟩
  rw [← hR]
  have HR := Lib.hid hR
  by_cases hk : k = 1 ∨ k = 2 ∨ k = 4 ∨ k = 7
  · have HFR := Lib.hid (fun W (hb : Below w.heap.size w W) => frest_core a0 c m k t n W hk (h.below hb) hn ht hs h2 (hT.below hb) (hS.below hb))
    have hrs := hR.trans (fmtG_rst hk t n)
    have hrl := fun h0 => rstG_len hk (t := t) (n := n) ht h2 h0
    generalize rstG k t n = G at HFR hrs hrl
    obtain ⟨S, E⟩ := G
    simp only at HFR hrs hrl
    clear h hn ht hs h2 hT hS hK hW0 hb0 hq0 hR
    by_cases hz : E = 0
    · subst hz
      have HV := Lib.hid (hrs.trans (if_pos rfl))
      have hsz := hrl rfl
      clear hrs hrl
      rcases hk with rfl | rfl | rfl | rfl
      · rw [show kdW (kdOf 1) = strOf [109, 97, 105, 108, 58] from rfl] at HV
        have hcat : ∀ w, (Op.stringOp .add ⟨#[109, 97, 105, 108, 58]⟩ S).run Tryz.prog w = .ok (.string (strOf [109, 97, 105, 108, 58] ++ S)) w := fun w => cat_any (strOf [109, 97, 105, 108, 58]) _ (by rw [strOf_size]; simp only [List.length_cons, List.length_nil]; omega) w
        rw [show ((kdOf 1 : Nat) : Int) = 0 from rfl] at HK HFR
        clear hsz
        go_enter Tryz.func25, Tryz.ntmps25
        go_wp2_with (first
          | (go_at_call 50; (with_reducible refine HK.out.mono ?_); rintro e w1 ⟨rfl, hb1⟩; have HB1 := Lib.hid (below_next HB0.out hb1); have d0 := (hb1.cell (p := ⟨w.heap.size, 0, none⟩) l0).trans c0; have d1 := (hb1.cell (p := ⟨w.heap.size, 1, none⟩) l0).trans c1; have d2 := (hb1.cell (p := ⟨w.heap.size, 2, none⟩) l0).trans c2; clear hb1)
          | (go_at_call 51; (with_reducible refine (HFR.out _ HB1.out).mono ?_); rintro e w2 ⟨rfl, hb2⟩; have HB2 := Lib.hid (below_next HB1.out hb2); obtain ⟨k0, k1, k2, k3, k4, k5, k6, k7, k8, k9, k10, k11⟩ := HKC.out _ HB2.out; clear hb2))
        go_ret2
        exact ⟨by rw [HV.out]; rfl, HB2.out⟩
      · rw [show kdW (kdOf 2) = strOf [100, 110, 115, 58] from rfl] at HV
        have hcat : ∀ w, (Op.stringOp .add ⟨#[100, 110, 115, 58]⟩ S).run Tryz.prog w = .ok (.string (strOf [100, 110, 115, 58] ++ S)) w := fun w => cat_any (strOf [100, 110, 115, 58]) _ (by rw [strOf_size]; simp only [List.length_cons, List.length_nil]; omega) w
        rw [show ((kdOf 2 : Nat) : Int) = 1 from rfl] at HK HFR
        clear hsz
        go_enter Tryz.func25, Tryz.ntmps25
        go_wp2_with (first
          | (go_at_call 50; (with_reducible refine HK.out.mono ?_); rintro e w1 ⟨rfl, hb1⟩; have HB1 := Lib.hid (below_next HB0.out hb1); have d0 := (hb1.cell (p := ⟨w.heap.size, 0, none⟩) l0).trans c0; have d1 := (hb1.cell (p := ⟨w.heap.size, 1, none⟩) l0).trans c1; have d2 := (hb1.cell (p := ⟨w.heap.size, 2, none⟩) l0).trans c2; clear hb1)
          | (go_at_call 51; (with_reducible refine (HFR.out _ HB1.out).mono ?_); rintro e w2 ⟨rfl, hb2⟩; have HB2 := Lib.hid (below_next HB1.out hb2); obtain ⟨k0, k1, k2, k3, k4, k5, k6, k7, k8, k9, k10, k11⟩ := HKC.out _ HB2.out; clear hb2))
        go_ret2
        exact ⟨by rw [HV.out]; rfl, HB2.out⟩
      · rw [show kdW (kdOf 4) = strOf [100, 105, 114, 58] from rfl] at HV
        have hcat : ∀ w, (Op.stringOp .add ⟨#[100, 105, 114, 58]⟩ S).run Tryz.prog w = .ok (.string (strOf [100, 105, 114, 58] ++ S)) w := fun w => cat_any (strOf [100, 105, 114, 58]) _ (by rw [strOf_size]; simp only [List.length_cons, List.length_nil]; omega) w
        rw [show ((kdOf 4 : Nat) : Int) = 2 from rfl] at HK HFR
        clear hsz
        go_enter Tryz.func25, Tryz.ntmps25
        go_wp2_with (first
          | (go_at_call 50; (with_reducible refine HK.out.mono ?_); rintro e w1 ⟨rfl, hb1⟩; have HB1 := Lib.hid (below_next HB0.out hb1); have d0 := (hb1.cell (p := ⟨w.heap.size, 0, none⟩) l0).trans c0; have d1 := (hb1.cell (p := ⟨w.heap.size, 1, none⟩) l0).trans c1; have d2 := (hb1.cell (p := ⟨w.heap.size, 2, none⟩) l0).trans c2; clear hb1)
          | (go_at_call 51; (with_reducible refine (HFR.out _ HB1.out).mono ?_); rintro e w2 ⟨rfl, hb2⟩; have HB2 := Lib.hid (below_next HB1.out hb2); obtain ⟨k0, k1, k2, k3, k4, k5, k6, k7, k8, k9, k10, k11⟩ := HKC.out _ HB2.out; clear hb2))
        go_ret2
        exact ⟨by rw [HV.out]; rfl, HB2.out⟩
      · rw [show kdW (kdOf 7) = strOf [105, 112, 58] from rfl] at HV
        have hcat : ∀ w, (Op.stringOp .add ⟨#[105, 112, 58]⟩ S).run Tryz.prog w = .ok (.string (strOf [105, 112, 58] ++ S)) w := fun w => cat_any (strOf [105, 112, 58]) _ (by rw [strOf_size]; simp only [List.length_cons, List.length_nil]; omega) w
        rw [show ((kdOf 7 : Nat) : Int) = 3 from rfl] at HK HFR
        clear hsz
        go_enter Tryz.func25, Tryz.ntmps25
        go_wp2_with (first
          | (go_at_call 50; (with_reducible refine HK.out.mono ?_); rintro e w1 ⟨rfl, hb1⟩; have HB1 := Lib.hid (below_next HB0.out hb1); have d0 := (hb1.cell (p := ⟨w.heap.size, 0, none⟩) l0).trans c0; have d1 := (hb1.cell (p := ⟨w.heap.size, 1, none⟩) l0).trans c1; have d2 := (hb1.cell (p := ⟨w.heap.size, 2, none⟩) l0).trans c2; clear hb1)
          | (go_at_call 51; (with_reducible refine (HFR.out _ HB1.out).mono ?_); rintro e w2 ⟨rfl, hb2⟩; have HB2 := Lib.hid (below_next HB1.out hb2); obtain ⟨k0, k1, k2, k3, k4, k5, k6, k7, k8, k9, k10, k11⟩ := HKC.out _ HB2.out; clear hb2))
        go_ret2
        exact ⟨by rw [HV.out]; rfl, HB2.out⟩
    · have hz1 := errno_ne hz
      have HV := Lib.hid (hrs.trans (if_neg hz))
      have hz4 : (((kdOf k : Nat) : Int) == 4) = false := by rcases hk with rfl | rfl | rfl | rfl <;> rfl
      generalize ((kdOf k : Nat) : Int) = z at HK HFR hz4
      clear hrs hrl hz hk
      go_enter Tryz.func25, Tryz.ntmps25
      go_wp2_with (first
        | (go_at_call 50; (with_reducible refine HK.out.mono ?_); rintro e w1 ⟨rfl, hb1⟩; have HB1 := Lib.hid (below_next HB0.out hb1); have d0 := (hb1.cell (p := ⟨w.heap.size, 0, none⟩) l0).trans c0; have d1 := (hb1.cell (p := ⟨w.heap.size, 1, none⟩) l0).trans c1; have d2 := (hb1.cell (p := ⟨w.heap.size, 2, none⟩) l0).trans c2; clear hb1)
        | (go_at_call 51; (with_reducible refine (HFR.out _ HB1.out).mono ?_); rintro e w2 ⟨rfl, hb2⟩; have HB2 := Lib.hid (below_next HB1.out hb2); obtain ⟨k0, k1, k2, k3, k4, k5, k6, k7, k8, k9, k10, k11⟩ := HKC.out _ HB2.out; clear hb2))
      go_ret2
      exact ⟨by rw [HV.out]; rfl, HB2.out⟩
  · have hk' : k ≠ 1 ∧ k ≠ 2 ∧ k ≠ 4 ∧ k ≠ 7 := by omega
    have HV := Lib.hid (show R = (⟨#[]⟩, 14) by rw [HR.out]; unfold fmtG; rw [if_neg hk'.1, if_neg hk'.2.1, if_neg hk'.2.2.2, if_neg hk'.2.2.1])
    rw [kdOf_no hk', show (((4 : Nat)) : Int) = 4 from rfl] at HK
    clear h hn ht hs h2 hT hS hK hW0 hb0 hq0 hR hk hk' 
    go_enter Tryz.func25, Tryz.ntmps25
    go_wp2_with (go_at_call 50; (with_reducible refine HK.out.mono ?_); rintro e w1 ⟨rfl, hb1⟩; have HB1 := Lib.hid (below_next HB0.out hb1); have d0 := (hb1.cell (p := ⟨w.heap.size, 0, none⟩) l0).trans c0; have d1 := (hb1.cell (p := ⟨w.heap.size, 1, none⟩) l0).trans c1; have d2 := (hb1.cell (p := ⟨w.heap.size, 2, none⟩) l0).trans c2; clear hb1)
    go_ret2
    exact ⟨by rw [HV.out]; rfl, HB1.out⟩
end Go.Proofs.YtflpajbcomhkpaaGreatDoor
