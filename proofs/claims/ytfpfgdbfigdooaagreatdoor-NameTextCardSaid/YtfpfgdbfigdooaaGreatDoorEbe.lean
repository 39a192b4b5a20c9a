/-
  The contract of the reference's EncodeName: the same element as Encode returns, or the same error.
  The size of what a made name's encoding is; Damage of any string.
  The contract of decodeRelative: the attributes of an element, or the first error.
  The contracts of decodeName and Decode: the name that bytes say, or the error.
-/
import Derived.Test.YtfpfgdbfigdooaaGreatDoorEbd
import Derived.Test.YtfpfgdbfigdooaaGreatDoorEbc
import Derived.Test.YtfpfgdbfigdooaaGreatDoorEap
namespace Go.Proofs.YtfpfgdbfigdooaaGreatDoor
open Go.RowKit

theorem catt_snoc (L : List ByteArray) (s : ByteArray) : cat_t (L ++ [s]) = cat_t L ++ s.data.toList := by simp [cat_t]

set_option maxRecDepth 100000 in
set_option maxHeartbeats 4000000 in
theorem rencode_core (a0 : Option Addr) (c m : Nat) (n : Nm) (w : World) (h : RLies w a0 n) (hn : m = n.length) (hs : SmallN n) :
    Calls Tryz.prog 15 #[.agg #[.slice a0 m c]] w fun e w' => e = .returned (.tuple #[.string (encV n), .int .i64 ((chkN n : Nat) : Int)]) ∧ Below w.heap.size w w' := by
  obtain ⟨W0, hW0⟩ : ∃ W0, W0 = w.alloc (.cells #[.slice a0 m c] 24) := ⟨_, rfl⟩
  have hwr : w.alloc (.cells #[.slice a0 m c] 24) = W0 := hW0.symm
  have hb0 : Below w.heap.size w W0 := by rw [hW0]; exact belowNew w _
  have hq0 : W0.heap[w.heap.size]? = some (.cells #[.slice a0 m c] 24 (0, 0)) := by rw [hW0]; exact heap_alloc_new w _
  have HC := Lib.hid (rchk_core a0 c m n W0 (h.below hb0) hn hs)
  obtain ⟨E, hE⟩ : ∃ E, E = chkN n := ⟨_, rfl⟩
  obtain ⟨V, hV⟩ : ∃ V, V = encV n := ⟨_, rfl⟩
  rw [← hE] at HC ⊢
  rw [← hV]
  have HB0 := Lib.hid hb0
  have HQ0 := Lib.hid hq0
  obtain ⟨c0, f0, l0⟩ := one_facts hq0
  by_cases hz : E = 0
  · have hch := chkN_zero (hE.symm.trans hz)
    have HV := Lib.hid (show V = wrapStr 48 (cat_t (n.map encR)) by rw [hV]; unfold encV; rw [← hE, if_pos hz]; rfl)
    have H1 := Lib.hid h
    have HN := Lib.hid hn
    have HS := Lib.hid hs
    have HCH := Lib.hid hch.2
    have hm8 : m ≤ 8 := by rw [hn]; exact hch.1
    subst hz
    clear hE hV hn hs hch h hW0 hb0 hq0
    go_enter Tryz.func15, Tryz.ntmps15
    go_wp2_with (go_at_call 17; (with_reducible refine HC.out.mono ?_); rintro e w1 ⟨rfl, hb1⟩; have HB1 := Lib.hid (below_next HB0.out hb1); have hq1 := (hb1.block w.heap.size l0).trans HQ0.out; obtain ⟨c1, f1, l1⟩ := one_facts hq1; clear hb1 hq1)
    clear c0 f0 l0 c1 f1 l1 hwr
    go_loopw [5, 16] (fun u i wr => ∃ (k : Nat) (S : ByteArray), k ≤ m ∧ i = .int .i64 (k : Int) ∧ u = .string S ∧ S.data.toList = cat_t ((n.take k).map encR) ∧ S.size ≤ 131080 * k ∧ Below w.heap.size w wr) (fun _ i _ => m - (intOf i).toNat)
    case atStart => exact ⟨0, ⟨#[]⟩, Nat.zero_le _, rfl, rfl, rfl, by decide, HB1.out⟩
    case round =>
      obtain ⟨k, S, hk, rfl, rfl, hS, hSz, hb⟩ := hrel
      have HB := Lib.hid hb
      have HSL := Lib.hid hS
      clear hb hS
      by_cases hlt : k < m
      · have hd : decide ((k : Int) < (m : Int)) = true := by simp; omega
        obtain ⟨b, o, rfl, hb, a', c', e0, hc', hL⟩ := H1.out.at k (by rw [← HN.out]; exact hlt)
        have a0 : wr.cell? ⟨b, o + k, none⟩ = _ := (HB.out.cell (p := ⟨b, o + k, none⟩) hb).trans e0
        have hst : (n.take (k + 1)).map encR = (n.take k).map encR ++ [encR (n.getD k [])] := by rw [takeD n k (by rw [← HN.out]; exact hlt) []]; simp
        have hsm := HS.out.2 k (by rw [← HN.out]; exact hlt)
        have hrz := (chkR_zero (HCH.out k (by rw [← HN.out]; exact hlt))).2.1
        generalize n.getD k [] = r at a0 hst hsm hc' hL hrz
        obtain ⟨q, hqq⟩ : ∃ q, q = r.length := ⟨_, rfl⟩
        rw [← hqq] at a0 hc'
        have HAT := Lib.hid (rattrs_any a' c' q r wr (hL.below HB.out) hqq hsm (by omega))
        obtain ⟨oo, hoo⟩ : ∃ oo, oo = (⟨(ordL (lists (r.map encA))).flatten.toArray⟩ : ByteArray) := ⟨_, rfl⟩
        have HOR := Lib.hid (fun v W (hv : Reads W v (r.map encA)) => rorder_any v (r.map encA) W hv (by rw [List.length_map]; omega) (encs_cat r q hqq.symm (by omega)))
        rw [← hoo] at HOR
        have hoz : oo.size ≤ 1099511627776 := by
          have h1 := encs_cat r q hqq.symm (by omega)
          have h2 : oo.size = (cat_t (r.map encA)).length := by
            rw [hoo]
            show ((ordL (lists (r.map encA))).flatten).length = _
            rw [((ordL_perm _).flatten).length_eq]
            simp [cat_t, lists, List.flatMap]
          omega
        obtain ⟨s, hs⟩ : ∃ s, s = encR r := ⟨_, rfl⟩
        have hsw : s = wr1 49 oo := by rw [hs, hoo]; rfl
        have hsz : s.size ≤ 131080 := by rw [hs]; exact encR_size r
        have HW1 := Lib.hid (fun g W h => rw1 49 g oo W h hoz)
        rw [← hsw] at HW1
        have hcat := cat_any S s (by omega)
        obtain ⟨T, hT⟩ : ∃ T, T = S ++ s := ⟨_, rfl⟩
        rw [← hT] at hcat
        have HTL := Lib.hid (show T.data.toList = cat_t ((n.take (k + 1)).map encR) by rw [hst, catt_snoc, ← HSL.out, ← hs, hT]; simp)
        have HTZ := Lib.hid (show T.size ≤ 131080 * (k + 1) by rw [hT, ByteArray.size_append]; omega)
        clear e0 hb hsm hs hst hrz hqq hL hc' hoo hoz hsw hT hsz
        go_wp2_with (first
          | (go_at_call 36; (with_reducible refine HAT.out.mono ?_); rintro e w3 ⟨⟨v3, rfl, ho3⟩, hb3⟩; have HR3 := Lib.hid ho3.reads; have HB3 := Lib.hid (below_next HB.out hb3); clear hb3 ho3)
          | (go_at_call 35; (with_reducible refine (HOR.out _ _ HR3.out).mono ?_); rintro e w4 ⟨rfl, hb4⟩; have HB4 := Lib.hid (below_next HB3.out hb4); clear hb4)
          | (go_at_call 34; (with_reducible refine (HW1.out _ _ (bx1 _ _ _)).mono ?_); rintro e w5 ⟨rfl, hb5⟩; have HB5 := Lib.hid (below_next HB4.out (below_next (belowNew _ _) hb5)); clear hb5))
        go_roundw
        case rel => exact ⟨k + 1, T, by omega, by go_num, rfl, HTL.out, HTZ.out, HB5.out⟩
        case measure => simp [intOf]; omega
      · have hd : decide ((k : Int) < (m : Int)) = false := by simp; omega
        have hF : V = wr1 48 S := by
          rw [HV.out, wr1, HSL.out, List.take_of_length_le (by rw [← HN.out]; omega)]
        have HF := Lib.hid hF
        have HW1 := Lib.hid (fun g W h => rw1 48 g S W h (by omega))
        rw [← hF] at HW1
        clear hF
        go_wp2_with (go_at_call 34; (with_reducible refine (HW1.out _ _ (bx1 _ _ _)).mono ?_); rintro e w5 ⟨rfl, hb5⟩; have HB5 := Lib.hid (below_next HB.out (below_next (belowNew _ _) hb5)); clear hb5)
        go_ret2
        exact ⟨rfl, HB5.out⟩
  · have hz1 := errno_ne hz
    have HV := Lib.hid (show V = ⟨#[]⟩ by rw [hV]; unfold encV; rw [← hE, if_neg hz])
    clear hE hV hn hs h hW0 hb0 hq0
    rw [HV.out]
    go_enter Tryz.func15, Tryz.ntmps15
    go_wp2_with (go_at_call 17; (with_reducible refine HC.out.mono ?_); rintro e w1 ⟨rfl, hb1⟩; have HB1 := Lib.hid (below_next HB0.out hb1); clear hb1)
    go_ret2
    exact ⟨rfl, HB1.out⟩
end Go.Proofs.YtfpfgdbfigdooaaGreatDoor
namespace Go.Proofs.YtfpfgdbfigdooaaGreatDoor
open Go.RowKit

theorem wrapStr_le (T : Int) (c : List UInt8) : (wrapStr T c).size ≤ c.length + 6 := by
  unfold wrapStr
  split
  · show (wrapL T.toNat c).toArray.size ≤ _
    unfold wrapL
    simp only [List.size_toArray, List.length_cons, List.length_append, lenO_length]
    have : lsz c.length ≤ 4 := by unfold lsz; split <;> (try split) <;> (try split) <;> omega
    omega
  · exact Nat.zero_le _
theorem encA_le (x : At) (h : x.2.2.size ≤ 30) : (encA x).size ≤ 103 := by
  have h1 := wrapStr_le 6 (oidS x.1).data.toList
  have h2 := wrapStr_le x.2.1 x.2.2.data.toList
  have h3 := wrapStr_le 48 ((wr1 6 (oidS x.1)).data.toList ++ (wr1 x.2.1 x.2.2).data.toList)
  have h4 := oidS_size x.1
  have e1 : (oidS x.1).data.toList.length = (oidS x.1).size := rfl
  have e2 : x.2.2.data.toList.length = x.2.2.size := rfl
  have e3 : (wr1 6 (oidS x.1)).data.toList.length = (wrapStr 6 (oidS x.1).data.toList).size := rfl
  have e4 : (wr1 x.2.1 x.2.2).data.toList.length = (wrapStr x.2.1 x.2.2.data.toList).size := rfl
  rw [List.length_append] at h3
  show (wrapStr 48 ((wr1 6 (oidS x.1)).data.toList ++ (wr1 x.2.1 x.2.2).data.toList)).size ≤ 103
  omega
theorem cat_lenM (M : Nat) : ∀ (ss : List ByteArray), (∀ s ∈ ss, s.size ≤ M) → (cat_t ss).length ≤ M * ss.length
  | [], _ => by simp [cat_t]
  | s :: r, h => by
    have h1 : s.data.toList.length ≤ M := h s List.mem_cons_self
    have h2 := cat_lenM M r (fun x hx => h x (List.mem_cons_of_mem _ hx))
    have e : cat_t (s :: r) = s.data.toList ++ cat_t r := rfl
    rw [e, List.length_append, List.length_cons, Nat.mul_succ]
    omega
set_option maxRecDepth 100000 in
set_option maxHeartbeats 2000000 in
theorem damage_all (p : Nat) (a : Option Addr) (cap : Nat) (zs : List Int) (k : Nat) (s : ByteArray) (w : World) (h : DeckAt w p a cap zs k) (hk : k ≤ 990) (hs : s.size ≤ 1099511627000) :
    Calls Tryz.prog 18 #[.pointer (some ⟨p, 0, none⟩), .string s] w fun e w' => ∃ (u : ByteArray) (k' : Nat), e = .returned (.string u) ∧ u.size ≤ s.size + 1 ∧ DeckAt w' p a cap zs k' ∧ k' ≤ k + 3 ∧ But p w w' := by
  by_cases h0 : s.size = 0
  · obtain rfl := empty_of_size h0
    have HD := Lib.hid h
    clear h hk hs h0
    go_enter Tryz.func18, Tryz.ntmps18
    go_wp2_with fail
    go_ret
    exact ⟨_, _, rfl, Nat.zero_le _, HD.out, by omega, But.refl _ _⟩
  · exact damage_but p a cap zs k s w h hk h0 hs
theorem lists_flat : ∀ (ss : List ByteArray), (lists ss).flatten.length = (cat_t ss).length
  | [] => rfl
  | s :: r => by
    have e : cat_t (s :: r) = s.data.toList ++ cat_t r := rfl
    have e2 : (lists (s :: r)).flatten = s.data.toList ++ (lists r).flatten := rfl
    rw [e, e2, List.length_append, List.length_append, lists_flat r]
theorem encR_le {r : List At} (hl : r.length ≤ 2) (h : ∀ x ∈ r, x.2.2.size ≤ 30) : (encR r).size ≤ 212 := by
  have h1 := wrapStr_le 49 (ordL (lists (r.map encA))).flatten
  rw [ordL_flat_length, lists_flat] at h1
  have h2 := cat_lenM 103 (r.map encA) (fun s hs => by obtain ⟨a, ha, rfl⟩ := List.mem_map.1 hs; exact encA_le a (h a ha))
  rw [List.length_map] at h2
  show (wrapStr 49 (ordL (lists (r.map encA))).flatten).size ≤ 212
  omega
theorem encV_le {n : Nm} (h : SpN 20 n) : (encV n).size ≤ 650 := by
  unfold encV
  split
  · have h1 := wrapStr_le 48 (cat_t (n.map encR))
    have h2 := cat_lenM 212 (n.map encR) (fun s hs => by obtain ⟨a, ha, rfl⟩ := List.mem_map.1 hs; exact encR_le (h.2 a ha).1 (fun x hx => Nat.le_trans ((h.2 a ha).2 x hx).2 (by omega)))
    rw [List.length_map] at h2
    have := h.1
    show (wrapStr 48 (cat_t (n.map encR))).size ≤ 650
    omega
  · exact Nat.zero_le _
end Go.Proofs.YtfpfgdbfigdooaaGreatDoor
namespace Go.Proofs.YtfpfgdbfigdooaaGreatDoor
open Go.RowKit

theorem ascB_iff {l : List El} {b : Bool} (h : b = true ↔ ascP l l.length) : b = ascB l := by
  unfold ascB
  cases b with
  | true => exact (@decide_eq_true _ (Classical.propDecidable _) (h.1 rfl)).symm
  | false => exact (@decide_eq_false _ (Classical.propDecidable _) (fun k => by cases h.2 k)).symm

set_option maxRecDepth 100000 in
set_option maxHeartbeats 8000000 in
theorem decrel_any (x : El) (w : World) (hx : x.2.1.size ≤ 1099511627) (hP : Pow10 w) :
    Calls Tryz.prog 70 #[elV x.1 x.2.1 x.2.2] w fun e w' => ∃ v, e = .returned (.tuple #[v, .int .i64 (((decR x).1 : Nat) : Int)]) ∧ OwnA w' w.heap.size v (decR x).2 ∧ Below w.heap.size w w' := by
  obtain ⟨E, A, hEA⟩ : ∃ E A, decR x = (E, A) := ⟨_, _, rfl⟩
  have HRES := Lib.hid (show (E, A) = decR x from hEA.symm)
  rw [hEA]
  clear hEA
  obtain ⟨t, ct, rw0⟩ := x
  unfold decR at HRES
  unfold elV
  simp only at hx HRES ⊢
  have q0 := heap_alloc_new w (.cells #[.int .i64 ((t : Nat) : Int), .string ct, .string rw0] 63)
  obtain ⟨e0, e1, e2, _, _, _, el⟩ := at_facts q0
  by_cases ht : t = 49
  case neg =>
    obtain ⟨rfl, rfl⟩ : E = 5 ∧ A = [] := by have := HRES.out; rw [if_pos ht] at this; simpa using this
    have hd : ((t : Int) != 49) = true := by simp; omega
    clear ht q0
    go_enter Tryz.func70, Tryz.ntmps70
    go_wp2_with fail
    go_ret2
    exact ⟨_, rfl, OwnA.nil _ _, belowNew w _⟩
  have hd : ((t : Int) != 49) = false := by rw [ht]; rfl
  obtain ⟨W0, hW0⟩ : ∃ W0, W0 = w.alloc (.cells #[.int .i64 ((t : Nat) : Int), .string ct, .string rw0] 63) := ⟨_, rfl⟩
  have HRE := Lib.hid (show (E, A) = if (lst ct).2 ≠ 0 then ((lst ct).2, []) else if ascB (lst ct).1 = false then (9, []) else decAs (lst ct).1 by have := HRES.out; rwa [if_neg (by simpa using ht)] at this)
  have hb0 : Below w.heap.size w W0 := by rw [hW0]; exact belowNew w _
  rw [← hW0] at e0 e1 e2 el
  have HLS := Lib.hid (list_any ct W0 (Nat.le_trans hx (by omega)))
  have HMEM := Lib.hid (fun z (hz : z ∈ (lst ct).1) => Nat.le_trans (lst_mem _ ct (Nat.le_refl _) z hz) hx)
  have hlen := lst_length ct _ (Nat.le_refl _)
  have HWE := Lib.hid hW0.symm
  have HB0 := Lib.hid hb0
  have HP0 := Lib.hid (hP.below hb0)
  generalize lst ct = LE at HLS HMEM hlen HRE
  obtain ⟨l, er⟩ := LE
  simp only at HLS HMEM hlen HRE
  have hwe := hW0.symm
  clear HRES ht q0 hW0 hb0 hP
  go_enter Tryz.func70, Tryz.ntmps70
  go_wp2_with fail
  clear hwe
  refine HLS.out.mono ?_
  rintro e w1 ⟨v1, rfl, ho1, hb1⟩
  have HOE := Lib.hid ho1
  obtain ⟨a, c, rfl, hlc, hel, hbk⟩ := ElAt.of ho1
  obtain ⟨n, hn⟩ : ∃ n, n = l.length := ⟨_, rfl⟩
  rw [← hn] at hlc hlen HOE ⊢
  have HN := Lib.hid hn
  have hnz : n ≤ 1099511627 := by omega
  have HEL := Lib.hid hel
  have HB1 := Lib.hid (below_next HB0.out hb1)
  have HP1 := Lib.hid (HP0.out.below hb1)
  clear ho1 hel hbk hb1 hn e0 e1 e2 el
  by_cases hz : er = 0
  case neg =>
    obtain ⟨rfl, rfl⟩ : E = er ∧ A = [] := by have := HRE.out; rw [if_pos hz] at this; simpa using this
    have hz1 := errno_ne hz
    clear hz
    go_wp2_with fail
    go_ret2
    exact ⟨_, rfl, OwnA.nil _ _, HB1.out⟩
  subst hz
  have HR2 := Lib.hid (show (E, A) = if ascB l = false then (9, []) else decAs l by have := HRE.out; rwa [if_neg (by simp)] at this)
  clear HRE
  have HAS := Lib.hid (asc_any _ _ l w1 HOE.out (by have := HN.out; omega))
  go_wp2_with fail
  refine HAS.out.mono ?_
  rintro e w2 ⟨⟨bb, rfl, hbb⟩, hb2⟩
  have hab := ascB_iff hbb
  have HAB := Lib.hid hab
  have HB2 := Lib.hid (below_next HB1.out hb2)
  have HEL2 := Lib.hid (HEL.out.below hb2)
  have HP2 := Lib.hid (HP1.out.below hb2)
  clear hbb hb2 hab
  cases bb with
  | false =>
    obtain ⟨rfl, rfl⟩ : E = 9 ∧ A = [] := by have := HR2.out; rw [if_pos HAB.out.symm] at this; simpa using this
    go_wp2_with fail
    go_ret2
    exact ⟨_, rfl, OwnA.nil _ _, HB2.out⟩
  | true =>
    have HRA := Lib.hid (show (E, A) = aheadA [] (decAs (l.drop 0)) by
      have := HR2.out
      rw [if_neg (by rw [← HAB.out]; decide)] at this
      rw [this, List.drop_zero, aheadA_nil decAs_err])
    clear HR2
    have hmk := ats_make n (by omega)
    obtain ⟨g, hg⟩ : ∃ g, g = w2.heap.size := ⟨_, rfl⟩
    obtain ⟨W3, hW3⟩ : ∃ W3, W3 = w2.alloc (.cells (rowA n []) 27) := ⟨_, rfl⟩
    have hq3 : W3.heap[g]? = some (.cells (rowA n []) 27 (0, 0)) := by rw [hW3, hg]; exact heap_alloc_new w2 _
    have hb3 : Below w2.heap.size w2 W3 := by rw [hW3]; exact belowNew w2 _
    have HQ3 := Lib.hid hq3
    have HB3 := Lib.hid (below_next HB2.out hb3)
    have HEL3 := Lib.hid (HEL2.out.below hb3)
    have HP3 := Lib.hid (HP2.out.below hb3)
    have HW3 := Lib.hid hW3.symm
    have HG := Lib.hid hg
    have hwg : w.heap.size ≤ g := by rw [hg]; exact HB2.out.size
    have hgW : g < W3.heap.size := (Array.getElem?_eq_some_iff.1 hq3).1
    clear hq3 hb3 hW3 hg
    go_wp2_with fail
    rw [HW3.out, ← HG.out]
    clear hmk
    go_loopw [29] (fun i wr => ∃ (k : Nat) (D : List At), k ≤ n ∧ i = .int .i64 (k : Int) ∧ D.length = k ∧ (E, A) = aheadA D (decAs (l.drop k)) ∧ wr.heap[g]? = some (.cells (rowA n D) 27 (0, 0)) ∧ But g W3 wr) (fun i _ => n - (intOf i).toNat)
    case atStart => exact ⟨0, [], Nat.zero_le _, rfl, rfl, HRA.out, HQ3.out, But.refl _ _⟩
    case round =>
      obtain ⟨k, D, hk, rfl, hDk, hA, hq, hb⟩ := hrel
      have HQ := Lib.hid hq
      have HB := Lib.hid hb
      have HA := Lib.hid hA
      have HDK := Lib.hid hDk
      have HBW := Lib.hid (show Below w.heap.size w wr from HB3.out.trans ((hb.below (Nat.le_of_lt hgW)).mono hwg))
      clear hq hb hA hDk
      by_cases hlt : k < n
      · have hd' : decide ((k : Int) < (n : Int)) = true := by simp; omega
        obtain ⟨b, o, rfl, hcl⟩ := HEL2.out.resolve_left (fun e => by have := HN.out; rw [e] at this; simp at this; omega)
        obtain ⟨x0, x1, x2⟩ := hcl k (by rw [← HN.out]; exact hlt)
        have hbe := (HB.out.below (Nat.le_of_lt hgW))
        have HB23 : Below g W3 wr := hbe
        have hw23 : Below g w2 W3 := by rw [← HW3.out, HG.out]; exact belowNew w2 _
        have hbg : b < g := by rw [HG.out]; exact block_lt x0
        have c0 := ((hw23.trans HB23).cell (p := ⟨b, o + k * 3, none⟩) hbg).trans x0
        have c1 := ((hw23.trans HB23).cell (p := ⟨b, o + k * 3 + 1, none⟩) hbg).trans x1
        have c2 := ((hw23.trans HB23).cell (p := ⟨b, o + k * 3 + 2, none⟩) hbg).trans x2
        have hki : (k : Int) < (n : Int) := by omega
        have hmz := HMEM.out (l.getD k noEle) (by rw [List.getD_eq_getElem?_getD, List.getElem?_eq_getElem (by rw [← HN.out]; exact hlt)]; exact List.getElem_mem _)
        have HST := Lib.hid (fun h0 => decAs_step (l := l) (k := k) (by rw [← HN.out]; exact hlt) h0 D)
        have HBD := Lib.hid (fun h0 => decAs_bad (l := l) (k := k) (by rw [← HN.out]; exact hlt) h0 D)
        generalize l.getD k noEle = y at c0 c1 c2 hmz HST HBD
        have HPW := Lib.hid (show Pow10 wr from HP2.out.below (by rw [← HG.out]; exact hw23.trans HB23))
        obtain ⟨yt, yc, yr⟩ := y
        have HDA := Lib.hid (fun W h => deca_any (yt, yc, yr) W hmz h)
        unfold elV at HDA
        obtain ⟨eA, aA, hda⟩ : ∃ eA aA, decA (yt, yc, yr) = (eA, aA) := ⟨_, _, rfl⟩
        rw [hda] at HST HBD HDA
        obtain ⟨at1, at2, at3⟩ := aA
        unfold atV at HDA
        simp only at c0 c1 c2 HDA HST HBD
        have hgl : g < wr.heap.size := (Array.getElem?_eq_some_iff.1 HQ.out).1
        clear x0 x1 x2 hcl hmz hda hbe HB23 hw23
        go_wp2_with fail
        refine (HDA.out _ (HPW.out.below (belowNew wr _))).mono ?_
        rintro e w5 ⟨rfl, hb5⟩
        have hbn : Below wr.heap.size wr w5 := below_next (belowNew wr _) hb5
        have hq5 := (hbn.block g hgl).trans HQ.out
        obtain ⟨⟨u0, m0⟩, z0⟩ := rowA_cells hq5 (by have := HDK.out; omega) hlt 0 (by omega)
        obtain ⟨⟨u1, m1⟩, z1⟩ := rowA_cells hq5 (by have := HDK.out; omega) hlt 1 (by omega)
        obtain ⟨⟨u2, m2⟩, z2⟩ := rowA_cells hq5 (by have := HDK.out; omega) hlt 2 (by omega)
        rw [Nat.add_zero] at m0 z0
        have HQ5 := Lib.hid hq5
        have HB5 := Lib.hid (HB.out.next (But.of hbn))
        have HBW5 := Lib.hid (below_next HBW.out hbn)
        have hs := (((HB5.out.next (But.set g (k * 3) w5 (.string at1))).next (But.set g (k * 3 + 1) _ (.int .i64 at2))).next (But.set g (k * 3 + 2) _ (.string at3)))
        have HS := Lib.hid hs
        clear hb5 hbn hq5 hs c0 c1 c2
        by_cases hz : eA = 0
        · subst hz
          have HF := Lib.hid (show (E, A) = aheadA (D ++ [(at1, at2, at3)]) (decAs (l.drop (k + 1))) from HA.out.trans (HST.out rfl))
          go_wp2_with fail
          go_roundw
          case rel => exact ⟨k + 1, D ++ [(at1, at2, at3)], by omega, by go_num, by rw [List.length_append, HDK.out]; rfl, HF.out, rowA_put (L := D) (a := (at1, at2, at3)) HQ5.out HDK.out.symm hlt, HS.out⟩
          case measure => simp [intOf]; omega
        · obtain ⟨rfl, rfl⟩ : E = eA ∧ A = [] := by have := HA.out.trans (HBD.out hz); simpa using this
          have hz1 := errno_ne hz
          clear hz
          go_wp2_with fail
          go_ret2
          exact ⟨_, rfl, OwnA.nil _ _, (((HBW5.out.setCell (p := ⟨g, k * 3, none⟩) hwg _).setCell (p := ⟨g, k * 3 + 1, none⟩) hwg _).setCell (p := ⟨g, k * 3 + 2, none⟩) hwg _)⟩
      · have hd' : decide ((k : Int) < (n : Int)) = false := by simp; omega
        obtain ⟨rfl, rfl⟩ : E = 0 ∧ A = D := by have := HA.out; rw [decAs_end (by rw [← HN.out]; omega)] at this; simpa using this
        go_wp2_with fail
        go_ret2
        exact ⟨_, rfl, rowA_own HQ.out hwg (by have := HDK.out; omega) hnz, HBW.out⟩
end Go.Proofs.YtfpfgdbfigdooaaGreatDoor
namespace Go.Proofs.YtfpfgdbfigdooaaGreatDoor
open Go.RowKit

theorem decRs_err : ∀ {l : List El}, (decRs l).1 ≠ 0 → (decRs l).2 = []
  | [], h => absurd rfl h
  | e :: r, h => by
    unfold decRs at h ⊢
    by_cases h1 : (decR e).1 ≠ 0
    · rw [if_pos h1]
    · rw [if_neg h1] at h ⊢
      by_cases h2 : (decRs r).1 ≠ 0
      · rw [if_pos h2]
      · rw [if_neg h2] at h; exact absurd rfl h
theorem decRs_step {l : List El} {k : Nat} (h : k < l.length) (h0 : (decR (l.getD k noEle)).1 = 0) (D : Nm) : aheadA D (decRs (l.drop k)) = aheadA (D ++ [(decR (l.getD k noEle)).2]) (decRs (l.drop (k + 1))) := by
  rw [dropD l k h noEle]
  show aheadA D (if (decR (l.getD k noEle)).1 ≠ 0 then _ else _) = _
  rw [if_neg (by simpa using h0)]
  by_cases h2 : (decRs (l.drop (k + 1))).1 ≠ 0
  · rw [if_pos h2]; unfold aheadA; rw [if_pos h2, if_pos h2]
  · rw [if_neg h2]; unfold aheadA; rw [if_neg (by simp), if_neg h2]; simp
theorem decRs_bad {l : List El} {k : Nat} (h : k < l.length) (h0 : (decR (l.getD k noEle)).1 ≠ 0) (D : Nm) : aheadA D (decRs (l.drop k)) = ((decR (l.getD k noEle)).1, []) := by
  rw [dropD l k h noEle]
  show aheadA D (if (decR (l.getD k noEle)).1 ≠ 0 then _ else _) = _
  rw [if_pos h0]; unfold aheadA; rw [if_pos h0]
theorem decRs_end {l : List El} {k : Nat} (h : l.length ≤ k) (D : Nm) : aheadA D (decRs (l.drop k)) = (0, D) := by
  rw [List.drop_eq_nil_of_le h]; simp [aheadA, decRs]

/-! ### A row of rows that is filled one by one -/
def rowV (n : Nat) (L : List Value) : Array Value := (L ++ List.replicate (n - L.length) (Value.slice none 0 0)).toArray
theorem rowV_size (n : Nat) (L : List Value) (h : L.length ≤ n) : (rowV n L).size = n := by simp [rowV]; omega
theorem rowV_snoc (n : Nat) (L : List Value) (v : Value) (k : Nat) (hk : k = L.length) (h : k < n) : (rowV n L).setIfInBounds k v = rowV n (L ++ [v]) := by
  obtain ⟨m, hm⟩ : ∃ m, n - L.length = m + 1 := ⟨n - L.length - 1, by omega⟩
  have hm2 : n - (L ++ [v]).length = m := by simp; omega
  unfold rowV
  rw [hm2, hm, List.replicate_succ, List.setIfInBounds_toArray, set_mid _ _ _ _ _ hk]
  simp
theorem rowV_put {w : World} {g n k : Nat} {L : List Value} {v : Value} {T : TypeId} (h : w.heap[g]? = some (.cells (rowV n L) T (0, 0))) (hk : k = L.length) (hn : k < n) :
    (w.setCell ⟨g, k, none⟩ v).heap[g]? = some (.cells (rowV n (L ++ [v])) T (0, 0)) := by
  rw [← rowV_snoc n L v k hk hn]
  simp [World.setCell, Array.getElem?_modify, h]
theorem rowV_cells {w : World} {g n k : Nat} {L : List Value} {T : TypeId} (h : w.heap[g]? = some (.cells (rowV n L) T (0, 0))) (hl : L.length ≤ n) (hn : k < n) : (∃ v, w.cell? ⟨g, k, none⟩ = some v) ∧ w.frozen? ⟨g, k, none⟩ = false := by
  refine ⟨⟨(rowV n L)[k]'(by rw [rowV_size n L hl]; omega), ?_⟩, Lib.frozen_of_heap h _⟩
  rw [Lib.cell_of_heap h, Array.getElem?_eq_getElem]
theorem rds_make (n : Nat) (hn : n ≤ 1099511627) (W : World) : (Instr.makeSlice 22 (.int .i64 (n : Int)) (.int .i64 (n : Int))).run Tryz.prog W = .ok (.slice (some ⟨W.heap.size, 0, none⟩) n n) (W.alloc (.cells (rowV n []) 33)) := by
  obtain ⟨i0, hi, hz0, hz1, hz2⟩ := info_parts rdInfo
  have hr := run_make (P := Tryz.prog) W 22 33 i0 (.slice none 0 0) Tryz.underlying22 hi hz0 .i64 .i64 (n : Int) (n : Int) (by omega) (Int.le_refl _) (by rw [hz2]; omega) (by omega)
  rw [hr]
  have e2 : madeCells (Value.slice none 0 0).cells ((n : Int).toNat * i0.size) = rowV n [] := by
    rw [hz1]
    apply Array.ext
    · simp [madeCells, Value.cells, rowV]
    · intro i h1 h2
      simp [madeCells, Value.cells, rowV, Nat.mod_one]
  rw [e2]
  simp
theorem rowV_own {w : World} {B g n : Nat} {L : List Value} {N : Nm} (h : w.heap[g]? = some (.cells (rowV n L) 33 (0, 0))) (hB : B ≤ g) (hl : L.length = n) (hN : N.length = n) (hn : n ≤ 1099511627) (ho : ∀ i, i < n → OwnA w B (L.getD i (.slice none 0 0)) (N.getD i [])) :
    OwnN w B (.slice (some ⟨g, 0, none⟩) n n) N := by
  subst hN
  have e : rowV N.length L = L.toArray := by unfold rowV; rw [hl]; simp
  rw [e] at h
  refine ⟨L, hl, ⟨by rw [hl, Nat.mul_one], .inr ⟨g, N.length, _, rfl, hB, h, Nat.le_refl _, ?_, ?_, ?_⟩⟩, ho⟩
  · unfold maxLen; omega
  · simp [hl]
  · exact List.take_of_length_le (by simp [hl])

theorem gsnoc_eq {α : Type} (l : List α) (a d : α) {k : Nat} (h : l.length = k) : (l ++ [a]).getD k d = a := by
  subst h; simp
theorem gsnoc_lt {α : Type} (l : List α) (a d : α) (i : Nat) (h : i < l.length) : (l ++ [a]).getD i d = l.getD i d := by
  rw [List.getD_eq_getElem?_getD, List.getElem?_append_left h, ← List.getD_eq_getElem?_getD]
set_option maxRecDepth 100000 in
set_option maxHeartbeats 8000000 in
theorem decnm0_any (b : ByteArray) (w : World) (hx : b.size ≤ 1099511627) (hP : Pow10 w) :
    Calls Tryz.prog 42 #[.string b] w fun e w' => ∃ v, e = .returned (.tuple #[v, .int .i64 (((decN0 b).1 : Nat) : Int)]) ∧ OwnV w' w.heap.size v (decN0 b).2 ∧ Below w.heap.size w w' := by
  obtain ⟨E, A, hEA⟩ : ∃ E A, decN0 b = (E, A) := ⟨_, _, rfl⟩
  have HRES := Lib.hid (show (E, A) = decN0 b from hEA.symm)
  rw [hEA]
  clear hEA
  unfold decN0 at HRES
  obtain ⟨W0, hW0⟩ : ∃ W0, W0 = w.alloc (.cells #[.slice none 0 0] 24) := ⟨_, rfl⟩
  have hb0 : Below w.heap.size w W0 := by rw [hW0]; exact belowNew w _
  have q0 : W0.heap[w.heap.size]? = some (.cells #[.slice none 0 0] 24 (0, 0)) := by rw [hW0]; exact heap_alloc_new w _
  have hz0 : W0.heap.size = w.heap.size + 1 := by rw [hW0]; simp
  have HWE := Lib.hid hW0.symm
  have HB0 := Lib.hid hb0
  have HQ0 := Lib.hid q0
  have HP0 := Lib.hid (hP.below hb0)
  have HON := Lib.hid (one_any b W0 (by omega))
  unfold oneVal at HON
  clear hW0 hb0 q0 hP
  go_enter Tryz.func42, Tryz.ntmps42
  go_wp2_with fail
  rw [HWE.out]
  by_cases h1 : oneErr b = 0
  case neg =>
    obtain ⟨hE, rfl⟩ : E = oneErr b ∧ A = [] := by have := HRES.out; rw [if_pos h1] at this; simpa using this
    rw [if_neg h1] at HON
    have hz1 := errno_ne h1
    unfold noEl at HON
    rw [← hE] at HON hz1
    clear h1 hE HRES
    refine HON.out.mono ?_
    rintro e w1 ⟨rfl, hb1⟩
    have hr := (hb1.block w.heap.size (by omega)).trans HQ0.out
    have bz := belowNew w1 (.cells #[.int .i64 0, .string ⟨#[]⟩, .string ⟨#[]⟩] 63)
    have hr2 := (bz.block w.heap.size (Array.getElem?_eq_some_iff.1 hr).1).trans hr
    have HR := Lib.hid hr2
    have HBF := Lib.hid (below_next (below_next HB0.out hb1) bz)
    obtain ⟨s0, f0, sl⟩ := one_facts hr2
    clear hb1 hr bz hr2
    go_wp2_with fail
    exact bodyPost_ret (nmRes rfl _ _ w _ rfl (one_set HR.out)) rfl ⟨_, rfl, ⟨_, rfl, OwnN.nil _ _⟩, HBF.out.setCell (p := ⟨w.heap.size, 0, none⟩) (Nat.le_refl _) _⟩
  rw [if_pos h1] at HON
  unfold elV at HON
  have hre := HRES.out
  rw [if_neg (by simpa using h1)] at hre
  have HRE := Lib.hid hre
  clear hre
  have hrc := rdContent_size (oneErr_rd h1)
  generalize rdTag b = t at HON HRE
  generalize rdContent b = ct at HON HRE hrc
  generalize rdRaw b = rw0 at HON
  clear HRES h1
  refine HON.out.mono ?_
  rintro e w1 ⟨rfl, hb1⟩
  obtain ⟨W1, hW1⟩ : ∃ W1, W1 = w1.alloc (.cells #[.int .i64 ((t : Nat) : Int), .string ct, .string rw0] 63) := ⟨_, rfl⟩
  have hbb : Below w1.heap.size w1 W1 := by rw [hW1]; exact belowNew w1 _
  obtain ⟨e0, e1, e2, _, _, _, el⟩ := at_facts (show W1.heap[w1.heap.size]? = _ from by rw [hW1]; exact heap_alloc_new w1 _)
  have HR1 := Lib.hid ((hbb.block w.heap.size (by have := hb1.size; omega)).trans ((hb1.block w.heap.size (by omega)).trans HQ0.out))
  have HB1 := Lib.hid (below_next (below_next HB0.out hb1) hbb)
  have HP1 := Lib.hid ((HP0.out.below hb1).below hbb)
  have hwe1 := hW1.symm
  obtain ⟨s0, f0, sl⟩ := one_facts HR1.out
  clear hb1 hbb hW1
  by_cases ht : t = 48
  case neg =>
    obtain ⟨rfl, rfl⟩ : E = 5 ∧ A = [] := by have := HRE.out; rw [if_pos ht] at this; simpa using this
    have hd : ((t : Int) != 48) = true := by simp; omega
    clear ht
    go_wp2_with fail
    exact bodyPost_ret (nmRes rfl _ _ w _ rfl (one_set HR1.out)) rfl ⟨_, rfl, ⟨_, rfl, OwnN.nil _ _⟩, HB1.out.setCell (p := ⟨w.heap.size, 0, none⟩) (Nat.le_refl _) _⟩
  have hd : ((t : Int) != 48) = false := by rw [ht]; rfl
  have hre := HRE.out
  rw [if_neg (by simpa using ht)] at hre
  have HRE2 := Lib.hid hre
  clear hre
  have HLS := Lib.hid (list_any ct W1 (by omega))
  have HMEM := Lib.hid (fun z (hz : z ∈ (lst ct).1) => Nat.le_trans (lst_mem _ ct (Nat.le_refl _) z hz) (show ct.size ≤ 1099511627 by omega))
  have hlen := lst_length ct _ (Nat.le_refl _)
  generalize lst ct = LE at HLS HMEM hlen HRE2
  obtain ⟨l, er⟩ := LE
  simp only at HLS HMEM hlen HRE2
  clear HRE ht s0 f0 sl
  go_wp2_with fail
  refine HLS.out.mono ?_
  rintro e w2 ⟨v2, rfl, ho2, hb2⟩
  obtain ⟨a, c, rfl, hlc, hel, hbk⟩ := ElAt.of ho2
  obtain ⟨n, hn⟩ : ∃ n, n = l.length := ⟨_, rfl⟩
  rw [← hn] at hlc hlen ⊢
  have HN := Lib.hid hn
  have hnz : n ≤ 1099511627 := by omega
  have HEL := Lib.hid hel
  have hwW1 : w.heap.size < W1.heap.size := (Array.getElem?_eq_some_iff.1 HR1.out).1
  have HR2 := Lib.hid ((hb2.block w.heap.size hwW1).trans HR1.out)
  have HB2 := Lib.hid (below_next HB1.out hb2)
  have HP2 := Lib.hid (HP1.out.below hb2)
  obtain ⟨s0, f0, sl⟩ := one_facts HR2.out
  clear ho2 hel hbk hb2 hn e0 e1 e2 el hwe1
  by_cases hz : er = 0
  case neg =>
    obtain ⟨rfl, rfl⟩ : E = er ∧ A = [] := by have := HRE2.out; rw [if_pos hz] at this; simpa using this
    have hz1 := errno_ne hz
    clear hz
    go_wp2_with fail
    exact bodyPost_ret (nmRes rfl _ _ w _ rfl (one_set HR2.out)) rfl ⟨_, rfl, ⟨_, rfl, OwnN.nil _ _⟩, HB2.out.setCell (p := ⟨w.heap.size, 0, none⟩) (Nat.le_refl _) _⟩
  subst hz
  have HRA := Lib.hid (show (E, A) = aheadA [] (decRs (l.drop 0)) by
    have := HRE2.out
    rw [if_neg (by simp)] at this
    rw [this, List.drop_zero, aheadA_nil decRs_err])
  clear HRE2
  have hmk := rds_make n (by omega)
  obtain ⟨g, hg⟩ : ∃ g, g = w2.heap.size := ⟨_, rfl⟩
  obtain ⟨W3, hW3⟩ : ∃ W3, W3 = (w2.alloc (.cells (rowV n []) 33)).alloc (.cells #[.slice (some ⟨w2.heap.size, 0, none⟩) n n] 24) := ⟨_, rfl⟩
  have hq3 : W3.heap[g]? = some (.cells (rowV n []) 33 (0, 0)) := by rw [hW3, hg]; exact ((belowNew _ _).block _ (by simp)).trans (heap_alloc_new w2 _)
  have hn3 : W3.heap[g + 1]? = some (.cells #[.slice (some ⟨g, 0, none⟩) n n] 24 (0, 0)) := by
    have := heap_alloc_new (w2.alloc (.cells (rowV n []) 33)) (.cells #[.slice (some ⟨w2.heap.size, 0, none⟩) n n] 24)
    rw [← hW3] at this
    rw [hg]
    simpa using this
  have hb3 : Below w2.heap.size w2 W3 := by rw [hW3]; exact belowTwo w2 _ _
  have HQ3 := Lib.hid hq3
  have HN3 := Lib.hid hn3
  have HR3 := Lib.hid ((hb3.block w.heap.size sl).trans HR2.out)
  have HB3 := Lib.hid (below_next HB2.out hb3)
  have HBG := Lib.hid (show Below g w2 W3 by rw [hg]; exact hb3)
  have HW3 := Lib.hid hW3.symm
  have HG := Lib.hid hg
  have hwg : w.heap.size < g := by rw [hg]; exact sl
  have hgW : g + 1 < W3.heap.size := (Array.getElem?_eq_some_iff.1 hn3).1
  clear hq3 hb3 hW3 hg hn3 s0 f0
  go_wp2_with fail
  rw [HW3.out, ← HG.out]
  clear hmk sl
  go_loopw [39] (fun i wr => ∃ (k : Nat) (D : Nm) (L : List Value), k ≤ n ∧ i = .int .i64 (k : Int) ∧ D.length = k ∧ L.length = k ∧ (E, A) = aheadA D (decRs (l.drop k)) ∧ wr.heap[g]? = some (.cells (rowV n L) 33 (0, 0)) ∧ (∀ i, i < k → OwnA wr W3.heap.size (L.getD i (.slice none 0 0)) (D.getD i [])) ∧ But g W3 wr) (fun i _ => n - (intOf i).toNat)
  case atStart => exact ⟨0, [], [], Nat.zero_le _, rfl, rfl, rfl, HRA.out, HQ3.out, fun i hi => absurd hi (Nat.not_lt_zero _), But.refl _ _⟩
  case round =>
    obtain ⟨k, D, L, hk, rfl, hDk, hLk, hA, hq, how, hb⟩ := hrel
    have HQ := Lib.hid hq
    have HB := Lib.hid hb
    have HA := Lib.hid hA
    have HDK := Lib.hid hDk
    have HLK := Lib.hid hLk
    have HOW := Lib.hid how
    have HBW := Lib.hid (show Below w.heap.size w wr from HB3.out.trans ((hb.below (by omega)).mono (by omega)))
    have HRR := Lib.hid ((hb.block w.heap.size (by omega) (by simp; omega)).trans HR3.out)
    have hnn := (hb.block (g + 1) hgW (by simp)).trans HN3.out
    have HNN := Lib.hid hnn
    have hgl : g < wr.heap.size := (Array.getElem?_eq_some_iff.1 hq).1
    have hgl1 : g + 1 < wr.heap.size := (Array.getElem?_eq_some_iff.1 hnn).1
    clear hq hb hA hDk hLk how hnn
    by_cases hlt : k < n
    · have hd' : decide ((k : Int) < (n : Int)) = true := by simp; omega
      obtain ⟨b3, o, rfl, hcl⟩ := HEL.out.resolve_left (fun e => by have := HN.out; rw [e] at this; simp at this; omega)
      obtain ⟨x0, x1, x2⟩ := hcl k (by rw [← HN.out]; exact hlt)
      have hwx : Below g w2 wr := HBG.out.trans (HB.out.below (by omega))
      have hbg : b3 < g := by rw [HG.out]; exact block_lt x0
      have c0 := (hwx.cell (p := ⟨b3, o + k * 3, none⟩) hbg).trans x0
      have c1 := (hwx.cell (p := ⟨b3, o + k * 3 + 1, none⟩) hbg).trans x1
      have c2 := (hwx.cell (p := ⟨b3, o + k * 3 + 2, none⟩) hbg).trans x2
      have hki : (k : Int) < (n : Int) := by omega
      have hmz := HMEM.out (l.getD k noEle) (by rw [List.getD_eq_getElem?_getD, List.getElem?_eq_getElem (by rw [← HN.out]; exact hlt)]; exact List.getElem_mem _)
      have HST := Lib.hid (fun h0 => decRs_step (l := l) (k := k) (by rw [← HN.out]; exact hlt) h0 D)
      have HBD := Lib.hid (fun h0 => decRs_bad (l := l) (k := k) (by rw [← HN.out]; exact hlt) h0 D)
      generalize l.getD k noEle = y at c0 c1 c2 hmz HST HBD
      have HPW := Lib.hid (show Pow10 wr from HP2.out.below (by rw [← HG.out]; exact hwx))
      obtain ⟨yt, yc, yr⟩ := y
      have HDA := Lib.hid (fun W h => decrel_any (yt, yc, yr) W hmz h)
      unfold elV at HDA
      obtain ⟨eA, aA, hda⟩ : ∃ eA aA, decR (yt, yc, yr) = (eA, aA) := ⟨_, _, rfl⟩
      rw [hda] at HST HBD HDA
      simp only at c0 c1 c2 HDA HST HBD
      obtain ⟨W4, hW4⟩ : ∃ W4, W4 = wr.alloc (.cells #[.int .i64 ((yt : Nat) : Int), .string yc, .string yr] 63) := ⟨_, rfl⟩
      have hb4 : Below wr.heap.size wr W4 := by rw [hW4]; exact belowNew wr _
      obtain ⟨t0, t1, t2, _, _, _, tl⟩ := at_facts (show W4.heap[wr.heap.size]? = _ from by rw [hW4]; exact heap_alloc_new wr _)
      have HWE4 := Lib.hid hW4.symm
      have m0 := (hb4.cell (p := ⟨g + 1, 0, none⟩) hgl1).trans (one_facts HNN.out).1
      have HB4 := Lib.hid hb4
      have HPW4 := Lib.hid (HPW.out.below hb4)
      obtain ⟨q, hq⟩ : ∃ q, q = wr.heap.size := ⟨_, rfl⟩
      rw [← hq] at t0 t1 t2 tl hgl hgl1
      have HQQ := Lib.hid hq
      have hlg1 : g + 1 < W4.heap.size := block_lt m0
      have hgq : ¬ g = q := by omega
      have hgq' : ¬ q = g := by omega
      clear x0 x1 x2 hcl hmz hda hwx hW4 hb4 hq
      go_wp2_with fail
      rw [HWE4.out, ← HQQ.out]
      clear c0 c1 c2
      go_region_held3 (fun w' => w'.cell? ⟨g + 1, 0, none⟩ = some (.slice (some ⟨g, 0, none⟩) n n) ∧ w'.cell? ⟨q, 0, none⟩ = some (.int .i64 ((yt : Nat) : Int)) ∧ w'.cell? ⟨q, 1, none⟩ = some (.string yc) ∧ w'.cell? ⟨q, 2, none⟩ = some (.string yr)) (first | exact ⟨by assumption, by assumption, by assumption, by assumption⟩ | go_keep)
        (first
          | (go_at_call 70; (with_reducible refine (HDA.out _ (by first | exact HPW4.out | exact HPW4.out.below (Below.refl _ _).drew)).mono ?_); rintro e w5 ⟨v5, rfl, ho5, hb5⟩; have hb5' : Below W4.heap.size W4 w5 := (by first | exact hb5 | exact (Below.refl _ _).drew.trans hb5); obtain ⟨a5, c5, rfl, _, _⟩ := ho5.lies; have m0' := (hb5'.cell (p := ⟨g + 1, 0, none⟩) hlg1).trans m0; have t0' := (hb5'.cell (p := ⟨q, 0, none⟩) tl).trans t0; have t1' := (hb5'.cell (p := ⟨q, 1, none⟩) tl).trans t1; have t2' := (hb5'.cell (p := ⟨q, 2, none⟩) tl).trans t2; have hbn : Below wr.heap.size wr w5 := below_next HB4.out hb5'; have hq5 := (hbn.block g (Array.getElem?_eq_some_iff.1 HQ.out).1).trans HQ.out; obtain ⟨⟨u0, n0⟩, z0⟩ := rowV_cells hq5 (by have := HLK.out; omega) hlt; have HQ5 := Lib.hid hq5; have HBN := Lib.hid hbn; have HO5 := Lib.hid (show OwnA w5 W3.heap.size (.slice a5 aA.length c5) aA from OwnA.base ho5 (by have h1 := HB.out.size; have h2 := HB4.out.size; simp only [World.drew] ; omega)); clear hb5 hb5' hbn hq5 ho5))
      all_goals
        by_cases hz : eA = 0
        · subst hz
          have HF := Lib.hid (show (E, A) = aheadA (D ++ [aA]) (decRs (l.drop (k + 1))) from HA.out.trans (HST.out rfl))
          have HOX := Lib.hid (show ∀ i, i < k + 1 → OwnA (w5.setCell ⟨g, k, none⟩ (.slice a5 aA.length c5)) W3.heap.size ((L ++ [Value.slice a5 aA.length c5]).getD i (.slice none 0 0)) ((D ++ [aA]).getD i []) from fun i hi => by
            by_cases e : i = k
            · subst e
              rw [gsnoc_eq _ _ _ HLK.out, gsnoc_eq _ _ _ HDK.out]
              exact HO5.out.but (p := g) (But.set g _ w5 _) (by omega)
            · rw [gsnoc_lt _ _ _ _ (by rw [HLK.out]; omega), gsnoc_lt _ _ _ _ (by rw [HDK.out]; omega)]
              exact ((HOW.out i (by omega)).below HBN.out).but (p := g) (But.set g _ w5 _) (by omega))
          have HBX := Lib.hid ((HB.out.next (But.of HBN.out)).next (But.set g k w5 (.slice a5 aA.length c5)))
          clear m0' t0' t1' t2' m0 t0 t1 t2
          go_wp2_with fail
          go_roundw
          case rel => exact ⟨k + 1, D ++ [aA], L ++ [Value.slice a5 aA.length c5], by omega, by go_num, by rw [List.length_append, HDK.out]; rfl, by rw [List.length_append, HLK.out]; rfl, HF.out, rowV_put (L := L) HQ5.out HLK.out.symm hlt, HOX.out, HBX.out⟩
          case measure => simp [intOf]; omega
        · obtain ⟨rfl, rfl⟩ : E = eA ∧ A = [] := by have := HA.out.trans (HBD.out hz); simpa using this
          have hz1 := errno_ne hz
          have hr5 := (HBN.out.block w.heap.size (Array.getElem?_eq_some_iff.1 HRR.out).1).trans HRR.out
          have HRX := Lib.hid (((But.set g k w5 (.slice a5 aA.length c5)).block w.heap.size (Array.getElem?_eq_some_iff.1 hr5).1 (by simp; omega)).trans hr5)
          obtain ⟨r0, r1, r2⟩ := one_facts hr5
          have hwg1 : ¬ w.heap.size = g := by omega
          have hwg2 : ¬ g = w.heap.size := by omega
          have HBX := Lib.hid (below_next HBW.out HBN.out)
          clear hz hr5 m0' t0' t1' t2' m0 t0 t1 t2
          go_wp2_with fail
          exact bodyPost_ret (nmRes rfl _ _ w _ rfl (one_set HRX.out)) rfl ⟨_, rfl, ⟨_, rfl, OwnN.nil _ _⟩, (HBX.out.setCell (p := ⟨g, k, none⟩) (Nat.le_of_lt hwg) _).setCell (p := ⟨w.heap.size, 0, none⟩) (Nat.le_refl _) _⟩
    · have hd' : decide ((k : Int) < (n : Int)) = false := by simp; omega
      obtain ⟨rfl, rfl⟩ : E = 0 ∧ A = D := by have := HA.out; rw [decRs_end (by rw [← HN.out]; omega)] at this; simpa using this
      obtain ⟨r0, r1, r2⟩ := one_facts HRR.out
      obtain ⟨m0, _, _⟩ := one_facts HNN.out
      have hk' : k = n := by omega
      have HOV := Lib.hid (show OwnN wr g (.slice (some ⟨g, 0, none⟩) n n) A from rowV_own HQ.out (Nat.le_refl _) (by rw [HLK.out]; exact hk') (by rw [HDK.out]; exact hk') hnz (fun i hi => (HOW.out i (by omega)).base (by omega)))
      clear hk'
      go_wp2_with fail
      exact bodyPost_ret (nmRes rfl _ _ w _ rfl (one_set HRR.out)) rfl ⟨_, rfl, ⟨_, rfl, (HOV.out.but (p := w.heap.size) (But.set _ _ _ _) hwg).base (Nat.le_of_lt hwg)⟩, HBW.out.setCell (p := ⟨w.heap.size, 0, none⟩) (Nat.le_refl _) _⟩
end Go.Proofs.YtfpfgdbfigdooaaGreatDoor
