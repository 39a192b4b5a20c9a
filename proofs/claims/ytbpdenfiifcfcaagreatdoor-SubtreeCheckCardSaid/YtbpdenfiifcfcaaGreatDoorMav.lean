/-
  The contracts of the reference's attributes and EncodeName: the same element.
  The contract of the reference's EncodeName: the same element as Encode returns, or the same error.
  General names: what Check, Encode, Same, Match and Within answer, said over a kind, a text and a name. Nothing is claimed of the program here.
  The contract of the reference's CheckGeneral: the first error of a general name.
-/
import Derived.Test.YtbpdenfiifcfcaaGreatDoorMau
import Derived.Test.YtbpdenfiifcfcaaGreatDoorMak
import Derived.Test.YtbpdenfiifcfcaaGreatDoorMad
import Derived.Test.YtbpdenfiifcfcaaGreatDoorMal
import Derived.Test.YtbpdenfiifcfcaaGreatDoorMan
namespace Go.Proofs.YtbpdenfiifcfcaaGreatDoor
open Go.RowKit

theorem OwnT.reads {w : World} {B : Nat} {v : Value} {ss : List ByteArray} (h : OwnT w B v ss) : Reads w v ss := by
  rcases h.2 with ⟨hv, h0⟩ | ⟨g, cap, cur, hv, hB, hg, hn, _, hcs, htk⟩
  · exact ⟨none, 0, by rw [hv, h0], .inl (List.eq_nil_of_length_eq_zero h0)⟩
  · refine ⟨_, cap, hv, .inr ⟨g, 0, rfl, fun j hj => ?_⟩⟩
    rw [cell_of_row w g _ _ _ _ hg]
    have : (cur.toList.take (ss.length * 1))[j]? = some (.string ss[j]) := by rw [htk]; simp [hj]
    rw [List.getElem?_take_of_lt (by omega)] at this
    rw [List.getD_eq_getElem?_getD, List.getElem?_eq_getElem hj, Nat.zero_add]
    simpa using this
theorem strT_next {w wr w1 w2 : World} {B : Nat} {v v' : Value} {D : List ByteArray} {y : ByteArray} (hB : w.heap.size ≤ B) (hown : OwnT wr B v D) (hb : Below w.heap.size w wr) (hb1 : Below wr.heap.size wr w1)
    (hown2 : w2.ownsRow B 9 1 v' (D.length + 1) (D.map Value.string ++ [.string y])) (hgr2 : w1.grownBy w2 v.ownBlock) : OwnT w2 B v' (D ++ [y]) ∧ Below w.heap.size w w2 := by
  have h1 := hb.size
  have h2 := hb1.size
  refine ⟨?_, ?_⟩
  · unfold OwnT
    rw [List.length_append, List.map_append]; exact hown2
  · exact (hb.trans (hb1.mono h1)).grown hgr2 (by omega) (fun k e => Nat.le_trans hB (World.ownsRow.lt hown k e).1)
set_option maxRecDepth 100000 in
set_option maxHeartbeats 8000000 in
theorem rattrs_any (a0 : Option Addr) (c n : Nat) (l : List At) (w : World) (h : ALies w a0 l) (hn : n = l.length) (hs : SmallR l) (hl : n ≤ 1000) :
    Calls Tryz.prog 106 #[.slice a0 n c] w fun e w' => (∃ v, e = .returned v ∧ OwnT w' w.heap.size v (l.map encA)) ∧ Below w.heap.size w w' := by
  obtain ⟨i0, hi, hz0, hz1, hz2⟩ := info_parts strInfo2
  have H1 := Lib.hid h
  have HN := Lib.hid hn
  have HS := Lib.hid hs
  clear h hn hs
  go_enter Tryz.func106, Tryz.ntmps106
  go_wp2_with fail
  go_loopw [3, 8] (fun v i wr => ∃ (k : Nat) (D : List ByteArray) (u : Value), k ≤ n ∧ i = .int .i64 (k : Int) ∧ v = u ∧ D = (l.take k).map encA ∧ D.length = k ∧ OwnT wr w.heap.size u D ∧ Below w.heap.size w wr) (fun _ i _ => n - (intOf i).toNat)
  case atStart => exact ⟨0, [], _, Nat.zero_le _, rfl, rfl, rfl, rfl, World.ownsRow_nil _ _ _ _, Below.refl _ _⟩
  case round =>
    obtain ⟨k, D, u, hk, rfl, rfl, hD, hDk, hown, hb⟩ := hrel
    have HB := Lib.hid hb
    have HO := Lib.hid hown
    have HD := Lib.hid hD
    have HDK := Lib.hid hDk
    clear hb hown hD hDk
    by_cases hlt : k < n
    · have hd : decide ((k : Int) < (n : Int)) = true := by simp; omega
      obtain ⟨b, o, rfl, hb, c0, c1, c2⟩ := H1.out.at k (by rw [← HN.out]; exact hlt)
      have a0 : wr.cell? ⟨b, o + k * 3, none⟩ = _ := (HB.out.cell (p := ⟨b, o + k * 3, none⟩) hb).trans c0
      have a1 : wr.cell? ⟨b, o + k * 3 + 1, none⟩ = _ := (HB.out.cell (p := ⟨b, o + k * 3 + 1, none⟩) hb).trans c1
      have a2 : wr.cell? ⟨b, o + k * 3 + 2, none⟩ = _ := (HB.out.cell (p := ⟨b, o + k * 3 + 2, none⟩) hb).trans c2
      have hst : (l.take (k + 1)).map encA = (l.take k).map encA ++ [encA (l.getD k noAt)] := by rw [takeD l k (by rw [← HN.out]; exact hlt) noAt]; simp
      have hsm := HS.out.2 k (by rw [← HN.out]; exact hlt)
      generalize l.getD k noAt = y at a0 a1 a2 hst hsm
      obtain ⟨t, kd, v⟩ := y
      have HOI := Lib.hid (fun W => roid_any t W (Nat.le_trans hsm.1 (by omega)))
      have hvz : v.size ≤ 1099511627776 := Nat.le_trans hsm.2 (by omega)
      obtain ⟨e1, he1⟩ : ∃ e1, e1 = wr1 6 (oidS t) := ⟨_, rfl⟩
      obtain ⟨e2, he2⟩ : ∃ e2, e2 = wr1 kd v := ⟨_, rfl⟩
      have hz1' : e1.size ≤ 131080 := by rw [he1]; exact wrapStr_size _ _
      have hz2' : e2.size ≤ 131080 := by rw [he2]; exact wrapStr_size _ _
      have HW1 := Lib.hid (fun g W h => rw1 kd g v W h hvz)
      have HW2 := Lib.hid (fun g W h k => rw2 48 g e1 e2 W h k (by omega))
      obtain ⟨s, hs⟩ : ∃ s, s = wr2 48 e1 e2 := ⟨_, rfl⟩
      have hse : encA (t, kd, v) = s := by rw [hs, he1, he2]; rfl
      rw [← he1] at HOI
      rw [← he2] at HW1
      rw [← hs] at HW2
      have HST := Lib.hid (show (l.take (k + 1)).map encA = D ++ [s] by rw [hst, hse, HD.out])
      obtain ⟨W1, hW1⟩ : ∃ W1, W1 = wr.alloc (.cells #[.string t, .int .i64 kd, .string v] 86) := ⟨_, rfl⟩
      have hwe : wr.alloc (.cells #[.string t, .int .i64 kd, .string v] 86) = W1 := hW1.symm
      obtain ⟨d0, d1, d2, _, _, _, hlt1⟩ := at_facts (heap_alloc_new wr (.cells #[.string t, .int .i64 kd, .string v] 86))
      have HBN := Lib.hid (belowNew wr (.cells #[.string t, .int .i64 kd, .string v] 86))
      rw [hwe] at d0 d1 d2 HBN hlt1
      obtain ⟨g, hg⟩ : ∃ g, g = wr.heap.size := ⟨_, rfl⟩
      rw [← hg] at d0 d1 d2 hlt1
      have HWE := Lib.hid hwe
      have HG := Lib.hid hg
      clear c0 c1 c2 hb hsm hst hs he1 he2 hse hvz hwe hW1 hg hz1' hz2'
      go_wp2_with fail
      rw [HWE.out, ← HG.out]
      clear a0 a1 a2
      go_region_held3 (fun w' => w'.cell? ⟨g, 0, none⟩ = some (.string t) ∧ w'.cell? ⟨g, 1, none⟩ = some (.int .i64 kd) ∧ w'.cell? ⟨g, 2, none⟩ = some (.string v)) (first | exact ⟨by assumption, by assumption, by assumption⟩ | go_keep)
        (first
          | (go_at_call 126; (with_reducible refine (HOI.out _).mono ?_); rintro e x1 ⟨rfl, hb⟩; have hx : Below W1.heap.size W1 x1 := (by first | exact below_next (Below.refl _ W1).drew hb | exact below_next (belowNew W1 _).drew hb | exact below_next HX2.out hb | exact below_next (Below.refl _ W1) hb | exact below_next (belowNew W1 _) hb); have d0' := (hx.cell (p := ⟨g, 0, none⟩) hlt1).trans d0; have d1' := (hx.cell (p := ⟨g, 1, none⟩) hlt1).trans d1; have d2' := (hx.cell (p := ⟨g, 2, none⟩) hlt1).trans d2; (try (have rv := (hb.cell (p := ⟨W1.heap.size, 0, none⟩) (by simp <;> omega)).trans (bx1d W1 v 9))); have HX1 := Lib.hid hx; clear hb hx)
          | (go_at_call 37; (with_reducible refine (HW1.out _ _ (by first | exact bx1 _ _ _ | exact bx1d _ _ _ | assumption)).mono ?_); rintro e x2 ⟨rfl, hb⟩; have hx : Below W1.heap.size W1 x2 := (by first | exact below_next (belowNew W1 _).drew hb | exact below_next (below_next HX1.out (belowNew x1 _)) hb | exact below_next HX1.out hb); have d0' := (hx.cell (p := ⟨g, 0, none⟩) hlt1).trans d0; have d1' := (hx.cell (p := ⟨g, 1, none⟩) hlt1).trans d1; have d2' := (hx.cell (p := ⟨g, 2, none⟩) hlt1).trans d2; have HX2 := Lib.hid hx; clear hb hx)
          | (go_at_call 37; (with_reducible refine (HW2.out _ _ (by first | exact by0 _ _ _ _ | exact by0d _ _ _ _) (by first | exact by1 _ _ _ _ | exact by1d _ _ _ _)).mono ?_); rintro e x3 ⟨rfl, hb⟩; have hx : Below W1.heap.size W1 x3 := (by first | exact below_next (below_next HX2.out (belowNew x2 _)) hb | exact below_next (below_next HX1.out (belowNew x1 _)) hb); have d0' := (hx.cell (p := ⟨g, 0, none⟩) hlt1).trans d0; have d1' := (hx.cell (p := ⟨g, 1, none⟩) hlt1).trans d1; have d2' := (hx.cell (p := ⟨g, 2, none⟩) hlt1).trans d2; have HX3 := Lib.hid hx; clear hb hx)
          | (refine step_append_own rfl (.tmp 12) (.tmp 24) 46 rfl w.heap.size 9 i0 (.string ⟨#[]⟩) 16 Tryz.underlying46 hi hz0 hz1 hz2 rfl _ D.length (D.map Value.string) (by simp [Act.eval]) ((own_below (own_below HO.out HBN.out) HX3.out).alloc _) ⟨x3.heap.size, 0, none⟩ 1 1 [.string s] (by simp [Act.eval]) rfl (row_news x3 _ _) (str_one s) (by have := HDK.out; unfold maxLen; omega) (by have := HDK.out; omega) (by have h1 := HB.out.size; have h2 := HBN.out.size; have h3 := HX3.out.size; simp; omega) ?_; intro v' w9 hown9 hgr9 _; obtain ⟨P1, P2⟩ := strT_next (Nat.le_refl _) HO.out HB.out (below_next (below_next HBN.out HX3.out) (belowNew x3 _)) hown9 hgr9; have hgx : g < x3.heap.size := Nat.lt_of_lt_of_le hlt1 HX3.out.size; have hbk : w9.heap[g]? = x3.heap[g]? := (hgr9.block g (by simp; omega) (fun e => by have h1 := (World.ownsRow.lt HO.out g e.symm).2; have h2 := HG.out; omega)).trans ((belowNew x3 _).block g hgx); have d0'' := (cell_same hbk 0).trans d0'; have d1'' := (cell_same hbk 1).trans d1'; have d2'' := (cell_same hbk 2).trans d2'; have HP1 := Lib.hid P1; have HP2 := Lib.hid P2; clear P1 P2 hown9 hgr9 hbk))
      all_goals
        clear d0 d1 d2
        go_wp2_with fail
        go_roundw
        case rel => exact ⟨k + 1, D ++ [s], _, by omega, by go_num, rfl, HST.out.symm, by rw [List.length_append, HDK.out]; rfl, HP1.out, HP2.out⟩
        case measure => simp [intOf]; omega
    · have hd : decide ((k : Int) < (n : Int)) = false := by simp; omega
      have HF := Lib.hid (show D = l.map encA by rw [HD.out, List.take_of_length_le (by rw [← HN.out]; omega)])
      go_wp2_with fail
      go_ret
      exact ⟨⟨_, rfl, by rw [← HF.out]; exact HO.out⟩, HB.out⟩
end Go.Proofs.YtbpdenfiifcfcaaGreatDoor
namespace Go.Proofs.YtbpdenfiifcfcaaGreatDoor
open Go.RowKit

theorem catt_snoc (L : List ByteArray) (s : ByteArray) : cat_t (L ++ [s]) = cat_t L ++ s.data.toList := by simp [cat_t]

set_option maxRecDepth 100000 in
set_option maxHeartbeats 4000000 in
theorem rencode_core (a0 : Option Addr) (c m : Nat) (n : Nm) (w : World) (h : RLies w a0 n) (hn : m = n.length) (hs : SmallN n) :
    Calls Tryz.prog 83 #[.agg #[.slice a0 m c]] w fun e w' => e = .returned (.tuple #[.string (encV n), .int .i64 ((chkN n : Nat) : Int)]) ∧ Below w.heap.size w w' := by
  obtain ⟨W0, hW0⟩ : ∃ W0, W0 = w.alloc (.cells #[.slice a0 m c] 27) := ⟨_, rfl⟩
  have hwr : w.alloc (.cells #[.slice a0 m c] 27) = W0 := hW0.symm
  have hb0 : Below w.heap.size w W0 := by rw [hW0]; exact belowNew w _
  have hq0 : W0.heap[w.heap.size]? = some (.cells #[.slice a0 m c] 27 (0, 0)) := by rw [hW0]; exact heap_alloc_new w _
  have HC := Lib.hid (rchk_core a0 c m n W0 (h.below hb0) hn hs)
  obtain ⟨E, hE⟩ : ∃ E, E = chkN n := ⟨_, rfl⟩
  obtain ⟨V, hV⟩ : ∃ V, V = encV n := ⟨_, rfl⟩
  rw [← hE] at HC ⊢
  rw [← hV]
  have HB0 := Lib.hid hb0
  have HQ0 := Lib.hid hq0
  obtain ⟨c0, f0, l0⟩ := one_facts hq0
  by_cases hz : E = 0
  · have hch := chkN_zero (hE.symm.trans hz)
    have HV := Lib.hid (show V = wrapStr 48 (cat_t (n.map encR)) by rw [hV]; unfold encV; rw [← hE, if_pos hz]; rfl)
    have H1 := Lib.hid h
    have HN := Lib.hid hn
    have HS := Lib.hid hs
    have HCH := Lib.hid hch.2
    have hm8 : m ≤ 8 := by rw [hn]; exact hch.1
    subst hz
    clear hE hV hn hs hch h hW0 hb0 hq0
    go_enter Tryz.func83, Tryz.ntmps83
    go_wp2_with (go_at_call 62; (with_reducible refine HC.out.mono ?_); rintro e w1 ⟨rfl, hb1⟩; have HB1 := Lib.hid (below_next HB0.out hb1); have hq1 := (hb1.block w.heap.size l0).trans HQ0.out; obtain ⟨c1, f1, l1⟩ := one_facts hq1; clear hb1 hq1)
    clear c0 f0 l0 c1 f1 l1 hwr
    go_loopw [5, 16] (fun u i wr => ∃ (k : Nat) (S : ByteArray), k ≤ m ∧ i = .int .i64 (k : Int) ∧ u = .string S ∧ S.data.toList = cat_t ((n.take k).map encR) ∧ S.size ≤ 131080 * k ∧ Below w.heap.size w wr) (fun _ i _ => m - (intOf i).toNat)
    case atStart => exact ⟨0, ⟨#[]⟩, Nat.zero_le _, rfl, rfl, rfl, by decide, HB1.out⟩
    case round =>
      obtain ⟨k, S, hk, rfl, rfl, hS, hSz, hb⟩ := hrel
      have HB := Lib.hid hb
      have HSL := Lib.hid hS
      clear hb hS
      by_cases hlt : k < m
      · have hd : decide ((k : Int) < (m : Int)) = true := by simp; omega
        obtain ⟨b, o, rfl, hb, a', c', e0, hc', hL⟩ := H1.out.at k (by rw [← HN.out]; exact hlt)
        have a0 : wr.cell? ⟨b, o + k, none⟩ = _ := (HB.out.cell (p := ⟨b, o + k, none⟩) hb).trans e0
        have hst : (n.take (k + 1)).map encR = (n.take k).map encR ++ [encR (n.getD k [])] := by rw [takeD n k (by rw [← HN.out]; exact hlt) []]; simp
        have hsm := HS.out.2 k (by rw [← HN.out]; exact hlt)
        have hrz := (chkR_zero (HCH.out k (by rw [← HN.out]; exact hlt))).2.1
        generalize n.getD k [] = r at a0 hst hsm hc' hL hrz
        obtain ⟨q, hqq⟩ : ∃ q, q = r.length := ⟨_, rfl⟩
        rw [← hqq] at a0 hc'
        have HAT := Lib.hid (rattrs_any a' c' q r wr (hL.below HB.out) hqq hsm (by omega))
        obtain ⟨oo, hoo⟩ : ∃ oo, oo = (⟨(ordL (lists (r.map encA))).flatten.toArray⟩ : ByteArray) := ⟨_, rfl⟩
        have HOR := Lib.hid (fun v W (hv : Reads W v (r.map encA)) => rorder_any v (r.map encA) W hv (by rw [List.length_map]; omega) (encs_cat r q hqq.symm (by omega)))
        rw [← hoo] at HOR
        have hoz : oo.size ≤ 1099511627776 := by
          have h1 := encs_cat r q hqq.symm (by omega)
          have h2 : oo.size = (cat_t (r.map encA)).length := by
            rw [hoo]
            show ((ordL (lists (r.map encA))).flatten).length = _
            rw [((ordL_perm _).flatten).length_eq]
            simp [cat_t, lists, List.flatMap]
          omega
        obtain ⟨s, hs⟩ : ∃ s, s = encR r := ⟨_, rfl⟩
        have hsw : s = wr1 49 oo := by rw [hs, hoo]; rfl
        have hsz : s.size ≤ 131080 := by rw [hs]; exact encR_size r
        have HW1 := Lib.hid (fun g W h => rw1 49 g oo W h hoz)
        rw [← hsw] at HW1
        have hcat := cat_any S s (by omega)
        obtain ⟨T, hT⟩ : ∃ T, T = S ++ s := ⟨_, rfl⟩
        rw [← hT] at hcat
        have HTL := Lib.hid (show T.data.toList = cat_t ((n.take (k + 1)).map encR) by rw [hst, catt_snoc, ← HSL.out, ← hs, hT]; simp)
        have HTZ := Lib.hid (show T.size ≤ 131080 * (k + 1) by rw [hT, ByteArray.size_append]; omega)
        clear e0 hb hsm hs hst hrz hqq hL hc' hoo hoz hsw hT hsz
        go_wp2_with (first
          | (go_at_call 106; (with_reducible refine HAT.out.mono ?_); rintro e w3 ⟨⟨v3, rfl, ho3⟩, hb3⟩; have HR3 := Lib.hid ho3.reads; have HB3 := Lib.hid (below_next HB.out hb3); clear hb3 ho3)
          | (go_at_call 105; (with_reducible refine (HOR.out _ _ HR3.out).mono ?_); rintro e w4 ⟨rfl, hb4⟩; have HB4 := Lib.hid (below_next HB3.out hb4); clear hb4)
          | (go_at_call 37; (with_reducible refine (HW1.out _ _ (bx1 _ _ _)).mono ?_); rintro e w5 ⟨rfl, hb5⟩; have HB5 := Lib.hid (below_next HB4.out (below_next (belowNew _ _) hb5)); clear hb5))
        go_roundw
        case rel => exact ⟨k + 1, T, by omega, by go_num, rfl, HTL.out, HTZ.out, HB5.out⟩
        case measure => simp [intOf]; omega
      · have hd : decide ((k : Int) < (m : Int)) = false := by simp; omega
        have hF : V = wr1 48 S := by
          rw [HV.out, wr1, HSL.out, List.take_of_length_le (by rw [← HN.out]; omega)]
        have HF := Lib.hid hF
        have HW1 := Lib.hid (fun g W h => rw1 48 g S W h (by omega))
        rw [← hF] at HW1
        clear hF
        go_wp2_with (go_at_call 37; (with_reducible refine (HW1.out _ _ (bx1 _ _ _)).mono ?_); rintro e w5 ⟨rfl, hb5⟩; have HB5 := Lib.hid (below_next HB.out (below_next (belowNew _ _) hb5)); clear hb5)
        go_ret2
        exact ⟨rfl, HB5.out⟩
  · have hz1 := errno_ne hz
    have HV := Lib.hid (show V = ⟨#[]⟩ by rw [hV]; unfold encV; rw [← hE, if_neg hz])
    clear hE hV hn hs h hW0 hb0 hq0
    rw [HV.out]
    go_enter Tryz.func83, Tryz.ntmps83
    go_wp2_with (go_at_call 62; (with_reducible refine HC.out.mono ?_); rintro e w1 ⟨rfl, hb1⟩; have HB1 := Lib.hid (below_next HB0.out hb1); clear hb1)
    go_ret2
    exact ⟨rfl, HB1.out⟩
end Go.Proofs.YtbpdenfiifcfcaaGreatDoor
namespace Go.Proofs.YtbpdenfiifcfcaaGreatDoor
open Go.RowKit

/-- Is the text one of its kind? -/
def okT (k : Int) (c : Bool) (t : List UInt8) : Bool :=
  if k = 1 then (if c then mailBaseB t else mailB t) else if k = 2 then (if c then baseB t else patB t) else if k = 7 then (if c then rangeB t else addrB t) else false
/-- The first error of a general name. -/
noncomputable def chkG (c : Bool) (k : Int) (t : List UInt8) (n : Nm) : Nat :=
  if k = 4 then (if t = [] then chkN n else 14) else if okT k c t = true ∧ n = [] then 0 else 14
/-- The five cases of a kind. -/
theorem kind_or (k : Int) : k = 1 ∨ k = 2 ∨ k = 4 ∨ k = 7 ∨ (k ≠ 1 ∧ k ≠ 2 ∧ k ≠ 4 ∧ k ≠ 7) := by omega
theorem chkG_dir (c : Bool) (t : List UInt8) (n : Nm) : chkG c 4 t n = if t = [] then chkN n else 14 := by unfold chkG; rw [if_pos rfl]
theorem chkG_not {k : Int} (h : k ≠ 4) (c : Bool) (t : List UInt8) (n : Nm) : chkG c k t n = if okT k c t = true ∧ n = [] then 0 else 14 := by unfold chkG; rw [if_neg h]
theorem okT_1 (c : Bool) (t : List UInt8) : okT 1 c t = if c then mailBaseB t else mailB t := rfl
theorem okT_2 (c : Bool) (t : List UInt8) : okT 2 c t = if c then baseB t else patB t := rfl
theorem okT_7 (c : Bool) (t : List UInt8) : okT 7 c t = if c then rangeB t else addrB t := rfl
theorem okT_no {k : Int} (h : k ≠ 1 ∧ k ≠ 2 ∧ k ≠ 4 ∧ k ≠ 7) (c : Bool) (t : List UInt8) : okT k c t = false := by
  unfold okT; rw [if_neg h.1, if_neg h.2.1, if_neg h.2.2.2]
theorem okT_len {k : Int} {c : Bool} {t : List UInt8} (h : okT k c t = true) : t.length ≤ 128 := by
  unfold okT at h
  split at h
  · cases c
    · exact mail_len (by simpa using h)
    · exact mailBase_len (by simpa using h)
  · split at h
    · cases c
      · exact pat_len (by simpa using h)
      · exact base_len (by simpa using h)
    · split at h
      · cases c
        · exact addr_le (by simpa using h)
        · exact range_le (by simpa using h)
      · cases h
/-- The encoding of a general name. -/
noncomputable def encG (c : Bool) (k : Int) (t : List UInt8) (n : Nm) : ByteArray :=
  if chkG c k t n = 0 then (if k = 4 then wr1 164 (encN n) else wr1 (128 + k) (strOf t)) else ⟨#[]⟩
noncomputable def withinG (k : Int) (t : List UInt8) (n : Nm) (l : Int) (u : List UInt8) (m : Nm) : Bool :=
  if k ≠ l then false else if k = 1 then mailWithinB t u else if k = 2 then dnsWithinB t u else if k = 4 then decide (WithinN n m) else if k = 7 then addrWithinB t u else false
end Go.Proofs.YtbpdenfiifcfcaaGreatDoor
namespace Go.Proofs.YtbpdenfiifcfcaaGreatDoor
open Go.RowKit

theorem three_facts {w : World} {g : Nat} {x y z : Value} {t : TypeId} (h : w.heap[g]? = some (.cells #[x, y, z] t (0, 0))) :
    w.cell? ⟨g, 0, none⟩ = some x ∧ w.cell? ⟨g, 1, none⟩ = some y ∧ w.cell? ⟨g, 2, none⟩ = some z ∧ g < w.heap.size := by
  refine ⟨?_, ?_, ?_, (Array.getElem?_eq_some_iff.1 h).1⟩ <;> (rw [Lib.cell_of_heap h]; rfl)
theorem nil_iff {n : Nm} {m : Nat} (hn : m = n.length) : (n = []) ↔ m = 0 := by rw [hn]; exact List.length_eq_zero_iff.symm

set_option maxRecDepth 100000 in
set_option maxHeartbeats 4000000 in
theorem rchkG_core (a0 : Option Addr) (c m : Nat) (k : Int) (t : List UInt8) (n : Nm) (con : Bool) (w : World) (h : RLies w a0 n) (hn : m = n.length) (ht : t.length ≤ 150000) (hs : SmallN n) :
    Calls Tryz.prog 33 #[.agg #[.int .i64 k, .string (strOf t), .slice a0 m c], .bool con] w fun e w' => e = .returned (.int .i64 ((chkG con k t n : Nat) : Int)) ∧ Below w.heap.size w w' := by
  obtain ⟨W0, hW0⟩ : ∃ W0, W0 = w.alloc (.cells #[.int .i64 k, .string (strOf t), .slice a0 m c] 29) := ⟨_, rfl⟩
  have hwr : w.alloc (.cells #[.int .i64 k, .string (strOf t), .slice a0 m c] 29) = W0 := hW0.symm
  have hb0 : Below w.heap.size w W0 := by rw [hW0]; exact belowNew w _
  have hq0 : W0.heap[w.heap.size]? = some (.cells #[.int .i64 k, .string (strOf t), .slice a0 m c] 29 (0, 0)) := by rw [hW0]; exact heap_alloc_new w _
  obtain ⟨c0, c1, c2, l0⟩ := three_facts hq0
  have HB0 := Lib.hid hb0
  have HK := Lib.hid (rchk_core a0 c m n W0 (h.below hb0) hn hs)
  have HT := Lib.hid ht
  have hnil := nil_iff hn
  obtain ⟨E, hE⟩ : ∃ E, E = chkG con k t n := ⟨_, rfl⟩
  rw [← hE]
  have HE := Lib.hid hE
  have HN := Lib.hid hnil
  clear hE hnil h hn ht hs hW0 hb0 hq0
  rcases kind_or k with rfl | rfl | rfl | rfl | hk

  · cases con
    · obtain ⟨V, hV⟩ : ∃ V, V = mailB t := ⟨_, rfl⟩
      have HV := Lib.hid hV
      have HF := Lib.hid (rmail_any t HT.out W0)
      rw [← hV] at HF
      clear hV
      cases V
      · have HX := Lib.hid (show E = 14 by rw [HE.out, chkG_not (by decide), if_neg (by rw [okT_1]; simp [← HV.out])])
        go_enter Tryz.func33, Tryz.ntmps33
        go_wp2_with (go_at_call 57; (with_reducible refine HF.out.mono ?_); rintro e w1 ⟨rfl, hb1⟩; have HB1 := Lib.hid (below_next HB0.out hb1); have d2 := (hb1.cell (p := ⟨w.heap.size, 2, none⟩) l0).trans c2; clear hb1)
        go_ret
        exact ⟨by rw [HX.out]; rfl, HB1.out⟩
      · by_cases hm : m = 0
        · have hd : decide ((0 : Int) < (m : Int)) = false := decide_eq_false (by omega)
          have hd2 : decide (0 < m) = false := decide_eq_false (by omega)
          have HX := Lib.hid (show E = 0 by rw [HE.out, chkG_not (by decide), if_pos ⟨by rw [okT_1]; simp [← HV.out], HN.out.2 hm⟩])
          clear hm
          go_enter Tryz.func33, Tryz.ntmps33
          go_wp2_with (go_at_call 57; (with_reducible refine HF.out.mono ?_); rintro e w1 ⟨rfl, hb1⟩; have HB1 := Lib.hid (below_next HB0.out hb1); have d2 := (hb1.cell (p := ⟨w.heap.size, 2, none⟩) l0).trans c2; clear hb1)
          go_ret
          exact ⟨by rw [HX.out]; rfl, HB1.out⟩
        · have hd : decide ((0 : Int) < (m : Int)) = true := decide_eq_true (by omega)
          have hd2 : decide (0 < m) = true := decide_eq_true (by omega)
          have HX := Lib.hid (show E = 14 by rw [HE.out, chkG_not (by decide), if_neg (fun q => hm (HN.out.1 q.2))])
          clear hm
          go_enter Tryz.func33, Tryz.ntmps33
          go_wp2_with (go_at_call 57; (with_reducible refine HF.out.mono ?_); rintro e w1 ⟨rfl, hb1⟩; have HB1 := Lib.hid (below_next HB0.out hb1); have d2 := (hb1.cell (p := ⟨w.heap.size, 2, none⟩) l0).trans c2; clear hb1)
          go_ret
          exact ⟨by rw [HX.out]; rfl, HB1.out⟩
    · obtain ⟨V, hV⟩ : ∃ V, V = mailBaseB t := ⟨_, rfl⟩
      have HV := Lib.hid hV
      have HF := Lib.hid (rmailbase_any t HT.out W0)
      rw [← hV] at HF
      clear hV
      cases V
      · have HX := Lib.hid (show E = 14 by rw [HE.out, chkG_not (by decide), if_neg (by rw [okT_1]; simp [← HV.out])])
        go_enter Tryz.func33, Tryz.ntmps33
        go_wp2_with (go_at_call 56; (with_reducible refine HF.out.mono ?_); rintro e w1 ⟨rfl, hb1⟩; have HB1 := Lib.hid (below_next HB0.out hb1); have d2 := (hb1.cell (p := ⟨w.heap.size, 2, none⟩) l0).trans c2; clear hb1)
        go_ret
        exact ⟨by rw [HX.out]; rfl, HB1.out⟩
      · by_cases hm : m = 0
        · have hd : decide ((0 : Int) < (m : Int)) = false := decide_eq_false (by omega)
          have hd2 : decide (0 < m) = false := decide_eq_false (by omega)
          have HX := Lib.hid (show E = 0 by rw [HE.out, chkG_not (by decide), if_pos ⟨by rw [okT_1]; simp [← HV.out], HN.out.2 hm⟩])
          clear hm
          go_enter Tryz.func33, Tryz.ntmps33
          go_wp2_with (go_at_call 56; (with_reducible refine HF.out.mono ?_); rintro e w1 ⟨rfl, hb1⟩; have HB1 := Lib.hid (below_next HB0.out hb1); have d2 := (hb1.cell (p := ⟨w.heap.size, 2, none⟩) l0).trans c2; clear hb1)
          go_ret
          exact ⟨by rw [HX.out]; rfl, HB1.out⟩
        · have hd : decide ((0 : Int) < (m : Int)) = true := decide_eq_true (by omega)
          have hd2 : decide (0 < m) = true := decide_eq_true (by omega)
          have HX := Lib.hid (show E = 14 by rw [HE.out, chkG_not (by decide), if_neg (fun q => hm (HN.out.1 q.2))])
          clear hm
          go_enter Tryz.func33, Tryz.ntmps33
          go_wp2_with (go_at_call 56; (with_reducible refine HF.out.mono ?_); rintro e w1 ⟨rfl, hb1⟩; have HB1 := Lib.hid (below_next HB0.out hb1); have d2 := (hb1.cell (p := ⟨w.heap.size, 2, none⟩) l0).trans c2; clear hb1)
          go_ret
          exact ⟨by rw [HX.out]; rfl, HB1.out⟩
  · cases con
    · obtain ⟨V, hV⟩ : ∃ V, V = patB t := ⟨_, rfl⟩
      have HV := Lib.hid hV
      have HF := Lib.hid (rpat_any t HT.out W0)
      rw [← hV] at HF
      clear hV
      cases V
      · have HX := Lib.hid (show E = 14 by rw [HE.out, chkG_not (by decide), if_neg (by rw [okT_2]; simp [← HV.out])])
        go_enter Tryz.func33, Tryz.ntmps33
        go_wp2_with (go_at_call 59; (with_reducible refine HF.out.mono ?_); rintro e w1 ⟨rfl, hb1⟩; have HB1 := Lib.hid (below_next HB0.out hb1); have d2 := (hb1.cell (p := ⟨w.heap.size, 2, none⟩) l0).trans c2; clear hb1)
        go_ret
        exact ⟨by rw [HX.out]; rfl, HB1.out⟩
      · by_cases hm : m = 0
        · have hd : decide ((0 : Int) < (m : Int)) = false := decide_eq_false (by omega)
          have hd2 : decide (0 < m) = false := decide_eq_false (by omega)
          have HX := Lib.hid (show E = 0 by rw [HE.out, chkG_not (by decide), if_pos ⟨by rw [okT_2]; simp [← HV.out], HN.out.2 hm⟩])
          clear hm
          go_enter Tryz.func33, Tryz.ntmps33
          go_wp2_with (go_at_call 59; (with_reducible refine HF.out.mono ?_); rintro e w1 ⟨rfl, hb1⟩; have HB1 := Lib.hid (below_next HB0.out hb1); have d2 := (hb1.cell (p := ⟨w.heap.size, 2, none⟩) l0).trans c2; clear hb1)
          go_ret
          exact ⟨by rw [HX.out]; rfl, HB1.out⟩
        · have hd : decide ((0 : Int) < (m : Int)) = true := decide_eq_true (by omega)
          have hd2 : decide (0 < m) = true := decide_eq_true (by omega)
          have HX := Lib.hid (show E = 14 by rw [HE.out, chkG_not (by decide), if_neg (fun q => hm (HN.out.1 q.2))])
          clear hm
          go_enter Tryz.func33, Tryz.ntmps33
          go_wp2_with (go_at_call 59; (with_reducible refine HF.out.mono ?_); rintro e w1 ⟨rfl, hb1⟩; have HB1 := Lib.hid (below_next HB0.out hb1); have d2 := (hb1.cell (p := ⟨w.heap.size, 2, none⟩) l0).trans c2; clear hb1)
          go_ret
          exact ⟨by rw [HX.out]; rfl, HB1.out⟩
    · obtain ⟨V, hV⟩ : ∃ V, V = baseB t := ⟨_, rfl⟩
      have HV := Lib.hid hV
      have HF := Lib.hid (rbase_any t HT.out W0)
      rw [← hV] at HF
      clear hV
      cases V
      · have HX := Lib.hid (show E = 14 by rw [HE.out, chkG_not (by decide), if_neg (by rw [okT_2]; simp [← HV.out])])
        go_enter Tryz.func33, Tryz.ntmps33
        go_wp2_with (go_at_call 58; (with_reducible refine HF.out.mono ?_); rintro e w1 ⟨rfl, hb1⟩; have HB1 := Lib.hid (below_next HB0.out hb1); have d2 := (hb1.cell (p := ⟨w.heap.size, 2, none⟩) l0).trans c2; clear hb1)
        go_ret
        exact ⟨by rw [HX.out]; rfl, HB1.out⟩
      · by_cases hm : m = 0
        · have hd : decide ((0 : Int) < (m : Int)) = false := decide_eq_false (by omega)
          have hd2 : decide (0 < m) = false := decide_eq_false (by omega)
          have HX := Lib.hid (show E = 0 by rw [HE.out, chkG_not (by decide), if_pos ⟨by rw [okT_2]; simp [← HV.out], HN.out.2 hm⟩])
          clear hm
          go_enter Tryz.func33, Tryz.ntmps33
          go_wp2_with (go_at_call 58; (with_reducible refine HF.out.mono ?_); rintro e w1 ⟨rfl, hb1⟩; have HB1 := Lib.hid (below_next HB0.out hb1); have d2 := (hb1.cell (p := ⟨w.heap.size, 2, none⟩) l0).trans c2; clear hb1)
          go_ret
          exact ⟨by rw [HX.out]; rfl, HB1.out⟩
        · have hd : decide ((0 : Int) < (m : Int)) = true := decide_eq_true (by omega)
          have hd2 : decide (0 < m) = true := decide_eq_true (by omega)
          have HX := Lib.hid (show E = 14 by rw [HE.out, chkG_not (by decide), if_neg (fun q => hm (HN.out.1 q.2))])
          clear hm
          go_enter Tryz.func33, Tryz.ntmps33
          go_wp2_with (go_at_call 58; (with_reducible refine HF.out.mono ?_); rintro e w1 ⟨rfl, hb1⟩; have HB1 := Lib.hid (below_next HB0.out hb1); have d2 := (hb1.cell (p := ⟨w.heap.size, 2, none⟩) l0).trans c2; clear hb1)
          go_ret
          exact ⟨by rw [HX.out]; rfl, HB1.out⟩
  · by_cases h0 : t = []
    · have HX := Lib.hid (show E = chkN n by rw [HE.out, chkG_dir, if_pos h0])
      obtain ⟨f1, f2⟩ := empty_is h0
      clear h0
      go_enter Tryz.func33, Tryz.ntmps33
      go_wp2_with (go_at_call 62; (with_reducible refine HK.out.mono ?_); rintro e w1 ⟨rfl, hb1⟩; have HB1 := Lib.hid (below_next HB0.out hb1); clear hb1)
      go_ret
      exact ⟨by rw [HX.out]; rfl, HB1.out⟩
    · have HX := Lib.hid (show E = 14 by rw [HE.out, chkG_dir, if_neg h0])
      obtain ⟨f1, f2⟩ := empty_not h0
      clear h0
      go_enter Tryz.func33, Tryz.ntmps33
      go_wp2_with fail
      go_ret
      exact ⟨by rw [HX.out]; rfl, HB0.out⟩
  · cases con
    · obtain ⟨V, hV⟩ : ∃ V, V = addrB t := ⟨_, rfl⟩
      have HV := Lib.hid hV
      have HF := Lib.hid (raddr_any t W0)
      rw [← hV] at HF
      clear hV
      cases V
      · have HX := Lib.hid (show E = 14 by rw [HE.out, chkG_not (by decide), if_neg (by rw [okT_7]; simp [← HV.out])])
        go_enter Tryz.func33, Tryz.ntmps33
        go_wp2_with (go_at_call 61; (with_reducible refine HF.out.mono ?_); rintro e w1 ⟨rfl, hb1⟩; have HB1 := Lib.hid (below_next HB0.out hb1); have d2 := (hb1.cell (p := ⟨w.heap.size, 2, none⟩) l0).trans c2; clear hb1)
        go_ret
        exact ⟨by rw [HX.out]; rfl, HB1.out⟩
      · by_cases hm : m = 0
        · have hd : decide ((0 : Int) < (m : Int)) = false := decide_eq_false (by omega)
          have hd2 : decide (0 < m) = false := decide_eq_false (by omega)
          have HX := Lib.hid (show E = 0 by rw [HE.out, chkG_not (by decide), if_pos ⟨by rw [okT_7]; simp [← HV.out], HN.out.2 hm⟩])
          clear hm
          go_enter Tryz.func33, Tryz.ntmps33
          go_wp2_with (go_at_call 61; (with_reducible refine HF.out.mono ?_); rintro e w1 ⟨rfl, hb1⟩; have HB1 := Lib.hid (below_next HB0.out hb1); have d2 := (hb1.cell (p := ⟨w.heap.size, 2, none⟩) l0).trans c2; clear hb1)
          go_ret
          exact ⟨by rw [HX.out]; rfl, HB1.out⟩
        · have hd : decide ((0 : Int) < (m : Int)) = true := decide_eq_true (by omega)
          have hd2 : decide (0 < m) = true := decide_eq_true (by omega)
          have HX := Lib.hid (show E = 14 by rw [HE.out, chkG_not (by decide), if_neg (fun q => hm (HN.out.1 q.2))])
          clear hm
          go_enter Tryz.func33, Tryz.ntmps33
          go_wp2_with (go_at_call 61; (with_reducible refine HF.out.mono ?_); rintro e w1 ⟨rfl, hb1⟩; have HB1 := Lib.hid (below_next HB0.out hb1); have d2 := (hb1.cell (p := ⟨w.heap.size, 2, none⟩) l0).trans c2; clear hb1)
          go_ret
          exact ⟨by rw [HX.out]; rfl, HB1.out⟩
    · obtain ⟨V, hV⟩ : ∃ V, V = rangeB t := ⟨_, rfl⟩
      have HV := Lib.hid hV
      have HF := Lib.hid (rrange_any t W0)
      rw [← hV] at HF
      clear hV
      cases V
      · have HX := Lib.hid (show E = 14 by rw [HE.out, chkG_not (by decide), if_neg (by rw [okT_7]; simp [← HV.out])])
        go_enter Tryz.func33, Tryz.ntmps33
        go_wp2_with (go_at_call 60; (with_reducible refine HF.out.mono ?_); rintro e w1 ⟨rfl, hb1⟩; have HB1 := Lib.hid (below_next HB0.out hb1); have d2 := (hb1.cell (p := ⟨w.heap.size, 2, none⟩) l0).trans c2; clear hb1)
        go_ret
        exact ⟨by rw [HX.out]; rfl, HB1.out⟩
      · by_cases hm : m = 0
        · have hd : decide ((0 : Int) < (m : Int)) = false := decide_eq_false (by omega)
          have hd2 : decide (0 < m) = false := decide_eq_false (by omega)
          have HX := Lib.hid (show E = 0 by rw [HE.out, chkG_not (by decide), if_pos ⟨by rw [okT_7]; simp [← HV.out], HN.out.2 hm⟩])
          clear hm
          go_enter Tryz.func33, Tryz.ntmps33
          go_wp2_with (go_at_call 60; (with_reducible refine HF.out.mono ?_); rintro e w1 ⟨rfl, hb1⟩; have HB1 := Lib.hid (below_next HB0.out hb1); have d2 := (hb1.cell (p := ⟨w.heap.size, 2, none⟩) l0).trans c2; clear hb1)
          go_ret
          exact ⟨by rw [HX.out]; rfl, HB1.out⟩
        · have hd : decide ((0 : Int) < (m : Int)) = true := decide_eq_true (by omega)
          have hd2 : decide (0 < m) = true := decide_eq_true (by omega)
          have HX := Lib.hid (show E = 14 by rw [HE.out, chkG_not (by decide), if_neg (fun q => hm (HN.out.1 q.2))])
          clear hm
          go_enter Tryz.func33, Tryz.ntmps33
          go_wp2_with (go_at_call 60; (with_reducible refine HF.out.mono ?_); rintro e w1 ⟨rfl, hb1⟩; have HB1 := Lib.hid (below_next HB0.out hb1); have d2 := (hb1.cell (p := ⟨w.heap.size, 2, none⟩) l0).trans c2; clear hb1)
          go_ret
          exact ⟨by rw [HX.out]; rfl, HB1.out⟩
  · have HX := Lib.hid (show E = 14 by rw [HE.out, chkG_not hk.2.2.1, okT_no hk, if_neg (by simp)])
    obtain ⟨k1, k2, k4, k7⟩ := hk
    have e1 : (k == 1) = false := beq_eq_false_iff_ne.2 k1
    have e2 : (k == 2) = false := beq_eq_false_iff_ne.2 k2
    have e4 : (k == 4) = false := beq_eq_false_iff_ne.2 k4
    have e7 : (k == 7) = false := beq_eq_false_iff_ne.2 k7
    clear k1 k2 k4 k7
    go_enter Tryz.func33, Tryz.ntmps33
    go_wp2_with fail
    go_ret
    exact ⟨by rw [HX.out]; rfl, HB0.out⟩
end Go.Proofs.YtbpdenfiifcfcaaGreatDoor
