/-
  The contract of the reference's DNS: whether a text is a DNS name.
  The contracts of the reference's Pattern and Base: whether a text is a DNS name or a pattern; whether it is a base.
  The contract of the reference's DNSMatch: whether a pattern matches a name.
  The contract of the reference's DNSWithin: whether a name, a pattern or a base lies within a base.
-/
import Derived.Test.YtbpdenfiifcfcaaGreatDoorMak
import Derived.Lib.QuietBelow
import Derived.BigQuiet
namespace Go.Proofs.YtbpdenfiifcfcaaGreatDoor
open Go.RowKit

def lblB (c : UInt8) : Bool := alnum c.toNat || c == 45
theorem lbl_def (p : List UInt8) : lbl p = (decide (1 ≤ p.length) && decide (p.length ≤ 63) && p.head? != some 45 && p.getLast? != some 45 && p.all lblB) := rfl
theorem lbl_nil : lbl [] = false := rfl
theorem lbl_long {p : List UInt8} (h : 63 < p.length) : lbl p = false := by rw [lbl_def, decide_eq_false (show ¬ p.length ≤ 63 by omega)]; simp
theorem lbl_head {p : List UInt8} (h : p.head? = some 45) : lbl p = false := by rw [lbl_def, h]; simp
theorem lbl_last {p : List UInt8} (h : p.getLast? = some 45) : lbl p = false := by rw [lbl_def, h]; simp
theorem lbl_all {p : List UInt8} (h1 : 1 ≤ p.length) (h2 : p.length ≤ 63) (h3 : p.head? ≠ some 45) (h4 : p.getLast? ≠ some 45) : lbl p = p.all lblB := by
  rw [lbl_def, decide_eq_true h1, decide_eq_true h2, bne_iff_ne.2 h3, bne_iff_ne.2 h4]
  rfl
theorem all_at {l : List (List UInt8)} {f : List UInt8 → Bool} {j : Nat} (hj : j < l.length) (h : f (l.getD j []) = false) : l.all f = false := by
  rw [Bool.eq_false_iff]
  intro k
  rw [List.all_eq_true] at k
  rw [List.getD_eq_getElem?_getD, List.getElem?_eq_getElem hj] at h
  have := k _ (List.getElem_mem hj)
  simp only [Option.getD_some] at h
  rw [h] at this
  cases this
theorem all_upto {l : List (List UInt8)} {f : List UInt8 → Bool} (h : ∀ j, j < l.length → f (l.getD j []) = true) : l.all f = true := by
  rw [List.all_eq_true]
  intro x hx
  obtain ⟨j, hj, rfl⟩ := List.getElem_of_mem hx
  have := h j hj
  rwa [List.getD_eq_getElem?_getD, List.getElem?_eq_getElem hj] at this
theorem pcsL_eq (c : UInt8) (l : List UInt8) : pcsS c (strOf l) = (pcsL c l).map strOf := by
  unfold pcsL
  rw [List.map_map]
  conv => lhs; rw [← List.map_id (pcsS c (strOf l))]
  exact List.map_congr_left fun x _ => strOf_of rfl
theorem getD_strOf (P : List (List UInt8)) (j : Nat) : (P.map strOf).getD j ⟨#[]⟩ = strOf (P.getD j []) := by
  rw [List.getD_eq_getElem?_getD, List.getD_eq_getElem?_getD, List.getElem?_map]
  cases P[j]? <;> rfl
theorem pcsL_ne (c : UInt8) (l : List UInt8) : pcsL c l ≠ [] := (pcsL_spl c l).1
theorem dnsB_long {L : List UInt8} (h : 128 < L.length) : dnsB L = false := by unfold dnsB; rw [decide_eq_false (show ¬ L.length ≤ 128 by omega)]; rfl
theorem dnsB_all {L : List UInt8} (h : L.length ≤ 128) : dnsB L = (pcsL 46 L).all lbl := by unfold dnsB; rw [decide_eq_true h]; rfl
theorem alnumU (c : UInt8) (w : World) : Calls Tryz.prog 110 #[.int .u8 ((c.toNat : Nat) : Int)] w fun e w' => e = .returned (.bool (alnum c.toNat)) ∧ w' = w := ralnum_is rfl w
theorem split_dot (L : List UInt8) (h : L.length ≤ 150000) (w : World) :
    Calls Tryz.prog 88 #[.string (strOf L), .int .u8 46] w fun e w' => (∃ v, e = .returned v ∧ OwnT w' w.heap.size v (pcsS 46 (strOf L))) ∧ Below w.heap.size w w' :=
  rsplit_any (strOf L) 46 46 rfl w h
theorem pcsL_len (c : UInt8) (l : List UInt8) : (pcsL c l).length ≤ l.length + 1 := by
  have h := (pcsL_spl c l).2.1
  cases e : pcsL c l with
  | nil => simp
  | cons x r =>
    rw [e] at h
    have := Lib.join_length x r [c]
    rw [h] at this
    simp only [List.length_cons, List.length_nil] at this ⊢
    omega
/-- A text's pieces, in cells. -/
theorem OwnT.pieces {w : World} {B : Nat} {v : Value} {c : UInt8} {L : List UInt8} (h : OwnT w B v (pcsS c (strOf L))) :
    ∃ g cp, v = .slice (some ⟨g, 0, none⟩) (pcsL c L).length cp ∧ g < w.heap.size ∧ B ≤ g ∧ ∀ j, j < (pcsL c L).length → w.cell? ⟨g, j, none⟩ = some (.string (strOf ((pcsL c L).getD j []))) := by
  have e : (pcsS c (strOf L)).length = (pcsL c L).length := by rw [pcsL_eq, List.length_map]
  obtain ⟨g, cp, rfl, h1, h2, _, h3⟩ := h.cells rfl (by rw [pcsL_eq]; exact fun k => pcsL_ne c L (List.map_eq_nil_iff.1 k))
  refine ⟨g, cp, by rw [e], h1, h2, fun j hj => ?_⟩
  rw [h3 j (by omega), pcsL_eq, getD_strOf]

set_option maxRecDepth 100000 in
set_option maxHeartbeats 2000000 in
theorem rdns_any (L : List UInt8) (hL : L.length ≤ 150000) (w : World) :
    Calls Tryz.prog 86 #[.string (strOf L)] w fun e w' => e = .returned (.bool (dnsB L)) ∧ Below w.heap.size w w' := by
  have e0 := strOf_size L
  by_cases h : 128 < L.length
  · have d1 : decide ((128 : Int) < (L.length : Int)) = true := by simp; omega
    have HE := Lib.hid (dnsB_long h)
    go_enter Tryz.func86, Tryz.ntmps86
    go_wp2_with fail
    go_ret
    exact ⟨by rw [HE.out]; rfl, Below.refl _ _⟩
  · have d1 : decide ((128 : Int) < (L.length : Int)) = false := by simp; omega
    have HD := Lib.hid (dnsB_all (L := L) (by omega))
    have HL := Lib.hid hL
    have HLE := Lib.hid e0
    go_enter Tryz.func86, Tryz.ntmps86
    go_wp2_with (go_at_call 88; (with_reducible refine (split_dot L HL.out _).mono ?_); rintro e w1 ⟨⟨v, rfl, ho⟩, hb1⟩; obtain ⟨g, cp, rfl, hg, hB, hcells⟩ := ho.pieces; have HO := Lib.hid hcells; have HB1 := Lib.hid hb1; have HG := Lib.hid hg; clear hb1 ho hcells hg hB)
    obtain ⟨P, hP⟩ : ∃ P, P = pcsL 46 L := ⟨_, rfl⟩
    rw [← hP] at HO HD ⊢
    clear d1 h hL
    obtain ⟨n, hn⟩ : ∃ n, n = P.length := ⟨_, rfl⟩
    have HN := Lib.hid hn
    have hnb : n ≤ 150001 := by have := pcsL_len 46 L; have := HL.out; rw [hn, hP]; omega
    rw [← hn] at HO ⊢
    clear hn hP
    go_loopw [12] (fun i wr => ∃ k : Nat, k ≤ n ∧ i = .int .i64 (k : Int) ∧ (∀ j, j < k → lbl (P.getD j []) = true) ∧ Below w1.heap.size w1 wr) (fun i _ => n - (intOf i).toNat)
    case atStart => exact ⟨0, Nat.zero_le _, rfl, fun j h => absurd h (Nat.not_lt_zero _), Below.refl _ _⟩
    case round =>
      obtain ⟨k, hk, rfl, hall, hb⟩ := hrel
      have HA := Lib.hid hall
      have HB := Lib.hid hb
      clear hall hb
      by_cases hlt : k < n
      · have hd : decide ((k : Int) < (n : Int)) = true := by simp; omega
        have hc := (HB.out.cell (p := ⟨g, k, none⟩) HG.out).trans (HO.out k hlt)
        have HF := Lib.hid (show lbl (P.getD k []) = false → dnsB L = false from fun h => by rw [HD.out]; exact all_at (by rw [← HN.out]; exact hlt) h)
        have HT := Lib.hid (show lbl (P.getD k []) = true → ∀ j, j < k + 1 → lbl (P.getD j []) = true from fun h j hj => by
          rcases Nat.lt_or_ge j k with e | e
          · exact HA.out j e
          · rw [show j = k by omega]; exact h)
        generalize P.getD k [] = p at hc HF HT
        have es := strOf_size p
        by_cases h1 : p.length < 1
        · have HF2 := Lib.hid (HF.out (by rw [List.eq_nil_of_length_eq_zero (show p.length = 0 by omega)]; exact lbl_nil))
          have dl : decide ((p.length : Int) < 1) = true := decide_eq_true (by omega)
          have dl2 : decide (p.length < 1) = true := decide_eq_true h1
          go_wp2_with fail
          go_ret
          exact ⟨by rw [HF2.out]; rfl, HB1.out.trans (HB.out.mono HB1.out.size)⟩
        · have dl : decide ((p.length : Int) < 1) = false := decide_eq_false (by omega)
          by_cases h2 : 63 < p.length
          · have HF2 := Lib.hid (HF.out (lbl_long h2))
            have dm : decide ((63 : Int) < (p.length : Int)) = true := by simp; omega
            go_wp2_with fail
            go_ret
            exact ⟨by rw [HF2.out]; rfl, HB1.out.trans (HB.out.mono HB1.out.size)⟩
          · have dm : decide ((63 : Int) < (p.length : Int)) = false := by simp; omega
            obtain ⟨x, hx, hxn⟩ := u8at_list (strOf p) 0 (by rw [es]; omega)
            have hix := run_index_u8 (P := Tryz.prog) Tryz.underlying9 (strOf p) 0 (by rw [es]; omega) 0 rfl
            rw [hxn] at hix
            obtain ⟨y, hy, hyn⟩ := u8at_list (strOf p) (p.length - 1) (by rw [es]; omega)
            have hiy := run_index_u8 (P := Tryz.prog) Tryz.underlying9 (strOf p) (p.length - 1) (by rw [es]; omega) ((p.length : Int) - 1) (by omega)
            rw [hyn] at hiy
            rw [strOf_list] at hx hy
            by_cases h3 : x = 45
            · have HF2 := Lib.hid (HF.out (lbl_head (by rw [List.head?_eq_getElem?, hx, h3])))
              have dx : ((x.toNat : Nat) : Int) == (45 : Int) := by rw [h3]; rfl
              clear hx hy hxn hyn hiy
              go_wp2_with fail
              go_ret
              exact ⟨by rw [HF2.out]; rfl, HB1.out.trans (HB.out.mono HB1.out.size)⟩
            · have dx : (((x.toNat : Nat) : Int) == (45 : Int)) = false := by
                have : ¬ x.toNat = 45 := fun h => h3 (UInt8.toNat_inj.1 h)
                simp; omega
              by_cases h4 : y = 45
              · have HF2 := Lib.hid (HF.out (lbl_last (by rw [List.getLast?_eq_getElem?, hy, h4])))
                have dy : ((y.toNat : Nat) : Int) == (45 : Int) := by rw [h4]; rfl
                clear hx hy hxn hyn
                go_wp2_with fail
                go_ret
                exact ⟨by rw [HF2.out]; rfl, HB1.out.trans (HB.out.mono HB1.out.size)⟩
              · have dy : (((y.toNat : Nat) : Int) == (45 : Int)) = false := by
                  have : ¬ y.toNat = 45 := fun h => h4 (UInt8.toNat_inj.1 h)
                  simp; omega
                have HQ := Lib.hid (show lbl p = p.all lblB from lbl_all (by omega) (by omega) (by rw [List.head?_eq_getElem?, hx]; exact fun h => h3 (Option.some.inj h)) (by rw [List.getLast?_eq_getElem?, hy]; exact fun h => h4 (Option.some.inj h)))
                clear hx hy hxn hyn h3 h4
                go_wp2_with fail
                clear hc dl dm dx dy hd
                go_loopw [5] (fun i ws => ∃ m : Nat, m ≤ p.length ∧ i = .int .i64 (m : Int) ∧ p.all lblB = (p.drop m).all lblB ∧ Below w1.heap.size w1 ws) (fun i _ => p.length - (intOf i).toNat)
                case atStart => exact ⟨0, Nat.zero_le _, rfl, rfl, HB.out⟩
                case round =>
                  obtain ⟨wz, hwz⟩ : ∃ wz, wz = wr := ⟨_, rfl⟩
                  subst hwz
                  obtain ⟨m, hm, rfl, hal, hbs⟩ := hrel
                  have HBS := Lib.hid hbs
                  clear hbs
                  by_cases hmt : m < p.length
                  · have hd : decide ((m : Int) < (p.length : Int)) = true := by simp; omega
                    obtain ⟨c, hc, hcn⟩ := u8at_list (strOf p) m (by rw [es]; exact hmt)
                    have hix := run_index_u8 (P := Tryz.prog) Tryz.underlying9 (strOf p) m (by rw [es]; exact hmt) (m : Int) rfl
                    rw [hcn] at hix
                    rw [strOf_list] at hc
                    rw [drop_cons hc, List.all_cons] at hal
                    have HAL := Lib.hid hal
                    clear hc hcn hal
                    cases ha : alnum c.toNat with
                    | true =>
                      have HAN := Lib.hid (fun w => show Calls Tryz.prog 110 #[.int .u8 ((c.toNat : Nat) : Int)] w fun e w' => e = .returned (.bool true) ∧ w' = w from ha ▸ alnumU c w)
                      have HN2 := Lib.hid (show p.all lblB = (p.drop (m + 1)).all lblB by
                        rw [HAL.out, show lblB c = true by unfold lblB; rw [ha]; rfl, Bool.true_and])
                      clear ha
                      go_wp2_with (go_at_call 110; (with_reducible refine (HAN.out _).mono ?_); rintro e w2 ⟨rfl, rfl⟩)
                      go_roundw
                      case rel => exact ⟨m + 1, by omega, by go_num, HN2.out, HBS.out⟩
                      case measure => simp [intOf]; omega
                    | false =>
                      have HAN := Lib.hid (fun w => show Calls Tryz.prog 110 #[.int .u8 ((c.toNat : Nat) : Int)] w fun e w' => e = .returned (.bool false) ∧ w' = w from ha ▸ alnumU c w)
                      by_cases h5 : c = 45
                      · have d5 : (((c.toNat : Nat) : Int) != (45 : Int)) = false := by rw [h5]; rfl
                        have HN2 := Lib.hid (show p.all lblB = (p.drop (m + 1)).all lblB by
                          rw [HAL.out, show lblB c = true by unfold lblB; rw [h5]; rfl, Bool.true_and])
                        clear ha h5
                        go_wp2_with (go_at_call 110; (with_reducible refine (HAN.out _).mono ?_); rintro e w2 ⟨rfl, rfl⟩)
                        go_roundw
                        case rel => exact ⟨m + 1, by omega, by go_num, HN2.out, HBS.out⟩
                        case measure => simp [intOf]; omega
                      · have d5 : (((c.toNat : Nat) : Int) != (45 : Int)) = true := by
                          have : ¬ c.toNat = 45 := fun h => h5 (UInt8.toNat_inj.1 h)
                          simp; omega
                        have HF2 := Lib.hid (HF.out (by rw [HQ.out, HAL.out, show lblB c = false by unfold lblB; rw [ha, beq_eq_false_iff_ne.2 h5]; rfl, Bool.false_and]))
                        clear ha
                        go_wp2_with (go_at_call 110; (with_reducible refine (HAN.out _).mono ?_); rintro e w2 ⟨rfl, rfl⟩)
                        go_ret
                        exact ⟨by rw [HF2.out]; rfl, HB1.out.trans (HBS.out.mono HB1.out.size)⟩
                  · have em : m = p.length := by omega
                    subst em
                    have hd : decide ((p.length : Int) < (p.length : Int)) = false := by simp
                    have HT2 := Lib.hid (HT.out (by rw [HQ.out, hal, List.drop_length]; rfl))
                    clear hal
                    go_wp2_with fail
                    go_roundw
                    case rel => exact ⟨k + 1, by omega, by go_num, HT2.out, HBS.out⟩
                    case measure => simp [intOf]; omega
      · have ek : k = n := by omega
        subst ek
        have hd : decide ((k : Int) < (k : Int)) = false := by simp
        have HE := Lib.hid (show dnsB L = true by rw [HD.out]; exact all_upto fun j hj => HA.out j (by rw [HN.out]; exact hj))
        go_wp2_with fail
        go_ret
        exact ⟨by rw [HE.out]; rfl, HB1.out.trans (HB.out.mono HB1.out.size)⟩
end Go.Proofs.YtbpdenfiifcfcaaGreatDoor
namespace Go.Proofs.YtbpdenfiifcfcaaGreatDoor
open Go.RowKit

theorem rdns_is {L : List UInt8} {b : Bool} (h : dnsB L = b) (hL : L.length ≤ 150000) (w : World) :
    Calls Tryz.prog 86 #[.string (strOf L)] w fun e w' => e = .returned (.bool b) ∧ Below w.heap.size w w' := by
  have := rdns_any L hL w
  rwa [h] at this
theorem split_num (L : List UInt8) (h : L.length ≤ 150000) (w : World) :
    Calls Tryz.prog 88 #[.string (strOf L), .int .u8 46] w fun e w' => (∃ a cp, e = .returned (.slice a (pcsL 46 L).length cp)) ∧ Below w.heap.size w w' := by
  refine (split_dot L h w).mono ?_
  rintro e w1 ⟨⟨v, rfl, ho⟩, hb⟩
  obtain ⟨g, cp, rfl, _⟩ := ho.pieces
  exact ⟨⟨_, cp, rfl⟩, hb⟩
theorem toList_of (l : List UInt8) : (strOf l).toList = l := by rw [toList_eq_list]; rfl
/-- The form of a pattern that is no name. -/
def starB (l : List UInt8) : Bool := decide (l.length ≤ 128) && decide (2 < l.length) && decide (l.take 2 = [42, 46]) && dnsB (l.drop 2) && decide (2 < (pcsL 46 l).length)
theorem patB_def (l : List UInt8) : patB l = (dnsB l || starB l) := rfl

set_option maxRecDepth 100000 in
set_option maxHeartbeats 2000000 in
theorem rpat_any (L : List UInt8) (hL : L.length ≤ 150000) (w : World) :
    Calls Tryz.prog 59 #[.string (strOf L)] w fun e w' => e = .returned (.bool (patB L)) ∧ Below w.heap.size w w' := by
  have e0 := strOf_size L
  have HL := Lib.hid hL
  rw [patB_def]
  cases hd : dnsB L with
  | true =>
    have HD := Lib.hid (fun w => rdns_is hd hL w)
    clear hL hd
    go_enter Tryz.func59, Tryz.ntmps59
    go_wp2_with (go_at_call 86; (with_reducible refine (HD.out _).mono ?_); rintro e w1 ⟨rfl, hb1⟩; have HB1 := Lib.hid hb1; clear hb1)
    go_ret
    exact ⟨rfl, HB1.out⟩
  | false =>
    have HD := Lib.hid (fun w => rdns_is hd hL w)
    clear hd
    by_cases h1 : L.length ≤ 128
    · have d1 : decide ((L.length : Int) ≤ (128 : Int)) = true := by simp; omega
      by_cases h2 : 2 < L.length
      · have d2 : decide ((2 : Int) < (L.length : Int)) = true := by simp; omega
        have hsh := fun w => head_of L 2 (by omega) (2 : Int) rfl w
        have hbe : ((strOf (L.take 2)).toList == [42, 46]) = decide (L.take 2 = [42, 46]) := by rw [toList_of, Bool.eq_iff_iff, beq_iff_eq, decide_eq_true_iff]
        have hbp : ((strOf (L.take 2)).toList = [42, 46]) = (L.take 2 = [42, 46]) := by rw [toList_of]
        by_cases h3 : L.take 2 = [42, 46]
        · rw [decide_eq_true h3] at hbe
          rw [eq_true h3] at hbp
          have hst := fun w => tail_of L 2 (by omega) (2 : Int) rfl w
          generalize hT : L.take 2 = T at hsh hbe hbp
          obtain ⟨D, hD⟩ : ∃ D, D = L.drop 2 := ⟨_, rfl⟩
          rw [← hD] at hst
          have HDL := Lib.hid (show D.length ≤ 150000 by rw [hD, List.length_drop]; omega)
          have HS := Lib.hid (show starB L = (dnsB D && decide (2 < (pcsL 46 L).length)) by
            unfold starB; rw [decide_eq_true h1, decide_eq_true h2, decide_eq_true h3, ← hD]; rfl)
          have HTT := Lib.hid hT
          clear hT hD h3
          cases hq : dnsB D with
          | true =>
            have HQ := Lib.hid (fun w => rdns_is hq HDL.out w)
            have HS2 := Lib.hid (show starB L = decide (2 < (pcsL 46 L).length) by rw [HS.out, hq]; rfl)
            clear hq
            go_enter Tryz.func59, Tryz.ntmps59
            go_wp2_with (first
              | (go_at_call 86; (with_reducible refine (HD.out _).mono ?_); rintro e w1 ⟨rfl, hb1⟩; have HB1 := Lib.hid hb1; clear hb1)
              | (go_at_call 86; (with_reducible refine (HQ.out _).mono ?_); rintro e w2 ⟨rfl, hb2⟩; have HB2 := Lib.hid hb2; clear hb2)
              | (go_at_call 88; (with_reducible refine (split_num L HL.out _).mono ?_); rintro e w3 ⟨⟨a, cp, rfl⟩, hb3⟩; have HB3 := Lib.hid hb3; clear hb3))
            go_ret
            exact ⟨by rw [HS2.out]; simp; omega, below_next (below_next HB1.out HB2.out) HB3.out⟩
          | false =>
            have HQ := Lib.hid (fun w => rdns_is hq HDL.out w)
            have HS2 := Lib.hid (show starB L = false by rw [HS.out, hq]; rfl)
            clear hq
            go_enter Tryz.func59, Tryz.ntmps59
            go_wp2_with (first
              | (go_at_call 86; (with_reducible refine (HD.out _).mono ?_); rintro e w1 ⟨rfl, hb1⟩; have HB1 := Lib.hid hb1; clear hb1)
              | (go_at_call 86; (with_reducible refine (HQ.out _).mono ?_); rintro e w2 ⟨rfl, hb2⟩; have HB2 := Lib.hid hb2; clear hb2))
            go_ret
            exact ⟨by rw [HS2.out]; rfl, below_next HB1.out HB2.out⟩
        · rw [decide_eq_false h3] at hbe
          rw [eq_false h3] at hbp
          have HS := Lib.hid (show starB L = false by unfold starB; rw [decide_eq_false h3]; simp)
          generalize L.take 2 = T at hsh hbe hbp
          clear h3
          go_enter Tryz.func59, Tryz.ntmps59
          go_wp2_with (go_at_call 86; (with_reducible refine (HD.out _).mono ?_); rintro e w1 ⟨rfl, hb1⟩; have HB1 := Lib.hid hb1; clear hb1)
          go_ret
          exact ⟨by rw [HS.out]; rfl, HB1.out⟩
      · have d2 : decide ((2 : Int) < (L.length : Int)) = false := by simp; omega
        have HS := Lib.hid (show starB L = false by unfold starB; rw [decide_eq_false h2]; simp)
        go_enter Tryz.func59, Tryz.ntmps59
        go_wp2_with (go_at_call 86; (with_reducible refine (HD.out _).mono ?_); rintro e w1 ⟨rfl, hb1⟩; have HB1 := Lib.hid hb1; clear hb1)
        go_ret
        exact ⟨by rw [HS.out]; rfl, HB1.out⟩
    · have d1 : decide ((L.length : Int) ≤ (128 : Int)) = false := by simp; omega
      have HS := Lib.hid (show starB L = false by unfold starB; rw [decide_eq_false h1]; simp)
      go_enter Tryz.func59, Tryz.ntmps59
      go_wp2_with (go_at_call 86; (with_reducible refine (HD.out _).mono ?_); rintro e w1 ⟨rfl, hb1⟩; have HB1 := Lib.hid hb1; clear hb1)
      go_ret
      exact ⟨by rw [HS.out]; rfl, HB1.out⟩

set_option maxRecDepth 100000 in
set_option maxHeartbeats 2000000 in
theorem rbase_any (L : List UInt8) (hL : L.length ≤ 150000) (w : World) :
    Calls Tryz.prog 58 #[.string (strOf L)] w fun e w' => e = .returned (.bool (baseB L)) ∧ Below w.heap.size w w' := by
  have hbe : (strOf L).toList.isEmpty = decide (L = []) := by
    rw [toList_of]
    cases L <;> rfl
  have hbp : ((strOf L).toList = []) = (L = []) := by rw [toList_of]
  have HD := Lib.hid (fun w => rdns_any L hL w)
  by_cases h : L = []
  · rw [decide_eq_true h] at hbe
    rw [eq_true h] at hbp
    have HE := Lib.hid (show baseB L = true by unfold baseB; rw [decide_eq_true h]; rfl)
    clear h
    go_enter Tryz.func58, Tryz.ntmps58
    go_wp2_with fail
    go_ret
    exact ⟨by rw [HE.out]; rfl, Below.refl _ _⟩
  · rw [decide_eq_false h] at hbe
    rw [eq_false h] at hbp
    have HE := Lib.hid (show baseB L = dnsB L by unfold baseB; rw [decide_eq_false h]; rfl)
    clear h
    go_enter Tryz.func58, Tryz.ntmps58
    go_wp2_with (go_at_call 86; (with_reducible refine (HD.out _).mono ?_); rintro e w1 ⟨rfl, hb1⟩; have HB1 := Lib.hid hb1; clear hb1)
    go_ret
    exact ⟨by rw [HE.out]; rfl, HB1.out⟩
end Go.Proofs.YtbpdenfiifcfcaaGreatDoor
namespace Go.Proofs.YtbpdenfiifcfcaaGreatDoor
open Go.RowKit

end Go.Proofs.YtbpdenfiifcfcaaGreatDoor
namespace Go.Proofs.YtbpdenfiifcfcaaGreatDoor
open Go.RowKit

/-- A string that is empty, and one that is not: what the walk asks. -/
theorem empty_is {L : List UInt8} (h : L = []) : (strOf L).toList.isEmpty = true ∧ ((strOf L).toList = []) = True := by subst h; rw [toList_of]; exact ⟨rfl, by simp⟩
theorem empty_not {L : List UInt8} (h : L ≠ []) : (strOf L).toList.isEmpty = false ∧ ((strOf L).toList = []) = False := by
  rw [toList_of]
  cases L with
  | nil => exact absurd rfl h
  | cons c r => exact ⟨rfl, by simp⟩
theorem dot_of (L : List UInt8) (h : L.length ≤ 150000) (w : World) : (Op.stringOp .add ⟨#[46]⟩ (strOf L)).run Tryz.prog w = .ok (.string (strOf (46 :: L))) w := by
  rw [run_string_add_sum w _ _ (by rw [strOf_size]; show 1 + L.length ≤ _; omega)]
  have := str_cat [46] L
  rw [show strOf [46] = ⟨#[46]⟩ from rfl] at this
  rw [this]
  rfl
def firstArg (s : List UInt8) : Bool := decide (s = []) || patB s
theorem within_def (s b : List UInt8) : dnsWithinB s b = (firstArg s && baseB b && (decide (b = []) || alikeB s b || endsB s (46 :: b))) := rfl

end Go.Proofs.YtbpdenfiifcfcaaGreatDoor
