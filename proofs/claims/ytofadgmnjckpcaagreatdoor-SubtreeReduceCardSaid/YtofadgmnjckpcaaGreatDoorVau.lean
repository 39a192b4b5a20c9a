/-
  The contracts of equal and of ends of the program: whether two ASCII texts differ in case only; whether one ends with the other.
  The contracts of gname's small and equal: whether two texts differ in case only.
  The contracts of strings.Cut at one byte, of strings.CutPrefix and TrimPrefix and of strings.Contains at one byte.
-/
import Derived.Test.YtofadgmnjckpcaaGreatDoorVat
import Derived.Test.YtofadgmnjckpcaaGreatDoorVac
import Derived.Deep.CutRange
import Derived.Deep.DeepCutAuto
import Derived.Deep.RegionWith
import Derived.Lib.QuietBelow
import Derived.BigQuiet
import Derived.Test.YtofadgmnjckpcaaGreatDoorVaa
namespace Go.Proofs.YtofadgmnjckpcaaGreatDoor
open Go.RowKit

def Asc (l : List UInt8) : Prop := ∀ c ∈ l, c.toNat < 128
theorem Asc.at {l : List UInt8} (h : Asc l) (j : Nat) (b : UInt8) (e : l[j]? = some b) : b.toNat < 128 := h b (List.mem_of_getElem? e)
theorem Asc.drop {l : List UInt8} (h : Asc l) (k : Nat) : Asc (l.drop k) := fun c hc => h c (List.mem_of_mem_drop hc)
theorem Asc.take {l : List UInt8} (h : Asc l) (k : Nat) : Asc (l.take k) := fun c hc => h c (List.mem_of_mem_take hc)
theorem Asc.cons {c : UInt8} {l : List UInt8} (hc : c.toNat < 128) (h : Asc l) : Asc (c :: l) := fun x hx => by
  rcases List.mem_cons.1 hx with rfl | hx
  · exact hc
  · exact h x hx
theorem fold_small (x y : UInt8) : Lib.foldEq x y = decide (small x = small y) := by
  unfold Lib.foldEq
  rw [decide_eq_decide]
  by_cases hx : 65 ≤ x.toNat ∧ x.toNat ≤ 90 <;> by_cases hy : 65 ≤ y.toNat ∧ y.toNat ≤ 90
  · rw [← UInt8.toNat_inj, small_big hx, small_big hy]; omega
  · rw [← UInt8.toNat_inj, small_big hx, small_low hy]; omega
  · rw [← UInt8.toNat_inj, small_low hx, small_big hy]; omega
  · rw [← UInt8.toNat_inj, small_low hx, small_low hy]; omega
theorem fold_alike : ∀ (a b : List UInt8), Lib.equalFold a b = alikeB a b
  | [], [] => rfl
  | [], _ :: _ => by unfold alikeB; rw [decide_eq_false (fun h => by cases h)]; rfl
  | _ :: _, [] => by unfold alikeB; rw [decide_eq_false (fun h => by cases h)]; rfl
  | x :: s, y :: t => by
    have ih := fold_alike s t
    show (Lib.foldEq x y && Lib.equalFold s t) = alikeB (x :: s) (y :: t)
    rw [ih, fold_small]
    unfold alikeB lowL
    rw [List.map_cons, List.map_cons, Bool.eq_iff_iff, Bool.and_eq_true, decide_eq_true_iff, decide_eq_true_iff, decide_eq_true_iff, List.cons.injEq]

theorem peq_any (a b : List UInt8) (ha : a.length ≤ 100000) (aa : Asc a) (ab : Asc b) (w : World) :
    Calls Tryz.prog 103 #[.string (strOf a), .string (strOf b)] w fun e w' => e = .returned (.bool (alikeB a b)) ∧ w' = w := by
  have h : ∀ w, Calls Tryz.prog 122 #[.string (strOf a), .string (strOf b)] w fun e w' => e = .returned (.bool (Lib.equalFold a b)) ∧ w' = w :=
    fun w => Any.strings_EqualFold lays164 (strOf a) (strOf b) w (by rw [strOf_size]; omega) (by rw [strOf_list]; exact aa.at) (by rw [strOf_list]; exact ab.at)
  rw [fold_alike] at h
  have H := Lib.hid h
  clear h aa ab
  go_enter Tryz.func103, Tryz.ntmps103
  go_wp2_with (go_at_call 122; (with_reducible refine (H.out _).mono ?_); rintro e w1 ⟨rfl, rfl⟩)
  go_ret
  exact ⟨rfl, rfl⟩
set_option maxRecDepth 100000 in
set_option maxHeartbeats 1000000 in
theorem pends_any (s t : List UInt8) (hs : s.length ≤ 100000) (ht : t.length ≤ 1000000) (hs1 : Asc s) (ht1 : Asc t) (w : World) :
    Calls Tryz.prog 104 #[.string (strOf s), .string (strOf t)] w fun e w' => e = .returned (.bool (endsB s t)) ∧ w' = w := by
  have e1 := strOf_size s
  have e2 := strOf_size t
  by_cases h : t.length ≤ s.length
  · have d0 : decide ((0 : Int) ≤ (s.length : Int) - (t.length : Int)) = true := by simp; omega
    have hw : wrap64 ((s.length : Int) - (t.length : Int)) = (s.length : Int) - (t.length : Int) := by unfold wrap64; omega
    have hsl := slice_back s (s.length - t.length) (by omega) ((s.length : Int) - (t.length : Int)) (by omega)
    have HR := Lib.hid (show endsB s t = alikeB (s.drop (s.length - t.length)) t by unfold endsB; rw [decide_eq_true h, Bool.true_and])
    have HQ := Lib.hid (fun w => peq_any (s.drop (s.length - t.length)) t (by rw [List.length_drop]; omega) (hs1.drop _) ht1 w)
    generalize s.drop (s.length - t.length) = r at hsl HR HQ
    clear hs1 ht1
    go_enter Tryz.func104, Tryz.ntmps104
    go_wp2_with (go_at_call 103; (with_reducible refine (HQ.out _).mono ?_); rintro e w1 ⟨rfl, rfl⟩)
    go_ret
    exact ⟨by rw [HR.out]; rfl, rfl⟩
  · have d0 : decide ((0 : Int) ≤ (s.length : Int) - (t.length : Int)) = false := by simp; omega
    have hw : wrap64 ((s.length : Int) - (t.length : Int)) = (s.length : Int) - (t.length : Int) := by unfold wrap64; omega
    have HR := Lib.hid (show endsB s t = false by unfold endsB; rw [decide_eq_false h, Bool.false_and])
    clear hs1 ht1
    go_enter Tryz.func104, Tryz.ntmps104
    go_wp2_with fail
    go_ret
    exact ⟨by rw [HR.out]; rfl, rfl⟩

/-! ### What holds letters of ASCII alone -/
theorem lblB_asc {c : UInt8} (h : lblB c = true) : c.toNat < 128 := by
  unfold lblB alnum at h
  simp only [Bool.or_eq_true, decide_eq_true_eq, beq_iff_eq] at h
  rcases h with (h | h | h) | h
  · omega
  · omega
  · omega
  · rw [h]; decide
theorem lbl_asc {p : List UInt8} (h : lbl p = true) : Asc p := by
  rw [lbl_def] at h
  simp only [Bool.and_eq_true] at h
  exact fun c hc => lblB_asc (List.all_eq_true.1 h.2 c hc)
theorem join_asc {c : UInt8} (hc : c.toNat < 128) : ∀ {ps : List (List UInt8)}, (∀ p ∈ ps, Asc p) → Asc (Lib.join ps [c])
  | [], _ => fun x hx => by simp [Lib.join] at hx
  | [p], h => by rw [Lib.join_one]; exact h p (by simp)
  | p :: q :: r, h => by
    rw [join_two]
    intro x hx
    rcases List.mem_append.1 hx with hx | hx
    · exact h p (by simp) x hx
    · rcases List.mem_cons.1 hx with rfl | hx
      · exact hc
      · exact join_asc hc (ps := q :: r) (fun y hy => h y (by simp [List.mem_cons.1 hy])) x hx
theorem dns_asc {L : List UInt8} (h : dnsB L = true) : Asc L := by
  unfold dnsB at h
  rw [Bool.and_eq_true] at h
  have := join_asc (c := 46) (by decide) (ps := pcsL 46 L) (fun p hp => lbl_asc (List.all_eq_true.1 h.2 p hp))
  rwa [(pcsL_spl 46 L).2.1] at this
end Go.Proofs.YtofadgmnjckpcaaGreatDoor
namespace Go.Proofs.YtofadgmnjckpcaaGreatDoor
open Go.RowKit

set_option maxHeartbeats 1000000 in
theorem gsmall_any (c : UInt8) (w : World) :
    Calls Tryz.prog 94 #[.int .u8 ((c.toNat : Nat) : Int)] w fun e w' => e = .returned (.int .u8 (((small c).toNat : Nat) : Int)) ∧ w' = w := by
  by_cases h : 65 ≤ c.toNat ∧ c.toNat ≤ 90
  · have HS := Lib.hid (small_big h)
    obtain ⟨n, hn⟩ : ∃ n, n = c.toNat := ⟨_, rfl⟩
    rw [← hn] at h HS ⊢
    have d1 : decide ((65 : Int) ≤ (n : Int)) = true := by simp; omega
    have d2 : decide ((n : Int) ≤ 90) = true := by simp; omega
    obtain ⟨m, hm⟩ : ∃ m, m = (small c).toNat := ⟨_, rfl⟩
    rw [← hm] at HS ⊢
    have HM := Lib.hid (show (m : Int) = (n : Int) - 65 + 97 by have := HS.out; omega)
    clear hm hn
    go_enter Tryz.func94, Tryz.ntmps94
    go_wp2_with fail
    go_ret
    exact ⟨by rw [HM.out]; rfl, rfl⟩
  · have HS := Lib.hid (small_low h)
    obtain ⟨n, hn⟩ : ∃ n, n = c.toNat := ⟨_, rfl⟩
    have HN := Lib.hid (show small c = c → (small c).toNat = n from fun e => by rw [e, hn])
    rw [← hn] at h ⊢
    clear hn
    by_cases h1 : 65 ≤ n
    · have d1 : decide ((65 : Int) ≤ (n : Int)) = true := by simp; omega
      have d2 : decide ((n : Int) ≤ 90) = false := by simp; omega
      clear h
      go_enter Tryz.func94, Tryz.ntmps94
      go_wp2_with fail
      go_ret
      exact ⟨by rw [HN.out HS.out]; rfl, rfl⟩
    · have d1 : decide ((65 : Int) ≤ (n : Int)) = false := by simp; omega
      clear h
      go_enter Tryz.func94, Tryz.ntmps94
      go_wp2_with fail
      go_ret
      exact ⟨by rw [HN.out HS.out]; rfl, rfl⟩
theorem alike_cons (x y : UInt8) (s t : List UInt8) : alikeB (x :: s) (y :: t) = (decide (small x = small y) && alikeB s t) := by
  unfold alikeB lowL
  rw [List.map_cons, List.map_cons, Bool.eq_iff_iff, Bool.and_eq_true, decide_eq_true_iff, decide_eq_true_iff, decide_eq_true_iff, List.cons.injEq]
theorem alike_len {a b : List UInt8} (h : a.length ≠ b.length) : alikeB a b = false :=
  decide_eq_false (fun e => h (by have := congrArg List.length e; rwa [lowL_length, lowL_length] at this))
theorem small_eq {x y : UInt8} : small x = small y ↔ (small x).toNat = (small y).toNat := UInt8.toNat_inj.symm
theorem gsmall_b (c : UInt8) (w : World) :
    Calls Tryz.prog 94 #[.int .u8 ((c.toNat : Nat) : Int)] w fun e w' => e = .returned (.int .u8 (((small c).toNat : Nat) : Int)) ∧ Below w.heap.size w w' :=
  (gsmall_any c w).mono fun _ _ h => ⟨h.1, by rw [h.2]; exact Below.refl _ _⟩
set_option maxRecDepth 100000 in
set_option maxHeartbeats 2000000 in
theorem gequal_any (a b : List UInt8) (ha : a.length ≤ 100000) (_ : b.length ≤ 100000) (w : World) :
    Calls Tryz.prog 74 #[.string (strOf a), .string (strOf b)] w fun e w' => e = .returned (.bool (alikeB a b)) ∧ Below w.heap.size w w' := by
  have es := strOf_size a
  have et := strOf_size b
  by_cases hn : a.length = b.length
  · rw [← hn] at et
    go_enter Tryz.func74, Tryz.ntmps74
    go_wp2_with fail
    go_loopw [13] (fun i wr => ∃ m : Nat, m ≤ a.length ∧ i = .int .i64 (m : Int) ∧ alikeB a b = alikeB (a.drop m) (b.drop m) ∧ Below w.heap.size w wr) (fun i _ => a.length - (intOf i).toNat)
    case atStart => exact ⟨0, Nat.zero_le _, rfl, rfl, Below.refl _ _⟩
    case round =>
      obtain ⟨m, hm, rfl, hal, hb⟩ := hrel
      have HB := Lib.hid hb
      clear hb
      by_cases hmt : m < a.length
      · have hd : decide ((m : Int) < (a.length : Int)) = true := by simp; omega
        obtain ⟨c, hc, hcn⟩ := u8at_list (strOf a) m (by rw [es]; exact hmt)
        have hix := run_index_u8 (P := Tryz.prog) Tryz.underlying9 (strOf a) m (by rw [es]; exact hmt) (m : Int) rfl
        rw [hcn] at hix
        rw [strOf_list] at hc
        obtain ⟨d, hd1, hdn⟩ := u8at_list (strOf b) m (by rw [et]; exact hmt)
        have hjx := run_index_u8 (P := Tryz.prog) Tryz.underlying9 (strOf b) m (by rw [et]; exact hmt) (m : Int) rfl
        rw [hdn] at hjx
        rw [strOf_list] at hd1
        rw [drop_cons hc, drop_cons hd1, alike_cons] at hal
        have HAL := Lib.hid hal
        have HC := Lib.hid (fun W => gsmall_b c W)
        have HD := Lib.hid (fun W => gsmall_b d W)
        have HSE := Lib.hid (small_eq (x := c) (y := d))
        generalize small c = x at HC HAL HSE
        generalize small d = y at HD HAL HSE
        generalize hp : x.toNat = p at HC HSE
        generalize hq : y.toNat = q at HD HSE
        clear hc hd1 hcn hdn hal hp hq
        by_cases hpq : p = q
        · have HN2 := Lib.hid (show alikeB a b = alikeB (a.drop (m + 1)) (b.drop (m + 1)) by rw [HAL.out, decide_eq_true (HSE.out.2 hpq), Bool.true_and])
          have e1 : ((p : Int) == (q : Int)) = true := beq_iff_eq.2 (by omega)
          have e2 : (p == q) = true := beq_iff_eq.2 hpq
          clear hpq HAL HSE
          go_upto_region 6 with (fail)
          have z1 : ∀ d os, _ := fun d os => Calls.regrown_of (HC.out (Sort.grow (redrawn wr d) os))
          have z2 : ∀ d os, _ := fun d os => Calls.regrown_of (HD.out (Sort.grow (redrawn wr d) os))
          refine wp_region_quiet_below (by kernel_rfl) (by kernel_rfl) ?_
          repeat (go_big_quiet_step (with_reducible first | exact z1 _ _ | exact z2 _ _))
          refine wpQuiet_nil ?_
          intro _ hw'
          obtain ⟨⟨dq, osq⟩, hw''⟩ := hw'
          subst hw''
          have HZ := Lib.hid (below_next HB.out (below_regrown wr dq osq))
          clear z1 z2
          go_wp2_with fail
          go_roundw
          case rel => exact ⟨m + 1, by omega, by go_num, HN2.out, HZ.out⟩
          case measure => simp [intOf]; omega
        · have HF := Lib.hid (show alikeB a b = false by rw [HAL.out, decide_eq_false (fun e => hpq (HSE.out.1 e)), Bool.false_and])
          have e1 : ((p : Int) == (q : Int)) = false := beq_eq_false_iff_ne.2 (fun e => hpq (by omega))
          have e2 : (p == q) = false := beq_eq_false_iff_ne.2 hpq
          clear hpq HAL HSE
          go_upto_region 6 with (fail)
          have z1 : ∀ d os, _ := fun d os => Calls.regrown_of (HC.out (Sort.grow (redrawn wr d) os))
          have z2 : ∀ d os, _ := fun d os => Calls.regrown_of (HD.out (Sort.grow (redrawn wr d) os))
          refine wp_region_quiet_below (by kernel_rfl) (by kernel_rfl) ?_
          repeat (go_big_quiet_step (with_reducible first | exact z1 _ _ | exact z2 _ _))
          refine wpQuiet_nil ?_
          intro _ hw'
          obtain ⟨⟨dq, osq⟩, hw''⟩ := hw'
          subst hw''
          have HZ := Lib.hid (below_next HB.out (below_regrown wr dq osq))
          clear z1 z2
          go_wp2_with fail
          go_ret
          exact ⟨by rw [HF.out]; rfl, HZ.out⟩
      · have hd : decide ((m : Int) < (a.length : Int)) = false := by simp; omega
        have HF := Lib.hid (show alikeB a b = true by rw [hal, List.drop_eq_nil_of_le (by omega), List.drop_eq_nil_of_le (by omega)]; exact alikeB_refl _)
        clear hal
        go_wp2_with fail
        go_ret
        exact ⟨by rw [HF.out]; rfl, HB.out⟩
  · have e1 : ((a.length : Int) == (b.length : Int)) = false := beq_eq_false_iff_ne.2 (fun e => hn (by omega))
    have e2 : (a.length == b.length) = false := beq_eq_false_iff_ne.2 hn
    have HF := Lib.hid (alike_len hn)
    clear hn
    go_enter Tryz.func74, Tryz.ntmps74
    go_wp2_with fail
    go_ret
    exact ⟨by rw [HF.out]; rfl, Below.refl _ _⟩
end Go.Proofs.YtofadgmnjckpcaaGreatDoor
namespace Go.Proofs.YtofadgmnjckpcaaGreatDoor
open Go.RowKit

def ctK (c : UInt8) (l : List UInt8) : Nat := (l.takeWhile (fun x => x != c)).length
theorem ctK_cons (c x : UInt8) (l : List UInt8) : ctK c (x :: l) = if x = c then 0 else ctK c l + 1 := by
  unfold ctK
  by_cases h : x = c
  · rw [if_pos h, List.takeWhile_cons, if_neg (by simp [h])]
    rfl
  · rw [if_neg h, List.takeWhile_cons, if_pos (by simp [h])]
    rfl
theorem ctK_miss {c : UInt8} : ∀ {l : List UInt8}, c ∉ l → ctK c l = l.length
  | [], _ => rfl
  | x :: l, h => by
    rw [ctK_cons, if_neg (fun e => h (by simp [e])), ctK_miss (fun m => h (by simp [m]))]
    rfl
theorem ctK_at {c : UInt8} {r : List UInt8} : ∀ {p : List UInt8}, c ∉ p → ctK c (p ++ c :: r) = p.length
  | [], _ => by
    rw [List.nil_append, ctK_cons, if_pos rfl]
    rfl
  | x :: p, h => by
    rw [List.cons_append, ctK_cons, if_neg (fun e => h (by simp [e])), ctK_at (fun m => h (by simp [m]))]
    rfl
theorem ctK_hit {c : UInt8} {l : List UInt8} {i : Nat} (h : Lib.indexByte l c = i) (hi : i < l.length) : ctK c l = i := by
  obtain ⟨e1, e2⟩ := first_cut h
  conv => lhs; rw [e1]
  rw [ctK_at e2, List.length_take]
  omega
theorem ctK_le (c : UInt8) (l : List UInt8) : ctK c l ≤ l.length := by
  rcases index_cases l c with ⟨_, h⟩ | ⟨i, h, hi⟩
  · rw [ctK_miss h]; exact Nat.le_refl _
  · rw [ctK_hit h hi]; omega
set_option maxRecDepth 100000 in
set_option maxHeartbeats 1000000 in
theorem pcut_hit (L : List UInt8) (c : UInt8) (i : Nat) (h : Lib.indexByte L c = i) (hi : i < L.length) (hL : L.length ≤ 1000000) (w : World) :
    Calls Tryz.prog 118 #[.string (strOf L), .string ⟨#[c]⟩] w fun e w' => e = .returned (.tuple #[.string (strOf (L.take i)), .string (strOf (L.drop (i + 1))), .bool true]) ∧ Below w.heap.size w w' := by
  have hx := fun w => index_byte (strOf L) c w
  rw [strOf_list, h] at hx
  have HX := Lib.hid hx
  have es := strOf_size L
  have c1 : (0 : Int) ≤ (i : Int) := by omega
  have c2 : (i : Int) ≤ (L.length : Int) := by omega
  have c3 : (i : Int) + 1 ≤ (L.length : Int) := by omega
  have d0 : decide ((0 : Int) ≤ (i : Int)) = true := by simp
  have hw1 : wrap64 ((i : Int) + 1) = (i : Int) + 1 := by unfold wrap64; omega
  have hs1 := slice_front L i (by omega)
  have hs2 := slice_back L (i + 1) (by omega) ((i : Int) + 1) (by omega)
  generalize L.take i = A at hs1
  generalize L.drop (i + 1) = B at hs2
  clear hx h
  go_enter Tryz.func118, Tryz.ntmps118
  go_wp2_with (go_at_call 132; (with_reducible refine (HX.out _).mono ?_); rintro e w1 ⟨rfl, rfl⟩)
  go_region_o
  go_wp2
  go_ret3
  exact ⟨rfl, (Below.refl _ _).drew⟩
set_option maxRecDepth 100000 in
set_option maxHeartbeats 1000000 in
theorem pcut_miss (L : List UInt8) (c : UInt8) (h : Lib.indexByte L c = -1) (w : World) :
    Calls Tryz.prog 118 #[.string (strOf L), .string ⟨#[c]⟩] w fun e w' => e = .returned (.tuple #[.string (strOf L), .string ⟨#[]⟩, .bool false]) ∧ Below w.heap.size w w' := by
  have hx := fun w => index_byte (strOf L) c w
  rw [strOf_list, h] at hx
  have HX := Lib.hid hx
  clear hx h
  go_enter Tryz.func118, Tryz.ntmps118
  go_wp2_with (go_at_call 132; (with_reducible refine (HX.out _).mono ?_); rintro e w1 ⟨rfl, rfl⟩)
  go_ret3
  exact ⟨rfl, Below.refl _ _⟩
theorem pcutl_any (L : List UInt8) (c : UInt8) (hL : L.length ≤ 1000000) (w : World) :
    Calls Tryz.prog 118 #[.string (strOf L), .string ⟨#[c]⟩] w fun e w' =>
      e = .returned (.tuple #[.string (strOf (L.take (ctK c L))), .string (strOf (L.drop (ctK c L + 1))), .bool (decide (ctK c L < L.length))]) ∧ Below w.heap.size w w' := by
  rcases index_cases L c with ⟨h, hno⟩ | ⟨i, h, hi⟩
  · rw [ctK_miss hno, List.take_length, List.drop_eq_nil_of_le (by omega), decide_eq_false (by omega)]
    exact pcut_miss L c h w
  · rw [ctK_hit h hi, decide_eq_true hi]
    exact pcut_hit L c i h hi hL w
set_option maxRecDepth 100000 in
theorem pcut_any (L : List UInt8) (c : UInt8) (hL : L.length ≤ 1000000) (w : World) :
    Calls Tryz.prog 99 #[.string (strOf L), .string ⟨#[c]⟩] w fun e w' =>
      e = .returned (.tuple #[.string (strOf (L.take (ctK c L))), .string (strOf (L.drop (ctK c L + 1))), .bool (decide (ctK c L < L.length))]) ∧ Below w.heap.size w w' := by
  have HC := Lib.hid (fun w => pcutl_any L c hL w)
  generalize L.take (ctK c L) = A at HC
  generalize L.drop (ctK c L + 1) = B at HC
  generalize decide (ctK c L < L.length) = b at HC
  go_enter Tryz.func99, Tryz.ntmps99
  go_wp2_with (go_at_call 118; (with_reducible refine (HC.out _).mono ?_); rintro e w1 ⟨rfl, hb⟩; have HB := Lib.hid hb; clear hb)
  go_ret3
  exact ⟨rfl, HB.out⟩

theorem pstar_yes (r : List UInt8) (w : World) : Calls Tryz.prog 120 #[.string (strOf (42 :: 46 :: r)), .string ⟨#[42, 46]⟩] w fun e w' => e = .returned (.tuple #[.string (strOf r), .bool true]) ∧ w' = w := by
  have h := Any.strings_CutPrefix lays103 (strOf (42 :: 46 :: r)) ⟨#[42, 46]⟩ w
  have e1 : Lib.hasPrefix (strOf (42 :: 46 :: r)).data.toList (⟨#[42, 46]⟩ : ByteArray).data.toList = true := by rw [strOf_list]; rfl
  have e2 : Lib.trimPrefix (strOf (42 :: 46 :: r)).data.toList (⟨#[42, 46]⟩ : ByteArray).data.toList = r := by unfold Lib.trimPrefix; rw [if_pos e1, strOf_list]; rfl
  rw [e1, e2] at h
  exact h
theorem pstar_no {L : List UInt8} (hn : ∀ r, L ≠ 42 :: 46 :: r) (w : World) : Calls Tryz.prog 120 #[.string (strOf L), .string ⟨#[42, 46]⟩] w fun e w' => e = .returned (.tuple #[.string (strOf L), .bool false]) ∧ w' = w := by
  have h := Any.strings_CutPrefix lays103 (strOf L) ⟨#[42, 46]⟩ w
  have e1 : Lib.hasPrefix (strOf L).data.toList (⟨#[42, 46]⟩ : ByteArray).data.toList = false := by
    rw [strOf_list, Bool.eq_false_iff]
    intro k
    obtain ⟨r, hr⟩ := List.isPrefixOf_iff_prefix.1 k
    exact hn r hr.symm
  have e2 : Lib.trimPrefix (strOf L).data.toList (⟨#[42, 46]⟩ : ByteArray).data.toList = L := by unfold Lib.trimPrefix; rw [if_neg (by rw [e1]; simp), strOf_list]
  rw [e1, e2] at h
  exact h
theorem pdot_yes (r : List UInt8) (w : World) : Calls Tryz.prog 117 #[.string (strOf (46 :: r)), .string ⟨#[46]⟩] w fun e w' => e = .returned (.string (strOf r)) ∧ w' = w := by
  have h := Any.strings_TrimPrefix lays101 (strOf (46 :: r)) ⟨#[46]⟩ w
  have e1 : Lib.hasPrefix (strOf (46 :: r)).data.toList (⟨#[46]⟩ : ByteArray).data.toList = true := by rw [strOf_list]; rfl
  have e2 : Lib.trimPrefix (strOf (46 :: r)).data.toList (⟨#[46]⟩ : ByteArray).data.toList = r := by unfold Lib.trimPrefix; rw [if_pos e1, strOf_list]; rfl
  rw [e2] at h
  exact h
theorem pdot_no {L : List UInt8} (hn : L.head? ≠ some 46) (w : World) : Calls Tryz.prog 117 #[.string (strOf L), .string ⟨#[46]⟩] w fun e w' => e = .returned (.string (strOf L)) ∧ w' = w := by
  have h := Any.strings_TrimPrefix lays101 (strOf L) ⟨#[46]⟩ w
  have e1 : Lib.hasPrefix (strOf L).data.toList (⟨#[46]⟩ : ByteArray).data.toList = false := by
    rw [strOf_list, Bool.eq_false_iff]
    intro k
    obtain ⟨r, hr⟩ := List.isPrefixOf_iff_prefix.1 k
    exact hn (by rw [← hr]; rfl)
  have e2 : Lib.trimPrefix (strOf L).data.toList (⟨#[46]⟩ : ByteArray).data.toList = L := by unfold Lib.trimPrefix; rw [if_neg (by rw [e1]; simp), strOf_list]
  rw [e2] at h
  exact h
theorem phas_dot (L : List UInt8) (w : World) : Calls Tryz.prog 121 #[.string (strOf L), .string ⟨#[46]⟩] w fun e w' => e = .returned (.bool (L.contains 46)) ∧ w' = w := by
  rw [idx_has]
  exact Any.strings_Contains_one lays144 (strOf L) 46 w
theorem ppre_dot (L : List UInt8) (w : World) : Calls Tryz.prog 119 #[.string (strOf L), .string ⟨#[46]⟩] w fun e w' => e = .returned (.bool (L.head? == some 46)) ∧ w' = w := by
  have h := Any.strings_HasPrefix lays99 (strOf L) ⟨#[46]⟩ w
  have e1 : Lib.hasPrefix (strOf L).data.toList (⟨#[46]⟩ : ByteArray).data.toList = (L.head? == some 46) := by
    rw [strOf_list]
    cases L with
    | nil => rfl
    | cons x r =>
      show (List.isPrefixOf [46] (x :: r)) = _
      rw [Bool.eq_iff_iff, List.isPrefixOf_iff_prefix, beq_iff_eq]
      constructor
      · rintro ⟨q, hq⟩
        rw [← hq]
        rfl
      · intro k
        have k2 : x = 46 := Option.some.inj k
        rw [k2]
        exact ⟨r, rfl⟩
  rw [e1] at h
  exact h
theorem psuf_dot (L : List UInt8) (hL : L.length ≤ 1000000) (w : World) : Calls Tryz.prog 125 #[.string (strOf L), .string ⟨#[46]⟩] w fun e w' => e = .returned (.bool (L.getLast? == some 46)) ∧ w' = w := by
  have h := Any.strings_HasSuffix lays100 (strOf L) ⟨#[46]⟩ w (by rw [strOf_size]; omega)
  have e1 : Lib.hasSuffix (strOf L).data.toList (⟨#[46]⟩ : ByteArray).data.toList = (L.getLast? == some 46) := by
    rw [strOf_list]
    show (List.isSuffixOf [46] L) = _
    rw [Bool.eq_iff_iff, List.isSuffixOf_iff_suffix, beq_iff_eq]
    constructor
    · rintro ⟨p, rfl⟩
      simp
    · intro k
      obtain ⟨p, rfl⟩ := List.getLast?_eq_some_iff.1 k
      exact List.suffix_append _ _
  rw [e1] at h
  exact h
end Go.Proofs.YtofadgmnjckpcaaGreatDoor
