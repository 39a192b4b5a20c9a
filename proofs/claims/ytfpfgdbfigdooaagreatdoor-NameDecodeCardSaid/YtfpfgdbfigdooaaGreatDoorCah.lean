/-
  The contract of utf8.ValidString: the library's theorem, laid at the program's own numbers. Nothing is claimed of the program beyond its bodies.
  The contracts of text.Valid and of the reference's ValidText: whether a text may be the contents of a string of a kind; nothing that was there before the call has changed.
-/
import Derived.Shelf.Unicode.ValidAny
import Derived.Test.YtfpfgdbfigdooaaGreatDoorCaa
import Derived.Test.YtfpfgdbfigdooaaGreatDoorCaf
import Derived.Test.YtfpfgdbfigdooaaGreatDoorCag
namespace Go.Proofs.YtfpfgdbfigdooaaGreatDoor
open Go.Shelf Go.RowKit

def lays196_ren : Go.Shelf.Ren := ⟨fun | 196 => 135 | 259 => 176 | n => n, fun | 0 => 0 | 3 => 3 | 4 => 4 | 5 => 5 | 9 => 9 | 12 => 12 | 46 => 101 | 53 => 147 | 119 => 189 | 138 => 191 | 139 => 192 | n => n, fun | 3 => 2 | 4 => 3 | n => n⟩
theorem lays196 : Go.Proofs.Lays.n196 Tryz.prog lays196_ren := {
  mixed := by kernel_rfl
  f196 := Tryz.func135.trans (congrArg some (by kernel_rfl))
  f259 := Tryz.func176.trans (congrArg some (by kernel_rfl))
  t0 := Tryz.underlying0
  a0 := Tryz.isAgg0
  z0 := Tryz.sizeOf0
  v0 := Tryz.zeroValue0
  t3 := Tryz.underlying3
  a3 := Tryz.isAgg3
  z3 := Tryz.sizeOf3
  v3 := Tryz.zeroValue3
  t4 := Tryz.underlying4
  a4 := Tryz.isAgg4
  z4 := Tryz.sizeOf4
  v4 := Tryz.zeroValue4
  t5 := Tryz.underlying5
  a5 := Tryz.isAgg5
  z5 := Tryz.sizeOf5
  v5 := Tryz.zeroValue5
  t9 := Tryz.underlying9
  a9 := Tryz.isAgg9
  z9 := Tryz.sizeOf9
  v9 := Tryz.zeroValue9
  t12 := Tryz.underlying12
  a12 := Tryz.isAgg12
  z12 := Tryz.sizeOf12
  v12 := Tryz.zeroValue12
  t46 := Tryz.underlying101
  a46 := Tryz.isAgg101
  z46 := Tryz.sizeOf101
  v46 := Tryz.zeroValue101
  t53 := Tryz.underlying147
  a53 := Tryz.isAgg147
  z53 := Tryz.sizeOf147
  v53 := Tryz.zeroValue147
  t119 := Tryz.underlying189
  a119 := Tryz.isAgg189
  z119 := Tryz.sizeOf189
  t138 := Tryz.underlying191
  a138 := Tryz.isAgg191
  z138 := Tryz.sizeOf191
  v138 := Tryz.zeroValue191
  t139 := Tryz.underlying192
  a139 := Tryz.isAgg192
  z139 := Tryz.sizeOf192
  v139 := Tryz.zeroValue192
  g3 := by kernel_rfl
  g4 := by kernel_rfl }

theorem valid_any_x (s : ByteArray) (w : World) (hs : s.size ≤ 1099511627776) (hT : Tab w) : Calls Tryz.prog 135 #[.string s] w fun e w' => e = .returned (.bool (Lib.validD s.data.toList)) ∧ Below w.heap.size w w' :=
  Any.utf8_ValidString lays196 s w (by omega) hT
end Go.Proofs.YtfpfgdbfigdooaaGreatDoor
namespace Go.Proofs.YtfpfgdbfigdooaaGreatDoor
open Go.RowKit

def validB (kind : Int) (l : List UInt8) : Bool :=
  if kind = 12 then okU l else if kind = 19 then l.all fun b => isP b.toNat else if kind = 22 then l.all fun b => isI b.toNat else false
theorem isP_big (n : Nat) (h : 128 ≤ n) : isP n = false := by
  unfold isP
  rw [alnum_big (by omega), decide_eq_false (by omega)]
  rfl
theorem isI_big (n : Nat) (h : 128 ≤ n) : isI n = false := by
  unfold isI
  simp; omega
theorem pays_u : Pays 137 isU := fun n _ w => (isu_any n w).mono fun _ _ ⟨h1, h2⟩ => ⟨h1, by rw [h2]; exact Below.refl _ _⟩
theorem pays_i : Pays 139 isI := fun n _ w => (isi_any n w).mono fun _ _ ⟨h1, h2⟩ => ⟨h1, by rw [h2]; exact Below.refl _ _⟩
theorem pays_p : Pays 138 isP := fun n h w => isp_any n h w
theorem cons_u (s : ByteArray) (w : World) : Calls Tryz.prog 136 #[.string s, .func (.func 137) #[] #[]] w fun e w' => e = .returned (.bool (allD isU s.data.toList)) ∧ Below w.heap.size w w' :=
  cons_any _ (enters_of Tryz.func137 (by kernel_rfl) rfl) _ pays_u s w
theorem cons_i (s : ByteArray) (w : World) : Calls Tryz.prog 136 #[.string s, .func (.func 139) #[] #[]] w fun e w' => e = .returned (.bool (s.data.toList.all fun b => isI b.toNat)) ∧ Below w.heap.size w w' := by
  have := cons_any _ (enters_of Tryz.func139 (by kernel_rfl) rfl) _ pays_i s w
  rwa [allD_ascii isI isI_big _ _ (Nat.le_refl _)] at this
theorem cons_p (s : ByteArray) (w : World) : Calls Tryz.prog 136 #[.string s, .func (.func 138) #[] #[]] w fun e w' => e = .returned (.bool (s.data.toList.all fun b => isP b.toNat)) ∧ Below w.heap.size w w' := by
  have := cons_any _ (enters_of Tryz.func138 (by kernel_rfl) rfl) _ pays_p s w
  rwa [allD_ascii isP isP_big _ _ (Nat.le_refl _)] at this

set_option maxRecDepth 100000 in
set_option maxHeartbeats 2000000 in
theorem tval_any (kind : Int) (s : ByteArray) (w : World) (hs : s.size ≤ 1099511627776) (hT : Tab w) :
    Calls Tryz.prog 103 #[.int .i64 kind, .string s] w fun e w' => e = .returned (.bool (validB kind s.data.toList)) ∧ Below w.heap.size w w' := by
  have HS := Lib.hid hs
  have HT := Lib.hid hT
  clear hT
  by_cases h12 : kind = 12
  · subst h12
    obtain ⟨v, hv⟩ : ∃ v, Lib.validD s.data.toList = v := ⟨_, rfl⟩
    obtain ⟨c, hc⟩ : ∃ c, allD isU s.data.toList = c := ⟨_, rfl⟩
    have HR := Lib.hid (show validB 12 s.data.toList = (v && c) by rw [← hv, ← hc]; rfl)
    have HV := Lib.hid (fun w hT => valid_any_x s w HS.out hT)
    have HC := Lib.hid (fun w => cons_u s w)
    rw [hv] at HV
    rw [hc] at HC
    clear hv hc
    cases v with
    | true =>
      go_enter Tryz.func103, Tryz.ntmps103
      go_wp2_with (first
        | (go_at_call 135; (with_reducible refine (HV.out _ HT.out).mono ?_); rintro e w1 ⟨rfl, hb1⟩; have HB1 := Lib.hid hb1; clear hb1)
        | (go_at_call 136; (with_reducible refine (HC.out _).mono ?_); rintro e w2 ⟨rfl, hb1⟩; have HB2 := Lib.hid (below_next HB1.out hb1); clear hb1))
      go_ret
      exact ⟨by rw [HR.out]; rfl, HB2.out⟩
    | false =>
      go_enter Tryz.func103, Tryz.ntmps103
      go_wp2_with (go_at_call 135; (with_reducible refine (HV.out _ HT.out).mono ?_); rintro e w1 ⟨rfl, hb1⟩; have HB1 := Lib.hid hb1; clear hb1)
      go_ret
      exact ⟨by rw [HR.out]; rfl, HB1.out⟩
  · have d12 : (kind == 12) = false := by simpa using h12
    by_cases h19 : kind = 19
    · subst h19
      have HC := Lib.hid (fun w => cons_p s w)
      have HR := Lib.hid (show validB 19 s.data.toList = s.data.toList.all fun b => isP b.toNat from rfl)
      rw [← HR.out] at HC
      clear HR h12 d12
      go_enter Tryz.func103, Tryz.ntmps103
      go_wp2_with (go_at_call 136; (with_reducible refine (HC.out _).mono ?_); rintro e w2 ⟨rfl, hb1⟩; have HB2 := Lib.hid hb1; clear hb1)
      go_ret
      exact ⟨rfl, HB2.out⟩
    · have d19 : (kind == 19) = false := by simpa using h19
      by_cases h22 : kind = 22
      · subst h22
        have HC := Lib.hid (fun w => cons_i s w)
        have HR := Lib.hid (show validB 22 s.data.toList = s.data.toList.all fun b => isI b.toNat from rfl)
        rw [← HR.out] at HC
        clear HR h12 d12 h19 d19
        go_enter Tryz.func103, Tryz.ntmps103
        go_wp2_with (go_at_call 136; (with_reducible refine (HC.out _).mono ?_); rintro e w2 ⟨rfl, hb1⟩; have HB2 := Lib.hid hb1; clear hb1)
        go_ret
        exact ⟨rfl, HB2.out⟩
      · have d22 : (kind == 22) = false := by simpa using h22
        have HR := Lib.hid (show validB kind s.data.toList = false by unfold validB; rw [if_neg h12, if_neg h19, if_neg h22])
        clear h12 h19 h22
        go_enter Tryz.func103, Tryz.ntmps103
        go_wp2_with fail
        go_ret
        exact ⟨by rw [HR.out]; rfl, Below.refl _ _⟩
theorem isP_byte (c : UInt8) : isP c.toNat = (alnum c.toNat || printL.contains c) := by
  unfold isP
  by_cases h : c.toNat < 128
  · rw [decide_eq_true h, Bool.true_and, show UInt8.ofNat c.toNat = c by simp]
  · rw [decide_eq_false h, Bool.false_and]
    have : printL.contains c = false := by
      rw [List.contains_eq_any_beq, List.any_eq_false]
      intro b hb e
      have e4 : c = b := by first | exact eq_of_beq e | exact (eq_of_beq e).symm
      subst e4
      have : ∀ b ∈ printL, b.toNat < 128 := by decide
      exact h (this _ hb)
    rw [this]

set_option maxRecDepth 100000 in
set_option maxHeartbeats 4000000 in
theorem rval_any (kind : Int) (s : ByteArray) (w : World) (hs : s.size ≤ 1099511627776) :
    Calls Tryz.prog 66 #[.int .i64 kind, .string s] w fun e w' => e = .returned (.bool (validB kind s.data.toList)) ∧ Below w.heap.size w w' := by
  by_cases h12 : kind = 12
  · subst h12
    have HV := Lib.hid (fun w => rutf8_any s w hs)
    have HR := Lib.hid (show validB 12 s.data.toList = okU s.data.toList from rfl)
    rw [← HR.out] at HV
    clear HR
    go_enter Tryz.func66, Tryz.ntmps66
    go_wp2_with (go_at_call 106; (with_reducible refine (HV.out _).mono ?_); rintro e w1 ⟨rfl, rfl⟩)
    go_ret
    exact ⟨rfl, Below.refl _ _⟩
  · have d12 : (kind == 12) = false := by simpa using h12
    by_cases h19 : kind = 19
    · subst h19
      obtain ⟨ANS, hANS⟩ : ∃ ANS, validB 19 s.data.toList = ANS := ⟨_, rfl⟩
      have HR := Lib.hid (show (s.data.toList.all fun b => isP b.toNat) = ANS from hANS)
      rw [hANS]
      clear hANS h12 d12
      go_enter Tryz.func66, Tryz.ntmps66
      go_wp2_with fail
      go_loopw [5] (fun i wr => ∃ k : Nat, k ≤ s.size ∧ i = .int .i64 (k : Int) ∧ ((s.data.toList.drop k).all fun b => isP b.toNat) = ANS ∧ wr = w) (fun i _ => s.size - (intOf i).toNat)
      case atStart => exact ⟨0, Nat.zero_le _, rfl, HR.out, rfl⟩
      case round =>
        obtain ⟨k, hk, rfl, hA, rfl⟩ := hrel
        by_cases hlt : k < s.size
        · have hd : decide ((k : Int) < (s.size : Int)) = true := by simp; omega
          obtain ⟨c, hc, hcn⟩ := u8at_list s k hlt
          have hix := fun w => run_index_u8 (P := Tryz.prog) Tryz.underlying9 s k hlt (k : Int) rfl w
          rw [hcn] at hix
          rw [drop_cons hc, List.all_cons, isP_byte] at hA
          obtain ⟨b, hb⟩ : ∃ b, printL.contains c = b := ⟨_, rfl⟩
          have HI := Lib.hid (fun w => among_is (c := c) (l := ⟨#[32, 39, 40, 41, 43, 44, 45, 46, 47, 58, 61, 63]⟩) (show (⟨#[32, 39, 40, 41, 43, 44, 45, 46, 47, 58, 61, 63]⟩ : ByteArray).data.toList.contains c = b from hb) (by decide) w)
          rw [hb] at hA
          clear hb hc hcn
          cases ha : alnum c.toNat with
          | true =>
            have HA := Lib.hid (fun w => ralnum_is ha w)
            rw [ha, Bool.true_or, Bool.true_and] at hA
            have HN := Lib.hid hA
            clear ha hA
            go_wp2_with (go_at_call 107; (with_reducible refine (HA.out _).mono ?_); rintro e w1 ⟨rfl, rfl⟩)
            go_roundw
            case rel => exact ⟨k + 1, by omega, by go_num, HN.out, by first | exact trivial | rfl⟩
            case measure => simp [intOf]; omega
          | false =>
            have HA := Lib.hid (fun w => ralnum_is ha w)
            rw [ha, Bool.false_or] at hA
            cases b with
            | true =>
              rw [Bool.true_and] at hA
              have HN := Lib.hid hA
              clear ha hA
              go_wp2_with (first
                | (go_at_call 107; (with_reducible refine (HA.out _).mono ?_); rintro e w1 ⟨rfl, rfl⟩)
                | (go_at_call 108; (with_reducible refine (HI.out _).mono ?_); rintro e w1 ⟨rfl, rfl⟩))
              go_roundw
              case rel => exact ⟨k + 1, by omega, by go_num, HN.out, by first | exact trivial | rfl⟩
              case measure => simp [intOf]; omega
            | false =>
              rw [Bool.false_and] at hA
              have HN := Lib.hid hA
              clear ha hA
              go_wp2_with (first
                | (go_at_call 107; (with_reducible refine (HA.out _).mono ?_); rintro e w1 ⟨rfl, rfl⟩)
                | (go_at_call 108; (with_reducible refine (HI.out _).mono ?_); rintro e w1 ⟨rfl, rfl⟩))
              go_ret
              exact ⟨by rw [← HN.out]; rfl, Below.refl _ _⟩
        · have hd : decide ((k : Int) < (s.size : Int)) = false := by simp; omega
          have HN := Lib.hid (show ANS = true by
            rw [← hA, List.drop_eq_nil_of_le (show s.data.toList.length ≤ k by show s.size ≤ k; omega)]
            rfl)
          clear hA
          go_wp2_with fail
          go_ret
          exact ⟨by rw [HN.out]; rfl, Below.refl _ _⟩
    · have d19 : (kind == 19) = false := by simpa using h19
      by_cases h22 : kind = 22
      · subst h22
        obtain ⟨ANS, hANS⟩ : ∃ ANS, validB 22 s.data.toList = ANS := ⟨_, rfl⟩
        have HR := Lib.hid (show (s.data.toList.all fun b => isI b.toNat) = ANS from hANS)
        rw [hANS]
        clear hANS h12 d12 h19 d19
        go_enter Tryz.func66, Tryz.ntmps66
        go_wp2_with fail
        go_loopw [5] (fun i wr => ∃ k : Nat, k ≤ s.size ∧ i = .int .i64 (k : Int) ∧ ((s.data.toList.drop k).all fun b => isI b.toNat) = ANS ∧ wr = w) (fun i _ => s.size - (intOf i).toNat)
        case atStart => exact ⟨0, Nat.zero_le _, rfl, HR.out, rfl⟩
        case round =>
          obtain ⟨k, hk, rfl, hA, rfl⟩ := hrel
          by_cases hlt : k < s.size
          · have hd : decide ((k : Int) < (s.size : Int)) = true := by simp; omega
            obtain ⟨c, hc, hcn⟩ := u8at_list s k hlt
            have hix := fun w => run_index_u8 (P := Tryz.prog) Tryz.underlying9 s k hlt (k : Int) rfl w
            rw [hcn] at hix
            rw [drop_cons hc, List.all_cons] at hA
            generalize c.toNat = x at hix hA
            clear hc hcn
            by_cases h32 : x < 32
            · have d1 : decide ((x : Int) < 32) = true := by simp; omega
              have HN := Lib.hid (show ANS = false by rw [← hA, show isI x = false by unfold isI; simp; omega]; rfl)
              clear h32 hA
              go_wp2_with fail
              go_ret
              exact ⟨by rw [HN.out]; rfl, Below.refl _ _⟩
            · have d1 : decide ((x : Int) < 32) = false := by simp; omega
              by_cases h126 : 126 < x
              · have d2 : decide ((126 : Int) < (x : Int)) = true := by simp; omega
                have HN := Lib.hid (show ANS = false by rw [← hA, show isI x = false by unfold isI; simp; omega]; rfl)
                clear h32 h126 hA
                go_wp2_with fail
                go_ret
                exact ⟨by rw [HN.out]; rfl, Below.refl _ _⟩
              · have d2 : decide ((126 : Int) < (x : Int)) = false := by simp; omega
                have HN := Lib.hid (show ((s.data.toList.drop (k + 1)).all fun b => isI b.toNat) = ANS by rw [← hA, show isI x = true by unfold isI; simp; omega, Bool.true_and])
                clear h32 h126 hA
                go_wp2_with fail
                go_roundw
                case rel => exact ⟨k + 1, by omega, by go_num, HN.out, by first | exact trivial | rfl⟩
                case measure => simp [intOf]; omega
          · have hd : decide ((k : Int) < (s.size : Int)) = false := by simp; omega
            have HN := Lib.hid (show ANS = true by
              rw [← hA, List.drop_eq_nil_of_le (show s.data.toList.length ≤ k by show s.size ≤ k; omega)]
              rfl)
            clear hA
            go_wp2_with fail
            go_ret
            exact ⟨by rw [HN.out]; rfl, Below.refl _ _⟩
      · have d22 : (kind == 22) = false := by simpa using h22
        have HR := Lib.hid (show validB kind s.data.toList = false by unfold validB; rw [if_neg h12, if_neg h19, if_neg h22])
        clear h12 h19 h22
        go_enter Tryz.func66, Tryz.ntmps66
        go_wp2_with fail
        go_ret
        exact ⟨by rw [HR.out]; rfl, Below.refl _ _⟩
end Go.Proofs.YtfpfgdbfigdooaaGreatDoor
