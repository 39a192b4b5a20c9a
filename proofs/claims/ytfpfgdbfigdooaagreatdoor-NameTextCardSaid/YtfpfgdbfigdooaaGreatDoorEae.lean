/-
  The contract of utf8.ValidString: the library's theorem, laid at the program's own numbers. Nothing is claimed of the program beyond its bodies.
  The contracts of text.Valid and of the reference's ValidText: whether a text may be the contents of a string of a kind; nothing that was there before the call has changed.
  The contracts of strings.SplitN at a point, strings.HasPrefix, strings.Join, strconv.Itoa, cmp.Compare and bits.Len: the library's theorems, laid at the program's own numbers. Nothing is claimed of the program beyond its bodies.
-/
import Derived.Shelf.Unicode.ValidAny
import Derived.Test.YtfpfgdbfigdooaaGreatDoorEaa
import Derived.Test.YtfpfgdbfigdooaaGreatDoorEac
import Derived.Test.YtfpfgdbfigdooaaGreatDoorEad
import Derived.Shelf.Strings.Builder1
import Derived.Shelf.Strings.Builder2
import Derived.Shelf.Strings.OnBuilder
import Derived.Shelf.Small.Strs
import Derived.Shelf.Small.Wraps
import Derived.Shelf.Small.Bits
import Derived.Shelf.Strings.Split
import Derived.Shelf.Strings.Prefix
import Derived.Shelf.Strconv.Itoa4
import Derived.Lib.AppendIntMem
import Derived.Test.YtfpfgdbfigdooaaGreatDoorChecked
namespace Go.Proofs.YtfpfgdbfigdooaaGreatDoor
open Go.Shelf Go.RowKit

def lays196_ren : Go.Shelf.Ren := ⟨fun | 196 => 135 | 259 => 176 | n => n, fun | 0 => 0 | 3 => 3 | 4 => 4 | 5 => 5 | 9 => 9 | 12 => 12 | 46 => 101 | 53 => 147 | 119 => 189 | 138 => 191 | 139 => 192 | n => n, fun | 3 => 2 | 4 => 3 | n => n⟩
theorem lays196 : Go.Proofs.Lays.n196 Tryz.prog lays196_ren := {
  mixed := by kernel_rfl
  f196 := Tryz.func135.trans (congrArg some (by kernel_rfl))
  f259 := Tryz.func176.trans (congrArg some (by kernel_rfl))
  t0 := Tryz.underlying0
  a0 := Tryz.isAgg0
  z0 := Tryz.sizeOf0
  v0 := Tryz.zeroValue0
  t3 := Tryz.underlying3
  a3 := Tryz.isAgg3
  z3 := Tryz.sizeOf3
  v3 := Tryz.zeroValue3
  t4 := Tryz.underlying4
  a4 := Tryz.isAgg4
  z4 := Tryz.sizeOf4
  v4 := Tryz.zeroValue4
  t5 := Tryz.underlying5
  a5 := Tryz.isAgg5
  z5 := Tryz.sizeOf5
  v5 := Tryz.zeroValue5
  t9 := Tryz.underlying9
  a9 := Tryz.isAgg9
  z9 := Tryz.sizeOf9
  v9 := Tryz.zeroValue9
  t12 := Tryz.underlying12
  a12 := Tryz.isAgg12
  z12 := Tryz.sizeOf12
  v12 := Tryz.zeroValue12
  t46 := Tryz.underlying101
  a46 := Tryz.isAgg101
  z46 := Tryz.sizeOf101
  v46 := Tryz.zeroValue101
  t53 := Tryz.underlying147
  a53 := Tryz.isAgg147
  z53 := Tryz.sizeOf147
  v53 := Tryz.zeroValue147
  t119 := Tryz.underlying189
  a119 := Tryz.isAgg189
  z119 := Tryz.sizeOf189
  t138 := Tryz.underlying191
  a138 := Tryz.isAgg191
  z138 := Tryz.sizeOf191
  v138 := Tryz.zeroValue191
  t139 := Tryz.underlying192
  a139 := Tryz.isAgg192
  z139 := Tryz.sizeOf192
  v139 := Tryz.zeroValue192
  g3 := by kernel_rfl
  g4 := by kernel_rfl }

theorem valid_any_x (s : ByteArray) (w : World) (hs : s.size ≤ 1099511627776) (hT : Tab w) : Calls Tryz.prog 135 #[.string s] w fun e w' => e = .returned (.bool (Lib.validD s.data.toList)) ∧ Below w.heap.size w w' :=
  Any.utf8_ValidString lays196 s w (by omega) hT
end Go.Proofs.YtfpfgdbfigdooaaGreatDoor
namespace Go.Proofs.YtfpfgdbfigdooaaGreatDoor
open Go.RowKit

def validB (kind : Int) (l : List UInt8) : Bool :=
  if kind = 12 then okU l else if kind = 19 then l.all fun b => isP b.toNat else if kind = 22 then l.all fun b => isI b.toNat else false
theorem isP_big (n : Nat) (h : 128 ≤ n) : isP n = false := by
  unfold isP
  rw [alnum_big (by omega), decide_eq_false (by omega)]
  rfl
theorem isI_big (n : Nat) (h : 128 ≤ n) : isI n = false := by
  unfold isI
  simp; omega
theorem pays_u : Pays 137 isU := fun n _ w => (isu_any n w).mono fun _ _ ⟨h1, h2⟩ => ⟨h1, by rw [h2]; exact Below.refl _ _⟩
theorem pays_i : Pays 139 isI := fun n _ w => (isi_any n w).mono fun _ _ ⟨h1, h2⟩ => ⟨h1, by rw [h2]; exact Below.refl _ _⟩
theorem pays_p : Pays 138 isP := fun n h w => isp_any n h w
theorem cons_u (s : ByteArray) (w : World) : Calls Tryz.prog 136 #[.string s, .func (.func 137) #[] #[]] w fun e w' => e = .returned (.bool (allD isU s.data.toList)) ∧ Below w.heap.size w w' :=
  cons_any _ (enters_of Tryz.func137 (by kernel_rfl) rfl) _ pays_u s w
theorem cons_i (s : ByteArray) (w : World) : Calls Tryz.prog 136 #[.string s, .func (.func 139) #[] #[]] w fun e w' => e = .returned (.bool (s.data.toList.all fun b => isI b.toNat)) ∧ Below w.heap.size w w' := by
  have := cons_any _ (enters_of Tryz.func139 (by kernel_rfl) rfl) _ pays_i s w
  rwa [allD_ascii isI isI_big _ _ (Nat.le_refl _)] at this
theorem cons_p (s : ByteArray) (w : World) : Calls Tryz.prog 136 #[.string s, .func (.func 138) #[] #[]] w fun e w' => e = .returned (.bool (s.data.toList.all fun b => isP b.toNat)) ∧ Below w.heap.size w w' := by
  have := cons_any _ (enters_of Tryz.func138 (by kernel_rfl) rfl) _ pays_p s w
  rwa [allD_ascii isP isP_big _ _ (Nat.le_refl _)] at this

set_option maxRecDepth 100000 in
set_option maxHeartbeats 2000000 in
theorem tval_any (kind : Int) (s : ByteArray) (w : World) (hs : s.size ≤ 1099511627776) (hT : Tab w) :
    Calls Tryz.prog 103 #[.int .i64 kind, .string s] w fun e w' => e = .returned (.bool (validB kind s.data.toList)) ∧ Below w.heap.size w w' := by
  have HS := Lib.hid hs
  have HT := Lib.hid hT
  clear hT
  by_cases h12 : kind = 12
  · subst h12
    obtain ⟨v, hv⟩ : ∃ v, Lib.validD s.data.toList = v := ⟨_, rfl⟩
    obtain ⟨c, hc⟩ : ∃ c, allD isU s.data.toList = c := ⟨_, rfl⟩
    have HR := Lib.hid (show validB 12 s.data.toList = (v && c) by rw [← hv, ← hc]; rfl)
    have HV := Lib.hid (fun w hT => valid_any_x s w HS.out hT)
    have HC := Lib.hid (fun w => cons_u s w)
    rw [hv] at HV
    rw [hc] at HC
    clear hv hc
    cases v with
    | true =>
      go_enter Tryz.func103, Tryz.ntmps103
      go_wp2_with (first
        | (go_at_call 135; (with_reducible refine (HV.out _ HT.out).mono ?_); rintro e w1 ⟨rfl, hb1⟩; have HB1 := Lib.hid hb1; clear hb1)
        | (go_at_call 136; (with_reducible refine (HC.out _).mono ?_); rintro e w2 ⟨rfl, hb1⟩; have HB2 := Lib.hid (below_next HB1.out hb1); clear hb1))
      go_ret
      exact ⟨by rw [HR.out]; rfl, HB2.out⟩
    | false =>
      go_enter Tryz.func103, Tryz.ntmps103
      go_wp2_with (go_at_call 135; (with_reducible refine (HV.out _ HT.out).mono ?_); rintro e w1 ⟨rfl, hb1⟩; have HB1 := Lib.hid hb1; clear hb1)
      go_ret
      exact ⟨by rw [HR.out]; rfl, HB1.out⟩
  · have d12 : (kind == 12) = false := by simpa using h12
    by_cases h19 : kind = 19
    · subst h19
      have HC := Lib.hid (fun w => cons_p s w)
      have HR := Lib.hid (show validB 19 s.data.toList = s.data.toList.all fun b => isP b.toNat from rfl)
      rw [← HR.out] at HC
      clear HR h12 d12
      go_enter Tryz.func103, Tryz.ntmps103
      go_wp2_with (go_at_call 136; (with_reducible refine (HC.out _).mono ?_); rintro e w2 ⟨rfl, hb1⟩; have HB2 := Lib.hid hb1; clear hb1)
      go_ret
      exact ⟨rfl, HB2.out⟩
    · have d19 : (kind == 19) = false := by simpa using h19
      by_cases h22 : kind = 22
      · subst h22
        have HC := Lib.hid (fun w => cons_i s w)
        have HR := Lib.hid (show validB 22 s.data.toList = s.data.toList.all fun b => isI b.toNat from rfl)
        rw [← HR.out] at HC
        clear HR h12 d12 h19 d19
        go_enter Tryz.func103, Tryz.ntmps103
        go_wp2_with (go_at_call 136; (with_reducible refine (HC.out _).mono ?_); rintro e w2 ⟨rfl, hb1⟩; have HB2 := Lib.hid hb1; clear hb1)
        go_ret
        exact ⟨rfl, HB2.out⟩
      · have d22 : (kind == 22) = false := by simpa using h22
        have HR := Lib.hid (show validB kind s.data.toList = false by unfold validB; rw [if_neg h12, if_neg h19, if_neg h22])
        clear h12 h19 h22
        go_enter Tryz.func103, Tryz.ntmps103
        go_wp2_with fail
        go_ret
        exact ⟨by rw [HR.out]; rfl, Below.refl _ _⟩
theorem isP_byte (c : UInt8) : isP c.toNat = (alnum c.toNat || printL.contains c) := by
  unfold isP
  by_cases h : c.toNat < 128
  · rw [decide_eq_true h, Bool.true_and, show UInt8.ofNat c.toNat = c by simp]
  · rw [decide_eq_false h, Bool.false_and]
    have : printL.contains c = false := by
      rw [List.contains_eq_any_beq, List.any_eq_false]
      intro b hb e
      have e4 : c = b := by first | exact eq_of_beq e | exact (eq_of_beq e).symm
      subst e4
      have : ∀ b ∈ printL, b.toNat < 128 := by decide
      exact h (this _ hb)
    rw [this]

set_option maxRecDepth 100000 in
set_option maxHeartbeats 4000000 in
theorem rval_any (kind : Int) (s : ByteArray) (w : World) (hs : s.size ≤ 1099511627776) :
    Calls Tryz.prog 66 #[.int .i64 kind, .string s] w fun e w' => e = .returned (.bool (validB kind s.data.toList)) ∧ Below w.heap.size w w' := by
  by_cases h12 : kind = 12
  · subst h12
    have HV := Lib.hid (fun w => rutf8_any s w hs)
    have HR := Lib.hid (show validB 12 s.data.toList = okU s.data.toList from rfl)
    rw [← HR.out] at HV
    clear HR
    go_enter Tryz.func66, Tryz.ntmps66
    go_wp2_with (go_at_call 106; (with_reducible refine (HV.out _).mono ?_); rintro e w1 ⟨rfl, rfl⟩)
    go_ret
    exact ⟨rfl, Below.refl _ _⟩
  · have d12 : (kind == 12) = false := by simpa using h12
    by_cases h19 : kind = 19
    · subst h19
      obtain ⟨ANS, hANS⟩ : ∃ ANS, validB 19 s.data.toList = ANS := ⟨_, rfl⟩
      have HR := Lib.hid (show (s.data.toList.all fun b => isP b.toNat) = ANS from hANS)
      rw [hANS]
      clear hANS h12 d12
      go_enter Tryz.func66, Tryz.ntmps66
      go_wp2_with fail
      go_loopw [5] (fun i wr => ∃ k : Nat, k ≤ s.size ∧ i = .int .i64 (k : Int) ∧ ((s.data.toList.drop k).all fun b => isP b.toNat) = ANS ∧ wr = w) (fun i _ => s.size - (intOf i).toNat)
      case atStart => exact ⟨0, Nat.zero_le _, rfl, HR.out, rfl⟩
      case round =>
        obtain ⟨k, hk, rfl, hA, rfl⟩ := hrel
        by_cases hlt : k < s.size
        · have hd : decide ((k : Int) < (s.size : Int)) = true := by simp; omega
          obtain ⟨c, hc, hcn⟩ := u8at_list s k hlt
          have hix := fun w => run_index_u8 (P := Tryz.prog) Tryz.underlying9 s k hlt (k : Int) rfl w
          rw [hcn] at hix
          rw [drop_cons hc, List.all_cons, isP_byte] at hA
          obtain ⟨b, hb⟩ : ∃ b, printL.contains c = b := ⟨_, rfl⟩
          have HI := Lib.hid (fun w => among_is (c := c) (l := ⟨#[32, 39, 40, 41, 43, 44, 45, 46, 47, 58, 61, 63]⟩) (show (⟨#[32, 39, 40, 41, 43, 44, 45, 46, 47, 58, 61, 63]⟩ : ByteArray).data.toList.contains c = b from hb) (by decide) w)
          rw [hb] at hA
          clear hb hc hcn
          cases ha : alnum c.toNat with
          | true =>
            have HA := Lib.hid (fun w => ralnum_is ha w)
            rw [ha, Bool.true_or, Bool.true_and] at hA
            have HN := Lib.hid hA
            clear ha hA
            go_wp2_with (go_at_call 107; (with_reducible refine (HA.out _).mono ?_); rintro e w1 ⟨rfl, rfl⟩)
            go_roundw
            case rel => exact ⟨k + 1, by omega, by go_num, HN.out, by first | exact trivial | rfl⟩
            case measure => simp [intOf]; omega
          | false =>
            have HA := Lib.hid (fun w => ralnum_is ha w)
            rw [ha, Bool.false_or] at hA
            cases b with
            | true =>
              rw [Bool.true_and] at hA
              have HN := Lib.hid hA
              clear ha hA
              go_wp2_with (first
                | (go_at_call 107; (with_reducible refine (HA.out _).mono ?_); rintro e w1 ⟨rfl, rfl⟩)
                | (go_at_call 108; (with_reducible refine (HI.out _).mono ?_); rintro e w1 ⟨rfl, rfl⟩))
              go_roundw
              case rel => exact ⟨k + 1, by omega, by go_num, HN.out, by first | exact trivial | rfl⟩
              case measure => simp [intOf]; omega
            | false =>
              rw [Bool.false_and] at hA
              have HN := Lib.hid hA
              clear ha hA
              go_wp2_with (first
                | (go_at_call 107; (with_reducible refine (HA.out _).mono ?_); rintro e w1 ⟨rfl, rfl⟩)
                | (go_at_call 108; (with_reducible refine (HI.out _).mono ?_); rintro e w1 ⟨rfl, rfl⟩))
              go_ret
              exact ⟨by rw [← HN.out]; rfl, Below.refl _ _⟩
        · have hd : decide ((k : Int) < (s.size : Int)) = false := by simp; omega
          have HN := Lib.hid (show ANS = true by
            rw [← hA, List.drop_eq_nil_of_le (show s.data.toList.length ≤ k by show s.size ≤ k; omega)]
            rfl)
          clear hA
          go_wp2_with fail
          go_ret
          exact ⟨by rw [HN.out]; rfl, Below.refl _ _⟩
    · have d19 : (kind == 19) = false := by simpa using h19
      by_cases h22 : kind = 22
      · subst h22
        obtain ⟨ANS, hANS⟩ : ∃ ANS, validB 22 s.data.toList = ANS := ⟨_, rfl⟩
        have HR := Lib.hid (show (s.data.toList.all fun b => isI b.toNat) = ANS from hANS)
        rw [hANS]
        clear hANS h12 d12 h19 d19
        go_enter Tryz.func66, Tryz.ntmps66
        go_wp2_with fail
        go_loopw [5] (fun i wr => ∃ k : Nat, k ≤ s.size ∧ i = .int .i64 (k : Int) ∧ ((s.data.toList.drop k).all fun b => isI b.toNat) = ANS ∧ wr = w) (fun i _ => s.size - (intOf i).toNat)
        case atStart => exact ⟨0, Nat.zero_le _, rfl, HR.out, rfl⟩
        case round =>
          obtain ⟨k, hk, rfl, hA, rfl⟩ := hrel
          by_cases hlt : k < s.size
          · have hd : decide ((k : Int) < (s.size : Int)) = true := by simp; omega
            obtain ⟨c, hc, hcn⟩ := u8at_list s k hlt
            have hix := fun w => run_index_u8 (P := Tryz.prog) Tryz.underlying9 s k hlt (k : Int) rfl w
            rw [hcn] at hix
            rw [drop_cons hc, List.all_cons] at hA
            generalize c.toNat = x at hix hA
            clear hc hcn
            by_cases h32 : x < 32
            · have d1 : decide ((x : Int) < 32) = true := by simp; omega
              have HN := Lib.hid (show ANS = false by rw [← hA, show isI x = false by unfold isI; simp; omega]; rfl)
              clear h32 hA
              go_wp2_with fail
              go_ret
              exact ⟨by rw [HN.out]; rfl, Below.refl _ _⟩
            · have d1 : decide ((x : Int) < 32) = false := by simp; omega
              by_cases h126 : 126 < x
              · have d2 : decide ((126 : Int) < (x : Int)) = true := by simp; omega
                have HN := Lib.hid (show ANS = false by rw [← hA, show isI x = false by unfold isI; simp; omega]; rfl)
                clear h32 h126 hA
                go_wp2_with fail
                go_ret
                exact ⟨by rw [HN.out]; rfl, Below.refl _ _⟩
              · have d2 : decide ((126 : Int) < (x : Int)) = false := by simp; omega
                have HN := Lib.hid (show ((s.data.toList.drop (k + 1)).all fun b => isI b.toNat) = ANS by rw [← hA, show isI x = true by unfold isI; simp; omega, Bool.true_and])
                clear h32 h126 hA
                go_wp2_with fail
                go_roundw
                case rel => exact ⟨k + 1, by omega, by go_num, HN.out, by first | exact trivial | rfl⟩
                case measure => simp [intOf]; omega
          · have hd : decide ((k : Int) < (s.size : Int)) = false := by simp; omega
            have HN := Lib.hid (show ANS = true by
              rw [← hA, List.drop_eq_nil_of_le (show s.data.toList.length ≤ k by show s.size ≤ k; omega)]
              rfl)
            clear hA
            go_wp2_with fail
            go_ret
            exact ⟨by rw [HN.out]; rfl, Below.refl _ _⟩
      · have d22 : (kind == 22) = false := by simpa using h22
        have HR := Lib.hid (show validB kind s.data.toList = false by unfold validB; rw [if_neg h12, if_neg h19, if_neg h22])
        clear h12 h19 h22
        go_enter Tryz.func66, Tryz.ntmps66
        go_wp2_with fail
        go_ret
        exact ⟨by rw [HR.out]; rfl, Below.refl _ _⟩
end Go.Proofs.YtfpfgdbfigdooaaGreatDoor
namespace Go.Proofs.YtfpfgdbfigdooaaGreatDoor
open Go.Shelf Go.RowKit

def lays156_ren : Go.Shelf.Ren := ⟨fun | 156 => 74 | 165 => 96 | 166 => 98 | 169 => 99 | 240 => 133 | 241 => 134 | 276 => 174 | 277 => 175 | n => n, fun | 31 => 43 | 9 => 9 | 3 => 3 | 4 => 4 | 0 => 0 | 20 => 20 | 72 => 122 | 76 => 126 | 70 => 120 | 37 => 61 | 75 => 125 | 127 => 156 | 164 => 185 | 5 => 5 | 80 => 129 | n => n, fun | n => n⟩
theorem lays156 : Go.Proofs.Lays.n156 Tryz.prog lays156_ren := {
  mixed := by kernel_rfl
  f156 := Tryz.func74.trans (congrArg some (by kernel_rfl))
  f165 := Tryz.func96.trans (congrArg some (by kernel_rfl))
  f166 := Tryz.func98.trans (congrArg some (by kernel_rfl))
  f169 := Tryz.func99.trans (congrArg some (by kernel_rfl))
  f240 := Tryz.func133.trans (congrArg some (by kernel_rfl))
  f241 := Tryz.func134.trans (congrArg some (by kernel_rfl))
  f276 := Tryz.func174.trans (congrArg some (by kernel_rfl))
  f277 := Tryz.func175.trans (congrArg some (by kernel_rfl))
  t0 := Tryz.underlying0
  a0 := Tryz.isAgg0
  z0 := Tryz.sizeOf0
  v0 := Tryz.zeroValue0
  t3 := Tryz.underlying3
  a3 := Tryz.isAgg3
  z3 := Tryz.sizeOf3
  v3 := Tryz.zeroValue3
  t4 := Tryz.underlying4
  a4 := Tryz.isAgg4
  z4 := Tryz.sizeOf4
  v4 := Tryz.zeroValue4
  t9 := Tryz.underlying9
  a9 := Tryz.isAgg9
  z9 := Tryz.sizeOf9
  v9 := Tryz.zeroValue9
  t20 := Tryz.underlying20
  a20 := Tryz.isAgg20
  z20 := Tryz.sizeOf20
  v20 := Tryz.zeroValue20
  t31 := Tryz.underlying43
  a31 := Tryz.isAgg43
  z31 := Tryz.sizeOf43
  v31 := Tryz.zeroValue43
  t37 := Tryz.underlying61
  a37 := Tryz.isAgg61
  z37 := Tryz.sizeOf61
  v37 := Tryz.zeroValue61
  t70 := Tryz.underlying120
  a70 := Tryz.isAgg120
  z70 := Tryz.sizeOf120
  v70 := Tryz.zeroValue120
  t72 := Tryz.underlying122
  a72 := Tryz.isAgg122
  z72 := Tryz.sizeOf122
  v72 := Tryz.zeroValue122
  t75 := Tryz.underlying125
  a75 := Tryz.isAgg125
  z75 := Tryz.sizeOf125
  v75 := Tryz.zeroValue125
  t76 := Tryz.underlying126
  a76 := Tryz.isAgg126
  z76 := Tryz.sizeOf126
  v76 := Tryz.zeroValue126
  t127 := Tryz.underlying156
  a127 := Tryz.isAgg156
  z127 := Tryz.sizeOf156
  v127 := Tryz.zeroValue156
  t164 := Tryz.underlying185
  a164 := Tryz.isAgg185
  z164 := Tryz.sizeOf185
  v164 := Tryz.zeroValue185 }
theorem Builder_Extra_156 : Builder.Extra Tryz.prog lays156_ren := {
  sizeBuilder := by kernel_rfl
  liesBuilder := by kernel_rfl
  t5 := Tryz.underlying5
  a5 := Tryz.isAgg5
  z5 := Tryz.sizeOf5
  v5 := Tryz.zeroValue5
  infoByte := by kernel_rfl
  cellsByte := by kernel_rfl
  sizeByte := by kernel_rfl
  neB5 := by decide }
def lays221_ren : Go.Shelf.Ren := ⟨fun | 138 => 166 | 143 => 167 | 195 => 187 | 197 => 188 | 217 => 181 | 218 => 189 | 219 => 190 | 221 => 128 | 224 => 199 | 225 => 198 | 260 => 197 | 266 => 195 | 267 => 200 | 268 => 165 | 314 => 203 | n => n, fun | 0 => 0 | 3 => 3 | 4 => 4 | 5 => 5 | 9 => 9 | 21 => 21 | 31 => 43 | 46 => 101 | 51 => 145 | 105 => 201 | 119 => 189 | 138 => 191 | 139 => 192 | 146 => 208 | n => n, fun | 1 => 1 | 3 => 2 | 4 => 3 | n => n⟩
theorem lays221 : Go.Proofs.Lays.n221 Tryz.prog lays221_ren := {
  mixed := by kernel_rfl
  f138 := Tryz.func166.trans (congrArg some (by kernel_rfl))
  f143 := Tryz.func167.trans (congrArg some (by kernel_rfl))
  f195 := Tryz.func187.trans (congrArg some (by kernel_rfl))
  f197 := Tryz.func188.trans (congrArg some (by kernel_rfl))
  f217 := Tryz.func181.trans (congrArg some (by kernel_rfl))
  f218 := Tryz.func189.trans (congrArg some (by kernel_rfl))
  f219 := Tryz.func190.trans (congrArg some (by kernel_rfl))
  f221 := Tryz.func128.trans (congrArg some (by kernel_rfl))
  f224 := Tryz.func199.trans (congrArg some (by kernel_rfl))
  f225 := Tryz.func198.trans (congrArg some (by kernel_rfl))
  f260 := Tryz.func197.trans (congrArg some (by kernel_rfl))
  f266 := Tryz.func195.trans (congrArg some (by kernel_rfl))
  f267 := Tryz.func200.trans (congrArg some (by kernel_rfl))
  f268 := Tryz.func165.trans (congrArg some (by kernel_rfl))
  f314 := Tryz.func203.trans (congrArg some (by kernel_rfl))
  t0 := Tryz.underlying0
  a0 := Tryz.isAgg0
  z0 := Tryz.sizeOf0
  v0 := Tryz.zeroValue0
  t3 := Tryz.underlying3
  a3 := Tryz.isAgg3
  z3 := Tryz.sizeOf3
  v3 := Tryz.zeroValue3
  t4 := Tryz.underlying4
  a4 := Tryz.isAgg4
  z4 := Tryz.sizeOf4
  v4 := Tryz.zeroValue4
  t5 := Tryz.underlying5
  a5 := Tryz.isAgg5
  z5 := Tryz.sizeOf5
  v5 := Tryz.zeroValue5
  t9 := Tryz.underlying9
  a9 := Tryz.isAgg9
  z9 := Tryz.sizeOf9
  v9 := Tryz.zeroValue9
  t21 := Tryz.underlying21
  a21 := Tryz.isAgg21
  z21 := Tryz.sizeOf21
  v21 := Tryz.zeroValue21
  t31 := Tryz.underlying43
  a31 := Tryz.isAgg43
  z31 := Tryz.sizeOf43
  v31 := Tryz.zeroValue43
  t46 := Tryz.underlying101
  a46 := Tryz.isAgg101
  z46 := Tryz.sizeOf101
  v46 := Tryz.zeroValue101
  t51 := Tryz.underlying145
  a51 := Tryz.isAgg145
  z51 := Tryz.sizeOf145
  v51 := Tryz.zeroValue145
  t105 := Tryz.underlying201
  a105 := Tryz.isAgg201
  z105 := Tryz.sizeOf201
  v105 := Tryz.zeroValue201
  t119 := Tryz.underlying189
  a119 := Tryz.isAgg189
  z119 := Tryz.sizeOf189
  t138 := Tryz.underlying191
  a138 := Tryz.isAgg191
  z138 := Tryz.sizeOf191
  v138 := Tryz.zeroValue191
  t139 := Tryz.underlying192
  a139 := Tryz.isAgg192
  z139 := Tryz.sizeOf192
  v139 := Tryz.zeroValue192
  t146 := Tryz.underlying208
  a146 := Tryz.isAgg208
  z146 := Tryz.sizeOf208
  v146 := Tryz.zeroValue208
  g1 := by kernel_rfl
  g3 := by kernel_rfl
  g4 := by kernel_rfl }
def lays219_ren : Go.Shelf.Ren := ⟨fun | 217 => 181 | 219 => 190 | 224 => 199 | 225 => 198 | 266 => 195 | 267 => 200 | 314 => 203 | n => n, fun | 3 => 3 | 4 => 4 | 5 => 5 | 9 => 9 | 46 => 101 | 51 => 145 | 146 => 208 | n => n, fun | 1 => 1 | n => n⟩
theorem lays219 : Go.Proofs.Lays.n219 Tryz.prog lays219_ren := {
  mixed := by kernel_rfl
  f217 := Tryz.func181.trans (congrArg some (by kernel_rfl))
  f219 := Tryz.func190.trans (congrArg some (by kernel_rfl))
  f224 := Tryz.func199.trans (congrArg some (by kernel_rfl))
  f225 := Tryz.func198.trans (congrArg some (by kernel_rfl))
  f266 := Tryz.func195.trans (congrArg some (by kernel_rfl))
  f267 := Tryz.func200.trans (congrArg some (by kernel_rfl))
  f314 := Tryz.func203.trans (congrArg some (by kernel_rfl))
  t3 := Tryz.underlying3
  a3 := Tryz.isAgg3
  z3 := Tryz.sizeOf3
  v3 := Tryz.zeroValue3
  t4 := Tryz.underlying4
  a4 := Tryz.isAgg4
  z4 := Tryz.sizeOf4
  v4 := Tryz.zeroValue4
  t5 := Tryz.underlying5
  a5 := Tryz.isAgg5
  z5 := Tryz.sizeOf5
  v5 := Tryz.zeroValue5
  t9 := Tryz.underlying9
  a9 := Tryz.isAgg9
  z9 := Tryz.sizeOf9
  v9 := Tryz.zeroValue9
  t46 := Tryz.underlying101
  a46 := Tryz.isAgg101
  z46 := Tryz.sizeOf101
  v46 := Tryz.zeroValue101
  t51 := Tryz.underlying145
  a51 := Tryz.isAgg145
  z51 := Tryz.sizeOf145
  v51 := Tryz.zeroValue145
  t146 := Tryz.underlying208
  a146 := Tryz.isAgg208
  z146 := Tryz.sizeOf208
  v146 := Tryz.zeroValue208
  g1 := by kernel_rfl }
def lays138_ren : Go.Shelf.Ren := ⟨fun | 138 => 166 | 143 => 167 | 195 => 187 | 217 => 181 | 218 => 189 | 219 => 190 | 224 => 199 | 225 => 198 | 266 => 195 | 267 => 200 | 314 => 203 | n => n, fun | 0 => 0 | 3 => 3 | 4 => 4 | 5 => 5 | 9 => 9 | 46 => 101 | 51 => 145 | 146 => 208 | n => n, fun | 1 => 1 | n => n⟩
theorem lays138 : Go.Proofs.Lays.n138 Tryz.prog lays138_ren := {
  mixed := by kernel_rfl
  f138 := Tryz.func166.trans (congrArg some (by kernel_rfl))
  f143 := Tryz.func167.trans (congrArg some (by kernel_rfl))
  f195 := Tryz.func187.trans (congrArg some (by kernel_rfl))
  f217 := Tryz.func181.trans (congrArg some (by kernel_rfl))
  f218 := Tryz.func189.trans (congrArg some (by kernel_rfl))
  f219 := Tryz.func190.trans (congrArg some (by kernel_rfl))
  f224 := Tryz.func199.trans (congrArg some (by kernel_rfl))
  f225 := Tryz.func198.trans (congrArg some (by kernel_rfl))
  f266 := Tryz.func195.trans (congrArg some (by kernel_rfl))
  f267 := Tryz.func200.trans (congrArg some (by kernel_rfl))
  f314 := Tryz.func203.trans (congrArg some (by kernel_rfl))
  t0 := Tryz.underlying0
  a0 := Tryz.isAgg0
  z0 := Tryz.sizeOf0
  v0 := Tryz.zeroValue0
  t3 := Tryz.underlying3
  a3 := Tryz.isAgg3
  z3 := Tryz.sizeOf3
  v3 := Tryz.zeroValue3
  t4 := Tryz.underlying4
  a4 := Tryz.isAgg4
  z4 := Tryz.sizeOf4
  v4 := Tryz.zeroValue4
  t5 := Tryz.underlying5
  a5 := Tryz.isAgg5
  z5 := Tryz.sizeOf5
  v5 := Tryz.zeroValue5
  t9 := Tryz.underlying9
  a9 := Tryz.isAgg9
  z9 := Tryz.sizeOf9
  v9 := Tryz.zeroValue9
  t46 := Tryz.underlying101
  a46 := Tryz.isAgg101
  z46 := Tryz.sizeOf101
  v46 := Tryz.zeroValue101
  t51 := Tryz.underlying145
  a51 := Tryz.isAgg145
  z51 := Tryz.sizeOf145
  v51 := Tryz.zeroValue145
  t146 := Tryz.underlying208
  a146 := Tryz.isAgg208
  z146 := Tryz.sizeOf208
  v146 := Tryz.zeroValue208
  g1 := by kernel_rfl }
def lays171_ren : Go.Shelf.Ren := ⟨fun | 129 => 124 | 171 => 180 | 243 => 194 | 246 => 202 | 283 => 204 | 284 => 205 | 285 => 206 | 286 => 207 | 317 => 208 | 318 => 209 | 319 => 210 | 320 => 211 | 337 => 212 | 338 => 213 | n => n, fun | 0 => 0 | 2 => 2 | 3 => 3 | 4 => 4 | 5 => 5 | 9 => 9 | 20 => 20 | 37 => 61 | 46 => 101 | 51 => 145 | 53 => 147 | 171 => 210 | 173 => 212 | 212 => 215 | 213 => 216 | 232 => 217 | 233 => 218 | n => n, fun | 17 => 4 | 18 => 5 | 19 => 6 | n => n⟩
theorem lays171 : Go.Proofs.LaysM.n171 Tryz.prog lays171_ren := {
  mixed := by kernel_rfl
  f129 := Tryz.func124.trans (congrArg some (by kernel_rfl))
  f171 := Tryz.func180.trans (congrArg some (by kernel_rfl))
  f243 := Tryz.func194.trans (congrArg some (by kernel_rfl))
  f246 := Tryz.func202.trans (congrArg some (by kernel_rfl))
  f283 := Tryz.func204.trans (congrArg some (by kernel_rfl))
  f284 := Tryz.func205.trans (congrArg some (by kernel_rfl))
  f285 := Tryz.func206.trans (congrArg some (by kernel_rfl))
  f286 := Tryz.func207.trans (congrArg some (by kernel_rfl))
  f317 := Tryz.func208.trans (congrArg some (by kernel_rfl))
  f318 := Tryz.func209.trans (congrArg some (by kernel_rfl))
  f319 := Tryz.func210.trans (congrArg some (by kernel_rfl))
  f320 := Tryz.func211.trans (congrArg some (by kernel_rfl))
  f337 := Tryz.func212.trans (congrArg some (by kernel_rfl))
  f338 := Tryz.func213.trans (congrArg some (by kernel_rfl))
  t0 := Tryz.underlying0
  a0 := Tryz.isAgg0
  z0 := Tryz.sizeOf0
  v0 := Tryz.zeroValue0
  t2 := Tryz.underlying2
  a2 := Tryz.isAgg2
  z2 := Tryz.sizeOf2
  v2 := Tryz.zeroValue2
  t3 := Tryz.underlying3
  a3 := Tryz.isAgg3
  z3 := Tryz.sizeOf3
  v3 := Tryz.zeroValue3
  t4 := Tryz.underlying4
  a4 := Tryz.isAgg4
  z4 := Tryz.sizeOf4
  v4 := Tryz.zeroValue4
  t5 := Tryz.underlying5
  a5 := Tryz.isAgg5
  z5 := Tryz.sizeOf5
  v5 := Tryz.zeroValue5
  t9 := Tryz.underlying9
  a9 := Tryz.isAgg9
  z9 := Tryz.sizeOf9
  v9 := Tryz.zeroValue9
  t20 := Tryz.underlying20
  a20 := Tryz.isAgg20
  z20 := Tryz.sizeOf20
  v20 := Tryz.zeroValue20
  t37 := Tryz.underlying61
  a37 := Tryz.isAgg61
  z37 := Tryz.sizeOf61
  v37 := Tryz.zeroValue61
  t46 := Tryz.underlying101
  a46 := Tryz.isAgg101
  z46 := Tryz.sizeOf101
  v46 := Tryz.zeroValue101
  t51 := Tryz.underlying145
  a51 := Tryz.isAgg145
  z51 := Tryz.sizeOf145
  v51 := Tryz.zeroValue145
  t53 := Tryz.underlying147
  a53 := Tryz.isAgg147
  z53 := Tryz.sizeOf147
  v53 := Tryz.zeroValue147
  t171 := Tryz.underlying210
  a171 := Tryz.isAgg210
  z171 := Tryz.sizeOf210
  v171 := Tryz.zeroValue210
  t173 := Tryz.underlying212
  a173 := Tryz.isAgg212
  z173 := Tryz.sizeOf212
  v173 := Tryz.zeroValue212
  t212 := Tryz.underlying215
  a212 := Tryz.isAgg215
  z212 := Tryz.sizeOf215
  v212 := Tryz.zeroValue215
  t213 := Tryz.underlying216
  a213 := Tryz.isAgg216
  z213 := Tryz.sizeOf216
  t232 := Tryz.underlying217
  a232 := Tryz.isAgg217
  z232 := Tryz.sizeOf217
  v232 := Tryz.zeroValue217
  t233 := Tryz.underlying218
  a233 := Tryz.isAgg218
  z233 := Tryz.sizeOf218
  v233 := Tryz.zeroValue218
  g17 := by kernel_rfl
  g18 := by kernel_rfl
  g19 := by kernel_rfl
  i0 := by kernel_rfl
  i2 := by kernel_rfl
  i3 := by kernel_rfl
  i4 := by kernel_rfl
  i5 := by kernel_rfl
  i9 := by kernel_rfl
  i20 := by kernel_rfl
  i37 := by kernel_rfl
  i46 := by kernel_rfl
  i51 := by kernel_rfl
  i53 := by kernel_rfl
  i171 := by kernel_rfl
  i173 := by kernel_rfl
  i212 := by kernel_rfl
  i232 := by kernel_rfl
  i233 := by kernel_rfl
  m17 := by kernel_rfl
  m18 := by kernel_rfl
  m19 := by kernel_rfl }
def lays125_ren : Go.Shelf.Ren := ⟨fun | 125 => 78 | 128 => 123 | 129 => 124 | n => n, fun | 3 => 3 | 4 => 4 | 5 => 5 | 9 => 9 | 46 => 101 | 51 => 145 | 53 => 147 | n => n, fun | n => n⟩
theorem lays125 : Go.Proofs.Lays.n125 Tryz.prog lays125_ren := {
  mixed := by kernel_rfl
  f125 := Tryz.func78.trans (congrArg some (by kernel_rfl))
  f128 := Tryz.func123.trans (congrArg some (by kernel_rfl))
  f129 := Tryz.func124.trans (congrArg some (by kernel_rfl))
  t3 := Tryz.underlying3
  a3 := Tryz.isAgg3
  z3 := Tryz.sizeOf3
  v3 := Tryz.zeroValue3
  t4 := Tryz.underlying4
  a4 := Tryz.isAgg4
  z4 := Tryz.sizeOf4
  v4 := Tryz.zeroValue4
  t5 := Tryz.underlying5
  a5 := Tryz.isAgg5
  z5 := Tryz.sizeOf5
  v5 := Tryz.zeroValue5
  t9 := Tryz.underlying9
  a9 := Tryz.isAgg9
  z9 := Tryz.sizeOf9
  v9 := Tryz.zeroValue9
  t46 := Tryz.underlying101
  a46 := Tryz.isAgg101
  z46 := Tryz.sizeOf101
  v46 := Tryz.zeroValue101
  t51 := Tryz.underlying145
  a51 := Tryz.isAgg145
  z51 := Tryz.sizeOf145
  v51 := Tryz.zeroValue145
  t53 := Tryz.underlying147
  a53 := Tryz.isAgg147
  z53 := Tryz.sizeOf147
  v53 := Tryz.zeroValue147 }
theorem join_any (bk o c : Nat) (xs : List ByteArray) (sep : ByteArray) (w : World) (hcells : ∀ (j : Nat) x, xs[j]? = some x → w.cell? ⟨bk, o + j, none⟩ = some (.string x)) (hbk : bk < w.heap.size) (hN : xs.length ≤ 140737488355328) (hcap : xs.length ≤ c) (hlen : (Lib.join (xs.map (·.data.toList)) sep.data.toList).length ≤ 140737488355328) :
    Calls Tryz.prog 74 #[.slice (some ⟨bk, o, none⟩) xs.length c, .string sep] w fun e w' => e = .returned (.string ⟨(Lib.join (xs.map (·.data.toList)) sep.data.toList).toArray⟩) ∧ Below w.heap.size w w' := Any.strings_Join lays156 Builder_Extra_156 bk o c xs sep w hcells hbk hN hcap hlen
theorem blen_any (n : Nat) (w : World) (h : n < 18446744073709551616) :
    Calls Tryz.prog 78 #[.int .u64 (n : Nat)] w fun e w' => e = .returned (.int .i64 ((Lib.bitLen n : Nat) : Int)) ∧ w' = w := Any.bits_Len lays125 (n : Int) w (by omega) (by omega)
/-- The table of powers of ten holds what the program's text lays, and no new block changes that. -/
def Pow10 (w : World) : Prop := Lib.TabBelow Tryz.prog w.heap.size w "internal/strconv.uint64pow10" .u64 Lib.pow10Tab
theorem Pow10.below {w w' : World} (h : Pow10 w) (hb : Below w.heap.size w w') : Pow10 w' := fun x hx => h x (hb.trans (hx.mono hb.size))
theorem itoa_any (n : Nat) (w : World) (hn : n ≤ 9223372036854775807) (ht : Pow10 w) :
    Calls Tryz.prog 180 #[.int .i64 (n : Int)] w fun e w' => e = .returned (.string ⟨(Lib.decDigits n).toArray⟩) ∧ Below w.heap.size w w' := by
  refine (Any.strconv_Itoa lays171 (n : Int) (by omega) (by omega) w ht.here).mono ?_
  rintro e w' ⟨rfl, k, os, rfl⟩
  refine ⟨?_, Lib.below_grow _ _ (Nat.le_refl _) _ _⟩
  have : ¬ ((n : Int) < 0) := by omega
  rw [Lib.itoa, if_neg this]; rfl
theorem index_dot (x : ByteArray) (w : World) :
    Calls Tryz.prog 167 #[.string x, .string ⟨#[46]⟩] w fun e w' => e = .returned (.int .i64 (Lib.indexB x ⟨#[46]⟩)) ∧ w' = w := by
  have c := Any.stringslite_Index_one lays219 x 46 w
  rw [← Lib.index_one] at c
  go_enter Tryz.func167, Tryz.ntmps167
  go_wp2_with (go_at_call 190; refine c.mono ?_; rintro e w' ⟨rfl, hw⟩; rw [hw])
  go_ret
  exact ⟨rfl, rfl⟩
theorem count_dot (x : ByteArray) (w : World) :
    Calls Tryz.prog 166 #[.string x, .string ⟨#[46]⟩] w fun e w' => e = .returned (.int .i64 (Lib.countB x ⟨#[46]⟩)) ∧ w' = w := by
  refine (Any.strings_Count_one lays138 x 46 w).mono fun e w' ⟨he, hw⟩ => ⟨?_, hw⟩
  rw [he]
  show _ = Ending.returned (Value.int .i64 ((Lib.count x.data.toList [46] : Nat) : Int))
  rw [Lib.count_one]
  rfl
/-- The pieces of SplitN, at most 13. -/
def pcs (s : ByteArray) : List ByteArray := Lib.splitB ⟨#[46]⟩ 0 (min 12 s.size) s
theorem gensplit_any (s : ByteArray) (w : World) (hs : s.size < 4294967281) :
    Calls Tryz.prog 128 #[.string s, .string ⟨#[46]⟩, .int .i64 0, .int .i64 13] w fun e w' =>
      e = .returned (.slice (some ⟨w.heap.size, 0, none⟩) (pcs s).length (min 13 (s.size + 1))) ∧ w' = w.alloc (.cells (Lib.cellsOf (pcs s) (min 13 (s.size + 1))) 9) := by
  have c := Any.strings_genSplit_core lays221 (by kernel_rfl) s ⟨#[46]⟩ 0 13 (min 13 (s.size + 1)) w hs (by decide) (by decide)
    (fun x c _ => index_dot x _) (count_dot s w) (by decide) (by decide) (by rw [if_neg (by decide)]; omega)
  have e : min 13 (s.size + 1) - 1 = min 12 s.size := by omega
  rw [e] at c
  exact c
theorem split_any (s : ByteArray) (w : World) (hs : s.size < 4294967281) :
    Calls Tryz.prog 172 #[.string s, .string ⟨#[46]⟩, .int .i64 13] w fun e w' =>
      e = .returned (.slice (some ⟨w.heap.size, 0, none⟩) (pcs s).length (min 13 (s.size + 1))) ∧ w' = w.alloc (.cells (Lib.cellsOf (pcs s) (min 13 (s.size + 1))) 9) := by
  have c := gensplit_any s w hs
  go_enter Tryz.func172, Tryz.ntmps172
  go_wp2_with (go_at_call 128; refine c.mono ?_; rintro e w' ⟨rfl, hw⟩; rw [hw])
  go_ret
  exact ⟨rfl, rfl⟩
end Go.Proofs.YtfpfgdbfigdooaaGreatDoor
