/-
  The contracts of isPrintable and of consists of the program: whether each character of a text is in a set; nothing that was there before the call has changed.
  The contract of the reference's utf8: whether a text is well-formed without control characters; nothing has changed.
  The contract of utf8.ValidString: the library's theorem, laid at the program's own numbers. Nothing is claimed of the program beyond its bodies.
  The contracts of text.Valid and of the reference's ValidText: whether a text may be the contents of a string of a kind; nothing that was there before the call has changed.
  The contract of oid.arcOf: the number whose decimal digits the text is, if there is one up to the greatest arc.
-/
import Derived.Test.YtbpdenfiifcfcaaGreatDoorKad
import Derived.Shelf.Unicode.ValidAny
import Derived.Test.YtbpdenfiifcfcaaGreatDoorKac
import Derived.Test.YtbpdenfiifcfcaaGreatDoorKab
namespace Go.Proofs.YtbpdenfiifcfcaaGreatDoor
open Go.RowKit

theorem print_ascii : ∀ j, j < 12 → u8at ⟨#[32, 39, 40, 41, 43, 44, 45, 46, 47, 58, 61, 63]⟩ j < 128 := by decide
theorem crune_print (n : Nat) (hmax : n ≤ 1114111) (w : World) :
    Calls Tryz.prog 205 #[.string ⟨#[32, 39, 40, 41, 43, 44, 45, 46, 47, 58, 61, 63]⟩, .int .i32 (n : Int)] w fun e w' => e = .returned (.bool (decide (n < 128) && printL.contains (UInt8.ofNat n))) ∧ Below w.heap.size w w' := by
  by_cases h : n < 128
  · have := crune_any ⟨#[32, 39, 40, 41, 43, 44, 45, 46, 47, 58, 61, 63]⟩ n h w
    refine this.mono fun e w' ⟨h1, h2⟩ => ?_
    rw [h2, h1, decide_eq_true h, Bool.true_and]
    exact ⟨rfl, Below.refl _ _⟩
  · have HI := Lib.hid (fun w => irune_big ⟨#[32, 39, 40, 41, 43, 44, 45, 46, 47, 58, 61, 63]⟩ (by decide) print_ascii n (by omega) hmax w)
    rw [decide_eq_false h, Bool.false_and]
    clear h hmax
    go_enter Tryz.func205, Tryz.ntmps205
    go_wp2_with (go_at_call 228; (with_reducible refine (HI.out _).mono ?_); rintro e w1 ⟨rfl, hb1⟩; have HB1 := Lib.hid hb1; clear hb1)
    go_ret
    exact ⟨rfl, HB1.out⟩
theorem isp_any (n : Nat) (hmax : n ≤ 1114111) (w : World) :
    Calls Tryz.prog 184 #[.int .i32 (n : Int)] w fun e w' => e = .returned (.bool (isP n)) ∧ Below w.heap.size w w' := by
  obtain ⟨b, hb⟩ : ∃ b, (decide (n < 128) && printL.contains (UInt8.ofNat n)) = b := ⟨_, rfl⟩
  have HC := Lib.hid (fun w => crune_print n hmax w)
  rw [hb] at HC
  cases ha : alnum n with
  | true =>
    have HR := Lib.hid (show isP n = true by unfold isP; rw [ha]; rfl)
    have HA := Lib.hid (fun w => isal_is ha w)
    clear ha hb
    go_enter Tryz.func184, Tryz.ntmps184
    go_wp2_with (go_at_call 204; (with_reducible refine (HA.out _).mono ?_); rintro e w1 ⟨rfl, rfl⟩)
    go_ret
    exact ⟨by rw [HR.out]; rfl, Below.refl _ _⟩
  | false =>
    have HR := Lib.hid (show isP n = b by unfold isP; rw [ha, hb]; rfl)
    have HA := Lib.hid (fun w => isal_is ha w)
    clear ha hb
    go_enter Tryz.func184, Tryz.ntmps184
    go_wp2_with (first
      | (go_at_call 204; (with_reducible refine (HA.out _).mono ?_); rintro e w1 ⟨rfl, rfl⟩)
      | (go_at_call 205; (with_reducible refine (HC.out _).mono ?_); rintro e w2 ⟨rfl, hb1⟩; have HB1 := Lib.hid hb1; clear hb1))
    go_ret
    exact ⟨by rw [HR.out]; rfl, HB1.out⟩

/-- The function numbered g says of each character whether p holds, and leaves old memory alone. -/
def Pays (g : Nat) (p : Nat → Bool) : Prop := ∀ (n : Nat), n ≤ 1114111 → ∀ w, Calls Tryz.prog g #[.int .i32 (n : Int)] w fun e w' => e = .returned (.bool (p n)) ∧ Below w.heap.size w w'

set_option maxRecDepth 100000 in
set_option maxHeartbeats 4000000 in
theorem cons_any (g : Nat) (eg : ∀ args w, (callFunc g args).run Tryz.prog w = .ok (.enter g args) w) (p : Nat → Bool) (hp : Pays g p) (s : ByteArray) (w : World) :
    Calls Tryz.prog 182 #[.string s, .func (.func g) #[] #[]] w fun e w' => e = .returned (.bool (allD p s.data.toList)) ∧ Below w.heap.size w w' := by
  obtain ⟨ANS, hANS⟩ : ∃ ANS, allD p s.data.toList = ANS := ⟨_, rfl⟩
  rw [hANS]
  have HANS := Lib.hid hANS
  have HP := Lib.hid hp
  clear hANS hp
  go_enter Tryz.func182, Tryz.ntmps182
  go_wp2_with fail
  go_loopg [] s.size (fun gf wx => ∃ pos : Nat, wx.heap[w.heap.size]? = some (.stringIter s pos) ∧ Below w.heap.size w wx ∧ allD p (s.data.toList.drop pos) = ANS ∧ s.size ≤ pos + gf)
  case atStart => exact ⟨0, World.iter_heap w s 0, (Below.refl _ w).alloc (Nat.le_refl _) _, HANS.out, by omega⟩
  case round =>
    obtain ⟨pos, hit, hbw, hA, hfu⟩ := hrel
    by_cases hps : pos < s.size
    · obtain ⟨g', rfl⟩ : ∃ g', gk = g' + 1 := ⟨gk - 1, by omega⟩
      have hnx : ∀ ty, (Instr.next (.pointer (some ⟨w.heap.size, 0, none⟩)) true ty).run Tryz.prog wr = _ := fun ty => Lib.run_next_any_at wr w.heap.size s pos ty hit hps
      have hwd := Lib.width_pos s pos
      have hrl := Lib.rune_le s pos
      rw [allD_step p _ (by rw [Ne, List.drop_eq_nil_iff]; show ¬ s.size ≤ pos; omega), Lib.decodeL_drop, List.drop_drop] at hA
      obtain ⟨R, hR⟩ : ∃ R, (Utf8.decode s pos).1 = R := ⟨_, rfl⟩
      obtain ⟨K, hK⟩ : ∃ K, (Utf8.decode s pos).2 = K := ⟨_, rfl⟩
      rw [hR, hK] at hA
      rw [hR, hK] at hnx
      rw [hK] at hwd
      rw [hR] at hrl
      have hit2 := Lib.iterAt_heap wr w.heap.size s pos (pos + K) hit
      have hbw2 := Lib.below_iterAt hbw (k := w.heap.size) (Nat.le_refl _) s (pos + K)
      obtain ⟨W, hWd⟩ : ∃ W, wr.iterAt w.heap.size s (pos + K) = W := ⟨_, rfl⟩
      simp only [hWd] at hnx hit2 hbw2
      have hltW : w.heap.size < W.heap.size := (Array.getElem?_eq_some_iff.1 hit2).1
      have HC := Lib.hid (HP.out R hrl W)
      have HIT := Lib.hid hit2
      have HBW := Lib.hid hbw2
      have HLW := Lib.hid hltW
      clear hit hbw hit2 hbw2 hWd hltW hR hK
      cases hsp : p R with
      | true =>
        rw [hsp] at HC
        rw [hsp, Bool.true_and] at hA
        have HAA := Lib.hid hA
        clear hsp hA
        go_wp2_with (go_at_fn g; refine HC.out.mono ?_; rintro e W' ⟨rfl, hbc⟩; have HBC := Lib.hid hbc; clear hbc)
        go_roundg g'
        case measure => omega
        case rel => exact ⟨pos + K, (HBC.out.block _ HLW.out).trans HIT.out, HBW.out.trans (HBC.out.mono HBW.out.size), HAA.out, by omega⟩
      | false =>
        rw [hsp] at HC
        rw [hsp, Bool.false_and] at hA
        have HAA := Lib.hid hA
        clear hsp hA
        go_wp2_with (go_at_fn g; refine HC.out.mono ?_; rintro e W' ⟨rfl, hbc⟩; have HBC := Lib.hid hbc; clear hbc)
        go_ret
        exact ⟨by rw [← HAA.out]; rfl, HBW.out.trans (HBC.out.mono HBW.out.size)⟩
    · have hnx : ∀ ty, (Instr.next (.pointer (some ⟨w.heap.size, 0, none⟩)) true ty).run Tryz.prog wr = _ := fun ty => Lib.run_next_end_at wr w.heap.size s pos ty hit hps
      have HBW := Lib.hid hbw
      have HR := Lib.hid (show ANS = true by
        rw [← hA, List.drop_eq_nil_of_le (show s.data.toList.length ≤ pos by show s.size ≤ pos; omega)]
        rfl)
      clear hbw hA
      go_wp2_with fail
      go_ret
      exact ⟨by rw [HR.out]; rfl, HBW.out⟩
end Go.Proofs.YtbpdenfiifcfcaaGreatDoor
namespace Go.Proofs.YtbpdenfiifcfcaaGreatDoor
open Go.RowKit

end Go.Proofs.YtbpdenfiifcfcaaGreatDoor
namespace Go.Proofs.YtbpdenfiifcfcaaGreatDoor
open Go.Shelf Go.RowKit

def lays196_ren : Go.Shelf.Ren := ⟨fun | 196 => 181 | 259 => 203 | n => n, fun | 0 => 0 | 3 => 3 | 4 => 4 | 5 => 5 | 9 => 9 | 12 => 12 | 46 => 127 | 53 => 234 | 119 => 207 | 138 => 209 | 139 => 210 | n => n, fun | 3 => 2 | 4 => 3 | n => n⟩
theorem lays196 : Go.Proofs.Lays.n196 Tryz.prog lays196_ren := {
  mixed := by kernel_rfl
  f196 := Tryz.func181.trans (congrArg some (by kernel_rfl))
  f259 := Tryz.func203.trans (congrArg some (by kernel_rfl))
  t0 := Tryz.underlying0
  a0 := Tryz.isAgg0
  z0 := Tryz.sizeOf0
  v0 := Tryz.zeroValue0
  t3 := Tryz.underlying3
  a3 := Tryz.isAgg3
  z3 := Tryz.sizeOf3
  v3 := Tryz.zeroValue3
  t4 := Tryz.underlying4
  a4 := Tryz.isAgg4
  z4 := Tryz.sizeOf4
  v4 := Tryz.zeroValue4
  t5 := Tryz.underlying5
  a5 := Tryz.isAgg5
  z5 := Tryz.sizeOf5
  v5 := Tryz.zeroValue5
  t9 := Tryz.underlying9
  a9 := Tryz.isAgg9
  z9 := Tryz.sizeOf9
  v9 := Tryz.zeroValue9
  t12 := Tryz.underlying12
  a12 := Tryz.isAgg12
  z12 := Tryz.sizeOf12
  v12 := Tryz.zeroValue12
  t46 := Tryz.underlying127
  a46 := Tryz.isAgg127
  z46 := Tryz.sizeOf127
  v46 := Tryz.zeroValue127
  t53 := Tryz.underlying234
  a53 := Tryz.isAgg234
  z53 := Tryz.sizeOf234
  v53 := Tryz.zeroValue234
  t119 := Tryz.underlying207
  a119 := Tryz.isAgg207
  z119 := Tryz.sizeOf207
  t138 := Tryz.underlying209
  a138 := Tryz.isAgg209
  z138 := Tryz.sizeOf209
  v138 := Tryz.zeroValue209
  t139 := Tryz.underlying210
  a139 := Tryz.isAgg210
  z139 := Tryz.sizeOf210
  v139 := Tryz.zeroValue210
  g3 := by kernel_rfl
  g4 := by kernel_rfl }

theorem valid_any_x (s : ByteArray) (w : World) (hs : s.size ≤ 1099511627776) (hT : Tab w) : Calls Tryz.prog 181 #[.string s] w fun e w' => e = .returned (.bool (Lib.validD s.data.toList)) ∧ Below w.heap.size w w' :=
  Any.utf8_ValidString lays196 s w (by omega) hT
end Go.Proofs.YtbpdenfiifcfcaaGreatDoor
namespace Go.Proofs.YtbpdenfiifcfcaaGreatDoor
open Go.RowKit

def validB (kind : Int) (l : List UInt8) : Bool :=
  if kind = 12 then okU l else if kind = 19 then l.all fun b => isP b.toNat else if kind = 22 then l.all fun b => isI b.toNat else false
theorem isP_big (n : Nat) (h : 128 ≤ n) : isP n = false := by
  unfold isP
  rw [alnum_big (by omega), decide_eq_false (by omega)]
  rfl
theorem isI_big (n : Nat) (h : 128 ≤ n) : isI n = false := by
  unfold isI
  simp; omega
theorem pays_u : Pays 183 isU := fun n _ w => (isu_any n w).mono fun _ _ ⟨h1, h2⟩ => ⟨h1, by rw [h2]; exact Below.refl _ _⟩
theorem pays_i : Pays 185 isI := fun n _ w => (isi_any n w).mono fun _ _ ⟨h1, h2⟩ => ⟨h1, by rw [h2]; exact Below.refl _ _⟩
theorem pays_p : Pays 184 isP := fun n h w => isp_any n h w
theorem cons_u (s : ByteArray) (w : World) : Calls Tryz.prog 182 #[.string s, .func (.func 183) #[] #[]] w fun e w' => e = .returned (.bool (allD isU s.data.toList)) ∧ Below w.heap.size w w' :=
  cons_any _ (enters_of Tryz.func183 (by kernel_rfl) rfl) _ pays_u s w
theorem cons_i (s : ByteArray) (w : World) : Calls Tryz.prog 182 #[.string s, .func (.func 185) #[] #[]] w fun e w' => e = .returned (.bool (s.data.toList.all fun b => isI b.toNat)) ∧ Below w.heap.size w w' := by
  have := cons_any _ (enters_of Tryz.func185 (by kernel_rfl) rfl) _ pays_i s w
  rwa [allD_ascii isI isI_big _ _ (Nat.le_refl _)] at this
theorem cons_p (s : ByteArray) (w : World) : Calls Tryz.prog 182 #[.string s, .func (.func 184) #[] #[]] w fun e w' => e = .returned (.bool (s.data.toList.all fun b => isP b.toNat)) ∧ Below w.heap.size w w' := by
  have := cons_any _ (enters_of Tryz.func184 (by kernel_rfl) rfl) _ pays_p s w
  rwa [allD_ascii isP isP_big _ _ (Nat.le_refl _)] at this

set_option maxRecDepth 100000 in
set_option maxHeartbeats 2000000 in
theorem tval_any (kind : Int) (s : ByteArray) (w : World) (hs : s.size ≤ 1099511627776) (hT : Tab w) :
    Calls Tryz.prog 158 #[.int .i64 kind, .string s] w fun e w' => e = .returned (.bool (validB kind s.data.toList)) ∧ Below w.heap.size w w' := by
  have HS := Lib.hid hs
  have HT := Lib.hid hT
  clear hT
  by_cases h12 : kind = 12
  · subst h12
    obtain ⟨v, hv⟩ : ∃ v, Lib.validD s.data.toList = v := ⟨_, rfl⟩
    obtain ⟨c, hc⟩ : ∃ c, allD isU s.data.toList = c := ⟨_, rfl⟩
    have HR := Lib.hid (show validB 12 s.data.toList = (v && c) by rw [← hv, ← hc]; rfl)
    have HV := Lib.hid (fun w hT => valid_any_x s w HS.out hT)
    have HC := Lib.hid (fun w => cons_u s w)
    rw [hv] at HV
    rw [hc] at HC
    clear hv hc
    cases v with
    | true =>
      go_enter Tryz.func158, Tryz.ntmps158
      go_wp2_with (first
        | (go_at_call 181; (with_reducible refine (HV.out _ HT.out).mono ?_); rintro e w1 ⟨rfl, hb1⟩; have HB1 := Lib.hid hb1; clear hb1)
        | (go_at_call 182; (with_reducible refine (HC.out _).mono ?_); rintro e w2 ⟨rfl, hb1⟩; have HB2 := Lib.hid (below_next HB1.out hb1); clear hb1))
      go_ret
      exact ⟨by rw [HR.out]; rfl, HB2.out⟩
    | false =>
      go_enter Tryz.func158, Tryz.ntmps158
      go_wp2_with (go_at_call 181; (with_reducible refine (HV.out _ HT.out).mono ?_); rintro e w1 ⟨rfl, hb1⟩; have HB1 := Lib.hid hb1; clear hb1)
      go_ret
      exact ⟨by rw [HR.out]; rfl, HB1.out⟩
  · have d12 : (kind == 12) = false := by simpa using h12
    by_cases h19 : kind = 19
    · subst h19
      have HC := Lib.hid (fun w => cons_p s w)
      have HR := Lib.hid (show validB 19 s.data.toList = s.data.toList.all fun b => isP b.toNat from rfl)
      rw [← HR.out] at HC
      clear HR h12 d12
      go_enter Tryz.func158, Tryz.ntmps158
      go_wp2_with (go_at_call 182; (with_reducible refine (HC.out _).mono ?_); rintro e w2 ⟨rfl, hb1⟩; have HB2 := Lib.hid hb1; clear hb1)
      go_ret
      exact ⟨rfl, HB2.out⟩
    · have d19 : (kind == 19) = false := by simpa using h19
      by_cases h22 : kind = 22
      · subst h22
        have HC := Lib.hid (fun w => cons_i s w)
        have HR := Lib.hid (show validB 22 s.data.toList = s.data.toList.all fun b => isI b.toNat from rfl)
        rw [← HR.out] at HC
        clear HR h12 d12 h19 d19
        go_enter Tryz.func158, Tryz.ntmps158
        go_wp2_with (go_at_call 182; (with_reducible refine (HC.out _).mono ?_); rintro e w2 ⟨rfl, hb1⟩; have HB2 := Lib.hid hb1; clear hb1)
        go_ret
        exact ⟨rfl, HB2.out⟩
      · have d22 : (kind == 22) = false := by simpa using h22
        have HR := Lib.hid (show validB kind s.data.toList = false by unfold validB; rw [if_neg h12, if_neg h19, if_neg h22])
        clear h12 h19 h22
        go_enter Tryz.func158, Tryz.ntmps158
        go_wp2_with fail
        go_ret
        exact ⟨by rw [HR.out]; rfl, Below.refl _ _⟩
end Go.Proofs.YtbpdenfiifcfcaaGreatDoor
namespace Go.Proofs.YtbpdenfiifcfcaaGreatDoor
open Go.RowKit

/-- The text p is the arc v. -/
def IsArc (p : List UInt8) (v : Nat) : Prop := p = Lib.decDigits v ∧ v ≤ 2147483647
theorem arc_val {p : List UInt8} {v : Nat} (h : IsArc p v) : dval p = v := by rw [h.1, dec_val]
theorem arc_dig {p : List UInt8} {v : Nat} (h : IsArc p v) {c : UInt8} (hc : c ∈ p) : isDig c := by rw [h.1] at hc; exact dec_dig hc
theorem arc_ne {p : List UInt8} {v : Nat} (h : IsArc p v) : p ≠ [] := by rw [h.1]; exact dec_ne v
theorem arc_head {p : List UInt8} {v : Nat} (h : IsArc p v) (h0 : p.head? = some 48) : p = [48] := by
  rw [h.1] at h0 ⊢
  rw [dec_head h0, dec_zero]
theorem arc_of {p : List UInt8} (h0 : p ≠ []) (h1 : ∀ c ∈ p, isDig c) (h2 : p.head? = some 48 → p = [48]) (h3 : dval p ≤ 2147483647) : IsArc p (dval p) :=
  ⟨dec_of p h0 h1 (fun e => by rw [h2 e]; rfl), h3⟩

def Arced (p : ByteArray) (e : Ending) : Prop := ∃ (v : Nat) (ok : Bool), e = .returned (.tuple #[.int .i64 ((v : Nat) : Int), .bool ok]) ∧ (ok = true ∧ IsArc p.data.toList v ∨ ok = false ∧ v = 0 ∧ ∀ m, ¬ IsArc p.data.toList m)
theorem arced_no {p : ByteArray} (h : ∀ m, ¬ IsArc p.data.toList m) : Arced p (.returned (.tuple #[.int .i64 0, .bool false])) := ⟨0, false, rfl, .inr ⟨rfl, rfl, h⟩⟩
theorem head_u8 {p : ByteArray} (h : p.size ≠ 0) : ∃ c : UInt8, p.data.toList.head? = some c ∧ u8at p 0 = c.toNat := by
  obtain ⟨c, h1, h2⟩ := u8at_list p 0 (by omega)
  exact ⟨c, by rw [List.head?_eq_getElem?]; exact h1, h2⟩

set_option maxRecDepth 100000 in
set_option maxHeartbeats 1000000 in
theorem arcOf_any (p : ByteArray) (w : World) (hs : p.size ≤ 1099511627776) :
    Calls Tryz.prog 202 #[.string p] w fun e w' => Arced p e ∧ w' = w := by
  by_cases h0 : p.size = 0
  · obtain rfl := empty_of_size h0
    clear h0
    go_enter Tryz.func202, Tryz.ntmps202
    go_wp2_with fail
    go_ret2
    exact ⟨arced_no fun m h => arc_ne h rfl, rfl⟩
  · have he := nonempty_list h0
    have hi0 := fun w => run_index_u8 (P := Tryz.prog) Tryz.underlying9 p 0 (by omega) 0 rfl w
    obtain ⟨c0, hc0, hcn⟩ := head_u8 h0
    have HC0 := Lib.hid hc0
    have HN0 := Lib.hid (show p.data.toList ≠ [] from fun e => h0 (by show p.data.toList.length = 0; rw [e]; rfl))
    rw [hcn] at hi0
    clear hc0 hcn
    by_cases hz : c0 = 48 ∧ p.data.toList ≠ [48]
    · have e1 : (((c0.toNat : Nat) : Int) == 48) = true := by rw [hz.1]; rfl
      have e2 : (p.toList == [48]) = false := beq_eq_false_iff_ne.2 (by rw [toList_eq_list]; exact hz.2)
      have HZ := Lib.hid hz
      clear hz h0
      go_enter Tryz.func202, Tryz.ntmps202
      go_wp2_with fail
      go_ret2
      exact ⟨arced_no fun m h => HZ.out.2 (arc_head h (by rw [HC0.out, HZ.out.1])), rfl⟩
    · have hh : p.data.toList.head? = some 48 → p.data.toList = [48] := fun e => Classical.byContradiction fun h => hz ⟨Option.some.inj (HC0.out.symm.trans e), h⟩
      have HH := Lib.hid hh
      have hor : ((((c0.toNat : Nat) : Int) == 48) = false) ∨ (((((c0.toNat : Nat) : Int) == 48) = true) ∧ (p.toList == [48]) = true) := by
        by_cases e : c0 = 48
        · right
          refine ⟨by rw [e]; rfl, beq_iff_eq.2 ?_⟩
          rw [toList_eq_list]; exact hh (by rw [HC0.out, e])
        · left
          refine beq_eq_false_iff_ne.2 fun e2 => e (UInt8.toNat_inj.1 ?_)
          show c0.toNat = 48
          omega
      clear hz hh h0
      rcases hor with e1 | ⟨e1, e2⟩
      all_goals
        go_enter Tryz.func202, Tryz.ntmps202
        go_wp2_with fail
        clear e1 hi0 he
        try clear e2
        go_loopw [4, 19] (fun a i wr => ∃ k : Nat, k ≤ p.size ∧ i = .int .i64 k ∧ a = .int .i64 ((dval (p.data.toList.take k) : Nat) : Int) ∧ dval (p.data.toList.take k) ≤ 2147483647 ∧ (∀ c ∈ p.data.toList.take k, isDig c) ∧ wr = w) (fun _ i _ => p.size - (intOf i).toNat)
        case atStart => exact ⟨0, by omega, rfl, rfl, by simp [dval], by simp, rfl⟩
        case round =>
          obtain ⟨k, hk, rfl, rfl, hv, hdg, rfl⟩ := hrel
          have HV := Lib.hid hv
          have HD := Lib.hid hdg
          obtain ⟨V, hV⟩ : ∃ V, V = dval (p.data.toList.take k) := ⟨_, rfl⟩
          rw [← hV] at hv
          rw [← hV]
          have HVV := Lib.hid hV
          clear hV hdg
          by_cases hlt : k < p.size
          · have hd : decide ((k : Int) < (p.size : Int)) = true := by simp; omega
            have hi := fun w => run_index_u8 (P := Tryz.prog) Tryz.underlying9 p k hlt (k : Int) rfl w
            obtain ⟨c, hc, hcn⟩ := u8at_list p k hlt
            rw [hcn] at hi
            have HC := Lib.hid hc
            have HM := Lib.hid (show c ∈ p.data.toList from List.mem_of_getElem? hc)
            clear hc hcn
            obtain ⟨n, hn⟩ : ∃ n, n = c.toNat := ⟨_, rfl⟩
            have hn256 : n < 256 := by rw [hn]; exact c.toNat_lt
            rw [← hn] at hi
            by_cases hlo : n < 48
            · have d1 : decide ((n : Int) < 48) = true := by simp; omega
              have HL := Lib.hid (show ¬ isDig c by unfold isDig; omega)
              clear hn
              go_wp2_with fail
              go_ret2
              exact ⟨arced_no fun m h => HL.out (arc_dig h HM.out), rfl⟩
            · by_cases hhi : 57 < n
              · have d1 : decide ((n : Int) < 48) = false := by simp; omega
                have d2 : decide ((57 : Int) < (n : Int)) = true := by simp; omega
                have HL := Lib.hid (show ¬ isDig c by unfold isDig; omega)
                clear hn
                go_wp2_with fail
                go_ret2
                exact ⟨arced_no fun m h => HL.out (arc_dig h HM.out), rfl⟩
              · have d1 : decide ((n : Int) < 48) = false := by simp; omega
                have d2 : decide ((57 : Int) < (n : Int)) = false := by simp; omega
                have HL := Lib.hid (show isDig c by unfold isDig; omega)
                have hnew : dval (p.data.toList.take (k + 1)) = 10 * V + (n - 48) := by rw [take_snoc HC.out, dval_snoc, ← HVV.out, hn]
                have HNW := Lib.hid hnew
                clear hn hnew
                by_cases hbig : 2147483647 < 10 * V + (n - 48)
                · have d3 : decide ((2147483647 : Int) < 10 * (V : Int) + ((n : Int) - 48)) = true := by simp; omega
                  have HB := Lib.hid hbig
                  clear hbig
                  go_wp2_with fail
                  go_ret2
                  refine ⟨arced_no fun m h => ?_, rfl⟩
                  have h1 := dval_le (p.data.toList.take (k + 1)) (p.data.toList.drop (k + 1))
                  rw [List.take_append_drop, arc_val h, HNW.out] at h1
                  have := HB.out
                  have := h.2
                  omega
                · have d3 : decide ((2147483647 : Int) < 10 * (V : Int) + ((n : Int) - 48)) = false := by simp; omega
                  have HB := Lib.hid hbig
                  clear hbig
                  go_wp2_with fail
                  go_roundw
                  case rel => exact ⟨k + 1, by omega, by go_num, by rw [HNW.out]; congr 1; omega, by rw [HNW.out]; have := HB.out; omega, by
                    rw [take_snoc HC.out]
                    intro x hx
                    rcases List.mem_append.1 hx with hx | hx
                    · exact HD.out x hx
                    · obtain rfl : x = c := by simpa using hx
                      exact HL.out, trivial⟩
                  case measure => simp [intOf]; omega
          · have ek : k = p.size := by omega
            subst ek
            have hd : decide ((p.size : Int) < (p.size : Int)) = false := by simp
            have HALL := Lib.hid (show p.data.toList.take p.size = p.data.toList from List.take_of_length_le (Nat.le_refl _))
            go_wp2_with fail
            go_ret2
            rw [HALL.out] at HVV HD HV
            refine ⟨⟨V, true, rfl, .inl ⟨rfl, ?_⟩⟩, rfl⟩
            rw [HVV.out]
            exact arc_of HN0.out HD.out HH.out HV.out
theorem arc_yes {p : ByteArray} {v : Nat} (h : IsArc p.data.toList v) (w : World) (hs : p.size ≤ 1099511627776) :
    Calls Tryz.prog 202 #[.string p] w fun e w' => e = .returned (.tuple #[.int .i64 ((v : Nat) : Int), .bool true]) ∧ w' = w := by
  refine (arcOf_any p w hs).mono ?_
  rintro e w' ⟨⟨u, ok, rfl, h1 | h1⟩, hw⟩
  · obtain ⟨rfl, h1⟩ := h1
    obtain rfl : u = v := (arc_val h1).symm.trans (arc_val h)
    exact ⟨rfl, hw⟩
  · exact absurd h (h1.2.2 v)
theorem arc_no {p : ByteArray} (h : ∀ v, ¬ IsArc p.data.toList v) (w : World) (hs : p.size ≤ 1099511627776) :
    Calls Tryz.prog 202 #[.string p] w fun e w' => e = .returned (.tuple #[.int .i64 0, .bool false]) ∧ w' = w := by
  refine (arcOf_any p w hs).mono ?_
  rintro e w' ⟨⟨u, ok, rfl, h1 | h1⟩, hw⟩
  · exact absurd h1.2 (h u)
  · obtain ⟨rfl, rfl, _⟩ := h1
    exact ⟨rfl, hw⟩
end Go.Proofs.YtbpdenfiifcfcaaGreatDoor
