/-
  The contracts of the reference's Escape and Unescape; nothing that was there before the call has changed.
-/
import Derived.Test.YtfpfgdbfigdooaaDoorXrhex
namespace Go.Proofs.YtfpfgdbfigdooaaDoor
open Go.RowKit

theorem slice_one (s : ByteArray) (k : Nat) (c : UInt8) (hc : s.data.toList[k]? = some c) (hk : k < s.size) (w : World) :
    (Instr.slice 9 (.string s) (some (.int .i64 (k : Int))) (some (.int .i64 ((k : Int) + 1))) none).run Tryd.prog w = .ok (.string (strOf [c])) w := by
  have := slice_two s k (k + 1) (by omega) (by omega) (k : Int) ((k : Int) + 1) rfl (by omega) w
  rw [show k + 1 - k = 1 by omega, drop_cons hc] at this
  exact this

set_option maxRecDepth 100000 in
set_option maxHeartbeats 2000000 in
theorem resc_any (s : ByteArray) (w : World) (hn : s.size ≤ 1099511627776) :
    Calls Tryd.prog 43 #[.string s] w fun e w' => e = .returned (.string (escS s)) ∧ Below w.heap.size w w' := by
  go_enter Tryd.func43, Tryd.ntmps43
  go_wp2_with fail
  go_loopw [3, 4] (fun v i wr => ∃ (k : Nat) (O : ByteArray), k ≤ s.size ∧ i = .int .i64 k ∧ v = .string O ∧ O = strOf (escL (s.data.toList.take k)) ∧ Below w.heap.size w wr) (fun _ i _ => s.size - (intOf i).toNat)
  case atStart => exact ⟨0, ⟨#[]⟩, Nat.zero_le _, rfl, rfl, rfl, Below.refl _ _⟩
  case round =>
    obtain ⟨k, O, hk, rfl, rfl, hO, hb⟩ := hrel
    have HB := Lib.hid hb
    have hOl : O.size ≤ 3 * k := by
      have := escL_len (s.data.toList.take k)
      rw [take_len s hk] at this
      rw [hO, strOf_size]; exact this
    have HO := Lib.hid hO
    clear hb hO
    by_cases hlt : k < s.size
    · have hd : decide ((k : Int) < (s.size : Int)) = true := by simp; omega
      obtain ⟨c, hc, hcn⟩ := u8at_list s k hlt
      have hix := fun w => run_index_u8 (P := Tryd.prog) Tryd.underlying9 s k hlt (k : Int) rfl w
      rw [hcn] at hix
      have hsl := fun w => slice_one s k c hc hlt w
      have HS := Lib.hid (show escL (s.data.toList.take (k + 1)) = escL (s.data.toList.take k) ++ escB c by rw [take_snoc hc, escL_snoc])
      clear hc hcn
      cases hp : plainB c with
      | true =>
        have HP := Lib.hid (fun w => plain_is hp w)
        have hcat := cat_any O (strOf [c]) (by rw [strOf_size]; simp; omega)
        have HN := Lib.hid (show O ++ strOf [c] = strOf (escL (s.data.toList.take (k + 1))) by rw [HO.out, str_cat, HS.out, escB_plain hp])
        clear hp
        go_wp2_with (go_at_call 57; (with_reducible refine (HP.out _).mono ?_); rintro e w3 ⟨rfl, rfl⟩)
        go_roundw
        case rel => exact ⟨k + 1, O ++ strOf [c], by omega, by go_num, rfl, HN.out, HB.out⟩
        case measure => simp [intOf]; omega
      | false =>
        have HP := Lib.hid (fun w => plain_is hp w)
        have HH := Lib.hid (fun w => refhex_any (strOf [c]) w (by rw [strOf_size]; simp))
        rw [strOf_list] at HH
        have HN := Lib.hid (show O ++ ((⟨#[92]⟩ : ByteArray) ++ ⟨(hexL [c]).toArray⟩) = strOf (escL (s.data.toList.take (k + 1))) by
          rw [HO.out, show (⟨#[92]⟩ : ByteArray) = strOf [92] from rfl, show (⟨(hexL [c]).toArray⟩ : ByteArray) = strOf (hexL [c]) from rfl, str_cat, str_cat, HS.out, escB_other hp]
          rfl)
        obtain ⟨X, hX⟩ : ∃ X : ByteArray, X = ⟨(hexL [c]).toArray⟩ := ⟨_, rfl⟩
        have hXz : X.size = 2 := by rw [hX]; rfl
        rw [← hX] at HH HN
        have hcat1 := cat_any ⟨#[92]⟩ X (by rw [hXz]; show 1 + 2 ≤ _; omega)
        have hz1 : ((⟨#[92]⟩ : ByteArray) ++ X).size = 3 := by rw [ByteArray.size_append, hXz]; rfl
        generalize (⟨#[92]⟩ : ByteArray) ++ X = Y at hcat1 HN hz1
        have hcat2 := cat_any O Y (by omega)
        clear hp hX
        go_wp2_with (first
          | (go_at_call 57; (with_reducible refine (HP.out _).mono ?_); rintro e w3 ⟨rfl, rfl⟩)
          | (go_at_call 58; (with_reducible refine (HH.out _).mono ?_); rintro e w4 ⟨rfl, hb4⟩; have HB4 := Lib.hid (below_next HB.out hb4); clear hb4))
        go_roundw
        case rel => exact ⟨k + 1, O ++ Y, by omega, by go_num, rfl, HN.out, HB4.out⟩
        case measure => simp [intOf]; omega
    · have ek : k = s.size := by omega
      subst ek
      have hd : decide ((s.size : Int) < (s.size : Int)) = false := by simp
      have HR := Lib.hid (show O = escS s by rw [HO.out, take_all s (Nat.le_refl _)]; rfl)
      go_wp2_with fail
      go_ret
      exact ⟨by rw [← HR.out]; rfl, HB.out⟩

theorem unh_yes {H l : List UInt8} (h : hexL l = H) (w : World) (hn : H.length ≤ 1099511627776) :
    Calls Tryd.prog 42 #[.string (strOf H)] w fun e w' => e = .returned (.tuple #[.string (strOf l), .bool true]) ∧ Below w.heap.size w w' :=
  (refunhex_any (strOf H) w hn).mono fun _ _ ⟨u, ok, h1, h2, h3⟩ => by
    rcases h2 with ⟨rfl, h4⟩ | ⟨_, _, h4⟩
    · rw [strOf_list] at h4
      have : u.data.toList = l := hexL_inj (h4.trans h.symm)
      rw [strOf_of this] at h1
      exact ⟨h1, h3⟩
    · exact absurd h (h4 l)
theorem unh_no {H : List UInt8} (h : ∀ l, hexL l ≠ H) (w : World) (hn : H.length ≤ 1099511627776) :
    Calls Tryd.prog 42 #[.string (strOf H)] w fun e w' => e = .returned (.tuple #[.string ⟨#[]⟩, .bool false]) ∧ Below w.heap.size w w' :=
  (refunhex_any (strOf H) w hn).mono fun _ _ ⟨u, ok, h1, h2, h3⟩ => by
    rcases h2 with ⟨_, h4⟩ | ⟨rfl, rfl, _⟩
    · rw [strOf_list] at h4; exact absurd h4 (h _)
    · exact ⟨h1, h3⟩
theorem hex_or (H : List UInt8) : (∃ l, hexL l = H) ∨ ∀ l, hexL l ≠ H := (Classical.em _).imp id fun h a k => h ⟨a, k⟩

set_option maxRecDepth 100000 in
set_option maxHeartbeats 4000000 in
theorem rune_any (s : ByteArray) (w : World) (hn : s.size ≤ 100000000000) :
    Calls Tryd.prog 33 #[.string s] w fun e w' => ∃ u ok, e = .returned (.tuple #[.string u, .bool ok]) ∧ Une s.data.toList u ok ∧ Below w.heap.size w w' := by
  have HSL := Lib.hid (show s.data.toList.length = s.size from rfl)
  go_enter Tryd.func33, Tryd.ntmps33
  go_wp2_with fail
  go_loopw [4, 5] (fun v i wr => ∃ (k : Nat) (O : ByteArray), k ≤ s.size ∧ i = .int .i64 k ∧ v = .string O ∧ O.size ≤ k ∧ Way s.data.toList k O.data.toList ∧ Below w.heap.size w wr) (fun _ i _ => s.size - (intOf i).toNat)
  case atStart => exact ⟨0, ⟨#[]⟩, Nat.zero_le _, rfl, rfl, Nat.le_refl _, Way.start _, Below.refl _ _⟩
  case round =>
    obtain ⟨k, O, hk, rfl, rfl, hOk, hW, hb⟩ := hrel
    have HB := Lib.hid hb
    have HW := Lib.hid hW
    clear hb hW
    by_cases hlt : k < s.size
    · have hd : decide ((k : Int) < (s.size : Int)) = true := by simp; omega
      obtain ⟨c, hc, hcn⟩ := u8at_list s k hlt
      have hix := fun w => run_index_u8 (P := Tryd.prog) Tryd.underlying9 s k hlt (k : Int) rfl w
      rw [hcn] at hix
      have hsl := fun w => slice_one s k c hc hlt w
      have HC := Lib.hid hc
      clear hc hcn
      by_cases h92 : c = 92
      · have hq : (((c.toNat : Nat) : Int) != 92) = false := by rw [h92]; rfl
        have HC92 := Lib.hid (show s.data.toList[k]? = some 92 by rw [HC.out, h92])
        clear hsl h92
        by_cases h3 : s.size < k + 3
        · have d3 : decide ((s.size : Int) - (k : Int) < 3) = true := by simp; omega
          have HN := Lib.hid (HW.out.short HC92.out (by rw [HSL.out]; exact h3))
          clear h3
          go_wp2_with fail
          go_ret2
          exact ⟨_, _, rfl, .inr ⟨rfl, rfl, HN.out⟩, HB.out⟩
        · have d3 : decide ((s.size : Int) - (k : Int) < 3) = false := by simp; omega
          have hk3 : k + 3 ≤ s.size := by omega
          have hsl : ∀ w, (Instr.slice 9 (.string s) (some (.int .i64 ((k : Int) + 1))) (some (.int .i64 ((k : Int) + 3))) none).run Tryd.prog w = .ok (.string (strOf ((s.data.toList.drop (k + 1)).take 2))) w := fun w => by
            have := slice_two s (k + 1) (k + 3) (by omega) hk3 ((k : Int) + 1) ((k : Int) + 3) (by omega) (by omega) w
            rwa [show k + 3 - (k + 1) = 2 by omega] at this
          have hl : ((s.data.toList.drop (k + 1)).take 2).length ≤ 2 := by rw [List.length_take]; omega
          have HWN := Lib.hid (fun (u : ByteArray) h => HW.out.next (u := u) HC92.out h)
          have HWO := Lib.hid (fun h => HW.out.no HC92.out h)
          generalize (s.data.toList.drop (k + 1)).take 2 = H at hsl hl HWN HWO
          clear h3
          rcases hex_or H with ⟨l, h⟩ | h
          · have HU := Lib.hid (fun w => unh_yes h w (by omega))
            have hll : l.length ≤ 1 := by
              have := congrArg List.length h
              rw [hexL_length] at this; omega
            have HN := Lib.hid (HWN.out (strOf l) (by rw [strOf_list]; exact h))
            have hcat := cat_any O (strOf l) (by rw [strOf_size]; omega)
            have HZ := Lib.hid (show (O ++ strOf l).size ≤ k + 3 by rw [ByteArray.size_append, strOf_size]; omega)
            clear h
            go_wp2_with (go_at_call 42; (with_reducible refine (HU.out _).mono ?_); rintro e w4 ⟨rfl, hb4⟩; have HB4 := Lib.hid (below_next HB.out hb4); clear hb4)
            go_roundw
            case rel => exact ⟨k + 3, O ++ strOf l, hk3, by go_num, rfl, HZ.out, by rw [str_add]; exact HN.out, HB4.out⟩
            case measure => simp [intOf]; omega
          · have HU := Lib.hid (fun w => unh_no h w (by omega))
            have HN := Lib.hid (HWO.out h)
            clear h
            go_wp2_with (go_at_call 42; (with_reducible refine (HU.out _).mono ?_); rintro e w4 ⟨rfl, hb4⟩; have HB4 := Lib.hid (below_next HB.out hb4); clear hb4)
            go_ret2
            exact ⟨_, _, rfl, .inr ⟨rfl, rfl, HN.out⟩, HB4.out⟩
      · have h92n : ¬ c.toNat = 92 := fun h => h92 (UInt8.toNat_inj.1 h)
        have hq : (((c.toNat : Nat) : Int) != 92) = true := by simp; omega
        have HN := Lib.hid (HW.out.one HC.out h92)
        have hcat := cat_any O (strOf [c]) (by rw [strOf_size]; simp; omega)
        have HZ := Lib.hid (show (O ++ strOf [c]).size ≤ k + 1 by rw [ByteArray.size_append, strOf_size]; simp; omega)
        clear h92 h92n
        go_wp2_with fail
        go_roundw
        case rel => exact ⟨k + 1, O ++ strOf [c], by omega, by go_num, rfl, HZ.out, by rw [str_add]; exact HN.out, HB.out⟩
        case measure => simp [intOf]; omega
    · have ek : k = s.size := by omega
      subst ek
      have hd : decide ((s.size : Int) < (s.size : Int)) = false := by simp
      have HE := Lib.hid (fun w => resc_any O w (by omega))
      have hll := HSL.out
      by_cases h : escL O.data.toList = s.data.toList
      · have HH := Lib.hid h
        have he : escS O = s := by unfold escS; rw [h]; exact (strOf_of rfl).symm
        rw [he] at HE
        have hq1 : (s.toList == s.toList) = true := by simp
        have hq2 : (s.toList != s.toList) = false := by simp
        clear h he hll
        go_wp2_with (go_at_call 43; (with_reducible refine (HE.out _).mono ?_); rintro e w4 ⟨rfl, hb4⟩; have HB4 := Lib.hid (below_next HB.out hb4); clear hb4)
        go_ret2
        exact ⟨_, _, rfl, .inl ⟨rfl, HH.out⟩, HB4.out⟩
      · have HN := Lib.hid (HW.out.last (by omega) h)
        have hne : ¬ (escS O).toList = s.toList := fun e => h (by
          have := toList_inj.1 e
          rw [← this]; rfl)
        generalize escS O = E at HE hne
        have hq1 : (E.toList == s.toList) = false := by simpa using hne
        have hq2 : (E.toList != s.toList) = true := by simpa using hne
        clear h hne hll
        go_wp2_with (go_at_call 43; (with_reducible refine (HE.out _).mono ?_); rintro e w4 ⟨rfl, hb4⟩; have HB4 := Lib.hid (below_next HB.out hb4); clear hb4)
        go_ret2
        exact ⟨_, _, rfl, .inr ⟨rfl, rfl, HN.out⟩, HB4.out⟩
end Go.Proofs.YtfpfgdbfigdooaaDoor
