/-
  The walk of the law OidBack: for every slice of numbers and every string it returns true, and leaves all that was there as it was.
-/
import Derived.Test.YtapokiplmcfmoaaDoorOrdecode
import Derived.Test.YtapokiplmcfmoaaDoorOawake
import Derived.Test.YtapokiplmcfmoaaDoorOvalid
namespace Go.Proofs.YtapokiplmcfmoaaDoor
open Go.RowKit

theorem enc_size {a : List Nat} (h : Good a) : (strOf (enc a)).size ≤ 1099511627 := by
  have g := (good_nums h).1
  have h1 : (cat e128 (numsOf a)).length ≤ 5 * (numsOf a).length := e128_len5 (fun v hv => by
    cases e : numsOf a with
    | nil => rw [e] at hv; simp at hv
    | cons m M =>
      rw [e] at hv g
      rcases List.mem_cons.1 hv with rfl | hv
      · have := g.2.2.1; simp at this; omega
      · have := g.2.2.2 v (by simpa using hv); omega)
  have := g.2.1
  rw [strOf_size]
  show (cat e128 (numsOf a)).length ≤ _
  omega
theorem txt_size {a : List Nat} (h : Good a) : (strOf (txt a)).size ≤ 1099511627 := by
  have h1 := txt_len a h.2.2.1
  have h2 := h.2.1
  rw [strOf_size]; omega
theorem decode_enc {a : List Nat} (h : Good a) (w : World) (ht : Pow10 w) :
    Calls Tryd.prog 14 #[.string (strOf (enc a))] w fun e w' => e = .returned (oidVal a) ∧ Below w.heap.size w w' := by
  have := decode_yes (c := strOf (enc a)) (good_nums h).1 rfl w (enc_size h) ht
  rwa [(good_nums h).2] at this

set_option maxRecDepth 100000 in
set_option maxHeartbeats 2000000 in
theorem backlaw (a0 : Option Addr) (L : List Nat) (cap : Nat) (c : ByteArray) (w : World) (hl : WLies w a0 L) (hm : ∀ v ∈ L, v < 4294967296) (hn : L.length ≤ 9223372036854775807) (ht : Pow10 w) :
    Calls Tryd.prog 5 #[.slice a0 L.length cap, .string c] w fun e w' => e = .returned (.bool true) ∧ Below w.heap.size w w' := by
  by_cases h : 100 < c.size
  · have d : decide ((100 : Int) < (c.size : Int)) = true := by simp; omega
    clear h
    go_enter Tryd.func5, Tryd.ntmps5
    go_wp2_with (go_at_call 8; (with_reducible refine (awake_any _).mono ?_); rintro e w1 ⟨rfl, hb1⟩; have HB1 := Lib.hid hb1; clear hb1)
    go_ret
    exact ⟨rfl, HB1.out⟩
  · have d : decide ((100 : Int) < (c.size : Int)) = false := by simp; omega
    have hs : c.size ≤ 1099511627 := by omega
    have HS := Lib.hid hs
    have HL := Lib.hid hl
    have HM := Lib.hid hm
    have HN := Lib.hid hn
    have HT := Lib.hid ht
    clear h hl hm hn ht hs
    have HG := Lib.hid (idArcs_good L)
    obtain ⟨a, ha⟩ : ∃ a, a = idArcs L := ⟨_, rfl⟩
    rw [← ha] at HG
    have HA := Lib.hid ha
    clear ha
    obtain ⟨A, hA⟩ : ∃ A, A = strOf (txt a) := ⟨_, rfl⟩
    obtain ⟨E, hE⟩ : ∃ E, E = strOf (enc a) := ⟨_, rfl⟩
    have HO := Lib.hid (show Oid A.data.toList a from by rw [hA]; exact oid_of HG.out)
    have HAS := Lib.hid (show A.size ≤ 1099511627 by rw [hA]; exact txt_size HG.out)
    have HID := Lib.hid (show ∀ w, WLies w a0 L → Calls Tryd.prog 16 #[.slice a0 L.length cap] w fun e w' => e = .returned (.string A) ∧ Below w.heap.size w w' from fun w h => by
      have := id_any a0 L cap w h HM.out HN.out
      rwa [← HA.out, ← hA] at this)
    have HEN := Lib.hid (show ∀ w, Calls Tryd.prog 10 #[.string A] w fun e w' => e = .returned (.tuple #[.string E, .int .i64 0]) ∧ Below w.heap.size w w' from fun w => by
      have := enc_yes HO.out w HAS.out
      rwa [encVal, ← hE] at this)
    have HDE := Lib.hid (show ∀ w, Pow10 w → Calls Tryd.prog 14 #[.string E] w fun e w' => e = .returned (.tuple #[.string A, .int .i64 0]) ∧ Below w.heap.size w w' from fun w h => by
      have := decode_enc HG.out w h
      rwa [oidVal, ← hA, ← hE] at this)
    clear hA hE
    by_cases hd : ∃ b, Dec c.data.toList b
    · obtain ⟨b, hb⟩ := hd
      obtain ⟨Z, hZ⟩ : ∃ Z, Z = strOf (txt b) := ⟨_, rfl⟩
      have HOZ := Lib.hid (show Oid Z.data.toList b from by rw [hZ]; exact oid_of hb.1)
      have HZS := Lib.hid (show Z.size ≤ 1099511627 by rw [hZ]; exact txt_size hb.1)
      have HDC := Lib.hid (show ∀ w, Pow10 w → Calls Tryd.prog 14 #[.string c] w fun e w' => e = .returned (.tuple #[.string Z, .int .i64 0]) ∧ Below w.heap.size w w' from fun w h => by
        have := decode_yes (good_nums hb.1).1 hb.2 w HS.out h
        rwa [(good_nums hb.1).2, oidVal, ← hZ] at this)
      have HEZ := Lib.hid (show ∀ w, Calls Tryd.prog 10 #[.string Z] w fun e w' => e = .returned (.tuple #[.string c, .int .i64 0]) ∧ Below w.heap.size w w' from fun w => by
        have := enc_yes HOZ.out w HZS.out
        rwa [encVal, ← strOf_of hb.2] at this)
      clear hb hZ
      go_enter Tryd.func5, Tryd.ntmps5
      go_wp2_with (first
        | (go_at_call 16; (with_reducible refine (HID.out _ HL.out).mono ?_); rintro e w1 ⟨rfl, hb1⟩; have HB1 := Lib.hid hb1; clear hb1)
        | (go_at_call 10; (with_reducible refine (HEN.out _).mono ?_); rintro e w2 ⟨rfl, hb2⟩; have HB2 := Lib.hid (below_next HB1.out hb2); clear hb2)
        | (go_at_call 14; (with_reducible refine (HDE.out _ (HT.out.below HB2.out)).mono ?_); rintro e w3 ⟨rfl, hb3⟩; have HB3 := Lib.hid (below_next HB2.out hb3); clear hb3)
        | (go_at_call 14; (with_reducible refine (HDC.out _ (HT.out.below HB3.out)).mono ?_); rintro e w4 ⟨rfl, hb4⟩; have HB4 := Lib.hid (below_next HB3.out hb4); clear hb4)
        | (go_at_call 10; (with_reducible refine (HEZ.out _).mono ?_); rintro e w5 ⟨rfl, hb5⟩; have HB5 := Lib.hid (below_next HB4.out hb5); clear hb5)
        | (go_at_call 12; (with_reducible refine (valid_yes HOZ.out _ HZS.out).mono ?_); rintro e w6 ⟨rfl, hb6⟩; have HB6 := Lib.hid (below_next HB5.out hb6); clear hb6)
        | (go_at_call 8; (with_reducible refine (awake_any _).mono ?_); rintro e w7 ⟨rfl, hb7⟩; have HB7 := Lib.hid (below_next HB6.out hb7); clear hb7))
      go_ret
      exact ⟨rfl, HB7.out⟩
    · have HNO := Lib.hid (show ∀ b, ¬ Dec c.data.toList b from fun b k => hd ⟨b, k⟩)
      have HV := Lib.hid (show noVal = .tuple #[.string ⟨#[]⟩, .int .i64 11] from rfl)
      clear hd
      go_enter Tryd.func5, Tryd.ntmps5
      go_wp2_with (first
        | (go_at_call 16; (with_reducible refine (HID.out _ HL.out).mono ?_); rintro e w1 ⟨rfl, hb1⟩; have HB1 := Lib.hid hb1; clear hb1)
        | (go_at_call 10; (with_reducible refine (HEN.out _).mono ?_); rintro e w2 ⟨rfl, hb2⟩; have HB2 := Lib.hid (below_next HB1.out hb2); clear hb2)
        | (go_at_call 14; (with_reducible refine (HDE.out _ (HT.out.below HB2.out)).mono ?_); rintro e w3 ⟨rfl, hb3⟩; have HB3 := Lib.hid (below_next HB2.out hb3); clear hb3)
        | (go_at_call 14; (with_reducible refine (decode_no HNO.out _ HS.out).mono ?_); rw [HV.out]; rintro e w4 ⟨rfl, hb4⟩; have HB4 := Lib.hid (below_next HB3.out hb4); clear hb4)
        | (go_at_call 8; (with_reducible refine (awake_any _).mono ?_); rintro e w7 ⟨rfl, hb7⟩; have HB7 := Lib.hid (below_next HB4.out hb7); clear hb7))
      go_ret
      exact ⟨rfl, HB7.out⟩
end Go.Proofs.YtapokiplmcfmoaaDoor
