/-
  NameParse returns true for every text and every slice of bytes.
-/
import Derived.Test.YtfpfgdbfigdooaaDoorNrpars
import Derived.Test.YtfpfgdbfigdooaaDoorNexact
import Derived.Test.YtfpfgdbfigdooaaDoorNawake
namespace Go.Proofs.YtfpfgdbfigdooaaDoor
open Go.RowKit

def wordsP : List ByteArray := [⟨#[67, 78, 61]⟩, ⟨#[79, 61]⟩, ⟨#[68, 67, 61]⟩, ⟨#[69, 61]⟩, ⟨#[50, 46, 53, 46, 52, 46, 51, 61]⟩, ⟨#[50, 46, 53, 46, 52, 46, 57, 57, 61]⟩, ⟨#[49, 46, 52, 48, 61]⟩, ⟨#[99, 110, 61]⟩, ⟨#[44]⟩, ⟨#[44]⟩, ⟨#[43]⟩, ⟨#[97]⟩, ⟨#[65, 110, 110]⟩, ⟨#[32]⟩, ⟨#[92, 50, 99]⟩, ⟨#[92, 50, 67]⟩, ⟨#[195, 169]⟩, ⟨#[92, 99, 51, 92, 97, 57]⟩, ⟨#[61]⟩, ⟨#[79, 85, 61, 120]⟩, ⟨#[67, 61, 85, 83]⟩]
theorem wordsP_size : ∀ k, k < 21 → (wordsP.getD k ⟨#[]⟩).size ≤ 9 := by decide
def cellsP : Array Value := #[.string ⟨#[67, 78, 61]⟩, .string ⟨#[79, 61]⟩, .string ⟨#[68, 67, 61]⟩, .string ⟨#[69, 61]⟩, .string ⟨#[50, 46, 53, 46, 52, 46, 51, 61]⟩, .string ⟨#[50, 46, 53, 46, 52, 46, 57, 57, 61]⟩, .string ⟨#[49, 46, 52, 48, 61]⟩, .string ⟨#[99, 110, 61]⟩, .string ⟨#[44]⟩, .string ⟨#[44]⟩, .string ⟨#[43]⟩, .string ⟨#[97]⟩, .string ⟨#[65, 110, 110]⟩, .string ⟨#[32]⟩, .string ⟨#[92, 50, 99]⟩, .string ⟨#[92, 50, 67]⟩, .string ⟨#[195, 169]⟩, .string ⟨#[92, 99, 51, 92, 97, 57]⟩, .string ⟨#[61]⟩, .string ⟨#[79, 85, 61, 120]⟩, .string ⟨#[67, 61, 85, 83]⟩]
theorem cellsP_at (m : Nat) (h : m < 21) : cellsP[m]? = some (.string (wordsP.getD m ⟨#[]⟩)) := by
  have e : cellsP = (wordsP.map Value.string).toArray := rfl
  rw [e, List.getElem?_toArray, List.getElem?_map, List.getD_eq_getElem?_getD, List.getElem?_eq_getElem (show m < wordsP.length from h)]
  rfl

theorem row_three (w : World) (a b c : ByteArray) : ∀ k, k < 3 → (w.alloc (.cells #[.string a, .string b, .string c] 9)).cell? ⟨w.heap.size, k, none⟩ = some (.string ([a, b, c].getD k ⟨#[]⟩)) := by
  intro k hk
  rw [cell_of_row _ _ k _ _ _ (heap_alloc_new w _)]
  rcases (by omega : k = 0 ∨ k = 1 ∨ k = 2) with rfl | rfl | rfl <;> rfl
theorem prsV_small {x : ByteArray} (hx : x.size ≤ 100000) : SmallN (prsV x) := by
  unfold prsV
  split
  · cases h : prsN x with
    | none => exact ⟨by simp, fun i hi => absurd hi (Nat.not_lt_zero _)⟩
    | some n => exact prsN_small h hx
  · exact ⟨by simp, fun i hi => absurd hi (Nat.not_lt_zero _)⟩

set_option maxRecDepth 100000 in
set_option maxHeartbeats 4000000 in
theorem parlaw (s : ByteArray) (a0 : Option Addr) (l : List UInt8) (cap : Nat) (w : World) (hl : BLies w a0 l) (hlen : l.length ≤ 9223372036854775807) (hT : Tab w) (hS : ShT w) :
    Calls Tryd.prog 6 #[.string s, .slice a0 l.length cap] w fun e w' => e = .returned (.bool true) ∧ Below w.heap.size w w' := by
  have HL := Lib.hid hl
  have HT := Lib.hid hT
  have HS := Lib.hid hS
  have HAW := Lib.hid (fun W (hb : Below w.heap.size w W) => awake_any W (hT.below hb) (hS.below hb))
  clear hl hT hS
  by_cases hbig : 200 < s.size
  · have hd : decide ((200 : Int) < (s.size : Int)) = true := by simp; omega
    go_enter Tryd.func6, Tryd.ntmps6
    go_wp2_with (go_at_call 10; (with_reducible refine (HAW.out _ (Below.refl _ _)).mono ?_); rintro e w1 ⟨rfl, hb1⟩; have HB1 := Lib.hid hb1; clear hb1)
    go_ret
    exact ⟨rfl, HB1.out⟩
  have hd : decide ((200 : Int) < (s.size : Int)) = false := by simp; omega
  have HSZ := Lib.hid (show s.size ≤ 200 by omega)
  clear hbig
  go_enter Tryd.func6, Tryd.ntmps6
  go_wp2_with fail
  go_loopw [5, 6] (fun u i wr => ∃ (k : Nat) (S : ByteArray), k ≤ 30 ∧ k ≤ l.length ∧ i = .int .i64 (k : Int) ∧ u = .string S ∧ S.size ≤ 9 * k ∧ Below w.heap.size w wr) (fun _ i _ => 30 - (intOf i).toNat)
  case atStart => exact ⟨0, ⟨#[]⟩, by omega, by omega, rfl, rfl, by decide, Below.refl _ _⟩
  case round =>
    obtain ⟨wo, hwo⟩ : ∃ wo, wo = wr := ⟨_, rfl⟩
    subst hwo
    obtain ⟨k, S, hk, hkl, rfl, rfl, hSz, hb⟩ := hrel
    have HB := Lib.hid hb
    by_cases hlt : k < l.length ∧ k < 30
    · have g1 : decide ((k : Int) < (l.length : Int)) = true := by simp; omega
      have g2 : decide ((k : Int) < 30) = true := by simp; omega
      obtain ⟨h1, h2⟩ := hlt
      obtain ⟨b, off, rfl, hc⟩ := HL.out.resolve_left (fun e => by rw [e] at h1; simp at h1)
      have hcy : wo.cell? ⟨b, off + k, none⟩ = some (bcell l[k]) := by
        rw [← hc k h1]
        exact hb.cell (World.block_lt_of_cell? _ _ (hc k h1))
      rw [bcell] at hcy
      obtain ⟨x, hx⟩ : ∃ x, x = (l[k]).toNat := ⟨_, rfl⟩
      rw [← hx] at hcy
      have hx256 : x < 256 := by rw [hx]; exact (l[k]).toNat_lt
      obtain ⟨m, hm⟩ : ∃ m, m = x % 21 := ⟨_, rfl⟩
      have hmi : (x : Int) % 21 = (m : Int) := by omega
      have hm21 : m < 21 := by omega
      have hcw : (wo.alloc (.cells #[.string ⟨#[67, 78, 61]⟩, .string ⟨#[79, 61]⟩, .string ⟨#[68, 67, 61]⟩, .string ⟨#[69, 61]⟩, .string ⟨#[50, 46, 53, 46, 52, 46, 51, 61]⟩, .string ⟨#[50, 46, 53, 46, 52, 46, 57, 57, 61]⟩, .string ⟨#[49, 46, 52, 48, 61]⟩, .string ⟨#[99, 110, 61]⟩, .string ⟨#[44]⟩, .string ⟨#[44]⟩, .string ⟨#[43]⟩, .string ⟨#[97]⟩, .string ⟨#[65, 110, 110]⟩, .string ⟨#[32]⟩, .string ⟨#[92, 50, 99]⟩, .string ⟨#[92, 50, 67]⟩, .string ⟨#[195, 169]⟩, .string ⟨#[92, 99, 51, 92, 97, 57]⟩, .string ⟨#[61]⟩, .string ⟨#[79, 85, 61, 120]⟩, .string ⟨#[67, 61, 85, 83]⟩] 9)).cell? ⟨wo.heap.size, m, none⟩ = some (.string (wordsP.getD m ⟨#[]⟩)) := (cell_of_row _ _ m _ _ _ (heap_alloc_new wo _)).trans (cellsP_at m hm21)
      have hcy2 : (wo.alloc (.cells #[.string ⟨#[67, 78, 61]⟩, .string ⟨#[79, 61]⟩, .string ⟨#[68, 67, 61]⟩, .string ⟨#[69, 61]⟩, .string ⟨#[50, 46, 53, 46, 52, 46, 51, 61]⟩, .string ⟨#[50, 46, 53, 46, 52, 46, 57, 57, 61]⟩, .string ⟨#[49, 46, 52, 48, 61]⟩, .string ⟨#[99, 110, 61]⟩, .string ⟨#[44]⟩, .string ⟨#[44]⟩, .string ⟨#[43]⟩, .string ⟨#[97]⟩, .string ⟨#[65, 110, 110]⟩, .string ⟨#[32]⟩, .string ⟨#[92, 50, 99]⟩, .string ⟨#[92, 50, 67]⟩, .string ⟨#[195, 169]⟩, .string ⟨#[92, 99, 51, 92, 97, 57]⟩, .string ⟨#[61]⟩, .string ⟨#[79, 85, 61, 120]⟩, .string ⟨#[67, 61, 85, 83]⟩] 9)).cell? ⟨b, off + k, none⟩ = some (.int .u8 (x : Int)) := by
        rw [(belowNew wo _).cell (World.block_lt_of_cell? _ _ hcy)]; exact hcy
      have hws := wordsP_size m hm21
      generalize wordsP.getD m ⟨#[]⟩ = X at hcw hws
      have hcat : ∀ w, (Op.stringOp .add S X).run Tryd.prog w = .ok (.string (S ++ X)) w := fun w => run_string_add_sum w S X (by omega)
      have HSX := Lib.hid (show (S ++ X).size ≤ 9 * (k + 1) by rw [ByteArray.size_append]; omega)
      have HBA := Lib.hid (show Below w.heap.size w (wo.alloc (.cells #[.string ⟨#[67, 78, 61]⟩, .string ⟨#[79, 61]⟩, .string ⟨#[68, 67, 61]⟩, .string ⟨#[69, 61]⟩, .string ⟨#[50, 46, 53, 46, 52, 46, 51, 61]⟩, .string ⟨#[50, 46, 53, 46, 52, 46, 57, 57, 61]⟩, .string ⟨#[49, 46, 52, 48, 61]⟩, .string ⟨#[99, 110, 61]⟩, .string ⟨#[44]⟩, .string ⟨#[44]⟩, .string ⟨#[43]⟩, .string ⟨#[97]⟩, .string ⟨#[65, 110, 110]⟩, .string ⟨#[32]⟩, .string ⟨#[92, 50, 99]⟩, .string ⟨#[92, 50, 67]⟩, .string ⟨#[195, 169]⟩, .string ⟨#[92, 99, 51, 92, 97, 57]⟩, .string ⟨#[61]⟩, .string ⟨#[79, 85, 61, 120]⟩, .string ⟨#[67, 61, 85, 83]⟩] 9)) from below_next hb (belowNew wo _))
      clear hx hm hb hws hc
      go_wp2_with fail
      go_roundw
      case rel => exact ⟨k + 1, S ++ X, by omega, by omega, by go_num, rfl, HSX.out, HBA.out⟩
      case measure => simp [intOf]; omega
    · have hor : decide ((k : Int) < (l.length : Int)) = false ∧ ¬ k < l.length ∨ decide ((k : Int) < (l.length : Int)) = true ∧ k < l.length ∧ decide ((k : Int) < 30) = false := by
        by_cases h : k < l.length
        · right; exact ⟨by simp; omega, h, by simp; omega⟩
        · left; exact ⟨by simp; omega, h⟩
      have hcat := cat_any ⟨#[79, 61, 120, 44]⟩ S (by show 4 + S.size ≤ _; omega)
      obtain ⟨U, hU⟩ : ∃ U, U = (⟨#[79, 61, 120, 44]⟩ : ByteArray) ++ S := ⟨_, rfl⟩
      rw [← hU] at hcat
      have HUZ := Lib.hid (show U.size ≤ 100000 by rw [hU, ByteArray.size_append]; show 4 + S.size ≤ _; omega)
      have HTZ := Lib.hid (show S.size ≤ 100000 by omega)
      clear hU hlt hk hkl hSz hb
      rcases hor with ⟨g1, g3⟩ | ⟨g1, g3, g2⟩
      all_goals
        go_wp2_with fail
        clear g1 g3 hcat
        have HROW := Lib.hid (row_three wo s S U)
        have HBV := Lib.hid (below_next HB.out (belowNew wo (.cells #[.string s, .string S, .string U] 9)))
        obtain ⟨V, hV⟩ : ∃ V, V = wo.alloc (.cells #[.string s, .string S, .string U] 9) := ⟨_, rfl⟩
        rw [← hV] at HROW HBV ⊢
        clear hV
        generalize wo.heap.size = G at HROW ⊢
        go_loopw [43] (fun i ws => ∃ k : Nat, k ≤ 3 ∧ i = .int .i64 (k : Int) ∧ Below V.heap.size V ws) (fun i _ => 3 - (intOf i).toNat)
        case atStart => exact ⟨0, Nat.zero_le _, rfl, Below.refl _ _⟩
        case round =>
          obtain ⟨ws, hws⟩ : ∃ ws, ws = wr := ⟨_, rfl⟩
          subst hws
          obtain ⟨q, hq, rfl, hb⟩ := hrel
          have HBS := Lib.hid hb
          by_cases hlt : q < 3
          · have hd3 : decide ((q : Int) < 3) = true := by simp; omega
            have c0 := (hb.cell (p := ⟨G, q, none⟩) (block_lt (HROW.out q hlt))).trans (HROW.out q hlt)
            have hxz : ([s, S, U].getD q ⟨#[]⟩).size ≤ 100000 := by
              rcases (by omega : q = 0 ∨ q = 1 ∨ q = 2) with rfl | rfl | rfl
              · exact Nat.le_trans HSZ.out (by omega)
              · exact HTZ.out
              · exact HUZ.out
            generalize [s, S, U].getD q ⟨#[]⟩ = x at c0 hxz
            have HBW := Lib.hid (below_next HBV.out hb)
            obtain ⟨E, hE⟩ : ∃ E, E = prsErr x := ⟨_, rfl⟩
            have HP := Lib.hid (parse_any x ws hxz (HT.out.below HBW.out) (HS.out.below HBW.out))
            have HPR := Lib.hid (fun W => rpars_any x W hxz)
            rw [← hE] at HP HPR
            have HSM := Lib.hid (prsV_small hxz)
            obtain ⟨N, hN⟩ : ∃ N, N = prsV x := ⟨_, rfl⟩
            rw [← hN] at HP HPR HSM
            have hde : ((E : Int) != (E : Int)) = false := by simp
            clear hb hxz hE hN
            go_wp2_with (first
              | (go_at_call 20; (with_reducible refine HP.out.mono ?_); rintro e w1 ⟨v, rfl, ho, hb1⟩; obtain ⟨u, rfl, hs⟩ := ho; obtain ⟨av, cv, rfl, _, hrl⟩ := hs.lies; have HB1 := Lib.hid hb1; have HR1 := Lib.hid (hrl.below (belowNew w1 (.cells #[.slice av N.length cv] 24))); have HX1 := Lib.hid (heap_alloc_new w1 (.cells #[.slice av N.length cv] 24)); clear hb1 hrl hs)
              | (go_at_call 21; (with_reducible refine (HPR.out _).mono ?_); rintro e w2 ⟨v, rfl, ho, hb2⟩; obtain ⟨u, rfl, hs⟩ := ho; obtain ⟨aw, cw, rfl, _, hrl⟩ := hs.lies; have HB2 := Lib.hid hb2; have HR2 := Lib.hid (HR1.out.below hb2); have HR3 := Lib.hid hrl; have hx := (hb2.block _ (Array.getElem?_eq_some_iff.1 HX1.out).1).trans HX1.out; obtain ⟨x0, _, xl⟩ := one_facts hx; clear hb2 hrl hs hx)
              | (go_at_call 22; (with_reducible refine (exact_core av aw cv cw N.length N _ (HR2.out.below (belowNew w2 _)) (HR3.out.below (belowNew w2 _)) rfl HSM.out).mono ?_); rintro e w3 ⟨rfl, hb3⟩; have HB3 := Lib.hid (below_next (below_next (below_next HB1.out (belowNew w1 _)) HB2.out) (below_next (belowNew w2 _) hb3)); clear hb3))
            go_roundw
            case rel => exact ⟨q + 1, by omega, by go_num, below_next HBS.out HB3.out⟩
            case measure => simp [intOf]; omega
          · have hd3 : decide ((q : Int) < 3) = false := by simp; omega
            have HBW := Lib.hid (below_next HBV.out hb)
            clear hb
            go_wp2_with (go_at_call 10; (with_reducible refine (HAW.out _ HBW.out).mono ?_); rintro e w1 ⟨rfl, hb1⟩; have HB1 := Lib.hid (below_next HBW.out hb1); clear hb1)
            go_ret
            exact ⟨rfl, HB1.out⟩
end Go.Proofs.YtfpfgdbfigdooaaDoor
