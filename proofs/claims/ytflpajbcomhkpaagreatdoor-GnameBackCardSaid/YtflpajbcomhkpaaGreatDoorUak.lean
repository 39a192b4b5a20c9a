/-
  The contracts of the reference's WithinName and MatchName.
  The contract of the reference's ExactName at equal names.
  The table of short types and the contracts of typeOf and kindOf.
  The contract of text.Unescape: the string whose escaped form is the given one, if there is one; nothing that was there before the call has changed.
  What a text denotes as a name, as a function of the text; the contracts of kindOf and parseAttribute.
-/
import Derived.Test.YtflpajbcomhkpaaGreatDoorUaj
import Derived.Test.YtflpajbcomhkpaaGreatDoorUai
import Derived.Test.YtflpajbcomhkpaaGreatDoorUaf
import Derived.Test.YtflpajbcomhkpaaGreatDoorUac
namespace Go.Proofs.YtflpajbcomhkpaaGreatDoor
open Go.RowKit

set_option maxRecDepth 100000 in
set_option maxHeartbeats 4000000 in
theorem rwithin_core (a0 b0 : Option Addr) (c d n m : Nat) (r s : Nm) (w : World) (h1 : RLies w a0 r) (h2 : RLies w b0 s) (hn : n = r.length) (hm : m = s.length) (hr : SmallN r) (hs : SmallN s) :
    Calls Tryz.prog 111 #[.agg #[.slice a0 n c], .agg #[.slice b0 m d]] w fun e w' => e = .returned (.bool (decide (WithinN r s))) ∧ Below w.heap.size w w' := by
  obtain ⟨W, hW⟩ : ∃ W, W = (w.alloc (.cells #[.slice a0 n c] 30)).alloc (.cells #[.slice b0 m d] 30) := ⟨_, rfl⟩
  have hwr : (w.alloc (.cells #[.slice a0 n c] 30)).alloc (.cells #[.slice b0 m d] 30) = W := hW.symm
  have hb : Below w.heap.size w W := by rw [hW]; exact belowTwo w _ _
  have k0 : W.cell? ⟨w.heap.size, 0, none⟩ = some (.slice a0 n c) := by
    rw [hW, World.cell?_alloc_old _ _ _ (by simp), cell_of_row _ _ 0 _ _ _ (heap_alloc_new w _)]; rfl
  have k1 : W.cell? ⟨w.heap.size + 1, 0, none⟩ = some (.slice b0 m d) := by
    rw [hW]
    have := cell_of_row (w := (w.alloc (.cells #[.slice a0 n c] 30)).alloc (.cells #[.slice b0 m d] 30)) (w.heap.size + 1) 0 #[.slice b0 m d] 30 (0, 0) (by have := heap_alloc_new (w.alloc (.cells #[.slice a0 n c] 30)) (.cells #[.slice b0 m d] 30); simpa using this)
    rw [this]; rfl
  have HB := Lib.hid hb
  have H1 := Lib.hid (h1.below hb)
  have H2 := Lib.hid (h2.below hb)
  have HN := Lib.hid hn
  have HM := Lib.hid hm
  have HR := Lib.hid hr
  have HS := Lib.hid hs
  have hms : m ≤ 1000000 := by rw [hm]; exact hs.1
  have hns : n ≤ 1000000 := by rw [hn]; exact hr.1
  obtain ⟨E, hE⟩ : ∃ E, E = decide (WithinN r s) := ⟨_, rfl⟩
  rw [← hE]
  have HE := Lib.hid hE
  clear h1 h2 hn hm hr hs hE hW hb
  by_cases hl : m ≤ n
  · have hd : decide ((n : Int) < (m : Int)) = false := by simp; omega
    go_enter Tryz.func111, Tryz.ntmps111
    go_wp2_with fail
    have K0 := Lib.hid k0
    have K1 := Lib.hid k1
    obtain ⟨g, hg⟩ : ∃ g, g = w.heap.size := ⟨_, rfl⟩
    have HG := Lib.hid hg
    rw [← hg] at K0 K1 ⊢
    clear hwr k0 k1 hd hg
    go_loopw [16] (fun i wr => ∃ k : Nat, k ≤ m ∧ i = .int .i64 k ∧ (∀ j, j < k → MatchR (r.getD j []) (s.getD j [])) ∧ Below W.heap.size W wr) (fun i _ => m - (intOf i).toNat)
    case atStart => exact ⟨0, Nat.zero_le _, rfl, fun j hj => absurd hj (Nat.not_lt_zero _), Below.refl _ _⟩
    case round =>
      obtain ⟨k, hk, rfl, hA, hb⟩ := hrel
      have HBR := Lib.hid hb
      have HA := Lib.hid hA
      clear hb hA
      by_cases hlt : k < m
      · have hd : decide ((k : Int) < (m : Int)) = true := by simp; omega
        have hkn : k < n := by omega
        obtain ⟨b, o, rfl, hb, a1, c1, e1, _, hL1⟩ := H1.out.at k (by rw [← HN.out]; exact hkn)
        have f1 : wr.cell? ⟨b, o + k, none⟩ = _ := (HBR.out.cell (p := ⟨b, o + k, none⟩) hb).trans e1
        obtain ⟨b', o', rfl, hb', a2, c2, e2, _, hL2⟩ := H2.out.at k (by rw [← HM.out]; exact hlt)
        have f2 : wr.cell? ⟨b', o' + k, none⟩ = _ := (HBR.out.cell (p := ⟨b', o' + k, none⟩) hb').trans e2
        have q0 := (HBR.out.cell (p := ⟨g, 0, none⟩) (block_lt K0.out)).trans K0.out
        have q1 := (HBR.out.cell (p := ⟨g + 1, 0, none⟩) (block_lt K1.out)).trans K1.out
        have hs1 := HR.out.2 k (by rw [← HN.out]; exact hkn)
        have hs2 := HS.out.2 k (by rw [← HM.out]; exact hlt)
        obtain ⟨x, hx⟩ : ∃ x, x = r.getD k [] := ⟨_, rfl⟩
        obtain ⟨y, hy⟩ : ∃ y, y = s.getD k [] := ⟨_, rfl⟩
        rw [← hx] at f1 hs1 hL1
        rw [← hy] at f2 hs2 hL2
        obtain ⟨p, hp⟩ : ∃ p, p = x.length := ⟨_, rfl⟩
        obtain ⟨q, hq⟩ : ∃ q, q = y.length := ⟨_, rfl⟩
        rw [← hp] at f1
        rw [← hq] at f2
        have HL1 := Lib.hid hL1
        have HL2 := Lib.hid hL2
        have HMR := Lib.hid (fun V (hv : Below wr.heap.size wr V) => rmrel_any a1 a2 c1 c2 p q x y V ((HL1.out.below HBR.out).below hv) ((HL2.out.below HBR.out).below hv) hp hq hs1 hs2)
        have HX := Lib.hid hx
        have HY := Lib.hid hy
        clear e1 e2 hb hb' hs1 hs2 hL1 hL2 hx hy hp hq
        obtain ⟨z, hz⟩ : ∃ z, z = decide (MatchR x y) := ⟨_, rfl⟩
        have HZ := Lib.hid hz
        rw [← hz] at HMR
        clear hz
        go_wp2_with fail
        have cE : ∀ d' os, Calls Tryz.prog 146 #[.slice a1 p c1, .slice a2 q c2] (Sort.grow (redrawn wr d') os)
            fun e w'' => e = .returned (.bool z) ∧ ∃ p : Regrown, w'' = Sort.grow (redrawn wr p.d) p.os := fun d' os => Calls.regrown_of (HMR.out _ (below_regrown wr d' os))
        have g0 := cell_regrown q0
        have g1 := cell_regrown q1
        have g2 := cell_regrown f1
        have g3 := cell_regrown f2
        clear q0 q1 f1 f2
        refine wp_region_quiet_below (by kernel_rfl) (by kernel_rfl) ?_
        repeat (go_big_quiet_step (with_reducible exact cE _ _))
        refine wpQuiet_nil ?_
        intro _ hw'
        obtain ⟨⟨dq, osq⟩, hw''⟩ := hw'
        subst hw''
        clear g0 g1 g2 g3 cE
        have HBZ := Lib.hid (HBR.out.trans ((below_regrown wr dq osq).mono HBR.out.size))
        cases z with
        | true =>
          have HF := Lib.hid (show ∀ j, j < k + 1 → MatchR (r.getD j []) (s.getD j []) from fun j hj => by
            by_cases e : j = k
            · rw [e, ← HX.out, ← HY.out]; exact of_decide_eq_true HZ.out.symm
            · exact HA.out j (by omega))
          go_wp2_with fail
          go_roundw
          case rel => exact ⟨k + 1, by omega, by go_num, HF.out, HBZ.out⟩
          case measure => simp [intOf]; omega
        | false =>
          have HF := Lib.hid (show E = false by rw [HE.out]; exact decide_eq_false (fun h => of_decide_eq_false HZ.out.symm (by rw [HX.out, HY.out]; exact h.2 k (by rw [← HM.out]; exact hlt))))
          go_wp2_with fail
          go_ret
          exact ⟨by rw [HF.out]; rfl, below_next HB.out HBZ.out⟩
      · have hd : decide ((k : Int) < (m : Int)) = false := by simp; omega
        have HF := Lib.hid (show E = true by rw [HE.out]; exact decide_eq_true ⟨by rw [← HN.out, ← HM.out]; exact hl, fun j hj => HA.out j (by rw [← HM.out] at hj; omega)⟩)
        go_wp2_with fail
        go_ret
        exact ⟨by rw [HF.out]; rfl, below_next HB.out HBR.out⟩
  · have hd : decide ((n : Int) < (m : Int)) = true := by simp; omega
    have HF := Lib.hid (show E = false by rw [HE.out]; exact decide_eq_false (fun h => hl (by rw [HN.out, HM.out]; exact h.1)))
    go_enter Tryz.func111, Tryz.ntmps111
    go_wp2_with fail
    go_ret
    exact ⟨by rw [HF.out]; rfl, HB.out⟩

set_option maxRecDepth 100000 in
set_option maxHeartbeats 4000000 in
theorem rmatch_core (a0 b0 : Option Addr) (c d n m : Nat) (r s : Nm) (w : World) (h1 : RLies w a0 r) (h2 : RLies w b0 s) (hn : n = r.length) (hm : m = s.length) (hr : SmallN r) (hs : SmallN s) :
    Calls Tryz.prog 67 #[.agg #[.slice a0 n c], .agg #[.slice b0 m d]] w fun e w' => e = .returned (.bool (decide (MatchN r s))) ∧ Below w.heap.size w w' := by
  have HE := Lib.hid (fun W (hb : Below w.heap.size w W) => rwithin_core a0 b0 c d n m r s W (h1.below hb) (h2.below hb) hn hm hr hs)
  have HB := Lib.hid (belowTwo w (.cells #[.slice a0 n c] 30) (.cells #[.slice b0 m d] 30))
  have hmw := match_within r s
  obtain ⟨E, hE⟩ : ∃ E, E = decide (MatchN r s) := ⟨_, rfl⟩
  obtain ⟨v, hv⟩ : ∃ v, v = decide (WithinN r s) := ⟨_, rfl⟩
  rw [← hv] at HE
  rw [← hE]
  have HEE := Lib.hid hE
  by_cases hl : n = m
  · have HF := Lib.hid (show E = v by
      rw [hE, hv, decide_eq_decide, hmw]
      exact ⟨fun h => h.2, fun h => ⟨by rw [← hn, ← hm]; exact hl, h⟩⟩)
    subst hl
    clear h1 h2 hn hm hr hs hv hE hmw
    go_enter Tryz.func67, Tryz.ntmps67
    go_wp2_with (go_at_call 111; (with_reducible refine (HE.out _ HB.out).mono ?_); rintro e w1 ⟨rfl, hb1⟩; have HB1 := Lib.hid (below_next HB.out hb1); clear hb1)
    go_ret
    exact ⟨by rw [HF.out]; rfl, HB1.out⟩
  · have HF := Lib.hid (show E = false by rw [hE]; exact decide_eq_false (fun h => hl (by rw [hn, hm]; exact h.1)))
    have hd : ((n : Int) == (m : Int)) = false := beq_eq_false_iff_ne.2 (by omega)
    clear h1 h2 hn hm hr hs hv hE hmw hl
    go_enter Tryz.func67, Tryz.ntmps67
    go_wp2_with fail
    go_ret
    exact ⟨by rw [HF.out]; rfl, HB.out⟩
end Go.Proofs.YtflpajbcomhkpaaGreatDoor
namespace Go.Proofs.YtflpajbcomhkpaaGreatDoor
open Go.RowKit

end Go.Proofs.YtflpajbcomhkpaaGreatDoor
namespace Go.Proofs.YtflpajbcomhkpaaGreatDoor
open Go.RowKit

/-- The short types and their object identifiers. -/
def SH : List (ByteArray × ByteArray) := [(⟨#[67, 78]⟩, ⟨#[50, 46, 53, 46, 52, 46, 51]⟩), (⟨#[67]⟩, ⟨#[50, 46, 53, 46, 52, 46, 54]⟩), (⟨#[76]⟩, ⟨#[50, 46, 53, 46, 52, 46, 55]⟩), (⟨#[79]⟩, ⟨#[50, 46, 53, 46, 52, 46, 49, 48]⟩), (⟨#[79, 85]⟩, ⟨#[50, 46, 53, 46, 52, 46, 49, 49]⟩), (⟨#[68, 67]⟩, ⟨#[48, 46, 57, 46, 50, 51, 52, 50, 46, 49, 57, 50, 48, 48, 51, 48, 48, 46, 49, 48, 48, 46, 49, 46, 50, 53]⟩), (⟨#[69]⟩, ⟨#[49, 46, 50, 46, 56, 52, 48, 46, 49, 49, 51, 53, 52, 57, 46, 49, 46, 57, 46, 49]⟩)]
def shArr : Array Value := #[.string ⟨#[67, 78]⟩, .string ⟨#[50, 46, 53, 46, 52, 46, 51]⟩, .string ⟨#[67]⟩, .string ⟨#[50, 46, 53, 46, 52, 46, 54]⟩, .string ⟨#[76]⟩, .string ⟨#[50, 46, 53, 46, 52, 46, 55]⟩, .string ⟨#[79]⟩, .string ⟨#[50, 46, 53, 46, 52, 46, 49, 48]⟩, .string ⟨#[79, 85]⟩, .string ⟨#[50, 46, 53, 46, 52, 46, 49, 49]⟩, .string ⟨#[68, 67]⟩, .string ⟨#[48, 46, 57, 46, 50, 51, 52, 50, 46, 49, 57, 50, 48, 48, 51, 48, 48, 46, 49, 48, 48, 46, 49, 46, 50, 53]⟩, .string ⟨#[69]⟩, .string ⟨#[49, 46, 50, 46, 56, 52, 48, 46, 49, 49, 51, 53, 52, 57, 46, 49, 46, 57, 46, 49]⟩]
/-- The table lies as the program's text lays it. -/
def ShT (w : World) : Prop := ∀ j, j < 14 → w.cell? ⟨1, j, none⟩ = shArr[j]?
theorem ShT.lt {w : World} (h : ShT w) : 1 < w.heap.size := block_lt ((h 0 (by omega)).trans rfl)
theorem ShT.below {w w' : World} (h : ShT w) (hb : Below w.heap.size w w') : ShT w' := fun j hj => (hb.cell (p := ⟨1, j, none⟩) h.lt).trans (h j hj)
theorem index_short (k : Nat) (hk : k < 7) (w : World) : (Instr.index 197 (.agg #[.string ⟨#[67, 78]⟩, .string ⟨#[50, 46, 53, 46, 52, 46, 51]⟩, .string ⟨#[67]⟩, .string ⟨#[50, 46, 53, 46, 52, 46, 54]⟩, .string ⟨#[76]⟩, .string ⟨#[50, 46, 53, 46, 52, 46, 55]⟩, .string ⟨#[79]⟩, .string ⟨#[50, 46, 53, 46, 52, 46, 49, 48]⟩, .string ⟨#[79, 85]⟩, .string ⟨#[50, 46, 53, 46, 52, 46, 49, 49]⟩, .string ⟨#[68, 67]⟩, .string ⟨#[48, 46, 57, 46, 50, 51, 52, 50, 46, 49, 57, 50, 48, 48, 51, 48, 48, 46, 49, 48, 48, 46, 49, 46, 50, 53]⟩, .string ⟨#[69]⟩, .string ⟨#[49, 46, 50, 46, 56, 52, 48, 46, 49, 49, 51, 53, 52, 57, 46, 49, 46, 57, 46, 49]⟩]) (.int .i64 (k : Int))).run Tryz.prog w = .ok (.agg #[.string (SH.getD k (⟨#[]⟩, ⟨#[]⟩)).1, .string (SH.getD k (⟨#[]⟩, ⟨#[]⟩)).2]) w := by
  rcases (by omega : k = 0 ∨ k = 1 ∨ k = 2 ∨ k = 3 ∨ k = 4 ∨ k = 5 ∨ k = 6) with rfl | rfl | rfl | rfl | rfl | rfl | rfl <;> kernel_rfl
/-- The type that a word stands for, and whether it stands for one. -/
noncomputable def typ (x : ByteArray) : ByteArray × Bool := match SH.find? (fun p => decide (p.1 = x)) with | some p => (p.2, true) | none => (x, oidB x)
theorem find_first {x : ByteArray} {d : ByteArray × ByteArray} : ∀ (l : List (ByteArray × ByteArray)) (k : Nat), k < l.length → (∀ j, j < k → (l.getD j d).1 ≠ x) → (l.getD k d).1 = x → l.find? (fun p => decide (p.1 = x)) = some (l.getD k d)
  | [], k, h, _, _ => absurd h (Nat.not_lt_zero _)
  | p :: l, 0, _, _, h => by
    rw [List.find?_cons_of_pos (by simpa using h)]; rfl
  | p :: l, k + 1, h, h1, h2 => by
    rw [List.find?_cons_of_neg (by simpa using h1 0 (by omega)), find_first (d := d) l k (by simpa using h) (fun j hj => by simpa using h1 (j + 1) (by omega)) (by simpa using h2)]
    simp
theorem find_no {x : ByteArray} {d : ByteArray × ByteArray} {l : List (ByteArray × ByteArray)} (h : ∀ j, j < l.length → (l.getD j d).1 ≠ x) : l.find? (fun p => decide (p.1 = x)) = none := by
  rw [List.find?_eq_none]
  intro p hp
  obtain ⟨j, hj, rfl⟩ := List.mem_iff_getElem.1 hp
  have := h j hj
  rw [List.getD_eq_getElem?_getD, List.getElem?_eq_getElem hj] at this
  simpa using this
theorem typ_hit {x : ByteArray} (k : Nat) (hk : k < 7) (h1 : ∀ j, j < k → (SH.getD j (⟨#[]⟩, ⟨#[]⟩)).1 ≠ x) (h2 : (SH.getD k (⟨#[]⟩, ⟨#[]⟩)).1 = x) : typ x = ((SH.getD k (⟨#[]⟩, ⟨#[]⟩)).2, true) := by
  unfold typ
  rw [find_first SH k hk h1 h2]
theorem typ_miss {x : ByteArray} (h : ∀ j, j < 7 → (SH.getD j (⟨#[]⟩, ⟨#[]⟩)).1 ≠ x) : typ x = (x, oidB x) := by
  unfold typ
  rw [find_no (l := SH) (d := (⟨#[]⟩, ⟨#[]⟩)) h]
theorem sh_size : ∀ k, k < 7 → (SH.getD k (⟨#[]⟩, ⟨#[]⟩)).2.size ≤ 40 := by decide
theorem typ_size (x : ByteArray) : (typ x).1.size ≤ x.size + 40 := by
  unfold typ
  cases h : SH.find? (fun p => decide (p.1 = x)) with
  | none => show x.size ≤ _; omega
  | some p =>
    obtain ⟨j, hj, rfl⟩ := List.mem_iff_getElem.1 (List.mem_of_find?_eq_some h)
    have := sh_size j hj
    rw [List.getD_eq_getElem?_getD, List.getElem?_eq_getElem hj] at this
    show (SH[j]).2.size ≤ _
    have e : (some SH[j]).getD (⟨#[]⟩, ⟨#[]⟩) = SH[j] := rfl
    rw [e] at this
    omega
set_option maxRecDepth 100000 in
set_option maxHeartbeats 4000000 in
theorem typ_any (x : ByteArray) (w : World) (hx : x.size ≤ 1000000) (h : ShT w) :
    Calls Tryz.prog 251 #[.string x] w fun e w' => e = .returned (.tuple #[.string (typ x).1, .bool (typ x).2]) ∧ Below w.heap.size w w' := by
  have c0 : w.cell? ⟨1, 0, none⟩ = some (.string ⟨#[67, 78]⟩) := h 0 (by omega)
  have c1 : w.cell? ⟨1, 1, none⟩ = some (.string ⟨#[50, 46, 53, 46, 52, 46, 51]⟩) := h 1 (by omega)
  have c2 : w.cell? ⟨1, 2, none⟩ = some (.string ⟨#[67]⟩) := h 2 (by omega)
  have c3 : w.cell? ⟨1, 3, none⟩ = some (.string ⟨#[50, 46, 53, 46, 52, 46, 54]⟩) := h 3 (by omega)
  have c4 : w.cell? ⟨1, 4, none⟩ = some (.string ⟨#[76]⟩) := h 4 (by omega)
  have c5 : w.cell? ⟨1, 5, none⟩ = some (.string ⟨#[50, 46, 53, 46, 52, 46, 55]⟩) := h 5 (by omega)
  have c6 : w.cell? ⟨1, 6, none⟩ = some (.string ⟨#[79]⟩) := h 6 (by omega)
  have c7 : w.cell? ⟨1, 7, none⟩ = some (.string ⟨#[50, 46, 53, 46, 52, 46, 49, 48]⟩) := h 7 (by omega)
  have c8 : w.cell? ⟨1, 8, none⟩ = some (.string ⟨#[79, 85]⟩) := h 8 (by omega)
  have c9 : w.cell? ⟨1, 9, none⟩ = some (.string ⟨#[50, 46, 53, 46, 52, 46, 49, 49]⟩) := h 9 (by omega)
  have c10 : w.cell? ⟨1, 10, none⟩ = some (.string ⟨#[68, 67]⟩) := h 10 (by omega)
  have c11 : w.cell? ⟨1, 11, none⟩ = some (.string ⟨#[48, 46, 57, 46, 50, 51, 52, 50, 46, 49, 57, 50, 48, 48, 51, 48, 48, 46, 49, 48, 48, 46, 49, 46, 50, 53]⟩) := h 11 (by omega)
  have c12 : w.cell? ⟨1, 12, none⟩ = some (.string ⟨#[69]⟩) := h 12 (by omega)
  have c13 : w.cell? ⟨1, 13, none⟩ = some (.string ⟨#[49, 46, 50, 46, 56, 52, 48, 46, 49, 49, 51, 53, 52, 57, 46, 49, 46, 57, 46, 49]⟩) := h 13 (by omega)
  have HX := Lib.hid hx
  obtain ⟨t, ht⟩ : ∃ t, t = typ x := ⟨_, rfl⟩
  have HT := Lib.hid ht
  rw [← ht]
  clear h hx ht
  go_enter Tryz.func251, Tryz.ntmps251
  go_wp2_with fail
  clear c0 c1 c2 c3 c4 c5 c6 c7 c8 c9 c10 c11 c12 c13
  go_loopw [7] (fun i wr => ∃ k : Nat, k ≤ 7 ∧ i = .int .i64 k ∧ (∀ j, j < k → (SH.getD j (⟨#[]⟩, ⟨#[]⟩)).1 ≠ x) ∧ Below w.heap.size w wr) (fun i _ => 7 - (intOf i).toNat)
  case atStart => exact ⟨0, by omega, rfl, fun j hj => absurd hj (Nat.not_lt_zero _), Below.refl _ _⟩
  case round =>
    obtain ⟨k, hk, rfl, hA, hb⟩ := hrel
    have HB := Lib.hid hb
    have HA := Lib.hid hA
    clear hb hA
    by_cases hlt : k < 7
    · have hd : decide ((k : Int) < 7) = true := by simp; omega
      have hix := index_short k hlt
      obtain ⟨s, hs⟩ : ∃ s, s = (SH.getD k (⟨#[]⟩, ⟨#[]⟩)).1 := ⟨_, rfl⟩
      obtain ⟨i, hi⟩ : ∃ i, i = (SH.getD k (⟨#[]⟩, ⟨#[]⟩)).2 := ⟨_, rfl⟩
      rw [← hs, ← hi] at hix
      have HB1 := Lib.hid (below_next HB.out (belowNew wr (.cells #[.string s, .string i] 196)))
      have HE := Lib.hid (beq_str s x)
      by_cases hx : s = x
      · have hbq : (s.toList == x.toList) = true := by rw [HE.out]; exact decide_eq_true hx
        have HF := Lib.hid (show t = (i, true) by rw [HT.out, hi]; exact typ_hit k hlt HA.out (by rw [← hs]; exact hx))
        clear hs hi hx
        go_wp2_with fail
        go_ret2
        exact ⟨by rw [HF.out]; rfl, HB1.out⟩
      · have hbq : (s.toList == x.toList) = false := by rw [HE.out]; exact decide_eq_false hx
        have HF := Lib.hid (show ∀ j, j < k + 1 → (SH.getD j (⟨#[]⟩, ⟨#[]⟩)).1 ≠ x from fun j hj => by
          by_cases e : j = k
          · rw [e, ← hs]; exact hx
          · exact HA.out j (by omega))
        clear hs hi hx
        go_wp2_with fail
        go_roundw
        case rel => exact ⟨k + 1, by omega, by go_num, HF.out, HB1.out⟩
        case measure => simp [intOf]; omega
    · obtain rfl : k = 7 := by omega
      have hd : decide (((7 : Nat) : Int) < 7) = false := rfl
      have HF := Lib.hid (show t = (x, oidB x) by rw [HT.out]; exact typ_miss HA.out)
      have HO := Lib.hid (valid_b x wr (by have := HX.out; omega))
      go_wp2_with (go_at_call 200; (with_reducible refine HO.out.mono ?_); rintro e w1 ⟨rfl, hb1⟩; have HB1 := Lib.hid (below_next HB.out hb1); clear hb1)
      go_ret2
      exact ⟨by rw [HF.out]; rfl, HB1.out⟩
end Go.Proofs.YtflpajbcomhkpaaGreatDoor
namespace Go.Proofs.YtflpajbcomhkpaaGreatDoor
open Go.RowKit

theorem escL_ge (l : List UInt8) : l.length ≤ (escL l).length := by
  induction l with
  | nil => exact Nat.le_refl _
  | cons d D ih =>
    have := escB_len1 d
    rw [escL_cons, List.length_append, List.length_cons]; omega

set_option maxRecDepth 100000 in
set_option maxHeartbeats 4000000 in
theorem une_any (s : ByteArray) (w : World) (hn : s.size ≤ 1099511627776) :
    Calls Tryz.prog 96 #[.string s] w fun e w' => ∃ u ok, e = .returned (.tuple #[.string u, .bool ok]) ∧ Une s.data.toList u ok ∧ Below w.heap.size w w' := by
  obtain ⟨i0, hi, hz0, hz1, hz2⟩ := info_parts byteInfo
  have HSL := Lib.hid (show s.data.toList.length = s.size from rfl)
  go_enter Tryz.func96, Tryz.ntmps96
  go_wp2_with (at_make; refine wpList_make_own _ rfl _ _ 55 rfl w.heap.size 5 i0 (.int .u8 0) 1 Tryz.underlying55 hi hz0 hz1 .i64 .i64 (s.size : Int) s.size rfl rfl (by omega) (by rw [hz2]; omega) (by unfold maxLen; omega) (Nat.le_refl _) ?_; intro w1 hown1 hgr1; have HO1 := Lib.hid hown1; have HG1 := Lib.hid hgr1; clear hown1 hgr1)
  go_loopw [4, 5] (fun v i wr => ∃ (k : Nat) (D : List UInt8), k ≤ s.size ∧ i = .int .i64 k ∧ escL D = s.data.toList.take k ∧ OwnB 5 wr w.heap.size v D ∧ Below w.heap.size w wr) (fun _ i _ => s.size - (intOf i).toNat)
  case atStart => exact ⟨0, [], Nat.zero_le _, rfl, rfl, HO1.out, (Below.refl _ _).grown HG1.out (Nat.le_refl _) (fun _ e => by cases e)⟩
  case round =>
    obtain ⟨k, D, hk, rfl, hD, hown, hb⟩ := hrel
    have HO := Lib.hid hown
    have HB := Lib.hid hb
    have hsb := hb.size
    have hDl : D.length ≤ k := by
      have h1 := escL_ge D
      rw [hD, take_len s hk] at h1
      exact h1
    have HD := Lib.hid hD
    clear hown hb hD
    by_cases hlt : k < s.size
    · have hd : decide ((k : Int) < (s.size : Int)) = true := by simp; omega
      obtain ⟨c, hc, hcn⟩ := u8at_list s k hlt
      have hix := fun w => run_index_u8 (P := Tryz.prog) Tryz.underlying9 s k hlt (k : Int) rfl w
      rw [hcn] at hix
      have HC := Lib.hid hc
      clear hc hcn
      cases hp : plainB c with
      | true =>
        have h92 : ¬ c = 92 := fun e => by rw [e, plain_92] at hp; cases hp
        have h92n : ¬ c.toNat = 92 := fun h => h92 (UInt8.toNat_inj.1 h)
        have hq : (((c.toNat : Nat) : Int) == 92) = false := by simp; omega
        have HP := Lib.hid (fun w => isplain_is hp w)
        have HN := Lib.hid (show escL (D ++ [c]) = s.data.toList.take (k + 1) by rw [take_snoc HC.out, escL_snoc, escB_plain hp, HD.out])
        clear hp h92 h92n
        go_wp2_with fail
        go_quiet (first | (go_at_call 133; with_reducible refine Calls.quiet_of_same (HP.out _)))
        go_wp2_with (at_builtin; (refine wpList_append_own _ rfl (.tmp 38) (.tmp 40) 55 rfl w.heap.size 5 i0 (.int .u8 0) 1 1 Tryz.underlying55 hi hz0 hz1 hz2 rfl (by decide) _ _ _ rfl ((HO.out.drawn _).alloc _) ⟨wr.heap.size, 0, none⟩ 1 1 [bcell c] rfl rfl (news_row (wr.drewN _) #[bcell c] 5) (bcells_one [c]) (by unfold maxLen; omega) (by omega) (by simp; omega) ?_); intro v' w2 hown2 hgr2 _; obtain ⟨P1, P2⟩ := out_round (HO.out.drawn _) (Below.drawn HB.out _) hown2 hgr2; have HP1 := Lib.hid P1; have HP2 := Lib.hid P2; clear hown2 hgr2 P1 P2)
        go_roundw
        case rel => exact ⟨k + 1, D ++ [c], by omega, by go_num, HN.out, HP1.out, HP2.out⟩
        case measure => simp [intOf]; omega
      | false =>
        have HP := Lib.hid (fun w => isplain_is hp w)
        by_cases h92 : c = 92
        · have hq : (((c.toNat : Nat) : Int) == 92) = true := by rw [h92]; rfl
          have hk1 : k + 1 ≤ s.size := by omega
          have hsl := fun w => slice_tail s (k + 1) hk1 ((k : Int) + 1) (by omega) w
          have hl : (s.data.toList.drop (k + 1)).length ≤ 1099511627776 := by rw [List.length_drop, HSL.out]; omega
          have HC92 := Lib.hid (show s.data.toList[k]? = some 92 by rw [HC.out, h92])
          have HL := Lib.hid hl
          clear hl hp h92
          cases he : escd (s.data.toList.drop (k + 1)) with
          | none =>
            have HE := Lib.hid (fun w => escaped_no he w HL.out)
            have HN := Lib.hid (une_bad92 HD.out HC92.out he)
            generalize s.data.toList.drop (k + 1) = r at hsl HE
            clear he
            go_wp2_with fail
            go_quiet (first | (go_at_call 133; with_reducible refine Calls.quiet_of_same (HP.out _)))
            go_wp2_with (go_at_call 138; (with_reducible refine (HE.out _).mono ?_); rintro e w2 ⟨⟨y, rfl⟩, hb2⟩; have HB2 := Lib.hid (below_next (Below.drawn HB.out _) hb2); clear hb2)
            go_ret2
            exact ⟨_, _, rfl, .inr ⟨rfl, rfl, HN.out⟩, HB2.out⟩
          | some y =>
            have HE := Lib.hid (fun w => escaped_yes he w HL.out)
            have h2 := escd_some he
            have hk3 : k + 3 ≤ s.size := by
              have := h2.1
              rw [List.length_drop, HSL.out] at this
              omega
            have HN := Lib.hid (show escL (D ++ [y]) = s.data.toList.take (k + 3) by
              rw [escL_snoc, h2.2, HD.out, show k + 3 = k + (1 + 2) by omega, List.take_add]
              congr 1
              rw [drop_cons HC92.out, show 1 + 2 = 2 + 1 by omega, List.take_succ_cons])
            generalize s.data.toList.drop (k + 1) = r at hsl HE
            clear he h2
            go_wp2_with fail
            go_quiet (first | (go_at_call 133; with_reducible refine Calls.quiet_of_same (HP.out _)))
            go_wp2_with (first
              | (go_at_call 138; (with_reducible refine (HE.out _).mono ?_); rintro e w3 ⟨rfl, hb2⟩; have HB2 := Lib.hid (below_next (Below.drawn HB.out _) hb2); have HO2 := Lib.hid (own_below (OwnB.drawn HO.out _) hb2); have hs3 := HB2.out.size; clear hb2)
              | (at_builtin; (refine wpList_append_own _ rfl (.tmp 38) (.tmp 40) 55 rfl w.heap.size 5 i0 (.int .u8 0) 1 1 Tryz.underlying55 hi hz0 hz1 hz2 rfl (by decide) _ _ _ rfl (HO2.out.alloc _) ⟨w3.heap.size, 0, none⟩ 1 1 [bcell y] rfl rfl (news_row w3 #[bcell y] 5) (bcells_one [y]) (by unfold maxLen; omega) (by omega) (by simp; omega) ?_); intro v' w2 hown2 hgr2 _; obtain ⟨P1, P2⟩ := out_round HO2.out HB2.out hown2 hgr2; have HP1 := Lib.hid P1; have HP2 := Lib.hid P2; clear hown2 hgr2 P1 P2))
            go_roundw
            case rel => exact ⟨k + 3, D ++ [y], hk3, by go_num, HN.out, HP1.out, HP2.out⟩
            case measure => simp [intOf]; omega
        · have h92n : ¬ c.toNat = 92 := fun h => h92 (UInt8.toNat_inj.1 h)
          have hq : (((c.toNat : Nat) : Int) == 92) = false := by simp; omega
          have HN := Lib.hid (une_bad HD.out HC.out h92 hp)
          clear hp h92 h92n
          go_wp2_with fail
          go_quiet (first | (go_at_call 133; with_reducible refine Calls.quiet_of_same (HP.out _)))
          go_wp2_with fail
          go_ret2
          exact ⟨_, _, rfl, .inr ⟨rfl, rfl, HN.out⟩, Below.drawn HB.out _⟩
    · have ek : k = s.size := by omega
      subst ek
      have hd : decide ((s.size : Int) < (s.size : Int)) = false := by simp
      have hconv := own_str HO.out
      go_wp2_with fail
      go_ret2
      refine ⟨_, _, rfl, .inl ⟨rfl, ?_⟩, HB.out⟩
      have := HD.out
      rw [take_all s (Nat.le_refl _)] at this
      exact this
end Go.Proofs.YtflpajbcomhkpaaGreatDoor
namespace Go.Proofs.YtflpajbcomhkpaaGreatDoor
open Go.RowKit

def idDC : ByteArray := ⟨#[48, 46, 57, 46, 50, 51, 52, 50, 46, 49, 57, 50, 48, 48, 51, 48, 48, 46, 49, 48, 48, 46, 49, 46, 50, 53]⟩
def idE : ByteArray := ⟨#[49, 46, 50, 46, 56, 52, 48, 46, 49, 49, 51, 53, 52, 57, 46, 49, 46, 57, 46, 49]⟩
def kindV (id v : ByteArray) : Int := if id = idDC then 22 else if id = idE then 22 else if validB 19 v.data.toList = true then 19 else 12
theorem beq_lit (x : ByteArray) (l : List UInt8) : (x.toList == l) = decide (x = strOf l) := by
  have e : l = (strOf l).toList := by rw [toList_eq_list]; rfl
  conv => lhs; rw [e]
  exact beq_str x (strOf l)
/-- The string whose escaped form a text is. -/
noncomputable def uneO (s : List UInt8) : Option ByteArray := @dite _ (∃ l, escL l = s) (Classical.propDecidable _) (fun h => some (strOf h.choose)) (fun _ => none)
theorem une_some {s : List UInt8} {u : ByteArray} (h : escL u.data.toList = s) : uneO s = some u := by
  have hx : ∃ l, escL l = s := ⟨_, h⟩
  unfold uneO
  rw [dif_pos hx]
  congr 1
  apply list_inj
  rw [strOf_list]
  exact escL_inj (hx.choose_spec.trans h.symm)
theorem une_none' {s : List UInt8} (h : ∀ l, escL l ≠ s) : uneO s = none := by
  unfold uneO
  rw [dif_neg (fun ⟨l, e⟩ => h l e)]
theorem une_of {s : List UInt8} {u : ByteArray} {ok : Bool} (h : Une s u ok) : (ok = true ∧ uneO s = some u) ∨ (ok = false ∧ u = ⟨#[]⟩ ∧ uneO s = none) := by
  rcases h with ⟨h1, h2⟩ | ⟨h1, h2, h3⟩
  · exact .inl ⟨h1, une_some h2⟩
  · exact .inr ⟨h1, h2, une_none' h3⟩
theorem uneO_size {s : List UInt8} {u : ByteArray} (h : uneO s = some u) : u.size ≤ s.length := by
  by_cases hx : ∃ l, escL l = s
  · obtain ⟨l, rfl⟩ := hx
    rw [une_some (u := strOf l) (by rw [strOf_list])] at h
    obtain rfl := Option.some.inj h
    rw [strOf_size]
    exact escL_ge l
  · rw [une_none' (fun l e => hx ⟨l, e⟩)] at h; cases h
/-- The attribute that a text denotes. -/
noncomputable def prsA (x : ByteArray) : Option At :=
  if Lib.indexByte x.data.toList 61 = -1 then none
  else match typ (x.extract 0 (Lib.indexByte x.data.toList 61).toNat), uneO (x.extract ((Lib.indexByte x.data.toList 61).toNat + 1) x.size).data.toList with
    | (id, true), some v => some (id, kindV id v, v)
    | _, _ => none
def atO (o : Option At) : Value := match o with | some a => .tuple #[atV a, .bool true] | none => .tuple #[.agg #[.string ⟨#[]⟩, .int .i64 0, .string ⟨#[]⟩], .bool false]

set_option maxRecDepth 100000 in
set_option maxHeartbeats 1000000 in
theorem kind_any (id v : ByteArray) (w : World) (hv : v.size ≤ 1000000) (hT : Tab w) :
    Calls Tryz.prog 252 #[.string id, .string v] w fun e w' => e = .returned (.int .i64 (kindV id v)) ∧ Below w.heap.size w w' := by
  have HE1 := Lib.hid (beq_lit id [48, 46, 57, 46, 50, 51, 52, 50, 46, 49, 57, 50, 48, 48, 51, 48, 48, 46, 49, 48, 48, 46, 49, 46, 50, 53])
  have HE2 := Lib.hid (beq_lit id [49, 46, 50, 46, 56, 52, 48, 46, 49, 49, 51, 53, 52, 57, 46, 49, 46, 57, 46, 49])
  have HV := Lib.hid (tval_any 19 v w (by omega) hT)
  clear hT hv
  by_cases h1 : id = idDC
  · have hq1 : (id.toList == ([48, 46, 57, 46, 50, 51, 52, 50, 46, 49, 57, 50, 48, 48, 51, 48, 48, 46, 49, 48, 48, 46, 49, 46, 50, 53] : List UInt8)) = true := by rw [HE1.out]; exact decide_eq_true h1
    have e : kindV id v = 22 := if_pos h1
    rw [e]
    clear e h1
    go_enter Tryz.func252, Tryz.ntmps252
    go_wp2_with fail
    go_ret
    exact ⟨rfl, Below.refl _ _⟩
  have hq1 : (id.toList == ([48, 46, 57, 46, 50, 51, 52, 50, 46, 49, 57, 50, 48, 48, 51, 48, 48, 46, 49, 48, 48, 46, 49, 46, 50, 53] : List UInt8)) = false := by rw [HE1.out]; exact decide_eq_false h1
  by_cases h2 : id = idE
  · have hq2 : (id.toList == ([49, 46, 50, 46, 56, 52, 48, 46, 49, 49, 51, 53, 52, 57, 46, 49, 46, 57, 46, 49] : List UInt8)) = true := by rw [HE2.out]; exact decide_eq_true h2
    have e : kindV id v = 22 := by unfold kindV; rw [if_neg h1, if_pos h2]
    rw [e]
    clear e h1 h2
    go_enter Tryz.func252, Tryz.ntmps252
    go_wp2_with fail
    go_ret
    exact ⟨rfl, Below.refl _ _⟩
  have hq2 : (id.toList == ([49, 46, 50, 46, 56, 52, 48, 46, 49, 49, 51, 53, 52, 57, 46, 49, 46, 57, 46, 49] : List UInt8)) = false := by rw [HE2.out]; exact decide_eq_false h2
  cases hb : validB 19 v.data.toList with
  | true =>
    have e : kindV id v = 19 := by unfold kindV; rw [if_neg h1, if_neg h2, if_pos hb]
    rw [e]
    rw [hb] at HV
    clear e h1 h2 hb
    go_enter Tryz.func252, Tryz.ntmps252
    go_wp2_with (go_at_call 201; (with_reducible refine HV.out.mono ?_); rintro e w1 ⟨rfl, hb⟩; have HB := Lib.hid hb; clear hb)
    go_ret
    exact ⟨rfl, HB.out⟩
  | false =>
    have e : kindV id v = 12 := by unfold kindV; rw [if_neg h1, if_neg h2, if_neg (by rw [hb]; decide)]
    rw [e]
    rw [hb] at HV
    clear e h1 h2 hb
    go_enter Tryz.func252, Tryz.ntmps252
    go_wp2_with (go_at_call 201; (with_reducible refine HV.out.mono ?_); rintro e w1 ⟨rfl, hb⟩; have HB := Lib.hid hb; clear hb)
    go_ret
    exact ⟨rfl, HB.out⟩
end Go.Proofs.YtflpajbcomhkpaaGreatDoor
