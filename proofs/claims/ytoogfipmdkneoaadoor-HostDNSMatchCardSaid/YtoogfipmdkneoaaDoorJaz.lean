/-
  The walk of the law HostNames: for every text and every slice of bytes it returns true, and leaves all that was there as it was.
  What every card of this seat's laws over host needs: how a slice of bytes is opened, how seven arguments are opened, and that the laws' functions only read what they are handed.
-/
import Derived.Test.YtoogfipmdkneoaaDoorJay
import Derived.Test.YtoogfipmdkneoaaDoorCards
import Derived.Test.YtoogfipmdkneoaaDoorTie
import Derived.Test.YtoogfipmdkneoaaDoorJak
import Derived.ProofKit
import Derived.OpenShut
import Derived.Deep.DeepHandedRow
import Derived.Deep.DeepWitnessRowRef
import Derived.Lay
import Derived.Stop.LaidErr
namespace Go.Proofs.YtoogfipmdkneoaaDoor
open Go.RowKit

theorem pre_of (P L : List UInt8) (h : P.length + L.length ≤ 100000) (w : World) : (Op.stringOp .add (strOf P) (strOf L)).run Tryd.prog w = .ok (.string (strOf (P ++ L))) w := by
  have := cat_any (strOf P) (strOf L) (by rw [strOf_size, strOf_size]; omega) w
  rwa [str_cat] at this
theorem row_texts (W : World) (R : List (List UInt8)) (k : Nat) (hk : k < R.length) : (W.alloc (.cells (R.map fun x => Value.string (strOf x)).toArray 9)).cell? ⟨W.heap.size, k, none⟩ = some (.string (strOf (R.getD k []))) := by
  rw [cell_of_row _ _ k _ _ _ (heap_alloc_new W _)]
  simp [hk]
theorem mem_getD {l : List (List UInt8)} {k : Nat} (h : k < l.length) : l.getD k [] ∈ l := by
  rw [List.getD_eq_getElem?_getD, List.getElem?_eq_getElem h]
  exact List.getElem_mem h


set_option maxRecDepth 100000 in
set_option maxHeartbeats 4000000 in
theorem namlaw (s : ByteArray) (a0 : Option Addr) (l : List UInt8) (cap : Nat) (w : World) (hmx : Mx w) (hl : BLies w a0 l) (hlen : l.length ≤ 9223372036854775807) :
    Calls Tryd.prog 3 #[.string s, .slice a0 l.length cap] w fun e w' => e = .returned (.bool true) ∧ Below w.heap.size w w' := by
  have HMX := Lib.hid hmx
  clear hmx
  obtain ⟨S, rfl⟩ : ∃ S, s = strOf S := ⟨_, strOf_of rfl⟩
  have e0 := strOf_size S
  have HL := Lib.hid hl
  have HN := Lib.hid hlen
  clear hl hlen
  by_cases h : 300 < S.length
  · have d1 : decide ((300 : Int) < (S.length : Int)) = true := decide_eq_true (by omega)
    clear h
    go_enter Tryd.func3, Tryd.ntmps3
    go_wp2_with (go_at_call 10; (with_reducible refine (hawake_any _ (HMX.out)).mono ?_); rintro e w1 ⟨rfl, hb1⟩; have HB1 := Lib.hid hb1; clear hb1)
    go_ret
    exact ⟨rfl, HB1.out⟩
  · have d1 : decide ((300 : Int) < (S.length : Int)) = false := decide_eq_false (by omega)
    have HS := Lib.hid (show S.length ≤ 100000 by omega)
    clear h
    go_enter Tryd.func3, Tryd.ntmps3
    go_wp2_with (first
      | (go_at_call 11; (with_reducible refine (pieces_any a0 l cap _ HL.out HN.out).mono ?_); rintro e w1 ⟨p1, rfl, hp1, hb1⟩; have HW1 := Lib.hid (hb1); clear hb1; have HP1 := Lib.hid (show p1.length ≤ 100000 by omega); clear hp1)
      | (go_at_call 11; (with_reducible refine (pieces_any a0 l cap _ (HL.out.below HW1.out) HN.out).mono ?_); rintro e w2 ⟨p2, rfl, hp2, hb2⟩; have HW2 := Lib.hid (below_next HW1.out hb2); clear hb2; have cat2 := fun w => pre_of [42, 46] p2 (by simp; omega) w; rw [show strOf [42, 46] = ⟨#[42, 46]⟩ from rfl] at cat2; have HP2 := Lib.hid (show ([42, 46] ++ p2).length ≤ 100000 by simp; omega); generalize [42, 46] ++ p2 = q2 at cat2 HP2; clear hp2)
      | (go_at_call 11; (with_reducible refine (pieces_any a0 l cap _ (HL.out.below HW2.out) HN.out).mono ?_); rintro e w3 ⟨p3, rfl, hp3, hb3⟩; have HW3 := Lib.hid (below_next HW2.out hb3); clear hb3; have cat3 := fun w => pre_of [97, 110, 110, 64] p3 (by simp; omega) w; rw [show strOf [97, 110, 110, 64] = ⟨#[97, 110, 110, 64]⟩ from rfl] at cat3; have HP3 := Lib.hid (show ([97, 110, 110, 64] ++ p3).length ≤ 100000 by simp; omega); generalize [97, 110, 110, 64] ++ p3 = q3 at cat3 HP3; clear hp3)
      | (go_at_call 11; (with_reducible refine (pieces_any a0 l cap _ (HL.out.below HW3.out) HN.out).mono ?_); rintro e w4 ⟨p4, rfl, hp4, hb4⟩; have HW4 := Lib.hid (below_next HW3.out hb4); clear hb4; have cat4 := fun w => pre_of [46] p4 (by simp; omega) w; rw [show strOf [46] = ⟨#[46]⟩ from rfl] at cat4; have HP4 := Lib.hid (show ([46] ++ p4).length ≤ 100000 by simp; omega); generalize [46] ++ p4 = q4 at cat4 HP4; clear hp4)
      | (go_at_call 12; (with_reducible refine (dns_any a0 l cap _ (HL.out.below HW4.out) HN.out).mono ?_); rintro e w5 ⟨p5, rfl, hp5, hb5⟩; have HW5 := Lib.hid (below_next HW4.out hb5); clear hb5; have cat5 := fun w => pre_of [42, 46] p5 (by simp; omega) w; rw [show strOf [42, 46] = ⟨#[42, 46]⟩ from rfl] at cat5; have HP5 := Lib.hid (show ([42, 46] ++ p5).length ≤ 100000 by simp; omega); generalize [42, 46] ++ p5 = q5 at cat5 HP5; clear hp5)
      | (go_at_call 12; (with_reducible refine (dns_any a0 l cap _ (HL.out.below HW5.out) HN.out).mono ?_); rintro e w6 ⟨p6, rfl, hp6, hb6⟩; have HW6 := Lib.hid (below_next HW5.out hb6); clear hb6; have cat6 := fun w => pre_of [97, 46, 98, 64] p6 (by simp; omega) w; rw [show strOf [97, 46, 98, 64] = ⟨#[97, 46, 98, 64]⟩ from rfl] at cat6; have HP6 := Lib.hid (show ([97, 46, 98, 64] ++ p6).length ≤ 100000 by simp; omega); generalize [97, 46, 98, 64] ++ p6 = q6 at cat6 HP6; clear hp6))
    obtain ⟨R, hR⟩ : ∃ R : List (List UInt8), R = [S, p1, q2, q3, q4, q5, q6] := ⟨_, rfl⟩
    have hcell : ∀ k, k < 7 → (w6.alloc (.cells #[.string (strOf S), .string (strOf p1), .string (strOf q2), .string (strOf q3), .string (strOf q4), .string (strOf q5), .string (strOf q6)] 9)).cell? ⟨w6.heap.size, k, none⟩ = some (.string (strOf (R.getD k []))) := fun k hk => by
      rw [hR]
      exact row_texts w6 [S, p1, q2, q3, q4, q5, q6] k hk
    have HRL := Lib.hid (show ∀ X ∈ R, X.length ≤ 100000 by
      intro X hX
      rw [hR] at hX
      simp only [List.mem_cons, List.not_mem_nil, or_false] at hX
      rcases hX with rfl | rfl | rfl | rfl | rfl | rfl | rfl
      · exact HS.out
      · exact HP1.out
      · exact HP2.out
      · exact HP3.out
      · exact HP4.out
      · exact HP5.out
      · exact HP6.out)
    have HRN := Lib.hid (show R.length = 7 by rw [hR]; rfl)
    have HV := Lib.hid (show Below w.heap.size w (w6.alloc (.cells #[.string (strOf S), .string (strOf p1), .string (strOf q2), .string (strOf q3), .string (strOf q4), .string (strOf q5), .string (strOf q6)] 9)) from HW6.out.alloc HW6.out.size _)
    have hgV : w6.heap.size < (w6.alloc (.cells #[.string (strOf S), .string (strOf p1), .string (strOf q2), .string (strOf q3), .string (strOf q4), .string (strOf q5), .string (strOf q6)] 9)).heap.size := by simp
    clear hR
    generalize w6.alloc (.cells #[.string (strOf S), .string (strOf p1), .string (strOf q2), .string (strOf q3), .string (strOf q4), .string (strOf q5), .string (strOf q6)] 9) = V at hcell HV hgV ⊢
    have HMV := Lib.hid (HMX.out.below HV.out)
    obtain ⟨g, hg⟩ : ∃ g, g = w6.heap.size := ⟨_, rfl⟩
    rw [← hg] at hcell hgV ⊢
    have HC := Lib.hid hcell
    have HG := Lib.hid hgV
    clear hcell hgV hg
    go_loopw [31] (fun i wr => ∃ k : Nat, k ≤ 7 ∧ i = .int .i64 (k : Int) ∧ Below V.heap.size V wr) (fun i _ => 7 - (intOf i).toNat)
    case atStart => exact ⟨0, Nat.zero_le _, rfl, Below.refl _ _⟩
    case round =>
      obtain ⟨wz, hwz⟩ : ∃ wz, wz = wr := ⟨_, rfl⟩
      subst hwz
      obtain ⟨k, hk, rfl, hb⟩ := hrel
      have HB := Lib.hid hb
      clear hb
      by_cases hlt : k < 7
      · have hd : decide ((k : Int) < 7) = true := decide_eq_true (by omega)
        have hc := (HB.out.cell (p := ⟨g, k, none⟩) HG.out).trans (HC.out k hlt)
        have HXL := Lib.hid (HRL.out _ (mem_getD (l := R) (k := k) (by rw [HRN.out]; exact hlt)))
        generalize R.getD k [] = X at hc HXL
        go_wp2_with (first
          | (go_at_call 13; (with_reducible refine (pdns_any X HXL.out _).mono ?_); rintro e y1 ⟨rfl, hb1⟩; have HC1 := Lib.hid (below_next HB.out hb1); clear hb1)
          | (go_at_call 14; (with_reducible refine (rdns_any X HXL.out _).mono ?_); rintro e y2 ⟨rfl, hb2⟩; have HC2 := Lib.hid (below_next HC1.out hb2); clear hb2)
          | (go_at_call 15; (with_reducible refine (ppat_any X HXL.out _).mono ?_); rintro e y3 ⟨rfl, hb3⟩; have HC3 := Lib.hid (below_next HC2.out hb3); clear hb3)
          | (go_at_call 16; (with_reducible refine (rpat_any X HXL.out _).mono ?_); rintro e y4 ⟨rfl, hb4⟩; have HC4 := Lib.hid (below_next HC3.out hb4); clear hb4)
          | (go_at_call 17; (with_reducible refine (pbase_any X HXL.out _).mono ?_); rintro e y5 ⟨rfl, hb5⟩; have HC5 := Lib.hid (below_next HC4.out hb5); clear hb5)
          | (go_at_call 18; (with_reducible refine (rbase_any X HXL.out _).mono ?_); rintro e y6 ⟨rfl, hb6⟩; have HC6 := Lib.hid (below_next HC5.out hb6); clear hb6)
          | (go_at_call 19; (with_reducible refine (pmail_any X HXL.out _ (HMV.out.below HC6.out)).mono ?_); rintro e y7 ⟨rfl, hb7⟩; have HC7 := Lib.hid (below_next HC6.out hb7); clear hb7)
          | (go_at_call 20; (with_reducible refine (rmail_any X HXL.out _).mono ?_); rintro e y8 ⟨rfl, hb8⟩; have HC8 := Lib.hid (below_next HC7.out hb8); clear hb8)
          | (go_at_call 21; (with_reducible refine (pmb_any X HXL.out _ (HMV.out.below HC8.out)).mono ?_); rintro e y9 ⟨rfl, hb9⟩; have HC9 := Lib.hid (below_next HC8.out hb9); clear hb9)
          | (go_at_call 22; (with_reducible refine (rmailbase_any X HXL.out _).mono ?_); rintro e y10 ⟨rfl, hb10⟩; have HC10 := Lib.hid (below_next HC9.out hb10); clear hb10))
        go_roundw
        case rel => exact ⟨k + 1, by omega, by go_num, HC10.out⟩
        case measure => simp [intOf]; omega
      · have ek : k = 7 := by omega
        subst ek
        have hd : decide (((7 : Nat) : Int) < 7) = false := by decide
        go_wp2_with (go_at_call 10; (with_reducible refine (hawake_any _ (HMV.out.below HB.out)).mono ?_); rintro e z1 ⟨rfl, hz1⟩; have HZ := Lib.hid (below_next HB.out hz1); clear hz1)
        go_ret
        exact ⟨rfl, HV.out.trans (HZ.out.mono HV.out.size)⟩
end Go.Proofs.YtoogfipmdkneoaaDoor
namespace Go.Proofs.YtoogfipmdkneoaaDoor
open Go.ChangeShapes Go.WideShapes Go.ChangeAt Go.RowKit Go.ChangeMaps

theorem own : ownKnob Tryd.prog.godebug = none := by kernel_rfl
theorem laidOut : laidOutB Tryd.prog = true := by kernel_rfl

/-- What was handed in reads as it read, for a call that leaves old memory alone. -/
theorem below_trodAll {H : Type} {enc : TypeId × Value → H} {W W' : World} (hb : Below W.heap.size W W') :
    ∀ (ts : List TypeId) (vs : List Value) (ds : List (DataW H)) (ps : List MemPlace), (∀ t ∈ ts, Tryd.prog.readableRec t = true ∧ t < Tryd.prog.types.size) → (∀ x ∈ ps, x.block < W.heap.size) →
      DataW.TrodAll enc Tryd.prog W 0 (fun _ => true) true ts vs ds ps → DataW.TrodAll enc Tryd.prog W' 0 (fun b => decide (b < W.heap.size)) true ts vs ds ps := by
  intro ts
  induction ts with
  | nil => intro vs ds ps _ _ h; obtain ⟨rfl, rfl, rfl⟩ := trodAll_nil h; exact trodAll_mk0
  | cons t ts ih =>
    intro vs ds ps ht hp h
    obtain ⟨v, vs', d, ds', p, q, rfl, rfl, rfl, h1, h2⟩ := trodAll_cons h
    exact trodAll_cons_mk (Below.trod laidOut (ht t (by simp)).1 (ht t (by simp)).2 h1 hb (fun x hx => hp x (by simp [hx]))) (ih vs' ds' q (fun u hu => ht u (by simp [hu])) (fun x hx => hp x (by simp [hx])) h2)

/-- A slice of bytes that can be read: its bytes lie at its address. -/
theorem open_bytes {H : Type} {enc : TypeId × Value → H} {W : World} {a0 : Option Addr} {len cap : Nat} {d : DataW H} {p : List MemPlace}
    (h : DataW.Trod enc Tryd.prog W 0 (fun _ => true) true 22 (.slice a0 len cap) d p) : ∃ l : List UInt8, len = l.length ∧ BLies W a0 l ∧ l.length ≤ 9223372036854775807 := by
  obtain ⟨fuel, hf⟩ := h
  have cb : Tryd.prog.cellsOf 5 = 1 := by kernel_rfl
  rcases open_ints Tryd.underlying22 Tryd.underlying5 cb hf with ⟨hcs, _⟩ | ⟨a, len', cap', zs, hcs, _, hl, hcm, hz, _, hcell, hwz⟩
  · simp [Value.cells] at hcs
    obtain ⟨rfl, rfl, rfl⟩ := hcs
    exact ⟨[], rfl, .inl rfl, by simp⟩
  · simp [Value.cells] at hcs
    obtain ⟨rfl, rfl, rfl⟩ := hcs
    by_cases h0 : len = 0
    · subst h0
      exact ⟨[], rfl, .inl rfl, by simp⟩
    · have hzl : len ≤ zs.length := by rw [hz]; simpa using hl
      obtain ⟨b, off, rfl, hc⟩ := ints_at hcell (by omega)
      refine ⟨(zs.take len).map fun z => UInt8.ofNat z.toNat, by simp; omega, .inr ⟨b, off, rfl, fun i hi => ?_⟩, by simp; unfold maxLen at hcm; omega⟩
      simp at hi
      rw [hc i (by omega)]
      have hb : 0 ≤ zs.getD i 0 ∧ zs.getD i 0 ≤ 255 := by
        have := range_u8 hwz i
        simpa [List.getD_eq_getElem?_getD] using this
      have he : zs.getD i 0 = zs[i] := by rw [List.getD_eq_getElem?_getD, List.getElem?_eq_getElem (by omega)]; rfl
      rw [he] at hb ⊢
      simp [bcell]
      omega

theorem trodAll_five {H : Type} {enc : TypeId × Value → H} {P : Program} {w : World} {base : Nat} {spare : Nat → Bool} {held : Bool} {t0 t1 t2 t3 t4 : TypeId} {args : Array Value} {ds : List (DataW H)} {ps : List MemPlace}
    (h : DataW.TrodAll enc P w base spare held [t0, t1, t2, t3, t4] args.toList ds ps) :
    ∃ v0 v1 v2 v3 v4 d0 d1 d2 d3 d4 p0 p1 p2 p3 p4, args = #[v0, v1, v2, v3, v4] ∧ ds = [d0, d1, d2, d3, d4] ∧ ps = p0 ++ (p1 ++ (p2 ++ (p3 ++ (p4)))) ∧ DataW.Trod enc P w base spare held t0 v0 d0 p0 ∧ DataW.Trod enc P w base spare held t1 v1 d1 p1 ∧ DataW.Trod enc P w base spare held t2 v2 d2 p2 ∧ DataW.Trod enc P w base spare held t3 v3 d3 p3 ∧ DataW.Trod enc P w base spare held t4 v4 d4 p4 := by
  obtain ⟨v0, vs1, d0, ds1, p0, ps1, e0, rfl, rfl, h0, k0⟩ := trodAll_cons h
  obtain ⟨v1, vs2, d1, ds2, p1, ps2, e1, rfl, rfl, h1, k1⟩ := trodAll_cons k0
  subst e1
  obtain ⟨v2, vs3, d2, ds3, p2, ps3, e2, rfl, rfl, h2, k2⟩ := trodAll_cons k1
  subst e2
  obtain ⟨v3, vs4, d3, ds4, p3, ps4, e3, rfl, rfl, h3, k3⟩ := trodAll_cons k2
  subst e3
  obtain ⟨v4, vs5, d4, ds5, p4, ps5, e4, rfl, rfl, h4, k4⟩ := trodAll_cons k3
  subst e4
  obtain ⟨rfl, rfl, rfl⟩ := trodAll_nil k4
  exact ⟨v0, v1, v2, v3, v4, d0, d1, d2, d3, d4, p0, p1, p2, p3, p4, Array.toList_inj.1 e0, rfl, by simp, h0, h1, h2, h3, h4⟩
theorem trodAll_seven {H : Type} {enc : TypeId × Value → H} {P : Program} {w : World} {base : Nat} {spare : Nat → Bool} {held : Bool} {t0 t1 t2 t3 t4 t5 t6 : TypeId} {args : Array Value} {ds : List (DataW H)} {ps : List MemPlace}
    (h : DataW.TrodAll enc P w base spare held [t0, t1, t2, t3, t4, t5, t6] args.toList ds ps) :
    ∃ v0 v1 v2 v3 v4 v5 v6 d0 d1 d2 d3 d4 d5 d6 p0 p1 p2 p3 p4 p5 p6, args = #[v0, v1, v2, v3, v4, v5, v6] ∧ ds = [d0, d1, d2, d3, d4, d5, d6] ∧ ps = p0 ++ (p1 ++ (p2 ++ (p3 ++ (p4 ++ (p5 ++ (p6)))))) ∧ DataW.Trod enc P w base spare held t0 v0 d0 p0 ∧ DataW.Trod enc P w base spare held t1 v1 d1 p1 ∧ DataW.Trod enc P w base spare held t2 v2 d2 p2 ∧ DataW.Trod enc P w base spare held t3 v3 d3 p3 ∧ DataW.Trod enc P w base spare held t4 v4 d4 p4 ∧ DataW.Trod enc P w base spare held t5 v5 d5 p5 ∧ DataW.Trod enc P w base spare held t6 v6 d6 p6 := by
  obtain ⟨v0, vs1, d0, ds1, p0, ps1, e0, rfl, rfl, h0, k0⟩ := trodAll_cons h
  obtain ⟨v1, vs2, d1, ds2, p1, ps2, e1, rfl, rfl, h1, k1⟩ := trodAll_cons k0
  subst e1
  obtain ⟨v2, vs3, d2, ds3, p2, ps3, e2, rfl, rfl, h2, k2⟩ := trodAll_cons k1
  subst e2
  obtain ⟨v3, vs4, d3, ds4, p3, ps4, e3, rfl, rfl, h3, k3⟩ := trodAll_cons k2
  subst e3
  obtain ⟨v4, vs5, d4, ds5, p4, ps5, e4, rfl, rfl, h4, k4⟩ := trodAll_cons k3
  subst e4
  obtain ⟨v5, vs6, d5, ds6, p5, ps6, e5, rfl, rfl, h5, k5⟩ := trodAll_cons k4
  subst e5
  obtain ⟨v6, vs7, d6, ds7, p6, ps7, e6, rfl, rfl, h6, k6⟩ := trodAll_cons k5
  subst e6
  obtain ⟨rfl, rfl, rfl⟩ := trodAll_nil k6
  exact ⟨v0, v1, v2, v3, v4, v5, v6, d0, d1, d2, d3, d4, d5, d6, p0, p1, p2, p3, p4, p5, p6, Array.toList_inj.1 e0, rfl, by simp, h0, h1, h2, h3, h4, h5, h6⟩
end Go.Proofs.YtoogfipmdkneoaaDoor
