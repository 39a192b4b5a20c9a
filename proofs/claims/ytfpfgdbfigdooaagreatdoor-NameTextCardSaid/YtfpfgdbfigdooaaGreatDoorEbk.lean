/-
  The walk of the law NameBack: for every list of numbers and text it returns true, and leaves all that was there as it was.
  What every card of this seat's laws over dname needs: the three tables that the rows list, and that the laws' functions only read what they are handed.
  The tables of the rows of NameDecode and NameBack.
  A name that can be read: its relative names lie at its address, and their attributes at theirs.
  A slice of numbers that can be read: its numbers lie at its address.
-/
import Derived.Test.YtfpfgdbfigdooaaGreatDoorEbe
import Derived.Test.YtfpfgdbfigdooaaGreatDoorEap
import Derived.Test.YtfpfgdbfigdooaaGreatDoorEbi
import Derived.Test.YtfpfgdbfigdooaaGreatDoorEbj
import Derived.Test.YtfpfgdbfigdooaaGreatDoorCards
import Derived.Test.YtfpfgdbfigdooaaGreatDoorTie
import Derived.Test.YtfpfgdbfigdooaaGreatDoorEae
import Derived.Test.YtfpfgdbfigdooaaGreatDoorEaj
import Derived.Test.YtfpfgdbfigdooaaGreatDoorEak
import Derived.ProofKit
import Derived.OpenShut
import Derived.ChangeSame
import Derived.Deep.DeepHandedRow
import Derived.Lib.LaidU8T
import Derived.Lay
import Derived.Stop.LaidErr
import Derived.Lib.LaidIn
import Derived.Test.YtfpfgdbfigdooaaGreatDoorEah
import Derived.Deep.Slices
import Derived.Deep.Strs
import Derived.Test.YtfpfgdbfigdooaaGreatDoorEai
namespace Go.Proofs.YtfpfgdbfigdooaaGreatDoor
open Go.RowKit

theorem sort_facts (n : Nm) : (n.map sortR).length = n.length ∧ (∀ i, i < n.length → ((n.map sortR).getD i []).length = (n.getD i []).length) ∧ ∀ i, i < n.length → ∀ x ∈ n.getD i [], x ∈ (n.map sortR).getD i [] := by
  have e : ∀ i, i < n.length → (n.map sortR).getD i [] = sortR (n.getD i []) := fun i hi => by
    rw [getD_mem (by rw [List.length_map]; exact hi) _, getD_mem hi _, List.getElem_map]
  exact ⟨List.length_map _, fun i hi => by rw [e i hi, (sortR_perm _).length_eq], fun i hi x hx => by rw [e i hi]; exact (sortR_perm _).mem_iff.2 hx⟩
/-- What the law's names come to. -/
theorem back_facts {n : Nm} (h : MadeN n) : chkN n = 0 ∧ encV n = encN n ∧ (encN n).size ≤ 1000000 ∧ decN (encN n) = (0, n.map sortR) := by
  have h0 := made_chkN h
  have e : encV n = encN n := by unfold encV; rw [if_pos h0]
  exact ⟨h0, e, by rw [← e]; have := encV_le (spN_of_made h); omega, dec_enc h0⟩
theorem text_facts {b : ByteArray} {A : Nm} (h : decN b = (0, A)) : chkN A = 0 ∧ encV A = b := by
  obtain ⟨h1, h2⟩ := enc_dec h
  exact ⟨h1, by unfold encV; rw [if_pos h1]; exact h2⟩

set_option maxRecDepth 100000 in
set_option maxHeartbeats 4000000 in
theorem backlaw (b : ByteArray) (a : Option Addr) (cap : Nat) (zs : List Int) (w : World) (hl : ILies w a zs) (hz : zs.length ≤ 9223372036854775807) (hT : Tab w) (hS : ShT w) (hP : Pow10 w) :
    Calls Tryz.prog 5 #[.slice a zs.length cap, .string b] w fun e w' => e = .returned (.bool true) ∧ Below w.heap.size w w' := by
  have HT := Lib.hid hT
  have HS := Lib.hid hS
  have HP := Lib.hid hP
  by_cases h4 : 400 < b.size
  · have hd : decide ((400 : Int) < (b.size : Int)) = true := by simp; omega
    have HAW := Lib.hid (awake_any w hT hS)
    clear hl hz hT hS hP h4
    go_enter Tryz.func5, Tryz.ntmps5
    go_wp2_with (go_at_call 9; (with_reducible refine HAW.out.mono ?_); rintro e w1 ⟨rfl, hb⟩; have HB := Lib.hid hb; clear hb)
    go_ret
    exact ⟨rfl, HB.out⟩
  have hd : decide ((400 : Int) < (b.size : Int)) = false := by simp; omega
  have HBZ := Lib.hid (show b.size ≤ 400 by omega)
  have HL := Lib.hid (new_any a cap zs w hl hz)
  obtain ⟨p, hp⟩ : ∃ p, p = w.heap.size := ⟨_, rfl⟩
  have HPP := Lib.hid hp
  clear hl hz hT hS hP h4 hp
  go_enter Tryz.func5, Tryz.ntmps5
  go_wp2_with fail
  refine HL.out.mono ?_
  rintro e w1 ⟨rfl, hd1, hb1⟩
  rw [← HPP.out] at hd1 hb1 ⊢
  have HB1 := Lib.hid hb1
  have HD1 := Lib.hid hd1
  have hpl1 := hd1.lt
  clear hd1 hb1
  go_wp2_with fail
  refine (name_any p a cap zs 0 w1 HD1.out (by omega)).mono ?_
  rintro e w2 ⟨v, n, k2, hmade, rfl, ⟨s0, rfl, hown⟩, hd2, hk2, hb2⟩
  obtain ⟨aA, cA, rfl, hcA, hrl⟩ := hown.lies
  have HRL := Lib.hid hrl
  have HB2 := Lib.hid (show Below p w w2 from HB1.out.trans (hb2.below (Nat.le_of_lt hpl1)))
  have HSM := Lib.hid (small_of_sp (spN_of_made hmade) (by omega))
  obtain ⟨q1, q2, q3, q4⟩ := back_facts hmade
  obtain ⟨q5, q6, q7⟩ := sort_facts n
  have HT2 := Lib.hid (HT.out.below (by rw [← HPP.out]; exact HB2.out))
  have HDC := Lib.hid (fun W hT hP => decode_nm (encN n) W q3 hT hP)
  rw [q4] at HDC
  simp only at HDC
  have HS2 := Lib.hid q2
  have HZ2 := Lib.hid q1
  generalize n.map sortR = m at q5 q6 q7 HDC
  obtain ⟨N, hN⟩ : ∃ N, N = n.length := ⟨_, rfl⟩
  rw [← hN] at q5 q6 q7 hcA ⊢
  have HN := Lib.hid hN
  have HM := Lib.hid q5
  have H6 := Lib.hid q6
  have H7 := Lib.hid q7
  obtain ⟨g, hg⟩ : ∃ g, g = w2.heap.size := ⟨_, rfl⟩
  obtain ⟨W3, hW3⟩ : ∃ W3, W3 = w2.alloc (.cells #[.slice aA N cA] 24) := ⟨_, rfl⟩
  have hb3 : Below w2.heap.size w2 W3 := by rw [hW3]; exact belowNew w2 _
  have hq3 : W3.heap[g]? = some (.cells #[.slice aA N cA] 24 (0, 0)) := by rw [hW3, hg]; exact heap_alloc_new w2 _
  have HQ3 := Lib.hid hq3
  have hpw : p ≤ w2.heap.size := Nat.le_trans (by rw [HPP.out]; exact Nat.le_refl _) HB2.out.size
  have HB3 := Lib.hid (HB2.out.trans (hb3.mono hpw))
  have HRL3 := Lib.hid (HRL.out.below hb3)
  have HT3 := Lib.hid (HT2.out.below hb3)
  have HEN := Lib.hid (encode_core aA cA N n W3 HRL3.out hN HSM.out HT3.out)
  rw [HZ2.out, HS2.out] at HEN
  have HP3 := Lib.hid (HP.out.below (by rw [← HPP.out]; exact HB3.out))
  have HWE3 := Lib.hid hW3.symm
  have HGE := Lib.hid hg
  have hl3 : g < W3.heap.size := (Array.getElem?_eq_some_iff.1 hq3).1
  clear hrl hd2 hk2 hb2 hmade hown q1 q2 q3 q4 q5 q6 q7 hN hW3 hb3 hq3 hg HS2 HZ2
  generalize encN n = s at HEN HDC
  go_upto_region 4 with fail
  rw [HWE3.out, ← HGE.out]
  obtain ⟨m3, _, _⟩ := one_facts HQ3.out
  go_upto_region 6 with (first
    | (go_at_call 14; (with_reducible refine HEN.out.mono ?_); rintro e w4 ⟨rfl, hb4⟩; have HB4 := Lib.hid hb4; clear hb4)
    | (go_at_call 20; (with_reducible refine (HDC.out _ (HT3.out.below HB4.out) (HP3.out.below HB4.out)).mono ?_); rintro e w5 ⟨v5, rfl, ho5, hb5⟩; have HB5 := Lib.hid (below_next HB4.out hb5); obtain ⟨s5, rfl, hs5⟩ := ho5; obtain ⟨a5, c5, rfl, _, hr5⟩ := hs5.lies; rw [HM.out]; have HR5 := Lib.hid hr5; clear hb5 hs5 hr5))
  obtain ⟨g5, hg5⟩ : ∃ g5, g5 = w5.heap.size := ⟨_, rfl⟩
  obtain ⟨W6, hW6⟩ : ∃ W6, W6 = w5.alloc (.cells #[.slice a5 N c5] 24) := ⟨_, rfl⟩
  have hb6 : Below w5.heap.size w5 W6 := by rw [hW6]; exact belowNew w5 _
  have hq6 : W6.heap[g5]? = some (.cells #[.slice a5 N c5] 24 (0, 0)) := by rw [hW6, hg5]; exact heap_alloc_new w5 _
  have HB6 := Lib.hid (below_next HB5.out hb6)
  have HR6 := Lib.hid (HR5.out.below hb6)
  have HRL6 := Lib.hid (HRL3.out.below HB6.out)
  obtain ⟨m6, _, l6⟩ := one_facts hq6
  have m3' := (HB6.out.cell (p := ⟨g, 0, none⟩) hl3).trans m3
  have HSN := Lib.hid (same_core aA a5 cA c5 N n m W6 HRL6.out HR6.out HN.out HM.out.symm HSM.out H6.out H7.out)
  have HT6 := Lib.hid (HT3.out.below HB6.out)
  have HP6 := Lib.hid (HP3.out.below HB6.out)
  have HWE6 := Lib.hid hW6.symm
  have HGE5 := Lib.hid hg5
  rw [hW6.symm, ← hg5]
  clear hW6 hb6 hq6 hg5 m3
  have HD2 := Lib.hid (fun W hT hP => decode_nm b W (by have := HBZ.out; omega) hT hP)
  have HSA := Lib.hid (decN_small (b := b) (by have := HBZ.out; omega))
  have HTF := Lib.hid (fun A (h : decN b = (0, A)) => text_facts h)
  obtain ⟨E, A, hEA⟩ : ∃ E A, decN b = (E, A) := ⟨_, _, rfl⟩
  rw [hEA] at HD2 HSA
  have HEA := Lib.hid hEA
  simp only at HD2 HSA
  clear hEA
  go_upto_region 9 with (first
    | (go_at_call 23; (with_reducible refine HSN.out.mono ?_); rintro e w7 ⟨rfl, hb7⟩; have HB7 := Lib.hid hb7; clear hb7)
    | (go_at_call 20; (with_reducible refine (HD2.out _ (HT6.out.below HB7.out) (HP6.out.below HB7.out)).mono ?_); rintro e w8 ⟨v8, rfl, ho8, hb8⟩; have HB8 := Lib.hid (below_next HB7.out hb8); obtain ⟨s8, rfl, hs8⟩ := ho8; obtain ⟨a8, c8, rfl, _, hr8⟩ := hs8.lies; have HR8 := Lib.hid hr8; clear hb8 hs8 hr8))
  obtain ⟨g8, hg8⟩ : ∃ g8, g8 = w8.heap.size := ⟨_, rfl⟩
  obtain ⟨W9, hW9⟩ : ∃ W9, W9 = w8.alloc (.cells #[.slice a8 A.length c8] 24) := ⟨_, rfl⟩
  have hb9 : Below w8.heap.size w8 W9 := by rw [hW9]; exact belowNew w8 _
  have hq9 : W9.heap[g8]? = some (.cells #[.slice a8 A.length c8] 24 (0, 0)) := by rw [hW9, hg8]; exact heap_alloc_new w8 _
  have HB9 := Lib.hid (below_next HB6.out (below_next HB8.out hb9))
  have HB39 := Lib.hid (below_next (show Below w.heap.size w W3 from by rw [← HPP.out]; exact HB3.out) HB9.out)
  obtain ⟨m9, _, l9⟩ := one_facts hq9
  have HT9 := Lib.hid (HT3.out.below HB9.out)
  have HS9 := Lib.hid (HS.out.below HB39.out)
  have HR9 := Lib.hid (HR8.out.below hb9)
  rw [← hW9, ← hg8]
  have HAW := Lib.hid (fun W hT hS => awake_any W hT hS)
  clear hb9 hq9 hW9 hg8 m6 l6 m3' hl3
  by_cases hE : E = 0
  · subst hE
    obtain ⟨k1, k2⟩ := HTF.out A HEA.out
    have HEN2 := Lib.hid (encode_core a8 c8 A.length A W9 HR9.out rfl HSA.out HT9.out)
    rw [k1, k2] at HEN2
    have hbb : (b.toList == b.toList) = true := by simp
    have hbb2 : (b.toList != b.toList) = false := by simp
    clear k1 k2
    go_wp2_with (first
      | (go_at_call 14; (with_reducible refine HEN2.out.mono ?_); rintro e w10 ⟨rfl, hb10⟩; have HB10 := Lib.hid hb10; clear hb10)
      | (go_at_call 9; (with_reducible refine (HAW.out _ (HT9.out.below HB10.out) (HS9.out.below HB10.out)).mono ?_); rintro e w11 ⟨rfl, hb11⟩; have HB11 := Lib.hid (below_next HB10.out hb11); clear hb11))
    go_ret
    exact ⟨rfl, below_next HB39.out HB11.out⟩
  · have hne : ((E : Int) == 0) = false := by simp; omega
    go_wp2_with (go_at_call 9; (with_reducible refine (HAW.out _ HT9.out HS9.out).mono ?_); rintro e w11 ⟨rfl, hb11⟩; have HB11 := Lib.hid hb11; clear hb11)
    go_ret
    exact ⟨rfl, below_next HB39.out HB11.out⟩
end Go.Proofs.YtfpfgdbfigdooaaGreatDoor
namespace Go.Proofs.YtfpfgdbfigdooaaGreatDoor
open Go.ChangeShapes Go.WideShapes Go.ChangeAt Go.RowKit Go.ChangeMaps

theorem own : ownKnob Tryz.prog.godebug = none := by kernel_rfl

/-- What was handed in reads as it read, for a call that leaves old memory alone. -/
theorem below_trodAll {H : Type} {enc : TypeId × Value → H} {W W' : World} (hb : Below W.heap.size W W') :
    ∀ (ts : List TypeId) (vs : List Value) (ds : List (DataW H)) (ps : List MemPlace), (∀ t ∈ ts, Tryz.prog.readableRec t = true ∧ t < Tryz.prog.types.size) → (∀ x ∈ ps, x.block < W.heap.size) →
      DataW.TrodAll enc Tryz.prog W 0 (fun _ => true) true ts vs ds ps → DataW.TrodAll enc Tryz.prog W' 0 (fun b => decide (b < W.heap.size)) true ts vs ds ps := by
  intro ts
  induction ts with
  | nil => intro vs ds ps _ _ h; obtain ⟨rfl, rfl, rfl⟩ := trodAll_nil h; exact trodAll_mk0
  | cons t ts ih =>
    intro vs ds ps ht hp h
    obtain ⟨v, vs', d, ds', p, q, rfl, rfl, rfl, h1, h2⟩ := trodAll_cons h
    exact trodAll_cons_mk (Below.trod laidOut (ht t (by simp)).1 (ht t (by simp)).2 h1 hb (fun x hx => hp x (by simp [hx]))) (ih vs' ds' q (fun u hu => ht u (by simp [hu])) (fun x hx => hp x (by simp [hx])) h2)

/-- A slice of bytes that can be read: its bytes lie at its address. -/
theorem open_bytes {H : Type} {enc : TypeId × Value → H} {W : World} {a0 : Option Addr} {len cap : Nat} {d : DataW H} {p : List MemPlace}
    (h : DataW.Trod enc Tryz.prog W 0 (fun _ => true) true 61 (.slice a0 len cap) d p) : ∃ l : List UInt8, len = l.length ∧ BLies W a0 l ∧ l.length ≤ 9223372036854775807 := by
  obtain ⟨fuel, hf⟩ := h
  have cb : Tryz.prog.cellsOf 5 = 1 := by kernel_rfl
  rcases open_ints Tryz.underlying61 Tryz.underlying5 cb hf with ⟨hcs, _⟩ | ⟨a, len', cap', zs, hcs, _, hl, hcm, hz, _, hcell, hwz⟩
  · simp [Value.cells] at hcs
    obtain ⟨rfl, rfl, rfl⟩ := hcs
    exact ⟨[], rfl, .inl rfl, by simp⟩
  · simp [Value.cells] at hcs
    obtain ⟨rfl, rfl, rfl⟩ := hcs
    by_cases h0 : len = 0
    · subst h0
      exact ⟨[], rfl, .inl rfl, by simp⟩
    · have hzl : len ≤ zs.length := by rw [hz]; simpa using hl
      obtain ⟨b, off, rfl, hc⟩ := ints_at hcell (by omega)
      refine ⟨(zs.take len).map fun z => UInt8.ofNat z.toNat, by simp; omega, .inr ⟨b, off, rfl, fun i hi => ?_⟩, by simp; unfold maxLen at hcm; omega⟩
      simp at hi
      rw [hc i (by omega)]
      have hb : 0 ≤ zs.getD i 0 ∧ zs.getD i 0 ≤ 255 := by
        have := range_u8 hwz i
        simpa [List.getD_eq_getElem?_getD] using this
      have he : zs.getD i 0 = zs[i] := by rw [List.getD_eq_getElem?_getD, List.getElem?_eq_getElem (by omega)]; rfl
      rw [he] at hb ⊢
      simp [bcell]
      omega

/-- What the rows' list gives: the tables lie. -/
theorem first_data : (Rows.laid_unicode_utf8_first : DataW Unit) = Lib.firstData := by kernel_rfl
theorem accept_data : (Rows.laid_unicode_utf8_acceptRanges : DataW Unit) = Lib.acceptData := by kernel_rfl
abbrev laidList : List (String × DataW Unit) := [("unicode/utf8.acceptRanges", Rows.laid_unicode_utf8_acceptRanges), ("certpath/dname.shortTypes", Rows.laid_certpath_dname_shortTypes), ("unicode/utf8.first", Rows.laid_unicode_utf8_first)]
theorem tab_laid {W : World} (h : laidMetH Tryz.prog [("unicode/utf8.acceptRanges", Rows.laid_unicode_utf8_acceptRanges), ("certpath/dname.shortTypes", Rows.laid_certpath_dname_shortTypes), ("unicode/utf8.first", Rows.laid_unicode_utf8_first)] W) : Tab W := by
  rw [MakeChecks.laidMetH_plain _ _ _ (by kernel_rfl)] at h
  have h' : laidMet Tryz.prog [("unicode/utf8.acceptRanges", Rows.laid_unicode_utf8_acceptRanges), ("certpath/dname.shortTypes", Rows.laid_certpath_dname_shortTypes), ("unicode/utf8.first", Rows.laid_unicode_utf8_first)] W := h
  rw [first_data, accept_data] at h'
  exact utf8Tabs_of_readsT (U8Types.of196 lays196) ⟨by kernel_rfl, by kernel_rfl, by kernel_rfl, by kernel_rfl, by kernel_rfl, by kernel_rfl, by kernel_rfl⟩ (Lib.laidMet.reads h' (.tail _ (.tail _ (.head _)))) (Lib.laidMet.reads h' (.head _))
theorem two_strs {P : Program} {w : World} {base : Nat} {sp : Nat → Bool} {held : Bool} {fuel : Nat} {t s : TypeId} {f0 f1 : Field} {cs : List Value} {x y : List UInt8} {q : List MemPlace} (hu : P.underlying t = some (.struct #[f0, f1])) (hs : P.underlying s = some .string)
    (t0 : f0.type = s) (t1 : f1.type = s) (o0 : f0.offset = 0) (o1 : f1.offset = 1) (c1 : P.cellsOf s = 1) (c2 : P.cellsOf t = 2) (h : DataW.trod (fun _ : TypeId × Value => ()) P w base sp held fuel t cs = some (.agg [.lit (.string x), .lit (.string y)], q)) :
    cs = [.string (strOf x), .string (strOf y)] := by
  obtain ⟨y0, y1, n, hx, hl, h0, h1⟩ := trod_struct2 hu h
  rw [c2] at hl
  rw [t0, o0, c1] at h0
  rw [t1, o1, c1] at h1
  match cs, hl with
  | [u, v], _ =>
    obtain ⟨a, ea, xa, _⟩ := DataW.trod_string hs h0
    obtain ⟨b, eb, xb, _⟩ := DataW.trod_string hs h1
    have e1 := congrArg Prod.fst hx
    rw [xa, xb] at e1
    simp at e1
    obtain ⟨e2, e3⟩ := e1
    have r0 : u = .string a := by simpa using ea
    have r1 : v = .string b := by simpa using eb
    rw [r0, r1, strOf_of (b := a) (l := x) e2.symm, strOf_of (b := b) (l := y) e3.symm]
theorem sh_reads {W : World} (h : Lib.VarReads Tryz.prog W "certpath/dname.shortTypes" Rows.laid_certpath_dname_shortTypes) : ShT W := by
  obtain ⟨g, t, cs, fuel, p, hg, hty, hvar, hd⟩ := h
  obtain rfl : 0 = g := Option.some.inj ((show Tryz.prog.globalNamed "certpath/dname.shortTypes" = some 0 by kernel_rfl).symm.trans hg)
  obtain rfl : 151 = t := Option.some.inj ((show (Tryz.prog.globals[0]?).map (·.type) = some 151 by kernel_rfl).symm.trans hty)
  have c1 : Tryz.prog.cellsOf 9 = 1 := by kernel_rfl
  have c2 : Tryz.prog.cellsOf 150 = 2 := by kernel_rfl
  unfold Rows.laid_certpath_dname_shortTypes at hd
  have key : ∀ i (hi : i < 7) (x y : List UInt8), ([([67, 78], [50, 46, 53, 46, 52, 46, 51]), ([67], [50, 46, 53, 46, 52, 46, 54]), ([76], [50, 46, 53, 46, 52, 46, 55]), ([79], [50, 46, 53, 46, 52, 46, 49, 48]), ([79, 85], [50, 46, 53, 46, 52, 46, 49, 49]), ([68, 67], [48, 46, 57, 46, 50, 51, 52, 50, 46, 49, 57, 50, 48, 48, 51, 48, 48, 46, 49, 48, 48, 46, 49, 46, 50, 53]), ([69], [49, 46, 50, 46, 56, 52, 48, 46, 49, 49, 51, 53, 52, 57, 46, 49, 46, 57, 46, 49])] : List (List UInt8 × List UInt8))[i]? = some (x, y) → cs[i * 2]? = some (.string (strOf x)) ∧ cs[i * 2 + 1]? = some (.string (strOf y)) := by
    intro i hi x y hxy
    obtain ⟨fuel', d, q, hdi, he⟩ := Lib.array_elem Tryz.underlying151 hd i hi
    have hd2 : d = .agg [.lit (.string x), .lit (.string y)] := by
      rcases (by omega : i = 0 ∨ i = 1 ∨ i = 2 ∨ i = 3 ∨ i = 4 ∨ i = 5 ∨ i = 6) with rfl | rfl | rfl | rfl | rfl | rfl | rfl <;> (simp at hxy hdi; obtain ⟨rfl, rfl⟩ := hxy; exact hdi.symm)
    subst hd2
    rw [c2] at he
    have hcs := two_strs Tryz.underlying150 Tryz.underlying9 rfl rfl rfl rfl c1 c2 he
    have e0 := congrArg (·[0]?) hcs
    have e1 := congrArg (·[1]?) hcs
    simp only [List.getElem?_take, List.getElem?_drop] at e0 e1
    exact ⟨by rw [← Array.getElem?_toList]; simpa using e0, by rw [← Array.getElem?_toList]; simpa using e1⟩
  intro j hj
  rw [World.var?_cell hg hvar j]
  rcases (by omega : j = 0 ∨ j = 1 ∨ j = 2 ∨ j = 3 ∨ j = 4 ∨ j = 5 ∨ j = 6 ∨ j = 7 ∨ j = 8 ∨ j = 9 ∨ j = 10 ∨ j = 11 ∨ j = 12 ∨ j = 13) with rfl | rfl | rfl | rfl | rfl | rfl | rfl | rfl | rfl | rfl | rfl | rfl | rfl | rfl
  · exact (key 0 (by omega) _ _ rfl).1
  · exact (key 0 (by omega) _ _ rfl).2
  · exact (key 1 (by omega) _ _ rfl).1
  · exact (key 1 (by omega) _ _ rfl).2
  · exact (key 2 (by omega) _ _ rfl).1
  · exact (key 2 (by omega) _ _ rfl).2
  · exact (key 3 (by omega) _ _ rfl).1
  · exact (key 3 (by omega) _ _ rfl).2
  · exact (key 4 (by omega) _ _ rfl).1
  · exact (key 4 (by omega) _ _ rfl).2
  · exact (key 5 (by omega) _ _ rfl).1
  · exact (key 5 (by omega) _ _ rfl).2
  · exact (key 6 (by omega) _ _ rfl).1
  · exact (key 6 (by omega) _ _ rfl).2
theorem sh_laid {W : World} (h : laidMetH Tryz.prog [("unicode/utf8.acceptRanges", Rows.laid_unicode_utf8_acceptRanges), ("certpath/dname.shortTypes", Rows.laid_certpath_dname_shortTypes), ("unicode/utf8.first", Rows.laid_unicode_utf8_first)] W) : ShT W := by
  rw [MakeChecks.laidMetH_plain _ _ _ (by kernel_rfl)] at h
  have h' : laidMet Tryz.prog [("unicode/utf8.acceptRanges", Rows.laid_unicode_utf8_acceptRanges), ("certpath/dname.shortTypes", Rows.laid_certpath_dname_shortTypes), ("unicode/utf8.first", Rows.laid_unicode_utf8_first)] W := h
  exact sh_reads (Lib.laidMet.reads h' (.tail _ (.head _)))
end Go.Proofs.YtfpfgdbfigdooaaGreatDoor
namespace Go.Proofs.YtfpfgdbfigdooaaGreatDoor
open Go.RowKit Go.ChangeMaps

theorem pow10_laid {x y : String × DataW Unit} {rest : List (String × DataW Unit)} {W : World} (h : laidMet Tryz.prog (x :: y :: ("internal/strconv.uint64pow10", Lib.tabData .u64 Lib.pow10Tab) :: rest) W) : Pow10 W :=
  Lib.tabBelow_of_tabIs (Lib.tabIs_of_head (g := 4) (t := 215) (e := 147) (n := 20) (by kernel_rfl) (by kernel_rfl) Tryz.underlying215 Tryz.underlying147 (by kernel_rfl) (by kernel_rfl) h.tail.tail)
theorem pow10_data : (Rows.laid_internal_strconv_uint64pow10 : DataW Unit) = Lib.tabData .u64 Lib.pow10Tab := by kernel_rfl
theorem six_laid {W : World} (h : laidMetH Tryz.prog [("math/bits.deBruijn32tab", Rows.laid_math_bits_deBruijn32tab), ("math/bits.deBruijn64tab", Rows.laid_math_bits_deBruijn64tab), ("internal/strconv.uint64pow10", Rows.laid_internal_strconv_uint64pow10), ("unicode/utf8.acceptRanges", Rows.laid_unicode_utf8_acceptRanges), ("certpath/dname.shortTypes", Rows.laid_certpath_dname_shortTypes), ("unicode/utf8.first", Rows.laid_unicode_utf8_first)] W) : Tab W ∧ ShT W ∧ Pow10 W := by
  rw [MakeChecks.laidMetH_plain _ _ _ (by kernel_rfl)] at h
  have h' : laidMet Tryz.prog (("math/bits.deBruijn32tab", Rows.laid_math_bits_deBruijn32tab) :: ("math/bits.deBruijn64tab", Rows.laid_math_bits_deBruijn64tab) :: ("internal/strconv.uint64pow10", Rows.laid_internal_strconv_uint64pow10) :: [("unicode/utf8.acceptRanges", Rows.laid_unicode_utf8_acceptRanges), ("certpath/dname.shortTypes", Rows.laid_certpath_dname_shortTypes), ("unicode/utf8.first", Rows.laid_unicode_utf8_first)]) W := h
  have hP : Pow10 W := by
    have h2 := h'
    rw [pow10_data] at h2
    exact pow10_laid h2
  have h3 : laidMetH Tryz.prog [("unicode/utf8.acceptRanges", Rows.laid_unicode_utf8_acceptRanges), ("certpath/dname.shortTypes", Rows.laid_certpath_dname_shortTypes), ("unicode/utf8.first", Rows.laid_unicode_utf8_first)] W := by
    rw [MakeChecks.laidMetH_plain _ _ _ (by kernel_rfl)]
    exact h'.tail.tail.tail
  exact ⟨tab_laid h3, sh_laid h3, hP⟩
end Go.Proofs.YtfpfgdbfigdooaaGreatDoor
namespace Go.Proofs.YtfpfgdbfigdooaaGreatDoor
open Go.ChangeShapes Go.WideShapes Go.ChangeAt Go.RowKit Go.ChangeMaps Go.Deep

def AtOk (a : At) : Prop := a.1.size ≤ 9223372036854775807 ∧ a.2.2.size ≤ 9223372036854775807 ∧ -9223372036854775808 ≤ a.2.1 ∧ a.2.1 ≤ 9223372036854775807
def RdnOk (r : List At) : Prop := r.length ≤ 9223372036854775807 ∧ ∀ i, i < r.length → AtOk (r.getD i noAt)
def NameOk (n : Nm) : Prop := n.length ≤ 9223372036854775807 ∧ ∀ i, i < n.length → RdnOk (n.getD i [])

theorem getD_map_range {α : Type} (f : Nat → α) (n i : Nat) (h : i < n) (d : α) : ((List.range n).map f).getD i d = f i := by
  rw [List.getD_eq_getElem?_getD, List.getElem?_map, List.getElem?_range h]; rfl
set_option maxRecDepth 10000 in
/-- One attribute, of three cells. -/
theorem open_at {H : Type} {enc : TypeId × Value → H} {W : World} {n : Nat} {cs : List Value} {x : DataW H × List MemPlace} (h : DataW.trod enc Tryz.prog W 0 (fun _ => true) true n 27 cs = some x) :
    ∃ t : At, cs = [.string t.1, .int .i64 t.2.1, .string t.2.2] ∧ AtOk t := by
  obtain ⟨xs, k, _, _, hl, hlen, hfd⟩ := DataW.trod_struct Tryz.underlying27 h
  have c1 : Tryz.prog.cellsOf 3 = 1 := by kernel_rfl
  have c2 : Tryz.prog.cellsOf 9 = 1 := by kernel_rfl
  have c3 : Tryz.prog.cellsOf 27 = 3 := by kernel_rfl
  have hlen3 : xs.length = 3 := hlen
  have hs3 : cs.length = 3 := hl.trans c3
  match xs, hlen3 with
  | [y0, y1, y2], _ =>
    match cs, hs3 with
    | [z0, z1, z2], _ =>
      have g0 : DataW.trod enc Tryz.prog W 0 (fun _ => true) true k 9 (([z0, z1, z2].drop 0).take (Tryz.prog.cellsOf 9)) = some y0 := hfd 0 _ rfl
      rw [c2] at g0
      obtain ⟨s0, e0, _, w0⟩ := DataW.trod_string Tryz.underlying9 g0
      have g1 : DataW.trod enc Tryz.prog W 0 (fun _ => true) true k 3 (([z0, z1, z2].drop 1).take (Tryz.prog.cellsOf 3)) = some y1 := hfd 1 _ rfl
      rw [c1] at g1
      obtain ⟨n1, e1, _, w1⟩ := DataW.trod_int Tryz.underlying3 g1
      have g2 : DataW.trod enc Tryz.prog W 0 (fun _ => true) true k 9 (([z0, z1, z2].drop 2).take (Tryz.prog.cellsOf 9)) = some y2 := hfd 2 _ rfl
      rw [c2] at g2
      obtain ⟨s2, e2, _, w2⟩ := DataW.trod_string Tryz.underlying9 g2
      have r0 : z0 = .string s0 := by simpa using e0
      have r1 : z1 = .int .i64 n1 := by simpa using e1
      have r2 : z2 = .string s2 := by simpa using e2
      have b1 := bounds_i64 w1
      refine ⟨(s0, n1, s2), by rw [r0, r1, r2], ?_, ?_, ?_, ?_⟩
      · show s0.size ≤ _
        unfold maxLen at w0; omega
      · show s2.size ≤ _
        unfold maxLen at w2; omega
      · exact b1.1
      · exact b1.2
set_option maxRecDepth 10000 in
theorem open_ats {H : Type} {enc : TypeId × Value → H} {W : World} {n : Nat} {z : Value} {x : DataW H × List MemPlace} (h : DataW.trod enc Tryz.prog W 0 (fun _ => true) true n 33 [z] = some x) :
    ∃ a c, ∃ l : List At, z = .slice a l.length c ∧ l.length ≤ c ∧ ALies W a l ∧ RdnOk l := by
  have c3 : Tryz.prog.cellsOf 27 = 3 := by kernel_rfl
  rcases open_slice Tryz.underlying33 h with ⟨hcs, _⟩ | ⟨a, len, cap, m, k, D, Pl, hcs, _, hl, hm, hmm, _, hx⟩
  · exact ⟨none, 0, [], by simpa using hcs, by simp, .inl rfl, by simp, fun i hi => absurd hi (Nat.not_lt_zero _)⟩
  · have hlm : len ≤ m := by rw [hmm]; split <;> omega
    obtain ⟨f, hf⟩ := choose_lt (α := At) (n := len) (p := fun i t => AtOk t ∧ W.cell? (a.add (i * 3)) = some (.string t.1) ∧ W.cell? (a.add (i * 3 + 1)) = some (.int .i64 t.2.1) ∧ W.cell? (a.add (i * 3 + 2)) = some (.string t.2.2)) (fun i hi => by
      obtain ⟨cs', h1, h2⟩ := hx i (by omega)
      obtain ⟨t, rfl, ht⟩ := open_at h2
      rw [c3] at h1
      obtain ⟨_, _, hc⟩ := World.cells?_some h1
      have e0 := hc 0 (by omega)
      have e1 := hc 1 (by omega)
      have e2 := hc 2 (by omega)
      rw [add_add] at e0 e1 e2
      exact ⟨t, ht, by simpa using e0, by simpa using e1, by simpa using e2⟩)
    refine ⟨some a, cap, (List.range len).map f, by simpa using hcs, by simpa using hl, ?_, by simp; unfold maxLen at hm; omega, fun i hi => ?_⟩
    · by_cases h0 : len = 0
      · exact .inl (by rw [h0]; rfl)
      · obtain ⟨b, off, spot⟩ := a
        have hspot : spot = none := by
          have := (hf 0 (by omega)).2.1
          simpa [Addr.add] using World.cell?_spot this
        subst hspot
        refine .inr ⟨b, off, rfl, fun i hi => ?_⟩
        simp at hi
        rw [getD_map_range _ _ _ hi]
        have hh := (hf i hi).2
        rw [Go.WideShapes.add_plain, Go.WideShapes.add_plain, Go.WideShapes.add_plain] at hh
        simpa [Nat.add_assoc] using hh
    · simp at hi
      rw [getD_map_range _ _ _ hi]
      exact (hf i hi).1
set_option maxRecDepth 10000 in
theorem open_rdns {H : Type} {enc : TypeId × Value → H} {W : World} {n : Nat} {z : Value} {x : DataW H × List MemPlace} (h : DataW.trod enc Tryz.prog W 0 (fun _ => true) true n 22 [z] = some x) :
    ∃ a c, ∃ l : Nm, z = .slice a l.length c ∧ l.length ≤ c ∧ RLies W a l ∧ NameOk l := by
  have c1 : Tryz.prog.cellsOf 33 = 1 := by kernel_rfl
  rcases open_slice1 Tryz.underlying22 c1 h with ⟨hcs, _⟩ | ⟨a, len, cap, m, k, V, D, Pl, hcs, _, hl, hm, hmm, _, hx⟩
  · exact ⟨none, 0, [], by simpa using hcs, by simp, .inl rfl, by simp, fun i hi => absurd hi (Nat.not_lt_zero _)⟩
  · have hlm : len ≤ m := by rw [hmm]; split <;> omega
    obtain ⟨f, hf⟩ := choose_lt (α := List At) (n := len) (p := fun i r => RdnOk r ∧ ∃ a' c', W.cell? (a.add i) = some (.slice a' r.length c') ∧ r.length ≤ c' ∧ ALies W a' r) (fun i hi => by
      obtain ⟨h1, h2⟩ := hx i (by omega)
      obtain ⟨a', c', l, e, hl3, hl, hk⟩ := open_ats h2
      exact ⟨l, hk, a', c', by rw [← e]; exact h1, hl3, hl⟩)
    refine ⟨some a, cap, (List.range len).map f, by simpa using hcs, by simpa using hl, ?_, by simp; unfold maxLen at hm; omega, fun i hi => ?_⟩
    · by_cases h0 : len = 0
      · exact .inl (by rw [h0]; rfl)
      · obtain ⟨b, off, spot⟩ := a
        have hspot : spot = none := by
          obtain ⟨_, _, _, q, _⟩ := hf 0 (by omega)
          simpa [Addr.add] using World.cell?_spot q
        subst hspot
        refine .inr ⟨b, off, rfl, fun i hi => ?_⟩
        simp at hi
        rw [getD_map_range _ _ _ hi]
        obtain ⟨_, a', c', q1, q3, q2⟩ := hf i hi
        rw [Go.WideShapes.add_plain] at q1
        exact ⟨a', c', q1, q3, q2⟩
    · simp at hi
      rw [getD_map_range _ _ _ hi]
      exact (hf i hi).1
set_option maxRecDepth 10000 in
theorem open_name {H : Type} {enc : TypeId × Value → H} {W : World} {r : Reach} {b0 : Nat} {v : Value} {d : DataW H} {p : List MemPlace}
    (hval : Value.okWide Tryz.prog W r b0 24 v) (h : DataW.Trod enc Tryz.prog W 0 (fun _ => true) true 24 v d p) : ∃ n, NameV W v n ∧ NameOk n := by
  unfold Value.okWide at hval
  rw [Tryz.underlying24] at hval
  obtain ⟨cs, rfl, hsz, _⟩ := hval
  obtain ⟨fuel, hf⟩ := h
  have cb : Tryz.prog.cellsOf 22 = 1 := by kernel_rfl
  obtain ⟨xs, k, _, _, _, hlen, hfd⟩ := DataW.trod_struct Tryz.underlying24 hf
  have hlen1 : xs.length = 1 := hlen
  have hs1 : cs.toList.length = 1 := hsz
  match xs, hlen1 with
  | [y0], _ =>
    match hcs : cs.toList, hs1 with
    | [z0], _ =>
      have hcl : (Value.agg cs).cells.toList = [z0] := hcs
      rw [hcl] at hfd
      have g0 : DataW.trod enc Tryz.prog W 0 (fun _ => true) true k 22 (([z0].drop 0).take (Tryz.prog.cellsOf 22)) = some y0 := hfd 0 _ rfl
      rw [cb] at g0
      obtain ⟨a, c, n, e, h3, h1, h2⟩ := open_rdns (z := z0) (by simpa using g0)
      refine ⟨n, ⟨a, c, ?_, h3, h1⟩, h2⟩
      congr 1
      apply Array.toList_inj.1
      rw [hcs, e]
end Go.Proofs.YtfpfgdbfigdooaaGreatDoor
namespace Go.Proofs.YtfpfgdbfigdooaaGreatDoor
open Go.ChangeShapes Go.WideShapes Go.ChangeAt Go.RowKit

set_option maxRecDepth 10000 in
theorem open_nums {H : Type} {enc : TypeId × Value → H} {W : World} {a0 : Option Addr} {len cap : Nat} {d : DataW H} {p : List MemPlace}
    (h : DataW.Trod enc Tryz.prog W 0 (fun _ => true) true 25 (.slice a0 len cap) d p) : ∃ zs : List Int, len = zs.length ∧ ILies W a0 zs ∧ zs.length ≤ 9223372036854775807 := by
  obtain ⟨fuel, hf⟩ := h
  have cb : Tryz.prog.cellsOf 3 = 1 := by kernel_rfl
  rcases open_ints Tryz.underlying25 Tryz.underlying3 cb hf with ⟨hcs, _⟩ | ⟨a, len', cap', zs, hcs, _, hl, hcm, hz, _, hcell, _⟩
  · simp [Value.cells] at hcs
    obtain ⟨rfl, rfl, rfl⟩ := hcs
    exact ⟨[], rfl, .inl rfl, by simp⟩
  · simp [Value.cells] at hcs
    obtain ⟨rfl, rfl, rfl⟩ := hcs
    by_cases h0 : len = 0
    · subst h0
      exact ⟨[], rfl, .inl rfl, by simp⟩
    · have hzl : len ≤ zs.length := by rw [hz]; simpa using hl
      obtain ⟨b, off, rfl, hc⟩ := ints_at hcell (by omega)
      have e : (zs.take len).length = len := by rw [List.length_take]; omega
      refine ⟨zs.take len, e.symm, .inr ⟨b, off, rfl, fun i hi => ?_⟩, by rw [e]; unfold maxLen at hcm; omega⟩
      rw [e] at hi
      rw [hc i (by omega)]
      congr 2
      rw [List.getD_eq_getElem?_getD, List.getD_eq_getElem?_getD, List.getElem?_take_of_lt hi]

end Go.Proofs.YtfpfgdbfigdooaaGreatDoor
