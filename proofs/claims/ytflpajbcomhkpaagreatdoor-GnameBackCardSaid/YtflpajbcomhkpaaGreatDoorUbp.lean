/-
  The walk of the law GnameBack: for every slice of ints it returns true, and leaves all that was there as it was.
-/
import Derived.Test.YtflpajbcomhkpaaGreatDoorUbo
import Derived.Test.YtflpajbcomhkpaaGreatDoorUbk
namespace Go.Proofs.YtflpajbcomhkpaaGreatDoor
open Go.RowKit

theorem own_rl9 {w : World} {B c : Nat} {a : Option Addr} {n : Nm} (h : OwnN w B (.slice a n.length c) n) : n.length ≤ c ∧ RLies w a n := by
  obtain ⟨a', c', e, hc, hr⟩ := h.lies
  obtain ⟨rfl, rfl⟩ : a = a' ∧ c = c' := by simpa using e
  exact ⟨hc, hr⟩
theorem one_okC {con : Bool} {k : Int} {t : List UInt8} {n : Nm} (h : OkC con k t n) : ∃ rw : ByteArray, ∀ W, Calls Tryz.prog 12 #[.string (encG con k t n)] W fun e w' => e = .returned (.tuple #[.agg #[.int .i64 ((tgC k : Nat) : Int), .string (ctC k t n), .string rw], .int .i64 0]) ∧ Below W.heap.size W w' := by
  obtain ⟨h1, h2, h3⟩ := one_el (elC_ok h)
  have hz := encG_small (con := con) (k := k) (okC_len h).1 (okC_len h).2
  refine ⟨rdRaw (encG con k t n), fun W => ?_⟩
  have hr := rone_any (encG con k t n) W (by omega)
  have e : oneVal (encG con k t n) = .tuple #[.agg #[.int .i64 ((tgC k : Nat) : Int), .string (ctC k t n), .string (rdRaw (encG con k t n))], .int .i64 0] := by
    unfold oneVal
    rw [if_pos (show oneErr (encG con k t n) = 0 from h1)]
    unfold elV
    rw [show rdTag (encG con k t n) = tgC k from h2, show rdContent (encG con k t n) = ctC k t n from h3]
  rwa [e] at hr
theorem ctC_small {con : Bool} {k : Int} {t : List UInt8} {n : Nm} (h : OkC con k t n) : (ctC k t n).size ≤ 1000 := by
  rcases okC_parts h with ⟨hk, _, rfl, hl⟩ | ⟨rfl, rfl, hn⟩
  · rw [show ctC k t [] = strOf t from if_neg (by omega), strOf_size]; omega
  · rw [show ctC 4 [] n = encN n from if_pos rfl]
    have h1 := encV_le (spN_of_made hn)
    rw [show encV n = encN n by unfold encV; rw [if_pos (made_chkN hn)]] at h1
    omega
theorem made_typesB {n : Nm} (h : MadeN n) : ∀ r ∈ n, ∀ x ∈ r, x.1.size ≤ 200000 := fun r hr x hx => by have := (((spN_of_made h).2 r hr).2 x hx).1; omega
set_option maxRecDepth 100000 in
set_option maxHeartbeats 16000000 in
theorem gbacklaw (hPE : PEnc) (hPM : PMatch) (a : Option Addr) (cap : Nat) (zs : List Int) (w : World) (hl : ILies w a zs) (hz : zs.length ≤ 9223372036854775807) (hT : Tab w) (hS : ShT w) (hP : Pow10 w) (hm : Mk w) :
    Calls Tryz.prog 6 #[.slice a zs.length cap] w fun e w' => e = .returned (.bool true) ∧ Below w.heap.size w w' := by
  have HAW := Lib.hid (fun V (hb : Below w.heap.size w V) => gawake_any hPE hPM V (hT.below hb) (hm.below hb))
  have HEN := Lib.hid (fun V (hb : Below w.heap.size w V) a0 c m (k : Int) (t : List UInt8) (n : Nm) con (h : RLies V a0 n) (hn : m = n.length) (ht : t.length ≤ 150000) (hs : SmallN n) => hPE a0 c m k t n con V h hn ht hs (hT.below hb) (hm.below hb))
  have HDE := Lib.hid (fun V (hb : Below w.heap.size w V) (T : Int) (ct rw : ByteArray) con (hc : ct.size ≤ 1000) => gdec_core T ct rw con V (by omega) (hT.below hb) (hP.below hb) (hm.below hb))
  have HFM := Lib.hid (fun V (hb : Below w.heap.size w V) a1 c1 N (q : Int) (u : List UInt8) (r : Nm) (hl : RLies V a1 r) (hN : N = r.length) (hu : u.length ≤ 64) (hs : SmallN r) (h2 : ∀ z ∈ r, ∀ x ∈ z, x.1.size ≤ 200000) => gfmt_core a1 c1 N q u r V hl hN (by omega) hs h2 (hT.below hb) (hS.below hb) (hm.below hb).2)
  have HPA := Lib.hid (fun V (hb : Below w.heap.size w V) x (hx : x.length ≤ 130000) => gpar_core x V (by omega) (hT.below hb) (hS.below hb) (hm.below hb))
  have HEL := Lib.hid (fun V (hb : Below w.heap.size w V) a1 c1 N (L : List Gn) (hG : GLies V a1 L) (hN : N = L.length) (hs : ∀ i, i < L.length → (L.getD i noG).2.1.length ≤ 64 ∧ SmallN (L.getD i noG).2.2) => gelist_core a1 c1 N L V hG hN (fun i hi => ⟨Nat.le_trans (hs i hi).1 (by omega), (hs i hi).2⟩) (hT.below hb) (hm.below hb))
  have HDL := Lib.hid (fun V (hb : Below w.heap.size w V) s (hs : s.size ≤ 2000) => gdlist_core s V (by omega) (hT.below hb) (hP.below hb) (hm.below hb))
  have HNW := Lib.hid (new_any a cap zs w hl hz)
  clear hl hz hT hS hP hm hPE hPM
  go_enter Tryz.func6, Tryz.ntmps6
  go_upto_region 2 with (go_at_call 8; (with_reducible refine HNW.out.mono ?_); rintro e w3 ⟨rfl, hd3, hb3⟩; have HD3 := Lib.hid hd3; have HB3 := Lib.hid hb3; clear hd3 hb3)
  obtain ⟨p, hp⟩ : ∃ p, p = w.heap.size := ⟨_, rfl⟩
  have HP := Lib.hid hp
  rw [← hp] at HD3 ⊢
  have HN3 := Lib.hid (general_any p a cap zs 0 w3 HD3.out (by omega))
  clear hp HNW
  go_upto_region 3 with (first
    | (go_at_call 19; (with_reducible refine HN3.out.mono ?_); rintro e w4 ⟨k1, t1, sq, n1, j4, hG, rfl, hso, hd4, hk4, hb4⟩; obtain ⟨a1, e1, rfl, hcs, _⟩ := hso.lies; clear hcs; have HG1 := Lib.hid (show OkC false k1 t1 n1 from hG); have HO1 := Lib.hid (hso.base (Nat.le_of_lt HD3.out.lt)); have HD4 := Lib.hid hd4; have HK4 := Lib.hid hk4; have HB4 := Lib.hid hb4; have HN4 := Lib.hid (base_any_g p a cap zs j4 w4 hd4 (by omega)); clear hG hso hd4 hk4 hb4)
    | (go_at_call 29; (with_reducible refine HN4.out.mono ?_); rintro e w6 ⟨k2, t2, sq, n2, j6, hG, rfl, hso, hd6, hk6, hb6⟩; obtain ⟨a2, e2, rfl, hcs, _⟩ := hso.lies; clear hcs; have HG2 := Lib.hid (show OkC true k2 t2 n2 from hG); have HO2 := Lib.hid (hso.base (Nat.le_of_lt HD4.out.lt)); have HO1' := Lib.hid (HO1.out.apart HD4.out.1 (by decide) (by decide) hb6); have HD6 := Lib.hid hd6; have HK6 := Lib.hid (show j6 ≤ 24 by have := HK4.out; omega); have HB6 := Lib.hid (HB4.out.next hb6); clear hG hso hd6 hk6 hb6))
  obtain ⟨W7, hW7⟩ : ∃ W7, W7 = (w6.alloc (.cells #[.int .i64 k1, .string (strOf t1), .slice a1 n1.length e1] 32)).alloc (.cells #[.int .i64 k2, .string (strOf t2), .slice a2 n2.length e2] 32) := ⟨_, rfl⟩
  obtain ⟨g, hg⟩ : ∃ g, g = w6.heap.size := ⟨_, rfl⟩
  have hb7 : Below w6.heap.size w6 W7 := by rw [hW7]; exact belowTwo w6 _ _
  have hqa : W7.heap[g]? = some (.cells #[.int .i64 k1, .string (strOf t1), .slice a1 n1.length e1] 32 (0, 0)) := by
    rw [hW7, hg]; exact ((belowNew _ _).block _ (by simp)).trans (heap_alloc_new w6 _)
  have hqb : W7.heap[g + 1]? = some (.cells #[.int .i64 k2, .string (strOf t2), .slice a2 n2.length e2] 32 (0, 0)) := by
    have h1 := heap_alloc_new (w6.alloc (.cells #[.int .i64 k1, .string (strOf t1), .slice a1 n1.length e1] 32)) (.cells #[.int .i64 k2, .string (strOf t2), .slice a2 n2.length e2] 32)
    rw [show (w6.alloc (.cells #[.int .i64 k1, .string (strOf t1), .slice a1 n1.length e1] 32)).heap.size = w6.heap.size + 1 by simp, ← hW7, ← hg] at h1
    exact h1
  have hpg : p < g := by rw [hg]; exact HD6.out.lt
  rw [← hW7, ← hg]
  have HB7 := Lib.hid (show But p w3 W7 from HB6.out.next (But.of hb7))
  have HU1 := Lib.hid (HO1'.out.below hb7)
  have HU2 := Lib.hid (HO2.out.below hb7)
  have HD7 := Lib.hid (HD6.out.below hb7)
  have HQA := Lib.hid hqa
  have HQB := Lib.hid hqb
  obtain ⟨x0, x1, x2, lx⟩ := three_facts hqa
  have HN7 := Lib.hid (fun U (h : DeckAt U p a cap zs j6) => general_any p a cap zs j6 U h (by have := HK6.out; omega))
  clear hb7 hqa hqb hW7 hg HO1 HO1' HO2 HD4 HD6 HB4 HB6 HN3 HN4 HK4
  go_cut [6] (fun s6 wx => ∃ (H : Nat) (k3 : Int) (t3 : List UInt8) (n3 : Nm), s6 = .slice (some ⟨H, 0, none⟩) 2 2 ∧ GLies wx (some ⟨H, 0, none⟩) [(k1, t1, n1), (k3, t3, n3)] ∧ OkC false k3 t3 n3 ∧ Below w.heap.size w wx ∧ wx.heap[g]? = some (.cells #[.int .i64 k1, .string (strOf t1), .slice a1 n1.length e1] 32 (0, 0)) ∧ wx.heap[g + 1]? = some (.cells #[.int .i64 k2, .string (strOf t2), .slice a2 n2.length e2] 32 (0, 0)) ∧ (n1.length ≤ e1 ∧ RLies wx a1 n1) ∧ (n2.length ≤ e2 ∧ RLies wx a2 n2))
  case first =>
    go_region_held3 (fun w' => w'.cell? ⟨g, 0, none⟩ = some (.int .i64 k1) ∧ w'.cell? ⟨g, 1, none⟩ = some (.string (strOf t1)) ∧ w'.cell? ⟨g, 2, none⟩ = some (.slice a1 n1.length e1)) (first | exact ⟨by assumption, by assumption, by assumption⟩ | go_keep)
      (first | (go_at_call 19; (with_reducible refine (HN7.out _ (by first | exact HD7.out | exact deck_up HD7.out)).mono ?_); rintro e w9 ⟨k3, t3, s3, n3, j9, hG3, rfl, hso, hd9, hk9, hb9⟩; have hbx : But p W7 w9 := (by first | exact hb9 | exact ((But.refl p W7).drew).next hb9); obtain ⟨a3, e3, rfl, hcs, _⟩ := hso.lies; have HG3 := Lib.hid (show OkC false k3 t3 n3 from hG3); have HO3 := Lib.hid (hso.base (Nat.le_of_lt HD7.out.lt)); have z0 := (cell_same (hbx.block _ lx (by simp; omega)) 0).trans x0; have z1 := (cell_same (hbx.block _ lx (by simp; omega)) 1).trans x1; have z2 := (cell_same (hbx.block _ lx (by simp; omega)) 2).trans x2; have HB9 := Lib.hid (HB7.out.next hbx); have HQA9 := Lib.hid ((hbx.block _ (Array.getElem?_eq_some_iff.1 HQA.out).1 (by simp; omega)).trans HQA.out); have HQB9 := Lib.hid ((hbx.block _ (Array.getElem?_eq_some_iff.1 HQB.out).1 (by simp; omega)).trans HQB.out); have HV1 := Lib.hid (HU1.out.apart HD7.out.1 (by decide) (by decide) hbx); have HV2 := Lib.hid (HU2.out.apart HD7.out.1 (by decide) (by decide) hbx); clear hcs hso hd9 hk9 hb9 hG3 hbx))
    all_goals go_upto_region 4 with fail
    all_goals
      obtain ⟨WA, hWA⟩ : ∃ WA, WA = w9.alloc (.cells #[.int .i64 k1, .string (strOf t1), .slice a1 n1.length e1, .int .i64 k3, .string (strOf t3), .slice a3 n3.length e3] 32) := ⟨_, rfl⟩
      obtain ⟨H, hH⟩ : ∃ H, H = w9.heap.size := ⟨_, rfl⟩
      have hbA : Below w9.heap.size w9 WA := by rw [hWA]; exact belowNew w9 _
      have hqA : WA.heap[H]? = some (.cells #[.int .i64 k1, .string (strOf t1), .slice a1 n1.length e1, .int .i64 k3, .string (strOf t3), .slice a3 n3.length e3] 32 (0, 0)) := by rw [hWA, hH]; exact heap_alloc_new w9 _
      rw [← hWA, ← hH]
      clear x0 x1 x2 lx z0 z1 z2
      have HWA := Lib.hid (show Below w.heap.size w WA from (HB3.out.trans (((HB9.out.next (But.of hbA)).below (Nat.le_of_lt HD3.out.lt)).mono (by rw [HP.out]; exact Nat.le_refl _))))
      have L1 := Lib.hid (glies_two (T := 32) hqA (own_rl9 HV1.out).1 ((own_rl9 HV1.out).2.below hbA) (own_rl9 HO3.out).1 ((own_rl9 HO3.out).2.below hbA))
      have HV1' := Lib.hid (own_rl9 (HV1.out.below hbA))
      have HV2' := Lib.hid (own_rl9 (HV2.out.below hbA))
      have QA := Lib.hid ((hbA.block _ (Array.getElem?_eq_some_iff.1 HQA9.out).1).trans HQA9.out)
      have QB := Lib.hid ((hbA.block _ (Array.getElem?_eq_some_iff.1 HQB9.out).1).trans HQB9.out)
      clear hWA hH hbA hqA
      go_wp2_with fail
      go_meet
      exact ⟨H, k3, t3, n3, rfl, L1.out, HG3.out, HWA.out, QA.out, QB.out, HV1'.out, HV2'.out⟩
  case rest =>
    obtain ⟨H, k3, t3, n3, rfl, hH, hok3, hb, hqa', hqb', ⟨he1, hr1⟩, he2, hr2⟩ := hcut
    clear x0 x1 x2 lx HN7 HU1 HU2 HD7 HQA HQB HB7 HD3 HB3 HK6
    have HHC := Lib.hid hH
    have HBC := Lib.hid hb
    have HOK3 := Lib.hid hok3
    have HE1 := Lib.hid he1
    have HE2 := Lib.hid he2
    have HR1 := Lib.hid hr1
    have HR2 := Lib.hid hr2
    obtain ⟨x0, x1, x2, lx⟩ := three_facts hqa'
    obtain ⟨y0, y1, y2, ly⟩ := three_facts hqb'
    clear hH hb hok3 he1 he2 hr1 hr2 hqa' hqb'
    go_wp2_with fail
    obtain ⟨V, hV⟩ : ∃ V, V = wc.alloc (.cells #[.int .i64 k1, .string (strOf t1), .slice a1 n1.length e1, .int .i64 k2, .string (strOf t2), .slice a2 n2.length e2] 32) := ⟨_, rfl⟩
    obtain ⟨G, hGE⟩ : ∃ G, G = wc.heap.size := ⟨_, rfl⟩
    have hbV : Below wc.heap.size wc V := by rw [hV]; exact belowNew wc _
    have hqV : V.heap[G]? = some (.cells #[.int .i64 k1, .string (strOf t1), .slice a1 n1.length e1, .int .i64 k2, .string (strOf t2), .slice a2 n2.length e2] 32 (0, 0)) := by rw [hV, hGE]; exact heap_alloc_new wc _
    rw [← hV, ← hGE]
    have hG := glies_two (T := 32) hqV HE1.out (HR1.out.below hbV) HE2.out (HR2.out.below hbV)
    have HHX := Lib.hid (HHC.out.below hbV)
    have HBV := Lib.hid (below_next HBC.out hbV)
    clear hV hGE hbV hqV x0 x1 x2 lx y0 y1 y2 ly HE1 HE2 HR1 HR2 HHC HBC
    obtain ⟨LX, hLX⟩ : ∃ LX : List Gn, LX = [(k1, t1, n1), (k2, t2, n2)] := ⟨_, rfl⟩
    have HLL := Lib.hid (show LX.length = 2 by rw [hLX]; rfl)
    have HLS := Lib.hid (show ∀ i : Nat, i < 2 → ∃ con : Bool, ((i : Int) == 1) = con ∧ (i == 1) = con ∧ decide ((i : Int) = 1) = con ∧ decide (i = 1) = con ∧ OkC con (LX.getD i noG).1 (LX.getD i noG).2.1 (LX.getD i noG).2.2 by
      intro i hi
      rw [hLX]
      obtain rfl | rfl : i = 0 ∨ i = 1 := by omega
      · exact ⟨false, rfl, rfl, rfl, rfl, HG1.out⟩
      · exact ⟨true, rfl, rfl, rfl, rfl, HG2.out⟩)
    rw [← hLX] at hG
    have HGX := Lib.hid hG
    clear hLX hG HG2
    go_loopw [37] (fun i wr => ∃ j : Nat, j ≤ 2 ∧ i = .int .i64 (j : Int) ∧ Below V.heap.size V wr) (fun i _ => 2 - (intOf i).toNat)
    case atStart => exact ⟨0, Nat.zero_le _, rfl, Below.refl _ _⟩
    case round =>
      obtain ⟨wz, hwz⟩ : ∃ wz, wz = wr := ⟨_, rfl⟩
      subst hwz
      obtain ⟨j, hj, rfl, hb⟩ := hrel
      have HBJ := Lib.hid hb
      have HWZ := Lib.hid (below_next HBV.out hb)
      clear hb
      by_cases hlt : j < 2
      · have hd : decide ((j : Int) < 2) = true := decide_eq_true (by omega)
        obtain ⟨b, o, hbo, _, e0, e1', a1', x1, e2', hx1, hR1⟩ := (HGX.out.below HBJ.out).at j (by rw [HLL.out]; exact hlt)
        obtain ⟨rfl, rfl⟩ : G = b ∧ 0 = o := by simpa using hbo
        rw [Nat.zero_add] at e0 e1' e2'
        obtain ⟨con, f1, f2, f3, f4, hok⟩ := HLS.out j hlt
        generalize LX.getD j noG = Z at e0 e1' e2' hx1 hR1 hok
        obtain ⟨k, t, n⟩ := Z
        simp only at e0 e1' e2' hx1 hR1 hok
        obtain ⟨m, hm⟩ : ∃ m, m = n.length := ⟨_, rfl⟩
        rw [← hm] at e2' hx1
        obtain ⟨W2, hW2⟩ : ∃ W2, W2 = wz.alloc (.cells #[.int .i64 k, .string (strOf t), .slice a1' m x1] 32) := ⟨_, rfl⟩
        have hb2 : Below wz.heap.size wz W2 := by rw [hW2]; exact belowNew wz _
        have HX2 := Lib.hid (show W2.heap[wz.heap.size]? = some (.cells #[.int .i64 k, .string (strOf t), .slice a1' m x1] 32 (0, 0)) by rw [hW2]; exact heap_alloc_new wz _)
        obtain ⟨g0, g1, g2, lg⟩ := three_facts HX2.out
        have HB2 := Lib.hid hb2
        have HW2 := Lib.hid (below_next HWZ.out hb2)
        have HRL := Lib.hid (fun W (hb : Below W2.heap.size W2 W) => (hR1.below hb2).below hb)
        obtain ⟨hl64, hmn⟩ := okC_len hok
        have hsn := madeN_small hmn
        have P1 := Lib.hid (HEN.out W2 HW2.out a1' x1 m k t n con (hR1.below hb2) hm (by omega) hsn)
        rw [okC_chk hok] at P1
        obtain ⟨rw1, hone⟩ := one_okC hok
        have P2 := Lib.hid hone
        have P3 := Lib.hid (fun W (hb : Below w.heap.size w W) => HDE.out W hb ((tgC k : Nat) : Int) (ctC k t n) rw1 con (ctC_small hok))
        rw [dec_okC hok] at P3
        obtain ⟨hf0, hfs, m2, hpar, hm2s, hmat⟩ := par_okC hok
        have P4 := Lib.hid (fun W (hb : Below w.heap.size w W) (hb2 : Below W2.heap.size W2 W) => HFM.out W hb a1' x1 m k t n (HRL.out W hb2) hm hl64 hsn (made_typesB hmn))
        rw [hf0] at P4
        obtain ⟨ft, hft⟩ : ∃ ft, (fmtG k t n).1 = strOf ft := ⟨_, strOf_of rfl⟩
        rw [hft] at P4 hfs hpar
        rw [strOf_list] at hpar
        rw [strOf_size] at hfs
        have P5 := Lib.hid (fun W (hb : Below w.heap.size w W) => HPA.out W hb ft hfs)
        rw [hpar] at P5
        have hal := okC_alike hok
        have hss := same_okC hok hmat
        have HAL := Lib.hid hal
        have HSS := Lib.hid hss
        have HM := Lib.hid hm
        have HTL := Lib.hid hl64
        have HSN := Lib.hid hsn
        have HM2 := Lib.hid hm2s
        have HX1 := Lib.hid hx1
        generalize encG con k t n = S at P1 P2
        generalize ctC k t n = ct at P2 P3
        generalize ((tgC k : Nat) : Int) = tg at P2 P3
        have HWE := hW2.symm
        have HLT := Lib.hid hlt
        clear hbo hR1 hok hm hb2 hW2 hone hf0 hfs hpar hft hm2s hmat hal hss hl64 hmn hsn hx1
        go_upto_region 7 with fail
        try rw [HWE]
        clear e0 e1' e2' HWE
        go_upto_region 9 with (first
          | (go_at_call 30; (with_reducible refine P1.out.mono ?_); rintro e y1 ⟨rfl, hb1⟩; have HY1 := Lib.hid hb1; have HX3 := Lib.hid ((hb1.block _ lg).trans HX2.out); clear hb1 g0 g1 g2)
          | (go_at_call 12; (with_reducible refine (P2.out _).mono ?_); rintro e y2 ⟨rfl, hb2⟩; have HY2 := Lib.hid (below_next HY1.out hb2); have HX4 := Lib.hid ((hb2.block _ (Array.getElem?_eq_some_iff.1 HX3.out).1).trans HX3.out); clear hb2))
        obtain ⟨Y3, hY3⟩ : ∃ Y3, Y3 = y2.alloc (.cells #[.int .i64 tg, .string ct, .string rw1] 23) := ⟨_, rfl⟩
        obtain ⟨ge, hge⟩ : ∃ ge, ge = y2.heap.size := ⟨_, rfl⟩
        have hb3 : Below y2.heap.size y2 Y3 := by rw [hY3]; exact belowNew y2 _
        obtain ⟨q0, q1, q2, lq⟩ := three_facts (w := Y3) (g := ge) (by rw [hY3, hge]; exact heap_alloc_new y2 _)
        have HY3 := Lib.hid (below_next HY2.out hb3)
        have HX5 := Lib.hid ((hb3.block _ (Array.getElem?_eq_some_iff.1 HX4.out).1).trans HX4.out)
        have HWY3 := Lib.hid (below_next HW2.out HY3.out)
        rw [← hY3, ← hge]
        clear hY3 hge hb3
        go_upto_region 10 with (go_at_call 15; (with_reducible refine (P3.out _ HWY3.out).mono ?_); rintro e y4 ⟨s4, rfl, hso, hb4⟩; obtain ⟨a4, c4, rfl, hc4, hr4⟩ := hso.lies; have HY4 := Lib.hid (below_next HY3.out hb4); have HR4 := Lib.hid hr4; have HC4 := Lib.hid hc4; have HX6 := Lib.hid ((hb4.block _ (Array.getElem?_eq_some_iff.1 HX5.out).1).trans HX5.out); clear hso hb4 hr4 hc4 q0 q1 q2 lq)
        try rw [List.length_map] at HC4
        try rw [List.length_map]
        rw [← HM.out] at HC4 ⊢
        obtain ⟨Y5, hY5⟩ : ∃ Y5, Y5 = y4.alloc (.cells #[.int .i64 k, .string (strOf t), .slice a4 m c4] 32) := ⟨_, rfl⟩
        obtain ⟨gy, hgy⟩ : ∃ gy, gy = y4.heap.size := ⟨_, rfl⟩
        have hb5 : Below y4.heap.size y4 Y5 := by rw [hY5]; exact belowNew y4 _
        have HG5 := Lib.hid (show Y5.heap[gy]? = some (.cells #[.int .i64 k, .string (strOf t), .slice a4 m c4] 32 (0, 0)) by rw [hY5, hgy]; exact heap_alloc_new y4 _)
        have HY5 := Lib.hid (below_next HY4.out hb5)
        have HX7 := Lib.hid ((hb5.block _ (Array.getElem?_eq_some_iff.1 HX6.out).1).trans HX6.out)
        have HR5 := Lib.hid (HR4.out.below hb5)
        have HWY5 := Lib.hid (below_next HW2.out HY5.out)
        rw [← hY5, ← hgy]
        clear hY5 hgy hb5
        obtain ⟨g0, g1, g2, lg5⟩ := three_facts HX7.out
        go_upto_region 11 with (go_at_call 25; (with_reducible refine (P4.out _ HWY5.out HY5.out).mono ?_); rintro e y6 ⟨rfl, hb6⟩; have HY6 := Lib.hid (below_next HY5.out hb6); have HWY6 := Lib.hid (below_next HWY5.out hb6); have HX8 := Lib.hid ((hb6.block _ lg5).trans HX7.out); have HG6 := Lib.hid ((hb6.block _ (Array.getElem?_eq_some_iff.1 HG5.out).1).trans HG5.out); have HR6 := Lib.hid (HR5.out.below hb6); clear hb6 g0 g1 g2)
        go_upto_region 12 with (go_at_call 27; (with_reducible refine (P5.out _ HWY6.out).mono ?_); rintro e y7 ⟨s7, rfl, hso, hb7⟩; obtain ⟨a7, c7, rfl, hc7, hr7⟩ := hso.lies; have HY7 := Lib.hid (below_next HY6.out hb7); have HR7 := Lib.hid hr7; have HX9 := Lib.hid ((hb7.block _ (Array.getElem?_eq_some_iff.1 HX8.out).1).trans HX8.out); have HG7 := Lib.hid ((hb7.block _ (Array.getElem?_eq_some_iff.1 HG6.out).1).trans HG6.out); have HR67 := Lib.hid (HR6.out.below hb7); clear hso hb7 hr7 hc7)
        obtain ⟨Y8, hY8⟩ : ∃ Y8, Y8 = y7.alloc (.cells #[.int .i64 k, .string (strOf t), .slice a7 m2.length c7] 32) := ⟨_, rfl⟩
        obtain ⟨gz, hgz⟩ : ∃ gz, gz = y7.heap.size := ⟨_, rfl⟩
        have hb8 : Below y7.heap.size y7 Y8 := by rw [hY8]; exact belowNew y7 _
        have HZ8 := Lib.hid (show Y8.heap[gz]? = some (.cells #[.int .i64 k, .string (strOf t), .slice a7 m2.length c7] 32 (0, 0)) by rw [hY8, hgz]; exact heap_alloc_new y7 _)
        have HY8 := Lib.hid (below_next HY7.out hb8)
        have HX8' := Lib.hid ((hb8.block _ (Array.getElem?_eq_some_iff.1 HX9.out).1).trans HX9.out)
        have HG8 := Lib.hid ((hb8.block _ (Array.getElem?_eq_some_iff.1 HG7.out).1).trans HG7.out)
        have HR8 := Lib.hid (HR67.out.below hb8)
        have HR78 := Lib.hid (HR7.out.below hb8)
        rw [← hY8, ← hgz]
        clear hY8 hgz hb8
        obtain ⟨g0, g1, g2, lg8⟩ := three_facts HX8'.out
        obtain ⟨h0, h1, h2, lh8⟩ := three_facts HG8.out
        obtain ⟨Y9, hY9⟩ : ∃ Y9, Y9 = Y8.alloc (.cells #[.int .i64 k, .string (strOf t), .slice a1' m x1] 32) := ⟨_, rfl⟩
        obtain ⟨YA, hYA⟩ : ∃ YA, YA = Y9.alloc (.cells #[.int .i64 k, .string (strOf t), .slice a4 m c4] 32) := ⟨_, rfl⟩
        have hb9 : Below Y8.heap.size Y8 Y9 := by rw [hY9]; exact belowNew Y8 _
        have hbA : Below Y9.heap.size Y9 YA := by rw [hYA]; exact belowNew Y9 _
        have hs9 : Y9.heap.size = Y8.heap.size + 1 := by rw [hY9]; simp
        have hq9 : YA.heap[Y8.heap.size]? = some (.cells #[.int .i64 k, .string (strOf t), .slice a1' m x1] 32 (0, 0)) := (hbA.block _ (by omega)).trans (by rw [hY9]; exact heap_alloc_new Y8 _)
        have hqA : YA.heap[Y9.heap.size]? = some (.cells #[.int .i64 k, .string (strOf t), .slice a4 m c4] 32 (0, 0)) := by rw [hYA]; exact heap_alloc_new Y9 _
        have hb8A := below_next hb9 hbA
        have HYA := Lib.hid (below_next HY8.out hb8A)
        have HS6 := Lib.hid (samesG_core (some ⟨Y8.heap.size, 0, none⟩) (some ⟨Y9.heap.size, 0, none⟩) 1 1 1 [(k, t, n)] [(k, t, n.map sortR)] YA (glies_one (n := n) (by rw [← HM.out]; exact hq9) (by rw [← HM.out]; exact HX1.out) (HRL.out _ HYA.out)) (glies_one (n := n.map sortR) (by rw [List.length_map, ← HM.out]; exact hqA) (by rw [List.length_map, ← HM.out]; exact HC4.out) (HR8.out.below hb8A)) rfl rfl (by decide) (fun i hi => by
          obtain rfl : i = 0 := by simp at hi; omega
          exact HAL.out))
        have HXA := Lib.hid ((hb8A.block _ lg8).trans HX8'.out)
        have HZA := Lib.hid ((hb8A.block _ (Array.getElem?_eq_some_iff.1 HZ8.out).1).trans HZ8.out)
        have HS7 := Lib.hid (fun W (hb : Below YA.heap.size YA W) => rsameG_core a1' a7 x1 c7 m m2.length k k t t n m2 W (HRL.out W (below_next HYA.out hb)) ((HR78.out.below hb8A).below hb) HM.out rfl (by have := HTL.out; omega) (by have := HTL.out; omega) HSN.out HM2.out)
        rw [HSS.out] at HS7
        have j0 := (hb9.cell (block_lt h0)).trans h0
        have j1 := (hb9.cell (block_lt h1)).trans h1
        have j2 := (hb9.cell (block_lt h2)).trans h2
        have HWE9 := hY9.symm
        have HWEA := hYA.symm
        clear hb9 hbA hb8A hq9 hqA hY9 hYA hs9 HX2 HX3 HX4 HX5 HX6 HX7 HX8 HX9 HX8' HG5 HG6 HG7 HG8 HZ8 HR4 HR5 HR6 HR67 HR8 HR7 HR78 P1 P2 P3 P4 P5
        go_wp2_with (first
          | (go_at_call 31; (with_reducible refine HS6.out.mono ?_); rintro e yb ⟨rfl, hbB⟩; have HYB := Lib.hid hbB; obtain ⟨u0, u1, u2, _⟩ := three_facts ((hbB.block _ (Array.getElem?_eq_some_iff.1 HXA.out).1).trans HXA.out); obtain ⟨v0, v1, v2, _⟩ := three_facts ((hbB.block _ (Array.getElem?_eq_some_iff.1 HZA.out).1).trans HZA.out); clear hbB)
          | (go_at_call 32; (with_reducible refine (HS7.out _ HYB.out).mono ?_); rintro e yc ⟨rfl, hbC⟩; have HYC := Lib.hid (below_next HYB.out hbC); clear hbC))
        go_roundw
        case rel => exact ⟨j + 1, by have := HLT.out; omega, by go_num, HBJ.out.trans ((below_next HB2.out (below_next HYA.out HYC.out)).mono HBJ.out.size)⟩
        case measure => have := HLT.out; simp [intOf]; omega
      · have ej : j = 2 := by omega
        subst ej
        try rw [show ((2 : Nat) : Int) = 2 from rfl]
        have hd : decide ((2 : Int) < 2) = false := by decide
        obtain ⟨S, hlv, hSs, hdl⟩ := list_okC HG1.out HOK3.out
        have hlen1 := okC_len HG1.out
        have hlen3 := okC_len HOK3.out
        have P1 := Lib.hid (HEL.out wz HWZ.out (some ⟨H, 0, none⟩) 2 2 [(k1, t1, n1), (k3, t3, n3)] (HHX.out.below HBJ.out) rfl (fun i hi => by
          obtain rfl | rfl : i = 0 ∨ i = 1 := by simp at hi; omega
          · exact ⟨hlen1.1, madeN_small hlen1.2⟩
          · exact ⟨hlen3.1, madeN_small hlen3.2⟩))
        rw [hlv] at P1
        have P2 := Lib.hid (fun W (hb : Below w.heap.size w W) => HDL.out W hb S hSs)
        rw [hdl] at P2
        have HA1 := Lib.hid (okC_alike HG1.out)
        have HA3 := Lib.hid (okC_alike HOK3.out)
        have HHZ := Lib.hid (HHX.out.below HBJ.out)
        have HSG := Lib.hid (fun W a2' c2' (hb : Below wz.heap.size wz W) (hg : GLies W a2' [(k1, t1, n1.map sortR), (k3, t3, n3.map sortR)]) => samesG_core (some ⟨H, 0, none⟩) a2' 2 c2' 2 [(k1, t1, n1), (k3, t3, n3)] [(k1, t1, n1.map sortR), (k3, t3, n3.map sortR)] W (HHZ.out.below hb) hg rfl rfl (by decide) (fun i hi => by
          obtain rfl | rfl : i = 0 ∨ i = 1 := by simp at hi; omega
          · exact HA1.out
          · exact HA3.out))
        clear hlv hSs hdl hlen1 hlen3
        go_wp2_with (first
          | (go_at_call 20; (with_reducible refine P1.out.mono ?_); rintro e y1 ⟨rfl, hb1⟩; have HY1 := Lib.hid hb1; have HW1 := Lib.hid (below_next HWZ.out hb1); clear hb1)
          | (go_at_call 22; (with_reducible refine (P2.out _ HW1.out).mono ?_); rintro e y2 ⟨a2', c2', rfl, hg2, hb2⟩; have HY2 := Lib.hid (below_next HY1.out hb2); have HW2 := Lib.hid (below_next HW1.out hb2); have HG2' := Lib.hid hg2; clear hb2 hg2)
          | (go_at_call 7; (with_reducible refine (HAW.out _ HW2.out).mono ?_); rintro e y3 ⟨rfl, hb9⟩; have HW3 := Lib.hid (below_next HW2.out hb9); have HY3 := Lib.hid (below_next HY2.out hb9); have HG3' := Lib.hid (HG2'.out.below hb9); clear hb9)
          | (go_at_call 31; (with_reducible refine (HSG.out _ a2' c2' HY3.out HG3'.out).mono ?_); rintro e y4 ⟨rfl, hb4⟩; have HW4 := Lib.hid (below_next HW3.out hb4); clear hb4))
        go_ret
        exact ⟨rfl, HW4.out⟩
end Go.Proofs.YtflpajbcomhkpaaGreatDoor
