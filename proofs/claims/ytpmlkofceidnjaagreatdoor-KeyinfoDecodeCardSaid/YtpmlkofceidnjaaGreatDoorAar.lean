/-
  The contract of the reference's DecodeKey.
  The walk of the law KeyinfoDecode, over what is wanted of the program.
-/
import Derived.Test.YtpmlkofceidnjaaGreatDoorAaq
import Derived.Test.YtpmlkofceidnjaaGreatDoorAap
import Derived.Test.YtpmlkofceidnjaaGreatDoorAak
namespace Go.Proofs.YtpmlkofceidnjaaGreatDoor
open Go.RowKit

/-- Two keys that nothing was written to lie in block g and in the next. -/
def KZ (w : World) (g : Nat) : Prop := w.heap[g]? = some (.cells #[.int .i64 0, .string ⟨#[]⟩, .string ⟨#[]⟩] 23 (0, 0)) ∧ w.heap[g + 1]? = some (.cells #[.int .i64 0, .string ⟨#[]⟩, .string ⟨#[]⟩] 23 (0, 0))
theorem KZ.new (w : World) : KZ ((w.alloc (.cells #[.int .i64 0, .string ⟨#[]⟩, .string ⟨#[]⟩] 23)).alloc (.cells #[.int .i64 0, .string ⟨#[]⟩, .string ⟨#[]⟩] 23)) w.heap.size := by
  refine ⟨((belowNew _ _).block _ (by simp)).trans (heap_alloc_new w _), ?_⟩
  have := heap_alloc_new (w.alloc (.cells #[.int .i64 0, .string ⟨#[]⟩, .string ⟨#[]⟩] 23)) (.cells #[.int .i64 0, .string ⟨#[]⟩, .string ⟨#[]⟩] 23)
  simpa using this
theorem KZ.below {w w' : World} {g : Nat} (h : KZ w g) (hb : Below w.heap.size w w') : KZ w' g :=
  ⟨(hb.block g (Array.getElem?_eq_some_iff.1 h.1).1).trans h.1, (hb.block (g + 1) (Array.getElem?_eq_some_iff.1 h.2).1).trans h.2⟩
theorem KZ.but {w w' : World} {g q : Nat} (h : KZ w g) (hb : But q w w') (h1 : q ≠ g) (h2 : q ≠ g + 1) : KZ w' g :=
  ⟨(hb.block g (Array.getElem?_eq_some_iff.1 h.1).1 (by simpa using h1.symm)).trans h.1, (hb.block (g + 1) (Array.getElem?_eq_some_iff.1 h.2).1 (by simpa using h2.symm)).trans h.2⟩
theorem KZ.facts {w : World} {g : Nat} (h : KZ w g) : w.cell? ⟨g, 0, none⟩ = some (.int .i64 0) ∧ w.cell? ⟨g, 1, none⟩ = some (.string ⟨#[]⟩) ∧ w.cell? ⟨g, 2, none⟩ = some (.string ⟨#[]⟩) ∧ w.frozen? ⟨g, 0, none⟩ = false ∧ w.frozen? ⟨g, 1, none⟩ = false ∧ w.frozen? ⟨g, 2, none⟩ = false ∧ g < w.heap.size ∧
    w.cell? ⟨g + 1, 0, none⟩ = some (.int .i64 0) ∧ w.cell? ⟨g + 1, 1, none⟩ = some (.string ⟨#[]⟩) ∧ w.cell? ⟨g + 1, 2, none⟩ = some (.string ⟨#[]⟩) ∧ g + 1 < w.heap.size := by
  obtain ⟨a, b, c, d, e, f, l⟩ := el_facts h.1
  obtain ⟨a2, b2, c2, _, _, _, l2⟩ := el_facts h.2
  exact ⟨a, b, c, d, e, f, l, a2, b2, c2, l2⟩
theorem kRes {fn : Func} {p u : Tmp} (h : fn.results = #[.cell p 23, .tmp u]) (tmps : Array Value) (w : World) (g : Nat) (x y z : Value)
    (hp : tmps.getD p undef = .pointer (some ⟨g, 0, none⟩)) (hg : w.heap[g]? = some (.cells #[x, y, z] 23 (0, 0))) :
    (results fn tmps).run Tryz.prog w = .ok (.tuple #[.agg #[x, y, z], tmps.getD u undef]) w :=
  results_cell_row2 h tmps w g 23 #[x, y, z] (0, 0) _ hp hg Tryz.underlying23 rfl (by kernel_rfl)
theorem bitsErr_or (c : ByteArray) : bitsErr c = 0 ∨ bitsErr c = 7 := by
  unfold bitsErr
  split
  · exact .inr rfl
  · exact .inl rfl
theorem keyB_bad {c : ByteArray} (h : bitsErr c ≠ 0) : keyB c = (7, nok) := by unfold keyB; rw [if_pos h]
theorem keyB_len {c : ByteArray} (h : bitsErr c = 0) (k : bitsNum c ≠ 0 ∨ (bitsStr c).size ≠ 33) : keyB c = (18, nok) := by unfold keyB; rw [if_neg (by omega), if_pos k]
theorem keyB_key {c : ByteArray} (h : bitsErr c = 0) (h2 : bitsNum c = 0) (h3 : (bitsStr c).size = 33) : keyB c = if keyEE (keyOf (bitsStr c)) ≠ 0 then (18, nok) else (0, keyOf (bitsStr c)) := by unfold keyB; rw [if_neg (by omega), if_neg (by omega)]

set_option maxRecDepth 100000 in
set_option maxHeartbeats 8000000 in
theorem rdeck_any (b : ByteArray) (w : World) (hb : b.size ≤ 1099511627) :
    Calls Tryz.prog 17 #[.string b] w fun e w' => e = .returned (decKV b) ∧ Below w.heap.size w w' := by
  unfold decKV
  have HONE := Lib.hid (fun W => rone_any b W (Nat.le_trans hb (by omega)))
  obtain ⟨E, K, hEK⟩ : ∃ E K, decK b = (E, K) := ⟨_, _, rfl⟩
  rw [hEK]
  have HRES := Lib.hid (show (E, K) = decK b from hEK.symm)
  clear hEK
  obtain ⟨W0, hW0⟩ : ∃ W0, W0 = (w.alloc (.cells #[.int .i64 0, .string ⟨#[]⟩, .string ⟨#[]⟩] 23)).alloc (.cells #[.int .i64 0, .string ⟨#[]⟩, .string ⟨#[]⟩] 23) := ⟨_, rfl⟩
  have HWE := Lib.hid hW0.symm
  have HB0 : Hid (Below w.heap.size w W0) := Lib.hid (by rw [hW0]; exact belowTwo w _ _)
  have HZ0 : Hid (KZ W0 w.heap.size) := Lib.hid (by rw [hW0]; exact KZ.new w)
  have HS0 : Hid (w.heap.size + 2 ≤ W0.heap.size) := Lib.hid (by rw [hW0]; simp)
  clear hW0
  unfold decK at HRES
  by_cases h1 : oneErr b = 0
  case neg =>
    obtain ⟨rfl, rfl⟩ : E = oneErr b ∧ K = nok := by have := HRES.out; rw [if_pos h1] at this; exact Prod.mk.inj this
    have hv : oneVal b = .tuple #[.agg #[.int .i64 0, .string ⟨#[]⟩, .string ⟨#[]⟩], .int .i64 ((oneErr b : Nat) : Int)] := by unfold oneVal; rw [if_neg h1]; rfl
    rw [hv] at HONE
    have hz1 := errno_ne h1
    generalize oneErr b = er at HONE hz1
    clear hv h1 HRES
    go_enter Tryz.func17, Tryz.ntmps17
    go_wp2_with fail
    rw [HWE.out]
    refine (HONE.out W0).mono ?_
    rintro e w1 ⟨rfl, hb1⟩
    have HBV := Lib.hid (below_next (below_next HB0.out hb1) (belowNew w1 (.cells #[.int .i64 0, .string ⟨#[]⟩, .string ⟨#[]⟩] 42)))
    have HZV := Lib.hid ((HZ0.out.below hb1).below (belowNew w1 (.cells #[.int .i64 0, .string ⟨#[]⟩, .string ⟨#[]⟩] 42)))
    clear hb1
    obtain ⟨s0, s1, s2, f0, f1, f2, sl, z0, z1, z2, zl⟩ := HZV.out.facts
    go_wp2_with fail
    exact bodyPost_ret (kRes rfl _ _ _ _ _ _ rfl (el_set HZV.out.1)) rfl ⟨rfl, el_below HBV.out (Nat.le_refl _)⟩
  obtain ⟨t, ht⟩ : ∃ t, t = rdTag b := ⟨_, rfl⟩
  obtain ⟨c, hc⟩ : ∃ c, c = rdContent b := ⟨_, rfl⟩
  obtain ⟨rw0, hr⟩ : ∃ r, r = rdRaw b := ⟨_, rfl⟩
  have hcz : c.size ≤ 1099511627 := by rw [hc]; have := rdContent_size (oneErr_rd h1); omega
  have hv : oneVal b = .tuple #[.agg #[.int .i64 (t : Int), .string c, .string rw0], .int .i64 0] := by unfold oneVal elV; rw [if_pos h1, ht, hc, hr]
  rw [hv] at HONE
  have HR1 := Lib.hid (show (E, K) = if t ≠ 48 then (5, nok) else if (lst c).2 ≠ 0 then ((lst c).2, nok) else keyL (lst c).1 by rw [ht, hc]; have := HRES.out; rwa [if_neg (by omega)] at this)
  clear hv ht hc hr h1 HRES hb
  go_enter Tryz.func17, Tryz.ntmps17
  go_wp2_with fail
  rw [HWE.out]
  refine (HONE.out W0).mono ?_
  rintro e w1 ⟨rfl, hb1⟩
  obtain ⟨ge, hge⟩ : ∃ ge, ge = w1.heap.size := ⟨_, rfl⟩
  obtain ⟨V1, hV1⟩ : ∃ V1, V1 = w1.alloc (.cells #[.int .i64 (t : Int), .string c, .string rw0] 42) := ⟨_, rfl⟩
  have hbV : Below w1.heap.size w1 V1 := by rw [hV1]; exact belowNew w1 _
  have hqe : V1.heap[ge]? = some (.cells #[.int .i64 (t : Int), .string c, .string rw0] 42 (0, 0)) := by rw [hV1, hge]; exact heap_alloc_new w1 _
  have HB1 := Lib.hid (below_next (below_next HB0.out hb1) hbV)
  have HZ1 := Lib.hid ((HZ0.out.below hb1).below hbV)
  have HS1 : Hid (w.heap.size + 2 ≤ V1.heap.size) := Lib.hid (by have := HS0.out; have := hb1.size; have := hbV.size; omega)
  have HV1 := Lib.hid hV1.symm
  have HGE := Lib.hid hge
  obtain ⟨e0, e1, e2, _, _, _, el⟩ := el_facts hqe
  clear hb1 hbV hqe hV1 hge
  go_upto_region 3 with fail
  rw [HV1.out, ← HGE.out]
  by_cases h48 : t = 48
  case neg =>
    obtain ⟨rfl, rfl⟩ : E = 5 ∧ K = nok := by have := HR1.out; rw [if_pos h48] at this; exact Prod.mk.inj this
    have HOP := Lib.hid (ropen_no (t : Int) (by omega) c rw0 V1)
    clear h48
    go_wp2_with fail
    refine HOP.out.mono ?_
    rintro e w2 ⟨rfl, hb2⟩
    have HBV := Lib.hid (below_next (below_next HB1.out hb2) (belowNew w2 (.cells #[.slice none 0 0, .int .i64 0] 65)))
    have HZV := Lib.hid ((HZ1.out.below hb2).below (belowNew w2 (.cells #[.slice none 0 0, .int .i64 0] 65)))
    clear hb2 e0 e1 e2 el
    obtain ⟨s0, s1, s2, f0, f1, f2, sl, z0, z1, z2, zl⟩ := HZV.out.facts
    go_wp2_with fail
    exact bodyPost_ret (kRes rfl _ _ _ _ _ _ rfl (el_set HZV.out.1)) rfl ⟨rfl, el_below HBV.out (Nat.le_refl _)⟩
  subst h48
  have HR2 := Lib.hid (show (E, K) = if (lst c).2 ≠ 0 then ((lst c).2, nok) else keyL (lst c).1 by have := HR1.out; rwa [if_neg (by simp)] at this)
  have HOP := Lib.hid (ropen_seq c rw0 V1 (Nat.le_trans hcz (by omega)))
  have HMEM := Lib.hid (fun z (hz : z ∈ (lst c).1) => Nat.le_trans (lst_mem _ c (Nat.le_refl _) z hz) hcz)
  have hlen := Nat.le_trans (lst_length c _ (Nat.le_refl _)) hcz
  clear HR1
  generalize lst c = LE at HOP HR2 HMEM hlen
  obtain ⟨l, er⟩ := LE
  simp only at HOP HR2 HMEM hlen
  clear hcz
  go_wp2_with fail
  refine HOP.out.mono ?_
  rintro e w2 ⟨⟨v1, rfl, ho1⟩, hb2⟩
  obtain ⟨a, cp, rfl, hlc, hel, hbk⟩ := ElAt.of ho1
  obtain ⟨n, hn⟩ : ∃ n, n = l.length := ⟨_, rfl⟩
  rw [← hn] at hlc hlen ⊢
  have HN := Lib.hid hn
  obtain ⟨gl, hgl⟩ : ∃ gl, gl = w2.heap.size := ⟨_, rfl⟩
  obtain ⟨V2, hV2⟩ : ∃ V2, V2 = w2.alloc (.cells #[.slice a n cp, .int .i64 0] 65) := ⟨_, rfl⟩
  have hbV : Below w2.heap.size w2 V2 := by rw [hV2]; exact belowNew w2 _
  have HQG : Hid (V2.heap[gl]? = some (.cells #[.slice a n cp, .int .i64 ((0 : Nat) : Int)] 65 (0, 0))) := Lib.hid (by rw [hV2, hgl]; exact heap_alloc_new w2 _)
  have HB2 := Lib.hid (below_next (below_next HB1.out hb2) hbV)
  have HZ2 := Lib.hid ((HZ1.out.below hb2).below hbV)
  have HELV := Lib.hid (hel.below hbV)
  have HBK := Lib.hid hbk
  have HGL := Lib.hid hgl
  have HWG := Lib.hid (show w.heap.size + 2 ≤ gl by rw [hgl]; have := HS1.out; have := hb2.size; omega)
  have HV2 := Lib.hid hV2.symm
  clear ho1 hb2 hel hbk hn hV2 hgl hbV e0 e1 e2 el
  go_upto_region 6 with fail
  rw [HV2.out, ← HGL.out]
  by_cases hz : er = 0
  case neg =>
    obtain ⟨rfl, rfl⟩ : E = er ∧ K = nok := by have := HR2.out; rw [if_pos hz] at this; exact Prod.mk.inj this
    have hz1 := errno_ne hz
    clear hz
    obtain ⟨s0, s1, s2, f0, f1, f2, sl, z0, z1, z2, zl⟩ := HZ2.out.facts
    go_wp2_with fail
    exact bodyPost_ret (kRes rfl _ _ _ _ _ _ rfl (el_set HZ2.out.1)) rfl ⟨rfl, el_below HB2.out (Nat.le_refl _)⟩
  subst hz
  have HRE := Lib.hid (show (E, K) = keyL l by have := HR2.out; rwa [if_neg (by simp)] at this)
  clear HR2
  go_wp2_with fail
  have hglt : gl < V2.heap.size := (Array.getElem?_eq_some_iff.1 HQG.out).1
  cases l with
  | nil =>
    obtain ⟨rfl, rfl⟩ : E = 3 ∧ K = nok := Prod.mk.inj HRE.out
    obtain rfl : n = 0 := HN.out
    refine (rneed_trunc gl 0 cp 0 a (-1) V2 HQG.out (Nat.le_refl _)).mono ?_
    rintro e w3 ⟨rfl, hb3⟩
    have HBV := Lib.hid (below_next (below_next HB2.out hb3) (belowNew w3 (.cells #[.int .i64 0, .string ⟨#[]⟩, .string ⟨#[]⟩] 42)))
    have HZV := Lib.hid ((HZ2.out.below hb3).below (belowNew w3 (.cells #[.int .i64 0, .string ⟨#[]⟩, .string ⟨#[]⟩] 42)))
    clear hb3
    unfold noEl
    obtain ⟨s0, s1, s2, f0, f1, f2, sl, z0, z1, z2, zl⟩ := HZV.out.facts
    go_wp2_with fail
    exact bodyPost_ret (kRes rfl _ _ _ _ _ _ rfl (el_set HZV.out.1)) rfl ⟨rfl, el_below HBV.out (Nat.le_refl _)⟩
  | cons x r =>
    obtain ⟨bb, o, rfl, hcl⟩ := HELV.out.resolve_left (by simp)
    have hb3 := HBK.out _ rfl (by simp)
    rw [← HGL.out] at hb3
    have hbg : bb ≠ gl := by have := hb3.2; simp at this; omega
    have hn1 : 1 ≤ n := by have := HN.out; simp at this; omega
    obtain ⟨x0, x1, x2⟩ := hcl 0 (by simp)
    rw [show (x :: r).getD 0 ((0 : Nat), (⟨#[]⟩ : ByteArray), (⟨#[]⟩ : ByteArray)) = x from rfl] at x0 x1 x2
    have HXM := Lib.hid (HMEM.out x (by simp))
    have HCL := Lib.hid hcl
    clear hcl hb3
    refine (rneed_ok gl bb o n cp 0 (-1) x V2 HQG.out (by omega) x0 x1 x2 (.inl rfl) (by omega)).mono ?_
    rintro e w3 ⟨rfl, hg3, hb3⟩
    have hg3 : w3.heap[gl]? = some (.cells #[.slice (some ⟨bb, o, none⟩) n cp, .int .i64 ((1 : Nat) : Int)] 65 (0, 0)) := hg3
    obtain ⟨xt, xc, xr⟩ := x
    unfold elV
    simp only at HXM ⊢
    obtain ⟨ga, hga⟩ : ∃ ga, ga = w3.heap.size := ⟨_, rfl⟩
    obtain ⟨V3, hV3⟩ : ∃ V3, V3 = w3.alloc (.cells #[.int .i64 (xt : Int), .string xc, .string xr] 42) := ⟨_, rfl⟩
    have hbV : Below w3.heap.size w3 V3 := by rw [hV3]; exact belowNew w3 _
    have hqa : V3.heap[ga]? = some (.cells #[.int .i64 (xt : Int), .string xc, .string xr] 42 (0, 0)) := by rw [hV3, hga]; exact heap_alloc_new w3 _
    have HU3 := Lib.hid (show But gl V2 V3 from hb3.next (But.of hbV))
    have HG3 := Lib.hid ((hbV.block gl (Array.getElem?_eq_some_iff.1 hg3).1).trans hg3)
    have HZ3 := Lib.hid (HZ2.out.but HU3.out (by have := HWG.out; omega) (by have := HWG.out; omega))
    have HB3 := Lib.hid (show Below w.heap.size w V3 from HB2.out.trans ((HU3.out.below (by omega)).mono (by have := HWG.out; omega)))
    have HV3 := Lib.hid hV3.symm
    have HGA := Lib.hid hga
    obtain ⟨y0, y1, y2, _, _, _, yl⟩ := el_facts hqa
    clear hb3 hbV hg3 hqa hV3 hga x0 x1 x2
    have HCH := Lib.hid (rchka_any (xt : Int) xc xr V3 HXM.out)
    obtain ⟨ck, hck⟩ : ∃ ck, ck = chkAlg (xt : Int) xc := ⟨_, rfl⟩
    rw [← hck] at HCH
    have HCK := Lib.hid hck
    clear hck
    go_upto_region 9 with fail
    rw [HV3.out, ← HGA.out]
    go_wp2_with fail
    refine HCH.out.mono ?_
    rintro e w4 ⟨rfl, hb4⟩
    have HB4 := Lib.hid (below_next HB3.out hb4)
    have HZ4 := Lib.hid (HZ3.out.below hb4)
    have HG4 := Lib.hid ((hb4.block gl (Array.getElem?_eq_some_iff.1 HG3.out).1).trans HG3.out)
    have HU4 := Lib.hid (HU3.out.next (But.of hb4))
    clear hb4 y0 y1 y2 yl
    by_cases hz : ck = 0
    case neg =>
      have hc0 : chkAlg (xt : Int) xc ≠ 0 := by rw [← HCK.out]; exact hz
      obtain ⟨rfl, rfl⟩ : E = ck ∧ K = nok := by
        rw [HCK.out]
        have h9 := HRE.out
        cases r with
        | nil => rw [keyL_one, if_pos hc0] at h9; exact Prod.mk.inj h9
        | cons y q => rw [keyL_two, if_pos hc0] at h9; exact Prod.mk.inj h9
      have hz1 := errno_ne hz
      clear hz hc0
      obtain ⟨s0, s1, s2, f0, f1, f2, sl, z0, z1, z2, zl⟩ := HZ4.out.facts
      go_wp2_with fail
      exact bodyPost_ret (kRes rfl _ _ _ _ _ _ rfl (el_set HZ4.out.1)) rfl ⟨rfl, el_below HB4.out (Nat.le_refl _)⟩
    have hc0 : chkAlg (xt : Int) xc = 0 := by rw [← HCK.out]; exact hz
    subst hz
    go_wp2_with fail
    cases r with
    | nil =>
      obtain ⟨rfl, rfl⟩ : E = 3 ∧ K = nok := by have h9 := HRE.out; rw [keyL_one, if_neg (fun h => h hc0)] at h9; exact Prod.mk.inj h9
      obtain rfl : n = 1 := HN.out
      clear hc0
      refine (rneed_trunc gl 1 cp 1 _ 3 w4 HG4.out (Nat.le_refl _)).mono ?_
      rintro e w5 ⟨rfl, hb5⟩
      have HBV := Lib.hid (below_next (below_next HB4.out hb5) (belowNew w5 (.cells #[.int .i64 0, .string ⟨#[]⟩, .string ⟨#[]⟩] 42)))
      have HZV := Lib.hid ((HZ4.out.below hb5).below (belowNew w5 (.cells #[.int .i64 0, .string ⟨#[]⟩, .string ⟨#[]⟩] 42)))
      clear hb5
      unfold noEl
      obtain ⟨s0, s1, s2, f0, f1, f2, sl, z0, z1, z2, zl⟩ := HZV.out.facts
      go_wp2_with fail
      exact bodyPost_ret (kRes rfl _ _ _ _ _ _ rfl (el_set HZV.out.1)) rfl ⟨rfl, el_below HBV.out (Nat.le_refl _)⟩
    | cons y q =>
      have hn2 : 2 ≤ n := by have := HN.out; simp at this; omega
      have HR3 := Lib.hid (show (E, K) = if y.1 ≠ 3 then (5, nok) else if (keyB y.2.1).1 ≠ 0 then ((keyB y.2.1).1, nok) else if q ≠ [] then (4, nok) else (0, (keyB y.2.1).2) by have h9 := HRE.out; rwa [keyL_two, if_neg (fun h => h hc0)] at h9)
      have HYM := Lib.hid (HMEM.out y (by simp))
      clear HRE hc0
      obtain ⟨x0, x1, x2⟩ := HCL.out 1 (by simp)
      rw [show ((xt, xc, xr) :: y :: q).getD 1 ((0 : Nat), (⟨#[]⟩ : ByteArray), (⟨#[]⟩ : ByteArray)) = y from rfl] at x0 x1 x2
      have hbk := HU4.out.block bb (block_lt x0) (by simpa using hbg)
      have x0 := (cell_same hbk _).trans x0
      have x1 := (cell_same hbk _).trans x1
      have x2 := (cell_same hbk _).trans x2
      clear hbk
      by_cases hy3 : y.1 = 3
      case neg =>
        obtain ⟨rfl, rfl⟩ : E = 5 ∧ K = nok := by have h9 := HR3.out; rw [if_pos hy3] at h9; exact Prod.mk.inj h9
        refine (rneed_tag gl bb o n cp 1 3 y w4 HG4.out (by omega) x0 x1 x2 hy3).mono ?_
        rintro e w5 ⟨rfl, hb5⟩
        have HBV := Lib.hid (below_next (below_next HB4.out hb5) (belowNew w5 (.cells #[.int .i64 0, .string ⟨#[]⟩, .string ⟨#[]⟩] 42)))
        have HZV := Lib.hid ((HZ4.out.below hb5).below (belowNew w5 (.cells #[.int .i64 0, .string ⟨#[]⟩, .string ⟨#[]⟩] 42)))
        clear hb5 x0 x1 x2 hy3
        unfold noEl
        obtain ⟨s0, s1, s2, f0, f1, f2, sl, z0, z1, z2, zl⟩ := HZV.out.facts
        go_wp2_with fail
        exact bodyPost_ret (kRes rfl _ _ _ _ _ _ rfl (el_set HZV.out.1)) rfl ⟨rfl, el_below HBV.out (Nat.le_refl _)⟩
      have HR4 := Lib.hid (show (E, K) = if (keyB y.2.1).1 ≠ 0 then ((keyB y.2.1).1, nok) else if q ≠ [] then (4, nok) else (0, (keyB y.2.1).2) by have h9 := HR3.out; rwa [if_neg (by omega)] at h9)
      clear HR3
      refine (rneed_ok gl bb o n cp 1 3 y w4 HG4.out (by omega) x0 x1 x2 (.inr ⟨by omega, by rw [hy3]; rfl⟩) (by omega)).mono ?_
      rintro e w5 ⟨rfl, hg5, hb5⟩
      have hg5 : w5.heap[gl]? = some (.cells #[.slice (some ⟨bb, o, none⟩) n cp, .int .i64 ((2 : Nat) : Int)] 65 (0, 0)) := hg5
      obtain ⟨yt, yc, yr⟩ := y
      unfold elV
      simp only at HYM HR4 ⊢
      obtain ⟨gx, hgx⟩ : ∃ gx, gx = w5.heap.size := ⟨_, rfl⟩
      obtain ⟨V5, hV5⟩ : ∃ V5, V5 = w5.alloc (.cells #[.int .i64 (yt : Int), .string yc, .string yr] 42) := ⟨_, rfl⟩
      have hbV : Below w5.heap.size w5 V5 := by rw [hV5]; exact belowNew w5 _
      have hqx : V5.heap[gx]? = some (.cells #[.int .i64 (yt : Int), .string yc, .string yr] 42 (0, 0)) := by rw [hV5, hgx]; exact heap_alloc_new w5 _
      have hU5 : But gl w4 V5 := hb5.next (But.of hbV)
      have HG5 := Lib.hid ((hbV.block gl (Array.getElem?_eq_some_iff.1 hg5).1).trans hg5)
      have HZ5 := Lib.hid (HZ4.out.but hU5 (by have := HWG.out; omega) (by have := HWG.out; omega))
      have HB5 := Lib.hid (show Below w.heap.size w V5 from HB4.out.trans ((hU5.below (Nat.le_of_lt (Array.getElem?_eq_some_iff.1 HG4.out).1)).mono (by have := HWG.out; omega)))
      have HV5 := Lib.hid hV5.symm
      have HGX := Lib.hid hgx
      obtain ⟨y0, y1, y2, _, _, _, yl⟩ := el_facts hqx
      clear hb5 hbV hg5 hqx hV5 hgx x0 x1 x2 hy3 hU5
      have HBT := Lib.hid (rbits_any yc V5 (Nat.le_trans HYM.out (by omega)))
      unfold bitsVal at HBT
      go_upto_region 15 with fail
      rw [HV5.out, ← HGX.out]
      go_wp2_with fail
      refine HBT.out.mono ?_
      rintro e w6 ⟨rfl, hb6⟩
      have HB6 := Lib.hid (below_next HB5.out hb6)
      have HZ6 := Lib.hid (HZ5.out.below hb6)
      have HG6 := Lib.hid ((hb6.block gl (Array.getElem?_eq_some_iff.1 HG5.out).1).trans HG5.out)
      clear hb6 y0 y1 y2 yl HBT
      have hkb := fun (h : bitsErr yc ≠ 0) => keyB_bad h
      have hkl := fun (h : bitsErr yc = 0) k => keyB_len h k
      have hkk := fun (h : bitsErr yc = 0) h2 h3 => keyB_key h h2 h3
      have hbo := bitsErr_or yc
      generalize bitsErr yc = be0 at hkb hkl hkk hbo ⊢
      generalize bitsNum yc = bn at hkl hkk ⊢
      generalize bitsStr yc = s at hkl hkk ⊢
      generalize keyB yc = kb at hkb hkl hkk HR4
      have HKB := Lib.hid hkb
      have HKL := Lib.hid hkl
      have HKK := Lib.hid hkk
      clear hkb hkl hkk
      by_cases hz : be0 = 0
      case neg =>
        obtain ⟨rfl, rfl⟩ : E = 7 ∧ K = nok := by have h9 := HR4.out; rw [HKB.out hz, if_pos (by simp)] at h9; exact Prod.mk.inj h9
        obtain rfl : be0 = 7 := by omega
        clear hz hbo
        obtain ⟨s0, s1, s2, f0, f1, f2, sl, z0, z1, z2, zl⟩ := HZ6.out.facts
        go_wp2_with fail
        exact bodyPost_ret (kRes rfl _ _ _ _ _ _ rfl (el_set HZ6.out.1)) rfl ⟨rfl, el_below HB6.out (Nat.le_refl _)⟩
      subst hz
      have HKL2 := Lib.hid (fun k => HKL.out rfl k)
      have HKK2 := Lib.hid (fun h2 h3 => HKK.out rfl h2 h3)
      clear HKB HKL HKK hbo
      by_cases hl : bn ≠ 0 ∨ s.size ≠ 33
      case pos =>
        obtain ⟨rfl, rfl⟩ : E = 18 ∧ K = nok := by have h9 := HR4.out; rw [HKL2.out hl, if_pos (by simp)] at h9; exact Prod.mk.inj h9
        by_cases hb0 : bn = 0
        · subst hb0
          obtain ⟨m, hm⟩ : ∃ m, m = s.size := ⟨_, rfl⟩
          have hmi : (s.size : Int) = (m : Int) := by rw [hm]
          have d1 : ((m : Int) == 33) = false := by simp; omega
          have d2 : ((m : Int) != 33) = true := by simp; omega
          have d3 : ¬ (m : Int) = 33 := by omega
          clear hl hm
          obtain ⟨s0, s1, s2, f0, f1, f2, sl, z0, z1, z2, zl⟩ := HZ6.out.facts
          go_wp2_with fail
          exact bodyPost_ret (kRes rfl _ _ _ _ _ _ rfl (el_set HZ6.out.1)) rfl ⟨rfl, el_below HB6.out (Nat.le_refl _)⟩
        · have d1 := errno_ne hb0
          clear hl hb0
          obtain ⟨s0, s1, s2, f0, f1, f2, sl, z0, z1, z2, zl⟩ := HZ6.out.facts
          go_wp2_with fail
          exact bodyPost_ret (kRes rfl _ _ _ _ _ _ rfl (el_set HZ6.out.1)) rfl ⟨rfl, el_below HB6.out (Nat.le_refl _)⟩
      have hs33 : s.size = 33 := by omega
      have hsi : (s.size : Int) = 33 := by omega
      obtain rfl : bn = 0 := by omega
      have hR5 := HKK2.out rfl hs33
      clear hl HKL2 HKK2
      have hi0 : ∀ w, (Instr.index 9 (.string s) (.int .i64 0)).run Tryz.prog w = .ok (.int .u8 ((u8at s 0 : Nat) : Int)) w := fun w => run_index_u8 Tryz.underlying9 s 0 (by omega) 0 rfl w
      have hu8 := u8at_lt s 0
      have hkof : keyOf s = ((u8at s 0 : Int), s.extract 1 17, s.extract 17 33) := rfl
      generalize keyOf s = kk at hR5 hkof
      generalize u8at s 0 = u at hi0 hu8 hkof
      obtain ⟨i1, hi1⟩ : ∃ i1, i1 = s.extract 1 17 := ⟨_, rfl⟩
      obtain ⟨i2, hi2⟩ : ∃ i2, i2 = s.extract 17 33 := ⟨_, rfl⟩
      have hx1 : s.extract 1 17 = i1 := hi1.symm
      have hx2 : s.extract 17 33 = i2 := hi2.symm
      have hx3 : s.extract 17 s.size = i2 := by rw [hs33]; exact hx2
      rw [hx1, hx2] at hkof
      subst hkof
      have HR5 := Lib.hid hR5
      have huw : IntKind.i64.wrap (u : Int) = (u : Int) := by rw [wrap_i64]; omega
      have HCK2 := Lib.hid (fun W => rck_any ((u : Int), i1, i2) W)
      unfold keyVV keyV at HCK2
      simp only at HCK2
      clear hi1 hi2 hR5 hs33
      go_wp2_with fail
      go_region
      go_wp2_with fail
      refine (HCK2.out _).mono ?_
      rintro e w7 ⟨rfl, hb7⟩
      obtain ⟨X6, hX6⟩ : ∃ X6, X6 = (w6.alloc (.cells #[.int .i64 (u : Int), .string i1, .string i2] 23)).drew := ⟨_, rfl⟩
      have hbX : Below w6.heap.size w6 X6 := by rw [hX6]; exact (belowNew w6 _).drew
      have hqX : X6.heap[w6.heap.size]? = some (.cells #[.int .i64 (u : Int), .string i1, .string i2] 23 (0, 0)) := by rw [hX6]; exact heap_alloc_new w6 _
      have hb7 : Below X6.heap.size X6 w7 := by rw [hX6]; exact hb7
      have HB7 := Lib.hid (below_next (below_next HB6.out hbX) hb7)
      have HZ7 := Lib.hid ((HZ6.out.below hbX).below hb7)
      have hg7 := (hb7.block gl (Nat.lt_of_lt_of_le (Array.getElem?_eq_some_iff.1 HG6.out).1 hbX.size)).trans ((hbX.block gl (Array.getElem?_eq_some_iff.1 HG6.out).1).trans HG6.out)
      have HQ7 := Lib.hid ((hb7.block w6.heap.size (Array.getElem?_eq_some_iff.1 hqX).1).trans hqX)
      have HEN := Lib.hid (rend_any gl n cp 2 _ w7 hg7)
      clear hX6 hbX hqX hb7 hg7 hi0 hx1 hx2 hx3
      rcases keyEE_or ((u : Int), i1, i2) with hz | hz
      case inr =>
        obtain ⟨rfl, rfl⟩ : E = 18 ∧ K = nok := by have h9 := HR4.out; rw [show kb = (18, nok) by rw [HR5.out]; exact if_pos (by rw [hz]; decide), if_pos (by simp)] at h9; exact Prod.mk.inj h9
        rw [hz]
        clear hz
        obtain ⟨s0, s1, s2, f0, f1, f2, sl, z0, z1, z2, zl⟩ := HZ7.out.facts
        go_wp2_with fail
        exact bodyPost_ret (kRes rfl _ _ _ _ _ _ rfl (el_set HZ7.out.1)) rfl ⟨rfl, el_below HB7.out (Nat.le_refl _)⟩
      have HR6 := Lib.hid (show (E, K) = if q ≠ [] then (4, nok) else (0, ((u : Int), i1, i2)) by have h9 := HR4.out; rw [show kb = (0, ((u : Int), i1, i2)) by rw [HR5.out]; exact if_neg (by rw [hz]; decide), if_neg (by simp)] at h9; exact h9)
      rw [hz]
      clear hz
      cases q with
      | nil =>
        obtain ⟨rfl, rfl⟩ : E = 0 ∧ K = ((u : Int), i1, i2) := by have h9 := HR6.out; rw [if_neg (by simp)] at h9; exact Prod.mk.inj h9
        obtain rfl : n = 2 := HN.out
        rw [if_neg (by omega)] at HEN
        go_wp2_with (go_at_call 42; (with_reducible refine HEN.out.mono ?_); rintro e w8 ⟨rfl, hb8⟩; have HB8 := Lib.hid (below_next HB7.out hb8); have hz8 := HZ7.out.below hb8; have HZ8 := Lib.hid hz8; obtain ⟨s0, s1, s2, f0, f1, f2, sl, z0, z1, z2, zl⟩ := hz8.facts; obtain ⟨k0, k1, k2, _, _, _, kl⟩ := el_facts ((hb8.block w6.heap.size (Array.getElem?_eq_some_iff.1 HQ7.out).1).trans HQ7.out); clear hb8 hz8)
        exact bodyPost_ret (kRes rfl _ _ _ _ _ _ rfl (el_set HZ8.out.1)) rfl ⟨rfl, el_below HB8.out (Nat.le_refl _)⟩
      | cons z q2 =>
        obtain ⟨rfl, rfl⟩ : E = 4 ∧ K = nok := by have h9 := HR6.out; rw [if_pos (by simp)] at h9; exact Prod.mk.inj h9
        have hn3 : 2 < n := by have := HN.out; simp at this; omega
        rw [if_pos hn3] at HEN
        go_wp2_with (go_at_call 42; (with_reducible refine HEN.out.mono ?_); rintro e w8 ⟨rfl, hb8⟩; have HB8 := Lib.hid (below_next HB7.out hb8); have hz8 := HZ7.out.below hb8; have HZ8 := Lib.hid hz8; obtain ⟨s0, s1, s2, f0, f1, f2, sl, z0, z1, z2, zl⟩ := hz8.facts; clear hb8 hz8)
        exact bodyPost_ret (kRes rfl _ _ _ _ _ _ rfl (el_set HZ8.out.1)) rfl ⟨rfl, el_below HB8.out (Nat.le_refl _)⟩
end Go.Proofs.YtpmlkofceidnjaaGreatDoor
namespace Go.Proofs.YtpmlkofceidnjaaGreatDoor
open Go.RowKit

theorem but_basek {w w' : World} {q B : Nat} (hb : But q w w') (hB : B ≤ q) (hBw : B ≤ w.heap.size) : Below B w w' :=
  ⟨hb.os, hb.tape, hb.output, hb.size, fun k hk => hb.block k (Nat.lt_of_lt_of_le hk hBw) (by simp; omega)⟩
theorem five_row {W : World} {g : Nat} {a b c d e : Value} {t : TypeId} (h : W.heap[g]? = some (.cells #[a, b, c, d, e] t (0, 0))) (j : Nat) (hj : j < 5) : W.cell? ⟨g, j, none⟩ = some ([a, b, c, d, e].getD j undef) := by
  rw [Lib.cell_of_heap h]
  obtain rfl | rfl | rfl | rfl | rfl : j = 0 ∨ j = 1 ∨ j = 2 ∨ j = 3 ∨ j = 4 := by omega
  all_goals rfl
theorem decKV_form (b : ByteArray) : ∃ (E : Nat) (h : Int) (id root : ByteArray), decKV b = .tuple #[.agg #[.int .i64 h, .string id, .string root], .int .i64 (E : Int)] := ⟨_, _, _, _, rfl⟩
set_option maxRecDepth 100000 in
set_option maxHeartbeats 1000000 in
theorem kdec_out (hA : AlgPk) (hE : EncPk) (hD : DecPk) (b : ByteArray) (a : Option Addr) (cap n : Nat) (hbig : 300 < b.size) (w : World) (hP : Pow10 w) :
    Calls Tryz.prog 4 #[.string b, .slice a n cap] w fun e w' => e = .returned (.bool true) ∧ Below w.heap.size w w' := by
  have HAW := Lib.hid (awakek_any hA hE hD w hP)
  have d1 : decide ((300 : Int) < (b.size : Int)) = true := by simp; omega
  clear hA hE hD hP hbig
  go_enter Tryz.func4, Tryz.ntmps4
  go_wp2_with (go_at_call 6; (with_reducible refine HAW.out.mono ?_); rintro e w1 ⟨rfl, hb1⟩; have HB1 := Lib.hid hb1; clear hb1)
  go_ret
  exact ⟨rfl, HB1.out⟩
set_option maxRecDepth 100000 in
set_option maxHeartbeats 4000000 in
theorem kdec_in (hA : AlgPk) (hE : EncPk) (hD : DecPk) (b : ByteArray) (a : Option Addr) (cap : Nat) (zs : List Int) (hb : b.size ≤ 300) (w : World) (hP : Pow10 w) (hli : ILies w a zs) (hz : zs.length ≤ 9223372036854775807) :
    Calls Tryz.prog 4 #[.string b, .slice a zs.length cap] w fun e w' => e = .returned (.bool true) ∧ Below w.heap.size w w' := by
  have d1 : decide ((300 : Int) < (b.size : Int)) = false := by simp; omega
  have HAW := Lib.hid (fun W hp => awakek_any hA hE hD W hp)
  obtain ⟨z, hzz⟩ : ∃ z, z = zs.length := ⟨_, rfl⟩
  have HND : Hid (∀ W : World, ILies W a zs → Calls Tryz.prog 7 #[.slice a z cap] W fun e w' => e = .returned (.pointer (some ⟨W.heap.size, 0, none⟩)) ∧ DeckAt w' W.heap.size a cap zs 0 ∧ Below W.heap.size W w') := Lib.hid fun W hl => by rw [hzz]; exact new_any a cap zs W hl hz
  have HDE := Lib.hid hD
  have HP := Lib.hid hP
  have HLI := Lib.hid hli
  have HBS := Lib.hid hb
  rw [← hzz]
  clear hzz hz hP hli hA hE hD hb
  go_enter Tryz.func4, Tryz.ntmps4
  go_wp2_with (first
    | (go_at_call 7
       (with_reducible refine (HND.out _ HLI.out).mono ?_)
       rintro e w1 ⟨rfl, hd1, hb1⟩
       have HB1 := Lib.hid hb1
       have HD1 := Lib.hid hd1
       clear hb1 hd1)
    | (go_at_call 8
       (with_reducible refine (keyq_any w.heap.size a cap zs 0 _ HD1.out (by omega)).mono ?_)
       rintro e w2 ⟨k, k2, hk, rfl, hd2, hk2, hb2⟩
       have HD2 := Lib.hid hd2
       have HK2 := Lib.hid hk2
       have HB2 := Lib.hid (HB1.out.trans (but_basek hb2 (Nat.le_refl _) HB1.out.size))
       have HR2 := Lib.hid (renck_any k w2)
       have he := encKV_ok hk
       have hs := encK_size hk
       obtain ⟨X, hX⟩ : ∃ X, X = encK k := ⟨_, rfl⟩
       rw [← hX] at he hs
       rw [he] at HR2
       have HXS := Lib.hid hs
       clear hX he hs hk hd2 hk2 hb2)
    | (go_at_call 12
       (with_reducible refine HR2.out.mono ?_)
       rintro e w3 ⟨rfl, hb3⟩
       have HB3 := Lib.hid (HB2.out.trans (hb3.mono HB2.out.size))
       have HD3 := Lib.hid (HD2.out.below hb3)
       clear hb3)
    | (go_at_call 10
       (with_reducible refine (damage_but w.heap.size a cap zs k2 X _ HD3.out (by have := HK2.out; omega) (by rw [HXS.out]; decide) (by rw [HXS.out]; decide)).mono ?_)
       rintro e w4 ⟨X2, k4, rfl, hs4, hd4, hk4, hb4⟩
       have HD4 := Lib.hid hd4
       have HK4 := Lib.hid hk4
       have HS4 := Lib.hid hs4
       have HB4 := Lib.hid (HB3.out.trans (but_basek hb4 (Nat.le_refl _) HB3.out.size))
       clear hd4 hk4 hs4 hb4)
    | (go_at_call 15
       (with_reducible refine (rewrap_any w.heap.size a cap zs k4 X w4 HD4.out (by have := HK2.out; have := HK4.out; have := HXS.out; omega)).mono ?_)
       rintro e w5 ⟨X3, k5, rfl, hs5, hd5, hk5, hb5⟩
       have HD5 := Lib.hid hd5
       have HK5 := Lib.hid hk5
       have HS5 := Lib.hid hs5
       have HB5 := Lib.hid (HB4.out.trans (but_basek hb5 (Nat.le_refl _) HB4.out.size))
       clear hd5 hk5 hs5 hb5)
    | (go_at_call 15
       (with_reducible refine (rewrap_any w.heap.size a cap zs k5 X w5 HD5.out (by have := HK2.out; have := HK4.out; have := HK5.out; have := HXS.out; omega)).mono ?_)
       rintro e w6 ⟨X4, k6, rfl, hs6, _, _, hb6⟩
       have HS6 := Lib.hid hs6
       have HB6 := Lib.hid (HB5.out.trans (but_basek hb6 (Nat.le_refl _) HB5.out.size))
       clear hs6 hb6))
  obtain ⟨sb, hsb⟩ : ∃ sb, sb = w6.heap.size := ⟨_, rfl⟩
  obtain ⟨W7, hW7⟩ : ∃ W7, W7 = w6.alloc (.cells #[.string b, .string X, .string X2, .string X3, .string X4] 9) := ⟨_, rfl⟩
  rw [← hW7, ← hsb]
  have hq7 : W7.heap[sb]? = some (.cells #[.string b, .string X, .string X2, .string X3, .string X4] 9 (0, 0)) := by rw [hW7, hsb]; exact heap_alloc_new w6 _
  have HB7 : Hid (Below w.heap.size w W7) := Lib.hid (by rw [hW7]; exact below_next HB6.out (belowNew w6 _))
  have HC7 : Hid (∀ j, j < 5 → ∃ s : ByteArray, s.size ≤ 1000000 ∧ W7.cell? ⟨sb, j, none⟩ = some (.string s)) := Lib.hid (fun j hj => by
    have hc := five_row hq7 j hj
    have h0 := HBS.out
    have h1 := HXS.out
    have h2 := HS4.out
    have h3 := HS5.out
    have h4 := HS6.out
    obtain rfl | rfl | rfl | rfl | rfl : j = 0 ∨ j = 1 ∨ j = 2 ∨ j = 3 ∨ j = 4 := by omega
    · exact ⟨b, by omega, hc⟩
    · exact ⟨X, by omega, hc⟩
    · exact ⟨X2, by omega, hc⟩
    · exact ⟨X3, by omega, hc⟩
    · exact ⟨X4, by omega, hc⟩)
  have HSB := Lib.hid ((Array.getElem?_eq_some_iff.1 hq7).1)
  clear hsb hW7 hq7 d1
  go_loopw [39] (fun i wr => ∃ j : Nat, j ≤ 5 ∧ i = .int .i64 (j : Int) ∧ Below W7.heap.size W7 wr) (fun i _ => 5 - (intOf i).toNat)
  case atStart => exact ⟨0, by omega, rfl, Below.refl _ _⟩
  case round =>
    obtain ⟨j, hj, rfl, hb⟩ := hrel
    have HBR := Lib.hid hb
    clear hb
    by_cases hlt : j < 5
    · have hd : decide ((j : Int) < 5) = true := by simp; omega
      have hji : (j : Int) < 5 := by omega
      obtain ⟨s, hs, hcs⟩ := HC7.out j hlt
      have hc := (HBR.out.cell (p := ⟨sb, j, none⟩) HSB.out).trans hcs
      have HLJ := Lib.hid hlt
      have HD8 := Lib.hid (fun W hp => HDE.out s W hs hp)
      have HR8 := Lib.hid (fun W => rdeck_any s W (by omega))
      obtain ⟨E, h, id, root, hv⟩ := decKV_form s
      rw [hv] at HD8 HR8
      clear hv hcs hs hlt
      go_wp2_with (first
        | (go_at_call 16
           (with_reducible refine (HD8.out _ (HP.out.below (below_next HB7.out HBR.out))).mono ?_)
           rintro e w8 ⟨rfl, hb8⟩
           have HB8 := Lib.hid (HBR.out.next hb8)
           have hn8 := key_new w8 (.int .i64 h) (.string id) (.string root)
           have HN8 := Lib.hid hn8
           clear hb8 hn8)
        | (go_at_call 17
           (with_reducible refine (HR8.out _).mono ?_)
           rintro e w9 ⟨rfl, hb9⟩
           have HB9 := Lib.hid (HB8.out.next (below_next (belowNew _ _) hb9))
           have hq9 := (hb9.block w8.heap.size (Array.getElem?_eq_some_iff.1 HN8.out).1).trans HN8.out
           have hl9 := (Array.getElem?_eq_some_iff.1 hq9).1
           have hn9 := key_new w9 (.int .i64 h) (.string id) (.string root)
           obtain ⟨a0, a1, a2, _⟩ := kcell3 hn9
           obtain ⟨b0, b1, b2, _⟩ := kcell3 (((belowNew w9 (.cells #[.int .i64 h, .string id, .string root] 23)).block w8.heap.size hl9).trans hq9)
           clear hb9 hq9 hl9 hn9))
      go_roundw
      case rel => exact ⟨j + 1, HLJ.out, by go_num, HB9.out.next (belowNew _ _)⟩
      case measure => have := HLJ.out; simp [intOf]; omega
    · have hj5 : j = 5 := by omega
      subst hj5
      have hd : decide (((5 : Nat) : Int) < 5) = false := by simp
      go_wp2_with (go_at_call 6; (with_reducible refine (HAW.out _ (HP.out.below (below_next HB7.out HBR.out))).mono ?_); rintro e w8 ⟨rfl, hb8⟩; have HB8 := Lib.hid (below_next (below_next HB7.out HBR.out) hb8); clear hb8)
      go_ret
      exact ⟨rfl, HB8.out⟩
theorem kdeclaw (hA : AlgPk) (hE : EncPk) (hD : DecPk) (b : ByteArray) (a : Option Addr) (cap : Nat) (zs : List Int) (w : World) (hP : Pow10 w) (hli : ILies w a zs) (hz : zs.length ≤ 9223372036854775807) :
    Calls Tryz.prog 4 #[.string b, .slice a zs.length cap] w fun e w' => e = .returned (.bool true) ∧ Below w.heap.size w w' := by
  by_cases hb : 300 < b.size
  · exact kdec_out hA hE hD b a cap zs.length hb w hP
  · exact kdec_in hA hE hD b a cap zs (by omega) w hP hli hz
end Go.Proofs.YtpmlkofceidnjaaGreatDoor
