/-
  The contracts of the program's decode and Decode. (Of the landed program.)
  The contract of the program's Decode. (Of the landed program.)
  What is wanted of the program's keyinfo.
  The contracts of strings.HasPrefix, HasSuffix, TrimPrefix, CutPrefix, IndexByte, Contains and EqualFold and of internal/stringslite.Index: the library's theorems, laid at the program's own numbers. Nothing is claimed of the program beyond its bodies.
  What every card of this seat's laws over gname needs: how a slice of bytes is opened, how seven arguments are opened, and that the laws' functions only read what they are handed.
  Nothing is left of this text.
  A slice of numbers that can be read: its numbers lie at its address.
  DNS names, patterns, bases and mail addresses as lists of bytes; when one lies within another, and that what lies within two bases makes them nested. Nothing is claimed of the program here.
  Nothing is left of this text.
  Nothing is left of this text.
  Nothing is left of this text.
  Nothing is left of this text.
  Nothing is left of this text.
  Nothing is left of this text.
  Nothing is left of this text.
  Nothing is left of this text.
  The contract of the reference's DNS: whether a text is a DNS name.
  Nothing is left of this text.
  Nothing is left of this text.
  Nothing is left of this text.
  Nothing is left of this text.
  Nothing is left of this text.
  Nothing is left of this text.
  Nothing is left of this text.
  Nothing is left of this text.
  Nothing is left of this text.
  Nothing is left of this text.
  Nothing is left of this text.
  The contract of certpathmade's ShortName: what it says is short has few and short parts.
  General names in memory, and the contract of the generator's ShortNames.
  Nothing is left of this text.
  Nothing is left of this text.
  What every card of layer 14 needs: the tables of the rows (powers of ten; constants of the hash).
-/
import Derived.Test.YtpmlkofceidnjaaDoorAax
import Derived.Test.YtpmlkofceidnjaaDoorAaw
import Derived.Test.YtpmlkofceidnjaaDoorAab
import Derived.Test.YtpmlkofceidnjaaDoorAaa
import Derived.Shelf.Strings.Prefix
import Derived.Shelf.Small.Wraps
import Derived.Test.YtpmlkofceidnjaaDoorAad
import Derived.Test.YtpmlkofceidnjaaDoorCards
import Derived.Test.YtpmlkofceidnjaaDoorTie
import Derived.Test.YtpmlkofceidnjaaDoorAaf
import Derived.ProofKit
import Derived.OpenShut
import Derived.Deep.DeepHandedRow
import Derived.Deep.DeepWitnessRowRef
import Derived.Lay
import Derived.Stop.LaidErr
import Derived.Test.YtpmlkofceidnjaaDoorAae
import Derived.Deep.Slices
import Derived.Deep.Strs
import Derived.Test.YtpmlkofceidnjaaDoorAan
import Derived.Test.YtpmlkofceidnjaaDoorAao
import Derived.Lib.QuietBelow
import Derived.BigQuiet
import Derived.Test.YtpmlkofceidnjaaDoorAar
import Derived.Lib.LaidTab
import Derived.Lib.LaidIn
namespace Go.Proofs.YtpmlkofceidnjaaDoor
open Go.RowKit

theorem cell_butk {w w' : World} {b j p : Nat} {v : Value} (hc : w.cell? ⟨b, j, none⟩ = some v) (hb : But p w w') (hne : b ≠ p) : w'.cell? ⟨b, j, none⟩ = some v :=
  (World.cell?_of_block (w := w) (a := ⟨b, j, none⟩) (hb.block b (block_lt_of_cell hc) (by simpa using hne))).trans hc
theorem keyL_chk {x : El} {r : List El} (h : chkAlg (x.1 : Int) x.2.1 ≠ 0) : keyL (x :: r) = (chkAlg (x.1 : Int) x.2.1, nok) := by
  cases r with
  | nil => rw [keyL_one, if_pos h]
  | cons y q => rw [keyL_two, if_pos h]
theorem keyL_short {x : El} (h : chkAlg (x.1 : Int) x.2.1 = 0) : keyL [x] = (3, nok) := by rw [keyL_one, if_neg (fun k => k h)]
theorem keyL_tb {x y : El} {q : List El} (h : chkAlg (x.1 : Int) x.2.1 = 0) : keyL (x :: y :: q) = if tbE y.1 y.2.1 ≠ 0 then (tbE y.1 y.2.1, nok) else if q ≠ [] then (4, nok) else (0, (keyB y.2.1).2) := by
  rw [keyL_two, if_neg (fun k => k h)]
  unfold tbE
  by_cases h3 : y.1 = 3
  · simp [h3]
  · simp [h3]

set_option maxRecDepth 100000 in
set_option maxHeartbeats 8000000 in
theorem kdl_any (w0 : World) (p : Nat) (k0 : KeyT) (l : List El) (n : Nat) (a : Option Addr) (cp : Nat) (w : World) (hn : n = l.length) (hel : ElAt w a l) (hap : ∀ x, a = some x → l ≠ [] → x.block ≠ p) (hsz : ∀ z ∈ l, z.2.1.size ≤ 1000000) (hlen : n ≤ 1000000) (hP : Pow10 w0) (hw : Below w0.heap.size w0 w) (hwp : w0.heap.size ≤ p) (hp : DecAt w p k0) :
    Calls Tryd.prog 19 #[.pointer (some ⟨p, 0, none⟩), .slice a n cp] w fun e w' => e = .returned (.int .i64 (((keyL l).1 : Nat) : Int)) ∧ But p w w' ∧ DecEnd w' p (keyL l).1 (keyL l).2 := by
  have hpl := hp.lt
  have HPW : Hid (∀ W : World, But p w W → Pow10 W) := Lib.hid fun W hb => hP.below (hw.trans ((hb.below (Nat.le_of_lt hpl)).mono hwp))
  obtain ⟨R, hR⟩ : ∃ R, R = w.heap.size := ⟨_, rfl⟩
  obtain ⟨W1, hW1⟩ : ∃ W1, W1 = w.alloc (.cells #[.func (.func 32) #[] #[], .func (.func 33) #[] #[]] 66) := ⟨_, rfl⟩
  have hb1 : Below w.heap.size w W1 := by rw [hW1]; exact belowNew w _
  have hq1 : W1.heap[R]? = some (.cells #[.func (.func 32) #[] #[], .func (.func 33) #[] #[]] 66 (0, 0)) := by rw [hW1, hR]; exact heap_alloc_new w _
  have HR0 : Hid (W1.cell? ⟨R, 0, none⟩ = some (.func (.func 32) #[] #[])) := Lib.hid (by rw [Lib.cell_of_heap hq1]; rfl)
  have HR1 : Hid (W1.cell? ⟨R, 1, none⟩ = some (.func (.func 33) #[] #[])) := Lib.hid (by rw [Lib.cell_of_heap hq1]; rfl)
  have HRP : Hid (R ≠ p) := Lib.hid (by omega)
  have HEL := Lib.hid (hel.below hb1)
  have HP1 := Lib.hid (hp.below hb1)
  have HB1 : Hid (But p w W1) := Lib.hid (But.of hb1)
  have HSZ := Lib.hid hsz
  have HAP := Lib.hid hap
  have HW1 := Lib.hid hW1.symm
  have HR := Lib.hid hR
  have HN := Lib.hid hn
  obtain ⟨E, K, hEK⟩ : ∃ E K, keyL l = (E, K) := ⟨_, _, rfl⟩
  rw [hEK]
  have HEK := Lib.hid hEK
  clear hpl hR hW1 hb1 hq1 hel hp hsz hap hP hw hwp hn hEK
  go_enter Tryd.func19, Tryd.ntmps19
  go_wp2_with fail
  rw [HW1.out, ← HR.out]
  go_loopw [12] (fun i wr => But p W1 wr ∧ ∃ k, DecAt wr p k ∧ (i = .int .i64 0 ∨ (i = .int .i64 1 ∧ ∃ x r, l = x :: r ∧ chkAlg (x.1 : Int) x.2.1 = 0) ∨ (i = .int .i64 2 ∧ ∃ x y r, l = x :: y :: r ∧ chkAlg (x.1 : Int) x.2.1 = 0 ∧ tbE y.1 y.2.1 = 0 ∧ k = (keyB y.2.1).2))) (fun i _ => 2 - (intOf i).toNat)
  case atStart => exact ⟨But.refl p W1, k0, HP1.out, .inl rfl⟩
  case round =>
    obtain ⟨hb, k, hd, hi⟩ := hrel
    have c0 := cell_butk HR0.out hb HRP.out
    have c1 := cell_butk HR1.out hb HRP.out
    have HB := Lib.hid hb
    have HD := Lib.hid hd
    have HPR := Lib.hid (HPW.out wr (HB1.out.next hb))
    clear hb hd
    rcases hi with rfl | ⟨rfl, x, r, hl, hx⟩ | ⟨rfl, x, y, r, hl, hx, hy, hk⟩
    · cases l with
      | nil =>
        obtain rfl : n = 0 := HN.out
        obtain ⟨rfl, rfl⟩ : 3 = E ∧ nok = K := Prod.mk.inj HEK.out
        go_wp2_with fail
        go_ret
        exact ⟨rfl, HB1.out.next HB.out, .mk HD.out fun h => absurd h (by decide)⟩
      | cons x r =>
        obtain ⟨b, o, rfl, hcl⟩ := HEL.out.resolve_left (by simp)
        have hbp := HAP.out _ rfl (by simp)
        simp only at hbp
        obtain ⟨x0, x1, x2⟩ := hcl 0 (by simp)
        rw [show (x :: r).getD 0 ((0 : Nat), (⟨#[]⟩ : ByteArray), (⟨#[]⟩ : ByteArray)) = x from rfl, Nat.zero_mul, Nat.add_zero] at x0 x1 x2
        have e0 := cell_butk x0 HB.out hbp
        have e1 := cell_butk x1 HB.out hbp
        have e2 := cell_butk x2 HB.out hbp
        have hn1 : 1 ≤ n := by have := HN.out; simp at this; omega
        have d0 : decide ((n : Int) ≤ 0) = false := by simp; omega
        have d1 : ¬ n = 0 := by omega
        have HTA := Lib.hid (kta_any p x.1 x.2.1 x.2.2 wr (HSZ.out x (by simp)) HPR.out)
        obtain ⟨ck, hck⟩ : ∃ ck, ck = chkAlg (x.1 : Int) x.2.1 := ⟨_, rfl⟩
        rw [← hck] at HTA
        have HCK := Lib.hid hck
        clear hcl hbp x0 x1 x2 hck
        obtain ⟨xt, xc, xr⟩ := x
        simp only at e0 e1 e2 HTA
        go_upto_region 8 with (first
          | (go_at_call 32
             (with_reducible refine HTA.out.mono ?_)
             rintro e w2 ⟨rfl, hb2⟩
             have HB2 : Hid (But p W1 w2) := Lib.hid (HB.out.next (But.of hb2))
             have HD2 := Lib.hid (HD.out.below hb2)
             clear hb2 e0 e1 e2))
        by_cases hz : ck = 0
        case neg =>
          obtain ⟨rfl, rfl⟩ : ck = E ∧ nok = K := by
            have h9 := HEK.out
            rw [keyL_chk (by rw [← HCK.out]; exact hz), ← HCK.out] at h9
            exact Prod.mk.inj h9
          have hz1 := errno_ne hz
          have hz2 := hz
          clear hz
          go_wp2_with fail
          go_ret
          exact ⟨rfl, HB1.out.next HB2.out, .mk HD2.out fun h => absurd h hz2⟩
        subst hz
        go_wp2_with fail
        go_roundw
        case rel => exact ⟨HB2.out, k, HD2.out, .inr (.inl ⟨rfl, _, _, rfl, HCK.out.symm⟩)⟩
        case measure => simp [intOf]
    · subst hl
      have HX := Lib.hid hx
      clear hx
      cases r with
      | nil =>
        obtain rfl : n = 1 := HN.out
        obtain ⟨rfl, rfl⟩ : 3 = E ∧ nok = K := by have h9 := HEK.out; rw [keyL_short HX.out] at h9; exact Prod.mk.inj h9
        go_wp2_with fail
        go_ret
        exact ⟨rfl, HB1.out.next HB.out, .mk HD.out fun h => absurd h (by decide)⟩
      | cons y q =>
        obtain ⟨b, o, rfl, hcl⟩ := HEL.out.resolve_left (by simp)
        have hbp := HAP.out _ rfl (by simp)
        simp only at hbp
        obtain ⟨x0, x1, x2⟩ := hcl 1 (by simp)
        rw [show (x :: y :: q).getD 1 ((0 : Nat), (⟨#[]⟩ : ByteArray), (⟨#[]⟩ : ByteArray)) = y from rfl, Nat.one_mul] at x0 x1 x2
        have e0 := cell_butk x0 HB.out hbp
        have e1 := cell_butk x1 HB.out hbp
        have e2 := cell_butk x2 HB.out hbp
        have hn1 : 2 ≤ n := by have := HN.out; simp at this; omega
        have d0 : decide ((n : Int) ≤ 1) = false := by simp; omega
        have d1 : ¬ n ≤ 1 := by omega
        have HTB := Lib.hid (ktb_any p k y.1 y.2.1 y.2.2 wr (HSZ.out y (by simp)) HD.out)
        obtain ⟨ck, hck⟩ : ∃ ck, ck = tbE y.1 y.2.1 := ⟨_, rfl⟩
        rw [← hck] at HTB
        have HCK := Lib.hid hck
        have HK9 := Lib.hid HEK.out
        rw [keyL_tb HX.out, ← hck] at HK9
        clear hcl hbp x0 x1 x2 hck
        obtain ⟨yt, yc, yr⟩ := y
        simp only at e0 e1 e2 HTB HK9
        go_upto_region 8 with (first
          | (go_at_call 33
             (with_reducible refine HTB.out.mono ?_)
             rintro e w2 ⟨rfl, hb2, hd2'⟩
             obtain ⟨k2, hd2, hk2⟩ := hd2'.ex
             have HB2 : Hid (But p W1 w2) := Lib.hid (HB.out.next hb2)
             have HD2 := Lib.hid hd2
             have HK2 := Lib.hid hk2
             clear hb2 e0 e1 e2 hd2 hk2 hd2'))
        by_cases hz : ck = 0
        case neg =>
          obtain ⟨rfl, rfl⟩ : ck = E ∧ nok = K := by
            have h9 := HK9.out
            rw [if_pos hz] at h9
            exact Prod.mk.inj h9
          have hz1 := errno_ne hz
          have hz2 := hz
          clear hz
          go_wp2_with fail
          go_ret
          exact ⟨rfl, HB1.out.next HB2.out, .mk HD2.out fun h => absurd h hz2⟩
        subst hz
        go_wp2_with fail
        go_roundw
        case rel => exact ⟨HB2.out, k2, HD2.out, .inr (.inr ⟨rfl, _, _, _, rfl, HX.out, HCK.out.symm, HK2.out rfl⟩)⟩
        case measure => simp [intOf]
    · subst hl
      have HK9 := Lib.hid HEK.out
      rw [keyL_tb hx, hy, if_neg (by simp)] at HK9
      have HKK := Lib.hid hk
      clear hx hy hk
      cases r with
      | nil =>
        obtain rfl : n = 2 := HN.out
        obtain ⟨rfl, rfl⟩ : 0 = E ∧ (keyB y.2.1).2 = K := by have h9 := HK9.out; rw [if_neg (by simp)] at h9; exact Prod.mk.inj h9
        go_wp2_with fail
        go_ret
        exact ⟨rfl, HB1.out.next HB.out, .mk HD.out fun _ => HKK.out⟩
      | cons z q =>
        obtain ⟨rfl, rfl⟩ : 4 = E ∧ nok = K := by have h9 := HK9.out; rw [if_pos (by simp)] at h9; exact Prod.mk.inj h9
        have hn3 : 2 < n := by have := HN.out; simp at this; omega
        have d2 : decide ((2 : Int) < (n : Int)) = true := by simp; omega
        go_wp2_with fail
        go_ret
        exact ⟨rfl, HB1.out.next HB.out, .mk HD.out fun h => absurd h (by decide)⟩
end Go.Proofs.YtpmlkofceidnjaaDoor
namespace Go.Proofs.YtpmlkofceidnjaaDoor
open Go.RowKit

theorem but_block {w w' : World} {p g : Nat} {o : Obj} (h : But p w w') (hg : w.heap[g]? = some o) (hne : g ≠ p) : w'.heap[g]? = some o :=
  (h.block g (Array.getElem?_eq_some_iff.1 hg).1 (by simpa using hne)).trans hg
theorem keyL_nok {l : List El} {E : Nat} {K : KeyT} (h : keyL l = (E, K)) (hE : E ≠ 0) : K = nok := by
  cases l with
  | nil => exact (Prod.mk.inj h).2.symm
  | cons x r =>
    by_cases hx : chkAlg (x.1 : Int) x.2.1 = 0
    · cases r with
      | nil => rw [keyL_short hx] at h; exact (Prod.mk.inj h).2.symm
      | cons y q =>
        rw [keyL_tb hx] at h
        split at h
        · exact (Prod.mk.inj h).2.symm
        · split at h
          · exact (Prod.mk.inj h).2.symm
          · exact absurd (Prod.mk.inj h).1.symm hE
    · rw [keyL_chk hx] at h; exact (Prod.mk.inj h).2.symm
set_option maxRecDepth 100000 in
set_option maxHeartbeats 8000000 in
theorem kdec_any : DecPk := by
  intro b w hb hP
  unfold decKV
  have HONE := Lib.hid (fun W => one_any b W (by omega))
  obtain ⟨E, K, hEK⟩ : ∃ E K, decK b = (E, K) := ⟨_, _, rfl⟩
  rw [hEK]
  have HRES := Lib.hid (show (E, K) = decK b from hEK.symm)
  clear hEK
  have HP := Lib.hid hP
  obtain ⟨W0, hW0⟩ : ∃ W0, W0 = w.alloc (.cells #[.int .i64 0, .string ⟨#[]⟩, .string ⟨#[]⟩] 26) := ⟨_, rfl⟩
  have HWE := Lib.hid hW0.symm
  have HB0 : Hid (Below w.heap.size w W0) := Lib.hid (by rw [hW0]; exact belowNew w _)
  have HZ0 : Hid (W0.heap[w.heap.size]? = some (.cells #[.int .i64 0, .string ⟨#[]⟩, .string ⟨#[]⟩] 26 (0, 0))) := Lib.hid (by rw [hW0]; exact key_new w _ _ _)
  clear hW0 hP
  unfold decK at HRES
  by_cases h1 : oneErr b = 0
  case neg =>
    obtain ⟨rfl, rfl⟩ : E = oneErr b ∧ K = nok := by have := HRES.out; rw [if_pos h1] at this; exact Prod.mk.inj this
    have hv : oneVal b = .tuple #[.agg #[.int .i64 0, .string ⟨#[]⟩, .string ⟨#[]⟩], .int .i64 ((oneErr b : Nat) : Int)] := by unfold oneVal; rw [if_neg h1]; rfl
    rw [hv] at HONE
    have hz1 := errno_ne h1
    generalize oneErr b = er at HONE hz1
    clear hv h1 HRES
    go_enter Tryd.func7, Tryd.ntmps7
    go_wp2_with fail
    rw [HWE.out]
    refine (HONE.out W0).mono ?_
    rintro e w1 ⟨rfl, hb1⟩
    have hbe := belowNew w1 (.cells #[.int .i64 0, .string ⟨#[]⟩, .string ⟨#[]⟩] 46)
    have HB1 := Lib.hid (below_next (below_next HB0.out hb1) hbe)
    have hz1' := (hb1.block w.heap.size (Array.getElem?_eq_some_iff.1 HZ0.out).1).trans HZ0.out
    have HZ1 := Lib.hid ((hbe.block w.heap.size (Array.getElem?_eq_some_iff.1 hz1').1).trans hz1')
    clear hb1 hbe hz1'
    obtain ⟨s0, s1, s2, f0, f1, f2, sl⟩ := el_facts HZ1.out
    go_wp2_with fail
    exact bodyPost_ret (kRes rfl _ _ _ _ _ _ rfl (el_set HZ1.out)) rfl ⟨rfl, el_below HB1.out (Nat.le_refl _)⟩
  obtain ⟨t, ht⟩ : ∃ t, t = rdTag b := ⟨_, rfl⟩
  obtain ⟨c, hc⟩ : ∃ c, c = rdContent b := ⟨_, rfl⟩
  obtain ⟨rw0, hr⟩ : ∃ r, r = rdRaw b := ⟨_, rfl⟩
  have hcz : c.size ≤ 1000000 := by rw [hc]; have := rdContent_size (oneErr_rd h1); omega
  have hv : oneVal b = .tuple #[.agg #[.int .i64 (t : Int), .string c, .string rw0], .int .i64 0] := by unfold oneVal elV; rw [if_pos h1, ht, hc, hr]
  rw [hv] at HONE
  have HR1 := Lib.hid (show (E, K) = if (divP (t : Int) c).2 ≠ 0 then ((divP (t : Int) c).2, nok) else keyL (divP (t : Int) c).1 by
    have h9 := HRES.out
    rw [if_neg (by omega), ← ht, ← hc] at h9
    rw [h9]
    by_cases h48 : t = 48
    · subst h48
      rw [if_neg (by simp), show ((48 : Nat) : Int) = 48 from rfl, divP_yes]
    · rw [if_pos h48, divP_no (by omega)]; rfl)
  clear hv ht hc hr h1 HRES hb
  go_enter Tryd.func7, Tryd.ntmps7
  go_wp2_with fail
  rw [HWE.out]
  refine (HONE.out W0).mono ?_
  rintro e w1 ⟨rfl, hb1⟩
  obtain ⟨ge, hge⟩ : ∃ ge, ge = w1.heap.size := ⟨_, rfl⟩
  obtain ⟨V1, hV1⟩ : ∃ V1, V1 = w1.alloc (.cells #[.int .i64 (t : Int), .string c, .string rw0] 46) := ⟨_, rfl⟩
  have hbV : Below w1.heap.size w1 V1 := by rw [hV1]; exact belowNew w1 _
  have hqe : V1.heap[ge]? = some (.cells #[.int .i64 (t : Int), .string c, .string rw0] 46 (0, 0)) := by rw [hV1, hge]; exact heap_alloc_new w1 _
  have HB1 := Lib.hid (below_next (below_next HB0.out hb1) hbV)
  have hz1' := (hb1.block w.heap.size (Array.getElem?_eq_some_iff.1 HZ0.out).1).trans HZ0.out
  have HZ1 := Lib.hid ((hbV.block w.heap.size (Array.getElem?_eq_some_iff.1 hz1').1).trans hz1')
  have HV1 := Lib.hid hV1.symm
  have HGE := Lib.hid hge
  obtain ⟨e0, e1, e2, _, _, _, el⟩ := el_facts hqe
  clear hb1 hbV hqe hV1 hge hz1'
  go_upto_region 2 with fail
  rw [HV1.out, ← HGE.out]
  have HLS := Lib.hid (fun W => kdiv_any (t : Int) c rw0 W hcz)
  have HMEM := Lib.hid (fun z hz => divP_mem (t := (t : Int)) hcz z hz)
  have hlen := divP_len (t := (t : Int)) hcz
  generalize divP (t : Int) c = LE at HLS HR1 HMEM hlen
  obtain ⟨l, er⟩ := LE
  simp only at HLS HR1 HMEM hlen
  clear hcz
  go_upto_region 5 with (first
    | (go_at_call 18
       (with_reducible refine (HLS.out _).mono ?_)
       rintro e w2 ⟨v1, rfl, ho1, hb2⟩
       obtain ⟨a, cp, rfl, hlc, hel, hbk⟩ := ElAt.of ho1
       have HB2 := Lib.hid (below_next HB1.out hb2)
       have HZ2 := Lib.hid ((hb2.block w.heap.size (Array.getElem?_eq_some_iff.1 HZ1.out).1).trans HZ1.out)
       have HBK := Lib.hid hbk
       clear ho1 hb2 hbk e0 e1 e2 el))
  obtain ⟨n, hn⟩ : ∃ n, n = l.length := ⟨_, rfl⟩
  rw [← hn] at hlc hlen ⊢
  have HN := Lib.hid hn
  have HEL := Lib.hid hel
  clear hn hel
  by_cases hz : er = 0
  case neg =>
    obtain ⟨rfl, rfl⟩ : E = er ∧ K = nok := by have := HR1.out; rw [if_pos hz] at this; exact Prod.mk.inj this
    have hz1 := errno_ne hz
    clear hz
    obtain ⟨s0, s1, s2, f0, f1, f2, sl⟩ := el_facts HZ2.out
    go_wp2_with fail
    exact bodyPost_ret (kRes rfl _ _ _ _ _ _ rfl (el_set HZ2.out)) rfl ⟨rfl, el_below HB2.out (Nat.le_refl _)⟩
  subst hz
  have HRE := Lib.hid (show (E, K) = keyL l by have := HR1.out; rwa [if_neg (by simp)] at this)
  clear HR1
  obtain ⟨p, hp⟩ : ∃ p, p = w2.heap.size := ⟨_, rfl⟩
  obtain ⟨W3, hW3⟩ : ∃ W3, W3 = w2.alloc (.cells #[.int .i64 0, .string ⟨#[]⟩, .string ⟨#[]⟩] 53) := ⟨_, rfl⟩
  have hb3 : Below w2.heap.size w2 W3 := by rw [hW3]; exact belowNew w2 _
  have hd3 : DecAt W3 p nok := by unfold DecAt; rw [hW3, hp]; exact heap_alloc_new w2 _
  have hwp : w.heap.size ≤ p := by rw [hp]; exact HB2.out.size
  have HB3 := Lib.hid (below_next HB2.out hb3)
  have HDL := Lib.hid (kdl_any w p nok l n a cp W3 HN.out (HEL.out.below hb3) (fun x hx hne => by have := (HBK.out x hx hne).2; omega) HMEM.out hlen HP.out HB3.out hwp hd3)
  have HZ3 := Lib.hid ((hb3.block w.heap.size (Array.getElem?_eq_some_iff.1 HZ2.out).1).trans HZ2.out)
  have HGP : Hid (w.heap.size ≠ p) := Lib.hid (by have := (Array.getElem?_eq_some_iff.1 HZ2.out).1; omega)
  rw [← HRE.out] at HDL
  have HW3 := Lib.hid hW3.symm
  have HP9 := Lib.hid hp
  have HWP := Lib.hid hwp
  have HPL := Lib.hid hd3.lt
  clear hp hW3 hb3 hd3 hwp
  go_upto_region 8 with fail
  rw [HW3.out, ← HP9.out]
  go_upto_region 9 with (first
    | (go_at_call 19
       (with_reducible refine HDL.out.mono ?_)
       rintro e w4 ⟨rfl, hb4, hd4'⟩
       obtain ⟨k, hd4, hk4⟩ := hd4'.ex
       have HZ4 := Lib.hid (but_block hb4 HZ3.out HGP.out)
       have HB4 := Lib.hid (HB3.out.trans ((hb4.below (Nat.le_of_lt HPL.out)).mono HWP.out))
       have HD4 := Lib.hid hd4
       have HK4 := Lib.hid hk4
       clear hb4 hd4 hk4 hd4'))
  by_cases hz : E = 0
  case neg =>
    obtain rfl : K = nok := by
      have h9 := HRE.out
      exact keyL_nok h9.symm hz
    have hz1 := errno_ne hz
    clear hz
    obtain ⟨s0, s1, s2, f0, f1, f2, sl⟩ := el_facts HZ4.out
    go_wp2_with fail
    exact bodyPost_ret (kRes rfl _ _ _ _ _ _ rfl (el_set HZ4.out)) rfl ⟨rfl, el_below HB4.out (Nat.le_refl _)⟩
  subst hz
  obtain rfl : k = K := HK4.out rfl
  obtain ⟨kh, kid, kroot⟩ := k
  obtain ⟨k0, k1, k2, _, _, _, kl⟩ := HD4.out.facts
  simp only at k0 k1 k2
  obtain ⟨s0, s1, s2, f0, f1, f2, sl⟩ := el_facts HZ4.out
  go_wp2_with fail
  exact bodyPost_ret (kRes rfl _ _ _ _ _ _ rfl (el_set HZ4.out)) rfl ⟨rfl, el_below HB4.out (Nat.le_refl _)⟩
end Go.Proofs.YtpmlkofceidnjaaDoor
namespace Go.Proofs.YtpmlkofceidnjaaDoor
theorem algPk : AlgPk := kalg_any
theorem encPk : EncPk := kenck_any
theorem decPk : DecPk := kdec_any
end Go.Proofs.YtpmlkofceidnjaaDoor
namespace Go.Proofs.YtpmlkofceidnjaaDoor
open Go.Shelf Go.RowKit

/-- The library's variable MaxLen holds some number. -/
def Mx (w : World) : Prop := ∃ m, w.cell? ⟨0, 0, none⟩ = some (.int .i64 m)
theorem Mx.below {w w' : World} (h : Mx w) (hb : Below w.heap.size w w') : Mx w' := by
  obtain ⟨m, hm⟩ := h
  exact ⟨m, (hb.cell (p := ⟨_, 0, none⟩) (World.block_lt_of_cell? _ _ hm)).trans hm⟩
end Go.Proofs.YtpmlkofceidnjaaDoor
namespace Go.Proofs.YtpmlkofceidnjaaDoor
open Go.ChangeShapes Go.WideShapes Go.ChangeAt Go.RowKit Go.ChangeMaps

theorem own : ownKnob Tryd.prog.godebug = none := by kernel_rfl

/-- What was handed in reads as it read, for a call that leaves old memory alone. -/
theorem below_trodAll {H : Type} {enc : TypeId × Value → H} {W W' : World} (hb : Below W.heap.size W W') :
    ∀ (ts : List TypeId) (vs : List Value) (ds : List (DataW H)) (ps : List MemPlace), (∀ t ∈ ts, Tryd.prog.readableRec t = true ∧ t < Tryd.prog.types.size) → (∀ x ∈ ps, x.block < W.heap.size) →
      DataW.TrodAll enc Tryd.prog W 0 (fun _ => true) true ts vs ds ps → DataW.TrodAll enc Tryd.prog W' 0 (fun b => decide (b < W.heap.size)) true ts vs ds ps := by
  intro ts
  induction ts with
  | nil => intro vs ds ps _ _ h; obtain ⟨rfl, rfl, rfl⟩ := trodAll_nil h; exact trodAll_mk0
  | cons t ts ih =>
    intro vs ds ps ht hp h
    obtain ⟨v, vs', d, ds', p, q, rfl, rfl, rfl, h1, h2⟩ := trodAll_cons h
    exact trodAll_cons_mk (Below.trod laidOut (ht t (by simp)).1 (ht t (by simp)).2 h1 hb (fun x hx => hp x (by simp [hx]))) (ih vs' ds' q (fun u hu => ht u (by simp [hu])) (fun x hx => hp x (by simp [hx])) h2)

end Go.Proofs.YtpmlkofceidnjaaDoor

namespace Go.Proofs.YtpmlkofceidnjaaDoor
open Go.ChangeShapes Go.WideShapes Go.ChangeAt Go.RowKit

set_option maxRecDepth 10000 in
theorem open_nums {H : Type} {enc : TypeId × Value → H} {W : World} {a0 : Option Addr} {len cap : Nat} {d : DataW H} {p : List MemPlace}
    (h : DataW.Trod enc Tryd.prog W 0 (fun _ => true) true 22 (.slice a0 len cap) d p) : ∃ zs : List Int, len = zs.length ∧ ILies W a0 zs ∧ zs.length ≤ 9223372036854775807 := by
  obtain ⟨fuel, hf⟩ := h
  have cb : Tryd.prog.cellsOf 3 = 1 := by kernel_rfl
  rcases open_ints Tryd.underlying22 Tryd.underlying3 cb hf with ⟨hcs, _⟩ | ⟨a, len', cap', zs, hcs, _, hl, hcm, hz, _, hcell, _⟩
  · simp [Value.cells] at hcs
    obtain ⟨rfl, rfl, rfl⟩ := hcs
    exact ⟨[], rfl, .inl rfl, by simp⟩
  · simp [Value.cells] at hcs
    obtain ⟨rfl, rfl, rfl⟩ := hcs
    by_cases h0 : len = 0
    · subst h0
      exact ⟨[], rfl, .inl rfl, by simp⟩
    · have hzl : len ≤ zs.length := by rw [hz]; simpa using hl
      obtain ⟨b, off, rfl, hc⟩ := ints_at hcell (by omega)
      have e : (zs.take len).length = len := by rw [List.length_take]; omega
      refine ⟨zs.take len, e.symm, .inr ⟨b, off, rfl, fun i hi => ?_⟩, by rw [e]; unfold maxLen at hcm; omega⟩
      rw [e] at hi
      rw [hc i (by omega)]
      congr 2
      rw [List.getD_eq_getElem?_getD, List.getD_eq_getElem?_getD, List.getElem?_take_of_lt hi]

end Go.Proofs.YtpmlkofceidnjaaDoor
namespace Go.Proofs.YtpmlkofceidnjaaDoor
open Go.RowKit

def pcsL (c : UInt8) (l : List UInt8) : List (List UInt8) := (pcsS c (strOf l)).map (·.data.toList)
theorem pcsL_spl (c : UInt8) (l : List UInt8) : Spl c l (pcsL c l) := pcsS_spl c (strOf l)
/-! ### Ends -/
/-- One list lies within another one: it is the other, or ends with a point and it; everything lies within nothing. -/
def Rel (S X : List UInt8) : Prop := X = [] ∨ S = X ∨ (46 :: X) <:+ S
theorem Rel.trans {A B C : List UInt8} (h : Rel A B) (k : Rel B C) : Rel A C := by
  rcases k with k | k | k
  · exact .inl k
  · exact k ▸ h
  · rcases h with h | h | h
    · rw [h] at k
      have := k.length_le
      simp at this
    · exact .inr (.inr (h ▸ k))
    · exact .inr (.inr (k.trans ((List.suffix_cons _ _).trans h)))
def RelM (D B : List UInt8) : Prop := D = B ∨ (B.head? = some 46 ∧ B <:+ D)
theorem RelM.trans {A B C : List UInt8} (h : RelM A B) (k : RelM B C) : RelM A C := by
  rcases k with k | ⟨k1, k2⟩
  · exact k ▸ h
  · rcases h with h | ⟨_, h2⟩
    · exact .inr ⟨k1, h ▸ k2⟩
    · exact .inr ⟨k1, k2.trans h2⟩
end Go.Proofs.YtpmlkofceidnjaaDoor








namespace Go.Proofs.YtpmlkofceidnjaaDoor
open Go.RowKit

theorem pcsL_eq (c : UInt8) (l : List UInt8) : pcsS c (strOf l) = (pcsL c l).map strOf := by
  unfold pcsL
  rw [List.map_map]
  conv => lhs; rw [← List.map_id (pcsS c (strOf l))]
  exact List.map_congr_left fun x _ => strOf_of rfl
theorem getD_strOf (P : List (List UInt8)) (j : Nat) : (P.map strOf).getD j ⟨#[]⟩ = strOf (P.getD j []) := by
  rw [List.getD_eq_getElem?_getD, List.getD_eq_getElem?_getD, List.getElem?_map]
  cases P[j]? <;> rfl
theorem pcsL_ne (c : UInt8) (l : List UInt8) : pcsL c l ≠ [] := (pcsL_spl c l).1
/-- A text's pieces, in cells. -/
theorem OwnT.pieces {w : World} {B : Nat} {v : Value} {c : UInt8} {L : List UInt8} (h : OwnT w B v (pcsS c (strOf L))) :
    ∃ g cp, v = .slice (some ⟨g, 0, none⟩) (pcsL c L).length cp ∧ g < w.heap.size ∧ B ≤ g ∧ ∀ j, j < (pcsL c L).length → w.cell? ⟨g, j, none⟩ = some (.string (strOf ((pcsL c L).getD j []))) := by
  have e : (pcsS c (strOf L)).length = (pcsL c L).length := by rw [pcsL_eq, List.length_map]
  obtain ⟨g, cp, rfl, h1, h2, _, h3⟩ := h.cells rfl (by rw [pcsL_eq]; exact fun k => pcsL_ne c L (List.map_eq_nil_iff.1 k))
  refine ⟨g, cp, by rw [e], h1, h2, fun j hj => ?_⟩
  rw [h3 j (by omega), pcsL_eq, getD_strOf]

end Go.Proofs.YtpmlkofceidnjaaDoor











namespace Go.Proofs.YtpmlkofceidnjaaDoor
open Go.RowKit

/-- A name of at most twelve relative names of at most eight attributes, each of at most 200 bytes. -/
def ShR (r : List At) : Prop := r.length ≤ 8 ∧ ∀ i, i < r.length → (r.getD i noAt).1.size ≤ 200 ∧ (r.getD i noAt).2.2.size ≤ 200
def ShN (n : Nm) : Prop := n.length ≤ 12 ∧ ∀ i, i < n.length → ShR (n.getD i [])
theorem ShN.small {n : Nm} (h : ShN n) : SmallN n :=
  ⟨Nat.le_trans h.1 (by omega), fun i hi => ⟨Nat.le_trans (h.2 i hi).1 (by omega), fun j hj => ⟨Nat.le_trans ((h.2 i hi).2 j hj).1 (by omega), Nat.le_trans ((h.2 i hi).2 j hj).2 (by omega)⟩⟩⟩

end Go.Proofs.YtpmlkofceidnjaaDoor
namespace Go.Proofs.YtpmlkofceidnjaaDoor
open Go.RowKit

abbrev Gn := Int × List UInt8 × Nm
def noG : Gn := (0, [], [])
/-- At the address lie the general names l. -/
def GLies (w : World) (a : Option Addr) (l : List Gn) : Prop :=
  l = [] ∨ ∃ b o, a = some ⟨b, o, none⟩ ∧ ∀ i, i < l.length → w.cell? ⟨b, o + i * 3, none⟩ = some (.int .i64 (l.getD i noG).1) ∧ w.cell? ⟨b, o + i * 3 + 1, none⟩ = some (.string (strOf (l.getD i noG).2.1)) ∧
    ∃ a' c', w.cell? ⟨b, o + i * 3 + 2, none⟩ = some (.slice a' (l.getD i noG).2.2.length c') ∧ (l.getD i noG).2.2.length ≤ c' ∧ RLies w a' (l.getD i noG).2.2
theorem GLies.below {w w' : World} {a : Option Addr} {l : List Gn} (h : GLies w a l) (hb : Below w.heap.size w w') : GLies w' a l := by
  rcases h with h | ⟨b, o, h1, h2⟩
  · exact .inl h
  · refine .inr ⟨b, o, h1, fun i hi => ?_⟩
    obtain ⟨c0, c1, a', c', c2, c3, c4⟩ := h2 i hi
    exact ⟨(hb.cell (block_lt c0)).trans c0, (hb.cell (block_lt c1)).trans c1, a', c', (hb.cell (block_lt c2)).trans c2, c3, c4.below hb⟩
theorem GLies.at {w : World} {a : Option Addr} {l : List Gn} (h : GLies w a l) (k : Nat) (hk : k < l.length) : ∃ b o, a = some ⟨b, o, none⟩ ∧ b < w.heap.size ∧
    w.cell? ⟨b, o + k * 3, none⟩ = some (.int .i64 (l.getD k noG).1) ∧ w.cell? ⟨b, o + k * 3 + 1, none⟩ = some (.string (strOf (l.getD k noG).2.1)) ∧
    ∃ a' c', w.cell? ⟨b, o + k * 3 + 2, none⟩ = some (.slice a' (l.getD k noG).2.2.length c') ∧ (l.getD k noG).2.2.length ≤ c' ∧ RLies w a' (l.getD k noG).2.2 := by
  rcases h with h | ⟨b, o, h1, h2⟩
  · rw [h] at hk; exact absurd hk (Nat.not_lt_zero _)
  · obtain ⟨c0, c1, a', c', c2, c3, c4⟩ := h2 k hk
    exact ⟨b, o, h1, block_lt c0, c0, c1, a', c', c2, c3, c4⟩
end Go.Proofs.YtpmlkofceidnjaaDoor


namespace Go.Proofs.YtpmlkofceidnjaaDoor
open Go.ChangeShapes Go.WideShapes Go.ChangeAt Go.RowKit Go.ChangeMaps

theorem pow10_data : (Rows.laid_internal_strconv_uint64pow10 : DataW Unit) = Lib.tabData .u64 Lib.pow10Tab := by kernel_rfl
theorem pow10_at {rest : List (String × DataW Unit)} {W : World} (h : laidMet Tryd.prog (("internal/strconv.uint64pow10", Rows.laid_internal_strconv_uint64pow10) :: rest) W) : Pow10 W := by
  rw [pow10_data] at h
  exact Lib.tabBelow_of_tabIs (Lib.tabIs_of_head (g := 3) (t := 123) (e := 103) (n := 20) (by kernel_rfl) (by kernel_rfl) Tryd.underlying123 Tryd.underlying103 (by kernel_rfl) (by kernel_rfl) h)
/-- The row's list: the powers of ten are the third table. -/
theorem pow_five {W : World} (h : laidMetH Tryd.prog [("math/bits.deBruijn32tab", Rows.laid_math_bits_deBruijn32tab), ("math/bits.deBruijn64tab", Rows.laid_math_bits_deBruijn64tab), ("internal/strconv.uint64pow10", Rows.laid_internal_strconv_uint64pow10), ("unicode/utf8.acceptRanges", Rows.laid_unicode_utf8_acceptRanges), ("unicode/utf8.first", Rows.laid_unicode_utf8_first)] W) : Pow10 W := by
  rw [MakeChecks.laidMetH_plain _ _ _ (by kernel_rfl)] at h
  have h' : laidMet Tryd.prog (("math/bits.deBruijn32tab", Rows.laid_math_bits_deBruijn32tab) :: ("math/bits.deBruijn64tab", Rows.laid_math_bits_deBruijn64tab) :: ("internal/strconv.uint64pow10", Rows.laid_internal_strconv_uint64pow10) :: [("unicode/utf8.acceptRanges", Rows.laid_unicode_utf8_acceptRanges), ("unicode/utf8.first", Rows.laid_unicode_utf8_first)]) W := h
  exact pow10_at h'.tail.tail
end Go.Proofs.YtpmlkofceidnjaaDoor
