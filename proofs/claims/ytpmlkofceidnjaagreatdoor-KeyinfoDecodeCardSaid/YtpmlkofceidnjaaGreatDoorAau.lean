/-
  The contracts of the program's divide and CheckAlgorithm. (Of the landed program.)
  The contracts of the program's takeAlgorithm, takeBits, decode and Decode. (Of the landed program.)
  The contracts of the program's decode and Decode. (Of the landed program.)
  The contract of the program's Decode. (Of the landed program.)
-/
import Derived.Test.YtpmlkofceidnjaaGreatDoorAap
import Derived.Test.YtpmlkofceidnjaaGreatDoorAaq
import Derived.Test.YtpmlkofceidnjaaGreatDoorAah
import Derived.Test.YtpmlkofceidnjaaGreatDoorAat
import Derived.Test.YtpmlkofceidnjaaGreatDoorAar
namespace Go.Proofs.YtpmlkofceidnjaaGreatDoor
open Go.RowKit

theorem ownE_base {w : World} {B B' : Nat} {v : Value} {l : List El} (h : OwnE w B v l) (hb : B' ≤ B) : OwnE w B' v l :=
  ⟨h.1, h.2.imp id fun ⟨g, cap, cur, h1, h2, h3⟩ => ⟨g, cap, cur, h1, Nat.le_trans hb h2, h3⟩⟩
/-- What divide answers: an error, and the elements. -/
noncomputable def divP (t : Int) (c : ByteArray) : List El × Nat := if t ≠ 48 then ([], 5) else lst c
theorem divP_no {t : Int} (h : t ≠ 48) (c : ByteArray) : divP t c = ([], 5) := if_pos h
theorem divP_yes (c : ByteArray) : divP 48 c = lst c := if_neg (by simp)
theorem chkAlg_div (t : Int) (c : ByteArray) : chkAlg t c = if (divP t c).2 ≠ 0 then (divP t c).2 else algL (divP t c).1 := by
  unfold chkAlg
  by_cases h : t = 48
  · subst h; rw [if_neg (by simp), divP_yes]
  · rw [if_pos h, divP_no h, if_pos (by simp)]
theorem divP_mem {t : Int} {c : ByteArray} {B : Nat} (hc : c.size ≤ B) (z : El) (hz : z ∈ (divP t c).1) : z.2.1.size ≤ B := by
  by_cases h : t = 48
  · subst h; rw [divP_yes] at hz; exact Nat.le_trans (lst_mem _ c (Nat.le_refl _) z hz) hc
  · rw [divP_no h] at hz; cases hz
theorem divP_len {t : Int} {c : ByteArray} {B : Nat} (hc : c.size ≤ B) : (divP t c).1.length ≤ B := by
  by_cases h : t = 48
  · subst h; rw [divP_yes]; exact Nat.le_trans (lst_length c _ (Nat.le_refl _)) hc
  · rw [divP_no h]; exact Nat.zero_le _
set_option maxRecDepth 100000 in
set_option maxHeartbeats 2000000 in
theorem kdiv_any (t : Int) (c r : ByteArray) (w : World) (hc : c.size ≤ 1000000) :
    Calls Tryz.prog 37 #[.agg #[.int .i64 t, .string c, .string r]] w fun e w' => ∃ v, e = .returned (.tuple #[v, .int .i64 (((divP t c).2 : Nat) : Int)]) ∧ OwnE w' w.heap.size v (divP t c).1 ∧ Below w.heap.size w w' := by
  obtain ⟨g, hg⟩ : ∃ g, g = w.heap.size := ⟨_, rfl⟩
  obtain ⟨W0, hW0⟩ : ∃ W0, W0 = w.alloc (.cells #[.int .i64 t, .string c, .string r] 42) := ⟨_, rfl⟩
  have hb0 : Below w.heap.size w W0 := by rw [hW0]; exact belowNew w _
  have hq0 : W0.heap[g]? = some (.cells #[.int .i64 t, .string c, .string r] 42 (0, 0)) := by rw [hW0, hg]; exact heap_alloc_new w _
  obtain ⟨e0, e1, e2, el⟩ := kcell3 hq0
  have HB0 := Lib.hid hb0
  have HW0 := Lib.hid hW0.symm
  have HG := Lib.hid hg
  clear hW0 hb0 hq0 hg
  by_cases h48 : t = 48
  case neg =>
    rw [divP_no h48]
    have d0 : (t != 48) = true := by simp; omega
    clear h48 hc
    go_enter Tryz.func37, Tryz.ntmps37
    go_upto_region 1 with fail
    rw [HW0.out, ← HG.out]
    go_wp2_with fail
    go_ret2
    exact ⟨_, rfl, World.ownsRow_nil _ _ _ _, HB0.out⟩
  subst h48
  rw [divP_yes]
  have HLS := Lib.hid (fun W => list_any c W (by omega))
  generalize lst c = LE at HLS ⊢
  obtain ⟨l, er⟩ := LE
  simp only at HLS ⊢
  clear hc
  go_enter Tryz.func37, Tryz.ntmps37
  go_upto_region 1 with fail
  rw [HW0.out, ← HG.out]
  go_wp2_with (first
    | (go_at_call 56
       (with_reducible refine (HLS.out _).mono ?_)
       rintro e w1 ⟨v1, rfl, ho1, hb1⟩
       have HO1 := Lib.hid ho1
       have HB1 := Lib.hid hb1
       clear ho1 hb1 e0 e1 e2 el))
  go_ret2
  exact ⟨_, rfl, ownE_base HO1.out HB0.out.size, below_next HB0.out HB1.out⟩
set_option maxRecDepth 100000 in
set_option maxHeartbeats 4000000 in
theorem kchk_any : ChkPk := by
  intro t c r w hc hP
  obtain ⟨g, hg⟩ : ∃ g, g = w.heap.size := ⟨_, rfl⟩
  obtain ⟨W0, hW0⟩ : ∃ W0, W0 = w.alloc (.cells #[.int .i64 t, .string c, .string r] 42) := ⟨_, rfl⟩
  have hb0 : Below w.heap.size w W0 := by rw [hW0]; exact belowNew w _
  have hq0 : W0.heap[g]? = some (.cells #[.int .i64 t, .string c, .string r] 42 (0, 0)) := by rw [hW0, hg]; exact heap_alloc_new w _
  obtain ⟨e0, e1, e2, el⟩ := kcell3 hq0
  have HP := Lib.hid hP
  have HB0 := Lib.hid hb0
  have HW0 := Lib.hid hW0.symm
  have HG := Lib.hid hg
  clear hW0 hb0 hq0 hg hP
  rw [chkAlg_div]
  have HLS := Lib.hid (fun W => kdiv_any t c r W hc)
  have HMEM := Lib.hid (fun z hz => divP_mem (t := t) hc z hz)
  have hlen := divP_len (t := t) hc
  obtain ⟨E, hE⟩ : ∃ E, E = if (divP t c).2 ≠ 0 then (divP t c).2 else algL (divP t c).1 := ⟨_, rfl⟩
  rw [← hE]
  have HRES := Lib.hid hE
  clear hE hc
  generalize divP t c = LE at HLS HRES HMEM hlen
  obtain ⟨l, er⟩ := LE
  simp only at HLS HRES HMEM hlen
  go_enter Tryz.func21, Tryz.ntmps21
  go_upto_region 1 with fail
  rw [HW0.out, ← HG.out]
  go_upto_region 2 with (first
    | (go_at_call 37
       (with_reducible refine (HLS.out _).mono ?_)
       rintro e w1 ⟨v1, rfl, ho1, hb1⟩
       obtain ⟨a, cp, rfl, hlc, hel, hbk⟩ := ElAt.of ho1
       have HB1 := Lib.hid (below_next HB0.out hb1)
       clear ho1 hb1 e0 e1 e2 el))
  obtain ⟨n, hn⟩ : ∃ n, n = l.length := ⟨_, rfl⟩
  rw [← hn] at hlc hlen ⊢
  have HN := Lib.hid hn
  have HEL := Lib.hid hel
  clear hn hel
  by_cases hz : er = 0
  case neg =>
    obtain rfl : E = er := by have := HRES.out; rw [if_pos hz] at this; exact this
    have hz1 := errno_ne hz
    clear hz
    go_wp2_with fail
    go_ret
    exact ⟨rfl, HB1.out⟩
  subst hz
  have HRE := Lib.hid (show E = algL l by have := HRES.out; rwa [if_neg (by simp)] at this)
  clear HRES
  cases l with
  | nil =>
    obtain rfl : E = 3 := HRE.out
    obtain rfl : n = 0 := HN.out
    go_wp2_with fail
    go_ret
    exact ⟨rfl, HB1.out⟩
  | cons x q =>
    obtain ⟨b, o, rfl, hcl⟩ := HEL.out.resolve_left (by simp)
    have hn1 : 1 ≤ n := by have := HN.out; simp at this; omega
    have hn0 : ((n : Int) == 0) = false := by simp; omega
    have hn2 : ¬ n = 0 := by omega
    obtain ⟨x0, x1, x2⟩ := hcl 0 (by simp)
    rw [show (x :: q).getD 0 ((0 : Nat), (⟨#[]⟩ : ByteArray), (⟨#[]⟩ : ByteArray)) = x from rfl] at x0 x1 x2
    have HXM := Lib.hid (HMEM.out x (by simp))
    clear hcl hbk
    obtain ⟨xt, xc, xr⟩ := x
    simp only at x0 x1 x2 HXM
    rw [Nat.zero_mul, Nat.add_zero] at x0 x1 x2
    by_cases hx6 : xt = 6
    case neg =>
      obtain rfl : E = 5 := by have := HRE.out; rwa [algL_tag hx6] at this
      have d6 : ((xt : Int) != 6) = true := by simp; omega
      clear hx6
      go_wp2_with fail
      go_ret
      exact ⟨rfl, HB1.out⟩
    subst hx6
    have HDC := Lib.hid (decode_any xc w1 (by have := HXM.out; omega) (HP.out.below HB1.out))
    go_upto_region 9 with (first
      | (go_at_call 45
         (with_reducible refine HDC.out.mono ?_)
         rintro e w4 ⟨hdc, hb4⟩
         rcases oidD_decd hdc with ⟨id, hid, rfl⟩ | ⟨hid, rfl⟩))
    · have HB4 := Lib.hid (below_next HB1.out hb4)
      have HRF := Lib.hid (show E = if id ≠ oidA ∨ q ≠ [] then 16 else 0 by have := HRE.out; rwa [algL_end (x := ((6 : Nat), xc, xr)) rfl hid] at this)
      clear hdc hid hb4 x0 x1 x2
      by_cases hida : id = oidA
      case neg =>
        obtain rfl : E = 16 := by have := HRF.out; rwa [if_pos (.inl hida)] at this
        have hbe : (id.toList == oidA.toList) = false := (beq_strk id oidA).trans (by simp [hida])
        rw [Lib.toList_data oidA, show oidA.data.toList = [49, 46, 51, 46, 54, 46, 49, 46, 52, 46, 49, 46, 53, 56, 56, 56, 56, 46, 49, 46, 49] from rfl] at hbe
        clear hida
        go_wp2_with fail
        go_ret
        exact ⟨rfl, HB4.out⟩
      have hbe : (id.toList == oidA.toList) = true := (beq_strk id oidA).trans (by simp [hida])
      rw [Lib.toList_data oidA, show oidA.data.toList = [49, 46, 51, 46, 54, 46, 49, 46, 52, 46, 49, 46, 53, 56, 56, 56, 56, 46, 49, 46, 49] from rfl] at hbe
      cases q with
      | nil =>
        obtain rfl : E = 0 := by have := HRF.out; rwa [if_neg (by simp [hida])] at this
        obtain rfl : n = 1 := HN.out
        clear hida
        go_wp2_with fail
        go_ret
        exact ⟨rfl, HB4.out⟩
      | cons y q2 =>
        obtain rfl : E = 16 := by have := HRF.out; rwa [if_pos (.inr (by simp))] at this
        have hn3 : 1 < n := by have := HN.out; simp at this; omega
        have d1 : decide ((1 : Int) < (n : Int)) = true := by simp; omega
        clear hida
        go_wp2_with fail
        go_ret
        exact ⟨rfl, HB4.out⟩
    · have HB4 := Lib.hid (below_next HB1.out hb4)
      obtain rfl : E = 11 := by have := HRE.out; rwa [algL_oid (x := ((6 : Nat), xc, xr)) rfl hid] at this
      clear hdc hid hb4 x0 x1 x2
      go_wp2_with fail
      go_ret
      exact ⟨rfl, HB4.out⟩
end Go.Proofs.YtpmlkofceidnjaaGreatDoor
namespace Go.Proofs.YtpmlkofceidnjaaGreatDoor
open Go.RowKit

/-- What takeBits answers. -/
def tbE (t : Nat) (c : ByteArray) : Nat := if t ≠ 3 then 5 else (keyB c).1
/-- The decoder of block p holds a key. -/
def DecAt (w : World) (p : Nat) (k : KeyT) : Prop := w.heap[p]? = some (.cells #[.int .i64 k.1, .string k.2.1, .string k.2.2] 62 (0, 0))
theorem DecAt.lt {w : World} {p : Nat} {k : KeyT} (h : DecAt w p k) : p < w.heap.size := (Array.getElem?_eq_some_iff.1 h).1
theorem DecAt.below {w w' : World} {p : Nat} {k : KeyT} (h : DecAt w p k) (hb : Below w.heap.size w w') : DecAt w' p k := (hb.block p h.lt).trans h
theorem DecAt.facts {w : World} {p : Nat} {k : KeyT} (h : DecAt w p k) : w.cell? ⟨p, 0, none⟩ = some (.int .i64 k.1) ∧ w.cell? ⟨p, 1, none⟩ = some (.string k.2.1) ∧ w.cell? ⟨p, 2, none⟩ = some (.string k.2.2) ∧ w.frozen? ⟨p, 0, none⟩ = false ∧ w.frozen? ⟨p, 1, none⟩ = false ∧ w.frozen? ⟨p, 2, none⟩ = false ∧ p < w.heap.size := el_facts h
theorem DecAt.put {w : World} {p : Nat} {k : KeyT} (h : DecAt w p k) (x : Int) (y z : ByteArray) : DecAt (((w.setCell ⟨p, 0, none⟩ (.int .i64 x)).setCell ⟨p, 1, none⟩ (.string y)).setCell ⟨p, 2, none⟩ (.string z)) p (x, y, z) := el_set h
theorem but_put {p : Nat} {a w : World} (h : But p a w) (x y z : Value) : But p a (((w.setCell ⟨p, 0, none⟩ x).setCell ⟨p, 1, none⟩ y).setCell ⟨p, 2, none⟩ z) := ((h.next (But.set p 0 w x)).next (But.set p 1 _ y)).next (But.set p 2 _ z)

/-- The decoder of block p holds a key, which is K if there is no error. -/
def DecEnd (w : World) (p E : Nat) (K : KeyT) : Prop := ∃ k, DecAt w p k ∧ (E = 0 → k = K)
theorem DecEnd.mk {w : World} {p E : Nat} {k K : KeyT} (h : DecAt w p k) (hk : E = 0 → k = K) : DecEnd w p E K := ⟨k, h, hk⟩
theorem DecEnd.ex {w : World} {p E : Nat} {K : KeyT} (h : DecEnd w p E K) : ∃ k, DecAt w p k ∧ (E = 0 → k = K) := h

set_option maxRecDepth 100000 in
set_option maxHeartbeats 1000000 in
theorem kta_any (p : Nat) (t : Nat) (c r : ByteArray) (w : World) (hc : c.size ≤ 1000000) (hP : Pow10 w) :
    Calls Tryz.prog 57 #[.pointer (some ⟨p, 0, none⟩), .agg #[.int .i64 (t : Int), .string c, .string r]] w fun e w' => e = .returned (.int .i64 ((chkAlg (t : Int) c : Nat) : Int)) ∧ Below w.heap.size w w' := by
  obtain ⟨g, hg⟩ : ∃ g, g = w.heap.size := ⟨_, rfl⟩
  obtain ⟨W0, hW0⟩ : ∃ W0, W0 = w.alloc (.cells #[.int .i64 (t : Int), .string c, .string r] 42) := ⟨_, rfl⟩
  have hb0 : Below w.heap.size w W0 := by rw [hW0]; exact belowNew w _
  have hq0 : W0.heap[g]? = some (.cells #[.int .i64 (t : Int), .string c, .string r] 42 (0, 0)) := by rw [hW0, hg]; exact heap_alloc_new w _
  obtain ⟨e0, e1, e2, el⟩ := kcell3 hq0
  have HCK := Lib.hid (kchk_any (t : Int) c r W0 hc (hP.below hb0))
  obtain ⟨E, hE⟩ : ∃ E, E = chkAlg (t : Int) c := ⟨_, rfl⟩
  rw [← hE] at HCK ⊢
  have HB0 := Lib.hid hb0
  have HW0 := Lib.hid hW0.symm
  have HG := Lib.hid hg
  clear hW0 hb0 hq0 hg hP hE hc
  go_enter Tryz.func57, Tryz.ntmps57
  go_upto_region 1 with fail
  rw [HW0.out, ← HG.out]
  go_wp2_with (first
    | (go_at_call 21
       (with_reducible refine HCK.out.mono ?_)
       rintro e w1 ⟨rfl, hb1⟩
       have HB1 := Lib.hid (below_next HB0.out hb1)
       clear hb1 e0 e1 e2 el))
  go_ret
  exact ⟨rfl, HB1.out⟩

set_option maxRecDepth 100000 in
set_option maxHeartbeats 4000000 in
theorem ktb_any (p : Nat) (k0 : KeyT) (t : Nat) (c r : ByteArray) (w : World) (hc : c.size ≤ 1000000) (hp : DecAt w p k0) :
    Calls Tryz.prog 58 #[.pointer (some ⟨p, 0, none⟩), .agg #[.int .i64 (t : Int), .string c, .string r]] w fun e w' => e = .returned (.int .i64 ((tbE t c : Nat) : Int)) ∧ But p w w' ∧ DecEnd w' p (tbE t c) (keyB c).2 := by
  obtain ⟨ti, hti⟩ : ∃ ti : Int, ti = (t : Int) := ⟨_, rfl⟩
  rw [← hti]
  obtain ⟨g, hg⟩ : ∃ g, g = w.heap.size := ⟨_, rfl⟩
  obtain ⟨W0, hW0⟩ : ∃ W0, W0 = w.alloc (.cells #[.int .i64 ti, .string c, .string r] 42) := ⟨_, rfl⟩
  have hb0 : Below w.heap.size w W0 := by rw [hW0]; exact belowNew w _
  have hq0 : W0.heap[g]? = some (.cells #[.int .i64 ti, .string c, .string r] 42 (0, 0)) := by rw [hW0, hg]; exact heap_alloc_new w _
  obtain ⟨e0, e1, e2, el⟩ := kcell3 hq0
  have HB0 : Hid (But p w W0) := Lib.hid (But.of hb0)
  have HP0 := Lib.hid (hp.below hb0)
  have HW0 := Lib.hid hW0.symm
  have HG := Lib.hid hg
  clear hW0 hb0 hq0 hg hp
  unfold tbE
  by_cases h3 : t = 3
  case neg =>
    rw [if_pos h3]
    have d0 : (ti != 3) = true := by simp; omega
    clear h3 hc hti
    go_enter Tryz.func58, Tryz.ntmps58
    go_upto_region 1 with fail
    rw [HW0.out, ← HG.out]
    go_wp2_with fail
    go_ret
    exact ⟨rfl, HB0.out, .mk HP0.out fun h => absurd h (by decide)⟩
  rw [if_neg (fun k => k h3)]
  obtain rfl : ti = 3 := by omega
  clear h3 hti
  have HBT := Lib.hid (fun W => bits_any c W (by omega))
  unfold bitsVal at HBT
  obtain ⟨E, K, hEK⟩ : ∃ E K, keyB c = (E, K) := ⟨_, _, rfl⟩
  rw [hEK]
  have HR4 := Lib.hid (show (E, K) = keyB c from hEK.symm)
  clear hEK hc
  have hkb := fun (h : bitsErr c ≠ 0) => keyB_bad h
  have hkl := fun (h : bitsErr c = 0) k => keyB_len h k
  have hkk := fun (h : bitsErr c = 0) h2 h3 => keyB_key h h2 h3
  have hbo := bitsErr_or c
  generalize bitsErr c = be0 at hkb hkl hkk hbo HBT
  generalize bitsNum c = bn at hkl hkk HBT
  generalize bitsStr c = s at hkl hkk HBT
  generalize keyB c = kb at hkb hkl hkk HR4
  go_enter Tryz.func58, Tryz.ntmps58
  go_upto_region 1 with fail
  rw [HW0.out, ← HG.out]
  go_upto_region 4 with (first
    | (go_at_call 79
       (with_reducible refine (HBT.out _).mono ?_)
       rintro e w1 ⟨rfl, hb1⟩
       have HB1 : Hid (But p w w1) := Lib.hid (HB0.out.next (But.of hb1))
       have HP1 := Lib.hid (HP0.out.below hb1)
       clear hb1 e0 e1 e2 el))
  by_cases hz : be0 = 0
  case neg =>
    obtain ⟨rfl, rfl⟩ : E = 7 ∧ K = nok := by have h9 := HR4.out; rw [hkb hz] at h9; exact Prod.mk.inj h9
    obtain rfl : be0 = 7 := by omega
    clear hz hbo hkb hkl hkk
    go_wp2_with fail
    go_ret
    exact ⟨rfl, HB1.out, .mk HP1.out fun h => absurd h (by decide)⟩
  subst hz
  have HKL := Lib.hid (fun k => hkl rfl k)
  have HKK := Lib.hid (fun h2 h3 => hkk rfl h2 h3)
  clear hkb hkl hkk hbo
  by_cases hl : bn ≠ 0 ∨ s.size ≠ 33
  case pos =>
    obtain ⟨rfl, rfl⟩ : E = 18 ∧ K = nok := by have h9 := HR4.out; rw [HKL.out hl] at h9; exact Prod.mk.inj h9
    by_cases hb0 : bn = 0
    · subst hb0
      obtain ⟨m, hm⟩ : ∃ m, m = s.size := ⟨_, rfl⟩
      have hmi : (s.size : Int) = (m : Int) := by rw [hm]
      have d1 : ((m : Int) == 33) = false := by simp; omega
      have d2 : ((m : Int) != 33) = true := by simp; omega
      have d3 : ¬ (m : Int) = 33 := by omega
      clear hl hm
      go_wp2_with fail
      go_ret
      exact ⟨rfl, HB1.out, .mk HP1.out fun h => absurd h (by decide)⟩
    · have d1 := errno_ne hb0
      clear hl hb0
      go_wp2_with fail
      go_ret
      exact ⟨rfl, HB1.out, .mk HP1.out fun h => absurd h (by decide)⟩
  have hs33 : s.size = 33 := by omega
  have hsi : (s.size : Int) = 33 := by omega
  obtain rfl : bn = 0 := by omega
  have hR5 := HKK.out rfl hs33
  clear hl HKL HKK
  have hi0 : ∀ w, (Instr.index 9 (.string s) (.int .i64 0)).run Tryz.prog w = .ok (.int .u8 ((u8at s 0 : Nat) : Int)) w := fun w => run_index_u8 Tryz.underlying9 s 0 (by omega) 0 rfl w
  have hu8 := u8at_lt s 0
  have hkof : keyOf s = ((u8at s 0 : Int), s.extract 1 17, s.extract 17 33) := rfl
  generalize keyOf s = kk at hR5 hkof
  generalize u8at s 0 = u at hi0 hu8 hkof
  obtain ⟨i1, hi1⟩ : ∃ i1, i1 = s.extract 1 17 := ⟨_, rfl⟩
  obtain ⟨i2, hi2⟩ : ∃ i2, i2 = s.extract 17 33 := ⟨_, rfl⟩
  have hx1 : s.extract 1 17 = i1 := hi1.symm
  have hx2 : s.extract 17 33 = i2 := hi2.symm
  have hx3 : s.extract 17 s.size = i2 := by rw [hs33]; exact hx2
  rw [hx1, hx2] at hkof
  subst hkof
  have HR5 := Lib.hid hR5
  have huw : IntKind.i64.wrap (u : Int) = (u : Int) := by rw [wrap_i64]; omega
  have HCK2 := Lib.hid (fun W => kck_any ((u : Int), i1, i2) W)
  unfold keyVV keyV at HCK2
  simp only at HCK2
  clear hi1 hi2 hR5 hs33
  obtain ⟨q0, q1, q2, f0, f1, f2, pl⟩ := HP1.out.facts
  go_wp2_with fail
  go_region
  obtain ⟨X6, hX6⟩ : ∃ X6, X6 = (((w1.setCell ⟨p, 0, none⟩ (.int .i64 (u : Int))).setCell ⟨p, 1, none⟩ (.string i1)).setCell ⟨p, 2, none⟩ (.string i2)).drew := ⟨_, rfl⟩
  have hbX : But p w X6 := by rw [hX6]; exact (but_put HB1.out _ _ _).drew
  have hqX : DecAt X6 p ((u : Int), i1, i2) := by rw [hX6]; exact HP1.out.put _ _ _
  rw [← hX6]
  have HX6 := Lib.hid hX6
  clear hX6 q0 q1 q2 f0 f1 f2 pl
  obtain ⟨q0, q1, q2, f0, f1, f2, pl⟩ := hqX.facts
  have HBX := Lib.hid hbX
  have HQX := Lib.hid hqX
  clear hbX hqX
  simp only at q0 q1 q2
  go_wp2_with (first
    | (go_at_call 25
       (with_reducible refine (HCK2.out _).mono ?_)
       rintro e w7 ⟨rfl, hb7⟩
       have HB7 : Hid (But p w w7) := Lib.hid (HBX.out.next (But.of hb7))
       have HQ7 := Lib.hid (HQX.out.below hb7)
       clear hb7))
  go_ret
  have h9 := HR4.out
  rw [HR5.out] at h9
  rcases keyEE_or ((u : Int), i1, i2) with hz | hz
  · rw [if_neg (by rw [hz]; decide)] at h9
    obtain ⟨rfl, rfl⟩ := Prod.mk.inj h9
    rw [hz]
    exact ⟨rfl, HB7.out, .mk HQ7.out fun _ => rfl⟩
  · rw [if_pos (by rw [hz]; decide)] at h9
    obtain ⟨rfl, rfl⟩ := Prod.mk.inj h9
    rw [hz]
    exact ⟨rfl, HB7.out, .mk HQ7.out fun h => absurd h (by decide)⟩
end Go.Proofs.YtpmlkofceidnjaaGreatDoor
namespace Go.Proofs.YtpmlkofceidnjaaGreatDoor
open Go.RowKit

theorem cell_butk {w w' : World} {b j p : Nat} {v : Value} (hc : w.cell? ⟨b, j, none⟩ = some v) (hb : But p w w') (hne : b ≠ p) : w'.cell? ⟨b, j, none⟩ = some v :=
  (World.cell?_of_block (w := w) (a := ⟨b, j, none⟩) (hb.block b (block_lt_of_cell hc) (by simpa using hne))).trans hc
theorem keyL_chk {x : El} {r : List El} (h : chkAlg (x.1 : Int) x.2.1 ≠ 0) : keyL (x :: r) = (chkAlg (x.1 : Int) x.2.1, nok) := by
  cases r with
  | nil => rw [keyL_one, if_pos h]
  | cons y q => rw [keyL_two, if_pos h]
theorem keyL_short {x : El} (h : chkAlg (x.1 : Int) x.2.1 = 0) : keyL [x] = (3, nok) := by rw [keyL_one, if_neg (fun k => k h)]
theorem keyL_tb {x y : El} {q : List El} (h : chkAlg (x.1 : Int) x.2.1 = 0) : keyL (x :: y :: q) = if tbE y.1 y.2.1 ≠ 0 then (tbE y.1 y.2.1, nok) else if q ≠ [] then (4, nok) else (0, (keyB y.2.1).2) := by
  rw [keyL_two, if_neg (fun k => k h)]
  unfold tbE
  by_cases h3 : y.1 = 3
  · simp [h3]
  · simp [h3]

set_option maxRecDepth 100000 in
set_option maxHeartbeats 8000000 in
theorem kdl_any (w0 : World) (p : Nat) (k0 : KeyT) (l : List El) (n : Nat) (a : Option Addr) (cp : Nat) (w : World) (hn : n = l.length) (hel : ElAt w a l) (hap : ∀ x, a = some x → l ≠ [] → x.block ≠ p) (hsz : ∀ z ∈ l, z.2.1.size ≤ 1000000) (hlen : n ≤ 1000000) (hP : Pow10 w0) (hw : Below w0.heap.size w0 w) (hwp : w0.heap.size ≤ p) (hp : DecAt w p k0) :
    Calls Tryz.prog 38 #[.pointer (some ⟨p, 0, none⟩), .slice a n cp] w fun e w' => e = .returned (.int .i64 (((keyL l).1 : Nat) : Int)) ∧ But p w w' ∧ DecEnd w' p (keyL l).1 (keyL l).2 := by
  have hpl := hp.lt
  have HPW : Hid (∀ W : World, But p w W → Pow10 W) := Lib.hid fun W hb => hP.below (hw.trans ((hb.below (Nat.le_of_lt hpl)).mono hwp))
  obtain ⟨R, hR⟩ : ∃ R, R = w.heap.size := ⟨_, rfl⟩
  obtain ⟨W1, hW1⟩ : ∃ W1, W1 = w.alloc (.cells #[.func (.func 57) #[] #[], .func (.func 58) #[] #[]] 80) := ⟨_, rfl⟩
  have hb1 : Below w.heap.size w W1 := by rw [hW1]; exact belowNew w _
  have hq1 : W1.heap[R]? = some (.cells #[.func (.func 57) #[] #[], .func (.func 58) #[] #[]] 80 (0, 0)) := by rw [hW1, hR]; exact heap_alloc_new w _
  have HR0 : Hid (W1.cell? ⟨R, 0, none⟩ = some (.func (.func 57) #[] #[])) := Lib.hid (by rw [Lib.cell_of_heap hq1]; rfl)
  have HR1 : Hid (W1.cell? ⟨R, 1, none⟩ = some (.func (.func 58) #[] #[])) := Lib.hid (by rw [Lib.cell_of_heap hq1]; rfl)
  have HRP : Hid (R ≠ p) := Lib.hid (by omega)
  have HEL := Lib.hid (hel.below hb1)
  have HP1 := Lib.hid (hp.below hb1)
  have HB1 : Hid (But p w W1) := Lib.hid (But.of hb1)
  have HSZ := Lib.hid hsz
  have HAP := Lib.hid hap
  have HW1 := Lib.hid hW1.symm
  have HR := Lib.hid hR
  have HN := Lib.hid hn
  obtain ⟨E, K, hEK⟩ : ∃ E K, keyL l = (E, K) := ⟨_, _, rfl⟩
  rw [hEK]
  have HEK := Lib.hid hEK
  clear hpl hR hW1 hb1 hq1 hel hp hsz hap hP hw hwp hn hEK
  go_enter Tryz.func38, Tryz.ntmps38
  go_wp2_with fail
  rw [HW1.out, ← HR.out]
  go_loopw [12] (fun i wr => But p W1 wr ∧ ∃ k, DecAt wr p k ∧ (i = .int .i64 0 ∨ (i = .int .i64 1 ∧ ∃ x r, l = x :: r ∧ chkAlg (x.1 : Int) x.2.1 = 0) ∨ (i = .int .i64 2 ∧ ∃ x y r, l = x :: y :: r ∧ chkAlg (x.1 : Int) x.2.1 = 0 ∧ tbE y.1 y.2.1 = 0 ∧ k = (keyB y.2.1).2))) (fun i _ => 2 - (intOf i).toNat)
  case atStart => exact ⟨But.refl p W1, k0, HP1.out, .inl rfl⟩
  case round =>
    obtain ⟨hb, k, hd, hi⟩ := hrel
    have c0 := cell_butk HR0.out hb HRP.out
    have c1 := cell_butk HR1.out hb HRP.out
    have HB := Lib.hid hb
    have HD := Lib.hid hd
    have HPR := Lib.hid (HPW.out wr (HB1.out.next hb))
    clear hb hd
    rcases hi with rfl | ⟨rfl, x, r, hl, hx⟩ | ⟨rfl, x, y, r, hl, hx, hy, hk⟩
    · cases l with
      | nil =>
        obtain rfl : n = 0 := HN.out
        obtain ⟨rfl, rfl⟩ : 3 = E ∧ nok = K := Prod.mk.inj HEK.out
        go_wp2_with fail
        go_ret
        exact ⟨rfl, HB1.out.next HB.out, .mk HD.out fun h => absurd h (by decide)⟩
      | cons x r =>
        obtain ⟨b, o, rfl, hcl⟩ := HEL.out.resolve_left (by simp)
        have hbp := HAP.out _ rfl (by simp)
        simp only at hbp
        obtain ⟨x0, x1, x2⟩ := hcl 0 (by simp)
        rw [show (x :: r).getD 0 ((0 : Nat), (⟨#[]⟩ : ByteArray), (⟨#[]⟩ : ByteArray)) = x from rfl, Nat.zero_mul, Nat.add_zero] at x0 x1 x2
        have e0 := cell_butk x0 HB.out hbp
        have e1 := cell_butk x1 HB.out hbp
        have e2 := cell_butk x2 HB.out hbp
        have hn1 : 1 ≤ n := by have := HN.out; simp at this; omega
        have d0 : decide ((n : Int) ≤ 0) = false := by simp; omega
        have d1 : ¬ n = 0 := by omega
        have HTA := Lib.hid (kta_any p x.1 x.2.1 x.2.2 wr (HSZ.out x (by simp)) HPR.out)
        obtain ⟨ck, hck⟩ : ∃ ck, ck = chkAlg (x.1 : Int) x.2.1 := ⟨_, rfl⟩
        rw [← hck] at HTA
        have HCK := Lib.hid hck
        clear hcl hbp x0 x1 x2 hck
        obtain ⟨xt, xc, xr⟩ := x
        simp only at e0 e1 e2 HTA
        go_upto_region 8 with (first
          | (go_at_call 57
             (with_reducible refine HTA.out.mono ?_)
             rintro e w2 ⟨rfl, hb2⟩
             have HB2 : Hid (But p W1 w2) := Lib.hid (HB.out.next (But.of hb2))
             have HD2 := Lib.hid (HD.out.below hb2)
             clear hb2 e0 e1 e2))
        by_cases hz : ck = 0
        case neg =>
          obtain ⟨rfl, rfl⟩ : ck = E ∧ nok = K := by
            have h9 := HEK.out
            rw [keyL_chk (by rw [← HCK.out]; exact hz), ← HCK.out] at h9
            exact Prod.mk.inj h9
          have hz1 := errno_ne hz
          have hz2 := hz
          clear hz
          go_wp2_with fail
          go_ret
          exact ⟨rfl, HB1.out.next HB2.out, .mk HD2.out fun h => absurd h hz2⟩
        subst hz
        go_wp2_with fail
        go_roundw
        case rel => exact ⟨HB2.out, k, HD2.out, .inr (.inl ⟨rfl, _, _, rfl, HCK.out.symm⟩)⟩
        case measure => simp [intOf]
    · subst hl
      have HX := Lib.hid hx
      clear hx
      cases r with
      | nil =>
        obtain rfl : n = 1 := HN.out
        obtain ⟨rfl, rfl⟩ : 3 = E ∧ nok = K := by have h9 := HEK.out; rw [keyL_short HX.out] at h9; exact Prod.mk.inj h9
        go_wp2_with fail
        go_ret
        exact ⟨rfl, HB1.out.next HB.out, .mk HD.out fun h => absurd h (by decide)⟩
      | cons y q =>
        obtain ⟨b, o, rfl, hcl⟩ := HEL.out.resolve_left (by simp)
        have hbp := HAP.out _ rfl (by simp)
        simp only at hbp
        obtain ⟨x0, x1, x2⟩ := hcl 1 (by simp)
        rw [show (x :: y :: q).getD 1 ((0 : Nat), (⟨#[]⟩ : ByteArray), (⟨#[]⟩ : ByteArray)) = y from rfl, Nat.one_mul] at x0 x1 x2
        have e0 := cell_butk x0 HB.out hbp
        have e1 := cell_butk x1 HB.out hbp
        have e2 := cell_butk x2 HB.out hbp
        have hn1 : 2 ≤ n := by have := HN.out; simp at this; omega
        have d0 : decide ((n : Int) ≤ 1) = false := by simp; omega
        have d1 : ¬ n ≤ 1 := by omega
        have HTB := Lib.hid (ktb_any p k y.1 y.2.1 y.2.2 wr (HSZ.out y (by simp)) HD.out)
        obtain ⟨ck, hck⟩ : ∃ ck, ck = tbE y.1 y.2.1 := ⟨_, rfl⟩
        rw [← hck] at HTB
        have HCK := Lib.hid hck
        have HK9 := Lib.hid HEK.out
        rw [keyL_tb HX.out, ← hck] at HK9
        clear hcl hbp x0 x1 x2 hck
        obtain ⟨yt, yc, yr⟩ := y
        simp only at e0 e1 e2 HTB HK9
        go_upto_region 8 with (first
          | (go_at_call 58
             (with_reducible refine HTB.out.mono ?_)
             rintro e w2 ⟨rfl, hb2, hd2'⟩
             obtain ⟨k2, hd2, hk2⟩ := hd2'.ex
             have HB2 : Hid (But p W1 w2) := Lib.hid (HB.out.next hb2)
             have HD2 := Lib.hid hd2
             have HK2 := Lib.hid hk2
             clear hb2 e0 e1 e2 hd2 hk2 hd2'))
        by_cases hz : ck = 0
        case neg =>
          obtain ⟨rfl, rfl⟩ : ck = E ∧ nok = K := by
            have h9 := HK9.out
            rw [if_pos hz] at h9
            exact Prod.mk.inj h9
          have hz1 := errno_ne hz
          have hz2 := hz
          clear hz
          go_wp2_with fail
          go_ret
          exact ⟨rfl, HB1.out.next HB2.out, .mk HD2.out fun h => absurd h hz2⟩
        subst hz
        go_wp2_with fail
        go_roundw
        case rel => exact ⟨HB2.out, k2, HD2.out, .inr (.inr ⟨rfl, _, _, _, rfl, HX.out, HCK.out.symm, HK2.out rfl⟩)⟩
        case measure => simp [intOf]
    · subst hl
      have HK9 := Lib.hid HEK.out
      rw [keyL_tb hx, hy, if_neg (by simp)] at HK9
      have HKK := Lib.hid hk
      clear hx hy hk
      cases r with
      | nil =>
        obtain rfl : n = 2 := HN.out
        obtain ⟨rfl, rfl⟩ : 0 = E ∧ (keyB y.2.1).2 = K := by have h9 := HK9.out; rw [if_neg (by simp)] at h9; exact Prod.mk.inj h9
        go_wp2_with fail
        go_ret
        exact ⟨rfl, HB1.out.next HB.out, .mk HD.out fun _ => HKK.out⟩
      | cons z q =>
        obtain ⟨rfl, rfl⟩ : 4 = E ∧ nok = K := by have h9 := HK9.out; rw [if_pos (by simp)] at h9; exact Prod.mk.inj h9
        have hn3 : 2 < n := by have := HN.out; simp at this; omega
        have d2 : decide ((2 : Int) < (n : Int)) = true := by simp; omega
        go_wp2_with fail
        go_ret
        exact ⟨rfl, HB1.out.next HB.out, .mk HD.out fun h => absurd h (by decide)⟩
end Go.Proofs.YtpmlkofceidnjaaGreatDoor
namespace Go.Proofs.YtpmlkofceidnjaaGreatDoor
open Go.RowKit

theorem but_block {w w' : World} {p g : Nat} {o : Obj} (h : But p w w') (hg : w.heap[g]? = some o) (hne : g ≠ p) : w'.heap[g]? = some o :=
  (h.block g (Array.getElem?_eq_some_iff.1 hg).1 (by simpa using hne)).trans hg
theorem keyL_nok {l : List El} {E : Nat} {K : KeyT} (h : keyL l = (E, K)) (hE : E ≠ 0) : K = nok := by
  cases l with
  | nil => exact (Prod.mk.inj h).2.symm
  | cons x r =>
    by_cases hx : chkAlg (x.1 : Int) x.2.1 = 0
    · cases r with
      | nil => rw [keyL_short hx] at h; exact (Prod.mk.inj h).2.symm
      | cons y q =>
        rw [keyL_tb hx] at h
        split at h
        · exact (Prod.mk.inj h).2.symm
        · split at h
          · exact (Prod.mk.inj h).2.symm
          · exact absurd (Prod.mk.inj h).1.symm hE
    · rw [keyL_chk hx] at h; exact (Prod.mk.inj h).2.symm
set_option maxRecDepth 100000 in
set_option maxHeartbeats 8000000 in
theorem kdec_any : DecPk := by
  intro b w hb hP
  unfold decKV
  have HONE := Lib.hid (fun W => one_any b W (by omega))
  obtain ⟨E, K, hEK⟩ : ∃ E K, decK b = (E, K) := ⟨_, _, rfl⟩
  rw [hEK]
  have HRES := Lib.hid (show (E, K) = decK b from hEK.symm)
  clear hEK
  have HP := Lib.hid hP
  obtain ⟨W0, hW0⟩ : ∃ W0, W0 = w.alloc (.cells #[.int .i64 0, .string ⟨#[]⟩, .string ⟨#[]⟩] 23) := ⟨_, rfl⟩
  have HWE := Lib.hid hW0.symm
  have HB0 : Hid (Below w.heap.size w W0) := Lib.hid (by rw [hW0]; exact belowNew w _)
  have HZ0 : Hid (W0.heap[w.heap.size]? = some (.cells #[.int .i64 0, .string ⟨#[]⟩, .string ⟨#[]⟩] 23 (0, 0))) := Lib.hid (by rw [hW0]; exact key_new w _ _ _)
  clear hW0 hP
  unfold decK at HRES
  by_cases h1 : oneErr b = 0
  case neg =>
    obtain ⟨rfl, rfl⟩ : E = oneErr b ∧ K = nok := by have := HRES.out; rw [if_pos h1] at this; exact Prod.mk.inj this
    have hv : oneVal b = .tuple #[.agg #[.int .i64 0, .string ⟨#[]⟩, .string ⟨#[]⟩], .int .i64 ((oneErr b : Nat) : Int)] := by unfold oneVal; rw [if_neg h1]; rfl
    rw [hv] at HONE
    have hz1 := errno_ne h1
    generalize oneErr b = er at HONE hz1
    clear hv h1 HRES
    go_enter Tryz.func16, Tryz.ntmps16
    go_wp2_with fail
    rw [HWE.out]
    refine (HONE.out W0).mono ?_
    rintro e w1 ⟨rfl, hb1⟩
    have hbe := belowNew w1 (.cells #[.int .i64 0, .string ⟨#[]⟩, .string ⟨#[]⟩] 42)
    have HB1 := Lib.hid (below_next (below_next HB0.out hb1) hbe)
    have hz1' := (hb1.block w.heap.size (Array.getElem?_eq_some_iff.1 HZ0.out).1).trans HZ0.out
    have HZ1 := Lib.hid ((hbe.block w.heap.size (Array.getElem?_eq_some_iff.1 hz1').1).trans hz1')
    clear hb1 hbe hz1'
    obtain ⟨s0, s1, s2, f0, f1, f2, sl⟩ := el_facts HZ1.out
    go_wp2_with fail
    exact bodyPost_ret (kRes rfl _ _ _ _ _ _ rfl (el_set HZ1.out)) rfl ⟨rfl, el_below HB1.out (Nat.le_refl _)⟩
  obtain ⟨t, ht⟩ : ∃ t, t = rdTag b := ⟨_, rfl⟩
  obtain ⟨c, hc⟩ : ∃ c, c = rdContent b := ⟨_, rfl⟩
  obtain ⟨rw0, hr⟩ : ∃ r, r = rdRaw b := ⟨_, rfl⟩
  have hcz : c.size ≤ 1000000 := by rw [hc]; have := rdContent_size (oneErr_rd h1); omega
  have hv : oneVal b = .tuple #[.agg #[.int .i64 (t : Int), .string c, .string rw0], .int .i64 0] := by unfold oneVal elV; rw [if_pos h1, ht, hc, hr]
  rw [hv] at HONE
  have HR1 := Lib.hid (show (E, K) = if (divP (t : Int) c).2 ≠ 0 then ((divP (t : Int) c).2, nok) else keyL (divP (t : Int) c).1 by
    have h9 := HRES.out
    rw [if_neg (by omega), ← ht, ← hc] at h9
    rw [h9]
    by_cases h48 : t = 48
    · subst h48
      rw [if_neg (by simp), show ((48 : Nat) : Int) = 48 from rfl, divP_yes]
    · rw [if_pos h48, divP_no (by omega)]; rfl)
  clear hv ht hc hr h1 HRES hb
  go_enter Tryz.func16, Tryz.ntmps16
  go_wp2_with fail
  rw [HWE.out]
  refine (HONE.out W0).mono ?_
  rintro e w1 ⟨rfl, hb1⟩
  obtain ⟨ge, hge⟩ : ∃ ge, ge = w1.heap.size := ⟨_, rfl⟩
  obtain ⟨V1, hV1⟩ : ∃ V1, V1 = w1.alloc (.cells #[.int .i64 (t : Int), .string c, .string rw0] 42) := ⟨_, rfl⟩
  have hbV : Below w1.heap.size w1 V1 := by rw [hV1]; exact belowNew w1 _
  have hqe : V1.heap[ge]? = some (.cells #[.int .i64 (t : Int), .string c, .string rw0] 42 (0, 0)) := by rw [hV1, hge]; exact heap_alloc_new w1 _
  have HB1 := Lib.hid (below_next (below_next HB0.out hb1) hbV)
  have hz1' := (hb1.block w.heap.size (Array.getElem?_eq_some_iff.1 HZ0.out).1).trans HZ0.out
  have HZ1 := Lib.hid ((hbV.block w.heap.size (Array.getElem?_eq_some_iff.1 hz1').1).trans hz1')
  have HV1 := Lib.hid hV1.symm
  have HGE := Lib.hid hge
  obtain ⟨e0, e1, e2, _, _, _, el⟩ := el_facts hqe
  clear hb1 hbV hqe hV1 hge hz1'
  go_upto_region 2 with fail
  rw [HV1.out, ← HGE.out]
  have HLS := Lib.hid (fun W => kdiv_any (t : Int) c rw0 W hcz)
  have HMEM := Lib.hid (fun z hz => divP_mem (t := (t : Int)) hcz z hz)
  have hlen := divP_len (t := (t : Int)) hcz
  generalize divP (t : Int) c = LE at HLS HR1 HMEM hlen
  obtain ⟨l, er⟩ := LE
  simp only at HLS HR1 HMEM hlen
  clear hcz
  go_upto_region 5 with (first
    | (go_at_call 37
       (with_reducible refine (HLS.out _).mono ?_)
       rintro e w2 ⟨v1, rfl, ho1, hb2⟩
       obtain ⟨a, cp, rfl, hlc, hel, hbk⟩ := ElAt.of ho1
       have HB2 := Lib.hid (below_next HB1.out hb2)
       have HZ2 := Lib.hid ((hb2.block w.heap.size (Array.getElem?_eq_some_iff.1 HZ1.out).1).trans HZ1.out)
       have HBK := Lib.hid hbk
       clear ho1 hb2 hbk e0 e1 e2 el))
  obtain ⟨n, hn⟩ : ∃ n, n = l.length := ⟨_, rfl⟩
  rw [← hn] at hlc hlen ⊢
  have HN := Lib.hid hn
  have HEL := Lib.hid hel
  clear hn hel
  by_cases hz : er = 0
  case neg =>
    obtain ⟨rfl, rfl⟩ : E = er ∧ K = nok := by have := HR1.out; rw [if_pos hz] at this; exact Prod.mk.inj this
    have hz1 := errno_ne hz
    clear hz
    obtain ⟨s0, s1, s2, f0, f1, f2, sl⟩ := el_facts HZ2.out
    go_wp2_with fail
    exact bodyPost_ret (kRes rfl _ _ _ _ _ _ rfl (el_set HZ2.out)) rfl ⟨rfl, el_below HB2.out (Nat.le_refl _)⟩
  subst hz
  have HRE := Lib.hid (show (E, K) = keyL l by have := HR1.out; rwa [if_neg (by simp)] at this)
  clear HR1
  obtain ⟨p, hp⟩ : ∃ p, p = w2.heap.size := ⟨_, rfl⟩
  obtain ⟨W3, hW3⟩ : ∃ W3, W3 = w2.alloc (.cells #[.int .i64 0, .string ⟨#[]⟩, .string ⟨#[]⟩] 62) := ⟨_, rfl⟩
  have hb3 : Below w2.heap.size w2 W3 := by rw [hW3]; exact belowNew w2 _
  have hd3 : DecAt W3 p nok := by unfold DecAt; rw [hW3, hp]; exact heap_alloc_new w2 _
  have hwp : w.heap.size ≤ p := by rw [hp]; exact HB2.out.size
  have HB3 := Lib.hid (below_next HB2.out hb3)
  have HDL := Lib.hid (kdl_any w p nok l n a cp W3 HN.out (HEL.out.below hb3) (fun x hx hne => by have := (HBK.out x hx hne).2; omega) HMEM.out hlen HP.out HB3.out hwp hd3)
  have HZ3 := Lib.hid ((hb3.block w.heap.size (Array.getElem?_eq_some_iff.1 HZ2.out).1).trans HZ2.out)
  have HGP : Hid (w.heap.size ≠ p) := Lib.hid (by have := (Array.getElem?_eq_some_iff.1 HZ2.out).1; omega)
  rw [← HRE.out] at HDL
  have HW3 := Lib.hid hW3.symm
  have HP9 := Lib.hid hp
  have HWP := Lib.hid hwp
  have HPL := Lib.hid hd3.lt
  clear hp hW3 hb3 hd3 hwp
  go_upto_region 8 with fail
  rw [HW3.out, ← HP9.out]
  go_upto_region 9 with (first
    | (go_at_call 38
       (with_reducible refine HDL.out.mono ?_)
       rintro e w4 ⟨rfl, hb4, hd4'⟩
       obtain ⟨k, hd4, hk4⟩ := hd4'.ex
       have HZ4 := Lib.hid (but_block hb4 HZ3.out HGP.out)
       have HB4 := Lib.hid (HB3.out.trans ((hb4.below (Nat.le_of_lt HPL.out)).mono HWP.out))
       have HD4 := Lib.hid hd4
       have HK4 := Lib.hid hk4
       clear hb4 hd4 hk4 hd4'))
  by_cases hz : E = 0
  case neg =>
    obtain rfl : K = nok := by
      have h9 := HRE.out
      exact keyL_nok h9.symm hz
    have hz1 := errno_ne hz
    clear hz
    obtain ⟨s0, s1, s2, f0, f1, f2, sl⟩ := el_facts HZ4.out
    go_wp2_with fail
    exact bodyPost_ret (kRes rfl _ _ _ _ _ _ rfl (el_set HZ4.out)) rfl ⟨rfl, el_below HB4.out (Nat.le_refl _)⟩
  subst hz
  obtain rfl : k = K := HK4.out rfl
  obtain ⟨kh, kid, kroot⟩ := k
  obtain ⟨k0, k1, k2, _, _, _, kl⟩ := HD4.out.facts
  simp only at k0 k1 k2
  obtain ⟨s0, s1, s2, f0, f1, f2, sl⟩ := el_facts HZ4.out
  go_wp2_with fail
  exact bodyPost_ret (kRes rfl _ _ _ _ _ _ rfl (el_set HZ4.out)) rfl ⟨rfl, el_below HB4.out (Nat.le_refl _)⟩
end Go.Proofs.YtpmlkofceidnjaaGreatDoor
