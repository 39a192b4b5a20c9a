/-
  The contracts of the program's divide and CheckAlgorithm. (Of the landed program.)
  The contract of the reference's DecodeKey.
  The contracts of the program's takeAlgorithm, takeBits, decode and Decode. (Of the landed program.)
-/
import Derived.Test.YtpmlkofceidnjaaDoorAau
import Derived.Test.YtpmlkofceidnjaaDoorAaw
import Derived.Test.YtpmlkofceidnjaaDoorAal
import Derived.Test.YtpmlkofceidnjaaDoorAak
namespace Go.Proofs.YtpmlkofceidnjaaDoor
open Go.RowKit

theorem ownE_base {w : World} {B B' : Nat} {v : Value} {l : List El} (h : OwnE w B v l) (hb : B' ≤ B) : OwnE w B' v l :=
  ⟨h.1, h.2.imp id fun ⟨g, cap, cur, h1, h2, h3⟩ => ⟨g, cap, cur, h1, Nat.le_trans hb h2, h3⟩⟩
/-- What divide answers: an error, and the elements. -/
noncomputable def divP (t : Int) (c : ByteArray) : List El × Nat := if t ≠ 48 then ([], 5) else lst c
theorem divP_no {t : Int} (h : t ≠ 48) (c : ByteArray) : divP t c = ([], 5) := if_pos h
theorem divP_yes (c : ByteArray) : divP 48 c = lst c := if_neg (by simp)
theorem chkAlg_div (t : Int) (c : ByteArray) : chkAlg t c = if (divP t c).2 ≠ 0 then (divP t c).2 else algL (divP t c).1 := by
  unfold chkAlg
  by_cases h : t = 48
  · subst h; rw [if_neg (by simp), divP_yes]
  · rw [if_pos h, divP_no h, if_pos (by simp)]
theorem divP_mem {t : Int} {c : ByteArray} {B : Nat} (hc : c.size ≤ B) (z : El) (hz : z ∈ (divP t c).1) : z.2.1.size ≤ B := by
  by_cases h : t = 48
  · subst h; rw [divP_yes] at hz; exact Nat.le_trans (lst_mem _ c (Nat.le_refl _) z hz) hc
  · rw [divP_no h] at hz; cases hz
theorem divP_len {t : Int} {c : ByteArray} {B : Nat} (hc : c.size ≤ B) : (divP t c).1.length ≤ B := by
  by_cases h : t = 48
  · subst h; rw [divP_yes]; exact Nat.le_trans (lst_length c _ (Nat.le_refl _)) hc
  · rw [divP_no h]; exact Nat.zero_le _
set_option maxRecDepth 100000 in
set_option maxHeartbeats 2000000 in
theorem kdiv_any (t : Int) (c r : ByteArray) (w : World) (hc : c.size ≤ 1000000) :
    Calls Tryd.prog 18 #[.agg #[.int .i64 t, .string c, .string r]] w fun e w' => ∃ v, e = .returned (.tuple #[v, .int .i64 (((divP t c).2 : Nat) : Int)]) ∧ OwnE w' w.heap.size v (divP t c).1 ∧ Below w.heap.size w w' := by
  obtain ⟨g, hg⟩ : ∃ g, g = w.heap.size := ⟨_, rfl⟩
  obtain ⟨W0, hW0⟩ : ∃ W0, W0 = w.alloc (.cells #[.int .i64 t, .string c, .string r] 46) := ⟨_, rfl⟩
  have hb0 : Below w.heap.size w W0 := by rw [hW0]; exact belowNew w _
  have hq0 : W0.heap[g]? = some (.cells #[.int .i64 t, .string c, .string r] 46 (0, 0)) := by rw [hW0, hg]; exact heap_alloc_new w _
  obtain ⟨e0, e1, e2, el⟩ := kcell3 hq0
  have HB0 := Lib.hid hb0
  have HW0 := Lib.hid hW0.symm
  have HG := Lib.hid hg
  clear hW0 hb0 hq0 hg
  by_cases h48 : t = 48
  case neg =>
    rw [divP_no h48]
    have d0 : (t != 48) = true := by simp; omega
    clear h48 hc
    go_enter Tryd.func18, Tryd.ntmps18
    go_upto_region 1 with fail
    rw [HW0.out, ← HG.out]
    go_wp2_with fail
    go_ret2
    exact ⟨_, rfl, World.ownsRow_nil _ _ _ _, HB0.out⟩
  subst h48
  rw [divP_yes]
  have HLS := Lib.hid (fun W => list_any c W (by omega))
  generalize lst c = LE at HLS ⊢
  obtain ⟨l, er⟩ := LE
  simp only at HLS ⊢
  clear hc
  go_enter Tryd.func18, Tryd.ntmps18
  go_upto_region 1 with fail
  rw [HW0.out, ← HG.out]
  go_wp2_with (first
    | (go_at_call 31
       (with_reducible refine (HLS.out _).mono ?_)
       rintro e w1 ⟨v1, rfl, ho1, hb1⟩
       have HO1 := Lib.hid ho1
       have HB1 := Lib.hid hb1
       clear ho1 hb1 e0 e1 e2 el))
  go_ret2
  exact ⟨_, rfl, ownE_base HO1.out HB0.out.size, below_next HB0.out HB1.out⟩
set_option maxRecDepth 100000 in
set_option maxHeartbeats 4000000 in
theorem kchk_any : ChkPk := by
  intro t c r w hc hP
  obtain ⟨g, hg⟩ : ∃ g, g = w.heap.size := ⟨_, rfl⟩
  obtain ⟨W0, hW0⟩ : ∃ W0, W0 = w.alloc (.cells #[.int .i64 t, .string c, .string r] 46) := ⟨_, rfl⟩
  have hb0 : Below w.heap.size w W0 := by rw [hW0]; exact belowNew w _
  have hq0 : W0.heap[g]? = some (.cells #[.int .i64 t, .string c, .string r] 46 (0, 0)) := by rw [hW0, hg]; exact heap_alloc_new w _
  obtain ⟨e0, e1, e2, el⟩ := kcell3 hq0
  have HP := Lib.hid hP
  have HB0 := Lib.hid hb0
  have HW0 := Lib.hid hW0.symm
  have HG := Lib.hid hg
  clear hW0 hb0 hq0 hg hP
  rw [chkAlg_div]
  have HLS := Lib.hid (fun W => kdiv_any t c r W hc)
  have HMEM := Lib.hid (fun z hz => divP_mem (t := t) hc z hz)
  have hlen := divP_len (t := t) hc
  obtain ⟨E, hE⟩ : ∃ E, E = if (divP t c).2 ≠ 0 then (divP t c).2 else algL (divP t c).1 := ⟨_, rfl⟩
  rw [← hE]
  have HRES := Lib.hid hE
  clear hE hc
  generalize divP t c = LE at HLS HRES HMEM hlen
  obtain ⟨l, er⟩ := LE
  simp only at HLS HRES HMEM hlen
  go_enter Tryd.func49, Tryd.ntmps49
  go_upto_region 1 with fail
  rw [HW0.out, ← HG.out]
  go_upto_region 2 with (first
    | (go_at_call 18
       (with_reducible refine (HLS.out _).mono ?_)
       rintro e w1 ⟨v1, rfl, ho1, hb1⟩
       obtain ⟨a, cp, rfl, hlc, hel, hbk⟩ := ElAt.of ho1
       have HB1 := Lib.hid (below_next HB0.out hb1)
       clear ho1 hb1 e0 e1 e2 el))
  obtain ⟨n, hn⟩ : ∃ n, n = l.length := ⟨_, rfl⟩
  rw [← hn] at hlc hlen ⊢
  have HN := Lib.hid hn
  have HEL := Lib.hid hel
  clear hn hel
  by_cases hz : er = 0
  case neg =>
    obtain rfl : E = er := by have := HRES.out; rw [if_pos hz] at this; exact this
    have hz1 := errno_ne hz
    clear hz
    go_wp2_with fail
    go_ret
    exact ⟨rfl, HB1.out⟩
  subst hz
  have HRE := Lib.hid (show E = algL l by have := HRES.out; rwa [if_neg (by simp)] at this)
  clear HRES
  cases l with
  | nil =>
    obtain rfl : E = 3 := HRE.out
    obtain rfl : n = 0 := HN.out
    go_wp2_with fail
    go_ret
    exact ⟨rfl, HB1.out⟩
  | cons x q =>
    obtain ⟨b, o, rfl, hcl⟩ := HEL.out.resolve_left (by simp)
    have hn1 : 1 ≤ n := by have := HN.out; simp at this; omega
    have hn0 : ((n : Int) == 0) = false := by simp; omega
    have hn2 : ¬ n = 0 := by omega
    obtain ⟨x0, x1, x2⟩ := hcl 0 (by simp)
    rw [show (x :: q).getD 0 ((0 : Nat), (⟨#[]⟩ : ByteArray), (⟨#[]⟩ : ByteArray)) = x from rfl] at x0 x1 x2
    have HXM := Lib.hid (HMEM.out x (by simp))
    clear hcl hbk
    obtain ⟨xt, xc, xr⟩ := x
    simp only at x0 x1 x2 HXM
    rw [Nat.zero_mul, Nat.add_zero] at x0 x1 x2
    by_cases hx6 : xt = 6
    case neg =>
      obtain rfl : E = 5 := by have := HRE.out; rwa [algL_tag hx6] at this
      have d6 : ((xt : Int) != 6) = true := by simp; omega
      clear hx6
      go_wp2_with fail
      go_ret
      exact ⟨rfl, HB1.out⟩
    subst hx6
    have HDC := Lib.hid (decode_any xc w1 (by have := HXM.out; omega) (HP.out.below HB1.out))
    go_upto_region 9 with (first
      | (go_at_call 57
         (with_reducible refine HDC.out.mono ?_)
         rintro e w4 ⟨hdc, hb4⟩
         rcases oidD_decd hdc with ⟨id, hid, rfl⟩ | ⟨hid, rfl⟩))
    · have HB4 := Lib.hid (below_next HB1.out hb4)
      have HRF := Lib.hid (show E = if id ≠ oidA ∨ q ≠ [] then 16 else 0 by have := HRE.out; rwa [algL_end (x := ((6 : Nat), xc, xr)) rfl hid] at this)
      clear hdc hid hb4 x0 x1 x2
      by_cases hida : id = oidA
      case neg =>
        obtain rfl : E = 16 := by have := HRF.out; rwa [if_pos (.inl hida)] at this
        have hbe : (id.toList == oidA.toList) = false := (beq_strk id oidA).trans (by simp [hida])
        rw [Lib.toList_data oidA, show oidA.data.toList = [49, 46, 51, 46, 54, 46, 49, 46, 52, 46, 49, 46, 53, 56, 56, 56, 56, 46, 49, 46, 49] from rfl] at hbe
        clear hida
        go_wp2_with fail
        go_ret
        exact ⟨rfl, HB4.out⟩
      have hbe : (id.toList == oidA.toList) = true := (beq_strk id oidA).trans (by simp [hida])
      rw [Lib.toList_data oidA, show oidA.data.toList = [49, 46, 51, 46, 54, 46, 49, 46, 52, 46, 49, 46, 53, 56, 56, 56, 56, 46, 49, 46, 49] from rfl] at hbe
      cases q with
      | nil =>
        obtain rfl : E = 0 := by have := HRF.out; rwa [if_neg (by simp [hida])] at this
        obtain rfl : n = 1 := HN.out
        clear hida
        go_wp2_with fail
        go_ret
        exact ⟨rfl, HB4.out⟩
      | cons y q2 =>
        obtain rfl : E = 16 := by have := HRF.out; rwa [if_pos (.inr (by simp))] at this
        have hn3 : 1 < n := by have := HN.out; simp at this; omega
        have d1 : decide ((1 : Int) < (n : Int)) = true := by simp; omega
        clear hida
        go_wp2_with fail
        go_ret
        exact ⟨rfl, HB4.out⟩
    · have HB4 := Lib.hid (below_next HB1.out hb4)
      obtain rfl : E = 11 := by have := HRE.out; rwa [algL_oid (x := ((6 : Nat), xc, xr)) rfl hid] at this
      clear hdc hid hb4 x0 x1 x2
      go_wp2_with fail
      go_ret
      exact ⟨rfl, HB4.out⟩
end Go.Proofs.YtpmlkofceidnjaaDoor
namespace Go.Proofs.YtpmlkofceidnjaaDoor
open Go.RowKit

/-- Two keys that nothing was written to lie in block g and in the next. -/
def KZ (w : World) (g : Nat) : Prop := w.heap[g]? = some (.cells #[.int .i64 0, .string ⟨#[]⟩, .string ⟨#[]⟩] 26 (0, 0)) ∧ w.heap[g + 1]? = some (.cells #[.int .i64 0, .string ⟨#[]⟩, .string ⟨#[]⟩] 26 (0, 0))
theorem KZ.new (w : World) : KZ ((w.alloc (.cells #[.int .i64 0, .string ⟨#[]⟩, .string ⟨#[]⟩] 26)).alloc (.cells #[.int .i64 0, .string ⟨#[]⟩, .string ⟨#[]⟩] 26)) w.heap.size := by
  refine ⟨((belowNew _ _).block _ (by simp)).trans (heap_alloc_new w _), ?_⟩
  have := heap_alloc_new (w.alloc (.cells #[.int .i64 0, .string ⟨#[]⟩, .string ⟨#[]⟩] 26)) (.cells #[.int .i64 0, .string ⟨#[]⟩, .string ⟨#[]⟩] 26)
  simpa using this
theorem KZ.below {w w' : World} {g : Nat} (h : KZ w g) (hb : Below w.heap.size w w') : KZ w' g :=
  ⟨(hb.block g (Array.getElem?_eq_some_iff.1 h.1).1).trans h.1, (hb.block (g + 1) (Array.getElem?_eq_some_iff.1 h.2).1).trans h.2⟩
theorem KZ.but {w w' : World} {g q : Nat} (h : KZ w g) (hb : But q w w') (h1 : q ≠ g) (h2 : q ≠ g + 1) : KZ w' g :=
  ⟨(hb.block g (Array.getElem?_eq_some_iff.1 h.1).1 (by simpa using h1.symm)).trans h.1, (hb.block (g + 1) (Array.getElem?_eq_some_iff.1 h.2).1 (by simpa using h2.symm)).trans h.2⟩
theorem KZ.facts {w : World} {g : Nat} (h : KZ w g) : w.cell? ⟨g, 0, none⟩ = some (.int .i64 0) ∧ w.cell? ⟨g, 1, none⟩ = some (.string ⟨#[]⟩) ∧ w.cell? ⟨g, 2, none⟩ = some (.string ⟨#[]⟩) ∧ w.frozen? ⟨g, 0, none⟩ = false ∧ w.frozen? ⟨g, 1, none⟩ = false ∧ w.frozen? ⟨g, 2, none⟩ = false ∧ g < w.heap.size ∧
    w.cell? ⟨g + 1, 0, none⟩ = some (.int .i64 0) ∧ w.cell? ⟨g + 1, 1, none⟩ = some (.string ⟨#[]⟩) ∧ w.cell? ⟨g + 1, 2, none⟩ = some (.string ⟨#[]⟩) ∧ g + 1 < w.heap.size := by
  obtain ⟨a, b, c, d, e, f, l⟩ := el_facts h.1
  obtain ⟨a2, b2, c2, _, _, _, l2⟩ := el_facts h.2
  exact ⟨a, b, c, d, e, f, l, a2, b2, c2, l2⟩
theorem kRes {fn : Func} {p u : Tmp} (h : fn.results = #[.cell p 26, .tmp u]) (tmps : Array Value) (w : World) (g : Nat) (x y z : Value)
    (hp : tmps.getD p undef = .pointer (some ⟨g, 0, none⟩)) (hg : w.heap[g]? = some (.cells #[x, y, z] 26 (0, 0))) :
    (results fn tmps).run Tryd.prog w = .ok (.tuple #[.agg #[x, y, z], tmps.getD u undef]) w :=
  results_cell_row2 h tmps w g 26 #[x, y, z] (0, 0) _ hp hg Tryd.underlying26 rfl (by kernel_rfl)
theorem bitsErr_or (c : ByteArray) : bitsErr c = 0 ∨ bitsErr c = 7 := by
  unfold bitsErr
  split
  · exact .inr rfl
  · exact .inl rfl
theorem keyB_bad {c : ByteArray} (h : bitsErr c ≠ 0) : keyB c = (7, nok) := by unfold keyB; rw [if_pos h]
theorem keyB_len {c : ByteArray} (h : bitsErr c = 0) (k : bitsNum c ≠ 0 ∨ (bitsStr c).size ≠ 33) : keyB c = (18, nok) := by unfold keyB; rw [if_neg (by omega), if_pos k]
theorem keyB_key {c : ByteArray} (h : bitsErr c = 0) (h2 : bitsNum c = 0) (h3 : (bitsStr c).size = 33) : keyB c = if keyEE (keyOf (bitsStr c)) ≠ 0 then (18, nok) else (0, keyOf (bitsStr c)) := by unfold keyB; rw [if_neg (by omega), if_neg (by omega)]

end Go.Proofs.YtpmlkofceidnjaaDoor
namespace Go.Proofs.YtpmlkofceidnjaaDoor
open Go.RowKit

/-- What takeBits answers. -/
def tbE (t : Nat) (c : ByteArray) : Nat := if t ≠ 3 then 5 else (keyB c).1
/-- The decoder of block p holds a key. -/
def DecAt (w : World) (p : Nat) (k : KeyT) : Prop := w.heap[p]? = some (.cells #[.int .i64 k.1, .string k.2.1, .string k.2.2] 53 (0, 0))
theorem DecAt.lt {w : World} {p : Nat} {k : KeyT} (h : DecAt w p k) : p < w.heap.size := (Array.getElem?_eq_some_iff.1 h).1
theorem DecAt.below {w w' : World} {p : Nat} {k : KeyT} (h : DecAt w p k) (hb : Below w.heap.size w w') : DecAt w' p k := (hb.block p h.lt).trans h
theorem DecAt.facts {w : World} {p : Nat} {k : KeyT} (h : DecAt w p k) : w.cell? ⟨p, 0, none⟩ = some (.int .i64 k.1) ∧ w.cell? ⟨p, 1, none⟩ = some (.string k.2.1) ∧ w.cell? ⟨p, 2, none⟩ = some (.string k.2.2) ∧ w.frozen? ⟨p, 0, none⟩ = false ∧ w.frozen? ⟨p, 1, none⟩ = false ∧ w.frozen? ⟨p, 2, none⟩ = false ∧ p < w.heap.size := el_facts h
theorem DecAt.put {w : World} {p : Nat} {k : KeyT} (h : DecAt w p k) (x : Int) (y z : ByteArray) : DecAt (((w.setCell ⟨p, 0, none⟩ (.int .i64 x)).setCell ⟨p, 1, none⟩ (.string y)).setCell ⟨p, 2, none⟩ (.string z)) p (x, y, z) := el_set h
theorem but_put {p : Nat} {a w : World} (h : But p a w) (x y z : Value) : But p a (((w.setCell ⟨p, 0, none⟩ x).setCell ⟨p, 1, none⟩ y).setCell ⟨p, 2, none⟩ z) := ((h.next (But.set p 0 w x)).next (But.set p 1 _ y)).next (But.set p 2 _ z)

/-- The decoder of block p holds a key, which is K if there is no error. -/
def DecEnd (w : World) (p E : Nat) (K : KeyT) : Prop := ∃ k, DecAt w p k ∧ (E = 0 → k = K)
theorem DecEnd.mk {w : World} {p E : Nat} {k K : KeyT} (h : DecAt w p k) (hk : E = 0 → k = K) : DecEnd w p E K := ⟨k, h, hk⟩
theorem DecEnd.ex {w : World} {p E : Nat} {K : KeyT} (h : DecEnd w p E K) : ∃ k, DecAt w p k ∧ (E = 0 → k = K) := h

set_option maxRecDepth 100000 in
set_option maxHeartbeats 1000000 in
theorem kta_any (p : Nat) (t : Nat) (c r : ByteArray) (w : World) (hc : c.size ≤ 1000000) (hP : Pow10 w) :
    Calls Tryd.prog 32 #[.pointer (some ⟨p, 0, none⟩), .agg #[.int .i64 (t : Int), .string c, .string r]] w fun e w' => e = .returned (.int .i64 ((chkAlg (t : Int) c : Nat) : Int)) ∧ Below w.heap.size w w' := by
  obtain ⟨g, hg⟩ : ∃ g, g = w.heap.size := ⟨_, rfl⟩
  obtain ⟨W0, hW0⟩ : ∃ W0, W0 = w.alloc (.cells #[.int .i64 (t : Int), .string c, .string r] 46) := ⟨_, rfl⟩
  have hb0 : Below w.heap.size w W0 := by rw [hW0]; exact belowNew w _
  have hq0 : W0.heap[g]? = some (.cells #[.int .i64 (t : Int), .string c, .string r] 46 (0, 0)) := by rw [hW0, hg]; exact heap_alloc_new w _
  obtain ⟨e0, e1, e2, el⟩ := kcell3 hq0
  have HCK := Lib.hid (kchk_any (t : Int) c r W0 hc (hP.below hb0))
  obtain ⟨E, hE⟩ : ∃ E, E = chkAlg (t : Int) c := ⟨_, rfl⟩
  rw [← hE] at HCK ⊢
  have HB0 := Lib.hid hb0
  have HW0 := Lib.hid hW0.symm
  have HG := Lib.hid hg
  clear hW0 hb0 hq0 hg hP hE hc
  go_enter Tryd.func32, Tryd.ntmps32
  go_upto_region 1 with fail
  rw [HW0.out, ← HG.out]
  go_wp2_with (first
    | (go_at_call 49
       (with_reducible refine HCK.out.mono ?_)
       rintro e w1 ⟨rfl, hb1⟩
       have HB1 := Lib.hid (below_next HB0.out hb1)
       clear hb1 e0 e1 e2 el))
  go_ret
  exact ⟨rfl, HB1.out⟩

set_option maxRecDepth 100000 in
set_option maxHeartbeats 4000000 in
theorem ktb_any (p : Nat) (k0 : KeyT) (t : Nat) (c r : ByteArray) (w : World) (hc : c.size ≤ 1000000) (hp : DecAt w p k0) :
    Calls Tryd.prog 33 #[.pointer (some ⟨p, 0, none⟩), .agg #[.int .i64 (t : Int), .string c, .string r]] w fun e w' => e = .returned (.int .i64 ((tbE t c : Nat) : Int)) ∧ But p w w' ∧ DecEnd w' p (tbE t c) (keyB c).2 := by
  obtain ⟨ti, hti⟩ : ∃ ti : Int, ti = (t : Int) := ⟨_, rfl⟩
  rw [← hti]
  obtain ⟨g, hg⟩ : ∃ g, g = w.heap.size := ⟨_, rfl⟩
  obtain ⟨W0, hW0⟩ : ∃ W0, W0 = w.alloc (.cells #[.int .i64 ti, .string c, .string r] 46) := ⟨_, rfl⟩
  have hb0 : Below w.heap.size w W0 := by rw [hW0]; exact belowNew w _
  have hq0 : W0.heap[g]? = some (.cells #[.int .i64 ti, .string c, .string r] 46 (0, 0)) := by rw [hW0, hg]; exact heap_alloc_new w _
  obtain ⟨e0, e1, e2, el⟩ := kcell3 hq0
  have HB0 : Hid (But p w W0) := Lib.hid (But.of hb0)
  have HP0 := Lib.hid (hp.below hb0)
  have HW0 := Lib.hid hW0.symm
  have HG := Lib.hid hg
  clear hW0 hb0 hq0 hg hp
  unfold tbE
  by_cases h3 : t = 3
  case neg =>
    rw [if_pos h3]
    have d0 : (ti != 3) = true := by simp; omega
    clear h3 hc hti
    go_enter Tryd.func33, Tryd.ntmps33
    go_upto_region 1 with fail
    rw [HW0.out, ← HG.out]
    go_wp2_with fail
    go_ret
    exact ⟨rfl, HB0.out, .mk HP0.out fun h => absurd h (by decide)⟩
  rw [if_neg (fun k => k h3)]
  obtain rfl : ti = 3 := by omega
  clear h3 hti
  have HBT := Lib.hid (fun W => bits_any c W (by omega))
  unfold bitsVal at HBT
  obtain ⟨E, K, hEK⟩ : ∃ E K, keyB c = (E, K) := ⟨_, _, rfl⟩
  rw [hEK]
  have HR4 := Lib.hid (show (E, K) = keyB c from hEK.symm)
  clear hEK hc
  have hkb := fun (h : bitsErr c ≠ 0) => keyB_bad h
  have hkl := fun (h : bitsErr c = 0) k => keyB_len h k
  have hkk := fun (h : bitsErr c = 0) h2 h3 => keyB_key h h2 h3
  have hbo := bitsErr_or c
  generalize bitsErr c = be0 at hkb hkl hkk hbo HBT
  generalize bitsNum c = bn at hkl hkk HBT
  generalize bitsStr c = s at hkl hkk HBT
  generalize keyB c = kb at hkb hkl hkk HR4
  go_enter Tryd.func33, Tryd.ntmps33
  go_upto_region 1 with fail
  rw [HW0.out, ← HG.out]
  go_upto_region 4 with (first
    | (go_at_call 50
       (with_reducible refine (HBT.out _).mono ?_)
       rintro e w1 ⟨rfl, hb1⟩
       have HB1 : Hid (But p w w1) := Lib.hid (HB0.out.next (But.of hb1))
       have HP1 := Lib.hid (HP0.out.below hb1)
       clear hb1 e0 e1 e2 el))
  by_cases hz : be0 = 0
  case neg =>
    obtain ⟨rfl, rfl⟩ : E = 7 ∧ K = nok := by have h9 := HR4.out; rw [hkb hz] at h9; exact Prod.mk.inj h9
    obtain rfl : be0 = 7 := by omega
    clear hz hbo hkb hkl hkk
    go_wp2_with fail
    go_ret
    exact ⟨rfl, HB1.out, .mk HP1.out fun h => absurd h (by decide)⟩
  subst hz
  have HKL := Lib.hid (fun k => hkl rfl k)
  have HKK := Lib.hid (fun h2 h3 => hkk rfl h2 h3)
  clear hkb hkl hkk hbo
  by_cases hl : bn ≠ 0 ∨ s.size ≠ 33
  case pos =>
    obtain ⟨rfl, rfl⟩ : E = 18 ∧ K = nok := by have h9 := HR4.out; rw [HKL.out hl] at h9; exact Prod.mk.inj h9
    by_cases hb0 : bn = 0
    · subst hb0
      obtain ⟨m, hm⟩ : ∃ m, m = s.size := ⟨_, rfl⟩
      have hmi : (s.size : Int) = (m : Int) := by rw [hm]
      have d1 : ((m : Int) == 33) = false := by simp; omega
      have d2 : ((m : Int) != 33) = true := by simp; omega
      have d3 : ¬ (m : Int) = 33 := by omega
      clear hl hm
      go_wp2_with fail
      go_ret
      exact ⟨rfl, HB1.out, .mk HP1.out fun h => absurd h (by decide)⟩
    · have d1 := errno_ne hb0
      clear hl hb0
      go_wp2_with fail
      go_ret
      exact ⟨rfl, HB1.out, .mk HP1.out fun h => absurd h (by decide)⟩
  have hs33 : s.size = 33 := by omega
  have hsi : (s.size : Int) = 33 := by omega
  obtain rfl : bn = 0 := by omega
  have hR5 := HKK.out rfl hs33
  clear hl HKL HKK
  have hi0 : ∀ w, (Instr.index 9 (.string s) (.int .i64 0)).run Tryd.prog w = .ok (.int .u8 ((u8at s 0 : Nat) : Int)) w := fun w => run_index_u8 Tryd.underlying9 s 0 (by omega) 0 rfl w
  have hu8 := u8at_lt s 0
  have hkof : keyOf s = ((u8at s 0 : Int), s.extract 1 17, s.extract 17 33) := rfl
  generalize keyOf s = kk at hR5 hkof
  generalize u8at s 0 = u at hi0 hu8 hkof
  obtain ⟨i1, hi1⟩ : ∃ i1, i1 = s.extract 1 17 := ⟨_, rfl⟩
  obtain ⟨i2, hi2⟩ : ∃ i2, i2 = s.extract 17 33 := ⟨_, rfl⟩
  have hx1 : s.extract 1 17 = i1 := hi1.symm
  have hx2 : s.extract 17 33 = i2 := hi2.symm
  have hx3 : s.extract 17 s.size = i2 := by rw [hs33]; exact hx2
  rw [hx1, hx2] at hkof
  subst hkof
  have HR5 := Lib.hid hR5
  have huw : IntKind.i64.wrap (u : Int) = (u : Int) := by rw [wrap_i64]; omega
  have HCK2 := Lib.hid (fun W => kck_any ((u : Int), i1, i2) W)
  unfold keyVV keyV at HCK2
  simp only at HCK2
  clear hi1 hi2 hR5 hs33
  obtain ⟨q0, q1, q2, f0, f1, f2, pl⟩ := HP1.out.facts
  go_wp2_with fail
  go_region
  obtain ⟨X6, hX6⟩ : ∃ X6, X6 = (((w1.setCell ⟨p, 0, none⟩ (.int .i64 (u : Int))).setCell ⟨p, 1, none⟩ (.string i1)).setCell ⟨p, 2, none⟩ (.string i2)).drew := ⟨_, rfl⟩
  have hbX : But p w X6 := by rw [hX6]; exact (but_put HB1.out _ _ _).drew
  have hqX : DecAt X6 p ((u : Int), i1, i2) := by rw [hX6]; exact HP1.out.put _ _ _
  rw [← hX6]
  have HX6 := Lib.hid hX6
  clear hX6 q0 q1 q2 f0 f1 f2 pl
  obtain ⟨q0, q1, q2, f0, f1, f2, pl⟩ := hqX.facts
  have HBX := Lib.hid hbX
  have HQX := Lib.hid hqX
  clear hbX hqX
  simp only at q0 q1 q2
  go_wp2_with (first
    | (go_at_call 12
       (with_reducible refine (HCK2.out _).mono ?_)
       rintro e w7 ⟨rfl, hb7⟩
       have HB7 : Hid (But p w w7) := Lib.hid (HBX.out.next (But.of hb7))
       have HQ7 := Lib.hid (HQX.out.below hb7)
       clear hb7))
  go_ret
  have h9 := HR4.out
  rw [HR5.out] at h9
  rcases keyEE_or ((u : Int), i1, i2) with hz | hz
  · rw [if_neg (by rw [hz]; decide)] at h9
    obtain ⟨rfl, rfl⟩ := Prod.mk.inj h9
    rw [hz]
    exact ⟨rfl, HB7.out, .mk HQ7.out fun _ => rfl⟩
  · rw [if_pos (by rw [hz]; decide)] at h9
    obtain ⟨rfl, rfl⟩ := Prod.mk.inj h9
    rw [hz]
    exact ⟨rfl, HB7.out, .mk HQ7.out fun h => absurd h (by decide)⟩
end Go.Proofs.YtpmlkofceidnjaaDoor
