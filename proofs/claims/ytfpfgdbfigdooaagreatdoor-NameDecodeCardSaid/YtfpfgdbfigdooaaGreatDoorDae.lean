/-
The contract of Decode: the name whose encoding bytes are, or the error.
The contracts of the reference's Open, Need, End and attribute.
The contract of the reference's attribute: the same as decodeAttribute's.
The contract of the reference's DecodeName.
-/
import Derived.Test.YtfpfgdbfigdooaaGreatDoorDad
import Derived.Test.YtfpfgdbfigdooaaGreatDoorCaq
import Derived.Test.YtfpfgdbfigdooaaGreatDoorDaa
import Derived.Test.YtfpfgdbfigdooaaGreatDoorDac
import Derived.Test.YtfpfgdbfigdooaaGreatDoorCbr
import Derived.Test.YtfpfgdbfigdooaaGreatDoorCaw
namespace Go.Proofs.YtfpfgdbfigdooaaGreatDoor
open Go.RowKit

theorem oidD_size {c id : ByteArray} (h : oidD c = some id) : id.size ≤ 1000 := by
  by_cases hx : ∃ a, Dec c.data.toList a
  · obtain ⟨a, ha⟩ := hx
    rw [oidD_yes ha] at h
    obtain rfl := Option.some.inj h
    rw [strOf_size]
    obtain ⟨_, h2, h5⟩ := ha.1
    have h5 := h5.1
    have := txt_len a h5
    omega
  · rw [oidD_no (fun a k => hx ⟨a, k⟩)] at h; cases h
theorem decL_small {l : List El} {K M : Nat} (hm : ∀ e ∈ l, e.2.1.size ≤ K) (h : K ≤ M) (hM : 1000 ≤ M) : (decL l).2.1.size ≤ M ∧ (decL l).2.2.2.size ≤ M := by
  have hz : noAt.1.size ≤ M ∧ noAt.2.2.size ≤ M := ⟨Nat.zero_le _, Nat.zero_le _⟩
  cases l with
  | nil => exact hz
  | cons x r =>
    by_cases hx : x.1 = 6
    case neg => simp only [decL]; rw [if_pos hx]; exact hz
    cases hd : oidD x.2.1 with
    | none => simp only [decL, hd]; rw [if_neg (by simpa using hx)]; exact hz
    | some id =>
      cases r with
      | nil => simp only [decL, hd]; rw [if_neg (by simpa using hx)]; exact hz
      | cons y q =>
        simp only [decL, hd]
        rw [if_neg (by simpa using hx)]
        by_cases hs : strTag y.1 = false
        · rw [if_pos hs]; exact hz
        · rw [if_neg hs]
          by_cases hq : q = []
          · rw [if_neg (by simpa using hq)]
            exact ⟨Nat.le_trans (oidD_size hd) hM, Nat.le_trans (hm y (List.mem_cons_of_mem _ List.mem_cons_self)) h⟩
          · rw [if_pos hq]; exact hz
theorem decA_small {e : El} {M : Nat} (h : e.2.1.size ≤ M) (hM : 1000 ≤ M) : (decA e).2.1.size ≤ M ∧ (decA e).2.2.2.size ≤ M := by
  have hz : noAt.1.size ≤ M ∧ noAt.2.2.size ≤ M := ⟨Nat.zero_le _, Nat.zero_le _⟩
  have hm := lst_mem _ e.2.1 (Nat.le_refl _)
  unfold decA
  split
  · exact hz
  · split
    · exact hz
    · exact decL_small hm h hM
theorem decAs_small : ∀ {l : List El} {M : Nat}, 1000 ≤ M → (∀ e ∈ l, e.2.1.size ≤ M) → (decAs l).2.length ≤ l.length ∧ ∀ i, i < (decAs l).2.length → ((decAs l).2.getD i noAt).1.size ≤ M ∧ ((decAs l).2.getD i noAt).2.2.size ≤ M
  | [], M, hM, h => ⟨Nat.le_refl _, fun i hi => absurd hi (Nat.not_lt_zero _)⟩
  | e :: r, M, hM, h => by
    obtain ⟨h1, h2⟩ := decAs_small hM (fun x hx => h x (List.mem_cons_of_mem _ hx))
    unfold decAs
    split
    · exact ⟨Nat.zero_le _, fun i hi => absurd hi (Nat.not_lt_zero _)⟩
    · split
      · exact ⟨Nat.zero_le _, fun i hi => absurd hi (Nat.not_lt_zero _)⟩
      · refine ⟨by simp; omega, fun i hi => ?_⟩
        cases i with
        | zero => exact decA_small (h e List.mem_cons_self) hM
        | succ i => exact h2 i (by simpa using hi)
theorem decR_small {e : El} {M : Nat} (hM : 1000 ≤ M) (h : e.2.1.size ≤ M) (hM2 : M ≤ 1000000) : SmallR (decR e).2 := by
  have hz : SmallR [] := ⟨by simp, fun i hi => absurd hi (Nat.not_lt_zero _)⟩
  have hl := lst_length e.2.1 _ (Nat.le_refl _)
  have hm := lst_mem _ e.2.1 (Nat.le_refl _)
  unfold decR
  split
  · exact hz
  · split
    · exact hz
    · split
      · exact hz
      · obtain ⟨h1, h2⟩ := decAs_small hM (fun x hx => Nat.le_trans (hm x hx) h)
        exact ⟨by omega, fun i hi => ⟨Nat.le_trans (h2 i hi).1 hM2, Nat.le_trans (h2 i hi).2 hM2⟩⟩
theorem decRs_small : ∀ {l : List El} {M : Nat}, 1000 ≤ M → M ≤ 1000000 → (∀ e ∈ l, e.2.1.size ≤ M) → (decRs l).2.length ≤ l.length ∧ ∀ i, i < (decRs l).2.length → SmallR ((decRs l).2.getD i [])
  | [], M, hM, hM2, h => ⟨Nat.le_refl _, fun i hi => absurd hi (Nat.not_lt_zero _)⟩
  | e :: r, M, hM, hM2, h => by
    obtain ⟨h1, h2⟩ := decRs_small hM hM2 (fun x hx => h x (List.mem_cons_of_mem _ hx))
    unfold decRs
    split
    · exact ⟨Nat.zero_le _, fun i hi => absurd hi (Nat.not_lt_zero _)⟩
    · split
      · exact ⟨Nat.zero_le _, fun i hi => absurd hi (Nat.not_lt_zero _)⟩
      · refine ⟨by simp; omega, fun i hi => ?_⟩
        cases i with
        | zero => exact decR_small hM (h e List.mem_cons_self) hM2
        | succ i => exact h2 i (by simpa using hi)
theorem decN0_small {b : ByteArray} (hb : b.size ≤ 1000000) : SmallN (decN0 b).2 := by
  have hz : SmallN [] := ⟨by simp, fun i hi => absurd hi (Nat.not_lt_zero _)⟩
  unfold decN0
  split
  · exact hz
  · rename_i h1
    have hc := rdContent_size (oneErr_rd (by simpa using h1))
    split
    · exact hz
    · split
      · exact hz
      · have hl := lst_length (rdContent b) _ (Nat.le_refl _)
        have hm := lst_mem _ (rdContent b) (Nat.le_refl _)
        obtain ⟨h2, h3⟩ := decRs_small (M := 1000000) (by omega) (by omega) (fun x hx => Nat.le_trans (hm x hx) (by omega))
        exact ⟨by omega, h3⟩
theorem decN_small {b : ByteArray} (hb : b.size ≤ 1000000) : SmallN (decN b).2 := by
  have hz : SmallN [] := ⟨by simp, fun i hi => absurd hi (Nat.not_lt_zero _)⟩
  unfold decN
  split
  · exact hz
  · split
    · exact hz
    · exact decN0_small hb

set_option maxRecDepth 100000 in
set_option maxHeartbeats 4000000 in
theorem decode_nm (x : ByteArray) (w : World) (hx : x.size ≤ 1000000) (hT : Tab w) (hP : Pow10 w) :
    Calls Tryz.prog 20 #[.string x] w fun e w' => ∃ v, e = .returned (.tuple #[v, .int .i64 (((decN x).1 : Nat) : Int)]) ∧ OwnV w' w.heap.size v (decN x).2 ∧ Below w.heap.size w w' := by
  obtain ⟨W0, hW0⟩ : ∃ W0, W0 = w.alloc (.cells #[.slice none 0 0] 24) := ⟨_, rfl⟩
  have hwr : w.alloc (.cells #[.slice none 0 0] 24) = W0 := hW0.symm
  have hb0 : Below w.heap.size w W0 := by rw [hW0]; exact belowNew w _
  have hq0 : W0.heap[w.heap.size]? = some (.cells #[.slice none 0 0] 24 (0, 0)) := by rw [hW0]; exact heap_alloc_new w _
  have hz : W0.heap.size = w.heap.size + 1 := by rw [hW0]; simp
  have HB0 := Lib.hid hb0
  have HQ0 := Lib.hid hq0
  have HZ := Lib.hid hz
  have HT := Lib.hid (hT.below hb0)
  have HPP := Lib.hid (decnm0_any x W0 (by omega) (hP.below hb0))
  have HSM := Lib.hid (decN0_small hx)
  obtain ⟨E, V, hEV⟩ : ∃ E V, decN x = (E, V) := ⟨_, _, rfl⟩
  have HRES := Lib.hid (show (E, V) = if (decN0 x).1 ≠ 0 then ((decN0 x).1, []) else if chkN (decN0 x).2 ≠ 0 then (chkN (decN0 x).2, []) else (0, (decN0 x).2) from hEV.symm)
  rw [hEV]
  generalize decN0 x = r at HPP HSM HRES
  obtain ⟨er, n⟩ := r
  simp only at HPP HSM HRES
  clear hEV hb0 hq0 hz hT hP hW0
  by_cases hz0 : er = 0
  case neg =>
    obtain ⟨rfl, rfl⟩ : E = er ∧ V = [] := by have := HRES.out; rw [if_pos hz0] at this; simpa using this
    have hz1 := errno_ne hz0
    have hz2 : ((E : Int) == 0) = false := by simp; omega
    clear hz0
    go_enter Tryz.func20, Tryz.ntmps20
    go_wp2_with (go_at_call 42; (with_reducible refine HPP.out.mono ?_); rintro e w1 ⟨v, rfl, ho, hb1⟩; obtain ⟨s, rfl, hs⟩ := ho; obtain ⟨av, cv, rfl, _, _⟩ := hs.lies; have hq := (hb1.block _ (one_facts HQ0.out).2.2).trans HQ0.out; have HQ := Lib.hid hq; obtain ⟨r0, g0, hlt0⟩ := one_facts hq; have HB1 := Lib.hid (below_next HB0.out hb1); clear hb1 hq hs)
    exact bodyPost_ret (nmRes rfl _ _ w _ rfl (((belowNew _ _).block _ (Array.getElem?_eq_some_iff.1 (one_set HQ.out)).1).trans (one_set HQ.out))) rfl ⟨_, rfl, ⟨_, rfl, OwnN.nil _ _⟩, below_next (HB1.out.setCell (p := ⟨w.heap.size, 0, none⟩) (Nat.le_refl _) _) (belowNew _ _)⟩
  subst hz0
  have HCK := Lib.hid (fun (av : Option Addr) (cv : Nat) W (h : RLies W av n) (hT : Tab W) => chk_core av cv n.length n W h rfl HSM.out hT)
  obtain ⟨C, hC⟩ : ∃ C, C = chkN n := ⟨_, rfl⟩
  have HRE := Lib.hid (show (E, V) = if C ≠ 0 then (C, []) else (0, n) by have := HRES.out; rw [if_neg (by simp), ← hC] at this; exact this)
  rw [← hC] at HCK
  clear HRES hC
  have hee : (((0 : Nat) : Int) == 0) = true := rfl
  by_cases hz0 : C = 0
  · obtain ⟨rfl, rfl⟩ : E = 0 ∧ V = n := by have := HRE.out; rw [if_neg (by simpa using hz0)] at this; simpa using this
    subst hz0
    go_enter Tryz.func20, Tryz.ntmps20
    go_wp2_with (first
      | (go_at_call 42; (with_reducible refine HPP.out.mono ?_); rintro e w1 ⟨v, rfl, ho, hb1⟩; obtain ⟨s, rfl, hs⟩ := ho; obtain ⟨av, cv, rfl, _, hrl⟩ := hs.lies; have HRL := Lib.hid hrl; have HOW := Lib.hid hs; have hq := (hb1.block _ (one_facts HQ0.out).2.2).trans HQ0.out; have HQ := Lib.hid hq; have HB1 := Lib.hid (below_next HB0.out hb1); have HTB := Lib.hid (HT.out.below hb1); clear hb1 hq hs hrl)
      | (go_at_call 16; (with_reducible refine (HCK.out _ _ _ (HRL.out.below (belowNew w1 _)) (HTB.out.below (belowNew w1 _))).mono ?_); rintro e w2 ⟨rfl, hb2⟩; have hq := ((below_next (belowNew w1 _) hb2).block _ (one_facts HQ.out).2.2).trans HQ.out; have HQ2 := Lib.hid hq; obtain ⟨r0, g0, hlt0⟩ := one_facts hq; have hq1 := (hb2.block _ (by simp)).trans (heap_alloc_new w1 _); obtain ⟨m0, n0, hlt1⟩ := one_facts hq1; have HB2 := Lib.hid (below_next (belowNew w1 _) hb2); clear hb2 hq hq1))
    exact bodyPost_ret (nmRes rfl _ _ w _ rfl (one_set HQ2.out)) rfl ⟨_, rfl, ⟨_, rfl, ((HOW.out.below HB2.out).but (p := w.heap.size) (But.set _ _ _ _) (by have := HZ.out; omega)).base (by have := HZ.out; omega)⟩, (below_next HB1.out HB2.out).setCell (p := ⟨w.heap.size, 0, none⟩) (Nat.le_refl _) _⟩
  · obtain ⟨rfl, rfl⟩ : E = C ∧ V = [] := by have := HRE.out; rw [if_pos hz0] at this; simpa using this
    have hz1 := errno_ne hz0
    clear hz0
    go_enter Tryz.func20, Tryz.ntmps20
    go_wp2_with (first
      | (go_at_call 42; (with_reducible refine HPP.out.mono ?_); rintro e w1 ⟨v, rfl, ho, hb1⟩; obtain ⟨s, rfl, hs⟩ := ho; obtain ⟨av, cv, rfl, _, hrl⟩ := hs.lies; have HRL := Lib.hid hrl; have hq := (hb1.block _ (one_facts HQ0.out).2.2).trans HQ0.out; have HQ := Lib.hid hq; have HB1 := Lib.hid (below_next HB0.out hb1); have HTB := Lib.hid (HT.out.below hb1); clear hb1 hq hs hrl)
      | (go_at_call 16; (with_reducible refine (HCK.out _ _ _ (HRL.out.below (belowNew w1 _)) (HTB.out.below (belowNew w1 _))).mono ?_); rintro e w2 ⟨rfl, hb2⟩; have hq := ((below_next (belowNew w1 _) hb2).block _ (one_facts HQ.out).2.2).trans HQ.out; have HQ2 := Lib.hid hq; obtain ⟨r0, g0, hlt0⟩ := one_facts hq; have HB2 := Lib.hid (below_next (belowNew w1 _) hb2); clear hb2 hq))
    exact bodyPost_ret (nmRes rfl _ _ w _ rfl (one_set HQ2.out)) rfl ⟨_, rfl, ⟨_, rfl, OwnN.nil _ _⟩, (below_next HB1.out HB2.out).setCell (p := ⟨w.heap.size, 0, none⟩) (Nat.le_refl _) _⟩
end Go.Proofs.YtfpfgdbfigdooaaGreatDoor
namespace Go.Proofs.YtfpfgdbfigdooaaGreatDoor
open Go.RowKit

theorem fiRes {fn : Func} {p u : Tmp} (h : fn.results = #[.cell p 70, .tmp u]) (tmps : Array Value) (w : World) (g : Nat) (x y : Value)
    (hp : tmps.getD p undef = .pointer (some ⟨g, 0, none⟩)) (hg : w.heap[g]? = some (.cells #[x, y] 70 (0, 0))) :
    (results fn tmps).run Tryz.prog w = .ok (.tuple #[.agg #[x, y], tmps.getD u undef]) w :=
  results_cell_row2 h tmps w g 70 #[x, y] (0, 0) _ hp hg Tryz.underlying70 rfl (by kernel_rfl)
theorem fi_facts {w : World} {g : Nat} {x y : Value} {t : TypeId} (h : w.heap[g]? = some (.cells #[x, y] t (0, 0))) :
    w.cell? ⟨g, 0, none⟩ = some x ∧ w.cell? ⟨g, 1, none⟩ = some y ∧ w.frozen? ⟨g, 0, none⟩ = false ∧ w.frozen? ⟨g, 1, none⟩ = false ∧ g < w.heap.size := by
  refine ⟨?_, ?_, Lib.frozen_of_heap h 0, Lib.frozen_of_heap h 1, (Array.getElem?_eq_some_iff.1 h).1⟩
  · rw [Lib.cell_of_heap h]; rfl
  · rw [Lib.cell_of_heap h]; rfl
theorem fi_set {w : World} {g : Nat} {x y a b : Value} {t : TypeId} (h : w.heap[g]? = some (.cells #[x, y] t (0, 0))) :
    ((w.setCell ⟨g, 0, none⟩ a).setCell ⟨g, 1, none⟩ b).heap[g]? = some (.cells #[a, b] t (0, 0)) := by
  simp [World.setCell, Array.getElem?_modify, h]
theorem fi_set1 {w : World} {g : Nat} {x y b : Value} {t : TypeId} (h : w.heap[g]? = some (.cells #[x, y] t (0, 0))) : (w.setCell ⟨g, 1, none⟩ b).heap[g]? = some (.cells #[x, b] t (0, 0)) := by
  simp [World.setCell, Array.getElem?_modify, h]
/-- What Open answers. -/
def opnE (x : El) (T : Nat) : Nat := if x.1 ≠ T then 5 else (lst x.2.1).2
def opnL (x : El) (T : Nat) : List El := if x.1 ≠ T then [] else (lst x.2.1).1
set_option maxRecDepth 100000 in
set_option maxHeartbeats 2000000 in
theorem ropen_any (x : El) (T : Nat) (w : World) (hx : x.2.1.size ≤ 1099511627776) :
    Calls Tryz.prog 43 #[elV x.1 x.2.1 x.2.2, .int .i64 (T : Int)] w fun e w' => (∃ v, e = .returned (.tuple #[.agg #[v, .int .i64 0], .int .i64 ((opnE x T : Nat) : Int)]) ∧ OwnE w' w.heap.size v (opnL x T)) ∧ Below w.heap.size w w' := by
  obtain ⟨t, ct, rw0⟩ := x
  unfold elV opnE opnL
  simp only at hx ⊢
  obtain ⟨W0, hW0⟩ : ∃ W0, W0 = (w.alloc (.cells #[.int .i64 ((t : Nat) : Int), .string ct, .string rw0] 63)).alloc (.cells #[.slice none 0 0, .int .i64 0] 70) := ⟨_, rfl⟩
  have hwe := hW0.symm
  have hb0 : Below w.heap.size w W0 := by rw [hW0]; exact belowTwo w _ _
  have q0 : W0.heap[w.heap.size]? = some (.cells #[.int .i64 ((t : Nat) : Int), .string ct, .string rw0] 63 (0, 0)) := by
    rw [hW0]; exact ((belowNew _ _).block _ (by simp)).trans (heap_alloc_new w _)
  have q1 : W0.heap[w.heap.size + 1]? = some (.cells #[.slice none 0 0, .int .i64 0] 70 (0, 0)) := by
    have := heap_alloc_new (w.alloc (.cells #[.int .i64 ((t : Nat) : Int), .string ct, .string rw0] 63)) (.cells #[.slice none 0 0, .int .i64 0] 70)
    rw [← hW0] at this
    simpa using this
  obtain ⟨e0, e1, e2, _, _, _, el⟩ := at_facts q0
  obtain ⟨r0, r1, g0, g1, rl⟩ := fi_facts q1
  have HB0 := Lib.hid hb0
  have HQ1 := Lib.hid q1
  have hz0 : W0.heap.size = w.heap.size + 2 := by rw [hW0]; simp
  clear hW0 hb0 q0 q1
  by_cases ht : t = T
  case neg =>
    have hd : ((t : Int) != (T : Int)) = true := by simp; omega
    rw [if_pos ht, if_pos ht]
    clear ht
    go_enter Tryz.func43, Tryz.ntmps43
    go_wp2_with fail
    exact bodyPost_ret (fiRes rfl _ _ _ _ _ rfl (fi_set HQ1.out)) rfl ⟨⟨_, rfl, World.ownsRow_nil _ _ _ _⟩, (HB0.out.setCell (p := ⟨w.heap.size + 1, 0, none⟩) (Nat.le_succ _) _).setCell (p := ⟨w.heap.size + 1, 1, none⟩) (Nat.le_succ _) _⟩
  have hd : ((t : Int) != (T : Int)) = false := by rw [ht]; simp
  rw [if_neg (by simpa using ht), if_neg (by simpa using ht)]
  have HLS := Lib.hid (rlist_any ct W0 hx)
  generalize lst ct = LE at HLS ⊢
  obtain ⟨l, er⟩ := LE
  simp only at HLS ⊢
  clear ht
  go_enter Tryz.func43, Tryz.ntmps43
  go_wp2_with (go_at_call 41; (with_reducible refine HLS.out.mono ?_); rintro e w1 ⟨v1, rfl, ho1, hb1⟩; obtain ⟨a, c, rfl, _, _, _⟩ := ElAt.of ho1; have hqr := (hb1.block (w.heap.size + 1) rl).trans HQ1.out; have HQR := Lib.hid hqr; have HO := Lib.hid ho1; have HB1 := Lib.hid (below_next HB0.out hb1); obtain ⟨s0, s1, f0, f1, sl⟩ := fi_facts hqr; clear hb1 hqr ho1)
  refine bodyPost_ret (fiRes rfl _ _ _ _ _ rfl (fi_set HQR.out)) rfl ⟨⟨_, rfl, ?_⟩, (HB1.out.setCell (p := ⟨w.heap.size + 1, 0, none⟩) (Nat.le_succ _) _).setCell (p := ⟨w.heap.size + 1, 1, none⟩) (Nat.le_succ _) _⟩
  have h1 := own_but HO.out (But.set (w.heap.size + 1) 0 w1 (.slice a l.length c)) (by omega)
  have h2 := own_but h1 (But.set (w.heap.size + 1) 1 _ (.int .i64 0)) (by omega)
  exact own_base h2 (by omega)
set_option maxRecDepth 100000 in
set_option maxHeartbeats 2000000 in
theorem rneed_trunc (gf n c k : Nat) (a : Option Addr) (T : Int) (w : World) (h : w.heap[gf]? = some (.cells #[.slice a n c, .int .i64 (k : Int)] 70 (0, 0))) (hk : n ≤ k) :
    Calls Tryz.prog 71 #[.pointer (some ⟨gf, 0, none⟩), .int .i64 T] w fun e w' => e = .returned (.tuple #[noEl, .int .i64 3]) ∧ Below w.heap.size w w' := by
  obtain ⟨c0, c1, f0, f1, l0⟩ := fi_facts h
  obtain ⟨W0, hW0⟩ : ∃ W0, W0 = w.alloc (.cells #[.int .i64 0, .string ⟨#[]⟩, .string ⟨#[]⟩] 63) := ⟨_, rfl⟩
  have hwe := hW0.symm
  have hb : Below w.heap.size w W0 := by rw [hW0]; exact belowNew w _
  have q0 : W0.heap[w.heap.size]? = some (.cells #[.int .i64 0, .string ⟨#[]⟩, .string ⟨#[]⟩] 63 (0, 0)) := by rw [hW0]; exact heap_alloc_new w _
  obtain ⟨r0, r1, r2, g0, g1, g2, rl⟩ := at_facts q0
  have d0 := (hb.cell (p := ⟨gf, 0, none⟩) l0).trans c0
  have d1 := (hb.cell (p := ⟨gf, 1, none⟩) l0).trans c1
  have hd : decide ((n : Int) ≤ (k : Int)) = true := by simp; omega
  have hd2 : decide (n ≤ k) = true := by simp; omega
  have HB := Lib.hid hb
  have HQ := Lib.hid q0
  clear h hW0 hb q0 c0 c1 f0 f1 hk
  go_enter Tryz.func71, Tryz.ntmps71
  go_wp2_with fail
  go_region
  go_wp2_with fail
  have hq : W0.drew.heap[w.heap.size]? = _ := HQ.out
  exact bodyPost_ret (elRes0 rfl _ _ _ _ _ _ rfl (at_set hq)) rfl ⟨rfl, at_below HB.out.drew (Nat.le_refl _)⟩
set_option maxRecDepth 100000 in
set_option maxHeartbeats 2000000 in
theorem rneed_tag (gf b o n c k T : Nat) (x : El) (w : World) (h : w.heap[gf]? = some (.cells #[.slice (some ⟨b, o, none⟩) n c, .int .i64 (k : Int)] 70 (0, 0))) (hk : k < n)
    (x0 : w.cell? ⟨b, o + k * 3, none⟩ = some (.int .i64 ((x.1 : Nat) : Int))) (x1 : w.cell? ⟨b, o + k * 3 + 1, none⟩ = some (.string x.2.1)) (x2 : w.cell? ⟨b, o + k * 3 + 2, none⟩ = some (.string x.2.2)) (hT : x.1 ≠ T) :
    Calls Tryz.prog 71 #[.pointer (some ⟨gf, 0, none⟩), .int .i64 (T : Int)] w fun e w' => e = .returned (.tuple #[noEl, .int .i64 5]) ∧ Below w.heap.size w w' := by
  obtain ⟨c0, c1, f0, f1, l0⟩ := fi_facts h
  obtain ⟨W0, hW0⟩ : ∃ W0, W0 = w.alloc (.cells #[.int .i64 0, .string ⟨#[]⟩, .string ⟨#[]⟩] 63) := ⟨_, rfl⟩
  have hwe := hW0.symm
  have hb : Below w.heap.size w W0 := by rw [hW0]; exact belowNew w _
  have q0 : W0.heap[w.heap.size]? = some (.cells #[.int .i64 0, .string ⟨#[]⟩, .string ⟨#[]⟩] 63 (0, 0)) := by rw [hW0]; exact heap_alloc_new w _
  obtain ⟨r0, r1, r2, g0, g1, g2, rl⟩ := at_facts q0
  have d0 := (hb.cell (p := ⟨gf, 0, none⟩) l0).trans c0
  have d1 := (hb.cell (p := ⟨gf, 1, none⟩) l0).trans c1
  have y0 := (hb.cell (p := ⟨b, o + k * 3, none⟩) (block_lt x0)).trans x0
  have y1 := (hb.cell (p := ⟨b, o + k * 3 + 1, none⟩) (block_lt x0)).trans x1
  have y2 := (hb.cell (p := ⟨b, o + k * 3 + 2, none⟩) (block_lt x0)).trans x2
  have bz := belowNew W0 (.cells #[.int .i64 0, .string ⟨#[]⟩, .string ⟨#[]⟩] 63)
  have m0 := (bz.cell (p := ⟨gf, 0, none⟩) (block_lt d0)).trans d0
  have m1 := (bz.cell (p := ⟨gf, 1, none⟩) (block_lt d0)).trans d1
  have n0 := (bz.cell (p := ⟨b, o + k * 3, none⟩) (block_lt y0)).trans y0
  have n1 := (bz.cell (p := ⟨b, o + k * 3 + 1, none⟩) (block_lt y0)).trans y1
  have n2 := (bz.cell (p := ⟨b, o + k * 3 + 2, none⟩) (block_lt y0)).trans y2
  clear bz
  obtain ⟨xt, xc, xr⟩ := x
  simp only at y0 y1 y2 n0 n1 n2 hT
  have hd : decide ((n : Int) ≤ (k : Int)) = false := by simp; omega
  have hd2 : decide (n ≤ k) = false := by simp; omega
  have hki : (k : Int) < (n : Int) := by omega
  have hT0 : decide ((0 : Int) ≤ (T : Int)) = true := by simp
  have hTx : ((xt : Int) != (T : Int)) = true := by simp; omega
  have HB := Lib.hid hb
  have HQ := Lib.hid q0
  clear h hW0 hb q0 c0 c1 f0 f1 x0 x1 x2 hT
  go_enter Tryz.func71, Tryz.ntmps71
  go_wp2_with fail
  go_region
  go_wp2_with fail
  go_region
  go_wp2_with fail
  have hS := at_set (a := .int .i64 0) (b := .string ⟨#[]⟩) (c := .string ⟨#[]⟩) HQ.out
  have hq := ((belowNew _ (.cells #[.int .i64 ((xt : Nat) : Int), .string xc, .string xr] 63)).block w.heap.size (Array.getElem?_eq_some_iff.1 hS).1).trans hS
  exact bodyPost_ret (elRes0 rfl _ _ _ _ _ _ rfl hq) rfl ⟨rfl, (below_next (at_below HB.out (Nat.le_refl _)) (belowNew _ _)).drew.drew⟩
set_option maxRecDepth 100000 in
set_option maxHeartbeats 2000000 in
theorem rneed_ok (gf b o n c k : Nat) (T : Int) (x : El) (w : World) (h : w.heap[gf]? = some (.cells #[.slice (some ⟨b, o, none⟩) n c, .int .i64 (k : Int)] 70 (0, 0))) (hk : k < n)
    (x0 : w.cell? ⟨b, o + k * 3, none⟩ = some (.int .i64 ((x.1 : Nat) : Int))) (x1 : w.cell? ⟨b, o + k * 3 + 1, none⟩ = some (.string x.2.1)) (x2 : w.cell? ⟨b, o + k * 3 + 2, none⟩ = some (.string x.2.2)) (hT : T = -1 ∨ (0 ≤ T ∧ (x.1 : Int) = T)) (hkz : k ≤ 1000000) :
    Calls Tryz.prog 71 #[.pointer (some ⟨gf, 0, none⟩), .int .i64 T] w fun e w' => e = .returned (.tuple #[elV x.1 x.2.1 x.2.2, .int .i64 0]) ∧ w'.heap[gf]? = some (.cells #[.slice (some ⟨b, o, none⟩) n c, .int .i64 ((k : Int) + 1)] 70 (0, 0)) ∧ But gf w w' := by
  obtain ⟨c0, c1, f0, f1, l0⟩ := fi_facts h
  obtain ⟨W0, hW0⟩ : ∃ W0, W0 = w.alloc (.cells #[.int .i64 0, .string ⟨#[]⟩, .string ⟨#[]⟩] 63) := ⟨_, rfl⟩
  have hwe := hW0.symm
  have hb : Below w.heap.size w W0 := by rw [hW0]; exact belowNew w _
  have q0 : W0.heap[w.heap.size]? = some (.cells #[.int .i64 0, .string ⟨#[]⟩, .string ⟨#[]⟩] 63 (0, 0)) := by rw [hW0]; exact heap_alloc_new w _
  obtain ⟨r0, r1, r2, g0, g1, g2, rl⟩ := at_facts q0
  have d0 := (hb.cell (p := ⟨gf, 0, none⟩) l0).trans c0
  have d1 := (hb.cell (p := ⟨gf, 1, none⟩) l0).trans c1
  have y0 := (hb.cell (p := ⟨b, o + k * 3, none⟩) (block_lt x0)).trans x0
  have y1 := (hb.cell (p := ⟨b, o + k * 3 + 1, none⟩) (block_lt x0)).trans x1
  have y2 := (hb.cell (p := ⟨b, o + k * 3 + 2, none⟩) (block_lt x0)).trans x2
  have bz := belowNew W0 (.cells #[.int .i64 0, .string ⟨#[]⟩, .string ⟨#[]⟩] 63)
  have m0 := (bz.cell (p := ⟨gf, 0, none⟩) (block_lt d0)).trans d0
  have m1 := (bz.cell (p := ⟨gf, 1, none⟩) (block_lt d0)).trans d1
  have n0 := (bz.cell (p := ⟨b, o + k * 3, none⟩) (block_lt y0)).trans y0
  have n1 := (bz.cell (p := ⟨b, o + k * 3 + 1, none⟩) (block_lt y0)).trans y1
  have n2 := (bz.cell (p := ⟨b, o + k * 3 + 2, none⟩) (block_lt y0)).trans y2
  clear bz
  obtain ⟨xt, xc, xr⟩ := x
  simp only at y0 y1 y2 n0 n1 n2 hT
  have hd : decide ((n : Int) ≤ (k : Int)) = false := by simp; omega
  have hd2 : decide (n ≤ k) = false := by simp; omega
  have hki : (k : Int) < (n : Int) := by omega
  have hk1 : IntKind.i64.wrap ((k : Int) + 1) = (k : Int) + 1 := by rw [wrap_i64]; omega
  have hg1 : ¬ gf = w.heap.size := by omega
  have hg2 : ¬ w.heap.size = gf := by omega
  have hlt0 : gf < W0.heap.size := block_lt d0
  have hg3 : ¬ gf = W0.heap.size := by omega
  have hg4 : ¬ W0.heap.size = gf := by omega
  have hg5 : ¬ w.heap.size = W0.heap.size := by omega
  have hg6 : ¬ W0.heap.size = w.heap.size := by omega
  have HH := Lib.hid ((hb.block gf l0).trans h)
  have HB := Lib.hid hb
  have HQ := Lib.hid q0
  have HFZ := Lib.hid (fi_facts ((hb.block gf l0).trans h))
  obtain ⟨_, _, p0, p1, _⟩ := HFZ.out
  have bz := belowNew W0 (.cells #[.int .i64 ((xt : Nat) : Int), .string xc, .string xr] 63)
  have HBZ := Lib.hid bz
  obtain ⟨v0, v1, v2, _, _, _, vl⟩ := at_facts (heap_alloc_new W0 (.cells #[.int .i64 ((xt : Nat) : Int), .string xc, .string xr] 63))
  have hqz := (bz.block w.heap.size rl).trans q0
  have hhz := (bz.block gf hlt0).trans ((hb.block gf l0).trans h)
  obtain ⟨s0, s1, s2, sf0, sf1, sf2, sl⟩ := at_facts hqz
  obtain ⟨t0, t1, tf0, tf1, tl⟩ := fi_facts hhz
  have HQZ := Lib.hid hqz
  have HHZ := Lib.hid hhz
  clear h hW0 hb q0 c0 c1 f0 f1 x0 x1 x2 bz hqz hhz
  have HT := Lib.hid hT
  clear hT
  have hor : (T = -1 ∧ decide ((0 : Int) ≤ T) = false) ∨ (decide ((0 : Int) ≤ T) = true ∧ ((xt : Int) != T) = false) := by
    rcases HT.out with h | ⟨h1, h2⟩
    · exact .inl ⟨h, by rw [h]; rfl⟩
    · exact .inr ⟨by simpa using h1, by rw [h2]; simp⟩
  go_enter Tryz.func71, Tryz.ntmps71
  go_wp2_with fail
  go_region
  go_wp2_with fail
  go_region
  rcases hor with ⟨hT1, hT0⟩ | ⟨hT0, hTx⟩
  all_goals go_wp2_with fail
  all_goals
    have hA := ((But.set gf 1 W0 (.int .i64 ((k : Int) + 1))).block w.heap.size rl (by simp; omega)).trans HQ.out
    have hS := at_set (a := .int .i64 ((xt : Nat) : Int)) (b := .string xc) (c := .string xr) hA
    have hG := el_other (g := w.heap.size) (a := .int .i64 ((xt : Nat) : Int)) (b := .string xc) (c := .string xr) (fi_set1 (b := .int .i64 ((k : Int) + 1)) HH.out) hg2
    have hU := ((((But.of HB.out).next (But.set gf 1 W0 (.int .i64 ((k : Int) + 1)))).fresh (But.set w.heap.size 0 _ (.int .i64 ((xt : Nat) : Int))) (Nat.le_refl _)).fresh (But.set w.heap.size 1 _ (.string xc)) (Nat.le_refl _)).fresh (But.set w.heap.size 2 _ (.string xr)) (Nat.le_refl _)
    exact bodyPost_ret (elRes0 rfl _ _ _ _ _ _ rfl (((belowNew _ _).block _ (Array.getElem?_eq_some_iff.1 hS).1).trans hS)) rfl ⟨rfl, ((belowNew _ _).block _ (Array.getElem?_eq_some_iff.1 hG).1).trans hG, (hU.alloc _).drew.drew⟩
set_option maxRecDepth 100000 in
set_option maxHeartbeats 2000000 in
theorem rend_any (gf n c k : Nat) (a : Option Addr) (w : World) (h : w.heap[gf]? = some (.cells #[.slice a n c, .int .i64 (k : Int)] 70 (0, 0))) :
    Calls Tryz.prog 73 #[.pointer (some ⟨gf, 0, none⟩)] w fun e w' => e = .returned (.int .i64 (if k < n then 4 else 0)) ∧ Below w.heap.size w w' := by
  obtain ⟨c0, c1, f0, f1, l0⟩ := fi_facts h
  clear h f0 f1
  by_cases hk : k < n
  · have hd : decide ((k : Int) < (n : Int)) = true := by simp; omega
    have hd2 : decide (k < n) = true := by simp; omega
    rw [if_pos hk]
    clear hk
    go_enter Tryz.func73, Tryz.ntmps73
    go_wp2_with fail
    go_region
    go_wp2_with fail
    go_ret
    exact ⟨rfl, (Below.refl _ _).drew⟩
  · have hd : decide ((k : Int) < (n : Int)) = false := by simp; omega
    have hd2 : decide (k < n) = false := by simp; omega
    rw [if_neg hk]
    clear hk
    go_enter Tryz.func73, Tryz.ntmps73
    go_wp2_with fail
    go_region
    go_wp2_with fail
    go_ret
    exact ⟨rfl, (Below.refl _ _).drew⟩
end Go.Proofs.YtfpfgdbfigdooaaGreatDoor
namespace Go.Proofs.YtfpfgdbfigdooaaGreatDoor
open Go.RowKit

theorem opn_decA (x : El) : decA x = if opnE x 48 ≠ 0 then (opnE x 48, noAt) else decL (opnL x 48) := by
  unfold decA opnE opnL
  by_cases h : x.1 = 48
  · simp [h]
  · simp [h]
theorem opn_mem (x : El) (T : Nat) : ∀ z ∈ opnL x T, z.2.1.size ≤ x.2.1.size := by
  intro z hz
  unfold opnL at hz
  split at hz
  · cases hz
  · exact lst_mem _ _ (Nat.le_refl _) z hz
theorem opn_len (x : El) (T : Nat) : (opnL x T).length ≤ x.2.1.size := by
  unfold opnL
  split
  · exact Nat.zero_le _
  · exact lst_length _ _ (Nat.le_refl _)

set_option maxRecDepth 100000 in
set_option maxHeartbeats 8000000 in
theorem rdeca_any (x : El) (w : World) (hx : x.2.1.size ≤ 1099511627) :
    Calls Tryz.prog 45 #[elV x.1 x.2.1 x.2.2] w fun e w' => e = .returned (.tuple #[atV (decA x).2, .int .i64 (((decA x).1 : Nat) : Int)]) ∧ Below w.heap.size w w' := by
  have HOP := Lib.hid (fun W => ropen_any x 48 W (Nat.le_trans hx (by omega)))
  have HMEM := Lib.hid (fun z (hz : z ∈ opnL x 48) => Nat.le_trans (opn_mem x 48 z hz) hx)
  have hlen := opn_len x 48
  obtain ⟨E, A, hEA⟩ : ∃ E A, decA x = (E, A) := ⟨_, _, rfl⟩
  rw [hEA]
  have HRES := Lib.hid (show (E, A) = if opnE x 48 ≠ 0 then (opnE x 48, noAt) else decL (opnL x 48) by rw [← hEA]; exact opn_decA x)
  generalize opnE x 48 = er at HOP HRES
  generalize opnL x 48 = l at HOP HRES HMEM hlen
  obtain ⟨t, ct, rw0⟩ := x
  unfold elV at HOP ⊢
  simp only at hx hlen HOP ⊢
  obtain ⟨W0, hW0⟩ : ∃ W0, W0 = ((w.alloc (.cells #[.int .i64 ((t : Nat) : Int), .string ct, .string rw0] 63)).alloc (.cells #[.string ⟨#[]⟩, .int .i64 0, .string ⟨#[]⟩] 27)).alloc (.cells #[.string ⟨#[]⟩, .int .i64 0, .string ⟨#[]⟩] 27) := ⟨_, rfl⟩
  have HWE := Lib.hid hW0.symm
  have hb0 : Below w.heap.size w W0 := by rw [hW0]; exact below_next (belowTwo w _ _) (belowNew _ _)
  have q0 : W0.heap[w.heap.size]? = some (.cells #[.int .i64 ((t : Nat) : Int), .string ct, .string rw0] 63 (0, 0)) := by
    rw [hW0]; exact ((belowNew _ _).block _ (by simp <;> omega)).trans (((belowNew _ _).block _ (by simp)).trans (heap_alloc_new w _))
  have q1 : W0.heap[w.heap.size + 1]? = some (.cells #[.string ⟨#[]⟩, .int .i64 0, .string ⟨#[]⟩] 27 (0, 0)) := by
    have := heap_alloc_new (w.alloc (.cells #[.int .i64 ((t : Nat) : Int), .string ct, .string rw0] 63)) (.cells #[.string ⟨#[]⟩, .int .i64 0, .string ⟨#[]⟩] 27)
    rw [hW0]
    refine ((belowNew _ _).block _ (by simp)).trans ?_
    simpa using this
  have q2 : W0.heap[w.heap.size + 1 + 1]? = some (.cells #[.string ⟨#[]⟩, .int .i64 0, .string ⟨#[]⟩] 27 (0, 0)) := by
    have := heap_alloc_new ((w.alloc (.cells #[.int .i64 ((t : Nat) : Int), .string ct, .string rw0] 63)).alloc (.cells #[.string ⟨#[]⟩, .int .i64 0, .string ⟨#[]⟩] 27)) (.cells #[.string ⟨#[]⟩, .int .i64 0, .string ⟨#[]⟩] 27)
    rw [← hW0] at this
    simpa using this
  obtain ⟨e0, e1, e2, _, _, _, el⟩ := at_facts q0
  have HB0 := Lib.hid hb0
  have HQ1 := Lib.hid q1
  have HQ2 := Lib.hid q2
  have hz0 : W0.heap.size = w.heap.size + 3 := by rw [hW0]; simp
  clear hW0 hb0 q0 q1 q2 hEA
  go_enter Tryz.func45, Tryz.ntmps45
  go_wp2_with fail
  rw [HWE.out]
  refine (HOP.out W0).mono ?_
  rintro e w1 ⟨⟨v1, rfl, ho1⟩, hb1⟩
  obtain ⟨a, c, rfl, hlc, hel, hbk⟩ := ElAt.of ho1
  have HEL1 := Lib.hid hel
  have HBK := Lib.hid hbk
  obtain ⟨n, hn⟩ : ∃ n, n = l.length := ⟨_, rfl⟩
  rw [← hn] at hlc hlen ⊢
  have HN := Lib.hid hn
  have hnz : n ≤ 1099511627 := by omega
  obtain ⟨gl, hgl⟩ : ∃ gl, gl = w1.heap.size := ⟨_, rfl⟩
  obtain ⟨V1, hV1⟩ : ∃ V1, V1 = w1.alloc (.cells #[.slice a n c, .int .i64 0] 70) := ⟨_, rfl⟩
  have hbV : Below gl w1 V1 := by rw [hV1, hgl]; exact belowNew w1 _
  have qg : V1.heap[gl]? = some (.cells #[.slice a n c, .int .i64 ((0 : Nat) : Int)] 70 (0, 0)) := by rw [hV1, hgl]; exact heap_alloc_new w1 _
  have hw03 : w.heap.size + 3 ≤ gl := by rw [hgl, ← hz0]; exact hb1.size
  have HRV := Lib.hid ((hbV.block (w.heap.size + 1) (by omega)).trans ((hb1.block (w.heap.size + 1) (by omega)).trans HQ1.out))
  have HSV := Lib.hid ((hbV.block (w.heap.size + 1 + 1) (by omega)).trans ((hb1.block (w.heap.size + 1 + 1) (by omega)).trans HQ2.out))
  have HBV := Lib.hid (show Below w.heap.size w V1 from (below_next HB0.out hb1).trans (hbV.mono (by omega)))
  have HELV := Lib.hid (HEL1.out.below (by rw [← hgl]; exact hbV))
  have HGL := Lib.hid hgl
  have HQG := Lib.hid qg
  have HWE1 := Lib.hid hV1.symm
  obtain ⟨s0, s1, s2, f0, f1, f2, sl⟩ := at_facts HRV.out
  obtain ⟨z0, z1, z2, _, _, _, zl⟩ := at_facts HSV.out
  clear e0 e1 e2 el ho1 hb1 hel hbk hn hV1 hgl hbV qg
  go_upto_region 3 with fail
  rw [HWE1.out, ← HGL.out]
  by_cases hz : er = 0
  case neg =>
    obtain ⟨rfl, rfl⟩ : E = er ∧ A = noAt := by have := HRES.out; rw [if_pos hz] at this; simpa using this
    have hz1 := errno_ne hz
    clear hz
    go_wp2_with fail
    exact bodyPost_ret (atRes0 rfl _ _ _ _ _ _ rfl (at_set HRV.out)) rfl ⟨rfl, at_below HBV.out (by omega)⟩
  subst hz
  have HRE := Lib.hid (show (E, A) = decL l by have := HRES.out; rwa [if_neg (by simp)] at this)
  clear HRES
  go_wp2_with fail
  clear s0 s1 s2 f0 f1 f2 sl z0 z1 z2 zl
  have hglt : gl < V1.heap.size := (Array.getElem?_eq_some_iff.1 HQG.out).1
  cases l with
  | nil =>
    obtain ⟨rfl, rfl⟩ : E = 3 ∧ A = noAt := by have := HRE.out; simpa [decL] using this
    obtain rfl : n = 0 := HN.out
    refine (rneed_trunc gl 0 c 0 a 6 V1 HQG.out (Nat.le_refl _)).mono ?_
    rintro e w2 ⟨rfl, hb2⟩
    have hrg := (hb2.block (w.heap.size + 1) (Array.getElem?_eq_some_iff.1 HRV.out).1).trans HRV.out
    have hsg := (hb2.block (w.heap.size + 1 + 1) (Array.getElem?_eq_some_iff.1 HSV.out).1).trans HSV.out
    have bz := belowNew w2 (.cells #[.int .i64 0, .string ⟨#[]⟩, .string ⟨#[]⟩] 63)
    have HRF := Lib.hid ((bz.block (w.heap.size + 1) (Array.getElem?_eq_some_iff.1 hrg).1).trans hrg)
    obtain ⟨s0, s1, s2, f0, f1, f2, sl⟩ := at_facts HRF.out
    obtain ⟨z0, z1, z2, _, _, _, zl⟩ := at_facts ((bz.block (w.heap.size + 1 + 1) (Array.getElem?_eq_some_iff.1 hsg).1).trans hsg)
    have HBF := Lib.hid (below_next (below_next HBV.out hb2) bz)
    clear hb2 hrg hsg bz
    unfold noEl
    go_wp2_with fail
    exact bodyPost_ret (atRes0 rfl _ _ _ _ _ _ rfl (at_set HRF.out)) rfl ⟨rfl, at_below HBF.out (by omega)⟩
  | cons x r =>
    obtain ⟨b, o, rfl, hcl⟩ := HELV.out.resolve_left (by simp)
    have hb2 := HBK.out _ rfl (by simp)
    rw [← HGL.out] at hb2
    have hbg : b ≠ gl := by have := hb2.2; simp at this; omega
    have hn1 : 1 ≤ n := by have := HN.out; simp at this; omega
    obtain ⟨x0, x1, x2⟩ := hcl 0 (by simp)
    rw [show (x :: r).getD 0 ((0 : Nat), (⟨#[]⟩ : ByteArray), (⟨#[]⟩ : ByteArray)) = x from rfl] at x0 x1 x2
    have HXM := Lib.hid (HMEM.out x (by simp))
    have HCL := Lib.hid hcl
    clear hcl hb2
    by_cases hx6 : x.1 = 6
    case neg =>
      obtain ⟨rfl, rfl⟩ : E = 5 ∧ A = noAt := by have := HRE.out; rw [decL_tag hx6] at this; simpa using this
      refine (rneed_tag gl b o n c 0 6 x V1 HQG.out (by omega) x0 x1 x2 hx6).mono ?_
      rintro e w2 ⟨rfl, hb2⟩
      clear x0 x1 x2 hx6
      have hrg := (hb2.block (w.heap.size + 1) (Array.getElem?_eq_some_iff.1 HRV.out).1).trans HRV.out
      have hsg := (hb2.block (w.heap.size + 1 + 1) (Array.getElem?_eq_some_iff.1 HSV.out).1).trans HSV.out
      have bz := belowNew w2 (.cells #[.int .i64 0, .string ⟨#[]⟩, .string ⟨#[]⟩] 63)
      have HRF := Lib.hid ((bz.block (w.heap.size + 1) (Array.getElem?_eq_some_iff.1 hrg).1).trans hrg)
      obtain ⟨s0, s1, s2, f0, f1, f2, sl⟩ := at_facts HRF.out
      obtain ⟨z0, z1, z2, _, _, _, zl⟩ := at_facts ((bz.block (w.heap.size + 1 + 1) (Array.getElem?_eq_some_iff.1 hsg).1).trans hsg)
      have HBF := Lib.hid (below_next (below_next HBV.out hb2) bz)
      clear hb2 hrg hsg bz
      unfold noEl
      go_wp2_with fail
      exact bodyPost_ret (atRes0 rfl _ _ _ _ _ _ rfl (at_set HRF.out)) rfl ⟨rfl, at_below HBF.out (by omega)⟩
    have HX6 := Lib.hid hx6
    refine (rneed_ok gl b o n c 0 6 x V1 HQG.out (by omega) x0 x1 x2 (.inr ⟨by omega, by rw [hx6]; rfl⟩) (by omega)).mono ?_
    rintro e w2 ⟨rfl, hg2, hb2⟩
    have hg2 : w2.heap[gl]? = some (.cells #[.slice (some ⟨b, o, none⟩) n c, .int .i64 ((1 : Nat) : Int)] 70 (0, 0)) := hg2
    obtain ⟨xt, xc, xr⟩ := x
    unfold elV
    simp only at HXM HX6 ⊢
    obtain ⟨W3, hW3⟩ : ∃ W3, W3 = w2.alloc (.cells #[.int .i64 ((xt : Nat) : Int), .string xc, .string xr] 63) := ⟨_, rfl⟩
    have hb3 : Below w2.heap.size w2 W3 := by rw [hW3]; exact belowNew w2 _
    have hq3 : W3.heap[w2.heap.size]? = some (.cells #[.int .i64 ((xt : Nat) : Int), .string xc, .string xr] 63 (0, 0)) := by rw [hW3]; exact heap_alloc_new w2 _
    obtain ⟨y0, y1, y2, _, _, _, yl⟩ := at_facts hq3
    have hW3' := hW3.symm
    have HB3 := Lib.hid (show But gl V1 W3 from hb2.next (But.of hb3))
    have HG3 := Lib.hid ((hb3.block gl (Array.getElem?_eq_some_iff.1 hg2).1).trans hg2)
    have HR3 := Lib.hid ((HB3.out.block (w.heap.size + 1) (by omega) (by simp; omega)).trans HRV.out)
    have HS3 := Lib.hid ((HB3.out.block (w.heap.size + 1 + 1) (by omega) (by simp; omega)).trans HSV.out)
    have HBW3 := Lib.hid (show Below w.heap.size w W3 from HBV.out.trans ((HB3.out.below (by omega)).mono (by omega)))
    clear hW3 hb3 hq3 hb2 hg2 x0 x1 x2 hx6
    go_wp2_with fail
    refine (rdecode_any xc W3 HXM.out).mono ?_
    rintro e w4 ⟨hdc, hb4⟩
    have HB4 := Lib.hid (show But gl V1 w4 from HB3.out.next (But.of hb4))
    have HG4 := Lib.hid ((hb4.block gl (Array.getElem?_eq_some_iff.1 HG3.out).1).trans HG3.out)
    have HR4 := Lib.hid ((hb4.block (w.heap.size + 1) (Array.getElem?_eq_some_iff.1 HR3.out).1).trans HR3.out)
    have HS4 := Lib.hid ((hb4.block (w.heap.size + 1 + 1) (Array.getElem?_eq_some_iff.1 HS3.out).1).trans HS3.out)
    have HBW4 := Lib.hid (below_next HBW3.out hb4)
    clear hb4 y0 y1 y2 yl hW3'
    rcases oidD_decd hdc with ⟨id, hid, rfl⟩ | ⟨hid, rfl⟩
    case inr =>
      obtain ⟨rfl, rfl⟩ : E = 11 ∧ A = noAt := by have := HRE.out; rw [decL_oid HX6.out hid] at this; simpa using this
      obtain ⟨s0, s1, s2, f0, f1, f2, sl⟩ := at_facts HR4.out
      obtain ⟨z0, z1, z2, _, _, _, zl⟩ := at_facts HS4.out
      clear hdc hid
      go_wp2_with fail
      exact bodyPost_ret (atRes0 rfl _ _ _ _ _ _ rfl (at_set HR4.out)) rfl ⟨rfl, at_below HBW4.out (by omega)⟩
    have HID := Lib.hid hid
    clear hdc hid
    go_wp2_with fail
    cases r with
    | nil =>
      obtain ⟨rfl, rfl⟩ : E = 3 ∧ A = noAt := by have := HRE.out; rw [decL_one HX6.out HID.out] at this; simpa using this
      obtain rfl : n = 1 := HN.out
      refine (rneed_trunc gl 1 c 1 _ (-1) w4 HG4.out (Nat.le_refl _)).mono ?_
      rintro e w5 ⟨rfl, hb2⟩
      have hrg := (hb2.block (w.heap.size + 1) (Array.getElem?_eq_some_iff.1 HR4.out).1).trans HR4.out
      have hsg := (hb2.block (w.heap.size + 1 + 1) (Array.getElem?_eq_some_iff.1 HS4.out).1).trans HS4.out
      have bz := belowNew w5 (.cells #[.int .i64 0, .string ⟨#[]⟩, .string ⟨#[]⟩] 63)
      have HRF := Lib.hid ((bz.block (w.heap.size + 1) (Array.getElem?_eq_some_iff.1 hrg).1).trans hrg)
      obtain ⟨s0, s1, s2, f0, f1, f2, sl⟩ := at_facts HRF.out
      obtain ⟨z0, z1, z2, _, _, _, zl⟩ := at_facts ((bz.block (w.heap.size + 1 + 1) (Array.getElem?_eq_some_iff.1 hsg).1).trans hsg)
      have HBF := Lib.hid (below_next (below_next HBW4.out hb2) bz)
      clear hb2 hrg hsg bz
      unfold noEl
      go_wp2_with fail
      exact bodyPost_ret (atRes0 rfl _ _ _ _ _ _ rfl (at_set HRF.out)) rfl ⟨rfl, at_below HBF.out (by omega)⟩
    | cons y q =>
      have hn2 : 2 ≤ n := by have := HN.out; simp at this; omega
      obtain ⟨z0, z1, z2⟩ := HCL.out 1 (by simp)
      rw [show ((xt, xc, xr) :: y :: q).getD 1 ((0 : Nat), (⟨#[]⟩ : ByteArray), (⟨#[]⟩ : ByteArray)) = y from rfl] at z0 z1 z2
      have hbk := HB4.out.block b (block_lt z0) (by simpa using hbg)
      have z0 := (cell_same hbk _).trans z0
      have z1 := (cell_same hbk _).trans z1
      have z2 := (cell_same hbk _).trans z2
      clear hbk
      refine (rneed_ok gl b o n c 1 (-1) y w4 HG4.out (by omega) z0 z1 z2 (.inl rfl) (by omega)).mono ?_
      rintro e w5 ⟨rfl, hg5, hb5⟩
      have hg5 : w5.heap[gl]? = some (.cells #[.slice (some ⟨b, o, none⟩) n c, .int .i64 ((2 : Nat) : Int)] 70 (0, 0)) := hg5
      obtain ⟨yt, yc, yr⟩ := y
      unfold elV
      simp only
      obtain ⟨W6, hW6⟩ : ∃ W6, W6 = w5.alloc (.cells #[.int .i64 ((yt : Nat) : Int), .string yc, .string yr] 63) := ⟨_, rfl⟩
      have hb6 : Below w5.heap.size w5 W6 := by rw [hW6]; exact belowNew w5 _
      have hq6 : W6.heap[w5.heap.size]? = some (.cells #[.int .i64 ((yt : Nat) : Int), .string yc, .string yr] 63 (0, 0)) := by rw [hW6]; exact heap_alloc_new w5 _
      obtain ⟨y0, y1, y2, _, _, _, yl⟩ := at_facts hq6
      have hW6' := hW6.symm
      have hB6 : But gl w4 W6 := hb5.next (But.of hb6)
      have HG6 := Lib.hid ((hb6.block gl (Array.getElem?_eq_some_iff.1 hg5).1).trans hg5)
      have HR6 := Lib.hid ((hB6.block (w.heap.size + 1) (Array.getElem?_eq_some_iff.1 HR4.out).1 (by simp; omega)).trans HR4.out)
      have HS6 := Lib.hid ((hB6.block (w.heap.size + 1 + 1) (Array.getElem?_eq_some_iff.1 HS4.out).1 (by simp; omega)).trans HS4.out)
      have HBW6 := Lib.hid (show Below w.heap.size w W6 from HBW4.out.trans ((hB6.below (Nat.le_of_lt (Array.getElem?_eq_some_iff.1 HG4.out).1)).mono (by omega)))
      have HQ6 := Lib.hid hq6
      obtain ⟨s0, s1, s2, f0, f1, f2, sl⟩ := at_facts HR6.out
      obtain ⟨k0, k1, k2, _, _, _, kl⟩ := at_facts HS6.out
      clear hW6 hb6 hq6 hb5 hg5 hB6 z0 z1 z2
      cases hsy : strTag yt with
      | false =>
        obtain ⟨rfl, rfl⟩ : E = 5 ∧ A = noAt := by have := HRE.out; rw [decL_kind HX6.out HID.out hsy] at this; simpa using this
        have hs3 : ¬ yt = 12 ∧ ¬ yt = 19 ∧ ¬ yt = 22 := by simpa [strTag, and_assoc] using hsy
        have t1 : ((yt : Int) != 12) = true := by simp; omega
        have t2 : ((yt : Int) != 19) = true := by simp; omega
        have t3 : ((yt : Int) != 22) = true := by simp; omega
        clear hs3 hsy
        go_wp2_with fail
        exact bodyPost_ret (atRes0 rfl _ _ _ _ _ _ rfl (at_set HR6.out)) rfl ⟨rfl, at_below HBW6.out (by omega)⟩
      | true =>
        have HEN := Lib.hid (rend_any gl n c 2 _ W6 HG6.out)
        have hor : yt = 12 ∨ yt = 19 ∨ yt = 22 := by simpa [strTag, or_assoc] using hsy
        have hways : ((yt : Int) != 12) = false ∨ (((yt : Int) != 12) = true ∧ ((yt : Int) != 19) = false) ∨ (((yt : Int) != 12) = true ∧ ((yt : Int) != 19) = true ∧ ((yt : Int) != 22) = false) := by
          rcases hor with h | h | h <;> subst h
          · exact .inl rfl
          · exact .inr (.inl ⟨rfl, rfl⟩)
          · exact .inr (.inr ⟨rfl, rfl, rfl⟩)
        have HSY := Lib.hid hsy
        clear hsy hor
        cases q with
        | nil =>
          obtain ⟨rfl, rfl⟩ : E = 0 ∧ A = (id, (yt : Int), yc) := by have := HRE.out; rw [decL_ok HX6.out HID.out HSY.out] at this; simpa using this
          obtain rfl : n = 2 := HN.out
          rw [if_neg (by omega)] at HEN
          rcases hways with t1 | ⟨t1, t2⟩ | ⟨t1, t2, t3⟩
          all_goals
            go_wp2_with (go_at_call 73; (with_reducible refine HEN.out.mono ?_); rintro e w7 ⟨rfl, hb7⟩; have hr7 := (hb7.block (w.heap.size + 1) (Array.getElem?_eq_some_iff.1 HR6.out).1).trans HR6.out; have HR7 := Lib.hid hr7; obtain ⟨s0', s1', s2', f0', f1', f2', sl'⟩ := at_facts hr7; obtain ⟨y0', y1', y2', _, _, _, yl'⟩ := at_facts ((hb7.block w5.heap.size (Array.getElem?_eq_some_iff.1 HQ6.out).1).trans HQ6.out); have HB7 := Lib.hid (below_next HBW6.out hb7); clear hb7 hr7)
            exact bodyPost_ret (atRes0 rfl _ _ _ _ _ _ rfl (at_set HR7.out)) rfl ⟨rfl, at_below HB7.out (by omega)⟩
        | cons z q =>
          obtain ⟨rfl, rfl⟩ : E = 4 ∧ A = noAt := by have := HRE.out; rw [decL_more HX6.out HID.out HSY.out] at this; simpa using this
          have h20 : 2 < n := by have := HN.out; simp at this; omega
          rw [if_pos h20] at HEN
          rcases hways with t1 | ⟨t1, t2⟩ | ⟨t1, t2, t3⟩
          all_goals
            go_wp2_with (go_at_call 73; (with_reducible refine HEN.out.mono ?_); rintro e w7 ⟨rfl, hb7⟩; have hr7 := (hb7.block (w.heap.size + 1) (Array.getElem?_eq_some_iff.1 HR6.out).1).trans HR6.out; have HR7 := Lib.hid hr7; obtain ⟨s0', s1', s2', f0', f1', f2', sl'⟩ := at_facts hr7; obtain ⟨k0', k1', k2', _, _, _, kl'⟩ := at_facts ((hb7.block (w.heap.size + 1 + 1) (Array.getElem?_eq_some_iff.1 HS6.out).1).trans HS6.out); have HB7 := Lib.hid (below_next HBW6.out hb7); clear hb7 hr7)
            exact bodyPost_ret (atRes0 rfl _ _ _ _ _ _ rfl (at_set HR7.out)) rfl ⟨rfl, at_below HB7.out (by omega)⟩
end Go.Proofs.YtfpfgdbfigdooaaGreatDoor
namespace Go.Proofs.YtfpfgdbfigdooaaGreatDoor
open Go.RowKit

theorem at_news1 (w1 : World) (E : At) : ∀ j u, (atCells E)[j]? = some u → (w1.alloc (.cells #[.string E.1, .int .i64 E.2.1, .string E.2.2] 27)).cell? ((⟨w1.heap.size, 0, none⟩ : Addr).add j) = some u := by
  intro j u h
  exact news_row w1 #[.string E.1, .int .i64 E.2.1, .string E.2.2] 27 j u (by simpa [atCells] using h)
theorem ats_round1 {w wr w1 w2 : World} {B : Nat} {v v' : Value} {D : List At} {e : At} {Y : Obj} (hB : w.heap.size ≤ B) (hown : OwnA wr B v D) (hb : Below w.heap.size w wr) (hb1 : Below wr.heap.size wr w1)
    (hown2 : w2.ownsRow B 27 3 v' (D.length + 1) (atsCells D ++ atCells e)) (hgr2 : (w1.alloc Y).grownBy w2 v.ownBlock) : OwnA w2 B v' (D ++ [e]) ∧ Below w.heap.size w w2 := by
  have h1 := hb.size
  have h2 := hb1.size
  refine ⟨?_, ?_⟩
  · unfold OwnA
    rw [List.length_append, atsCells_snoc]; exact hown2
  · exact ((hb.trans (hb1.mono h1)).alloc (by omega) Y).grown hgr2 (by simp; omega) (fun k e => Nat.le_trans hB (World.ownsRow.lt hown k e).1)
theorem decN_res {b : ByteArray} (h1 : oneErr b = 0) : decN b = if opnE (rdTag b, rdContent b, rdRaw b) 48 ≠ 0 then (opnE (rdTag b, rdContent b, rdRaw b) 48, []) else if (decRs (opnL (rdTag b, rdContent b, rdRaw b) 48)).1 ≠ 0 then ((decRs (opnL (rdTag b, rdContent b, rdRaw b) 48)).1, []) else if chkN (decRs (opnL (rdTag b, rdContent b, rdRaw b) 48)).2 ≠ 0 then (chkN (decRs (opnL (rdTag b, rdContent b, rdRaw b) 48)).2, []) else (0, (decRs (opnL (rdTag b, rdContent b, rdRaw b) 48)).2) := by
  unfold decN decN0 opnE opnL
  by_cases h2 : rdTag b = 48
  · by_cases h3 : (lst (rdContent b)).2 = 0
    · simp only [h1, h2, h3, ne_eq, not_true_eq_false, if_false]
    · simp only [h1, h2, h3, ne_eq, not_true_eq_false, not_false_eq_true, if_false, if_true]
  · simp [h1, h2]
theorem decN_one {b : ByteArray} (h1 : oneErr b ≠ 0) : decN b = (oneErr b, []) := by
  unfold decN decN0
  rw [if_pos h1]; simp [h1]
theorem decR_opn (x : El) : decR x = if opnE x 49 ≠ 0 then (opnE x 49, []) else if ascB (opnL x 49) = false then (9, []) else decAs (opnL x 49) := by
  unfold decR opnE opnL
  by_cases h : x.1 = 49
  · simp only [h, ne_eq, not_true_eq_false, if_false]
  · simp [h]
theorem decRs_opn_small {b : ByteArray} (hx : b.size ≤ 1000000) (h1 : oneErr b = 0) (h2 : opnE (rdTag b, rdContent b, rdRaw b) 48 = 0) : SmallN (decRs (opnL (rdTag b, rdContent b, rdRaw b) 48)).2 := by
  have h := decN0_small hx
  unfold decN0 at h
  rw [if_neg (by simpa using h1)] at h
  unfold opnE at h2
  unfold opnL
  simp only at h2 ⊢
  by_cases h3 : rdTag b = 48
  · rw [if_neg (by simpa using h3)] at h h2 ⊢
    rwa [if_neg (by simpa using h2)] at h
  · rw [if_pos h3] at h2; cases h2

set_option maxRecDepth 100000 in
set_option maxHeartbeats 8000000 in
theorem rdecode_nm (x : ByteArray) (w : World) (hx : x.size ≤ 1000000) :
    Calls Tryz.prog 21 #[.string x] w fun e w' => ∃ v, e = .returned (.tuple #[v, .int .i64 (((decN x).1 : Nat) : Int)]) ∧ OwnV w' w.heap.size v (decN x).2 ∧ Below w.heap.size w w' := by
  obtain ⟨i0, hi, hz0, hz1, hz2⟩ := info_parts rdInfo
  obtain ⟨i1, hi', hy0, hy1, hy2⟩ := info_parts atInfo
  obtain ⟨E, A, hEA⟩ : ∃ E A, decN x = (E, A) := ⟨_, _, rfl⟩
  have HRES := Lib.hid (show (E, A) = decN x from hEA.symm)
  rw [hEA]
  clear hEA
  obtain ⟨g, hg⟩ : ∃ g, g = w.heap.size := ⟨_, rfl⟩
  obtain ⟨W0, hW0⟩ : ∃ W0, W0 = (w.alloc (.cells #[.slice none 0 0] 24)).alloc (.cells #[.slice none 0 0] 24) := ⟨_, rfl⟩
  have HB0 := Lib.hid (show Below w.heap.size w W0 by rw [hW0]; exact belowTwo w _ _)
  have HZ0 := Lib.hid (show W0.heap.size = g + 2 by rw [hW0, hg]; simp)
  have HG0 := Lib.hid (show W0.heap[g]? = some (.cells #[.slice none 0 0] 24 (0, 0)) by
    rw [hW0, hg]; exact ((belowNew _ _).block _ (by simp)).trans (heap_alloc_new w _))
  have HG1 := Lib.hid (show W0.heap[g + 1]? = some (.cells #[.slice none 0 0] 24 (0, 0)) by
    have := heap_alloc_new (w.alloc (.cells #[.slice none 0 0] 24)) (.cells #[.slice none 0 0] 24)
    rw [← hW0] at this
    rw [hg]
    simpa using this)
  have HWE := Lib.hid hW0.symm
  have HG := Lib.hid hg
  have HON := Lib.hid (rone_any x W0 (by omega))
  unfold oneVal at HON
  clear hW0 hg
  go_enter Tryz.func21, Tryz.ntmps21
  go_wp2_with fail
  rw [HWE.out, ← HG.out]
  by_cases h1 : oneErr x = 0
  case neg =>
    obtain ⟨hE, rfl⟩ : E = oneErr x ∧ A = [] := by have := HRES.out; rw [decN_one h1] at this; simpa using this
    rw [if_neg h1] at HON
    have hz1 := errno_ne h1
    unfold noEl at HON
    rw [← hE] at HON hz1
    clear h1 hE HRES
    refine HON.out.mono ?_
    rintro e w1 ⟨rfl, hb1⟩
    have hr := (hb1.block g (by have := HZ0.out; omega)).trans HG0.out
    have hs := (hb1.block (g + 1) (by have := HZ0.out; omega)).trans HG1.out
    have bz := belowNew w1 (.cells #[.int .i64 0, .string ⟨#[]⟩, .string ⟨#[]⟩] 63)
    have hr2 := (bz.block g (Array.getElem?_eq_some_iff.1 hr).1).trans hr
    have hs2 := (bz.block (g + 1) (Array.getElem?_eq_some_iff.1 hs).1).trans hs
    have HR := Lib.hid hr2
    have HBF := Lib.hid (below_next (below_next HB0.out hb1) bz)
    obtain ⟨s0, f0, sl⟩ := one_facts hr2
    obtain ⟨s1, f1, sl1⟩ := one_facts hs2
    clear hb1 hr bz hr2 hs hs2
    go_wp2_with fail
    exact bodyPost_ret (nmRes rfl _ _ w _ (by rw [← HG.out]; rfl) (by rw [← HG.out]; exact one_set HR.out)) rfl ⟨_, rfl, ⟨_, rfl, OwnN.nil _ _⟩, HBF.out.setCell (p := ⟨g, 0, none⟩) (by rw [← HG.out]; exact Nat.le_refl _) _⟩
  rw [if_pos h1] at HON
  unfold elV at HON
  have HRE := Lib.hid (HRES.out.trans (decN_res h1))
  have HSM := Lib.hid (decRs_opn_small hx h1)
  have hrc := rdContent_size (oneErr_rd h1)
  generalize rdTag x = t at HON HRE HSM
  generalize rdContent x = ct at HON HRE hrc HSM
  generalize rdRaw x = rw0 at HON HRE HSM
  have HOP := Lib.hid (fun W => ropen_any (t, ct, rw0) 48 W (by simp only; omega))
  have HMEM := Lib.hid (fun z (hz : z ∈ opnL (t, ct, rw0) 48) => Nat.le_trans (opn_mem (t, ct, rw0) 48 z hz) (show ct.size ≤ 1099511627 by omega))
  have hlen := opn_len (t, ct, rw0) 48
  unfold elV at HOP
  generalize opnL (t, ct, rw0) 48 = l at HRE HSM HOP HMEM hlen
  generalize opnE (t, ct, rw0) 48 = er at HRE HSM HOP
  simp only at HOP hlen
  clear HRES h1
  refine HON.out.mono ?_
  rintro e w1 ⟨rfl, hb1⟩
  obtain ⟨W1, hW1⟩ : ∃ W1, W1 = w1.alloc (.cells #[.int .i64 ((t : Nat) : Int), .string ct, .string rw0] 63) := ⟨_, rfl⟩
  have hbb : Below w1.heap.size w1 W1 := by rw [hW1]; exact belowNew w1 _
  obtain ⟨e0, e1, e2, _, _, _, el⟩ := at_facts (show W1.heap[w1.heap.size]? = _ from by rw [hW1]; exact heap_alloc_new w1 _)
  have HH0 := Lib.hid ((hbb.block g (by have := hb1.size; have := HZ0.out; omega)).trans ((hb1.block g (by have := HZ0.out; omega)).trans HG0.out))
  have HH1 := Lib.hid ((hbb.block (g + 1) (by have := hb1.size; have := HZ0.out; omega)).trans ((hb1.block (g + 1) (by have := HZ0.out; omega)).trans HG1.out))
  have HB1 := Lib.hid (below_next (below_next HB0.out hb1) hbb)
  have HWE1 := Lib.hid hW1.symm
  clear hb1 hbb hW1
  go_upto_region 5 with fail
  rw [HWE1.out]
  go_wp2_with fail
  refine (HOP.out W1).mono ?_
  rintro e w2 ⟨⟨v2, rfl, ho2⟩, hb2⟩
  obtain ⟨a, c, rfl, hlc, hel, hbk⟩ := ElAt.of ho2
  obtain ⟨n, hn⟩ : ∃ n, n = l.length := ⟨_, rfl⟩
  rw [← hn] at hlc hlen ⊢
  have HN := Lib.hid hn
  have hnz : n ≤ 1099511627 := by omega
  have hzw2 : W1.heap.size ≤ w2.heap.size := hb2.size
  have hgz : g + 2 ≤ W1.heap.size := by
    have := (Array.getElem?_eq_some_iff.1 HH1.out).1
    omega
  obtain ⟨f, hf⟩ : ∃ f, f = w2.heap.size := ⟨_, rfl⟩
  obtain ⟨V2, hV2⟩ : ∃ V2, V2 = w2.alloc (.cells #[.slice a n c, .int .i64 0] 70) := ⟨_, rfl⟩
  have hbV : Below f w2 V2 := by rw [hV2, hf]; exact belowNew w2 _
  have qf : V2.heap[f]? = some (.cells #[.slice a n c, .int .i64 0] 70 (0, 0)) := by rw [hV2, hf]; exact heap_alloc_new w2 _
  have hVz : V2.heap.size = f + 1 := by rw [hV2, hf]; simp
  have hfz : W1.heap.size ≤ f := by omega
  have HH0V := Lib.hid ((hbV.block g (by omega)).trans ((hb2.block g (by omega)).trans HH0.out))
  have HH1V := Lib.hid ((hbV.block (g + 1) (by omega)).trans ((hb2.block (g + 1) (by omega)).trans HH1.out))
  have HBV := Lib.hid (show Below w.heap.size w V2 from (below_next HB1.out hb2).trans (hbV.mono (by rw [← HG.out]; omega)))
  have HELV := Lib.hid (hel.below (by rw [← hf]; exact hbV))
  have HBK := Lib.hid (fun x hx hl => And.intro (hbk x hx hl).1 (show x.block < f by rw [hf]; exact (hbk x hx hl).2))
  have HQF := Lib.hid qf
  have HVZ := Lib.hid hVz
  have HWE2 := Lib.hid hV2.symm
  have HF := Lib.hid hf
  obtain ⟨s0, f0, sl⟩ := one_facts HH0V.out
  obtain ⟨s1, f1, sl1⟩ := one_facts HH1V.out
  obtain ⟨k0, k1, _, _, kl⟩ := fi_facts qf
  clear hb2 hbV qf hV2 hf ho2 hel hbk hn e0 e1 e2 el hVz
  go_upto_region 6 with fail
  rw [HWE2.out, ← HF.out]
  by_cases hz : er = 0
  case neg =>
    obtain ⟨rfl, rfl⟩ : E = er ∧ A = [] := by have := HRE.out; rw [if_pos hz] at this; simpa using this
    have hzz := errno_ne hz
    clear hz
    go_wp2_with fail
    exact bodyPost_ret (nmRes rfl _ _ w _ (by rw [← HG.out]; rfl) (by rw [← HG.out]; exact one_set HH0V.out)) rfl ⟨_, rfl, ⟨_, rfl, OwnN.nil _ _⟩, HBV.out.setCell (p := ⟨g, 0, none⟩) (by rw [← HG.out]; exact Nat.le_refl _) _⟩
  subst hz
  have HSMN := Lib.hid (HSM.out rfl)
  have HRE2 := Lib.hid (show (E, A) = if (decRs l).1 ≠ 0 then ((decRs l).1, []) else if chkN (decRs l).2 ≠ 0 then (chkN (decRs l).2, []) else (0, (decRs l).2) by have := HRE.out; rwa [if_neg (by simp)] at this)
  have HDR := Lib.hid (show decRs l = aheadA [] (decRs (l.drop 0)) by rw [List.drop_zero, aheadA_nil decRs_err])
  clear HRE HSM
  obtain ⟨E0, A0, hEA⟩ : ∃ E0 A0, decRs l = (E0, A0) := ⟨_, _, rfl⟩
  rw [hEA] at HSMN HRE2 HDR
  simp only at HSMN HRE2
  clear hEA
  obtain ⟨p, hp⟩ : ∃ p, p = V2.heap.size := ⟨_, rfl⟩
  obtain ⟨W3, hW3⟩ : ∃ W3, W3 = V2.alloc (.cells #[.slice none 0 0] 24) := ⟨_, rfl⟩
  have hb3 : Below p V2 W3 := by rw [hW3, hp]; exact belowNew V2 _
  have hb3' : Below V2.heap.size V2 W3 := by rw [hW3]; exact belowNew V2 _
  have qp : W3.heap[p]? = some (.cells #[.slice none 0 0] 24 (0, 0)) := by rw [hW3, hp]; exact heap_alloc_new V2 _
  have hpf : p = f + 1 := hp.trans HVZ.out
  have HH03 := Lib.hid ((hb3.block g (by omega)).trans HH0V.out)
  have HH13 := Lib.hid ((hb3.block (g + 1) (by omega)).trans HH1V.out)
  have HF3 := Lib.hid ((hb3.block f (by omega)).trans HQF.out)
  have HB3 := Lib.hid (below_next HBV.out hb3')
  have HEL3 := Lib.hid (HELV.out.below hb3')
  have HP3 := Lib.hid qp
  have HPP := Lib.hid hp
  have hpW : p < W3.heap.size := (Array.getElem?_eq_some_iff.1 qp).1
  have HPF := Lib.hid hpf
  have HWE3 := Lib.hid hW3.symm
  have hgp : g + 2 < p := by omega
  obtain ⟨k0, k1, _, _, kl⟩ := fi_facts HF3.out
  clear hb3 hb3' qp hp hW3 s0 f0 sl s1 f1 sl1 hpf
  go_upto_region 9 with fail
  rw [HWE3.out, ← HPP.out]
  go_wp2_with fail
  go_loopw [42] (fun i wr => ∃ (k : Nat) (D : Nm) (v : Value), k ≤ n ∧ D.length = k ∧ i = .int .i64 (k : Int) ∧ (E0, A0) = aheadA D (decRs (l.drop k)) ∧ wr.heap[p]? = some (.cells #[v] 24 (0, 0)) ∧ OwnN wr W3.heap.size v D ∧ But p W3 wr) (fun i _ => n - (intOf i).toNat)
  case atStart => exact ⟨0, [], _, Nat.zero_le _, rfl, rfl, HDR.out, HP3.out, OwnN.nil _ _, But.refl _ _⟩
  case round =>
    obtain ⟨wo, hwo⟩ : ∃ wo, wo = wr := ⟨_, rfl⟩
    subst hwo
    obtain ⟨k, D, v, hk, hDk, rfl, hA, hbx, hown, hb⟩ := hrel
    have HB := Lib.hid hb
    have HA := Lib.hid hA
    have HO := Lib.hid hown
    have HDK := Lib.hid hDk
    have HBX := Lib.hid hbx
    have HR0 := Lib.hid ((hb.block g (by omega) (by simp; omega)).trans HH03.out)
    have HR1 := Lib.hid ((hb.block (g + 1) (by omega) (by simp; omega)).trans HH13.out)
    have hzr : W3.heap.size ≤ wo.heap.size := hb.size
    have HBL := Lib.hid (show Below w.heap.size w wo from HB3.out.trans ((hb.below (by omega)).mono (by rw [← HG.out]; omega)))
    clear hb hA hown hDk hbx
    by_cases hlt : k < n
    · have hd : decide ((k : Int) < (n : Int)) = true := by simp; omega
      obtain ⟨b, o, rfl, hcl⟩ := HEL3.out.resolve_left (fun e => by have := HN.out; rw [e] at this; simp at this; omega)
      obtain ⟨x0, x1, x2⟩ := hcl k (by rw [← HN.out]; exact hlt)
      have hbf : b < f := (HBK.out _ rfl (fun e => by have := HN.out; rw [e] at this; simp at this; omega)).2
      have hfp : f < p := by have := HPF.out; omega
      have c0 := HB.out.cell x0 (by simp; omega)
      have c1 := HB.out.cell x1 (by simp; omega)
      have c2 := HB.out.cell x2 (by simp; omega)
      have hki : (k : Int) < (n : Int) := by omega
      have hmz := HMEM.out (l.getD k noEle) (by rw [List.getD_eq_getElem?_getD, List.getElem?_eq_getElem (by rw [← HN.out]; exact hlt)]; exact List.getElem_mem _)
      have hst := fun h0 => decRs_step (l := l) (k := k) (by rw [← HN.out]; exact hlt) h0 D
      have hbd := fun h0 => decRs_bad (l := l) (k := k) (by rw [← HN.out]; exact hlt) h0 D
      rw [← HA.out] at hst hbd
      generalize l.getD k noEle = y at c0 c1 c2 hmz hst hbd
      have HFE := Lib.hid (show E0 ≠ 0 → E = E0 ∧ A = [] from fun h => by have := HRE2.out; rw [if_pos h] at this; simpa using this)
      have HOP2 := Lib.hid (fun W => ropen_any y 49 W (by omega))
      have HMEM2 := Lib.hid (fun z (hz : z ∈ opnL y 49) => Nat.le_trans (opn_mem y 49 z hz) hmz)
      have hlen2 := opn_len y 49
      rw [decR_opn] at hst hbd
      generalize opnL y 49 = l2 at HOP2 HMEM2 hlen2 hst hbd
      generalize opnE y 49 = er2 at HOP2 hst hbd
      have HST := Lib.hid hst
      have HBD := Lib.hid hbd
      obtain ⟨yt, yc, yr⟩ := y
      unfold elV at HOP2
      simp only at c0 c1 c2 HOP2 hmz hlen2
      obtain ⟨W4, hW4⟩ : ∃ W4, W4 = wo.alloc (.cells #[.int .i64 ((yt : Nat) : Int), .string yc, .string yr] 63) := ⟨_, rfl⟩
      have hb4 : Below wo.heap.size wo W4 := by rw [hW4]; exact belowNew wo _
      obtain ⟨t0, t1, t2, _, _, _, tl⟩ := at_facts (show W4.heap[wo.heap.size]? = _ from by rw [hW4]; exact heap_alloc_new wo _)
      have HB4 := Lib.hid hb4
      have HWE4 := Lib.hid hW4.symm
      clear hst hbd hW4 hb4 x0 x1 x2 hcl hbf
      go_upto_region 12 with fail
      rw [HWE4.out]
      clear c0 c1 c2
      go_wp2_with fail
      refine (HOP2.out W4).mono ?_
      rintro e w5 ⟨⟨v5, rfl, ho5⟩, hb5⟩
      obtain ⟨a2, c2, rfl, hlc2, hel2, hbk2⟩ := ElAt.of ho5
      obtain ⟨m, hm⟩ : ∃ m, m = l2.length := ⟨_, rfl⟩
      rw [← hm] at hlc2 hlen2 ho5 ⊢
      have HM := Lib.hid hm
      have hmm : m ≤ 1099511627 := by omega
      obtain ⟨W5, hW5⟩ : ∃ W5, W5 = w5.alloc (.cells #[.slice a2 m c2, .int .i64 0] 70) := ⟨_, rfl⟩
      have hbW5 : Below w5.heap.size w5 W5 := by rw [hW5]; exact belowNew w5 _
      obtain ⟨q0, q1, _, _, ql⟩ := fi_facts (show W5.heap[w5.heap.size]? = _ from by rw [hW5]; exact heap_alloc_new w5 _)
      have hb45 : Below wo.heap.size wo W5 := below_next (below_next HB4.out hb5) hbW5
      have h0 := (hb45.block g (Array.getElem?_eq_some_iff.1 HR0.out).1).trans HR0.out
      have h1 := (hb45.block (g + 1) (Array.getElem?_eq_some_iff.1 HR1.out).1).trans HR1.out
      have HS0 := Lib.hid h0
      have HS1 := Lib.hid h1
      have HB5 := Lib.hid hb45
      have HBL5 := Lib.hid (below_next HBL.out hb45)
      have HEL5 := Lib.hid (hel2.below hbW5)
      have HOE := Lib.hid (show OwnE W5 W4.heap.size (.slice a2 m c2) l2 from own_below ho5 hbW5)
      have HWE5 := Lib.hid hW5.symm
      obtain ⟨s0, f0, sl⟩ := one_facts h0
      obtain ⟨s1, f1, sl1⟩ := one_facts h1
      clear hb5 hbW5 hW5 hb45 h0 h1 ho5 hel2 hbk2 hm t0 t1 t2 tl
      go_upto_region 13 with fail
      rw [HWE5.out]
      by_cases hz : er2 = 0
      case neg =>
        obtain ⟨rfl, rfl⟩ : E0 = er2 ∧ A0 = [] := by have := HBD.out; rw [if_pos hz] at this; simpa using this hz
        obtain ⟨rfl, rfl⟩ := HFE.out hz
        have hzz := errno_ne hz
        clear hz
        go_wp2_with fail
        exact bodyPost_ret (nmRes rfl _ _ w _ (by rw [← HG.out]; rfl) (by rw [← HG.out]; exact one_set HS0.out)) rfl ⟨_, rfl, ⟨_, rfl, OwnN.nil _ _⟩, HBL5.out.setCell (p := ⟨g, 0, none⟩) (by rw [← HG.out]; exact Nat.le_refl _) _⟩
      subst hz
      have HST2 := Lib.hid (show (if ascB l2 = false then ((9, []) : Nat × List At) else decAs l2).1 = 0 → (E0, A0) = aheadA (D ++ [(if ascB l2 = false then ((9, []) : Nat × List At) else decAs l2).2]) (decRs (l.drop (k + 1))) by have := HST.out; rwa [if_neg (by simp)] at this)
      have HBD2 := Lib.hid (show (if ascB l2 = false then ((9, []) : Nat × List At) else decAs l2).1 ≠ 0 → (E0, A0) = ((if ascB l2 = false then ((9, []) : Nat × List At) else decAs l2).1, []) by have := HBD.out; rwa [if_neg (by simp)] at this)
      clear HST HBD
      have HAS := Lib.hid (rasc_any _ _ l2 W5 HOE.out (by have := HM.out; omega))
      go_wp2_with fail
      refine HAS.out.mono ?_
      rintro e w6 ⟨⟨bb, rfl, hbb⟩, hb6⟩
      have hab := ascB_iff hbb
      rw [← hab] at HST2 HBD2
      have HB6 := Lib.hid (below_next HB5.out hb6)
      have HBL6 := Lib.hid (below_next HBL5.out hb6)
      have HEL6 := Lib.hid (HEL5.out.below hb6)
      have HU0 := Lib.hid ((hb6.block g sl).trans HS0.out)
      have HU1 := Lib.hid ((hb6.block (g + 1) sl1).trans HS1.out)
      have r0 := (hb6.cell (p := ⟨w5.heap.size, 0, none⟩) ql).trans q0
      obtain ⟨u0, g0, hl0⟩ := one_facts HU0.out
      obtain ⟨u1, g1, hl1⟩ := one_facts HU1.out
      clear hbb hb6 hab s0 f0 sl s1 f1 sl1 q0 q1 ql
      cases bb with
      | false =>
        obtain ⟨rfl, rfl⟩ : E0 = 9 ∧ A0 = [] := by simpa using HBD2.out
        obtain ⟨rfl, rfl⟩ := HFE.out (by decide)
        go_wp2_with fail
        exact bodyPost_ret (nmRes rfl _ _ w _ (by rw [← HG.out]; rfl) (by rw [← HG.out]; exact one_set HU0.out)) rfl ⟨_, rfl, ⟨_, rfl, OwnN.nil _ _⟩, HBL6.out.setCell (p := ⟨g, 0, none⟩) (by rw [← HG.out]; exact Nat.le_refl _) _⟩
      | true =>
        have HST3 := Lib.hid (show (decAs l2).1 = 0 → (E0, A0) = aheadA (D ++ [(decAs l2).2]) (decRs (l.drop (k + 1))) by simpa using HST2.out)
        have HBD3 := Lib.hid (show (decAs l2).1 ≠ 0 → (E0, A0) = ((decAs l2).1, []) by simpa using HBD2.out)
        have HDA := Lib.hid (show decAs l2 = aheadA [] (decAs (l2.drop 0)) by rw [List.drop_zero, aheadA_nil decAs_err])
        obtain ⟨E1, A1, hEA⟩ : ∃ E1 A1, decAs l2 = (E1, A1) := ⟨_, _, rfl⟩
        rw [hEA] at HST3 HBD3 HDA
        simp only at HST3 HBD3
        clear hEA HST2 HBD2 HAS
        have hz6 : wo.heap.size ≤ w6.heap.size := HB6.out.size
        go_wp2_with fail
        go_loopw [13, 63] (fun r i ws => ∃ (q : Nat) (L : List At) (u : Value), q ≤ m ∧ L.length = q ∧ r = u ∧ i = .int .i64 (q : Int) ∧ (E1, A1) = aheadA L (decAs (l2.drop q)) ∧ OwnA ws w6.heap.size u L ∧ Below w6.heap.size w6 ws) (fun _ i _ => m - (intOf i).toNat)
        case atStart => exact ⟨0, [], _, Nat.zero_le _, rfl, rfl, rfl, HDA.out, OwnA.nil _ _, Below.refl _ _⟩
        case round =>
          obtain ⟨ws, hws⟩ : ∃ ws, ws = wr := ⟨_, rfl⟩
          subst hws
          obtain ⟨q, L, u, hq, hLq, rfl, rfl, hA2, hown2, hb3⟩ := hrel
          have HB3 := Lib.hid hb3
          have HA2 := Lib.hid hA2
          have HO2 := Lib.hid hown2
          have HLQ := Lib.hid hLq
          have hz3 : w6.heap.size ≤ ws.heap.size := hb3.size
          have HBS := Lib.hid (below_next HB6.out hb3)
          have HV0 := Lib.hid ((hb3.block g hl0).trans HU0.out)
          have HV1 := Lib.hid ((hb3.block (g + 1) hl1).trans HU1.out)
          clear hb3 hA2 hown2 hLq
          by_cases hlq : q < m
          · have hd2 : decide ((q : Int) < (m : Int)) = true := by simp; omega
            obtain ⟨b2, o2, rfl, hcl2⟩ := (HEL6.out.below HB3.out).resolve_left (fun e => by have := HM.out; rw [e] at this; simp at this; omega)
            obtain ⟨x0, x1, x2⟩ := hcl2 q (by rw [← HM.out]; exact hlq)
            have hki2 : (q : Int) < (m : Int) := by omega
            have hmz2 := HMEM2.out (l2.getD q noEle) (by rw [List.getD_eq_getElem?_getD, List.getElem?_eq_getElem (by rw [← HM.out]; exact hlq)]; exact List.getElem_mem _)
            have HST4 := Lib.hid (fun h0 => HA2.out.trans (decAs_step (l := l2) (k := q) (by rw [← HM.out]; exact hlq) h0 L))
            have HBD4 := Lib.hid (fun h0 => HA2.out.trans (decAs_bad (l := l2) (k := q) (by rw [← HM.out]; exact hlq) h0 L))
            rw [show ((0 : Nat), (⟨#[]⟩ : ByteArray), (⟨#[]⟩ : ByteArray)) = noEle from rfl] at x0 x1 x2
            generalize l2.getD q noEle = z at x0 x1 x2 hmz2 HST4 HBD4
            obtain ⟨zt, zc, zr⟩ := z
            have HDT := Lib.hid (fun W => rdeca_any (zt, zc, zr) W hmz2)
            unfold elV at HDT
            obtain ⟨eA, aA, hda⟩ : ∃ eA aA, decA (zt, zc, zr) = (eA, aA) := ⟨_, _, rfl⟩
            rw [hda] at HST4 HBD4 HDT
            obtain ⟨at1, at2, at3⟩ := aA
            unfold atV at HDT
            simp only at x0 x1 x2 HDT HST4 HBD4
            obtain ⟨W7, hW7⟩ : ∃ W7, W7 = ws.alloc (.cells #[.int .i64 ((zt : Nat) : Int), .string zc, .string zr] 63) := ⟨_, rfl⟩
            have hb7 : Below ws.heap.size ws W7 := by rw [hW7]; exact belowNew ws _
            obtain ⟨t0, t1, t2, _, _, _, tl⟩ := at_facts (show W7.heap[ws.heap.size]? = _ from by rw [hW7]; exact heap_alloc_new ws _)
            have HB7 := Lib.hid hb7
            have HWE7 := Lib.hid hW7.symm
            clear hcl2 hmz2 hda hW7 hb7
            go_upto_region 21 with fail
            rw [HWE7.out]
            clear x0 x1 x2
            go_wp2_with fail
            refine (HDT.out W7).mono ?_
            rintro e w8 ⟨rfl, hb8⟩
            obtain ⟨W8, hW8⟩ : ∃ W8, W8 = w8.alloc (.cells #[.string at1, .int .i64 at2, .string at3] 27) := ⟨_, rfl⟩
            have hbW8 : Below w8.heap.size w8 W8 := by rw [hW8]; exact belowNew w8 _
            obtain ⟨z0, z1, z2, _, _, _, zl⟩ := at_facts (show W8.heap[w8.heap.size]? = _ from by rw [hW8]; exact heap_alloc_new w8 _)
            have hb78 : Below ws.heap.size ws W8 := below_next (below_next HB7.out hb8) hbW8
            have h0 := (hb78.block g (Array.getElem?_eq_some_iff.1 HV0.out).1).trans HV0.out
            have h1 := (hb78.block (g + 1) (Array.getElem?_eq_some_iff.1 HV1.out).1).trans HV1.out
            have HY0 := Lib.hid h0
            obtain ⟨u0, g0, hl0⟩ := one_facts h0
            obtain ⟨u1, g1, hl1⟩ := one_facts h1
            have HB8 := Lib.hid hb78
            have HWE8 := Lib.hid hW8.symm
            clear hb8 hbW8 hb78 hW8 h0 h1 t0 t1 t2 tl
            go_upto_region 22 with fail
            rw [HWE8.out]
            by_cases hz : eA = 0
            case neg =>
              obtain ⟨rfl, rfl⟩ : E1 = eA ∧ A1 = [] := by simpa using HBD4.out hz
              obtain ⟨rfl, rfl⟩ : E0 = E1 ∧ A0 = [] := by simpa using HBD3.out hz
              obtain ⟨rfl, rfl⟩ := HFE.out hz
              have hzz := errno_ne hz
              have HBX8 := Lib.hid (below_next (below_next HBL.out HBS.out) HB8.out)
              clear hz
              go_wp2_with fail
              exact bodyPost_ret (nmRes rfl _ _ w _ (by rw [← HG.out]; rfl) (by rw [← HG.out]; exact one_set HY0.out)) rfl ⟨_, rfl, ⟨_, rfl, OwnN.nil _ _⟩, HBX8.out.setCell (p := ⟨g, 0, none⟩) (by rw [← HG.out]; exact Nat.le_refl _) _⟩
            subst hz
            have HPL := Lib.hid (HST4.out rfl)
            obtain ⟨aD, cD, rfl, _, _⟩ := HO2.out.lies
            have HNW := Lib.hid (at_news1 W8 (at1, at2, at3))
            go_wp2_with (at_builtin; (refine wpList_append_own _ rfl (.tmp 76) (.tmp 78) 33 rfl w6.heap.size 27 i1 (.agg #[.string ⟨#[]⟩, .int .i64 0, .string ⟨#[]⟩]) 3 40 Tryz.underlying33 hi' hy0 hy1 hy2 rfl (by decide) _ L.length (atsCells L) rfl ((own_below HO2.out HB8.out).alloc _) ⟨W8.heap.size, 0, none⟩ 1 1 (atCells (at1, at2, at3)) rfl rfl HNW.out (atCells_one _) (by have := HLQ.out; unfold maxLen; omega) (by have := HLQ.out; omega) (by have := HB3.out.size; have := HB8.out.size; simp; omega) ?_); intro v' w9 hown9 hgr9 _; obtain ⟨P1, P2⟩ := ats_round1 (e := (at1, at2, at3)) (Nat.le_refl _) HO2.out HB3.out HB8.out hown9 hgr9; have HP1 := Lib.hid P1; have HP2 := Lib.hid P2; clear hown9 hgr9 P1 P2)
            go_roundw
            case rel => exact ⟨q + 1, L ++ [(at1, at2, at3)], _, by omega, by rw [List.length_append, HLQ.out]; rfl, rfl, by go_num, HPL.out, HP1.out, HP2.out⟩
            case measure => simp [intOf]; omega
          · have hd2 : decide ((q : Int) < (m : Int)) = false := by simp; omega
            obtain ⟨rfl, rfl⟩ : E1 = 0 ∧ A1 = L := by have := HA2.out; rw [decAs_end (by rw [← HM.out]; omega)] at this; simpa using this
            have HPL := Lib.hid (HST3.out rfl)
            obtain ⟨aD, cD, rfl, _, _⟩ := HO2.out.lies
            obtain ⟨aV, cV, rfl, hcV, _⟩ := HO.out.lies
            have h1 := (HBS.out.block p (by omega)).trans HBX.out
            have HHP := Lib.hid h1
            obtain ⟨d1, k1, hlp⟩ := one_facts h1
            obtain ⟨vs, hv1, hv2, hv3⟩ := HO.out
            have HVV1 := Lib.hid hv1
            have HVV2 := Lib.hid hv2
            have HVV3 := Lib.hid hv3
            clear h1 hv1 hv2 hv3
            go_wp2_with (at_builtin; (refine wpList_append_own _ rfl (.tmp 82) (.tmp 84) 22 rfl W3.heap.size 33 i0 (.slice none 0 0) 1 24 Tryz.underlying22 hi hz0 hz1 hz2 rfl (by decide) _ D.length vs rfl ((own_below HVV2.out HBS.out).alloc _) ⟨ws.heap.size, 0, none⟩ 1 1 [.slice aD A1.length cD] rfl rfl (row_news ws _ _) (one_one _ _ _) (by have := HDK.out; unfold maxLen; omega) (by have := HDK.out; omega) (by have := HBS.out.size; simp; omega) ?_); intro v' w9 hown9 hgr9 _; have P1 := more_box HHP.out (show p < W3.heap.size by omega) HVV2.out hgr9; have P2 := but_row HB.out (below_next HBS.out (belowNew ws _)) HVV2.out (Nat.le_refl _) hgr9; have P3 := OwnN.snoc HVV1.out (own_below (own_below HVV2.out HBS.out) (belowNew ws _)) (fun i hi => ((HVV3.out i hi).below HBS.out).below (belowNew ws _)) ((HO2.out.base (by omega)).below (belowNew ws _)) hgr9 hown9; obtain ⟨a6, c6, hv6, _, _⟩ := P3.lies; rw [List.length_append, List.length_singleton] at hv6; subst hv6; obtain ⟨s0, t0, hltq⟩ := one_facts P1; have HP1 := Lib.hid P1; have HP2 := Lib.hid P2; have HP3' := Lib.hid P3; clear P1 P2 P3 hown9 hgr9)
            have hs := But.set p 0 w9 (.slice a6 (D.length + 1) c6)
            go_roundw
            case rel => exact ⟨_, _, _, _, _, _, _, _, _, ⟨k + 1, by omega, D ++ [A1], by rw [List.length_append, HDK.out]; rfl, by go_num, HPL.out, _, (Array.getElem?_eq_some_iff.1 (one_set HP1.out)).2, HP3'.out.but (p := p) hs (by omega), HP2.out.next hs⟩, rfl, rfl, rfl, rfl, rfl, rfl, rfl, rfl, rfl⟩
            case measure => simp [intOf]; omega
    · have hd : decide ((k : Int) < (n : Int)) = false := by simp; omega
      obtain ⟨rfl, rfl⟩ : E0 = 0 ∧ A0 = D := by have := HA.out; rw [decRs_end (by rw [← HN.out]; omega)] at this; simpa using this
      have e2 := HRE2.out
      rw [if_neg (by simp)] at e2
      obtain ⟨av, cv, rfl, hcv, hrl⟩ := HO.out.lies
      have HRL := Lib.hid hrl
      have HCK := Lib.hid (fun W h => rchk_core av cv A0.length A0 W h rfl HSMN.out)
      generalize chkN A0 = C at e2 HCK
      obtain ⟨c1, f1, hl1⟩ := one_facts HBX.out
      obtain ⟨c0, f0, hl0⟩ := one_facts HR0.out
      obtain ⟨d0, d1, hd1⟩ := one_facts HR1.out
      clear hrl
      by_cases hz0' : C = 0
      · obtain ⟨rfl, rfl⟩ : E = 0 ∧ A = A0 := by rw [if_neg (by simpa using hz0')] at e2; simpa using e2
        subst hz0'
        clear e2
        go_wp2_with (go_at_call 17; (with_reducible refine (HCK.out _ HRL.out).mono ?_); rintro e w8 ⟨rfl, hb8⟩; have HB8 := Lib.hid (below_next HBL.out hb8); have h81 := (hb8.block p hl1).trans HBX.out; have h80 := (hb8.block g hl0).trans HR0.out; have HQ8 := Lib.hid h80; have HO8 := Lib.hid (HO.out.below hb8); obtain ⟨c81, f81, hl81⟩ := one_facts h81; obtain ⟨c80, f80, hl80⟩ := one_facts h80; clear hb8 h80 h81)
        exact bodyPost_ret (nmRes rfl _ _ w _ (by rw [← HG.out]; rfl) (by rw [← HG.out]; exact one_set HQ8.out)) rfl ⟨_, rfl, ⟨_, rfl, (HO8.out.but (p := g) (But.set _ _ _ _) (by omega)).base (by rw [← HG.out]; omega)⟩, HB8.out.setCell (p := ⟨g, 0, none⟩) (by rw [← HG.out]; exact Nat.le_refl _) _⟩
      · obtain ⟨rfl, rfl⟩ : E = C ∧ A = [] := by rw [if_pos hz0'] at e2; simpa using e2
        have hz1' := errno_ne hz0'
        clear e2 hz0'
        go_wp2_with (go_at_call 17; (with_reducible refine (HCK.out _ HRL.out).mono ?_); rintro e w8 ⟨rfl, hb8⟩; have HB8 := Lib.hid (below_next HBL.out hb8); have h80 := (hb8.block g hl0).trans HR0.out; have h81 := (hb8.block (g + 1) hd1).trans HR1.out; have HQ8 := Lib.hid h80; obtain ⟨c80, f80, hl80⟩ := one_facts h80; obtain ⟨c81, f81, hl81⟩ := one_facts h81; clear hb8 h80 h81)
        exact bodyPost_ret (nmRes rfl _ _ w _ (by rw [← HG.out]; rfl) (by rw [← HG.out]; exact one_set HQ8.out)) rfl ⟨_, rfl, ⟨_, rfl, OwnN.nil _ _⟩, HB8.out.setCell (p := ⟨g, 0, none⟩) (by rw [← HG.out]; exact Nat.le_refl _) _⟩
end Go.Proofs.YtfpfgdbfigdooaaGreatDoor
