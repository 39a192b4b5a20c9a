/-
  Constraints in memory of a call's own: what stays readable while other memory is written. Nothing is claimed of the program here.
  The contracts of copies, copyName, copySubtrees and Add of package subtree, and of slices.Clone over attributes.
-/
import Derived.Test.YtbpdenfiifcfcaaGreatDoorMbh
import Derived.Test.YtbpdenfiifcfcaaGreatDoorMbg
import Derived.Test.YtbpdenfiifcfcaaGreatDoorMak
import Derived.Deep.RegionWith
import Derived.Lib.LazyBuf
namespace Go.Proofs.YtbpdenfiifcfcaaGreatDoor
open Go.RowKit

/-! ### What is kept -/
/-- The blocks from B on whose type is one of Ts are the same in W. -/
def SameT (Ts : TypeId → Prop) (B : Nat) (w W : World) : Prop := ∀ q cs T f, B ≤ q → w.heap[q]? = some (.cells cs T f) → Ts T → W.heap[q]? = some (.cells cs T f)
def KeptT (Ts : TypeId → Prop) (B : Nat) (w : World) (P : World → Prop) : Prop := ∀ W, SameT Ts B w W → P W
theorem SameT.refl (Ts : TypeId → Prop) (B : Nat) (w : World) : SameT Ts B w w := fun _ _ _ _ _ h _ => h
theorem KeptT.mono {Ts Ts' : TypeId → Prop} {B B' : Nat} {w : World} {P : World → Prop} (h : KeptT Ts B w P) (hT : ∀ T, Ts T → Ts' T) (hB : B' ≤ B) : KeptT Ts' B' w P :=
  fun W hs => h W (fun q cs T f hq hc hT' => hs q cs T f (Nat.le_trans hB hq) hc (hT T hT'))
/-- One block changes: one of another type, or one below B. -/
theorem KeptT.grown {Ts : TypeId → Prop} {B : Nat} {w w' : World} {row : Option Nat} {P : World → Prop} (h : KeptT Ts B w P) (hg : w.grownBy w' row) (hr : ∀ q, row = some q → q < B ∨ ∀ cs T f, w.heap[q]? = some (.cells cs T f) → ¬ Ts T) : KeptT Ts B w' P :=
  fun W hs => h W (fun q cs T f hq hc hT => hs q cs T f hq ((hg.block q (Array.getElem?_eq_some_iff.1 hc).1 (fun e => by
    rcases hr q e.symm with hp | hp
    · omega
    · exact hp cs T f hc hT)).trans hc) hT)
theorem KeptT.below {Ts : TypeId → Prop} {B : Nat} {w w' : World} {P : World → Prop} (h : KeptT Ts B w P) (hb : Below w.heap.size w w') : KeptT Ts B w' P :=
  fun W hs => h W (fun q cs T f hq hc hT => hs q cs T f hq ((hb.block q (Array.getElem?_eq_some_iff.1 hc).1).trans hc) hT)
/-- A row of another type grows. -/
theorem KeptT.row {Ts : TypeId → Prop} {B B' k n : Nat} {e : TypeId} {w w' : World} {v : Value} {xs : List Value} {P : World → Prop} (h : KeptT Ts B w P) (ho : w.ownsRow B' e k v n xs) (hg : w.grownBy w' v.ownBlock) (he : ¬ Ts e) : KeptT Ts B w' P := by
  refine h.grown hg (fun q eq => .inr (fun cs T f hc hT => ?_))
  rcases ho.2 with ⟨hv, _⟩ | ⟨g, cap, cur, hv, _, hb, _⟩
  · rw [hv] at eq; simp [Value.ownBlock] at eq
  · rw [hv] at eq
    simp [Value.ownBlock] at eq
    subst eq
    rw [hb] at hc
    simp at hc
    exact he (hc.2.1 ▸ hT)
/-- A block of a known type is written. -/
theorem KeptT.block {Ts : TypeId → Prop} {B g : Nat} {w w' : World} {T : TypeId} {cs : Array Value} {f : Nat × Nat} {P : World → Prop} (h : KeptT Ts B w P) (hc : w.heap[g]? = some (.cells cs T f)) (hT : ¬ Ts T) (hg : But g w w') : KeptT Ts B w' P := by
  refine h.grown hg (fun q eq => .inr (fun cs' T' f' hc' hT' => ?_))
  obtain rfl := Option.some.inj eq
  rw [hc] at hc'
  simp at hc'
  exact hT (hc'.2.1 ▸ hT')
theorem slice_inj {a b : Option Addr} {n m c d : Nat} (h : Value.slice a n c = .slice b m d) : a = b ∧ n = m ∧ c = d := by cases h; exact ⟨rfl, rfl, rfl⟩
theorem OwnG.but {w w' : World} {p B : Nat} {v : Value} {l : List Gn} (h : OwnG w B v l) (hb : But p w w') (hB : p < B) : OwnG w' B v l := by
  obtain ⟨ss, h1, h2, h3⟩ := h
  exact ⟨ss, h1, own_but h2 hb hB, fun i hi => (h3 i hi).but hb hB⟩
theorem OwnN.keptR {w w' : World} {B B' k m : Nat} {T : TypeId} {v u : Value} {n : Nm} {xs : List Value} (h : OwnN w B u n) (ho : w.ownsRow B' T k v m xs) (h1 : 84 ≠ T) (h2 : 86 ≠ T) (hg : w.grownBy w' v.ownBlock) : OwnN w' B u n := by
  obtain ⟨vs, q1, q2, q3⟩ := h
  exact ⟨vs, q1, World.ownsRow.kept q2 hg (rows_apart q2 ho h1), fun i hi => World.ownsRow.kept (q3 i hi) hg (rows_apart (q3 i hi) ho h2)⟩
theorem OwnG.keptR {w w' : World} {B B' k m : Nat} {T : TypeId} {v u : Value} {l : List Gn} {xs : List Value} (h : OwnG w B u l) (ho : w.ownsRow B' T k v m xs) (h0 : 29 ≠ T) (h1 : 84 ≠ T) (h2 : 86 ≠ T) (hg : w.grownBy w' v.ownBlock) : OwnG w' B u l := by
  obtain ⟨ss, q1, q2, q3⟩ := h
  exact ⟨ss, q1, World.ownsRow.kept q2 hg (rows_apart q2 ho h0), fun i hi => (q3 i hi).keptR ho h1 h2 hg⟩
/-! ### Rows of constraints -/
def sCells (s : Value × Value) : List Value := [s.1, s.2]
def noSV : Value × Value := (noS, noS)
def ssCells (l : List (Value × Value)) : List Value := l.flatMap sCells
theorem ssCells_snoc (l : List (Value × Value)) (e : Value × Value) : ssCells (l ++ [e]) = ssCells l ++ sCells e := by simp [ssCells]
theorem ss_at (l : List (Value × Value)) (i : Nat) (hi : i < l.length) (j : Nat) (hj : j < 2) : (ssCells l)[i * 2 + j]? = (sCells (l.getD i noSV))[j]? := by
  induction l generalizing i with
  | nil => exact absurd hi (Nat.not_lt_zero _)
  | cons e r ih =>
    have e0 : ssCells (e :: r) = sCells e ++ ssCells r := rfl
    have el : (sCells e).length = 2 := rfl
    rw [e0]
    cases i with
    | zero => rw [List.getElem?_append_left (by omega)]; simp
    | succ i =>
      rw [List.getElem?_append_right (by omega), el, show (i + 1) * 2 + j - 2 = i * 2 + j by omega, ih i (by simpa using hi)]
      rfl
theorem sCells_one (a b : Option Addr) (n c m d : Nat) : ∀ u ∈ sCells (.slice a n c, .slice b m d), u.oneCell' = true := by
  intro u hu
  simp only [sCells, List.mem_cons, List.not_mem_nil, or_false] at hu
  rcases hu with rfl | rfl <;> rfl
theorem subInfo : (Tryz.prog.info? 24).map (fun i => (i.zero, i.size, i.bytes)) = some (some (.agg #[.slice none 0 0, .slice none 0 0]), 2, 48) := by kernel_rfl
/-- The slice value v, of memory from block B on, holds the constraints L, each in memory of its own. -/
def OwnSb (w : World) (B : Nat) (v : Value) (L : List Sub) : Prop := ∃ ss : List (Value × Value), ss.length = L.length ∧ w.ownsRow B 24 2 v L.length (ssCells ss) ∧ ∀ i, i < L.length → OwnG w B (ss.getD i noSV).1 (L.getD i noSub).1 ∧ OwnG w B (ss.getD i noSV).2 (L.getD i noSub).2
theorem OwnSb.nil (w : World) (B : Nat) : OwnSb w B (.slice none 0 0) [] := ⟨[], rfl, World.ownsRow_nil _ _ _ _, fun _ hi => absurd hi (Nat.not_lt_zero _)⟩
theorem OwnSb.below {w w' : World} {B : Nat} {v : Value} {l : List Sub} (h : OwnSb w B v l) (hb : Below w.heap.size w w') : OwnSb w' B v l := by
  obtain ⟨vs, h1, h2, h3⟩ := h
  exact ⟨vs, h1, own_below h2 hb, fun i hi => ⟨(h3 i hi).1.below hb, (h3 i hi).2.below hb⟩⟩
theorem OwnSb.but {w w' : World} {B p : Nat} {v : Value} {l : List Sub} (h : OwnSb w B v l) (hb : But p w w') (hp : p < B) : OwnSb w' B v l := by
  obtain ⟨vs, h1, h2, h3⟩ := h
  exact ⟨vs, h1, own_but h2 hb hp, fun i hi => ⟨(h3 i hi).1.but hb hp, (h3 i hi).2.but hb hp⟩⟩
theorem OwnSb.base {w : World} {B B' : Nat} {v : Value} {l : List Sub} (h : OwnSb w B v l) (hB : B' ≤ B) : OwnSb w B' v l := by
  obtain ⟨vs, h1, h2, h3⟩ := h
  exact ⟨vs, h1, own_base h2 hB, fun i hi => ⟨(h3 i hi).1.base hB, (h3 i hi).2.base hB⟩⟩
theorem OwnSb.apart {w w' : World} {B g : Nat} {T : TypeId} {v : Value} {l : List Sub} {cs : Array Value} {f : Nat × Nat} (h : OwnSb w B v l) (hc : w.heap[g]? = some (.cells cs T f)) (hs : T ≠ 24) (h0 : T ≠ 29) (h1 : T ≠ 86) (h2 : T ≠ 84) (hg : But g w w') : OwnSb w' B v l := by
  obtain ⟨ss, q1, q2, q3⟩ := h
  exact ⟨ss, q1, own_apart q2 hc hs hg, fun i hi => ⟨(q3 i hi).1.apart hc h0 h1 h2 hg, (q3 i hi).2.apart hc h0 h1 h2 hg⟩⟩
/-- One constraint more. -/
theorem OwnSb.snoc {w w' : World} {B : Nat} {v v' : Value} {s : Value × Value} {l : List Sub} {g : Sub} {ss : List (Value × Value)} (h1 : ss.length = l.length) (h2 : w.ownsRow B 24 2 v l.length (ssCells ss)) (h3 : ∀ i, i < l.length → OwnG w B (ss.getD i noSV).1 (l.getD i noSub).1 ∧ OwnG w B (ss.getD i noSV).2 (l.getD i noSub).2)
    (hr : OwnG w B s.1 g.1 ∧ OwnG w B s.2 g.2) (hg : w.grownBy w' v.ownBlock) (h4 : w'.ownsRow B 24 2 v' (l.length + 1) (ssCells ss ++ sCells s)) : OwnSb w' B v' (l ++ [g]) := by
  refine ⟨ss ++ [s], by simp [h1], by rw [List.length_append, ssCells_snoc]; exact h4, fun i hi => ?_⟩
  by_cases hlt : i < l.length
  · rw [getD_snoc_lt _ _ _ _ (by omega), getD_snoc_lt _ _ _ _ hlt]
    exact ⟨(h3 i hlt).1.keptR h2 (by decide) (by decide) (by decide) hg, (h3 i hlt).2.keptR h2 (by decide) (by decide) (by decide) hg⟩
  · rw [List.length_append, List.length_singleton] at hi
    obtain rfl : i = l.length := by omega
    rw [getD_snoc_eq, ← h1, getD_snoc_eq]
    exact ⟨hr.1.keptR h2 (by decide) (by decide) (by decide) hg, hr.2.keptR h2 (by decide) (by decide) (by decide) hg⟩
theorem OwnSb.lies {w : World} {B : Nat} {v : Value} {l : List Sub} (h : OwnSb w B v l) : ∃ a c, v = .slice a l.length c ∧ l.length ≤ c ∧ SLies w a l := by
  obtain ⟨ss, h1, h2, h3⟩ := h
  have hr := h2
  rcases h2.2 with ⟨hv, h0⟩ | ⟨g, cap, cur, hv, _, _, hcap, _⟩
  · exact ⟨none, 0, by rw [hv, h0], by omega, .inl (List.eq_nil_of_length_eq_zero h0)⟩
  · refine ⟨_, cap, hv, hcap, .inr ⟨g, 0, rfl, fun i hi => ?_⟩⟩
    rw [hv] at hr
    obtain ⟨a1, c1, e1, q1, k1⟩ := (h3 i hi).1.lies
    obtain ⟨a2, c2, e2, q2, k2⟩ := (h3 i hi).2.lies
    have hc : ∀ j, j < 2 → w.cell? ⟨g, i * 2 + j, none⟩ = (sCells (ss.getD i noSV))[j]? := fun j hj => by
      rw [World.ownsRow.cellAt hr (i * 2 + j) (by omega)]
      exact ss_at ss i (by omega) j hj
    rw [Nat.zero_add]
    refine ⟨a1, c1, a2, c2, ?_, ?_, ⟨q1, k1⟩, q2, k2⟩
    · rw [← e1]; exact hc 0 (by omega)
    · rw [← e2]; exact hc 1 (by omega)
end Go.Proofs.YtbpdenfiifcfcaaGreatDoor
namespace Go.Proofs.YtbpdenfiifcfcaaGreatDoor
open Go.RowKit

theorem lies_news_s {w : World} {b o : Nat} {l : List At} (h : ALies w (some ⟨b, o, none⟩) l) : ∀ j u, (atsCells l)[j]? = some u → w.cell? ((⟨b, o, none⟩ : Addr).add j) = some u := by
  intro j u hj
  have hj2 : j < l.length * 3 := by rw [← atsCells_length]; exact (List.getElem?_eq_some_iff.1 hj).1
  have e : j = j / 3 * 3 + j % 3 := by omega
  rcases h with h | ⟨b', o', hb, hc⟩
  · rw [h] at hj2; simp at hj2
  · obtain ⟨rfl, rfl⟩ : b = b' ∧ o = o' := by simpa using hb
    obtain ⟨c0, c1, c2⟩ := hc (j / 3) (by omega)
    have ha := ats_at l (j / 3) (by omega) (j % 3) (by omega)
    rw [← e, hj] at ha
    have ea : (⟨b, o, none⟩ : Addr).add j = ⟨b, o + j, none⟩ := by
      by_cases h0 : j = 0
      · subst h0; simp [Addr.add]
      · simp [Addr.add, h0]
    rw [ea]
    rcases (by omega : j % 3 = 0 ∨ j % 3 = 1 ∨ j % 3 = 2) with m | m | m
    · rw [m] at ha
      rw [show o + j = o + j / 3 * 3 by omega, c0]; exact ha.symm
    · rw [m] at ha
      rw [show o + j = o + j / 3 * 3 + 1 by omega, c1]; exact ha.symm
    · rw [m] at ha
      rw [show o + j = o + j / 3 * 3 + 2 by omega, c2]; exact ha.symm
theorem lit_none_s (w : World) (B G : Nat) (hG : w.heap.size = G) (hB : B ≤ w.heap.size) : OwnA (w.alloc (.cells #[] 86)) B (.slice (some ⟨G, 0, none⟩) 0 0) [] := by
  subst hG
  exact World.ownsRow_lit w #[] 0 hB (by unfold maxLen; omega) rfl

theorem alies_some {w : World} {a0 : Option Addr} {l : List At} (h : ALies w a0 l) : (a0 = none ∧ l = []) ∨ ∃ ad, a0 = some ad ∧ ∀ j u, (atsCells l)[j]? = some u → w.cell? (ad.add j) = some u := by
  cases a0 with
  | none =>
    rcases h with h | ⟨b, o, h, _⟩
    · exact .inl ⟨rfl, h⟩
    · cases h
  | some ad =>
    refine .inr ⟨ad, rfl, ?_⟩
    rcases h with h | ⟨b, o, h, h2⟩
    · intro j u hj; rw [h] at hj; simp [atsCells] at hj
    · obtain rfl := Option.some.inj h
      exact lies_news_s (.inr ⟨b, o, rfl, h2⟩)
set_option maxRecDepth 100000 in
set_option maxHeartbeats 4000000 in
theorem clonea_core (a0 : Option Addr) (c n : Nat) (l : List At) (w : World) (h : ALies w a0 l) (hn : n = l.length) (hz : n ≤ 1000000) :
    Calls Tryz.prog 96 #[.slice a0 n c] w fun e w' => ∃ v, e = .returned v ∧ OwnA w' w.heap.size v l ∧ Below w.heap.size w w' := by
  obtain ⟨i1, hi', hy0, hy1, hy2⟩ := info_parts atInfo
  rcases alies_some (h.below (belowNew w (.cells #[] 86))) with ⟨rfl, rfl⟩ | ⟨ad, rfl, hnw⟩
  · obtain rfl : n = 0 := hn
    have hnil : ∀ w, (binOp .eql 84 (.slice none 0 c) (.slice none 0 0)).run Tryz.prog w = .ok (.bool true) w := fun w => run_eql_slice_nil w _ _ _ _ _ Tryz.underlying84
    clear h
    go_enter Tryz.func96, Tryz.ntmps96
    go_wp2_with fail
    go_ret
    exact ⟨_, rfl, OwnA.nil _ _, Below.refl _ _⟩
  · have HO := Lib.hid (lit_none_s w w.heap.size w.heap.size rfl (Nat.le_refl _))
    have HNW := Lib.hid hnw
    have HN := Lib.hid hn
    have hnil : ∀ w, (binOp .eql 84 (.slice (some ad) n c) (.slice none 0 0)).run Tryz.prog w = .ok (.bool false) w := fun w => run_eql_slice_nil w _ _ _ _ _ Tryz.underlying84
    clear h hn hnw
    go_enter Tryz.func96, Tryz.ntmps96
    go_wp2_with (at_builtin; ((refine wpList_append_own _ rfl (.tmp 5) (.tmp 6) 84 rfl w.heap.size 86 i1 (.agg #[.string ⟨#[]⟩, .int .i64 0, .string ⟨#[]⟩]) 3 40 Tryz.underlying84 hi' hy0 hy1 hy2 rfl (by decide) _ 0 [] rfl HO.out ad n c (atsCells l) rfl (by rw [atsCells_length, HN.out]) HNW.out (atsCells_one l) (by unfold maxLen; omega) (by omega) (by simp) ?_); intro v' w6 hown6 hgr6 _; have HP1 := Lib.hid hown6; have HP2 := Lib.hid hgr6; clear hown6 hgr6))
    go_ret
    refine ⟨_, rfl, ?_, (belowNew w _).grown HP2.out (by simp) (fun j e => (World.ownsRow.lt HO.out j e).1)⟩
    have := HP1.out
    rw [Nat.zero_add, List.nil_append, HN.out] at this
    exact this
theorem takeN {α : Type} (n : List α) (k : Nat) (h : k < n.length) (d : α) : n.take (k + 1) = n.take k ++ [n.getD k d] := by
  rw [List.take_add_one, List.getD_eq_getElem?_getD, List.getElem?_eq_getElem h]; rfl
def CopiesA (f : Nat) : Prop := ∀ (a : Option Addr) (c n : Nat) (l : List At) (W : World), ALies W a l → n = l.length → n ≤ 1000000 → Calls Tryz.prog f #[.slice a n c] W fun e w' => ∃ v, e = .returned v ∧ OwnA w' W.heap.size v l ∧ Below W.heap.size W w'
set_option maxRecDepth 100000 in
set_option maxHeartbeats 4000000 in
theorem copiesa_core (f : Nat) (eg : ∀ args w, (callFunc f args).run Tryz.prog w = .ok (.enter f args) w) (hf : CopiesA f) (a0 : Option Addr) (c m : Nat) (n : Nm) (w : World) (h : RLies w a0 n) (hm : m = n.length) (hmm : m ≤ 1000000) (hs : ∀ i, i < n.length → (n.getD i []).length ≤ 1000000) :
    Calls Tryz.prog 95 #[.slice a0 m c, .func (.func f) #[] #[]] w fun e w' => ∃ v, e = .returned v ∧ OwnN w' w.heap.size v n ∧ Below w.heap.size w w' := by
  obtain ⟨i0, hi, hz0, hz1, hz2⟩ := info_parts rdInfo
  have H1 := Lib.hid h
  have HN := Lib.hid hm
  have HF := Lib.hid hf
  have HS := Lib.hid hs
  clear h hm hf hs
  go_enter Tryz.func95, Tryz.ntmps95
  go_wp2_with fail
  go_loopw [5, 10] (fun v i wr => ∃ k : Nat, k ≤ m ∧ i = .int .i64 k ∧ OwnN wr w.heap.size v (n.take k) ∧ Below w.heap.size w wr) (fun _ i _ => m - (intOf i).toNat)
  case atStart => exact ⟨0, Nat.zero_le _, rfl, OwnN.nil _ _, Below.refl _ _⟩
  case round =>
    obtain ⟨wz, hwz⟩ : ∃ wz, wz = wr := ⟨_, rfl⟩
    subst hwz
    obtain ⟨k, hk, rfl, ho, hb⟩ := hrel
    obtain ⟨av, cv, hv5, _, _⟩ := ho.lies
    have HB := Lib.hid hb
    have HO := Lib.hid ho
    have HNX : (n.take k).length = k := by rw [List.length_take]; exact Nat.min_eq_left (by rw [← HN.out]; exact hk)
    rw [HNX] at hv5
    have HTK := Lib.hid HNX
    clear hb ho HNX
    subst hv5
    by_cases hlt : k < m
    · have hd : decide ((k : Int) < (m : Int)) = true := by simp; omega
      have hki : (k : Int) < (m : Int) := by omega
      obtain ⟨b, o, rfl, hbl, a1, c1, e0, hc1, hL1⟩ := H1.out.at k (by rw [← HN.out]; exact hlt)
      have f0 := (HB.out.cell (p := ⟨b, o + k, none⟩) hbl).trans e0
      have hsk := HS.out k (by rw [← HN.out]; exact hlt)
      have HST := Lib.hid (takeN n k (by rw [← HN.out]; exact hlt) [])
      have HLT := Lib.hid hlt
      clear e0 hbl
      generalize n.getD k [] = r at f0 hsk hL1 hc1 HST
      obtain ⟨Z, hZ⟩ : ∃ Z, Z = r.length := ⟨_, rfl⟩
      rw [← hZ] at f0 hsk
      have HC := Lib.hid (HF.out a1 c1 Z r wz (hL1.below HB.out) hZ hsk)
      clear hL1 hc1 hZ hsk
      obtain ⟨X, hX⟩ : ∃ X, X = n.take k := ⟨_, rfl⟩
      rw [← hX] at HO HST HTK
      clear hX
      go_upto_region 5 with (fail)
      go_wp2_with (first
        | (go_at_fn f; refine HC.out.mono ?_; rintro e w3 ⟨u, rfl, ho3, hb3⟩; obtain ⟨a3, c3, rfl, _, _⟩ := ho3.lies; have HB3 := Lib.hid (below_next HB.out hb3); obtain ⟨vs, hv1, hv2, hv3⟩ := HO.out.below hb3; have HV1 := Lib.hid hv1; have HV2 := Lib.hid hv2; have HV3 := Lib.hid hv3; have HO3 := Lib.hid (ho3.base HB.out.size); clear hb3 ho3 hv1 hv2 hv3)
        | (at_builtin; (refine wpList_append_own _ rfl (.tmp 14) (.tmp 18) 25 rfl w.heap.size 84 i0 (.slice none 0 0) 1 24 Tryz.underlying25 hi hz0 hz1 hz2 rfl (by decide) _ X.length vs rfl (HV2.out.alloc _) ⟨w3.heap.size, 0, none⟩ 1 1 [.slice a3 r.length c3] rfl rfl (row_news w3 _ _) (one_one _ _ _) (by have := HTK.out; unfold maxLen; omega) (by have := HTK.out; omega) (by have := HB3.out.size; simp; omega) ?_); intro v' w6 hown6 hgr6 _; have P3 := OwnN.snoc HV1.out (own_below HV2.out (belowNew w3 _)) (fun i hi => (HV3.out i hi).below (belowNew w3 _)) (HO3.out.below (belowNew w3 _)) hgr6 hown6; have P2 := (HB3.out.trans ((belowNew w3 _).mono HB3.out.size)).grown hgr6 (by have := HB3.out.size; simp; omega) (fun j e => (World.ownsRow.lt HV2.out j e).1); obtain ⟨a6, c6, hv6, _, _⟩ := P3.lies; rw [List.length_append, List.length_singleton, HTK.out] at hv6; subst hv6; have HP3 := Lib.hid P3; have HP2 := Lib.hid P2; clear P2 P3 hown6 hgr6))
      go_roundw
      case rel => exact ⟨k + 1, HLT.out, by go_num, by rw [HST.out]; exact HP3.out, HP2.out⟩
      case measure => simp [intOf]; omega
    · have hd : decide ((k : Int) < (m : Int)) = false := by simp; omega
      obtain rfl : k = m := by omega
      go_wp2_with fail
      go_ret
      refine ⟨_, rfl, ?_, HB.out⟩
      have := HO.out
      rw [List.take_of_length_le (by rw [← HN.out]; exact Nat.le_refl _)] at this
      exact this
theorem gnResG {fn : Func} {p : Tmp} (h : fn.results = #[.cell p 29]) (tmps : Array Value) (w : World) (g : Nat) (x y z : Value)
    (hp : tmps.getD p undef = .pointer (some ⟨g, 0, none⟩)) (hg : w.heap[g]? = some (.cells #[x, y, z] 29 (0, 0))) :
    (results fn tmps).run Tryz.prog w = .ok (.agg #[x, y, z]) w :=
  results_cell_row h tmps w g 29 #[x, y, z] (0, 0) _ hp hg Tryz.underlying29 rfl gnSize
theorem sbSize : (Tryz.prog.info? 24).map (·.size) = some 2 := by kernel_rfl
theorem sbRes {fn : Func} {p : Tmp} (h : fn.results = #[.cell p 24]) (tmps : Array Value) (w : World) (g : Nat) (x y : Value)
    (hp : tmps.getD p undef = .pointer (some ⟨g, 0, none⟩)) (hg : w.heap[g]? = some (.cells #[x, y] 24 (0, 0))) :
    (results fn tmps).run Tryz.prog w = .ok (.agg #[x, y]) w :=
  results_cell_row h tmps w g 24 #[x, y] (0, 0) _ hp hg Tryz.underlying24 rfl sbSize
theorem stSize : (Tryz.prog.info? 55).map (·.size) = some 1 := by kernel_rfl
theorem stRes {fn : Func} {p : Tmp} (h : fn.results = #[.cell p 55]) (tmps : Array Value) (w : World) (g : Nat) (x : Value)
    (hp : tmps.getD p undef = .pointer (some ⟨g, 0, none⟩)) (hg : w.heap[g]? = some (.cells #[x] 55 (0, 0))) :
    (results fn tmps).run Tryz.prog w = .ok (.agg #[x]) w :=
  results_cell_row h tmps w g 55 #[x] (0, 0) _ hp hg Tryz.underlying55 rfl stSize
theorem two_at {w : World} {g : Nat} {x y : Value} {t : TypeId} (h : w.heap[g]? = some (.cells #[x, y] t (0, 0))) :
    w.cell? ⟨g, 0, none⟩ = some x ∧ w.cell? ⟨g, 1, none⟩ = some y ∧ w.frozen? ⟨g, 0, none⟩ = false ∧ w.frozen? ⟨g, 1, none⟩ = false ∧ g < w.heap.size := by
  refine ⟨?_, ?_, Lib.frozen_of_heap h 0, Lib.frozen_of_heap h 1, (Array.getElem?_eq_some_iff.1 h).1⟩ <;> (rw [Lib.cell_of_heap h]; rfl)
theorem set2_0 {w : World} {g : Nat} {x y a : Value} {t : TypeId} (h : w.heap[g]? = some (.cells #[x, y] t (0, 0))) : (w.setCell ⟨g, 0, none⟩ a).heap[g]? = some (.cells #[a, y] t (0, 0)) := by
  simp [World.setCell, Array.getElem?_modify, h]
theorem set2_1 {w : World} {g : Nat} {x y a : Value} {t : TypeId} (h : w.heap[g]? = some (.cells #[x, y] t (0, 0))) : (w.setCell ⟨g, 1, none⟩ a).heap[g]? = some (.cells #[x, a] t (0, 0)) := by
  simp [World.setCell, Array.getElem?_modify, h]
theorem set_other_s {w : World} {g k : Nat} {j : Nat} {a : Value} {o : Option Obj} (h : w.heap[k]? = o) (hne : g ≠ k) : (w.setCell ⟨g, j, none⟩ a).heap[k]? = o := by
  simp [World.setCell, Array.getElem?_modify, h, hne]
theorem below_set {B g j : Nat} {a w : World} {v : Value} (h : Below B a w) (hg : B ≤ g) : Below B a (w.setCell ⟨g, j, none⟩ v) := h.setCell (p := ⟨g, j, none⟩) hg _
def CopiesG (f : Nat) : Prop := ∀ (a : Option Addr) (c N : Nat) (q : Int) (t : List UInt8) (n : Nm) (W : World), RLies W a n → N = n.length → SmallN n → Calls Tryz.prog f #[.agg #[.int .i64 q, .string (strOf t), .slice a N c]] W fun e w' => ∃ v, e = .returned (.agg #[.int .i64 q, .string (strOf t), v]) ∧ OwnN w' W.heap.size v n ∧ Below W.heap.size W w'
set_option maxRecDepth 100000 in
set_option maxHeartbeats 4000000 in
theorem copyname_core : CopiesG 71 := by
  intro a c N q t n w h hN hs
  obtain ⟨W0, hW0⟩ : ∃ W0, W0 = (w.alloc (.cells #[.int .i64 q, .string (strOf t), .slice a N c] 29)).alloc (.cells #[.int .i64 0, .string ⟨#[]⟩, .slice none 0 0] 29) := ⟨_, rfl⟩
  have hwr := hW0.symm
  have hb0 : Below w.heap.size w W0 := by rw [hW0]; exact belowTwo w _ _
  have hq0 : W0.heap[w.heap.size]? = some (.cells #[.int .i64 q, .string (strOf t), .slice a N c] 29 (0, 0)) := by rw [hW0, heap_first]; exact heap_alloc_new w _
  have hq1 : W0.heap[w.heap.size + 1]? = some (.cells #[.int .i64 0, .string ⟨#[]⟩, .slice none 0 0] 29 (0, 0)) := by rw [hW0]; exact heap_second w _ _ _
  obtain ⟨b0, b1, b2, lb⟩ := three_facts hq0
  have HB0 := Lib.hid hb0
  have HC := Lib.hid (copiesa_core 96 (enters_of Tryz.func96 (by kernel_rfl) rfl) (fun a c n l W h hn hz => clonea_core a c n l W h hn hz) a c N n W0 (h.below hb0) hN (by rw [hN]; exact hs.1) (fun i hi => (hs.2 i hi).1))
  have HQ0 := Lib.hid hq0
  have HQ1 := Lib.hid hq1
  clear h hN hs hb0 hW0 hq0 hq1
  go_enter Tryz.func71, Tryz.ntmps71
  go_upto_region 2 with (go_at_call 95; (with_reducible refine HC.out.mono ?_); rintro e w3 ⟨vv, rfl, ho3, hb3⟩; obtain ⟨a3, c3, rfl, _, _⟩ := ho3.lies; have hc3 := (hb3.block w.heap.size lb).trans HQ0.out; have hd3 := (hb3.block (w.heap.size + 1) (Array.getElem?_eq_some_iff.1 HQ1.out).1).trans HQ1.out; obtain ⟨c0, c1, c2, f0, f1, f2, l3⟩ := at_facts hc3; have HC3 := Lib.hid hc3; have HD3 := Lib.hid hd3; have HB3 := Lib.hid (below_next HB0.out hb3); have HO3 := Lib.hid (ho3.base HB0.out.size); clear hb3 ho3 hc3 hd3)
  obtain ⟨W4, hW4⟩ : ∃ W4, W4 = w3.setCell ⟨w.heap.size, 2, none⟩ (.slice a3 n.length c3) := ⟨_, rfl⟩
  rw [← hW4]
  have hc4 := gset2 (a := .slice a3 n.length c3) HC3.out
  have hd4 := set_other_s (g := w.heap.size) (j := 2) (a := .slice a3 n.length c3) HD3.out (by omega)
  have hg4 := But.set w.heap.size 2 w3 (.slice a3 n.length c3)
  rw [← hW4] at hc4 hd4 hg4
  have HO4 := Lib.hid (HO3.out.apart HC3.out (by decide) (by decide) hg4)
  have HB4 := Lib.hid (show Below w.heap.size w W4 by rw [hW4]; exact below_set HB3.out (Nat.le_refl _))
  clear hW4 hg4 c0 c1 c2 f0 f1 f2 l3 hwr
  obtain ⟨c0, c1, c2, f0, f1, f2, l3⟩ := at_facts hc4
  obtain ⟨d0, d1, d2, g0, g1, g2, l4⟩ := at_facts hd4
  have HD4 := Lib.hid hd4
  clear hc4 hd4 b0 b1 b2
  go_wp2_with fail
  have hs := ((But.set (w.heap.size + 1) 0 W4 (.int .i64 q)).next (But.set (w.heap.size + 1) 1 _ (.string (strOf t)))).next (But.set (w.heap.size + 1) 2 _ (.slice a3 n.length c3))
  exact bodyPost_ret (gnResG rfl _ _ _ _ _ _ rfl (at_set HD4.out)) rfl ⟨_, rfl, HO4.out.apart HD4.out (by decide) (by decide) hs, below_set (below_set (below_set HB4.out (by omega)) (by omega)) (by omega)⟩
set_option maxRecDepth 100000 in
set_option maxHeartbeats 4000000 in
theorem copiesg_core (f : Nat) (eg : ∀ args w, (callFunc f args).run Tryz.prog w = .ok (.enter f args) w) (hf : CopiesG f) (a0 : Option Addr) (c m : Nat) (l : List Gn) (w : World) (h : GLies w a0 l) (hm : m = l.length) (hmm : m ≤ 1000000) (hs : SmL l) :
    Calls Tryz.prog 70 #[.slice a0 m c, .func (.func f) #[] #[]] w fun e w' => ∃ v, e = .returned v ∧ OwnG w' w.heap.size v l ∧ Below w.heap.size w w' := by
  obtain ⟨i0, hi, hz0, hz1, hz2⟩ := info_parts gInfo
  have H1 := Lib.hid h
  have HN := Lib.hid hm
  have HF := Lib.hid hf
  have HS := Lib.hid hs
  clear h hm hf hs
  go_enter Tryz.func70, Tryz.ntmps70
  go_wp2_with fail
  go_loopw [5, 10] (fun v i wr => ∃ k : Nat, k ≤ m ∧ i = .int .i64 k ∧ OwnG wr w.heap.size v (l.take k) ∧ Below w.heap.size w wr) (fun _ i _ => m - (intOf i).toNat)
  case atStart => exact ⟨0, Nat.zero_le _, rfl, OwnG.nil _ _, Below.refl _ _⟩
  case round =>
    obtain ⟨wz, hwz⟩ : ∃ wz, wz = wr := ⟨_, rfl⟩
    subst hwz
    obtain ⟨k, hk, rfl, ho, hb⟩ := hrel
    obtain ⟨av, cv, hv5, _, _⟩ := ho.lies
    have HB := Lib.hid hb
    have HO := Lib.hid ho
    have HNX : (l.take k).length = k := by rw [List.length_take]; exact Nat.min_eq_left (by rw [← HN.out]; exact hk)
    rw [HNX] at hv5
    have HTK := Lib.hid HNX
    clear hb ho HNX
    subst hv5
    by_cases hlt : k < m
    · have hd : decide ((k : Int) < (m : Int)) = true := by simp; omega
      have hki : (k : Int) < (m : Int) := by omega
      obtain ⟨b, o, rfl, hbl, e0, e1, a1, c1, e2, hc1, hL1⟩ := H1.out.at k (by rw [← HN.out]; exact hlt)
      have f0 := (HB.out.cell (p := ⟨b, o + k * 3, none⟩) hbl).trans e0
      have f1 := (HB.out.cell (p := ⟨b, o + k * 3 + 1, none⟩) hbl).trans e1
      have f2 := (HB.out.cell (p := ⟨b, o + k * 3 + 2, none⟩) hbl).trans e2
      have hsk := HS.out.at (i := k) (by rw [← HN.out]; exact hlt)
      have HST := Lib.hid (takeN l k (by rw [← HN.out]; exact hlt) noG)
      have HLT := Lib.hid hlt
      clear e0 e1 e2 hbl
      generalize l.getD k noG = G at f0 f1 f2 hsk hL1 hc1 HST
      obtain ⟨q, t, r⟩ := G
      simp only at f0 f1 f2 hL1 hc1
      obtain ⟨Z, hZ⟩ : ∃ Z, Z = r.length := ⟨_, rfl⟩
      rw [← hZ] at f2
      obtain ⟨W2, hW2⟩ : ∃ W2, W2 = wz.alloc (.cells #[.int .i64 q, .string (strOf t), .slice a1 Z c1] 29) := ⟨_, rfl⟩
      have hb2 : Below wz.heap.size wz W2 := by rw [hW2]; exact belowNew wz _
      obtain ⟨g0, g1, g2, lg⟩ := three_facts (w := W2) (g := wz.heap.size) (by rw [hW2]; exact heap_alloc_new wz _)
      have HB2 := Lib.hid (below_next HB.out hb2)
      have HO2 := Lib.hid (HO.out.below hb2)
      have HC := Lib.hid (HF.out a1 c1 Z q t r W2 ((hL1.below HB.out).below hb2) hZ hsk.2)
      have HWE := hW2.symm
      clear hL1 hc1 hZ hsk hW2 hb2
      obtain ⟨X, hX⟩ : ∃ X, X = l.take k := ⟨_, rfl⟩
      rw [← hX] at HO2 HST HTK
      clear hX HO
      go_wp2_with (first
        | (go_at_fn f; refine HC.out.mono ?_; rintro e w3 ⟨u, rfl, ho3, hb3⟩; obtain ⟨a3, c3, rfl, _, _⟩ := ho3.lies; have HB3 := Lib.hid (below_next HB2.out hb3); obtain ⟨vs, hv1, hv2, hv3⟩ := HO2.out.below hb3; have HV1 := Lib.hid hv1; have HV2 := Lib.hid hv2; have HV3 := Lib.hid hv3; have HO3 := Lib.hid (ho3.base HB2.out.size); clear hb3 ho3 hv1 hv2 hv3)
        | (at_builtin; (refine wpList_append_own _ rfl (.tmp 14) (.tmp 18) 22 rfl w.heap.size 29 i0 (.agg #[.int .i64 0, .string ⟨#[]⟩, .slice none 0 0]) 3 48 Tryz.underlying22 hi hz0 hz1 hz2 rfl (by decide) _ X.length (gsCells X vs) rfl (own_below HV2.out (belowNew _ _)) ⟨w3.heap.size, 0, none⟩ 1 1 (gCells (q, t, r) (.slice a3 r.length c3)) rfl rfl (fun j u h => news_row w3 #[.int .i64 q, .string (strOf t), .slice a3 r.length c3] 29 j u (by simpa [gCells] using h)) (gCells_one _ _ _ _) (by have := HTK.out; unfold maxLen; omega) (by have := HTK.out; omega) (by have := HB3.out.size; simp; omega) ?_); intro v' w6 hown6 hgr6 _; have P3 := OwnG.snoc HV1.out (own_below HV2.out (belowNew w3 _)) (fun i hi => (HV3.out i hi).below (belowNew w3 _)) (HO3.out.below (belowNew w3 _)) hgr6 hown6; have P2 := (HB3.out.trans ((belowNew w3 _).mono HB3.out.size)).grown hgr6 (by have := HB3.out.size; simp; omega) (fun j e => (World.ownsRow.lt HV2.out j e).1); obtain ⟨a6, c6, hv6, _, _⟩ := P3.lies; rw [List.length_append, List.length_singleton, HTK.out] at hv6; subst hv6; have HP3 := Lib.hid P3; have HP2 := Lib.hid P2; clear P2 P3 hown6 hgr6))
      go_roundw
      case rel => exact ⟨k + 1, HLT.out, by go_num, by rw [HST.out]; exact HP3.out, HP2.out⟩
      case measure => simp [intOf]; omega
    · have hd : decide ((k : Int) < (m : Int)) = false := by simp; omega
      obtain rfl : k = m := by omega
      go_wp2_with fail
      go_ret
      refine ⟨_, rfl, ?_, HB.out⟩
      have := HO.out
      rw [List.take_of_length_le (by rw [← HN.out]; exact Nat.le_refl _)] at this
      exact this
theorem copiesg_any (a0 : Option Addr) (c m : Nat) (l : List Gn) (w : World) (h : GLies w a0 l) (hm : m = l.length) (hmm : m ≤ 1000000) (hs : SmL l) :
    Calls Tryz.prog 70 #[.slice a0 m c, .func (.func 71) #[] #[]] w fun e w' => ∃ v, e = .returned v ∧ OwnG w' w.heap.size v l ∧ Below w.heap.size w w' :=
  copiesg_core 71 (enters_of Tryz.func71 (by kernel_rfl) rfl) copyname_core a0 c m l w h hm hmm hs
def CopiesS (f : Nat) : Prop := ∀ (a1 a2 : Option Addr) (c1 c2 NA NB : Nat) (A B : List Gn) (W : World), GLies W a1 A → GLies W a2 B → NA = A.length → NB = B.length → NA ≤ 1000000 → NB ≤ 1000000 → SmL A → SmL B → Calls Tryz.prog f #[.agg #[.slice a1 NA c1, .slice a2 NB c2]] W fun e w' => ∃ u v, e = .returned (.agg #[u, v]) ∧ OwnG w' W.heap.size u A ∧ OwnG w' W.heap.size v B ∧ Below W.heap.size W w'
set_option maxRecDepth 100000 in
set_option maxHeartbeats 4000000 in
theorem copysub_core : CopiesS 46 := by
  intro a1 a2 c1 c2 NA NB A B w h1 h2 hA hB hNA hNB hsA hsB
  obtain ⟨W0, hW0⟩ : ∃ W0, W0 = (w.alloc (.cells #[.slice a1 NA c1, .slice a2 NB c2] 24)).alloc (.cells #[.slice none 0 0, .slice none 0 0] 24) := ⟨_, rfl⟩
  have hwr := hW0.symm
  have hb0 : Below w.heap.size w W0 := by rw [hW0]; exact belowTwo w _ _
  have hq1 : W0.heap[w.heap.size + 1]? = some (.cells #[.slice none 0 0, .slice none 0 0] 24 (0, 0)) := by rw [hW0]; exact heap_second w _ _ _
  obtain ⟨s0, s1, ls⟩ := two_facts (w := W0) (g := w.heap.size) (by rw [hW0, heap_first]; exact heap_alloc_new w _)
  obtain ⟨r0, r1, q0, q1, lr⟩ := two_at hq1
  have HB0 := Lib.hid hb0
  have HA := Lib.hid (fun W (hb : Below W0.heap.size W0 W) => copiesg_any a1 c1 NA A W ((h1.below hb0).below hb) hA hNA hsA)
  have HC := Lib.hid (fun W (hb : Below W0.heap.size W0 W) => copiesg_any a2 c2 NB B W ((h2.below hb0).below hb) hB hNB hsB)
  have HX := Lib.hid (Below.refl W0.heap.size W0).drew
  have HR := Lib.hid hq1
  have SS0 := Lib.hid s0
  have SS1 := Lib.hid s1
  clear h1 h2 hA hB hsA hsB hb0 hW0 hq1
  go_enter Tryz.func46, Tryz.ntmps46
  go_wp2_with fail
  go_region_with (first
    | (go_at_call 70; (with_reducible refine (HA.out _ HX.out).mono ?_); rintro e w3 ⟨u, rfl, ho9, hb9⟩; obtain ⟨x1, cx1, rfl, _, _⟩ := ho9.lies; have HO1 := Lib.hid (ho9.base (Nat.le_trans HB0.out.size HX.out.size)); have HBA := Lib.hid hb9; have HX := Lib.hid (below_next HX.out hb9); have s0 := (HX.out.cell (p := ⟨w.heap.size, 0, none⟩) ls).trans SS0.out; have s1 := (HX.out.cell (p := ⟨w.heap.size, 1, none⟩) ls).trans SS1.out; have hr9 := (HX.out.block (w.heap.size + 1) lr).trans HR.out; have HR9 := Lib.hid hr9; obtain ⟨r0, r1, q0, q1, l9⟩ := two_at hr9; clear hb9 ho9 hr9)
    | (go_at_call 70; (with_reducible refine (HC.out _ HX.out).mono ?_); rintro e w4 ⟨v, rfl, ho9, hb9⟩; obtain ⟨x2, cx2, rfl, _, _⟩ := ho9.lies; have HO2 := Lib.hid (ho9.base (Nat.le_trans HB0.out.size HX.out.size)); have HBB := Lib.hid hb9; have HX := Lib.hid (below_next HX.out hb9); have s0 := (HX.out.cell (p := ⟨w.heap.size, 0, none⟩) ls).trans SS0.out; have s1 := (HX.out.cell (p := ⟨w.heap.size, 1, none⟩) ls).trans SS1.out; have hr9 := (HX.out.block (w.heap.size + 1) lr).trans HR.out; have HR9 := Lib.hid hr9; obtain ⟨r0, r1, q0, q1, l9⟩ := two_at hr9; clear hb9 ho9 hr9))
  all_goals (try go_wp2_with fail)
  all_goals first
    | exact bodyPost_ret (sbRes rfl _ _ _ _ _ rfl (set2_1 (set2_0 HR9.out))) rfl ⟨_, _, rfl, ((HO1.out.below HBB.out).apart HR9.out (by decide) (by decide) (by decide) ((But.set (w.heap.size + 1) 0 _ _).next (But.set (w.heap.size + 1) 1 _ _))), (HO2.out.apart HR9.out (by decide) (by decide) (by decide) ((But.set (w.heap.size + 1) 0 _ _).next (But.set (w.heap.size + 1) 1 _ _))), below_set (below_set (below_next HB0.out HX.out) (by omega)) (by omega)⟩
    | exact bodyPost_ret (sbRes rfl _ _ _ _ _ rfl (set2_1 (set2_0 HR9.out))) rfl ⟨_, _, rfl, (HO1.out.apart HR9.out (by decide) (by decide) (by decide) ((But.set (w.heap.size + 1) 0 _ _).next (But.set (w.heap.size + 1) 1 _ _))), ((HO2.out.below HBA.out).apart HR9.out (by decide) (by decide) (by decide) ((But.set (w.heap.size + 1) 0 _ _).next (But.set (w.heap.size + 1) 1 _ _))), below_set (below_set (below_next HB0.out HX.out) (by omega)) (by omega)⟩
end Go.Proofs.YtbpdenfiifcfcaaGreatDoor
