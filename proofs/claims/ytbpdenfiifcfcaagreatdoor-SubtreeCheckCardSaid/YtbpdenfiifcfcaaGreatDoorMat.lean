/-
  The contract of the reference's Order: the strings in ascending order, one after the other; nothing that was there before the call has changed.
-/
import Derived.Test.YtbpdenfiifcfcaaGreatDoorMas
import Derived.Laws.Cover1
namespace Go.Proofs.YtbpdenfiifcfcaaGreatDoor
open Go.RowKit

/-- The slice value v, of memory from block B on, holds the strings D. -/
def OwnS_t (w : World) (B : Nat) (v : Value) (D : List ByteArray) : Prop := w.ownsRow B 9 1 v D.length (D.map Value.string)
theorem strInfo_t : (Tryz.prog.info? 9).map (fun i => (i.zero, i.size, i.bytes)) = some (some (.string ⟨#[]⟩), 1, 16) := by kernel_rfl
theorem strs_one_t (D : List ByteArray) : ∀ u ∈ D.map Value.string, u.oneCell' = true := by
  intro u hu; obtain ⟨b, _, rfl⟩ := List.mem_map.1 hu; rfl
theorem grown_none {w0 w w' : World} {B : Nat} (h : Below B w0 w) (hg : w.grownBy w' none) (hB : B ≤ w.heap.size) : Below B w0 w' := h.grown hg hB (fun _ e => by cases e)

theorem step_append_none {P : Program} {ops : Array Oper} {o : Oper} {a : Act} {w : World} {K : Act → World → Prop} {Q : Exit → Act → World → Prop} {E : Prop} (hgd : o.guard = none) (s x : Operand) (t : TypeId)
    (ho : o.op = .call { callee := .builtin .append, args := #[s, x], argTypes := #[t, t] })
    (base : Nat) (e : TypeId) (i : TypeInfo) (size : Nat) (ht : P.underlying t = some (.slice e)) (hi : P.info? e = some i)
    (v : Value) (n : Nat) (xs : List Value) (hs : a.eval s = v) (hown : w.ownsRow base e size v n xs) (hx : a.eval x = .slice none 0 0)
    (h : K (a.put o.dst v) w) : if Region.wanted o (yielded ops a.tmps) = true then Oper.wp P o a w K Q else E := by
  have hw : Region.wanted o (yielded ops a.tmps) = true := by simp [Region.wanted, hgd]
  rw [if_pos hw]
  have hrun := run_append_owned_none (P := P) (w := w) base t o.type e i size ht hi v n xs hown
  unfold Oper.wp
  simp [execOp, ho, resolve, invoke, builtin, hs, hx, hrun, Result.andThen]
  exact h
theorem str_news (W : World) (g : Nat) (hg : g = W.heap.size) (x : ByteArray) : ∀ j u, [Value.string x][j]? = some u → (W.alloc (.cells #[.string x] 9)).cell? ((⟨g, 0, none⟩ : Addr).add j) = some u := by
  intro j u h
  subst hg
  have hadd : (⟨W.heap.size, 0, none⟩ : Addr).add j = ⟨W.heap.size, j, none⟩ := by unfold Addr.add; split <;> simp_all
  rw [hadd, Lib.cell_of_heap (heap_alloc_new W _)]
  simpa using h

theorem perm_put {D ss : List ByteArray} {x : ByteArray} {k : Nat} (h : D.Perm (ss.take k)) (hk : k < ss.length) (hx : x = ss.getD k ByteArray.empty) (m : Nat) : (D.take m ++ [x] ++ D.drop m).Perm (ss.take (k + 1)) := by
  have e : ss.take (k + 1) = ss.take k ++ [x] := by
    rw [List.take_succ_eq_append_getElem hk, hx]
    simp [hk]
  rw [e]
  have h1 : (D.take m ++ [x] ++ D.drop m).Perm ([x] ++ (D.take m ++ D.drop m)) := by
    rw [← List.append_assoc]
    exact List.Perm.append_right _ List.perm_append_comm
  rw [List.take_append_drop] at h1
  exact h1.trans ((List.Perm.append_left [x] h).trans List.perm_append_comm)
theorem own_cells {w W : World} {B g c : Nat} {D : List ByteArray} (h : OwnS_t w B (.slice (some ⟨g, 0, none⟩) D.length c) D) (hb : Below w.heap.size w W) (m : Nat) :
    ∀ j u, ((D.drop m).map Value.string)[j]? = some u → W.cell? ((⟨g, m, none⟩ : Addr).add j) = some u := by
  intro j u hj
  have hg := (World.ownsRow.lt h g rfl).2
  have hadd : (⟨g, m, none⟩ : Addr).add j = ⟨g, m + j, none⟩ := by unfold Addr.add; split <;> simp_all
  rw [hadd, hb.cell (p := ⟨g, m + j, none⟩) hg]
  have hl : m + j < D.length := by
    have := (List.getElem?_eq_some_iff.1 hj).1
    simp at this
    omega
  rw [World.ownsRow.cellAt h (m + j) (by omega)]
  simpa using hj
theorem own_cells0 {w W : World} {B g c : Nat} {D : List ByteArray} (h : OwnS_t w B (.slice (some ⟨g, 0, none⟩) D.length c) D) (hb : Below w.heap.size w W) (m : Nat) :
    ∀ j u, ((D.take m).map Value.string)[j]? = some u → W.cell? ((⟨g, 0, none⟩ : Addr).add j) = some u := by
  intro j u hj
  refine own_cells h hb 0 j u ?_
  have hl : j < (D.take m).length := by
    have := (List.getElem?_eq_some_iff.1 hj).1
    simpa using this
  rw [List.drop_zero]
  rw [List.length_take] at hl
  rw [List.getElem?_map, List.getElem?_take_of_lt (by omega)] at hj
  rw [List.getElem?_map]
  exact hj
theorem row_kept {wr w1 : World} {x : ByteArray} (hg : (wr.alloc (.cells #[.string x] 9)).drew.grownBy w1 none) : ∀ j u, [Value.string x][j]? = some u → w1.cell? ((⟨wr.heap.size, 0, none⟩ : Addr).add j) = some u := by
  intro j u h
  have hb : Below (wr.heap.size + 1) (wr.alloc (.cells #[.string x] 9)).drew w1 := (Below.refl _ _).grown hg (by simp) (fun _ e => by cases e)
  rw [hb.cell (p := (⟨wr.heap.size, 0, none⟩ : Addr).add j) (by unfold Addr.add; split <;> simp)]
  exact str_news wr _ rfl x j u h
/-- .. in ascending order still. -/
theorem lists_get (D : List ByteArray) (i : Nat) (h : i < D.length) : (lists D)[i]'(by simpa [lists] using h) = (D.getD i ByteArray.empty).data.toList := by
  simp [lists, h]
theorem sorted_put {D : List ByteArray} {x : ByteArray} {m : Nat} (h : (lists D).Pairwise (fun a b => ¬ b < a)) (hm : m ≤ D.length) (h1 : ∀ i, i < m → ¬ x.data.toList < (D.getD i ByteArray.empty).data.toList)
    (h2 : m < D.length → x.data.toList < (D.getD m ByteArray.empty).data.toList) : (lists (D.take m ++ [x] ++ D.drop m)).Pairwise (fun a b => ¬ b < a) := by
  have hl : (lists D).length = D.length := by simp [lists]
  have e : lists (D.take m ++ [x] ++ D.drop m) = (lists D).take m ++ ([x.data.toList] ++ (lists D).drop m) := by simp [lists]
  have hs : ((lists D).take m ++ (lists D).drop m).Pairwise (fun a b => ¬ b < a) := by rw [List.take_append_drop]; exact h
  obtain ⟨p1, p2, p3⟩ := List.pairwise_append.1 hs
  have hx : ∀ b ∈ (lists D).drop m, ¬ b < x.data.toList := by
    intro b hb
    obtain ⟨i, hi, rfl⟩ := List.getElem_of_mem hb
    rw [List.length_drop] at hi
    have hml : m < D.length := by omega
    have h3 := h2 hml
    rw [← lists_get D m hml] at h3
    rw [List.getElem_drop]
    intro hlt
    by_cases hi0 : i = 0
    · subst hi0
      exact List.lt_asymm h3 hlt
    · have h4 := List.pairwise_iff_getElem.1 h m (m + i) (by omega) (by omega) (by omega)
      exact h4 (List.lt_trans hlt h3)
  rw [e]
  refine List.pairwise_append.2 ⟨p1, List.pairwise_append.2 ⟨List.pairwise_singleton _ _, p2, fun a ha b hb => ?_⟩, fun a ha b hb => ?_⟩
  · rw [List.mem_singleton.1 ha]
    exact hx b hb
  · rcases List.mem_append.1 hb with hb | hb
    · rw [List.mem_singleton.1 hb]
      obtain ⟨i, hi, rfl⟩ := List.getElem_of_mem ha
      rw [List.length_take] at hi
      rw [List.getElem_take, lists_get D i (by omega)]
      exact h1 i (by omega)
    · exact p3 a ha b hb
/-- There is one list in ascending order. -/
theorem sorted_one {D ss : List ByteArray} (h : (lists D).Pairwise (fun a b => ¬ b < a)) (hp : D.Perm ss) : lists D = ordL (lists ss) := by
  have tr : ∀ a b c : List UInt8, decide (a ≤ b) = true → decide (b ≤ c) = true → decide (a ≤ c) = true := fun a b c h1 h2 => by simp only [decide_eq_true_eq] at *; exact List.le_trans h1 h2
  have tot : ∀ a b : List UInt8, (decide (a ≤ b) || decide (b ≤ a)) = true := fun a b => by simp only [Bool.or_eq_true, decide_eq_true_eq]; exact List.le_total a b
  refine List.Perm.eq_of_pairwise (le := fun a b => decide (a ≤ b) = true) (fun a b _ _ h1 h2 => ?_) (h.imp fun {a b} hh => decide_eq_true (List.not_lt.1 hh)) (List.pairwise_mergeSort tr tot (lists ss)) ((show (lists D).Perm (lists ss) from hp.map _).trans (ordL_perm (lists ss)).symm)
  simp only [decide_eq_true_eq] at h1 h2
  exact List.le_antisymm h1 h2
theorem ext_list_t' {a b : ByteArray} (h : a.data.toList = b.data.toList) : a = b := ByteArray.ext (Array.toList_inj.1 h)
theorem OwnS_t.lies {w : World} {B : Nat} {v : Value} {D : List ByteArray} (h : OwnS_t w B v D) : ∃ a c, v = .slice a D.length c ∧ Lies w a D := by
  rcases h.2 with ⟨hv, h0⟩ | ⟨g, cap, cur, hv, _⟩
  · exact ⟨none, 0, by rw [hv, h0], .inl (List.eq_nil_of_length_eq_zero h0)⟩
  · have h' := h
    rw [hv] at h'
    refine ⟨_, cap, hv, .inr ⟨g, 0, rfl, fun i hi => ?_⟩⟩
    rw [Nat.zero_add, World.ownsRow.cellAt h' i (by omega)]
    simp [hi]
theorem no_cells {D : List ByteArray} {m : Nat} {w : World} {p : Addr} (h : m = D.length) : ∀ j u, ((D.drop m).map Value.string)[j]? = some u → w.cell? (p.add j) = some u := by
  intro j u hj
  rw [h, List.drop_length] at hj
  simp at hj
/-- Behind the third append: the strings with x among them. -/
theorem own_put {w wr w3 : World} {v3 : Value} {D : List ByteArray} {x : ByteArray} {m : Nat} (hw : w.heap.size ≤ wr.heap.size) (hm : m ≤ D.length)
    (h : w3.ownsRow wr.heap.size 9 1 v3 (0 + m + 1 + (D.length - m)) (([] ++ (D.take m).map Value.string) ++ [Value.string x] ++ (D.drop m).map Value.string)) : OwnS_t w3 w.heap.size v3 (D.take m ++ [x] ++ D.drop m) := by
  have e : (D.take m ++ [x] ++ D.drop m).length = 0 + m + 1 + (D.length - m) := by simp; omega
  unfold OwnS_t
  rw [e]
  have h2 : w3.ownsRow w.heap.size 9 1 v3 (0 + m + 1 + (D.length - m)) (([] ++ (D.take m).map Value.string) ++ [Value.string x] ++ (D.drop m).map Value.string) := by
    refine ⟨h.1, ?_⟩
    rcases h.2 with h0 | ⟨g, cap, cur, hv, hB, r⟩
    · exact .inl h0
    · exact .inr ⟨g, cap, cur, hv, Nat.le_trans hw hB, r⟩
  simpa using h2

set_option maxRecDepth 100000 in
set_option maxHeartbeats 4000000 in
theorem rorder_core (a0 : Option Addr) (cap : Nat) (ss : List ByteArray) (w : World) (hv : Lies w a0 ss) (hn : ss.length ≤ 1000) (hm : (cat_t ss).length ≤ 1099511627776) :
    Calls Tryz.prog 105 #[.slice a0 ss.length cap] w fun e w' => e = .returned (.string ⟨(ordL (lists ss)).flatten.toArray⟩) ∧ Below w.heap.size w w' := by
  obtain ⟨i0, hi, hz0, hz1, hz2⟩ := info_parts strInfo_t
  obtain ⟨n, hln⟩ : ∃ n, n = ss.length := ⟨_, rfl⟩
  rw [← hln]
  have HLN := Lib.hid hln
  have HV := Lib.hid hv
  have HM := Lib.hid hm
  have hn' : n ≤ 1000 := by omega
  clear hln hv hm hn
  go_enter Tryz.func105, Tryz.ntmps105
  go_wp2_with fail
  go_loopw [3, 12] (fun v i wr => ∃ (k : Nat) (D : List ByteArray), k ≤ n ∧ i = .int .i64 k ∧ OwnS_t wr w.heap.size v D ∧ D.Perm (ss.take k) ∧ (lists D).Pairwise (fun a b => ¬ b < a) ∧ (D = [] → v = .slice none 0 0) ∧ Below w.heap.size w wr) (fun _ i _ => n - (intOf i).toNat)
  case atStart => exact ⟨0, [], Nat.zero_le _, rfl, World.ownsRow_nil _ _ _ _, by simp, by simp [lists], fun _ => rfl, Below.refl _ _⟩
  case round =>
    obtain ⟨k, D, hk, rfl, hO, hP, hS, hnil, hb⟩ := hrel
    have HO := Lib.hid hO
    have HP := Lib.hid hP
    have HS := Lib.hid hS
    have HB := Lib.hid hb
    have hDl : D.length = k := by rw [hP.length_eq, List.length_take, ← HLN.out]; omega
    clear hO hP hS hb
    subst hDl
    by_cases hlt : D.length < n
    · have hd : decide ((D.length : Int) < (n : Int)) = true := by simp; omega
      obtain ⟨b, o, ha, hc⟩ := (HV.out.old HB.out).at D.length (by rw [← HLN.out]; exact hlt)
      subst ha
      obtain ⟨x, hx⟩ : ∃ x, x = ss.getD D.length ByteArray.empty := ⟨_, rfl⟩
      rw [← hx] at hc
      have HX := Lib.hid hx
      clear hx
      by_cases hD0 : D = []
      · subst hD0
        obtain rfl := hnil rfl
        simp only [List.length_nil, Nat.add_zero] at hd hlt hc hk HX ⊢
        have hd0 : decide ((0 : Int) < (n : Int)) = true := by simp; omega
        clear hd hnil
        go_wp2_with fail
        go_loopw [6] (fun j wx => j = .int .i64 0 ∧ wx = wr) (fun _ _ => 0)
        case atStart => exact ⟨rfl, rfl⟩
        case round =>
          obtain ⟨rfl, rfl⟩ := hrel
          go_wp2_with fail
          go_region_law (first | (refine step_append_none rfl (.const (.slice none 0 0)) (.tmp 32) 46 rfl w.heap.size 9 i0 1 Tryz.underlying46 hi (.slice none 0 0) 0 [] rfl (World.ownsRow_nil _ _ _ _) (by simp [Act.eval, Act.put]) ?_) | (refine step_append_own rfl (.tmp 33) (.tmp 35) 46 rfl w.heap.size 9 i0 (.string ⟨#[]⟩) 16 Tryz.underlying46 hi hz0 hz1 hz2 rfl (.slice none 0 0) 0 [] (by simp [Act.eval]) (World.ownsRow_nil _ _ _ _) ⟨wr.heap.size, 0, none⟩ 1 1 [.string x] (by simp [Act.eval]) rfl (str_news wr _ rfl x) (strs_one_t [x]) (by unfold maxLen; omega) (by omega) (by have := HB.out.size; simp; omega) ?_; intro v2 w2 ho2 hg2 _; have HO2 := Lib.hid ho2; have HB2 := Lib.hid (grown_none ((HB.out.alloc HB.out.size (.cells #[.string x] 9)).drew) hg2 (by have := HB.out.size; simp; omega)); clear ho2 hg2) | (refine step_append_none rfl (.tmp 36) (.tmp 39) 46 rfl w.heap.size 9 i0 1 Tryz.underlying46 hi v2 1 [.string x] (by simp [Act.eval]) HO2.out (by simp [Act.eval]) ?_))
          all_goals
            go_wp2_with fail
            go_roundw
            case rel => exact ⟨1, [x], by omega, rfl, HO2.out, perm_put (D := []) (k := 0) (by simp) (by rw [← HLN.out]; exact hlt) HX.out 0, by simp [lists], (fun h => absurd h (by simp)), HB2.out⟩
            case measure => simp [intOf]; omega
      · obtain ⟨g, c, rfl⟩ : ∃ g c, u3 = .slice (some ⟨g, 0, none⟩) D.length c := by
          rcases HO.out.2 with ⟨_, h⟩ | ⟨g, c, cur, h, _⟩
          · exact absurd (List.eq_nil_of_length_eq_zero h) hD0
          · exact ⟨g, c, h⟩
        clear hnil
        have hcap : D.length ≤ c := by
          rcases HO.out.2 with ⟨h, _⟩ | ⟨g', c', cur, h, _, _, h2, _⟩
          · cases h
          · cases h; exact h2
        go_wp2_with fail
        go_loopw [6] (fun j wx => ∃ m : Nat, m ≤ D.length ∧ j = .int .i64 m ∧ (∀ i, i < m → ¬ x.data.toList < (D.getD i ByteArray.empty).data.toList) ∧ wx = wr) (fun j _ => D.length - (intOf j).toNat)
        case atStart => exact ⟨0, Nat.zero_le _, rfl, fun i hi => absurd hi (Nat.not_lt_zero _), rfl⟩
        case round =>
          obtain ⟨m, hm, rfl, hle, rfl⟩ := hrel
          have HLE := Lib.hid hle
          clear hle
          by_cases hml : m < D.length
          · have hdm : decide ((m : Int) < (D.length : Int)) = true := by simp; omega
            obtain ⟨y, hy⟩ : ∃ y, y = D.getD m ByteArray.empty := ⟨_, rfl⟩
            have hcy : wr.cell? ⟨g, m, none⟩ = some (.string y) := by
              rw [World.ownsRow.cellAt HO.out m (by omega), hy]
              simp [hml]
            have HY := Lib.hid hy
            clear hy
            by_cases hless : x.data.toList < y.data.toList
            · have hb1 : Op.bytesLess y.toList x.toList = false := by
                rw [ByteArray.toList_eq, ByteArray.toList_eq, ← Bool.not_eq_true, bl_iff]
                exact fun h => List.lt_asymm h hless
              have hb2 : (y.toList == x.toList) = false := by
                rw [ByteArray.toList_eq, ByteArray.toList_eq]
                exact beq_eq_false_iff_ne.2 (fun h => by rw [h] at hless; exact List.lt_irrefl _ hless)
              have HLS := Lib.hid hless
              clear hless
              have HSO := Lib.hid (sorted_put HS.out hm HLE.out (fun hh => by rw [← HY.out]; exact HLS.out))
              go_wp2_with fail
              have hDn : D.length ≤ 1000 := by omega
              have hmc : m ≤ c := by omega
              go_region_law (first | (refine step_append_own rfl (.const (.slice none 0 0)) (.tmp 32) 46 rfl wr.heap.size 9 i0 (.string ⟨#[]⟩) 16 Tryz.underlying46 hi hz0 hz1 hz2 rfl (.slice none 0 0) 0 [] (by simp [Act.eval]) (World.ownsRow_nil _ _ _ _) ⟨g, 0, none⟩ m c ((D.take m).map .string) (by simp [Act.eval, Act.put]) (by simp; omega) (own_cells0 (W := wr.drew) HO.out (Below.refl _ _).drew m) (strs_one_t _) (by unfold maxLen; omega) (by omega) (by simp) ?_; intro v1 w1 ho1 hg1 _; have HO1 := Lib.hid ho1; have HB1 := Lib.hid (grown_none ((Below.refl wr.heap.size wr).drew) hg1 (by simp)); clear ho1 hg1) | (refine step_append_own rfl (.const (.slice none 0 0)) (.tmp 32) 46 rfl wr.heap.size 9 i0 (.string ⟨#[]⟩) 16 Tryz.underlying46 hi hz0 hz1 hz2 rfl (.slice none 0 0) 0 [] (by simp [Act.eval]) (World.ownsRow_nil _ _ _ _) ⟨g, 0, none⟩ m c ((D.take m).map .string) (by simp [Act.eval]) (by simp; omega) (own_cells0 (W := (wr.alloc (.cells #[.string x] 9)).drew) HO.out ((Below.refl _ _).alloc (Nat.le_refl _) _).drew m) (strs_one_t _) (by unfold maxLen; omega) (by omega) (by simp) ?_; intro v1 w1 ho1 hg1 _; have HO1 := Lib.hid ho1; have HB1 := Lib.hid (grown_none (((Below.refl wr.heap.size wr).alloc (Nat.le_refl _) (.cells #[.string x] 9)).drew) hg1 (by simp)); have HRW := Lib.hid (row_kept hg1); clear ho1 hg1) | (refine step_append_own rfl (.tmp 33) (.tmp 35) 46 rfl wr.heap.size 9 i0 (.string ⟨#[]⟩) 16 Tryz.underlying46 hi hz0 hz1 hz2 rfl v1 (0 + m) ([] ++ (D.take m).map .string) (by simp [Act.eval]) (HO1.out.alloc _) ⟨w1.heap.size, 0, none⟩ 1 1 [.string x] (by simp [Act.eval]) rfl (str_news w1 _ rfl x) (strs_one_t [x]) (by unfold maxLen; omega) (by omega) (by have := HB1.out.size; simp; omega) ?_; intro v2 w2 ho2 hg2 _; have HO2 := Lib.hid ho2; have HB2 := Lib.hid ((HB1.out.alloc HB1.out.size (.cells #[.string x] 9)).grown hg2 (by have := HB1.out.size; simp; omega) (fun k e => (World.ownsRow.lt HO1.out k e).1)); clear ho2 hg2) | (refine step_append_own rfl (.tmp 33) (.tmp 35) 46 rfl wr.heap.size 9 i0 (.string ⟨#[]⟩) 16 Tryz.underlying46 hi hz0 hz1 hz2 rfl v1 (0 + m) ([] ++ (D.take m).map .string) (by simp [Act.eval]) HO1.out ⟨wr.heap.size, 0, none⟩ 1 1 [.string x] (by simp [Act.eval]) rfl HRW.out (strs_one_t [x]) (by unfold maxLen; omega) (by omega) HB1.out.size ?_; intro v2 w2 ho2 hg2 _; have HO2 := Lib.hid ho2; have HB2 := Lib.hid (HB1.out.grown hg2 HB1.out.size (fun k e => (World.ownsRow.lt HO1.out k e).1)); clear ho2 hg2) | (refine step_append_own rfl (.tmp 36) (.tmp 39) 46 rfl wr.heap.size 9 i0 (.string ⟨#[]⟩) 16 Tryz.underlying46 hi hz0 hz1 hz2 rfl v2 (0 + m + 1) (([] ++ (D.take m).map .string) ++ [.string x]) (by simp [Act.eval]) HO2.out ⟨g, m, none⟩ (D.length - m) (c - m) ((D.drop m).map .string) (by simp [Act.eval]; omega) (by simp) (own_cells HO.out HB2.out m) (strs_one_t _) (by unfold maxLen; omega) (by omega) HB2.out.size ?_; intro v3 w3 ho3 hg3 _; have HO3 := Lib.hid (own_put (w := w) HB.out.size hm ho3); have HB3 := Lib.hid (HB2.out.grown hg3 HB2.out.size (fun k e => (World.ownsRow.lt HO2.out k e).1)); clear ho3 hg3))
              all_goals
                go_wp2_with fail
                go_roundw
                case rel => exact ⟨D.length + 1, D.take m ++ [x] ++ D.drop m, by omega, by go_num, HO3.out, perm_put HP.out (by rw [← HLN.out]; exact hlt) HX.out m, HSO.out, (fun h => absurd h (by simp)), HB.out.trans (HB3.out.mono HB.out.size)⟩
                case measure => simp [intOf]; omega
            · have HLS := Lib.hid hless
              have HLE2 := Lib.hid (show ∀ i, i < m + 1 → ¬ x.data.toList < (D.getD i ByteArray.empty).data.toList from fun i hi => by
                by_cases e : i = m
                · subst e; rw [← HY.out]; exact hless
                · exact HLE.out i (by omega))
              by_cases heq : y.data.toList = x.data.toList
              · have hb1 : Op.bytesLess y.toList x.toList = false := by
                  rw [ByteArray.toList_eq, ByteArray.toList_eq, ← Bool.not_eq_true, bl_iff, heq]
                  exact List.lt_irrefl _
                have hb2 : (y.toList == x.toList) = true := by
                  rw [ByteArray.toList_eq, ByteArray.toList_eq, heq]
                  exact beq_self_eq_true _
                clear hless heq
                go_wp2_with fail
                go_roundw
                case rel => exact ⟨m + 1, by omega, by go_num, HLE2.out, trivial⟩
                case measure => simp [intOf]; omega
              · have hb1 : Op.bytesLess y.toList x.toList = true := by
                  rw [ByteArray.toList_eq, ByteArray.toList_eq, bl_iff]
                  rcases List.le_total y.data.toList x.data.toList with h1 | h1
                  · exact Std.lt_of_le_of_ne h1 heq
                  · exact absurd (Std.lt_of_le_of_ne h1 (Ne.symm heq)) hless
                clear hless heq
                go_wp2_with fail
                go_roundw
                case rel => exact ⟨m + 1, by omega, by go_num, HLE2.out, trivial⟩
                case measure => simp [intOf]; omega
          · have hdm : decide ((m : Int) < (D.length : Int)) = false := by simp; omega
            have hmD : m = D.length := by omega
            have HSO := Lib.hid (sorted_put HS.out hm HLE.out (fun hh => absurd hh hml))
            have HMD := Lib.hid hmD
            clear hmD
            by_cases hcm : c = m
            · subst hcm
              go_wp2_with fail
              have hDn : D.length ≤ 1000 := by omega
              have hmc : c ≤ c := Nat.le_refl _
              go_region_law (first | (refine step_append_own rfl (.const (.slice none 0 0)) (.tmp 32) 46 rfl wr.heap.size 9 i0 (.string ⟨#[]⟩) 16 Tryz.underlying46 hi hz0 hz1 hz2 rfl (.slice none 0 0) 0 [] (by simp [Act.eval]) (World.ownsRow_nil _ _ _ _) ⟨g, 0, none⟩ c c ((D.take c).map .string) (by simp [Act.eval, Act.put]) (by simp; omega) (own_cells0 (W := wr.drew) HO.out (Below.refl _ _).drew c) (strs_one_t _) (by unfold maxLen; omega) (by omega) (by simp) ?_; intro v1 w1 ho1 hg1 _; have HO1 := Lib.hid ho1; have HB1 := Lib.hid (grown_none ((Below.refl wr.heap.size wr).drew) hg1 (by simp)); clear ho1 hg1) | (refine step_append_own rfl (.const (.slice none 0 0)) (.tmp 32) 46 rfl wr.heap.size 9 i0 (.string ⟨#[]⟩) 16 Tryz.underlying46 hi hz0 hz1 hz2 rfl (.slice none 0 0) 0 [] (by simp [Act.eval]) (World.ownsRow_nil _ _ _ _) ⟨g, 0, none⟩ c c ((D.take c).map .string) (by simp [Act.eval]) (by simp; omega) (own_cells0 (W := (wr.alloc (.cells #[.string x] 9)).drew) HO.out ((Below.refl _ _).alloc (Nat.le_refl _) _).drew c) (strs_one_t _) (by unfold maxLen; omega) (by omega) (by simp) ?_; intro v1 w1 ho1 hg1 _; have HO1 := Lib.hid ho1; have HB1 := Lib.hid (grown_none (((Below.refl wr.heap.size wr).alloc (Nat.le_refl _) (.cells #[.string x] 9)).drew) hg1 (by simp)); have HRW := Lib.hid (row_kept hg1); clear ho1 hg1) | (refine step_append_own rfl (.tmp 33) (.tmp 35) 46 rfl wr.heap.size 9 i0 (.string ⟨#[]⟩) 16 Tryz.underlying46 hi hz0 hz1 hz2 rfl v1 (0 + c) ([] ++ (D.take c).map .string) (by simp [Act.eval]) (HO1.out.alloc _) ⟨w1.heap.size, 0, none⟩ 1 1 [.string x] (by simp [Act.eval]) rfl (str_news w1 _ rfl x) (strs_one_t [x]) (by unfold maxLen; omega) (by omega) (by have := HB1.out.size; simp; omega) ?_; intro v2 w2 ho2 hg2 _; have HO2 := Lib.hid ho2; have HB2 := Lib.hid ((HB1.out.alloc HB1.out.size (.cells #[.string x] 9)).grown hg2 (by have := HB1.out.size; simp; omega) (fun k e => (World.ownsRow.lt HO1.out k e).1)); clear ho2 hg2) | (refine step_append_own rfl (.tmp 33) (.tmp 35) 46 rfl wr.heap.size 9 i0 (.string ⟨#[]⟩) 16 Tryz.underlying46 hi hz0 hz1 hz2 rfl v1 (0 + c) ([] ++ (D.take c).map .string) (by simp [Act.eval]) HO1.out ⟨wr.heap.size, 0, none⟩ 1 1 [.string x] (by simp [Act.eval]) rfl HRW.out (strs_one_t [x]) (by unfold maxLen; omega) (by omega) HB1.out.size ?_; intro v2 w2 ho2 hg2 _; have HO2 := Lib.hid ho2; have HB2 := Lib.hid (HB1.out.grown hg2 HB1.out.size (fun k e => (World.ownsRow.lt HO1.out k e).1)); clear ho2 hg2) | (refine step_append_own rfl (.tmp 36) (.tmp 39) 46 rfl wr.heap.size 9 i0 (.string ⟨#[]⟩) 16 Tryz.underlying46 hi hz0 hz1 hz2 rfl v2 (0 + c + 1) (([] ++ (D.take c).map .string) ++ [.string x]) (by simp [Act.eval]) HO2.out ⟨g, 0, none⟩ (D.length - c) (c - c) ((D.drop c).map .string) (by simp [Act.eval] <;> (have := HMD.out; omega)) (by simp) (no_cells HMD.out) (strs_one_t _) (by unfold maxLen; omega) (by omega) HB2.out.size ?_; intro v3 w3 ho3 hg3 _; have HO3 := Lib.hid (own_put (w := w) HB.out.size hm ho3); have HB3 := Lib.hid (HB2.out.grown hg3 HB2.out.size (fun k e => (World.ownsRow.lt HO2.out k e).1)); clear ho3 hg3))
              all_goals
                go_wp2_with fail
                go_roundw
                case rel => exact ⟨D.length + 1, D.take c ++ [x] ++ D.drop c, by omega, by go_num, HO3.out, perm_put HP.out (by rw [← HLN.out]; exact hlt) HX.out c, HSO.out, (fun h => absurd h (by simp)), HB.out.trans (HB3.out.mono HB.out.size)⟩
                case measure => simp [intOf]; omega
            · go_wp2_with fail
              have hDn : D.length ≤ 1000 := by omega
              have hmc : m ≤ c := by omega
              go_region_law (first | (refine step_append_own rfl (.const (.slice none 0 0)) (.tmp 32) 46 rfl wr.heap.size 9 i0 (.string ⟨#[]⟩) 16 Tryz.underlying46 hi hz0 hz1 hz2 rfl (.slice none 0 0) 0 [] (by simp [Act.eval]) (World.ownsRow_nil _ _ _ _) ⟨g, 0, none⟩ m c ((D.take m).map .string) (by simp [Act.eval, Act.put]) (by simp; omega) (own_cells0 (W := wr.drew) HO.out (Below.refl _ _).drew m) (strs_one_t _) (by unfold maxLen; omega) (by omega) (by simp) ?_; intro v1 w1 ho1 hg1 _; have HO1 := Lib.hid ho1; have HB1 := Lib.hid (grown_none ((Below.refl wr.heap.size wr).drew) hg1 (by simp)); clear ho1 hg1) | (refine step_append_own rfl (.const (.slice none 0 0)) (.tmp 32) 46 rfl wr.heap.size 9 i0 (.string ⟨#[]⟩) 16 Tryz.underlying46 hi hz0 hz1 hz2 rfl (.slice none 0 0) 0 [] (by simp [Act.eval]) (World.ownsRow_nil _ _ _ _) ⟨g, 0, none⟩ m c ((D.take m).map .string) (by simp [Act.eval]) (by simp; omega) (own_cells0 (W := (wr.alloc (.cells #[.string x] 9)).drew) HO.out ((Below.refl _ _).alloc (Nat.le_refl _) _).drew m) (strs_one_t _) (by unfold maxLen; omega) (by omega) (by simp) ?_; intro v1 w1 ho1 hg1 _; have HO1 := Lib.hid ho1; have HB1 := Lib.hid (grown_none (((Below.refl wr.heap.size wr).alloc (Nat.le_refl _) (.cells #[.string x] 9)).drew) hg1 (by simp)); have HRW := Lib.hid (row_kept hg1); clear ho1 hg1) | (refine step_append_own rfl (.tmp 33) (.tmp 35) 46 rfl wr.heap.size 9 i0 (.string ⟨#[]⟩) 16 Tryz.underlying46 hi hz0 hz1 hz2 rfl v1 (0 + m) ([] ++ (D.take m).map .string) (by simp [Act.eval]) (HO1.out.alloc _) ⟨w1.heap.size, 0, none⟩ 1 1 [.string x] (by simp [Act.eval]) rfl (str_news w1 _ rfl x) (strs_one_t [x]) (by unfold maxLen; omega) (by omega) (by have := HB1.out.size; simp; omega) ?_; intro v2 w2 ho2 hg2 _; have HO2 := Lib.hid ho2; have HB2 := Lib.hid ((HB1.out.alloc HB1.out.size (.cells #[.string x] 9)).grown hg2 (by have := HB1.out.size; simp; omega) (fun k e => (World.ownsRow.lt HO1.out k e).1)); clear ho2 hg2) | (refine step_append_own rfl (.tmp 33) (.tmp 35) 46 rfl wr.heap.size 9 i0 (.string ⟨#[]⟩) 16 Tryz.underlying46 hi hz0 hz1 hz2 rfl v1 (0 + m) ([] ++ (D.take m).map .string) (by simp [Act.eval]) HO1.out ⟨wr.heap.size, 0, none⟩ 1 1 [.string x] (by simp [Act.eval]) rfl HRW.out (strs_one_t [x]) (by unfold maxLen; omega) (by omega) HB1.out.size ?_; intro v2 w2 ho2 hg2 _; have HO2 := Lib.hid ho2; have HB2 := Lib.hid (HB1.out.grown hg2 HB1.out.size (fun k e => (World.ownsRow.lt HO1.out k e).1)); clear ho2 hg2) | (refine step_append_own rfl (.tmp 36) (.tmp 39) 46 rfl wr.heap.size 9 i0 (.string ⟨#[]⟩) 16 Tryz.underlying46 hi hz0 hz1 hz2 rfl v2 (0 + m + 1) (([] ++ (D.take m).map .string) ++ [.string x]) (by simp [Act.eval]) HO2.out ⟨g, m, none⟩ (D.length - m) (c - m) ((D.drop m).map .string) (by simp [Act.eval] <;> (have := HMD.out; omega)) (by simp) (own_cells HO.out HB2.out m) (strs_one_t _) (by unfold maxLen; omega) (by omega) HB2.out.size ?_; intro v3 w3 ho3 hg3 _; have HO3 := Lib.hid (own_put (w := w) HB.out.size hm ho3); have HB3 := Lib.hid (HB2.out.grown hg3 HB2.out.size (fun k e => (World.ownsRow.lt HO2.out k e).1)); clear ho3 hg3))
              all_goals
                go_wp2_with fail
                go_roundw
                case rel => exact ⟨D.length + 1, D.take m ++ [x] ++ D.drop m, by omega, by go_num, HO3.out, perm_put HP.out (by rw [← HLN.out]; exact hlt) HX.out m, HSO.out, (fun h => absurd h (by simp)), HB.out.trans (HB3.out.mono HB.out.size)⟩
                case measure => simp [intOf]; omega
    · have hkn : D.length = n := by omega
      have hP2 : D.Perm ss := by
        have := HP.out
        rwa [List.take_of_length_le (by rw [← HLN.out]; omega)] at this
      have hcat : cat_t D = (ordL (lists ss)).flatten := by rw [← flat_cat, sorted_one HS.out hP2]
      have hlen : (cat_t D).length ≤ 1099511627776 := by rw [hcat, ordL_flat_length, flat_cat]; exact HM.out
      have hd : decide ((D.length : Int) < (n : Int)) = false := by simp; omega
      obtain ⟨a2, c2, rfl, hL⟩ := HO.out.lies
      have HL := Lib.hid hL
      have HCAT := Lib.hid hcat
      have HLEN := Lib.hid hlen
      have hdn : decide (D.length < n) = false := decide_eq_false hlt
      clear hnil hkn hP2 hcat hlen hL
      go_wp2_with fail
      go_loopw [7, 44] (fun s i wx => ∃ (j : Nat) (S : ByteArray), j ≤ D.length ∧ i = .int .i64 j ∧ s = .string S ∧ S.data.toList = cat_t (D.take j) ∧ wx = wr) (fun _ i _ => D.length - (intOf i).toNat)
      case atStart => exact ⟨0, ⟨#[]⟩, Nat.zero_le _, rfl, rfl, rfl, rfl⟩
      case round =>
        obtain ⟨j, S, hj, rfl, rfl, hS, rfl⟩ := hrel
        have HSS := Lib.hid hS
        clear hS
        by_cases hjl : j < D.length
        · have hd2 : decide ((j : Int) < (D.length : Int)) = true := by simp; omega
          obtain ⟨b, o, ha, hc⟩ := HL.out.at j hjl
          have hcs := cat_take_succ D j hjl
          have hle := cat_take_le D (j + 1)
          generalize D.getD j ByteArray.empty = x at hc hcs
          subst ha
          have hsz : S.size + x.size ≤ 1099511627776 := by
            have h2 := HLEN.out
            rw [hcs, List.length_append, ← HSS.out] at hle
            have h3 : x.data.toList.length = x.size := rfl
            have h4 : S.data.toList.length = S.size := rfl
            omega
          have HCS := Lib.hid hcs
          clear hcs hle
          go_wp2_with fail
          go_roundw
          case rel =>
            refine ⟨j + 1, S ++ x, by omega, by go_num, rfl, ?_, trivial⟩
            rw [HCS.out, ← HSS.out]
            simp
          case measure => simp [intOf]; omega
        · have hd2 : decide ((j : Int) < (D.length : Int)) = false := by simp; omega
          have hSe : S = ⟨(ordL (lists ss)).flatten.toArray⟩ := by
            apply ext_list_t'
            rw [HSS.out, List.take_of_length_le (by omega), HCAT.out]
          have HSE := Lib.hid hSe
          clear hSe
          go_wp2_with fail
          go_ret
          exact ⟨by rw [← HSE.out]; rfl, HB.out⟩

theorem rorder_any (v : Value) (ss : List ByteArray) (w : World) (hv : Reads w v ss) (hn : ss.length ≤ 1000) (hm : (cat_t ss).length ≤ 1099511627776) :
    Calls Tryz.prog 105 #[v] w fun e w' => e = .returned (.string ⟨(ordL (lists ss)).flatten.toArray⟩) ∧ Below w.heap.size w w' := by
  obtain ⟨a, c, rfl, h⟩ := hv
  exact rorder_core a c ss w h hn hm
end Go.Proofs.YtbpdenfiifcfcaaGreatDoor
