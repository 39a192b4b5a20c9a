/-
  The contracts of the steps of a chain of the program, and of its checks of a key.
  The contract of the program's joinValues, over any function that answers for each chain with sixteen bytes.
  The contracts of the functions that Public, Sign and Recover of the program hand to joinValues.
  The contract of the function that Recover of the program hands to joinValues.
-/
import Derived.Test.YtphgpakfdhdklaaDoorAaj
import Derived.Deep.RegionLaw
import Derived.Shelf.Abstract
import Derived.Test.YtphgpakfdhdklaaDoorAah
namespace Go.Proofs.YtphgpakfdhdklaaDoor
open Go.RowKit

theorem pstep_any (id v : ByteArray) (leaf c p : Nat) (hi : id.size ≤ 1000) (hv : v.size ≤ 1000) (V : Value) (w : World) (hK : Holds w 0 kWords) (hV : Reads_z w V [⟨#[67]⟩, id, strOf (b4 leaf), strOf (b1 c), strOf (b1 p), v]) :
    Calls Tryd.prog 57 #[V] w fun e w' => e = .returned (.string (stepS id leaf c p v)) ∧ Below w.heap.size w w' := by
  rw [← stepS_eq]
  exact short_any V _ w hV (show (6 : Nat) < 4611686018427387904 by decide) hK (step_less hi hv leaf c p)

set_option maxRecDepth 100000 in
set_option maxHeartbeats 1000000 in
theorem pwalk_any (id v : ByteArray) (leaf c a b : Nat) (hi : id.size ≤ 1000) (hv : v.size ≤ 1000) (hc : c < 256) (hab : a ≤ b) (hb : b < 256) (w : World) (hK : Holds w 0 kWords) :
    Calls Tryd.prog 69 #[.agg #[.string id, .string (strOf (b4 leaf))], .int .i64 (c : Int), .int .i64 (a : Int), .int .i64 (b : Int), .string v] w fun e w' => e = .returned (.string (stepsF (stepS id leaf c) a (b - a) v)) ∧ Below w.heap.size w w' := by
  have HI := Lib.hid hi
  have HV := Lib.hid hv
  have HC := Lib.hid hc
  have HA := Lib.hid hab
  have HBB := Lib.hid hb
  obtain ⟨L4, hL4⟩ : ∃ L4, L4 = strOf (b4 leaf) := ⟨_, rfl⟩
  have HST : Hid (∀ (p : Nat) (u : ByteArray) (V : Value) (W : World), u.size ≤ 1000 → Holds W 0 kWords → Reads_z W V [⟨#[67]⟩, id, L4, strOf (b1 c), strOf (b1 p), u] → Calls Tryd.prog 57 #[V] W fun e w' => e = .returned (.string (stepS id leaf c p u)) ∧ Below W.heap.size W w') := Lib.hid fun p u V W hu hk h => by rw [hL4] at h; exact pstep_any id u leaf c p HI.out hu V W hk h
  obtain ⟨W1, hW1⟩ : ∃ W1, W1 = w.alloc (.cells #[.string id, .string L4] 98) := ⟨_, rfl⟩
  have HQ1 : Hid (W1.heap[w.heap.size]? = some (.cells #[.string id, .string L4] 98 (0, 0))) := Lib.hid (by rw [hW1]; exact heap_alloc_new w _)
  have HB1 : Hid (Below w.heap.size w W1) := Lib.hid (by rw [hW1]; exact belowNew w _)
  have HK1 : Hid (Holds W1 0 kWords) := Lib.hid (hK.old HB1.out)
  have hlt1 := (Array.getElem?_eq_some_iff.1 HQ1.out).1
  have HLT := Lib.hid hlt1
  have HW1 := Lib.hid hW1.symm
  rw [← hL4]
  clear hi hv hc hW1 hL4 hK hlt1
  go_enter Tryd.func69, Tryd.ntmps69
  go_wp2_with fail
  rw [HW1.out]
  go_loopw [4, 11] (fun t i wr => ∃ (k : Nat) (u : ByteArray), a + k ≤ b ∧ i = .int .i64 ((a + k : Nat) : Int) ∧ t = .string u ∧ u = stepsF (stepS id leaf c) a k v ∧ u.size ≤ 1000 ∧ Below W1.heap.size W1 wr) (fun _ i _ => b - (intOf i).toNat)
  case atStart => exact ⟨0, v, HA.out, rfl, rfl, rfl, HV.out, Below.refl _ _⟩
  case round =>
    obtain ⟨k, u, hk, rfl, rfl, hu, hus, hbw⟩ := hrel
    have HU := Lib.hid hu
    have HUS := Lib.hid hus
    have HW := Lib.hid hbw
    clear hu hus hbw
    obtain ⟨p, hp⟩ : ∃ p, p = a + k := ⟨_, rfl⟩
    rw [← hp] at hk ⊢
    have HP := Lib.hid hp
    clear hp
    by_cases hlt : p < b
    · have hd : decide ((p : Int) < (b : Int)) = true := by simp; omega
      have hp256 : p < 256 := by omega
      have HPL := Lib.hid hp256
      obtain ⟨u2, hu2⟩ : ∃ u2, u2 = stepS id leaf c p u := ⟨_, rfl⟩
      have HU2 := Lib.hid hu2
      have HST2 := Lib.hid (HST.out p u)
      rw [← hu2] at HST2
      clear hu2
      have hq := (HW.out.block w.heap.size HLT.out).trans HQ1.out
      obtain ⟨c0, c1, hlr⟩ := kcell hq
      have d0 : wr.drew.cell? ⟨w.heap.size, 0, none⟩ = some (.string id) := c0
      have d1 : wr.drew.cell? ⟨w.heap.size, 1, none⟩ = some (.string L4) := c1
      have HLR := Lib.hid hlr
      have HD := Lib.hid HW.out.drew
      clear hq c0 c1
      go_wp2_with fail
      go_region_law (first
        | (go_simp; go_at_call 81; (with_reducible refine (p1_any c HC.out _).mono ?_); rintro e w1 ⟨rfl, hb1⟩; have HB1 := Lib.hid (HD.out.next hb1); have e0 := (hb1.cell (p := ⟨w.heap.size, 0, none⟩) HLR.out).trans d0; have e1 := (hb1.cell (p := ⟨w.heap.size, 1, none⟩) HLR.out).trans d1; have HL1 := Lib.hid (Nat.lt_of_lt_of_le HLR.out hb1.size); clear hb1)
        | (go_simp; go_at_call 81; (with_reducible refine (p1_any p HPL.out _).mono ?_); rintro e w2 ⟨rfl, hb2⟩; have HB2 := Lib.hid (HB1.out.next hb2); have f0 := (hb2.cell (p := ⟨w.heap.size, 0, none⟩) HL1.out).trans e0; have f1 := (hb2.cell (p := ⟨w.heap.size, 1, none⟩) HL1.out).trans e1; clear hb2)
        | (go_simp; go_at_call 57; refine (HST2.out _ _ HUS.out (HK1.out.old (HB2.out.alloc HB2.out.size _)) (reads_row _ [⟨#[67]⟩, id, L4, strOf (b1 c), strOf (b1 p), u] 9)).mono ?_; rintro e w4 ⟨rfl, hb4⟩; have HB4 := Lib.hid ((HB2.out.alloc HB2.out.size _).next hb4); clear hb4))
      all_goals
        go_wp2_with fail
        go_roundw
        case rel =>
          refine ⟨k + 1, u2, by have := HP.out; omega, by have := HP.out; subst this; go_num, rfl, ?_, by rw [HU2.out, stepS_size]; omega, HB4.out⟩
          rw [steps_last, ← HU.out, ← HP.out]
          exact HU2.out
        case measure => simp [intOf]; omega
    · have hpb : p = b := by omega
      have hd : decide ((p : Int) < (b : Int)) = false := by simp; omega
      go_wp2_with fail
      go_ret
      have e : u = stepsF (stepS id leaf c) a (b - a) v := by rw [show b - a = k by have := HP.out; omega]; exact HU.out
      rw [← e]
      exact ⟨rfl, HB1.out.next HW.out⟩

/-- The first error of an id and a leaf. -/
def leafE (id : ByteArray) (leaf : Int) : Nat := if id.size = 16 then (if 0 ≤ leaf ∧ leaf < 256 then 0 else 1) else 18
set_option maxRecDepth 100000 in
set_option maxHeartbeats 1000000 in
theorem pchkl_any (id : ByteArray) (leaf : Int) (w : World) :
    Calls Tryd.prog 76 #[.string id, .int .i64 leaf] w fun e w' => e = .returned (.int .i64 ((leafE id leaf : Nat) : Int)) ∧ Below w.heap.size w w' := by
  obtain ⟨n, hn⟩ : ∃ n, n = id.size := ⟨_, rfl⟩
  have hni : (id.size : Int) = (n : Int) := by rw [hn]
  have HQ := Lib.hid (show leafE id leaf = if n = 16 then (if 0 ≤ leaf ∧ leaf < 256 then 0 else 1) else 18 by unfold leafE; rw [hn])
  clear hn
  rcases Nat.decEq n 16 with h1 | h1
  · have d1 : ((n : Int) == 16) = false := by simp; omega
    have HR := Lib.hid (show leafE id leaf = 18 by rw [HQ.out, if_neg h1])
    clear HQ
    go_enter Tryd.func76, Tryd.ntmps76
    go_wp2_with fail
    go_ret
    rw [HR.out]
    exact ⟨rfl, Below.refl _ _⟩
  · subst h1
    by_cases h3 : leaf < 0
    · have d3 : decide (leaf < 0) = true := by simp; omega
      have HR := Lib.hid (show leafE id leaf = 1 by rw [HQ.out, if_pos rfl, if_neg (by omega)])
      clear HQ
      go_enter Tryd.func76, Tryd.ntmps76
      go_wp2_with fail
      go_ret
      rw [HR.out]
      exact ⟨rfl, Below.refl _ _⟩
    · have d3 : decide (leaf < 0) = false := by simp; omega
      by_cases h4 : 256 ≤ leaf
      · have d4 : decide (256 ≤ leaf) = true := by simp; omega
        have HR := Lib.hid (show leafE id leaf = 1 by rw [HQ.out, if_pos rfl, if_neg (by omega)])
        clear HQ
        go_enter Tryd.func76, Tryd.ntmps76
        go_wp2_with fail
        go_ret
        rw [HR.out]
        exact ⟨rfl, Below.refl _ _⟩
      · have d4 : decide (256 ≤ leaf) = false := by simp; omega
        have HR := Lib.hid (show leafE id leaf = 0 by rw [HQ.out, if_pos rfl, if_pos (by omega)])
        clear HQ
        go_enter Tryd.func76, Tryd.ntmps76
        go_wp2_with fail
        go_ret
        rw [HR.out]
        exact ⟨rfl, Below.refl _ _⟩
theorem chkQ_of (id seed : ByteArray) (leaf : Int) : chkQ id seed leaf = if seed.size = 32 then leafE id leaf else 18 := by
  unfold chkQ leafE
  by_cases h1 : id.size = 16 <;> by_cases h2 : seed.size = 32 <;> simp [h1, h2]
set_option maxRecDepth 100000 in
set_option maxHeartbeats 1000000 in
theorem pchks_any (id seed : ByteArray) (leaf : Int) (w : World) :
    Calls Tryd.prog 64 #[.string id, .string seed, .int .i64 leaf] w fun e w' => e = .returned (.int .i64 ((chkQ id seed leaf : Nat) : Int)) ∧ Below w.heap.size w w' := by
  obtain ⟨n, hn⟩ : ∃ n, n = seed.size := ⟨_, rfl⟩
  have hni : (seed.size : Int) = (n : Int) := by rw [hn]
  have HQ := Lib.hid (show chkQ id seed leaf = if n = 32 then leafE id leaf else 18 by rw [chkQ_of, hn])
  clear hn
  rcases Nat.decEq n 32 with h1 | h1
  · have d1 : ((n : Int) == 32) = false := by simp; omega
    have HR := Lib.hid (show chkQ id seed leaf = 18 by rw [HQ.out, if_neg h1])
    clear HQ
    go_enter Tryd.func64, Tryd.ntmps64
    go_wp2_with fail
    go_ret
    rw [HR.out]
    exact ⟨rfl, Below.refl _ _⟩
  · subst h1
    have HR := Lib.hid (show chkQ id seed leaf = leafE id leaf by rw [HQ.out, if_pos rfl])
    have HC := Lib.hid (fun W => pchkl_any id leaf W)
    clear HQ
    go_enter Tryd.func64, Tryd.ntmps64
    go_wp2_with (go_at_call 76; (with_reducible refine (HC.out _).mono ?_); rintro e w1 ⟨rfl, hb1⟩; have HB1 := Lib.hid hb1; clear hb1)
    go_ret
    rw [HR.out]
    exact ⟨rfl, HB1.out⟩
end Go.Proofs.YtphgpakfdhdklaaDoor
namespace Go.Proofs.YtphgpakfdhdklaaDoor
open Go.RowKit

/-- copy(dst, s) from a string, as one step of a region that draws its order. -/
theorem step_copy_str {P : Program} {ops : Array Oper} {o : Oper} {a : Act} {w : World} {K : Act → World → Prop} {Q : Exit → Act → World → Prop} {E : Prop} (hgd : o.guard = none) (d s : Operand) (dT sT elem : TypeId)
    (ho : o.op = .call { callee := .builtin .copy, args := #[d, s], argTypes := #[dT, sT] }) (hu : P.underlying dT = some (.slice elem)) (hz : ∀ w, (sizeOf elem).run P w = .ok 1 w)
    (g off dLen dCap : Nat) (hd : a.eval d = .slice (some ⟨g, off, none⟩) dLen dCap) (b : ByteArray) (hs : a.eval s = .string b) (n : Nat) (hn : n = min b.size dLen)
    (t : TypeId) (cur : Array Value) (hg : w.heap[g]? = some (.cells cur t (0, 0))) (hfit : off + n ≤ cur.size)
    (h : K (a.put o.dst (.int .i64 (n : Int))) (w.setRow g (splice cur.toList off ((b.data.toList.take n).map bcell)))) : if Region.wanted o (yielded ops a.tmps) = true then Oper.wp P o a w K Q else E := by
  have hw : Region.wanted o (yielded ops a.tmps) = true := by simp [Region.wanted, hgd]
  rw [if_pos hw]
  have hlen : ((b.data.toList.take n).map bcell).length = n := by
    have : b.data.toList.length = b.size := rfl
    simp; omega
  have hst := run_storeCells_at (P := P) g off t ((b.data.toList.take n).map bcell) 0 cur w hg (by rw [hlen]; simpa using hfit) (bcells_one _)
  simp only [Nat.add_zero] at hst
  have hcells : ((b.extract 0 n).data.map fun b : UInt8 => Value.int .u8 b.toNat).toList = (b.data.toList.take n).map bcell := by
    simp; rfl
  have hrun : (Builtin.copy_ #[dT, sT] o.type #[.slice (some ⟨g, off, none⟩) dLen dCap, .string b]).run P w = .ok (.int .i64 (n : Int)) (w.setRow g (splice cur.toList off ((b.data.toList.take n).map bcell))) := by
    have e : Nat.min b.size dLen = n := hn.symm
    simp only [Builtin.copy_, Builtin.lenOf, Builtin.firstCells]
    simp only [List.getElem?_toArray, List.getElem?_cons_zero, List.getElem?_cons_succ]
    simp only [run_underlying hu, hz, Sem.run_bind, Sem.run_pure, Result.andThen_ok, e, hcells, hst]
    rfl
  unfold Oper.wp
  simp only [execOp, ho, resolve, invoke, builtin, Sem.run_bind, Sem.run_pure, Result.andThen_ok, List.map_toArray, List.map_cons, List.map_nil, hd, hs, hrun]
  exact h

/-- The function numbered f, with what it has captured, answers for each chain with sixteen bytes. -/
def GivesB (f : Nat) (lb : Array Value) (g : Nat → ByteArray) (Inv : World → Prop) : Prop :=
  ∀ (c : Nat) (W : World), c < 35 → Inv W → Calls Tryd.prog f (#[.int .i64 (c : Int)] ++ lb) W fun e w' => e = .returned (.string (g c)) ∧ Below W.heap.size W w'

/-- The bytes of the first k values, and nothing behind them yet. -/
def accL (g : Nat → ByteArray) (k : Nat) : List UInt8 := (rowB g k).data.toList ++ List.replicate (560 - k * 16) 0
def accV (g : Nat → ByteArray) (k : Nat) : Array Value := ((accL g k).map bcell).toArray
theorem accL_len {g : Nat → ByteArray} (hg : ∀ c, (g c).size = 16) {k : Nat} (hk : k ≤ 35) : (accL g k).length = 560 := by
  unfold accL
  have : (rowB g k).data.toList.length = (rowB g k).size := rfl
  rw [List.length_append, List.length_replicate, this, rowB_size hg]
  omega
theorem accV_size {g : Nat → ByteArray} (hg : ∀ c, (g c).size = 16) {k : Nat} (hk : k ≤ 35) : (accV g k).size = 560 := by
  unfold accV
  rw [List.size_toArray, List.length_map, accL_len hg hk]
theorem splice_app (A B : List UInt8) (o m n : Nat) (hA : A.length = o) (hB : B.length = m) : splice ((A ++ List.replicate (m + n) 0).map bcell) o (B.map bcell) = ((A ++ B ++ List.replicate n 0).map bcell).toArray := by
  subst hA hB
  unfold splice
  congr 1
  rw [List.map_append, List.map_append, List.map_append, List.take_append_of_le_length (by rw [List.length_map]; exact Nat.le_refl _), List.take_of_length_le (by rw [List.length_map]; exact Nat.le_refl _)]
  congr 1
  rw [show A.length + (B.map bcell).length = (A.map bcell).length + B.length by rw [List.length_map, List.length_map], List.drop_length_add_append, List.map_replicate, List.drop_replicate, List.map_replicate]
  congr 1
  omega
theorem acc_next {g : Nat → ByteArray} (hg : ∀ c, (g c).size = 16) {k : Nat} (hk : k < 35) : splice (accV g k).toList (k * 16) (((g k).data.toList.take 16).map bcell) = accV g (k + 1) := by
  have h1 : (rowB g k).data.toList.length = k * 16 := rowB_size hg k
  have h2 : (g k).data.toList.length = 16 := hg k
  have h3 : accL g (k + 1) = (rowB g k).data.toList ++ (g k).data.toList ++ List.replicate (560 - (k + 1) * 16) 0 := by
    unfold accL
    rw [show rowB g (k + 1) = rowB g k ++ g k from rfl, str_add]
  have h4 := splice_app _ _ _ _ (560 - (k + 1) * 16) h1 h2
  rw [show 16 + (560 - (k + 1) * 16) = 560 - k * 16 by omega] at h4
  rw [List.take_of_length_le (by omega)]
  unfold accV
  rw [h3]
  exact h4
theorem acc_last (g : Nat → ByteArray) : accL g 35 = (rowB g 35).data.toList := by
  unfold accL
  rw [show 560 - 35 * 16 = 0 by omega, List.replicate_zero, List.append_nil]
theorem zeroAll : ∀ w, (zeroValue 114).run Tryd.prog w = .ok (.agg ((List.replicate 560 (0 : UInt8)).map bcell).toArray) w := by intro w; kernel_rfl
theorem allText {w : World} {p : Nat} {g : Nat → ByteArray} (hg : ∀ c, (g c).size = 16) (h : w.heap[p]? = some (.cells (accV g 35) 114 (0, 0))) : (convert 36 9 (.slice (some ⟨p, 0, none⟩) 560 560)).run Tryd.prog w = .ok (.string (rowB g 35)) w := by
  have hl : (rowB g 35).data.toList.length = 560 := rowB_size hg 35
  have e := run_convert_bytes_back (P := Tryd.prog) w 36 9 5 ⟨p, 0, none⟩ 560 (rowB g 35).data.toList Tryd.underlying36 Tryd.underlying5 Tryd.underlying9 (fun j hj => by
    have hadd : (⟨p, 0, none⟩ : Addr).add j = ⟨p, j, none⟩ := by unfold Addr.add; split <;> simp_all
    rw [hadd, cell_of_row w p j _ _ _ h]
    unfold accV
    rw [acc_last, List.getElem?_toArray, List.getElem?_map, List.getElem?_eq_getElem hj]
    rfl)
  rw [hl] at e
  rw [e]

theorem accSet {w w2 : World} {p : Nat} {A : Array Value} {T : TypeId} (B : Array Value) (h : w2.heap[p]? = some (.cells A T (0, 0))) (hb : Below w.heap.size w w2) (hp : w.heap.size ≤ p) : (w2.setRow p B).heap[p]? = some (.cells B T (0, 0)) ∧ Below w.heap.size w (w2.setRow p B) :=
  ⟨setRow_heap w2 p A B T _ h, hb.grown (grown_setRow w2 p B) hb.size (fun j e => by obtain rfl := Option.some.inj e; exact hp)⟩

set_option maxRecDepth 100000 in
set_option maxHeartbeats 2000000 in
theorem pjoin_any (f : Nat) (lb : Array Value) (eg : ∀ args w, (callFunc f args).run Tryd.prog w = .ok (.enter f args) w) (g : Nat → ByteArray) (hg : ∀ c, (g c).size = 16) (Inv : World → Prop) (hI : ∀ W W', Inv W → Below W.heap.size W W' → Inv W') (hf : GivesB f lb g Inv) (w : World) (hi : Inv w) :
    Calls Tryd.prog 67 #[.func (.func f) #[] lb] w fun e w' => e = .returned (.string (rowB g 35)) ∧ Below w.heap.size w w' := by
  have HI := Lib.hid (fun W (hb : Below w.heap.size w W) => hI w W hi hb)
  have HF := Lib.hid hf
  have HG := Lib.hid hg
  clear hI hi hf hg
  obtain ⟨p, hp⟩ : ∃ p, p = w.heap.size := ⟨_, rfl⟩
  obtain ⟨Z0, hZ0⟩ : ∃ Z0, Z0 = accV g 0 := ⟨_, rfl⟩
  have hza : ∀ w, (zeroValue 114).run Tryd.prog w = .ok (.agg Z0) w := by rw [hZ0]; exact zeroAll
  obtain ⟨W1, hW1⟩ : ∃ W1, W1 = w.alloc (.cells Z0 114) := ⟨_, rfl⟩
  have HQ1 : Hid (W1.heap[p]? = some (.cells (accV g 0) 114 (0, 0))) := Lib.hid (by rw [hW1, hp, hZ0]; exact heap_alloc_new w _)
  have HB1 : Hid (Below w.heap.size w W1) := Lib.hid (by rw [hW1]; exact belowNew w _)
  have HP := Lib.hid hp
  have HW := Lib.hid hW1.symm
  clear hp hW1 hZ0
  go_enter Tryd.func67, Tryd.ntmps67
  go_wp2_with (refine wpList_alloc_row rfl 114 rfl Z0 hza ?_)
  rw [HW.out, ← HP.out]
  go_loopw [5] (fun i wr => ∃ k : Nat, k ≤ 35 ∧ i = .int .i64 (k : Int) ∧ wr.heap[p]? = some (.cells (accV g k) 114 (0, 0)) ∧ Below w.heap.size w wr) (fun i _ => 35 - (intOf i).toNat)
  case atStart => exact ⟨0, by decide, rfl, HQ1.out, HB1.out⟩
  case round =>
    obtain ⟨k, hk, rfl, hq, hb⟩ := hrel
    have HQ := Lib.hid hq
    have HB := Lib.hid hb
    have HLR := Lib.hid (Array.getElem?_eq_some_iff.1 hq).1
    clear hq hb
    by_cases hlt : k < 35
    · have hd : decide ((k : Int) < 35) = true := by simp; omega
      obtain ⟨o, ho⟩ : ∃ o, o = k * 16 := ⟨_, rfl⟩
      have hw1 : IntKind.i64.wrap ((k : Int) * 16) = (o : Int) := by rw [wrap_i64]; omega
      have hsl := fun wx => run_sliceAt_low (P := Tryd.prog) Tryd.underlying114 sizeByte p 0 o (by omega) wx
      have HC := Lib.hid (HF.out k wr.drew hlt (HI.out _ HB.out.drew))
      have HN := Lib.hid (acc_next HG.out hlt)
      rw [← ho] at HN
      have HZ := Lib.hid (accV_size HG.out (Nat.le_of_lt hlt))
      have HO := Lib.hid ho
      have hki : (k : Int) < 35 := by omega
      obtain ⟨B, hB⟩ : ∃ B, B = g k := ⟨_, rfl⟩
      have HBS := Lib.hid (show B.size = 16 by rw [hB]; exact HG.out k)
      rw [← hB] at HC HN
      clear ho hB
      rw [Nat.zero_add] at hsl
      go_wp2_with fail
      have HMN : Hid (16 = min B.size (560 - o)) := Lib.hid (by have := HBS.out; have := HO.out; omega)
      go_region_law (first
        | (go_simp; go_at_fn f; refine HC.out.mono ?_; rintro e w2 ⟨rfl, hb2⟩; have HQ2 : Hid (w2.heap[p]? = some (.cells (accV g k) 114 (0, 0))) := Lib.hid ((hb2.block p HLR.out).trans HQ.out); have HB2 := Lib.hid (HB.out.drew.next hb2); clear hb2)
        | (refine step_copy_str rfl (.tmp 10) (.tmp 13) 36 9 5 rfl Tryd.underlying36 sizeByte p o (560 - o) (560 - o) rfl B rfl 16 HMN.out 114 (accV g k) HQ2.out (by rw [HZ.out]; have := HO.out; omega) ?_; rw [HN.out]; have hs3 := accSet (accV g (k + 1)) HQ2.out HB2.out (by rw [HP.out]; exact Nat.le_refl _); obtain ⟨w3, hw3⟩ : ∃ w3, w3 = w2.setRow p (accV g (k + 1)) := ⟨_, rfl⟩; rw [← hw3] at hs3 ⊢; have HQ3 := Lib.hid hs3.1; have HB3 := Lib.hid hs3.2; clear hs3 hw3))
      all_goals
        go_simp
        go_wp2_with fail
        go_roundw
        case rel => exact ⟨k + 1, by omega, by go_num, HQ3.out, HB3.out⟩
        case measure => simp [intOf]; omega
    · have hk35 : k = 35 := by omega
      subst hk35
      have hd : decide ((35 : Int) < 35) = false := by decide
      have hsl := fun wx => run_sliceAt_whole (P := Tryd.prog) (n := 559) Tryd.underlying114 sizeByte p 0 wx
      have htx := allText HG.out HQ.out
      go_wp2_with fail
      go_ret
      exact ⟨rfl, HB.out⟩
end Go.Proofs.YtphgpakfdhdklaaDoor
namespace Go.Proofs.YtphgpakfdhdklaaDoor
open Go.RowKit

/-- The variables of a key, of a string and of a row of digits. -/
def KeyAt (W : World) (g : Nat) (id : ByteArray) (leaf : Nat) : Prop := W.heap[g]? = some (.cells #[.string id, .string (strOf (b4 leaf))] 98 (0, 0))
def StrAt (W : World) (g : Nat) (s : ByteArray) : Prop := W.heap[g]? = some (.cells #[.string s] 9 (0, 0))
def RowAt (W : World) (g : Nat) (D : List Nat) : Prop := ∃ b c, W.heap[g]? = some (.cells #[.slice (some ⟨b, 0, none⟩) 35 c] 22 (0, 0)) ∧ ILie W b D ∧ 35 ≤ c
theorem kept_heap {W W' : World} {g : Nat} {o : Obj} (h : W.heap[g]? = some o) (hb : Below W.heap.size W W') : W'.heap[g]? = some o := (hb.block g (Array.getElem?_eq_some_iff.1 h).1).trans h
theorem KeyAt.below {W W' : World} {g : Nat} {id : ByteArray} {leaf : Nat} (h : KeyAt W g id leaf) (hb : Below W.heap.size W W') : KeyAt W' g id leaf := kept_heap h hb
theorem StrAt.below {W W' : World} {g : Nat} {s : ByteArray} (h : StrAt W g s) (hb : Below W.heap.size W W') : StrAt W' g s := kept_heap h hb
theorem RowAt.below {W W' : World} {g : Nat} {D : List Nat} (h : RowAt W g D) (hb : Below W.heap.size W W') : RowAt W' g D := by
  obtain ⟨b, c, h1, h2, h3⟩ := h
  exact ⟨b, c, kept_heap h1 hb, h2.below hb, h3⟩
theorem scell {w : World} {g : Nat} {a : Value} {t : TypeId} (h : w.heap[g]? = some (.cells #[a] t (0, 0))) : w.cell? ⟨g, 0, none⟩ = some a := by rw [cell_of_row w g _ _ _ _ h]; rfl

def InvP (gk gs : Nat) (id seed : ByteArray) (leaf : Nat) (W : World) : Prop := KeyAt W gk id leaf ∧ StrAt W gs seed ∧ Holds W 0 kWords
theorem InvP.keep {gk gs : Nat} {id seed : ByteArray} {leaf : Nat} (W W' : World) (h : InvP gk gs id seed leaf W) (hb : Below W.heap.size W W') : InvP gk gs id seed leaf W' := ⟨h.1.below hb, h.2.1.below hb, h.2.2.old hb⟩

set_option maxRecDepth 100000 in
set_option maxHeartbeats 2000000 in
theorem cpub_any (gk gs : Nat) (id seed : ByteArray) (leaf : Nat) (hi : id.size ≤ 1000) (hs : seed.size ≤ 1000) :
    GivesB 85 #[.pointer (some ⟨gk, 0, none⟩), .pointer (some ⟨gs, 0, none⟩)] (fun c => valS id seed leaf c 15) (InvP gk gs id seed leaf) := by
  intro c w hc hI
  show Calls Tryd.prog 85 #[.int .i64 (c : Int), .pointer (some ⟨gk, 0, none⟩), .pointer (some ⟨gs, 0, none⟩)] w fun e w' => e = .returned (.string (valS id seed leaf c 15)) ∧ Below w.heap.size w w'
  obtain ⟨L4, hL4⟩ : ∃ L4, L4 = strOf (b4 leaf) := ⟨_, rfl⟩
  obtain ⟨sv, hsv⟩ : ∃ sv, sv = secS seed leaf c := ⟨_, rfl⟩
  obtain ⟨u, hu⟩ : ∃ u, u = valS id seed leaf c 15 := ⟨_, rfl⟩
  have HSC : Hid (∀ W : World, Holds W 0 kWords → Calls Tryd.prog 70 #[.agg #[.string id, .string L4], .string seed, .int .i64 (c : Int)] W fun e w' => e = .returned (.string sv) ∧ Below W.heap.size W w') := Lib.hid fun W hK => by
    rw [hsv, hL4]
    exact psec_any id seed leaf c hs (by omega) W hK
  have HWK : Hid (∀ W : World, Holds W 0 kWords → Calls Tryd.prog 69 #[.agg #[.string id, .string L4], .int .i64 (c : Int), .int .i64 0, .int .i64 15, .string sv] W fun e w' => e = .returned (.string u) ∧ Below W.heap.size W w') := Lib.hid fun W hK => by
    rw [hu, hsv, hL4]
    exact pwalk_any id (secS seed leaf c) leaf c 0 15 hi (by rw [secS_size]; omega) (by omega) (by omega) (by omega) W hK
  have hk : w.heap[gk]? = some (.cells #[.string id, .string L4] 98 (0, 0)) := by rw [hL4]; exact hI.1
  obtain ⟨k0, k1, hkl⟩ := kcell hk
  have s0 := scell hI.2.1
  have hsl := (Array.getElem?_eq_some_iff.1 hI.2.1).1
  have HK := Lib.hid hI.2.2
  have HKL := Lib.hid hkl
  have HSL := Lib.hid hsl
  rw [← hu]
  clear hk hI hkl hsl hu hsv hL4 hi hs hc
  go_enter Tryd.func85, Tryd.ntmps85
  go_wp2_with fail
  have d0 : w.drew.cell? ⟨gk, 0, none⟩ = some (.string id) := k0
  have d1 : w.drew.cell? ⟨gk, 1, none⟩ = some (.string L4) := k1
  have d2 : w.drew.cell? ⟨gs, 0, none⟩ = some (.string seed) := s0
  have HD := Lib.hid (Below.refl w.heap.size w).drew
  go_region_law (first
    | (go_simp; go_at_call 70; (with_reducible refine (HSC.out _ (HK.out.old HD.out)).mono ?_); rintro e w1 ⟨rfl, hb1⟩; have HB1 := Lib.hid (HD.out.next hb1); have e0 := (hb1.cell (p := ⟨gk, 0, none⟩) HKL.out).trans d0; have e1 := (hb1.cell (p := ⟨gk, 1, none⟩) HKL.out).trans d1; have e2 := (hb1.cell (p := ⟨gs, 0, none⟩) HSL.out).trans d2; clear hb1)
    | (go_simp; go_at_call 69; (with_reducible refine (HWK.out _ (HK.out.old HB1.out)).mono ?_); rintro e w2 ⟨rfl, hb2⟩; have HB2 := Lib.hid (HB1.out.next hb2); clear hb2))
  all_goals
    go_wp2_with fail
    go_ret
    exact ⟨rfl, HB2.out⟩

def InvS (gk gd gs : Nat) (id seed : ByteArray) (leaf : Nat) (D : List Nat) (W : World) : Prop := KeyAt W gk id leaf ∧ RowAt W gd D ∧ StrAt W gs seed ∧ Holds W 0 kWords
theorem InvS.keep {gk gd gs : Nat} {id seed : ByteArray} {leaf : Nat} {D : List Nat} (W W' : World) (h : InvS gk gd gs id seed leaf D W) (hb : Below W.heap.size W W') : InvS gk gd gs id seed leaf D W' := ⟨h.1.below hb, h.2.1.below hb, h.2.2.1.below hb, h.2.2.2.old hb⟩

set_option maxRecDepth 100000 in
set_option maxHeartbeats 2000000 in
theorem csgn_any (gk gd gs : Nat) (id seed : ByteArray) (leaf : Nat) (D : List Nat) (hDl : D.length = 35) (hDv : ∀ c, D.getD c 0 ≤ 15) (hi : id.size ≤ 1000) (hs : seed.size ≤ 1000) :
    GivesB 68 #[.pointer (some ⟨gk, 0, none⟩), .pointer (some ⟨gd, 0, none⟩), .pointer (some ⟨gs, 0, none⟩)] (fun c => valS id seed leaf c (D.getD c 0)) (InvS gk gd gs id seed leaf D) := by
  intro c w hc hI
  show Calls Tryd.prog 68 #[.int .i64 (c : Int), .pointer (some ⟨gk, 0, none⟩), .pointer (some ⟨gd, 0, none⟩), .pointer (some ⟨gs, 0, none⟩)] w fun e w' => e = .returned (.string (valS id seed leaf c (D.getD c 0))) ∧ Below w.heap.size w w'
  obtain ⟨L4, hL4⟩ : ∃ L4, L4 = strOf (b4 leaf) := ⟨_, rfl⟩
  obtain ⟨sv, hsv⟩ : ∃ sv, sv = secS seed leaf c := ⟨_, rfl⟩
  obtain ⟨x, hx⟩ : ∃ x, x = D.getD c 0 := ⟨_, rfl⟩
  have hx15 : x ≤ 15 := by rw [hx]; exact hDv c
  obtain ⟨b, cd, hrow, hil, hcd⟩ := hI.2.1
  have r0 := scell hrow
  have hcell := hil.cell c (by rw [hDl]; exact hc)
  rw [← hx] at hcell ⊢
  obtain ⟨u, hu⟩ : ∃ u, u = valS id seed leaf c x := ⟨_, rfl⟩
  have HSC : Hid (∀ W : World, Holds W 0 kWords → Calls Tryd.prog 70 #[.agg #[.string id, .string L4], .string seed, .int .i64 (c : Int)] W fun e w' => e = .returned (.string sv) ∧ Below W.heap.size W w') := Lib.hid fun W hK => by
    rw [hsv, hL4]
    exact psec_any id seed leaf c hs (by omega) W hK
  have HWK : Hid (∀ W : World, Holds W 0 kWords → Calls Tryd.prog 69 #[.agg #[.string id, .string L4], .int .i64 (c : Int), .int .i64 0, .int .i64 (x : Int), .string sv] W fun e w' => e = .returned (.string u) ∧ Below W.heap.size W w') := Lib.hid fun W hK => by
    rw [hu, hsv, hL4]
    exact pwalk_any id (secS seed leaf c) leaf c 0 x hi (by rw [secS_size]; omega) (by omega) (by omega) (by omega) W hK
  have hk : w.heap[gk]? = some (.cells #[.string id, .string L4] 98 (0, 0)) := by rw [hL4]; exact hI.1
  obtain ⟨k0, k1, hkl⟩ := kcell hk
  have s0 := scell hI.2.2.1
  have hsl := (Array.getElem?_eq_some_iff.1 hI.2.2.1).1
  have hrl := (Array.getElem?_eq_some_iff.1 hrow).1
  have HIL := Lib.hid hil.1
  have HK := Lib.hid hI.2.2.2
  have HKL := Lib.hid hkl
  have HSL := Lib.hid hsl
  have HRL := Lib.hid hrl
  rw [← hu]
  have hci : (c : Int) < 35 := by omega
  clear hk hI hkl hsl hrl hrow hil hu hsv hL4 hi hs hDl hDv hx
  go_enter Tryd.func68, Tryd.ntmps68
  go_wp2_with fail
  have d0 : w.drew.cell? ⟨gk, 0, none⟩ = some (.string id) := k0
  have d1 : w.drew.cell? ⟨gk, 1, none⟩ = some (.string L4) := k1
  have d2 : w.drew.cell? ⟨gs, 0, none⟩ = some (.string seed) := s0
  have d3 : w.drew.cell? ⟨gd, 0, none⟩ = some (.slice (some ⟨b, 0, none⟩) 35 cd) := r0
  have d4 : w.drew.cell? ⟨b, c, none⟩ = some (.int .i64 ((x : Nat) : Int)) := hcell
  have HD := Lib.hid (Below.refl w.heap.size w).drew
  go_region_law (first
    | (go_simp; go_at_call 70; (with_reducible refine (HSC.out _ (HK.out.old HD.out)).mono ?_); rintro e w1 ⟨rfl, hb1⟩; have HB1 := Lib.hid (HD.out.next hb1); have e0 := (hb1.cell (p := ⟨gk, 0, none⟩) HKL.out).trans d0; have e1 := (hb1.cell (p := ⟨gk, 1, none⟩) HKL.out).trans d1; have e2 := (hb1.cell (p := ⟨gs, 0, none⟩) HSL.out).trans d2; have e3 := (hb1.cell (p := ⟨gd, 0, none⟩) HRL.out).trans d3; have e4 := (hb1.cell (p := ⟨b, c, none⟩) HIL.out).trans d4; clear hb1)
    | (go_simp; go_at_call 69; (with_reducible refine (HWK.out _ (HK.out.old HB1.out)).mono ?_); rintro e w2 ⟨rfl, hb2⟩; have HB2 := Lib.hid (HB1.out.next hb2); clear hb2))
  all_goals
    go_wp2_with fail
    go_ret
    exact ⟨rfl, HB2.out⟩
end Go.Proofs.YtphgpakfdhdklaaDoor
namespace Go.Proofs.YtphgpakfdhdklaaDoor
open Go.RowKit

def InvR (gs gk gd : Nat) (id s : ByteArray) (leaf : Nat) (D : List Nat) (W : World) : Prop := StrAt W gs s ∧ KeyAt W gk id leaf ∧ RowAt W gd D ∧ Holds W 0 kWords
theorem InvR.keep {gs gk gd : Nat} {id s : ByteArray} {leaf : Nat} {D : List Nat} (W W' : World) (h : InvR gs gk gd id s leaf D W) (hb : Below W.heap.size W W') : InvR gs gk gd id s leaf D W' := ⟨h.1.below hb, h.2.1.below hb, h.2.2.1.below hb, h.2.2.2.old hb⟩
theorem extract_twice (s : ByteArray) (n o : Nat) (h : o + 16 ≤ n) : (s.extract o n).extract 0 16 = s.extract o (o + 16) := by
  apply ByteArray.ext
  simp only [ByteArray.data_extract, Array.extract_extract, Nat.add_zero]
  rw [Nat.min_eq_left h]

set_option maxRecDepth 100000 in
set_option maxHeartbeats 2000000 in
theorem crec_any (gs gk gd : Nat) (id s : ByteArray) (leaf : Nat) (D : List Nat) (hDl : D.length = 35) (hDv : ∀ c, D.getD c 0 ≤ 15) (hi : id.size ≤ 1000) (hs : s.size = 560) :
    ∀ (c : Nat) (w : World), c < 35 → InvR gs gk gd id s leaf D w → Calls Tryd.prog 77 #[.int .i64 (c : Int), .pointer (some ⟨gs, 0, none⟩), .pointer (some ⟨gk, 0, none⟩), .pointer (some ⟨gd, 0, none⟩)] w fun e w' => e = .returned (.string (endS' id leaf D s c)) ∧ Below w.heap.size w w' := by
  intro c w hc hI
  obtain ⟨L4, hL4⟩ : ∃ L4, L4 = strOf (b4 leaf) := ⟨_, rfl⟩
  obtain ⟨x, hx⟩ : ∃ x, x = D.getD c 0 := ⟨_, rfl⟩
  have hx15 : x ≤ 15 := by rw [hx]; exact hDv c
  obtain ⟨q, hq⟩ : ∃ q, q = partQ s c := ⟨_, rfl⟩
  have hqsz : q.size = 16 := by rw [hq]; exact partQ_size hs hc
  obtain ⟨o, ho⟩ : ∃ o, o = c * 16 := ⟨_, rfl⟩
  obtain ⟨m, hm⟩ : ∃ m, m = 560 - o := ⟨_, rfl⟩
  obtain ⟨z, hz⟩ : ∃ z, z = s.extract o s.size := ⟨_, rfl⟩
  have hzs : (z.size : Int) = (m : Int) := by rw [hz, ByteArray.size_extract, hs, hm]; simp
  have hzq : z.extract 0 16 = q := by
    rw [hz, hs, extract_twice s 560 o (by omega), hq, ho]
    unfold partQ
    rw [show c * 16 + 16 = (c + 1) * 16 by omega]
  obtain ⟨b, cd, hrow, hil, hcd⟩ := hI.2.2.1
  have r0 := scell hrow
  have hcell := hil.cell c (by rw [hDl]; exact hc)
  obtain ⟨u, hu⟩ : ∃ u, u = endS' id leaf D s c := ⟨_, rfl⟩
  have hue : u = stepsF (stepS id leaf c) x (15 - x) q := by rw [hu, hx, hq]; rfl
  rw [← hx] at hcell
  rw [← hu]
  have HWK : Hid (∀ W : World, Holds W 0 kWords → Calls Tryd.prog 69 #[.agg #[.string id, .string L4], .int .i64 (c : Int), .int .i64 (x : Int), .int .i64 15, .string q] W fun e w' => e = .returned (.string u) ∧ Below W.heap.size W w') := Lib.hid fun W hK => by
    rw [hue, hL4]
    exact pwalk_any id q leaf c x 15 hi (by rw [hqsz]; omega) (by omega) (by omega) (by omega) W hK
  have hk : w.heap[gk]? = some (.cells #[.string id, .string L4] 98 (0, 0)) := by rw [hL4]; exact hI.2.1
  obtain ⟨k0, k1, hkl⟩ := kcell hk
  have s0 := scell hI.1
  have hrl := (Array.getElem?_eq_some_iff.1 hrow).1
  have HIL := Lib.hid hil.1
  have HK := Lib.hid hI.2.2.2
  have HKL := Lib.hid hkl
  have HRL := Lib.hid hrl
  have hci : (c : Int) < 35 := by omega
  have hw1 : IntKind.i64.wrap ((c : Int) * 16) = (o : Int) := by rw [wrap_i64]; omega
  have hub : (o : Int) ≤ 560 := by omega
  have hsi : (s.size : Int) = 560 := by rw [hs]; rfl
  have hlz : (16 : Int) ≤ (m : Int) := by omega
  have hex : s.extract o s.size = z := hz.symm
  clear hk hI hkl hrl hrow hil hu hue hL4 hi hDl hDv hx hq hz ho hm
  have HS := Lib.hid hs
  clear hs
  go_enter Tryd.func77, Tryd.ntmps77
  go_wp2_with fail
  have d0 : w.drew.cell? ⟨gk, 0, none⟩ = some (.string id) := k0
  have d1 : w.drew.cell? ⟨gk, 1, none⟩ = some (.string L4) := k1
  have d3 : w.drew.cell? ⟨gd, 0, none⟩ = some (.slice (some ⟨b, 0, none⟩) 35 cd) := r0
  have d4 : w.drew.cell? ⟨b, c, none⟩ = some (.int .i64 ((x : Nat) : Int)) := hcell
  have HD := Lib.hid (Below.refl w.heap.size w).drew
  clear hex hzq hzs hlz hub hw1 hsi s0 hqsz hx15 hcd
  go_region_law (first
    | (go_simp; go_at_call 69; (with_reducible refine (HWK.out _ (HK.out.old HD.out)).mono ?_); rintro e w2 ⟨rfl, hb2⟩; have HB2 := Lib.hid (HD.out.next hb2); clear hb2))
  all_goals
    go_wp2_with fail
    go_ret
    exact ⟨rfl, HB2.out⟩
end Go.Proofs.YtphgpakfdhdklaaDoor
