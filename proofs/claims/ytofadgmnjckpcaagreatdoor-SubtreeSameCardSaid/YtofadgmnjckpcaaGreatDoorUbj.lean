/-
  The law's awake returns true: the example of the chapter.
  The walk of the law SubtreePermits: for every state, every constraint, every general name and every slice of ints it returns true, and leaves all that was there as it was.
-/
import Derived.Test.YtofadgmnjckpcaaGreatDoorUbc
import Derived.Test.YtofadgmnjckpcaaGreatDoorUbd
import Derived.Test.YtofadgmnjckpcaaGreatDoorUbi
import Derived.Test.YtofadgmnjckpcaaGreatDoorUay
import Derived.Test.YtofadgmnjckpcaaGreatDoorUao
import Derived.Test.YtofadgmnjckpcaaGreatDoorUal
import Derived.Lib.QuietBelow
import Derived.BigQuiet
namespace Go.Proofs.YtofadgmnjckpcaaGreatDoor
open Go.RowKit

def exT : List UInt8 := [101, 120, 97, 109, 112, 108, 101, 46, 111, 114, 103]
def wwT : List UInt8 := [119, 119, 119, 46, 101, 120, 97, 109, 112, 108, 101, 46, 111, 114, 103]
def maT : List UInt8 := [97, 64, 98]
def awL : List Sub := [([((2 : Int), exT, ([] : Nm))], []), ([((2 : Int), wwT, ([] : Nm))], [])]
set_option maxRecDepth 100000 in
theorem aw_we : dnsWithinB wwT exT = true ∧ dnsWithinB wwT wwT = true ∧ dnsWithinB exT wwT = false := by decide +kernel
theorem aw_one : perG awL (2, wwT, []) = true := by
  have h1 : wG (2, wwT, []) (2, exT, []) = true := (withinG_2 _ _ _ _).trans aw_we.1
  have h2 : wG (2, wwT, []) (2, wwT, []) = true := (withinG_2 _ _ _ _).trans aw_we.2.1
  simp [perG, awL, inG, limG, h1, h2]
theorem aw_two : perG awL (2, exT, []) = false := by
  have h2 : wG (2, exT, []) (2, wwT, []) = false := (withinG_2 _ _ _ _).trans aw_we.2.2
  simp [perG, awL, inG, limG, h2]
theorem aw_three : perG awL (1, maT, []) = true := by
  simp [perG, awL, inG, limG]
theorem sm_nil (k : Int) (t : List UInt8) (h : t.length ≤ 100000) : SmG (k, t, []) := ⟨h, Nat.zero_le _, fun _ hi => absurd hi (Nat.not_lt_zero _)⟩
theorem sm_one {g : Gn} (h : SmG g) : SmL [g] := fun x hx => by rw [List.mem_singleton.1 hx]; exact h
theorem sm_none : SmL [] := fun _ h => nomatch h
theorem awL_ok : OkS awL := OkS.snoc (L := [([((2 : Int), exT, ([] : Nm))], [])]) (OkS.snoc (L := []) OkS.nil (by decide) (sm_one (sm_nil _ _ (by decide))) sm_none (by decide) (by decide)) (by decide) (sm_one (sm_nil _ _ (by decide))) sm_none (by decide) (by decide)
theorem awL1_ok : OkS [([((2 : Int), exT, ([] : Nm))], [])] := OkS.snoc (L := []) OkS.nil (by decide) (sm_one (sm_nil _ _ (by decide))) sm_none (by decide) (by decide)
set_option maxRecDepth 100000 in
set_option maxHeartbeats 4000000 in
theorem awake_core (w : World) (hmk : Mk w) : Calls Tryz.prog 9 #[] w fun e w' => e = .returned (.bool true) ∧ Below w.heap.size w w' := by
  obtain ⟨Wa, hWa⟩ : ∃ Wa, Wa = w.alloc (.cells #[.int .i64 2, .string ⟨#[101, 120, 97, 109, 112, 108, 101, 46, 111, 114, 103]⟩, .slice none 0 0] 32) := ⟨_, rfl⟩
  have hwa := hWa.symm
  have hba : Below w.heap.size w Wa := by rw [hWa]; exact belowNew w _
  have hga := glies_one (w := Wa) (g := w.heap.size) (k := 2) (t := exT) (n := []) (a := none) (c := 0) (by rw [hWa]; exact heap_alloc_new w _) (Nat.le_refl _) (.inl rfl)
  have HA := Lib.hid (add_core none (some ⟨w.heap.size, 0, none⟩) none 0 0 1 0 1 0 [] [(2, exT, [])] [] Wa (.inl rfl) rfl OkS.nil (by decide) hga (.inl rfl) rfl rfl (by decide) (by decide) (sm_one (sm_nil _ _ (by decide))) sm_none)
  have HMK := Lib.hid hmk
  have HBA := Lib.hid hba
  clear hmk hba hga hWa
  go_enter Tryz.func9, Tryz.ntmps9
  go_upto_region 2 with (go_at_call 14; (with_reducible refine HA.out.mono ?_); rintro e w1 ⟨v, rfl, ho, hb⟩; obtain ⟨av, cv, hv, _, _⟩ := ho.lies; rw [show ([] ++ [([((2 : Int), exT, ([] : Nm))], ([] : List Gn))] : List Sub).length = 1 from rfl] at hv; subst hv; have HB1 := Lib.hid (below_next HBA.out hb); have HO1 := Lib.hid ho; clear hb ho)
  clear hwa
  obtain ⟨W2, hW2⟩ : ∃ W2, W2 = w1.alloc (.cells #[.slice av 1 cv] 24) := ⟨_, rfl⟩
  rw [← hW2]
  obtain ⟨g, hg⟩ : ∃ g, g = w1.heap.size := ⟨_, rfl⟩
  have hb2 : Below w1.heap.size w1 W2 := by rw [hW2]; exact belowNew w1 _
  have hq2 : W2.heap[g]? = some (.cells #[.slice av 1 cv] 24 (0, 0)) := by rw [hW2, hg]; exact heap_alloc_new w1 _
  rw [← hg]
  obtain ⟨c0, f0, lg2⟩ := one_facts hq2
  have HWG := Lib.hid (show w.heap.size ≤ g by rw [hg]; exact HB1.out.size)
  obtain ⟨Wb, hWb⟩ : ∃ Wb, Wb = W2.alloc (.cells #[.int .i64 2, .string ⟨#[119, 119, 119, 46, 101, 120, 97, 109, 112, 108, 101, 46, 111, 114, 103]⟩, .slice none 0 0] 32) := ⟨_, rfl⟩
  have hwb := hWb.symm
  have hbb : Below W2.heap.size W2 Wb := by rw [hWb]; exact belowNew W2 _
  have hgb := glies_one (w := Wb) (g := W2.heap.size) (k := 2) (t := wwT) (n := []) (a := none) (c := 0) (by rw [hWb]; exact heap_alloc_new W2 _) (Nat.le_refl _) (.inl rfl)
  have hsl : SLies Wb av [([((2 : Int), exT, ([] : Nm))], [])] := by
    obtain ⟨a', c', e, _, hl⟩ := ((HO1.out.below hb2).below hbb).lies
    rw [(slice_inj e).1]; exact hl
  have HA2 := Lib.hid (add_core av (some ⟨W2.heap.size, 0, none⟩) none cv 1 1 0 1 0 [([((2 : Int), exT, ([] : Nm))], [])] [(2, wwT, [])] [] Wb hsl rfl awL1_ok (by decide) hgb (.inl rfl) rfl rfl (by decide) (by decide) (sm_one (sm_nil _ _ (by decide))) sm_none)
  have HQ := Lib.hid ((hbb.block g lg2).trans hq2)
  have HBB := Lib.hid (below_next (below_next HB1.out hb2) hbb)
  have lgb : g < Wb.heap.size := Nat.lt_of_lt_of_le lg2 hbb.size
  clear hb2 hq2 hbb hgb hsl hWb hg hW2
  go_upto_region 3 with (go_at_call 14; (with_reducible refine HA2.out.mono ?_); rintro e w3 ⟨v, rfl, ho, hb⟩; obtain ⟨a3, c3, hv, _, _⟩ := ho.lies; rw [show ([([((2 : Int), exT, ([] : Nm))], ([] : List Gn))] ++ [([((2 : Int), wwT, ([] : Nm))], ([] : List Gn))] : List Sub).length = 2 from rfl] at hv; subst hv; have hq3 := (hb.block g lgb).trans HQ.out; obtain ⟨d0, d1, d2⟩ := one_facts hq3; have HQ3 := Lib.hid hq3; have HB3 := Lib.hid (below_next HBB.out hb); have HO3 := Lib.hid ho; clear hb ho hq3)
  clear hwb c0 f0
  obtain ⟨W4, hW4⟩ : ∃ W4, W4 = w3.setCell ⟨g, 0, none⟩ (.slice a3 2 c3) := ⟨_, rfl⟩
  rw [← hW4]
  have hq4 : W4.heap[g]? = some (.cells #[.slice a3 2 c3] 24 (0, 0)) := by rw [hW4]; exact one_set HQ3.out
  have HB4 := Lib.hid (show Below w.heap.size w W4 by rw [hW4]; exact below_set HB3.out HWG.out)
  have hs4 : SLies W4 a3 awL := by
    obtain ⟨a', c', e, _, hl⟩ := (HO3.out.apart (w' := W4) HQ3.out (by decide) (by decide) (by decide) (by decide) (by rw [hW4]; exact But.set _ _ _ _)).lies
    rw [(slice_inj e).1]; exact hl
  obtain ⟨c0, _, lg⟩ := one_facts hq4
  have HC0 := Lib.hid c0
  have HX := Lib.hid (Below.refl W4.heap.size W4)
  have HP1 := Lib.hid (fun W (hb : Below W4.heap.size W4 W) => permits_core a3 none c3 2 0 0 awL 2 wwT [] W (hs4.below hb) rfl (by decide) (.inl rfl) rfl (Nat.le_refl _) (sm_nil _ _ (by decide)) awL_ok.1 awL_ok.2.2 ((HMK.out.below HB4.out).below hb))
  have HP2 := Lib.hid (fun W (hb : Below W4.heap.size W4 W) => permits_core a3 none c3 2 0 0 awL 2 exT [] W (hs4.below hb) rfl (by decide) (.inl rfl) rfl (Nat.le_refl _) (sm_nil _ _ (by decide)) awL_ok.1 awL_ok.2.2 ((HMK.out.below HB4.out).below hb))
  have HP3 := Lib.hid (fun W (hb : Below W4.heap.size W4 W) => permits_core a3 none c3 2 0 0 awL 1 maT [] W (hs4.below hb) rfl (by decide) (.inl rfl) rfl (Nat.le_refl _) (sm_nil _ _ (by decide)) awL_ok.1 awL_ok.2.2 ((HMK.out.below HB4.out).below hb))
  rw [aw_one, show strOf wwT = ⟨#[119, 119, 119, 46, 101, 120, 97, 109, 112, 108, 101, 46, 111, 114, 103]⟩ from rfl] at HP1
  rw [aw_two, show strOf exT = ⟨#[101, 120, 97, 109, 112, 108, 101, 46, 111, 114, 103]⟩ from rfl] at HP2
  rw [aw_three, show strOf maT = ⟨#[97, 64, 98]⟩ from rfl] at HP3
  clear hq4 hs4 hW4 d0 d1 d2
  go_wp2_with (first
  | (go_at_call 17; (with_reducible refine (HP1.out _ HX.out).mono ?_); rintro e w5 ⟨rfl, hb9⟩; have HX := Lib.hid (below_next HX.out hb9); have c0 := (HX.out.cell (p := ⟨g, 0, none⟩) lg).trans HC0.out; clear hb9)
  | (go_at_call 17; (with_reducible refine (HP2.out _ HX.out).mono ?_); rintro e w6 ⟨rfl, hb9⟩; have HX := Lib.hid (below_next HX.out hb9); have c0 := (HX.out.cell (p := ⟨g, 0, none⟩) lg).trans HC0.out; clear hb9)
  | (go_at_call 17; (with_reducible refine (HP3.out _ HX.out).mono ?_); rintro e w7 ⟨rfl, hb9⟩; have HX := Lib.hid (below_next HX.out hb9); have c0 := (HX.out.cell (p := ⟨g, 0, none⟩) lg).trans HC0.out; clear hb9))
  go_ret
  exact ⟨rfl, below_next HB4.out HX.out⟩
end Go.Proofs.YtofadgmnjckpcaaGreatDoor
namespace Go.Proofs.YtofadgmnjckpcaaGreatDoor
open Go.RowKit

theorem step_append_none_s {P : Program} {ops : Array Oper} {o : Oper} {a : Act} {w : World} {K : Act → World → Prop} {Q : Exit → Act → World → Prop} {E : Prop} (hgd : o.guard = none) (s x : Operand) (t : TypeId)
    (ho : o.op = .call { callee := .builtin .append, args := #[s, x], argTypes := #[t, t] })
    (base : Nat) (e : TypeId) (i : TypeInfo) (size : Nat) (ht : P.underlying t = some (.slice e)) (hi : P.info? e = some i)
    (v : Value) (n : Nat) (xs : List Value) (hs : a.eval s = v) (hown : w.ownsRow base e size v n xs) (hx : a.eval x = .slice none 0 0)
    (h : K (a.put o.dst v) w) : if Region.wanted o (yielded ops a.tmps) = true then Oper.wp P o a w K Q else E := by
  have hw : Region.wanted o (yielded ops a.tmps) = true := by simp [Region.wanted, hgd]
  rw [if_pos hw]
  have hrun := run_append_owned_none (P := P) (w := w) base t o.type e i size ht hi v n xs hown
  unfold Oper.wp
  simp [execOp, ho, resolve, invoke, builtin, hs, hx, hrun, Result.andThen]
  exact h
theorem three_first (w : World) (o p r : Obj) (cs : Array Value) (T : TypeId) (h : o = .cells cs T) : (((w.alloc o).alloc p).alloc r).heap[w.heap.size]? = some (.cells cs T (0, 0)) := by
  rw [(belowNew ((w.alloc o).alloc p) r).block _ (by simp; omega), heap_first, h]; exact heap_alloc_new w _
theorem three_second (w : World) (o r : Obj) (cs : Array Value) (T : TypeId) : (((w.alloc o).alloc (.cells cs T)).alloc r).heap[w.heap.size + 1]? = some (.cells cs T (0, 0)) := by
  rw [(belowNew ((w.alloc o).alloc (.cells cs T)) r).block _ (by simp)]; exact heap_second w _ _ _
theorem three_third (w : World) (o p : Obj) (cs : Array Value) (T : TypeId) : (((w.alloc o).alloc p).alloc (.cells cs T)).heap[w.heap.size + 2]? = some (.cells cs T (0, 0)) := by
  have := heap_second (w.alloc o) p cs T
  simpa using this
end Go.Proofs.YtofadgmnjckpcaaGreatDoor
