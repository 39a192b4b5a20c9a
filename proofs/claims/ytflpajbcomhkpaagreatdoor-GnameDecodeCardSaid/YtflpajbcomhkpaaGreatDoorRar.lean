/-
  The contract of the reference's EncodeOID: the contents of the object identifier that the text is, if it is one.
  The contracts of slices.Clone, slices.Sort, strings.Join and strings.Compare at strings: the library's theorems, laid at the program's own numbers. Nothing is claimed of the program beyond its bodies.
  The contract of tlv.Order: the strings in ascending order, one after the other; nothing that was there before the call has changed.
  The contracts of tlv.Ascending and of the reference's Ascending: whether no element's Raw is less than the one before it.
-/
import Derived.Test.YtflpajbcomhkpaaGreatDoorRap
import Derived.Test.YtflpajbcomhkpaaGreatDoorRaa
import Derived.Shelf.Strings.Builder1
import Derived.Shelf.Strings.Builder2
import Derived.Shelf.Strings.OnBuilder
import Derived.Shelf.Small.Strs
import Derived.Shelf.Sort.Plain
import Derived.Ground.Names2Prog
import Derived.Shelf.Slices.Clone
import Derived.Shelf.Slices.In.SortNone
import Derived.Sort.OwnSorted
import Derived.Test.YtflpajbcomhkpaaGreatDoorChecked
import Derived.Test.YtflpajbcomhkpaaGreatDoorRam
import Derived.Lib.Join
import Derived.Test.YtflpajbcomhkpaaGreatDoorRaq
namespace Go.Proofs.YtflpajbcomhkpaaGreatDoor
open Go.RowKit

set_option maxRecDepth 100000 in
set_option maxHeartbeats 1000000 in
theorem renc_no {s : ByteArray} (h : ∀ a, ¬ Oid s.data.toList a) (w : World) (hs : s.size ≤ 1099511627) :
    Calls Tryz.prog 157 #[.string s] w fun e w' => e = .returned noVal ∧ Below w.heap.size w w' := by
  have HH := Lib.hid h
  clear h
  go_enter Tryz.func157, Tryz.ntmps157
  go_wp2_with (go_at_call 140; (with_reducible refine (rarcs_no HH.out _ hs).mono ?_); rintro e w1 ⟨rfl, hb1⟩; have HB1 := Lib.hid hb1; clear hb1)
  go_ret2
  exact ⟨rfl, HB1.out⟩

theorem int_new (w : World) (m : Nat) : (w.alloc (.cells #[.int .i64 (m : Int)] 3)).ownsRow w.heap.size 3 1 (.slice (some ⟨w.heap.size, 0, none⟩) 1 1) 1 [icell m] :=
  ⟨rfl, .inr ⟨w.heap.size, 1, _, rfl, Nat.le_refl _, heap_alloc_new w _, Nat.le_refl _, by decide, rfl, rfl⟩⟩
theorem news_tail {w w' : World} {g x y : Nat} {r : List Nat} (h : ILie w g (x :: y :: r)) (hb : Below w.heap.size w w') (o : Nat) (ho : r.length ≠ 0 → o = 2) :
    ∀ j u, (r.map icell)[j]? = some u → w'.cell? ((⟨g, o, none⟩ : Addr).add j) = some u := fun j u hu => by
  have hj : j < r.length := by
    have := (List.getElem?_eq_some_iff.1 hu).1
    simpa using this
  have hadd : (⟨g, o, none⟩ : Addr).add j = ⟨g, o + j, none⟩ := by unfold Addr.add; split <;> simp_all
  have e := h.tail j hj
  rw [hadd, ho (by omega), ← hu, List.getElem?_map, hb.cell (p := ⟨g, 2 + j, none⟩) h.1, e, List.getD_eq_getElem?_getD, List.getElem?_eq_getElem hj]
  rfl
theorem nums_row {w1 w2 : World} {v2 : Value} {m : Nat} {r : List Nat} {n : Nat} (hn : n = r.length + 1) (h : w2.ownsRow w1.heap.size 3 1 v2 n ([icell m] ++ r.map icell)) : OwnI w2 w1.heap.size v2 (m :: r) := by
  subst hn
  unfold OwnI
  rw [List.length_cons, List.map_cons]; exact h

/-- 128 added to all digits but the last one. -/
def mark : List UInt8 → List UInt8
  | [] => []
  | [x] => [x]
  | x :: y :: r => UInt8.ofNat (128 + x.toNat) :: mark (y :: r)
def marked (E : List UInt8) (i : Nat) : List UInt8 := (E.take i).map (fun x => UInt8.ofNat (128 + x.toNat)) ++ E.drop i
theorem marked_zero (E : List UInt8) : marked E 0 = E := by simp [marked]
theorem marked_len (E : List UInt8) (i : Nat) : (marked E i).length = E.length := by simp [marked]; omega
theorem marked_get (E : List UInt8) (i : Nat) (h : i < E.length) : (marked E i).getD i 0 = E.getD i 0 := by
  unfold marked
  rw [List.getD_eq_getElem?_getD, List.getElem?_append_right (by simp; omega)]
  simp [Nat.min_eq_left (Nat.le_of_lt h)]
theorem marked_set (E : List UInt8) (i : Nat) (h : i < E.length) (y : UInt8) (hy : y = UInt8.ofNat (128 + (E.getD i 0).toNat)) : (marked E i).set i y = marked E (i + 1) := by
  unfold marked
  have e1 : E.drop i = E.getD i 0 :: E.drop (i + 1) := by
    rw [List.drop_eq_getElem_cons h, List.getD_eq_getElem?_getD, List.getElem?_eq_getElem h]; rfl
  have e2 : E.take (i + 1) = E.take i ++ [E.getD i 0] := by
    rw [List.take_add_one, List.getElem?_eq_getElem h, List.getD_eq_getElem?_getD, List.getElem?_eq_getElem h]; rfl
  rw [e1, e2, List.set_append_right _ _ (by simp; omega)]
  simp [Nat.min_eq_left (Nat.le_of_lt h), hy]
theorem mark_len : ∀ E : List UInt8, (mark E).length = E.length
  | [] => rfl
  | [x] => rfl
  | x :: y :: r => by rw [mark, List.length_cons, mark_len (y :: r)]; rfl
theorem mark_marked : ∀ E : List UInt8, E ≠ [] → mark E = marked E (E.length - 1)
  | [], h => absurd rfl h
  | [x], _ => rfl
  | x :: y :: r, _ => by
    rw [mark, mark_marked (y :: r) (by simp)]
    simp [marked]
theorem mark_cons (x : UInt8) (E : List UInt8) (h : E ≠ []) : mark (x :: E) = UInt8.ofNat (128 + x.toNat) :: mark E := by
  cases E with
  | nil => exact absurd rfl h
  | cons y r => rfl
theorem byte_new (w : World) (y : UInt8) : OwnB 5 (w.alloc (.cells #[.int .u8 ((y.toNat : Nat) : Int)] 5)) w.heap.size (.slice (some ⟨w.heap.size, 0, none⟩) 1 1) [y] :=
  ⟨rfl, .inr ⟨w.heap.size, 1, _, rfl, Nat.le_refl _, heap_alloc_new w _, Nat.le_refl _, by decide, rfl, rfl⟩⟩
theorem OwnB.open {w : World} {B : Nat} {v : Value} {l : List UInt8} (h : OwnB 5 w B v l) (hl : l ≠ []) : ∃ g cap, v = .slice (some ⟨g, 0, none⟩) l.length cap ∧ B ≤ g ∧ g < w.heap.size ∧ l.length ≤ cap := by
  rcases h.2 with ⟨rfl, h0⟩ | ⟨g, cap, cur, rfl, hB, hg, hn, _, _, _⟩
  · exact absurd (List.eq_nil_of_length_eq_zero h0) hl
  · exact ⟨g, cap, rfl, hB, (Array.getElem?_eq_some_iff.1 hg).1, hn⟩
theorem OwnB.news {w w' : World} {B g n cap : Nat} {l : List UInt8} (h : OwnB 5 w B (.slice (some ⟨g, 0, none⟩) n cap) l) (hb : Below w.heap.size w w') : ∀ j u, (l.map bcell)[j]? = some u → w'.cell? ((⟨g, 0, none⟩ : Addr).add j) = some u := fun j u hu => by
  rw [← World.ownsRow.cells h rfl j u hu]
  exact hb.cell (p := (⟨g, 0, none⟩ : Addr).add j) (by
    have : ((⟨g, 0, none⟩ : Addr).add j).block = g := by unfold Addr.add; split <;> rfl
    rw [this]; exact (World.ownsRow.lt h g rfl).2)

set_option maxRecDepth 100000 in
set_option maxHeartbeats 2000000 in
theorem renc_yes {s : ByteArray} {a : List Nat} (h : Oid s.data.toList a) (w : World) (hs : s.size ≤ 1099511627) :
    Calls Tryz.prog 157 #[.string s] w fun e w' => e = .returned (encVal a) ∧ Below w.heap.size w w' := by
  obtain ⟨i0, hi, hz0, hz1, hz2⟩ := info_parts intInfo
  have HH := Lib.hid h
  have hg := h.1
  obtain ⟨x, y, r, rfl⟩ : ∃ x y r, a = x :: y :: r := by
    match a, hg.1 with
    | x :: y :: r, _ => exact ⟨x, y, r, rfl⟩
  have hx : x ≤ 2 := by simpa using hg.2.2.2.1
  have hy : y ≤ 2147483647 := hg.2.2.1 y (by simp)
  have HR := Lib.hid (fun v (hv : v ∈ r) => hg.2.2.1 v (by simp [hv]))
  have hrl : r.length ≤ 10 := by have := hg.2.1; simp at this; omega
  obtain ⟨m, hm⟩ : ∃ m, m = 40 * x + y := ⟨_, rfl⟩
  have hwr : IntKind.i64.wrap (40 * (x : Int) + (y : Int)) = (m : Int) := by rw [wrap_i64]; omega
  have hwr2 : IntKind.i64.wrap (40 * (x : Int)) = 40 * (x : Int) := by rw [wrap_i64]; omega
  have hmb : m < 34359738368 := by omega
  have HM := Lib.hid hm
  have HNN := Lib.hid (show ∀ v ∈ m :: r, v < 34359738368 from fun v hv => by
      rcases List.mem_cons.1 hv with rfl | hv
      · exact hmb
      · exact Nat.lt_of_le_of_lt (HR.out v hv) (by decide))
  have hNl : (m :: r).length ≤ 11 := by simp; omega
  have hNe : m :: r ≠ [] := by simp
  have HEN := Lib.hid (show enc (x :: y :: r) = cat e128 (m :: r) by rw [HM.out]; rfl)
  obtain ⟨N, hN⟩ : ∃ N, N = m :: r := ⟨_, rfl⟩
  rw [← hN] at HNN hNl hNe HEN
  have HNE := Lib.hid hNe
  have HN0 := Lib.hid hN
  clear h hg hm hN hNe
  go_enter Tryz.func157, Tryz.ntmps157
  go_upto_region 4 with (go_at_call 140; (with_reducible refine (rarcs_yes HH.out _ hs).mono ?_); rintro e w1 ⟨⟨g, cap, rfl, hl, hg, hcp⟩, hb1⟩; have HB1 := Lib.hid hb1; have HL1 := Lib.hid hl; have hc0 := hl.cell 0 (by simp); have hc1 := hl.cell 1 (by simp); clear hb1 hl hg)
  simp only [List.length_cons] at hcp
  simp only [List.getD_cons_zero, List.getD_cons_succ] at hc0 hc1
  by_cases hr0 : r.length = 0
  all_goals by_cases hc2 : cap = 2
  all_goals first
  | (exfalso; omega)
  | (obtain rfl := List.eq_nil_of_length_eq_zero hr0
     have HO2 := Lib.hid (show OwnI _ w1.heap.size _ N by rw [HN0.out]; exact nums_row (w1 := w1) (m := m) (r := []) rfl ((int_new w1 m).drew))
     have HB2 := Lib.hid ((belowNew w1 (.cells #[.int .i64 (m : Int)] 3)).drew)
     try subst hc2
     simp only [List.length_nil, Nat.zero_add, Nat.reduceAdd] at hcp ⊢
     go_region
     generalize Value.slice (some ⟨w1.heap.size, 0, none⟩) 1 1 = v2 at HO2 ⊢
     generalize (w1.alloc (Obj.cells #[Value.int IntKind.i64 (m : Int)] 3)).drew = w2 at HO2 HB2 ⊢)
  | (have hc3 : ¬ (2 = cap) := by omega
     have p0 : 0 < (r.length : Int) + 1 + 1 := by omega
     have p1 : 1 < (r.length : Int) + 1 + 1 := by omega
     have p2 : 2 ≤ (r.length : Int) + 1 + 1 := by omega
     have p3 : (r.length : Int) + 1 + 1 ≤ (cap : Int) := by omega
     go_region_law (refine step_append_own rfl (.tmp 26) (.tmp 28) 24 rfl w1.heap.size 3 i0 (.int .i64 0) 8 Tryz.underlying24 hi hz0 hz1 hz2 rfl _ 1 [icell m] (by simp [Act.eval]) ((int_new w1 m).drew) ⟨g, 2, none⟩ r.length (cap - 2) (r.map icell) (by simp [Act.eval]) (by simp) (news_tail HL1.out ((belowNew w1 _).drew) 2 (fun _ => rfl)) (icells_one r) (by unfold maxLen; omega) (by omega) (by simp) ?_; intro v2 w2 ho2 hg2 _; have HO2 := Lib.hid (show OwnI w2 w1.heap.size v2 N by rw [HN0.out]; exact nums_row (by omega) ho2); have HB2 := Lib.hid (((belowNew w1 (.cells #[.int .i64 (m : Int)] 3)).drew).grown hg2 (by simp) (fun k e => by cases e; exact Nat.le_refl _)); clear ho2 hg2))
  all_goals
    clear hwr hwr2 hc0 hc1
    obtain ⟨q, c2, rfl, hq, hli, hcq⟩ := HO2.out.open HNE.out
    have HLI := Lib.hid hli
    clear hq hli hcq
    obtain ⟨ib, hib, hbz0, hbz1, hbz2⟩ := info_parts byteInfo
    go_wp2_with fail
    go_loopw [6, 32] (fun u i wr => ∃ (k : Nat) (D : List UInt8), k ≤ N.length ∧ i = .int .i64 (k : Int) ∧ D = cat e128 (N.take k) ∧ OwnB 5 wr w2.heap.size u D ∧ Below w2.heap.size w2 wr) (fun _ i _ => N.length - (intOf i).toNat)
    case atStart => exact ⟨0, [], by omega, rfl, by simp [cat], own_nil _ _ _, Below.refl _ _⟩
    case round =>
      obtain ⟨k, D, hk, rfl, hD, ho, hb⟩ := hrel
      have HO := Lib.hid ho
      have HB := Lib.hid hb
      have HD := Lib.hid hD
      have hDl : D.length ≤ 60 := by
        rw [hD]
        exact Nat.le_trans (e128_len5 (fun v hv => HNN.out v (List.mem_of_mem_take hv))) (by simp; omega)
      have hszb := hb.size
      clear ho hb hD
      by_cases hlt : k < N.length
      · have hd : decide ((k : Int) < (N.length : Int)) = true := by simp; omega
        have hcx := (HLI.out.below HB.out).cell k hlt
        have hzm : N.getD k 0 < 34359738368 := by
          rw [List.getD_eq_getElem?_getD, List.getElem?_eq_getElem hlt]
          exact HNN.out _ (List.getElem_mem _)
        have HN := Lib.hid (show N.take (k + 1) = N.take k ++ [N.getD k 0] by
          rw [List.take_add_one, List.getElem?_eq_getElem hlt, List.getD_eq_getElem?_getD, List.getElem?_eq_getElem hlt]; rfl)
        generalize N.getD k 0 = z at hcx hzm HN
        go_wp2_with fail
        clear hcx hd
        obtain ⟨wo, rfl⟩ : ∃ wo, wo = wr := ⟨wr, rfl⟩
        go_loopw [8, 9] (fun u v wx => ∃ (n : Nat) (E : List UInt8), u = .int .i64 (n : Int) ∧ n < 34359738368 ∧ OwnB 5 wx wo.heap.size v E ∧ Below wo.heap.size wo wx ∧ (E = [] ∧ n = z ∧ v = .slice none 0 0 ∨ E ≠ [] ∧ n ≠ 0 ∧ e128 z = hd7 n ++ mark E)) (fun u _ _ => (intOf u).toNat)
        case atStart => exact ⟨z, [], rfl, hzm, own_nil _ _ _, Below.refl _ _, .inl ⟨rfl, rfl, rfl⟩⟩
        case round =>
          obtain ⟨n, E, rfl, hn, ho2, hb2, hE⟩ := hrel
          have HOE := Lib.hid ho2
          have HBE := Lib.hid hb2
          have hEl : E.length ≤ 5 := by
            rcases hE with ⟨rfl, _⟩ | ⟨_, _, e⟩
            · simp
            · have h1 := e128_len z hzm
              rw [e, List.length_append, mark_len] at h1
              omega
          have hszx := hb2.size
          clear ho2 hb2
          obtain ⟨y0, hy0⟩ : ∃ y0 : UInt8, y0 = UInt8.ofNat (n % 128) := ⟨_, rfl⟩
          have hy0n : y0.toNat = n % 128 := by rw [hy0]; simp; omega
          have hyi : (n : Int) % 128 = ((y0.toNat : Nat) : Int) := by rw [hy0n]; omega
          obtain ⟨nq, hnq⟩ : ∃ nq, nq = n / 128 := ⟨_, rfl⟩
          have hqi : (n : Int) / 128 = (nq : Int) := by rw [hnq]; omega
          have HNX := Lib.hid (show e128 z = hd7 nq ++ mark (y0 :: E) by
            rcases hE with ⟨rfl, rfl, _⟩ | ⟨h1, h2, h3⟩
            · rw [e128, hnq, hy0]; rfl
            · rw [h3, hd7_pos h2, mark_cons _ _ h1, hy0n, hnq]; simp)
          have HLT := Lib.hid (show nq ≠ 0 → nq < n by omega)
          have HQB := Lib.hid (show nq < 34359738368 by omega)
          clear hy0 hy0n hnq
          have HBN := Lib.hid (show OwnB 5 (wr.alloc (.cells #[.int .u8 ((y0.toNat : Nat) : Int)] 5)) wo.heap.size (.slice (some ⟨wr.heap.size, 0, none⟩) 1 1) [y0] from own_base (byte_new wr y0) hszx)
          have HBW := Lib.hid (show Below wo.heap.size wo (wr.alloc (.cells #[.int .u8 ((y0.toNat : Nat) : Int)] 5)) from HBE.out.alloc hszx _)
          have hor : (E = [] ∧ u9 = .slice none 0 0) ∨ E ≠ [] := by
            rcases hE with ⟨h1, _, h2⟩ | ⟨h1, _⟩
            · exact .inl ⟨h1, h2⟩
            · exact .inr h1
          clear hE
          by_cases hq0 : nq = 0
          · have dq : ((nq : Int) == 0) = true := by rw [hq0]; rfl
            have HFIN := Lib.hid (show e128 z = mark (y0 :: E) by have := HNX.out; rw [hq0, hd7_zero] at this; exact this)
            clear hq0
            obtain ⟨E5, hE5⟩ : ∃ E5, E5 = y0 :: E := ⟨_, rfl⟩
            have HY5 := Lib.hid (show E5 ≠ [] by rw [hE5]; simp)
            rw [← hE5] at HFIN
            have hE6 : E5.length ≤ 6 := by rw [hE5]; simp; omega
            have HE5 := Lib.hid hE5
            clear hE5
            rcases hor with ⟨rfl, rfl⟩ | hne
            all_goals first
            | (have HO5 := Lib.hid (show OwnB 5 _ wo.heap.size _ E5 by rw [HE5.out]; exact HBN.out)
               have HB5 := HBW
               clear HBN HBW
               go_wp2_with fail
               generalize Value.slice (some ⟨wr.heap.size, 0, none⟩) 1 1 = v5 at HO5 ⊢
               generalize wr.alloc (Obj.cells #[Value.int IntKind.u8 ((y0.toNat : Nat) : Int)] 5) = w5 at HO5 HB5 ⊢)
            | (obtain ⟨h, c3, rfl, hh1, hh2, hh3⟩ := HOE.out.open hne
               go_wp2_with (at_builtin; (refine wpList_append_own _ rfl (.tmp 39) (.tmp 40) 55 rfl wo.heap.size 5 ib (.int .u8 0) 1 1 Tryz.underlying55 hib hbz0 hbz1 hbz2 rfl (by decide) _ 1 [bcell y0] rfl HBN.out ⟨h, 0, none⟩ E.length c3 (E.map bcell) rfl (by simp) (HOE.out.news (belowNew _ _)) (bcells_one E) (by unfold maxLen; omega) (by omega) (by simp; omega) ?_); intro v5 w5 ho5 hg5 _; have HO5 := Lib.hid (show OwnB 5 w5 wo.heap.size v5 E5 by rw [HE5.out]; unfold OwnB; rw [List.length_cons, Nat.add_comm]; exact ho5); have HB5 := Lib.hid (HBW.out.grown hg5 (by simp; omega) (fun k e => by cases e; exact hszx)); clear ho5 hg5))
            all_goals
              obtain ⟨h5, c5, rfl, hh4, hh5, hh6⟩ := HO5.out.open HY5.out
              have hl5 : 0 < E5.length := List.length_pos_iff.2 HY5.out
              go_loopw [10] (fun i wy => ∃ j : Nat, i = .int .i64 (j : Int) ∧ j + 1 ≤ E5.length ∧ OwnB 5 wy wo.heap.size (.slice (some ⟨h5, 0, none⟩) E5.length c5) (marked E5 j) ∧ Below wo.heap.size wo wy) (fun i _ => E5.length - (intOf i).toNat)
              case atStart => exact ⟨0, rfl, by omega, by rw [marked_zero]; exact HO5.out, HB5.out⟩
              case round =>
                obtain ⟨j, rfl, hj, ho7, hb7⟩ := hrel
                have HO7 := Lib.hid ho7
                have HB7 := Lib.hid hb7
                by_cases hjl : j + 1 < E5.length
                · have dj : decide ((j : Int) + 1 < (E5.length : Int)) = true := by simp; omega
                  have hcj := own_cell ho7 (marked_len _ _) j (by omega)
                  have hfj := own_free ho7 (marked_len _ _) j
                  rw [marked_get E5 j (by omega)] at hcj
                  obtain ⟨y7, hy7⟩ : ∃ y7 : UInt8, y7 = UInt8.ofNat (128 + (E5.getD j 0).toNat) := ⟨_, rfl⟩
                  have HS7 := Lib.hid (own_set ho7 (marked_len _ _) j y7)
                  rw [marked_set E5 j (by omega) y7 hy7] at HS7
                  have hadd : IntKind.u8.wrap (((E5.getD j 0).toNat : Int) + 128) = ((y7.toNat : Nat) : Int) := by
                    rw [hy7]
                    simp [IntKind.wrap, IntKind.bits, IntKind.signed]
                    omega
                  generalize (E5.getD j 0).toNat = x7 at hcj hadd
                  clear ho7 hb7 hy7
                  go_wp2_with fail
                  go_roundw
                  case rel => exact ⟨j + 1, by go_num, by omega, HS7.out, HB7.out.setCell hh4 _⟩
                  case measure => simp [intOf]; omega
                · have dj : decide ((j : Int) + 1 < (E5.length : Int)) = false := by simp; omega
                  have HM5 := Lib.hid (show marked E5 j = e128 z by rw [HFIN.out, mark_marked E5 HY5.out]; congr 1; omega)
                  rw [HM5.out] at HO7
                  have hzl : (e128 z).length = E5.length := by rw [← HM5.out, marked_len]
                  have HZL := Lib.hid hzl
                  have hE5 : E5.length ≤ 5 := by rw [← hzl]; exact e128_len z hzm
                  have hszw := hb7.size
                  clear ho7 hb7 hzl
                  go_wp2_with (at_builtin; (refine wpList_append_own _ rfl (.tmp 59) (.tmp 60) 55 rfl w2.heap.size 5 ib (.int .u8 0) 1 1 Tryz.underlying55 hib hbz0 hbz1 hbz2 rfl (by decide) _ D.length (D.map bcell) rfl (own_below HO.out HB7.out) ⟨h5, 0, none⟩ E5.length c5 ((e128 z).map bcell) rfl (by simp; exact HZL.out) (HO7.out.news (Below.refl _ _)) (bcells_one _) (by unfold maxLen; omega) (by omega) (by omega) ?_); intro v8 w8 ho8 hg8 _; have HO8 := Lib.hid (show OwnB 5 w8 w2.heap.size v8 (D ++ e128 z) by unfold OwnB; rw [List.length_append, List.map_append, HZL.out]; exact ho8); have HB8 := Lib.hid ((HB.out.trans (HB7.out.mono hszb)).grown hg8 (by omega) (fun k e => (World.ownsRow.lt HO.out k e).1)); clear ho8 hg8)
                  go_roundw
                  case rel => exact ⟨k + 1, D ++ e128 z, by omega, by go_num, by rw [HD.out, HN.out, cat_append]; simp [cat], HO8.out, HB8.out⟩
                  case measure => simp [intOf]; omega
          · have dq : ((nq : Int) == 0) = false := beq_eq_false_iff_ne.2 (by omega)
            have HQ0 := Lib.hid hq0
            clear hq0
            rcases hor with ⟨rfl, rfl⟩ | hne
            · go_wp2_with fail
              go_roundw
              case rel => exact ⟨nq, [y0], rfl, HQB.out, HBN.out, HBW.out, .inr ⟨by simp, HQ0.out, HNX.out⟩⟩
              case measure => simp [intOf]; exact HLT.out HQ0.out
            · obtain ⟨h, c3, rfl, hh1, hh2, hh3⟩ := HOE.out.open hne
              go_wp2_with (at_builtin; (refine wpList_append_own _ rfl (.tmp 39) (.tmp 40) 55 rfl wo.heap.size 5 ib (.int .u8 0) 1 1 Tryz.underlying55 hib hbz0 hbz1 hbz2 rfl (by decide) _ 1 [bcell y0] rfl HBN.out ⟨h, 0, none⟩ E.length c3 (E.map bcell) rfl (by simp) (HOE.out.news (belowNew _ _)) (bcells_one E) (by unfold maxLen; omega) (by omega) (by simp; omega) ?_); intro v5 w5 ho5 hg5 _; have HO5 := Lib.hid (show OwnB 5 w5 wo.heap.size v5 (y0 :: E) by unfold OwnB; rw [List.length_cons, Nat.add_comm]; exact ho5); have HB5 := Lib.hid (HBW.out.grown hg5 (by simp; omega) (fun k e => by cases e; exact hszx)); clear ho5 hg5)
              go_roundw
              case rel => exact ⟨nq, y0 :: E, rfl, HQB.out, HO5.out, HB5.out, .inr ⟨by simp, HQ0.out, HNX.out⟩⟩
              case measure => simp [intOf]; exact HLT.out HQ0.out
      · obtain rfl : k = N.length := by omega
        have hd : decide ((N.length : Int) < (N.length : Int)) = false := by simp
        have hs2 := own_str HO.out
        go_wp2_with fail
        go_ret2
        refine ⟨?_, below_next (below_next HB1.out HB2.out) HB.out⟩
        have e := HD.out
        rw [List.take_of_length_le (Nat.le_refl _), ← HEN.out] at e
        rw [e]; rfl
end Go.Proofs.YtflpajbcomhkpaaGreatDoor
namespace Go.Proofs.YtflpajbcomhkpaaGreatDoor
open Go.Shelf Go.RowKit

def lays106_ren : Go.Shelf.Ren := ⟨fun | 106 => 170 | 213 => 205 | 265 => 247 | n => n, fun | 9 => 9 | 3 => 3 | n => n, fun | n => n⟩
theorem lays106 : Go.Proofs.Lays.n106 Tryz.prog lays106_ren := {
  mixed := by kernel_rfl
  f106 := Tryz.func170.trans (congrArg some (by kernel_rfl))
  f213 := Tryz.func205.trans (congrArg some (by kernel_rfl))
  f265 := Tryz.func247.trans (congrArg some (by kernel_rfl))
  t3 := Tryz.underlying3
  a3 := Tryz.isAgg3
  z3 := Tryz.sizeOf3
  v3 := Tryz.zeroValue3
  t9 := Tryz.underlying9
  a9 := Tryz.isAgg9
  z9 := Tryz.sizeOf9
  v9 := Tryz.zeroValue9 }
def lays190_ren : Go.Shelf.Ren := ⟨fun | 190 => 180 | 125 => 204 | 258 => 211 | 128 => 245 | 129 => 246 | 302 => 255 | 303 => 256 | 304 => 257 | 305 => 258 | 306 => 259 | 307 => 260 | 308 => 261 | 309 => 262 | 310 => 263 | 333 => 280 | 329 => 274 | 330 => 275 | 334 => 281 | 335 => 282 | 336 => 283 | 344 => 287 | n => n, fun | 31 => 51 | 9 => 9 | 3 => 3 | 46 => 135 | 0 => 0 | 51 => 226 | 53 => 228 | 4 => 4 | 183 => 220 | 182 => 219 | 131 => 126 | 5 => 5 | 218 => 250 | 222 => 254 | 228 => 260 | 229 => 261 | n => n, fun | n => n⟩
theorem lays190 : Go.Proofs.Lays.n190 Tryz.prog lays190_ren := {
  mixed := by kernel_rfl
  f125 := Tryz.func204.trans (congrArg some (by kernel_rfl))
  f128 := Tryz.func245.trans (congrArg some (by kernel_rfl))
  f129 := Tryz.func246.trans (congrArg some (by kernel_rfl))
  f190 := Tryz.func180.trans (congrArg some (by kernel_rfl))
  f258 := Tryz.func211.trans (congrArg some (by kernel_rfl))
  f302 := Tryz.func255.trans (congrArg some (by kernel_rfl))
  f303 := Tryz.func256.trans (congrArg some (by kernel_rfl))
  f304 := Tryz.func257.trans (congrArg some (by kernel_rfl))
  f305 := Tryz.func258.trans (congrArg some (by kernel_rfl))
  f306 := Tryz.func259.trans (congrArg some (by kernel_rfl))
  f307 := Tryz.func260.trans (congrArg some (by kernel_rfl))
  f308 := Tryz.func261.trans (congrArg some (by kernel_rfl))
  f309 := Tryz.func262.trans (congrArg some (by kernel_rfl))
  f310 := Tryz.func263.trans (congrArg some (by kernel_rfl))
  f329 := Tryz.func274.trans (congrArg some (by kernel_rfl))
  f330 := Tryz.func275.trans (congrArg some (by kernel_rfl))
  f333 := Tryz.func280.trans (congrArg some (by kernel_rfl))
  f334 := Tryz.func281.trans (congrArg some (by kernel_rfl))
  f335 := Tryz.func282.trans (congrArg some (by kernel_rfl))
  f336 := Tryz.func283.trans (congrArg some (by kernel_rfl))
  f344 := Tryz.func287.trans (congrArg some (by kernel_rfl))
  t0 := Tryz.underlying0
  a0 := Tryz.isAgg0
  z0 := Tryz.sizeOf0
  v0 := Tryz.zeroValue0
  t3 := Tryz.underlying3
  a3 := Tryz.isAgg3
  z3 := Tryz.sizeOf3
  v3 := Tryz.zeroValue3
  t4 := Tryz.underlying4
  a4 := Tryz.isAgg4
  z4 := Tryz.sizeOf4
  v4 := Tryz.zeroValue4
  t5 := Tryz.underlying5
  a5 := Tryz.isAgg5
  z5 := Tryz.sizeOf5
  v5 := Tryz.zeroValue5
  t9 := Tryz.underlying9
  a9 := Tryz.isAgg9
  z9 := Tryz.sizeOf9
  v9 := Tryz.zeroValue9
  t31 := Tryz.underlying51
  a31 := Tryz.isAgg51
  z31 := Tryz.sizeOf51
  v31 := Tryz.zeroValue51
  t46 := Tryz.underlying135
  a46 := Tryz.isAgg135
  z46 := Tryz.sizeOf135
  v46 := Tryz.zeroValue135
  t51 := Tryz.underlying226
  a51 := Tryz.isAgg226
  z51 := Tryz.sizeOf226
  v51 := Tryz.zeroValue226
  t53 := Tryz.underlying228
  a53 := Tryz.isAgg228
  z53 := Tryz.sizeOf228
  v53 := Tryz.zeroValue228
  t131 := Tryz.underlying126
  a131 := Tryz.isAgg126
  z131 := Tryz.sizeOf126
  v131 := Tryz.zeroValue126
  t182 := Tryz.underlying219
  a182 := Tryz.isAgg219
  z182 := Tryz.sizeOf219
  v182 := Tryz.zeroValue219
  t183 := Tryz.underlying220
  a183 := Tryz.isAgg220
  z183 := Tryz.sizeOf220
  v183 := Tryz.zeroValue220
  t218 := Tryz.underlying250
  a218 := Tryz.isAgg250
  z218 := Tryz.sizeOf250
  v218 := Tryz.zeroValue250
  t222 := Tryz.underlying254
  a222 := Tryz.isAgg254
  z222 := Tryz.sizeOf254
  v222 := Tryz.zeroValue254
  t228 := Tryz.underlying260
  a228 := Tryz.isAgg260
  z228 := Tryz.sizeOf260
  v228 := Tryz.zeroValue260
  t229 := Tryz.underlying261
  a229 := Tryz.isAgg261
  z229 := Tryz.sizeOf261
  v229 := Tryz.zeroValue261 }
def laysNm216_ren : Go.Shelf.Ren := ⟨fun | 16 => 179 | n => n, fun | 24 => 51 | 9 => 9 | 4 => 4 | n => n, fun | n => n⟩
theorem laysNm216 : Go.Proofs.Lays2.n16 Tryz.prog laysNm216_ren := {
  mixed := by kernel_rfl
  f16 := Tryz.func179.trans (congrArg some (by kernel_rfl))
  t4 := Tryz.underlying4
  a4 := Tryz.isAgg4
  z4 := Tryz.sizeOf4
  v4 := Tryz.zeroValue4
  t9 := Tryz.underlying9
  a9 := Tryz.isAgg9
  z9 := Tryz.sizeOf9
  v9 := Tryz.zeroValue9
  t24 := Tryz.underlying51
  a24 := Tryz.isAgg51
  z24 := Tryz.sizeOf51
  v24 := Tryz.zeroValue51
  i9 := by kernel_rfl }

theorem join_none (a : Option Addr) (c : Nat) (sep : ByteArray) (w : World) :
    Calls Tryz.prog 166 #[.slice a 0 c, .string sep] w fun e w' => e = .returned (.string ⟨#[]⟩) ∧ w' = w := Any.strings_Join_none lays156 Builder_Extra_156 a c sep w
theorem compare_any (a b : ByteArray) (w : World) :
    Calls Tryz.prog 170 #[.string a, .string b] w fun e w' => e = .returned (.int .i64 (Lib.compareBytes a.data.toList b.data.toList)) ∧ w' = w := Any.strings_Compare lays106 a b w
theorem clone_any (b off n c : Nat) (zs : List ByteArray) (w : World) (hz : n ≤ zs.length) (hbig : n * 16 ≤ 140737488355328) (hc : ∀ j, j < zs.length → w.cell? ⟨b, off + j, none⟩ = some (.string (zs.getD j ByteArray.empty))) :
    Calls Tryz.prog 179 #[.slice (some ⟨b, off, none⟩) n c] w fun e w' => ∃ v', e = .returned v' ∧ w'.ownsRow w.heap.size 9 1 v' n ((zs.take n).map (Value.string)) ∧ v' ≠ .slice none 0 0 ∧ Below w.heap.size w w' := Any.slices_Clone_string laysNm216 b off n c zs w hz hbig hc
theorem clone_nil (n c : Nat) (w : World) :
    Calls Tryz.prog 179 #[.slice none n c] w fun e w' => e = .returned (.slice none 0 0) ∧ w' = w := Any.slices_Clone_string_nil laysNm216 n c w
theorem clone_zero (a : Addr) (c : Nat) (w : World) :
    Calls Tryz.prog 179 #[.slice (some a) 0 c] w fun e w' => ∃ v', e = .returned v' ∧ w'.ownsRow w.heap.size 9 1 v' 0 [] ∧ v' ≠ .slice none 0 0 ∧ Below w.heap.size w w' := Any.slices_Clone_string_zero laysNm216 a c w
open Go.Sort in
theorem sort_any (blk off cap : Nat) (ss : List (List UInt8)) (w : World) (hH : Go.Sort.Holds encStr w blk off ss.toArray) (hblk : blk < w.heap.size) (hsz : ss.length < 4611686018427387904) :
    Calls Tryz.prog 180 #[.slice (some ⟨blk, off, none⟩) ss.length cap] w fun e w' =>
      e = .returned (.tuple #[]) ∧ ∃ n os, w' = grow (putRow encStr (Sort.ahead w n) blk off (ss.mergeSort fun x y => decide (x ≤ y)).toArray) os := Any.slices_Sort_string lays190 blk off cap ss w hH hblk hsz
theorem sort_none (p : Option Addr) (cap : Nat) (w : World) :
    Calls Tryz.prog 180 #[.slice p 0 cap] w fun e w' => e = .returned (.tuple #[]) ∧ w' = w := Any.slices_Sort_string_none lays190 p cap w
end Go.Proofs.YtflpajbcomhkpaaGreatDoor
namespace Go.Proofs.YtflpajbcomhkpaaGreatDoor
open Go.RowKit

/-- Byte strings in ascending order. -/
def ordL (L : List (List UInt8)) : List (List UInt8) := L.mergeSort fun x y => decide (x ≤ y)
def lists (ss : List ByteArray) : List (List UInt8) := ss.map fun s => s.data.toList
theorem join_flat (L : List (List UInt8)) : Lib.join L [] = L.flatten := by
  unfold Lib.join
  induction L with
  | nil => rfl
  | cons a r ih =>
    cases r with
    | nil => simp [List.intercalate, List.intersperse]
    | cons b t => simp only [List.intercalate, List.intersperse, List.flatten_cons, List.nil_append] at ih ⊢; rw [ih]
theorem flat_cat (ss : List ByteArray) : (lists ss).flatten = cat_t ss := by simp [lists, cat_t, List.flatMap]
theorem ordL_length (L : List (List UInt8)) : (ordL L).length = L.length := by simp [ordL]
theorem ordL_perm (L : List (List UInt8)) : (ordL L).Perm L := List.mergeSort_perm L _
theorem ordL_flat_length (L : List (List UInt8)) : (ordL L).flatten.length = L.flatten.length := by
  rw [List.length_flatten, List.length_flatten]
  exact ((ordL_perm L).map List.length).sum_nat
theorem strOf_back (L : List (List UInt8)) : (L.map strOf).map (·.data.toList) = L := by
  induction L with
  | nil => rfl
  | cons a r ih => simp only [List.map_cons] at ih ⊢; rw [ih]; simp [strOf]
theorem encStr_strings (ss : List ByteArray) : ss.map Value.string = (lists ss).map encStr := by
  simp [lists, encStr]

set_option maxRecDepth 100000 in
set_option maxHeartbeats 1000000 in
theorem order_none (a : Option Addr) (c : Nat) (w : World) :
    Calls Tryz.prog 143 #[.slice a 0 c] w fun e w' => e = .returned (.string ⟨#[]⟩) ∧ Below w.heap.size w w' := by
  cases a with
  | none =>
    go_enter Tryz.func143, Tryz.ntmps143
    go_wp2_with (first | (go_at_call 179; (with_reducible refine (clone_nil 0 c _).mono ?_); rintro e w1 ⟨rfl, rfl⟩) | (go_at_call 180; (with_reducible refine (sort_none none 0 _).mono ?_); rintro e w1 ⟨rfl, rfl⟩) | (go_at_call 166; (with_reducible refine (join_none none 0 ⟨#[]⟩ _).mono ?_); rintro e w1 ⟨rfl, rfl⟩))
    go_ret
    exact ⟨rfl, Below.refl _ _⟩
  | some a =>
    go_enter Tryz.func143, Tryz.ntmps143
    go_wp2_with (first | (go_at_call 179; (with_reducible refine (clone_zero a c _).mono ?_); rintro e w1 ⟨v, rfl, ho, hne, hb⟩; have HB := Lib.hid hb; obtain ⟨p, k, rfl⟩ : ∃ p k, v = .slice p 0 k := (by rcases ho.2 with ⟨h, _⟩ | ⟨g, k, cur, h, _⟩ <;> exact ⟨_, _, h⟩); clear ho hne hb) | (go_at_call 180; (with_reducible refine (sort_none p k _).mono ?_); rintro e w2 ⟨rfl, rfl⟩) | (go_at_call 166; (with_reducible refine (join_none p k ⟨#[]⟩ _).mono ?_); rintro e w3 ⟨rfl, rfl⟩))
    go_ret
    exact ⟨rfl, HB.out⟩

set_option maxRecDepth 100000 in
set_option maxHeartbeats 1000000 in
theorem order_some (b o c : Nat) (ss : List ByteArray) (w : World) (hc : ∀ i, i < ss.length → w.cell? ⟨b, o + i, none⟩ = some (.string (ss.getD i ByteArray.empty))) (hn : ss.length ≤ 1000) (hm : (cat_t ss).length ≤ 1099511627776) :
    Calls Tryz.prog 143 #[.slice (some ⟨b, o, none⟩) ss.length c] w fun e w' => e = .returned (.string ⟨(ordL (lists ss)).flatten.toArray⟩) ∧ Below w.heap.size w w' := by
  obtain ⟨n, hln⟩ : ∃ n, n = ss.length := ⟨_, rfl⟩
  obtain ⟨O, hO⟩ : ∃ O, O = ordL (lists ss) := ⟨_, rfl⟩
  have hOl : O.length = n := by rw [hO, ordL_length, hln]; simp [lists]
  have HC := Lib.hid (clone_any b o n c ss w (by omega) (by omega) hc)
  have HJ := Lib.hid (show (Lib.join ((O.map strOf).map (·.data.toList)) []).length ≤ 140737488355328 by
    rw [strOf_back, join_flat, hO, ordL_flat_length, flat_cat]; omega)
  have HJ2 := Lib.hid (show Lib.join ((O.map strOf).map (·.data.toList)) [] = (ordL (lists ss)).flatten by
    rw [strOf_back, join_flat, hO])
  rw [← hln]
  have HLN := Lib.hid hln
  have HO := Lib.hid hO
  have HOL := Lib.hid hOl
  have HN := Lib.hid hn
  clear hln hc hm hO hOl hn
  go_enter Tryz.func143, Tryz.ntmps143
  go_wp2_with (go_at_call 179; (with_reducible refine HC.out.mono ?_); rintro e w1 ⟨v, rfl, ho, hne, hb⟩; have HB := Lib.hid hb; have HW := Lib.hid ho; have HNE := Lib.hid hne; clear ho hne hb)
  obtain ⟨g, cap, cur, hv, hg, hblk, h1, h2, h3, h4⟩ : ∃ g cap cur, v = .slice (some ⟨g, 0, none⟩) n cap ∧ w.heap.size ≤ g ∧ w1.heap[g]? = some (.cells cur 9 (0, 0)) ∧ n ≤ cap ∧ cap ≤ maxLen ∧ cur.size = cap * 1 ∧ cur.toList.take (n * 1) = (ss.take n).map Value.string := by
    rcases HW.out.2 with ⟨h, _⟩ | h
    · exact absurd h HNE.out
    · exact h
  subst hv
  have HG := Lib.hid hblk
  have hcur : cur.toList.take (lists ss).length = (lists ss).map encStr := by
    have e : (lists ss).length = n := by rw [HLN.out]; simp [lists]
    rw [e, ← encStr_strings, ← Nat.mul_one n, h4, HLN.out, List.take_length]
  have hln2 : (lists ss).length = n := by rw [HLN.out]; simp [lists]
  have hsort := sort_any g 0 cap (lists ss) w1 (holds_of_block hblk hcur) (Array.getElem?_eq_some_iff.1 hblk).1 (by have := HN.out; have := HLN.out; omega)
  rw [hln2] at hsort
  have HSO := Lib.hid hsort
  have H1 := Lib.hid h1
  have H2 := Lib.hid h2
  have H3 := Lib.hid h3
  have HGG := Lib.hid hg
  have HL2 := Lib.hid hln2
  clear hsort hblk hcur h1 h2 h3 h4 hg hln2 HC
  go_wp2_with (go_at_call 180; (with_reducible refine HSO.out.mono ?_); rintro e w2 ⟨rfl, m, os, hw2⟩; have HW2 := Lib.hid hw2; clear hw2)
  have ho2 : w2.ownsRow w.heap.size 9 1 (.slice (some ⟨g, 0, none⟩) n cap) n (O.map encStr) := by
    rw [HW2.out, HO.out]
    have := ownsRow_sorted (n := m) (os := os) (ts := ordL (lists ss)) (ss := lists ss) (by rw [ordL_length]) HGG.out HG.out (by rw [HL2.out]; exact H1.out) H2.out H3.out
    rwa [HL2.out] at this
  have hgr : w1.grownBy w2 (some g) := by rw [HW2.out]; exact grownBy_sorted _
  have hb2 : Below w.heap.size w w2 := HB.out.grown hgr HB.out.size (fun k e => by obtain rfl := Option.some.inj e; exact HGG.out)
  have hglt : g < w2.heap.size := (World.ownsRow.lt ho2 g rfl).2
  have hj := join_any g 0 cap (O.map strOf) ⟨#[]⟩ w2 (fun j x hx => by
    rw [Nat.zero_add]
    have hjl : j < (O.map strOf).length := (List.getElem?_eq_some_iff.1 hx).1
    rw [World.ownsRow.cellAt ho2 j (by simp at hjl; have := HOL.out; omega)]
    have he : O.map encStr = (O.map strOf).map Value.string := by simp [strOf, encStr]
    rw [he, List.getElem?_map, hx]
    rfl) hglt (by simp; have := HOL.out; have := HN.out; have := HLN.out; omega) (by simp; have := HOL.out; have := H1.out; omega) HJ.out
  have e3 : (O.map strOf).length = n := by simp; exact HOL.out
  rw [e3] at hj
  have HJN := Lib.hid hj
  have HB2 := Lib.hid hb2
  clear hj hb2 hgr ho2 hglt e3
  go_wp2_with (go_at_call 166; (with_reducible refine HJN.out.mono ?_); rintro e w3 ⟨he, hb3⟩; obtain rfl : e = .returned (.string ⟨(ordL (lists ss)).flatten.toArray⟩) := (by rw [he]; exact congrArg (fun l => Ending.returned (.string ⟨List.toArray l⟩)) HJ2.out); have HB3 := Lib.hid hb3; clear hb3 he)
  go_ret
  exact ⟨rfl, HB2.out.trans (HB3.out.mono HB2.out.size)⟩

theorem order_any (v : Value) (ss : List ByteArray) (w : World) (hv : Reads w v ss) (hn : ss.length ≤ 1000) (hm : (cat_t ss).length ≤ 1099511627776) :
    Calls Tryz.prog 143 #[v] w fun e w' => e = .returned (.string ⟨(ordL (lists ss)).flatten.toArray⟩) ∧ Below w.heap.size w w' := by
  obtain ⟨a, c, rfl, h⟩ := hv
  by_cases h0 : ss = []
  · subst h0
    have e : (ordL (lists [])).flatten = [] := by simp [ordL, lists]
    rw [e]
    exact order_none a c w
  · rcases h with h | ⟨b, o, rfl, hc⟩
    · exact absurd h h0
    · exact order_some b o c ss w hc hn hm
end Go.Proofs.YtflpajbcomhkpaaGreatDoor
namespace Go.Proofs.YtflpajbcomhkpaaGreatDoor
open Go.RowKit

/-- The bytes of the i-th element. -/
def rawAt (l : List El) (i : Nat) : List UInt8 := (l.getD i (0, ⟨#[]⟩, ⟨#[]⟩)).2.2.data.toList
theorem bl_iff : ∀ x y : List UInt8, Op.bytesLess x y = true ↔ x < y
  | _, [] => by simp [Op.bytesLess]
  | [], _ :: _ => by simp [Op.bytesLess]
  | a :: x, b :: y => by
    rw [List.cons_lt_cons_iff, ← bl_iff x y]
    simp [Op.bytesLess]
theorem cb_iff : ∀ x y : List UInt8, Lib.compareBytes x y < 0 ↔ x < y
  | [], [] => by simp [Lib.compareBytes]
  | [], _ :: _ => by simp [Lib.compareBytes]
  | _ :: _, [] => by simp [Lib.compareBytes]
  | a :: x, b :: y => by
    rw [List.cons_lt_cons_iff, ← cb_iff x y]
    rw [show Lib.compareBytes (a :: x) (b :: y) = if a < b then -1 else if b < a then 1 else Lib.compareBytes x y from rfl]
    by_cases h1 : a < b
    · simp [h1]
    · by_cases h2 : b < a
      · rw [if_neg h1, if_pos h2]
        have : ¬ a = b := fun e => by rw [e] at h2; exact absurd h2 (UInt8.lt_irrefl b)
        simp [h1, this]
      · rw [if_neg h1, if_neg h2]
        have : a = b := UInt8.le_antisymm (UInt8.not_lt.1 h2) (UInt8.not_lt.1 h1)
        simp [this]
def ascP (l : List El) (n : Nat) : Prop := ∀ i, 1 ≤ i → i < n → ¬ rawAt l i < rawAt l (i - 1)

/-- At the address lie the elements l. -/
def EAt (w : World) (a : Option Addr) (l : List El) : Prop := ∀ k (h : k < l.length), ∃ g, a = some ⟨g, 0, none⟩ ∧ ∀ j, j < 3 → w.cell? ⟨g, k * 3 + j, none⟩ = (elCells l[k])[j]?
theorem EAt.of {w : World} {B : Nat} {v : Value} {l : List El} (h : OwnE w B v l) : ∃ a c, v = .slice a l.length c ∧ EAt w a l := by
  have h' := own_base_t h
  rcases h.2 with ⟨hv, h0⟩ | ⟨g, cap, cur, hv, _⟩
  · exact ⟨none, 0, by rw [hv, h0], fun k hk => by omega⟩
  · rw [hv] at h'
    exact ⟨_, cap, hv, fun k hk => ⟨g, rfl, fun j hj => els_cell h' k hk j hj⟩⟩
theorem EAt.two {w wr : World} {a : Option Addr} {l : List El} (h : EAt w a l) (hb : Below w.heap.size w wr) (k : Nat) (hk1 : 1 ≤ k) (hk : k < l.length) :
    ∃ (g : Nat) (t c t' c' : Value) (x y : ByteArray), a = some ⟨g, 0, none⟩ ∧ wr.cell? ⟨g, k * 3, none⟩ = some t ∧ wr.cell? ⟨g, k * 3 + 1, none⟩ = some c ∧ wr.cell? ⟨g, k * 3 + 2, none⟩ = some (.string x) ∧
      wr.cell? ⟨g, (k - 1) * 3, none⟩ = some t' ∧ wr.cell? ⟨g, (k - 1) * 3 + 1, none⟩ = some c' ∧ wr.cell? ⟨g, (k - 1) * 3 + 2, none⟩ = some (.string y) ∧ rawAt l k = x.data.toList ∧ rawAt l (k - 1) = y.data.toList := by
  obtain ⟨g, rfl, h1⟩ := h k hk
  obtain ⟨g', e, h2⟩ := h (k - 1) (by omega)
  obtain rfl : g = g' := by simpa using e
  have hg : g < w.heap.size := block_lt_of_cell (a := ⟨g, k * 3 + 0, none⟩) (h1 0 (by omega))
  have o1 : ∀ j, j < 3 → wr.cell? ⟨g, k * 3 + j, none⟩ = (elCells l[k])[j]? := fun j hj => (hb.cell (p := ⟨g, k * 3 + j, none⟩) hg).trans (h1 j hj)
  have o2 : ∀ j, j < 3 → wr.cell? ⟨g, (k - 1) * 3 + j, none⟩ = (elCells (l[k - 1]'(by omega)))[j]? := fun j hj => (hb.cell (p := ⟨g, (k - 1) * 3 + j, none⟩) hg).trans (h2 j hj)
  exact ⟨g, _, _, _, _, _, _, rfl, o1 0 (by omega), o1 1 (by omega), o1 2 (by omega), o2 0 (by omega), o2 1 (by omega), o2 2 (by omega),
    by unfold rawAt; rw [List.getD_eq_getElem?_getD, List.getElem?_eq_getElem hk]; rfl, by unfold rawAt; rw [List.getD_eq_getElem?_getD, List.getElem?_eq_getElem (by omega)]; rfl⟩

set_option maxRecDepth 100000 in
set_option maxHeartbeats 1000000 in
theorem rasc_some (a : Option Addr) (c n : Nat) (l : List El) (w : World) (h : EAt w a l) (hn : n = l.length) (hL : n ≤ 1099511627776) :
    Calls Tryz.prog 85 #[.slice a n c] w fun e w' => (∃ b : Bool, e = .returned (.bool b) ∧ (b = true ↔ ascP l l.length)) ∧ Below w.heap.size w w' := by
  have H1 := Lib.hid h
  have HN := Lib.hid hn
  clear h
  rw [← hn]
  clear hn
  go_enter Tryz.func85, Tryz.ntmps85
  go_wp2_with fail
  go_loopw [3] (fun i wr => ∃ k : Nat, 1 ≤ k ∧ (k ≤ n ∨ k = 1) ∧ i = .int .i64 k ∧ ascP l k ∧ Below w.heap.size w wr) (fun i _ => n + 1 - (intOf i).toNat)
  case atStart => exact ⟨1, Nat.le_refl _, .inr rfl, rfl, fun i h1 h2 => by omega, Below.refl _ _⟩
  case round =>
    obtain ⟨k, hk1, hk, rfl, hA, hb⟩ := hrel
    have HB := Lib.hid hb
    have HA := Lib.hid hA
    clear hb hA
    by_cases hlt : k < n
    · have hd : decide ((k : Int) < (n : Int)) = true := by simp; omega
      obtain ⟨g, t, c1, t2, c2, x, y, rfl, a0, a1, a2, b0, b1, b2, hX, hY⟩ := H1.out.two HB.out k hk1 (by rw [← HN.out]; exact hlt)
      have HX := Lib.hid hX
      have HY := Lib.hid hY
      clear hX hY
      by_cases hless : x.data.toList < y.data.toList
      · have hbl : Op.bytesLess x.toList y.toList = true := by rw [ByteArray.toList_eq, ByteArray.toList_eq]; exact (bl_iff _ _).2 hless
        have HF := Lib.hid (show ¬ ascP l n from fun hh => hh k hk1 hlt (by rw [HX.out, HY.out]; exact hless))
        clear hless
        go_wp2_with fail
        go_region
        go_wp2_with fail
        go_ret
        exact ⟨⟨false, rfl, fun hh => absurd hh (by decide), fun hh => absurd hh HF.out⟩, HB.out.drew⟩
      · have hbl : Op.bytesLess x.toList y.toList = false := by
          rw [ByteArray.toList_eq, ByteArray.toList_eq, ← Bool.not_eq_true, bl_iff]; exact hless
        have HF := Lib.hid (show ascP l (k + 1) from fun i h1 h2 => by
          by_cases e : i = k
          · subst e; rw [HX.out, HY.out]; exact hless
          · exact HA.out i h1 (by omega))
        clear hless
        go_wp2_with fail
        go_region
        go_wp2_with fail
        go_roundw
        case rel => exact ⟨k + 1, by omega, .inl (by omega), by go_num, HF.out, HB.out.drew⟩
        case measure => simp [intOf]; omega
    · have hd : decide ((k : Int) < (n : Int)) = false := by simp; omega
      have HF := Lib.hid (show ascP l n from fun i h1 h2 => HA.out i h1 (by omega))
      go_wp2_with fail
      go_ret
      exact ⟨⟨true, rfl, fun _ => HF.out, fun _ => rfl⟩, HB.out⟩

set_option maxRecDepth 100000 in
theorem cmp_any_t (t c t2 c2 : Value) (x y : ByteArray) (w : World) :
    Calls Tryz.prog 226 #[.agg #[t, c, .string x], .agg #[t2, c2, .string y]] w fun e w' => e = .returned (.int .i64 (Lib.compareBytes x.data.toList y.data.toList)) ∧ Below w.heap.size w w' := by
  go_enter Tryz.func226, Tryz.ntmps226
  go_wp2_with (go_at_call 170; (with_reducible refine (compare_any x y _).mono ?_); rintro e w1 ⟨rfl, rfl⟩)
  go_ret
  exact ⟨rfl, belowNew2 w _ _⟩

set_option maxRecDepth 100000 in
set_option maxHeartbeats 1000000 in
theorem sorted_any (a : Option Addr) (c n : Nat) (l : List El) (w : World) (h : EAt w a l) (hn : n = l.length) (hL : n ≤ 1099511627776) :
    Calls Tryz.prog 225 #[.slice a n c, .func (.func 226) #[] #[]] w fun e w' => (∃ b : Bool, e = .returned (.bool b) ∧ (b = true ↔ ascP l l.length)) ∧ Below w.heap.size w w' := by
  have H1 := Lib.hid h
  have HN := Lib.hid hn
  clear h
  rw [← hn]
  clear hn
  go_enter Tryz.func225, Tryz.ntmps225
  go_wp2_with fail
  go_loopw [5] (fun i wr => ∃ k : Nat, k ≤ n ∧ i = .int .i64 ((k : Int) - 1) ∧ (∀ i, k ≤ i → 1 ≤ i → i < n → ¬ rawAt l i < rawAt l (i - 1)) ∧ Below w.heap.size w wr) (fun i _ => (intOf i + 1).toNat)
  case atStart => exact ⟨n, Nat.le_refl _, rfl, fun i h1 h2 h3 => by omega, Below.refl _ _⟩
  case round =>
    obtain ⟨k, hk, rfl, hA, hb⟩ := hrel
    have HB := Lib.hid hb
    have HA := Lib.hid hA
    clear hb hA
    by_cases hlt : 1 < k
    · obtain ⟨j, rfl⟩ : ∃ j, k = j + 1 := ⟨k - 1, by omega⟩
      have ej : ((j + 1 : Nat) : Int) - 1 = (j : Int) := by omega
      rw [ej]
      obtain ⟨g, t, c1, t2, c2, x, y, rfl, a0, a1, a2, b0, b1, b2, hX, hY⟩ := H1.out.two HB.out j (by omega) (by rw [← HN.out]; omega)
      have HX := Lib.hid hX
      have HY := Lib.hid hY
      have hd : decide (0 < (j : Int)) = true := by simp; omega
      have hjn : j < n := by omega
      have hjw : IntKind.i64.wrap ((j : Int) - 1) = ((j - 1 : Nat) : Int) := by simp [IntKind.wrap, IntKind.bits, IntKind.signed]; omega
      have hjm : j - 1 < n := by omega
      clear hX hY ej
      obtain ⟨z, hz⟩ : ∃ z, z = Lib.compareBytes x.data.toList y.data.toList := ⟨_, rfl⟩
      have hci := cb_iff x.data.toList y.data.toList
      rw [← hz] at hci
      have HZ := Lib.hid hz
      clear hz
      by_cases hless : z < 0
      · have dz : decide (z < 0) = true := by simpa using hless
        have HF := Lib.hid (show ¬ ascP l n from fun hh => hh j (by omega) hjn (by rw [HX.out, HY.out]; exact hci.1 hless))
        clear hci hless
        go_wp2_with fail
        go_region_with (go_at_call 226; (with_reducible refine (cmp_any_t t c1 t2 c2 x y _).mono ?_); rw [← HZ.out]; rintro e w1 ⟨rfl, hb1⟩; have HB1 := Lib.hid (below_next_t HB.out.drew hb1); clear hb1)
        all_goals
          go_wp2_with fail
          go_ret
          exact ⟨⟨false, rfl, fun hh => absurd hh (by decide), fun hh => absurd hh HF.out⟩, HB1.out⟩
      · have dz : decide (z < 0) = false := by simpa using hless
        have HF := Lib.hid (show ∀ i, j ≤ i → 1 ≤ i → i < n → ¬ rawAt l i < rawAt l (i - 1) from fun i h1 h2 h3 => by
          by_cases e : i = j
          · subst e; rw [HX.out, HY.out]; exact fun hh => hless (hci.2 hh)
          · exact HA.out i (by omega) h2 h3)
        clear hci hless
        go_wp2_with fail
        go_region_with (go_at_call 226; (with_reducible refine (cmp_any_t t c1 t2 c2 x y _).mono ?_); rw [← HZ.out]; rintro e w1 ⟨rfl, hb1⟩; have HB1 := Lib.hid (below_next_t HB.out.drew hb1); clear hb1)
        all_goals
          go_wp2_with fail
          go_roundw
          case rel => exact ⟨j, by omega, by go_num, HF.out, HB1.out⟩
          case measure => simp [intOf]; omega
    · have hd : decide (0 < (k : Int) - 1) = false := by simp; omega
      have HF := Lib.hid (show ascP l n from fun i h1 h2 => HA.out i (by omega) h1 h2)
      go_wp2_with fail
      go_ret
      exact ⟨⟨true, rfl, fun _ => HF.out, fun _ => rfl⟩, HB.out⟩

set_option maxRecDepth 100000 in
theorem asc_some (a : Option Addr) (c n : Nat) (l : List El) (w : World) (h : EAt w a l) (hn : n = l.length) (hL : n ≤ 1099511627776) :
    Calls Tryz.prog 193 #[.slice a n c] w fun e w' => (∃ b : Bool, e = .returned (.bool b) ∧ (b = true ↔ ascP l l.length)) ∧ Below w.heap.size w w' := by
  have HS := Lib.hid (sorted_any a c n l w h hn hL)
  clear h hn
  go_enter Tryz.func193, Tryz.ntmps193
  go_wp2_with (go_at_call 225; (with_reducible refine HS.out.mono ?_); rintro e w1 ⟨⟨b, rfl, hb⟩, hbb⟩; have HBB := Lib.hid hb; have HW := Lib.hid hbb; clear hb hbb)
  go_ret
  exact ⟨⟨b, rfl, HBB.out⟩, HW.out⟩
/-- Both, of a slice that the call has made. -/
theorem asc_any (B : Nat) (v : Value) (l : List El) (w : World) (h : OwnE w B v l) (hL : l.length ≤ 1099511627776) :
    Calls Tryz.prog 193 #[v] w fun e w' => (∃ b : Bool, e = .returned (.bool b) ∧ (b = true ↔ ascP l l.length)) ∧ Below w.heap.size w w' := by
  obtain ⟨a, c, rfl, hA⟩ := EAt.of h
  exact asc_some a c l.length l w hA rfl hL
theorem rasc_any (B : Nat) (v : Value) (l : List El) (w : World) (h : OwnE w B v l) (hL : l.length ≤ 1099511627776) :
    Calls Tryz.prog 85 #[v] w fun e w' => (∃ b : Bool, e = .returned (.bool b) ∧ (b = true ↔ ascP l l.length)) ∧ Below w.heap.size w w' := by
  obtain ⟨a, c, rfl, hA⟩ := EAt.of h
  exact rasc_some a c l.length l w hA rfl hL
end Go.Proofs.YtflpajbcomhkpaaGreatDoor
