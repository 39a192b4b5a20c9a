/-
  The contract of the reference's EncodeOID: the contents of the object identifier that the text is, if it is one.
  Nothing is left of this text.
  Nothing is left of this text.
  The contracts of tlv.Ascending and of the reference's Ascending: whether no element's Raw is less than the one before it.
  The contract of the reference's Order: the strings in ascending order, one after the other; nothing that was there before the call has changed.
  The encodings of attributes, relative names and names; the contracts of the program's and the reference's wrap, OID and encodeAttribute.
  The contracts of encodeAttribute, and of the reference's OID.
  Nothing is left of this text.
  Nothing is left of this text.
  The contract of the reference's Dec: the decimal digits of a number.
  The contract of the law's function id: the text of a good list of numbers that is made of the given ones.
  The contract of oid.Decode: the object identifier with these contents, if there is one.
-/
import Derived.Test.YtpmlkofceidnjaaGreatDoorAag
import Derived.Test.YtpmlkofceidnjaaGreatDoorAab
import Derived.Shelf.Strings.Builder1
import Derived.Sort.OwnSorted
import Derived.Test.YtpmlkofceidnjaaGreatDoorChecked
import Derived.Test.YtpmlkofceidnjaaGreatDoorAaa
import Derived.Test.YtpmlkofceidnjaaGreatDoorAae
import Derived.Lib.Join
import Derived.Test.YtpmlkofceidnjaaGreatDoorAah
import Derived.Laws.Cover1
import Derived.Deep.RegionHeld3
import Derived.Lib.ItoaLen
namespace Go.Proofs.YtpmlkofceidnjaaGreatDoor
open Go.RowKit

set_option maxRecDepth 100000 in
set_option maxHeartbeats 1000000 in
theorem renc_no {s : ByteArray} (h : ∀ a, ¬ Oid s.data.toList a) (w : World) (hs : s.size ≤ 1099511627) :
    Calls Tryz.prog 59 #[.string s] w fun e w' => e = .returned noVal ∧ Below w.heap.size w w' := by
  have HH := Lib.hid h
  clear h
  go_enter Tryz.func59, Tryz.ntmps59
  go_wp2_with (go_at_call 80; (with_reducible refine (rarcs_no HH.out _ hs).mono ?_); rintro e w1 ⟨rfl, hb1⟩; have HB1 := Lib.hid hb1; clear hb1)
  go_ret2
  exact ⟨rfl, HB1.out⟩

theorem int_new (w : World) (m : Nat) : (w.alloc (.cells #[.int .i64 (m : Int)] 3)).ownsRow w.heap.size 3 1 (.slice (some ⟨w.heap.size, 0, none⟩) 1 1) 1 [icell m] :=
  ⟨rfl, .inr ⟨w.heap.size, 1, _, rfl, Nat.le_refl _, heap_alloc_new w _, Nat.le_refl _, by decide, rfl, rfl⟩⟩
theorem news_tail {w w' : World} {g x y : Nat} {r : List Nat} (h : ILie w g (x :: y :: r)) (hb : Below w.heap.size w w') (o : Nat) (ho : r.length ≠ 0 → o = 2) :
    ∀ j u, (r.map icell)[j]? = some u → w'.cell? ((⟨g, o, none⟩ : Addr).add j) = some u := fun j u hu => by
  have hj : j < r.length := by
    have := (List.getElem?_eq_some_iff.1 hu).1
    simpa using this
  have hadd : (⟨g, o, none⟩ : Addr).add j = ⟨g, o + j, none⟩ := by unfold Addr.add; split <;> simp_all
  have e := h.tail j hj
  rw [hadd, ho (by omega), ← hu, List.getElem?_map, hb.cell (p := ⟨g, 2 + j, none⟩) h.1, e, List.getD_eq_getElem?_getD, List.getElem?_eq_getElem hj]
  rfl
theorem nums_row {w1 w2 : World} {v2 : Value} {m : Nat} {r : List Nat} {n : Nat} (hn : n = r.length + 1) (h : w2.ownsRow w1.heap.size 3 1 v2 n ([icell m] ++ r.map icell)) : OwnI w2 w1.heap.size v2 (m :: r) := by
  subst hn
  unfold OwnI
  rw [List.length_cons, List.map_cons]; exact h

/-- 128 added to all digits but the last one. -/
def mark : List UInt8 → List UInt8
  | [] => []
  | [x] => [x]
  | x :: y :: r => UInt8.ofNat (128 + x.toNat) :: mark (y :: r)
def marked (E : List UInt8) (i : Nat) : List UInt8 := (E.take i).map (fun x => UInt8.ofNat (128 + x.toNat)) ++ E.drop i
theorem marked_zero (E : List UInt8) : marked E 0 = E := by simp [marked]
theorem marked_len (E : List UInt8) (i : Nat) : (marked E i).length = E.length := by simp [marked]; omega
theorem marked_get (E : List UInt8) (i : Nat) (h : i < E.length) : (marked E i).getD i 0 = E.getD i 0 := by
  unfold marked
  rw [List.getD_eq_getElem?_getD, List.getElem?_append_right (by simp; omega)]
  simp [Nat.min_eq_left (Nat.le_of_lt h)]
theorem marked_set (E : List UInt8) (i : Nat) (h : i < E.length) (y : UInt8) (hy : y = UInt8.ofNat (128 + (E.getD i 0).toNat)) : (marked E i).set i y = marked E (i + 1) := by
  unfold marked
  have e1 : E.drop i = E.getD i 0 :: E.drop (i + 1) := by
    rw [List.drop_eq_getElem_cons h, List.getD_eq_getElem?_getD, List.getElem?_eq_getElem h]; rfl
  have e2 : E.take (i + 1) = E.take i ++ [E.getD i 0] := by
    rw [List.take_add_one, List.getElem?_eq_getElem h, List.getD_eq_getElem?_getD, List.getElem?_eq_getElem h]; rfl
  rw [e1, e2, List.set_append_right _ _ (by simp; omega)]
  simp [Nat.min_eq_left (Nat.le_of_lt h), hy]
theorem mark_len : ∀ E : List UInt8, (mark E).length = E.length
  | [] => rfl
  | [x] => rfl
  | x :: y :: r => by rw [mark, List.length_cons, mark_len (y :: r)]; rfl
theorem mark_marked : ∀ E : List UInt8, E ≠ [] → mark E = marked E (E.length - 1)
  | [], h => absurd rfl h
  | [x], _ => rfl
  | x :: y :: r, _ => by
    rw [mark, mark_marked (y :: r) (by simp)]
    simp [marked]
theorem mark_cons (x : UInt8) (E : List UInt8) (h : E ≠ []) : mark (x :: E) = UInt8.ofNat (128 + x.toNat) :: mark E := by
  cases E with
  | nil => exact absurd rfl h
  | cons y r => rfl
theorem byte_new (w : World) (y : UInt8) : OwnB 5 (w.alloc (.cells #[.int .u8 ((y.toNat : Nat) : Int)] 5)) w.heap.size (.slice (some ⟨w.heap.size, 0, none⟩) 1 1) [y] :=
  ⟨rfl, .inr ⟨w.heap.size, 1, _, rfl, Nat.le_refl _, heap_alloc_new w _, Nat.le_refl _, by decide, rfl, rfl⟩⟩
theorem OwnB.open {w : World} {B : Nat} {v : Value} {l : List UInt8} (h : OwnB 5 w B v l) (hl : l ≠ []) : ∃ g cap, v = .slice (some ⟨g, 0, none⟩) l.length cap ∧ B ≤ g ∧ g < w.heap.size ∧ l.length ≤ cap := by
  rcases h.2 with ⟨rfl, h0⟩ | ⟨g, cap, cur, rfl, hB, hg, hn, _, _, _⟩
  · exact absurd (List.eq_nil_of_length_eq_zero h0) hl
  · exact ⟨g, cap, rfl, hB, (Array.getElem?_eq_some_iff.1 hg).1, hn⟩
theorem OwnB.news {w w' : World} {B g n cap : Nat} {l : List UInt8} (h : OwnB 5 w B (.slice (some ⟨g, 0, none⟩) n cap) l) (hb : Below w.heap.size w w') : ∀ j u, (l.map bcell)[j]? = some u → w'.cell? ((⟨g, 0, none⟩ : Addr).add j) = some u := fun j u hu => by
  rw [← World.ownsRow.cells h rfl j u hu]
  exact hb.cell (p := (⟨g, 0, none⟩ : Addr).add j) (by
    have : ((⟨g, 0, none⟩ : Addr).add j).block = g := by unfold Addr.add; split <;> rfl
    rw [this]; exact (World.ownsRow.lt h g rfl).2)

set_option maxRecDepth 100000 in
set_option maxHeartbeats 2000000 in
theorem renc_yes {s : ByteArray} {a : List Nat} (h : Oid s.data.toList a) (w : World) (hs : s.size ≤ 1099511627) :
    Calls Tryz.prog 59 #[.string s] w fun e w' => e = .returned (encVal a) ∧ Below w.heap.size w w' := by
  obtain ⟨i0, hi, hz0, hz1, hz2⟩ := info_parts intInfo
  have HH := Lib.hid h
  have hg := h.1
  obtain ⟨x, y, r, rfl⟩ : ∃ x y r, a = x :: y :: r := by
    match a, hg.1 with
    | x :: y :: r, _ => exact ⟨x, y, r, rfl⟩
  have hx : x ≤ 2 := by simpa using hg.2.2.2.1
  have hy : y ≤ 2147483647 := hg.2.2.1 y (by simp)
  have HR := Lib.hid (fun v (hv : v ∈ r) => hg.2.2.1 v (by simp [hv]))
  have hrl : r.length ≤ 10 := by have := hg.2.1; simp at this; omega
  obtain ⟨m, hm⟩ : ∃ m, m = 40 * x + y := ⟨_, rfl⟩
  have hwr : IntKind.i64.wrap (40 * (x : Int) + (y : Int)) = (m : Int) := by rw [wrap_i64]; omega
  have hwr2 : IntKind.i64.wrap (40 * (x : Int)) = 40 * (x : Int) := by rw [wrap_i64]; omega
  have hmb : m < 34359738368 := by omega
  have HM := Lib.hid hm
  have HNN := Lib.hid (show ∀ v ∈ m :: r, v < 34359738368 from fun v hv => by
      rcases List.mem_cons.1 hv with rfl | hv
      · exact hmb
      · exact Nat.lt_of_le_of_lt (HR.out v hv) (by decide))
  have hNl : (m :: r).length ≤ 11 := by simp; omega
  have hNe : m :: r ≠ [] := by simp
  have HEN := Lib.hid (show enc (x :: y :: r) = cat e128 (m :: r) by rw [HM.out]; rfl)
  obtain ⟨N, hN⟩ : ∃ N, N = m :: r := ⟨_, rfl⟩
  rw [← hN] at HNN hNl hNe HEN
  have HNE := Lib.hid hNe
  have HN0 := Lib.hid hN
  clear h hg hm hN hNe
  go_enter Tryz.func59, Tryz.ntmps59
  go_upto_region 4 with (go_at_call 80; (with_reducible refine (rarcs_yes HH.out _ hs).mono ?_); rintro e w1 ⟨⟨g, cap, rfl, hl, hg, hcp⟩, hb1⟩; have HB1 := Lib.hid hb1; have HL1 := Lib.hid hl; have hc0 := hl.cell 0 (by simp); have hc1 := hl.cell 1 (by simp); clear hb1 hl hg)
  simp only [List.length_cons] at hcp
  simp only [List.getD_cons_zero, List.getD_cons_succ] at hc0 hc1
  by_cases hr0 : r.length = 0
  all_goals by_cases hc2 : cap = 2
  all_goals first
  | (exfalso; omega)
  | (obtain rfl := List.eq_nil_of_length_eq_zero hr0
     have HO2 := Lib.hid (show OwnI _ w1.heap.size _ N by rw [HN0.out]; exact nums_row (w1 := w1) (m := m) (r := []) rfl ((int_new w1 m).drew))
     have HB2 := Lib.hid ((belowNew w1 (.cells #[.int .i64 (m : Int)] 3)).drew)
     try subst hc2
     simp only [List.length_nil, Nat.zero_add, Nat.reduceAdd] at hcp ⊢
     go_region
     generalize Value.slice (some ⟨w1.heap.size, 0, none⟩) 1 1 = v2 at HO2 ⊢
     generalize (w1.alloc (Obj.cells #[Value.int IntKind.i64 (m : Int)] 3)).drew = w2 at HO2 HB2 ⊢)
  | (have hc3 : ¬ (2 = cap) := by omega
     have p0 : 0 < (r.length : Int) + 1 + 1 := by omega
     have p1 : 1 < (r.length : Int) + 1 + 1 := by omega
     have p2 : 2 ≤ (r.length : Int) + 1 + 1 := by omega
     have p3 : (r.length : Int) + 1 + 1 ≤ (cap : Int) := by omega
     go_region_law (refine step_append_own rfl (.tmp 26) (.tmp 28) 24 rfl w1.heap.size 3 i0 (.int .i64 0) 8 Tryz.underlying24 hi hz0 hz1 hz2 rfl _ 1 [icell m] (by simp [Act.eval]) ((int_new w1 m).drew) ⟨g, 2, none⟩ r.length (cap - 2) (r.map icell) (by simp [Act.eval]) (by simp) (news_tail HL1.out ((belowNew w1 _).drew) 2 (fun _ => rfl)) (icells_one r) (by unfold maxLen; omega) (by omega) (by simp) ?_; intro v2 w2 ho2 hg2 _; have HO2 := Lib.hid (show OwnI w2 w1.heap.size v2 N by rw [HN0.out]; exact nums_row (by omega) ho2); have HB2 := Lib.hid (((belowNew w1 (.cells #[.int .i64 (m : Int)] 3)).drew).grown hg2 (by simp) (fun k e => by cases e; exact Nat.le_refl _)); clear ho2 hg2))
  all_goals
    clear hwr hwr2 hc0 hc1
    obtain ⟨q, c2, rfl, hq, hli, hcq⟩ := HO2.out.open HNE.out
    have HLI := Lib.hid hli
    clear hq hli hcq
    obtain ⟨ib, hib, hbz0, hbz1, hbz2⟩ := info_parts byteInfo
    go_wp2_with fail
    go_loopw [6, 32] (fun u i wr => ∃ (k : Nat) (D : List UInt8), k ≤ N.length ∧ i = .int .i64 (k : Int) ∧ D = cat e128 (N.take k) ∧ OwnB 5 wr w2.heap.size u D ∧ Below w2.heap.size w2 wr) (fun _ i _ => N.length - (intOf i).toNat)
    case atStart => exact ⟨0, [], by omega, rfl, by simp [cat], own_nil _ _ _, Below.refl _ _⟩
    case round =>
      obtain ⟨k, D, hk, rfl, hD, ho, hb⟩ := hrel
      have HO := Lib.hid ho
      have HB := Lib.hid hb
      have HD := Lib.hid hD
      have hDl : D.length ≤ 60 := by
        rw [hD]
        exact Nat.le_trans (e128_len5 (fun v hv => HNN.out v (List.mem_of_mem_take hv))) (by simp; omega)
      have hszb := hb.size
      clear ho hb hD
      by_cases hlt : k < N.length
      · have hd : decide ((k : Int) < (N.length : Int)) = true := by simp; omega
        have hcx := (HLI.out.below HB.out).cell k hlt
        have hzm : N.getD k 0 < 34359738368 := by
          rw [List.getD_eq_getElem?_getD, List.getElem?_eq_getElem hlt]
          exact HNN.out _ (List.getElem_mem _)
        have HN := Lib.hid (show N.take (k + 1) = N.take k ++ [N.getD k 0] by
          rw [List.take_add_one, List.getElem?_eq_getElem hlt, List.getD_eq_getElem?_getD, List.getElem?_eq_getElem hlt]; rfl)
        generalize N.getD k 0 = z at hcx hzm HN
        go_wp2_with fail
        clear hcx hd
        obtain ⟨wo, rfl⟩ : ∃ wo, wo = wr := ⟨wr, rfl⟩
        go_loopw [8, 9] (fun u v wx => ∃ (n : Nat) (E : List UInt8), u = .int .i64 (n : Int) ∧ n < 34359738368 ∧ OwnB 5 wx wo.heap.size v E ∧ Below wo.heap.size wo wx ∧ (E = [] ∧ n = z ∧ v = .slice none 0 0 ∨ E ≠ [] ∧ n ≠ 0 ∧ e128 z = hd7 n ++ mark E)) (fun u _ _ => (intOf u).toNat)
        case atStart => exact ⟨z, [], rfl, hzm, own_nil _ _ _, Below.refl _ _, .inl ⟨rfl, rfl, rfl⟩⟩
        case round =>
          obtain ⟨n, E, rfl, hn, ho2, hb2, hE⟩ := hrel
          have HOE := Lib.hid ho2
          have HBE := Lib.hid hb2
          have hEl : E.length ≤ 5 := by
            rcases hE with ⟨rfl, _⟩ | ⟨_, _, e⟩
            · simp
            · have h1 := e128_len z hzm
              rw [e, List.length_append, mark_len] at h1
              omega
          have hszx := hb2.size
          clear ho2 hb2
          obtain ⟨y0, hy0⟩ : ∃ y0 : UInt8, y0 = UInt8.ofNat (n % 128) := ⟨_, rfl⟩
          have hy0n : y0.toNat = n % 128 := by rw [hy0]; simp; omega
          have hyi : (n : Int) % 128 = ((y0.toNat : Nat) : Int) := by rw [hy0n]; omega
          obtain ⟨nq, hnq⟩ : ∃ nq, nq = n / 128 := ⟨_, rfl⟩
          have hqi : (n : Int) / 128 = (nq : Int) := by rw [hnq]; omega
          have HNX := Lib.hid (show e128 z = hd7 nq ++ mark (y0 :: E) by
            rcases hE with ⟨rfl, rfl, _⟩ | ⟨h1, h2, h3⟩
            · rw [e128, hnq, hy0]; rfl
            · rw [h3, hd7_pos h2, mark_cons _ _ h1, hy0n, hnq]; simp)
          have HLT := Lib.hid (show nq ≠ 0 → nq < n by omega)
          have HQB := Lib.hid (show nq < 34359738368 by omega)
          clear hy0 hy0n hnq
          have HBN := Lib.hid (show OwnB 5 (wr.alloc (.cells #[.int .u8 ((y0.toNat : Nat) : Int)] 5)) wo.heap.size (.slice (some ⟨wr.heap.size, 0, none⟩) 1 1) [y0] from own_base (byte_new wr y0) hszx)
          have HBW := Lib.hid (show Below wo.heap.size wo (wr.alloc (.cells #[.int .u8 ((y0.toNat : Nat) : Int)] 5)) from HBE.out.alloc hszx _)
          have hor : (E = [] ∧ u9 = .slice none 0 0) ∨ E ≠ [] := by
            rcases hE with ⟨h1, _, h2⟩ | ⟨h1, _⟩
            · exact .inl ⟨h1, h2⟩
            · exact .inr h1
          clear hE
          by_cases hq0 : nq = 0
          · have dq : ((nq : Int) == 0) = true := by rw [hq0]; rfl
            have HFIN := Lib.hid (show e128 z = mark (y0 :: E) by have := HNX.out; rw [hq0, hd7_zero] at this; exact this)
            clear hq0
            obtain ⟨E5, hE5⟩ : ∃ E5, E5 = y0 :: E := ⟨_, rfl⟩
            have HY5 := Lib.hid (show E5 ≠ [] by rw [hE5]; simp)
            rw [← hE5] at HFIN
            have hE6 : E5.length ≤ 6 := by rw [hE5]; simp; omega
            have HE5 := Lib.hid hE5
            clear hE5
            rcases hor with ⟨rfl, rfl⟩ | hne
            all_goals first
            | (have HO5 := Lib.hid (show OwnB 5 _ wo.heap.size _ E5 by rw [HE5.out]; exact HBN.out)
               have HB5 := HBW
               clear HBN HBW
               go_wp2_with fail
               generalize Value.slice (some ⟨wr.heap.size, 0, none⟩) 1 1 = v5 at HO5 ⊢
               generalize wr.alloc (Obj.cells #[Value.int IntKind.u8 ((y0.toNat : Nat) : Int)] 5) = w5 at HO5 HB5 ⊢)
            | (obtain ⟨h, c3, rfl, hh1, hh2, hh3⟩ := HOE.out.open hne
               go_wp2_with (at_builtin; (refine wpList_append_own _ rfl (.tmp 39) (.tmp 40) 53 rfl wo.heap.size 5 ib (.int .u8 0) 1 1 Tryz.underlying53 hib hbz0 hbz1 hbz2 rfl (by decide) _ 1 [bcell y0] rfl HBN.out ⟨h, 0, none⟩ E.length c3 (E.map bcell) rfl (by simp) (HOE.out.news (belowNew _ _)) (bcells_one E) (by unfold maxLen; omega) (by omega) (by simp; omega) ?_); intro v5 w5 ho5 hg5 _; have HO5 := Lib.hid (show OwnB 5 w5 wo.heap.size v5 E5 by rw [HE5.out]; unfold OwnB; rw [List.length_cons, Nat.add_comm]; exact ho5); have HB5 := Lib.hid (HBW.out.grown hg5 (by simp; omega) (fun k e => by cases e; exact hszx)); clear ho5 hg5))
            all_goals
              obtain ⟨h5, c5, rfl, hh4, hh5, hh6⟩ := HO5.out.open HY5.out
              have hl5 : 0 < E5.length := List.length_pos_iff.2 HY5.out
              go_loopw [10] (fun i wy => ∃ j : Nat, i = .int .i64 (j : Int) ∧ j + 1 ≤ E5.length ∧ OwnB 5 wy wo.heap.size (.slice (some ⟨h5, 0, none⟩) E5.length c5) (marked E5 j) ∧ Below wo.heap.size wo wy) (fun i _ => E5.length - (intOf i).toNat)
              case atStart => exact ⟨0, rfl, by omega, by rw [marked_zero]; exact HO5.out, HB5.out⟩
              case round =>
                obtain ⟨j, rfl, hj, ho7, hb7⟩ := hrel
                have HO7 := Lib.hid ho7
                have HB7 := Lib.hid hb7
                by_cases hjl : j + 1 < E5.length
                · have dj : decide ((j : Int) + 1 < (E5.length : Int)) = true := by simp; omega
                  have hcj := own_cell ho7 (marked_len _ _) j (by omega)
                  have hfj := own_free ho7 (marked_len _ _) j
                  rw [marked_get E5 j (by omega)] at hcj
                  obtain ⟨y7, hy7⟩ : ∃ y7 : UInt8, y7 = UInt8.ofNat (128 + (E5.getD j 0).toNat) := ⟨_, rfl⟩
                  have HS7 := Lib.hid (own_set ho7 (marked_len _ _) j y7)
                  rw [marked_set E5 j (by omega) y7 hy7] at HS7
                  have hadd : IntKind.u8.wrap (((E5.getD j 0).toNat : Int) + 128) = ((y7.toNat : Nat) : Int) := by
                    rw [hy7]
                    simp [IntKind.wrap, IntKind.bits, IntKind.signed]
                    omega
                  generalize (E5.getD j 0).toNat = x7 at hcj hadd
                  clear ho7 hb7 hy7
                  go_wp2_with fail
                  go_roundw
                  case rel => exact ⟨j + 1, by go_num, by omega, HS7.out, HB7.out.setCell hh4 _⟩
                  case measure => simp [intOf]; omega
                · have dj : decide ((j : Int) + 1 < (E5.length : Int)) = false := by simp; omega
                  have HM5 := Lib.hid (show marked E5 j = e128 z by rw [HFIN.out, mark_marked E5 HY5.out]; congr 1; omega)
                  rw [HM5.out] at HO7
                  have hzl : (e128 z).length = E5.length := by rw [← HM5.out, marked_len]
                  have HZL := Lib.hid hzl
                  have hE5 : E5.length ≤ 5 := by rw [← hzl]; exact e128_len z hzm
                  have hszw := hb7.size
                  clear ho7 hb7 hzl
                  go_wp2_with (at_builtin; (refine wpList_append_own _ rfl (.tmp 59) (.tmp 60) 53 rfl w2.heap.size 5 ib (.int .u8 0) 1 1 Tryz.underlying53 hib hbz0 hbz1 hbz2 rfl (by decide) _ D.length (D.map bcell) rfl (own_below HO.out HB7.out) ⟨h5, 0, none⟩ E5.length c5 ((e128 z).map bcell) rfl (by simp; exact HZL.out) (HO7.out.news (Below.refl _ _)) (bcells_one _) (by unfold maxLen; omega) (by omega) (by omega) ?_); intro v8 w8 ho8 hg8 _; have HO8 := Lib.hid (show OwnB 5 w8 w2.heap.size v8 (D ++ e128 z) by unfold OwnB; rw [List.length_append, List.map_append, HZL.out]; exact ho8); have HB8 := Lib.hid ((HB.out.trans (HB7.out.mono hszb)).grown hg8 (by omega) (fun k e => (World.ownsRow.lt HO.out k e).1)); clear ho8 hg8)
                  go_roundw
                  case rel => exact ⟨k + 1, D ++ e128 z, by omega, by go_num, by rw [HD.out, HN.out, cat_append]; simp [cat], HO8.out, HB8.out⟩
                  case measure => simp [intOf]; omega
          · have dq : ((nq : Int) == 0) = false := beq_eq_false_iff_ne.2 (by omega)
            have HQ0 := Lib.hid hq0
            clear hq0
            rcases hor with ⟨rfl, rfl⟩ | hne
            · go_wp2_with fail
              go_roundw
              case rel => exact ⟨nq, [y0], rfl, HQB.out, HBN.out, HBW.out, .inr ⟨by simp, HQ0.out, HNX.out⟩⟩
              case measure => simp [intOf]; exact HLT.out HQ0.out
            · obtain ⟨h, c3, rfl, hh1, hh2, hh3⟩ := HOE.out.open hne
              go_wp2_with (at_builtin; (refine wpList_append_own _ rfl (.tmp 39) (.tmp 40) 53 rfl wo.heap.size 5 ib (.int .u8 0) 1 1 Tryz.underlying53 hib hbz0 hbz1 hbz2 rfl (by decide) _ 1 [bcell y0] rfl HBN.out ⟨h, 0, none⟩ E.length c3 (E.map bcell) rfl (by simp) (HOE.out.news (belowNew _ _)) (bcells_one E) (by unfold maxLen; omega) (by omega) (by simp; omega) ?_); intro v5 w5 ho5 hg5 _; have HO5 := Lib.hid (show OwnB 5 w5 wo.heap.size v5 (y0 :: E) by unfold OwnB; rw [List.length_cons, Nat.add_comm]; exact ho5); have HB5 := Lib.hid (HBW.out.grown hg5 (by simp; omega) (fun k e => by cases e; exact hszx)); clear ho5 hg5)
              go_roundw
              case rel => exact ⟨nq, y0 :: E, rfl, HQB.out, HO5.out, HB5.out, .inr ⟨by simp, HQ0.out, HNX.out⟩⟩
              case measure => simp [intOf]; exact HLT.out HQ0.out
      · obtain rfl : k = N.length := by omega
        have hd : decide ((N.length : Int) < (N.length : Int)) = false := by simp
        have hs2 := own_str HO.out
        go_wp2_with fail
        go_ret2
        refine ⟨?_, below_next (below_next HB1.out HB2.out) HB.out⟩
        have e := HD.out
        rw [List.take_of_length_le (Nat.le_refl _), ← HEN.out] at e
        rw [e]; rfl
end Go.Proofs.YtpmlkofceidnjaaGreatDoor


namespace Go.Proofs.YtpmlkofceidnjaaGreatDoor
open Go.RowKit

/-- The bytes of the i-th element. -/
def rawAt (l : List El) (i : Nat) : List UInt8 := (l.getD i (0, ⟨#[]⟩, ⟨#[]⟩)).2.2.data.toList
/-- At the address lie the elements l. -/
def EAt (w : World) (a : Option Addr) (l : List El) : Prop := ∀ k (h : k < l.length), ∃ g, a = some ⟨g, 0, none⟩ ∧ ∀ j, j < 3 → w.cell? ⟨g, k * 3 + j, none⟩ = (elCells l[k])[j]?
theorem EAt.of {w : World} {B : Nat} {v : Value} {l : List El} (h : OwnE w B v l) : ∃ a c, v = .slice a l.length c ∧ EAt w a l := by
  have h' := own_base_t h
  rcases h.2 with ⟨hv, h0⟩ | ⟨g, cap, cur, hv, _⟩
  · exact ⟨none, 0, by rw [hv, h0], fun k hk => by omega⟩
  · rw [hv] at h'
    exact ⟨_, cap, hv, fun k hk => ⟨g, rfl, fun j hj => els_cell h' k hk j hj⟩⟩
theorem EAt.two {w wr : World} {a : Option Addr} {l : List El} (h : EAt w a l) (hb : Below w.heap.size w wr) (k : Nat) (hk1 : 1 ≤ k) (hk : k < l.length) :
    ∃ (g : Nat) (t c t' c' : Value) (x y : ByteArray), a = some ⟨g, 0, none⟩ ∧ wr.cell? ⟨g, k * 3, none⟩ = some t ∧ wr.cell? ⟨g, k * 3 + 1, none⟩ = some c ∧ wr.cell? ⟨g, k * 3 + 2, none⟩ = some (.string x) ∧
      wr.cell? ⟨g, (k - 1) * 3, none⟩ = some t' ∧ wr.cell? ⟨g, (k - 1) * 3 + 1, none⟩ = some c' ∧ wr.cell? ⟨g, (k - 1) * 3 + 2, none⟩ = some (.string y) ∧ rawAt l k = x.data.toList ∧ rawAt l (k - 1) = y.data.toList := by
  obtain ⟨g, rfl, h1⟩ := h k hk
  obtain ⟨g', e, h2⟩ := h (k - 1) (by omega)
  obtain rfl : g = g' := by simpa using e
  have hg : g < w.heap.size := block_lt_of_cell (a := ⟨g, k * 3 + 0, none⟩) (h1 0 (by omega))
  have o1 : ∀ j, j < 3 → wr.cell? ⟨g, k * 3 + j, none⟩ = (elCells l[k])[j]? := fun j hj => (hb.cell (p := ⟨g, k * 3 + j, none⟩) hg).trans (h1 j hj)
  have o2 : ∀ j, j < 3 → wr.cell? ⟨g, (k - 1) * 3 + j, none⟩ = (elCells (l[k - 1]'(by omega)))[j]? := fun j hj => (hb.cell (p := ⟨g, (k - 1) * 3 + j, none⟩) hg).trans (h2 j hj)
  exact ⟨g, _, _, _, _, _, _, rfl, o1 0 (by omega), o1 1 (by omega), o1 2 (by omega), o2 0 (by omega), o2 1 (by omega), o2 2 (by omega),
    by unfold rawAt; rw [List.getD_eq_getElem?_getD, List.getElem?_eq_getElem hk]; rfl, by unfold rawAt; rw [List.getD_eq_getElem?_getD, List.getElem?_eq_getElem (by omega)]; rfl⟩

end Go.Proofs.YtpmlkofceidnjaaGreatDoor
namespace Go.Proofs.YtpmlkofceidnjaaGreatDoor
open Go.RowKit

/-- The slice value v, of memory from block B on, holds the strings D. -/
def OwnS_t (w : World) (B : Nat) (v : Value) (D : List ByteArray) : Prop := w.ownsRow B 9 1 v D.length (D.map Value.string)
theorem OwnS_t.lies {w : World} {B : Nat} {v : Value} {D : List ByteArray} (h : OwnS_t w B v D) : ∃ a c, v = .slice a D.length c ∧ Lies w a D := by
  rcases h.2 with ⟨hv, h0⟩ | ⟨g, cap, cur, hv, _⟩
  · exact ⟨none, 0, by rw [hv, h0], .inl (List.eq_nil_of_length_eq_zero h0)⟩
  · have h' := h
    rw [hv] at h'
    refine ⟨_, cap, hv, .inr ⟨g, 0, rfl, fun i hi => ?_⟩⟩
    rw [Nat.zero_add, World.ownsRow.cellAt h' i (by omega)]
    simp [hi]
end Go.Proofs.YtpmlkofceidnjaaGreatDoor
namespace Go.Proofs.YtpmlkofceidnjaaGreatDoor
open Go.RowKit

/-- The contents of the element of an object identifier. -/
noncomputable def oidS (s : ByteArray) : ByteArray := @dite _ (∃ a, Oid s.data.toList a) (Classical.propDecidable _) (fun h => strOf (enc h.choose)) (fun _ => ⟨#[]⟩)
theorem oidS_yes {s : ByteArray} {a : List Nat} (h : Oid s.data.toList a) : oidS s = strOf (enc a) := by
  have hx : ∃ a, Oid s.data.toList a := ⟨a, h⟩
  unfold oidS
  rw [dif_pos hx, oid_one hx.choose_spec h]
theorem oidS_no {s : ByteArray} (h : ∀ a, ¬ Oid s.data.toList a) : oidS s = ⟨#[]⟩ := by
  unfold oidS
  rw [dif_neg (fun ⟨a, k⟩ => h a k)]
/-- The element with the identifier octet T and the contents x. -/
def wr1 (T : Int) (x : ByteArray) : ByteArray := wrapStr T x.data.toList
def wr2 (T : Int) (x y : ByteArray) : ByteArray := wrapStr T (x.data.toList ++ y.data.toList)
/-! ### Slices of one and of two strings -/
theorem reads_one {w : World} {g : Nat} {x : ByteArray} (h : w.cell? ⟨g, 0, none⟩ = some (.string x)) : Reads w (.slice (some ⟨g, 0, none⟩) 1 1) [x] := by
  refine ⟨_, 1, rfl, .inr ⟨g, 0, rfl, fun i hi => ?_⟩⟩
  obtain rfl : i = 0 := by simpa using hi
  exact h
theorem reads_two {w : World} {g : Nat} {x y : ByteArray} (h : w.cell? ⟨g, 0, none⟩ = some (.string x)) (k : w.cell? ⟨g, 1, none⟩ = some (.string y)) : Reads w (.slice (some ⟨g, 0, none⟩) 2 2) [x, y] := by
  refine ⟨_, 2, rfl, .inr ⟨g, 0, rfl, fun i hi => ?_⟩⟩
  rcases (by simp at hi; omega : i = 0 ∨ i = 1) with rfl | rfl
  · exact h
  · exact k
theorem cat_one (x : ByteArray) : cat_t [x] = x.data.toList := by simp [cat_t]
theorem cat_two (x y : ByteArray) : cat_t [x, y] = x.data.toList ++ y.data.toList := by simp [cat_t]

/-! ### wrap -/
set_option maxRecDepth 100000 in
set_option maxHeartbeats 1000000 in
theorem rwrapd_any (T : Int) (a : Option Addr) (n c : Nat) (ss : List ByteArray) (w : World) (hv : Reads w (.slice a n c) ss) (hn : ss.length < 4611686018427387904) (hb : (cat_t ss).length ≤ 1099511627776) :
    Calls Tryz.prog 30 #[.int .i64 T, .slice a n c] w fun e w' => e = .returned (.string (wrapStr T (cat_t ss))) ∧ Below w.heap.size w w' := by
  have HW := rwrap_any T _ ss w hv hn hb
  unfold wrapVal at HW
  have H := Lib.hid HW
  clear HW hv hn hb
  go_enter Tryz.func30, Tryz.ntmps30
  go_wp2_with (go_at_call 19; (with_reducible refine H.out.mono ?_); rintro e w1 ⟨rfl, hb⟩; have HB := Lib.hid hb; clear hb)
  go_ret
  exact ⟨rfl, HB.out⟩
theorem rw1 (T : Int) (g : Nat) (x : ByteArray) (w : World) (h : w.cell? ⟨g, 0, none⟩ = some (.string x)) (hx : x.size ≤ 1099511627776) :
    Calls Tryz.prog 30 #[.int .i64 T, .slice (some ⟨g, 0, none⟩) 1 1] w fun e w' => e = .returned (.string (wr1 T x)) ∧ Below w.heap.size w w' := by
  have := rwrapd_any T _ _ _ _ w (reads_one h) (by simp) (by rw [cat_one]; exact hx)
  rwa [cat_one] at this
theorem rw2 (T : Int) (g : Nat) (x y : ByteArray) (w : World) (h : w.cell? ⟨g, 0, none⟩ = some (.string x)) (k : w.cell? ⟨g, 1, none⟩ = some (.string y)) (hx : x.size + y.size ≤ 1099511627776) :
    Calls Tryz.prog 30 #[.int .i64 T, .slice (some ⟨g, 0, none⟩) 2 2] w fun e w' => e = .returned (.string (wr2 T x y)) ∧ Below w.heap.size w w' := by
  have := rwrapd_any T _ _ _ _ w (reads_two h k) (by simp) (by rw [cat_two, List.length_append]; exact hx)
  rwa [cat_two] at this
theorem wrapStr_size (T : Int) (c : List UInt8) : (wrapStr T c).size ≤ 131080 := by
  unfold wrapStr
  split
  · rename_i h
    have hl : c.length ≤ 131072 := by
      unfold wrapErr at h
      split at h
      · cases h
      · split at h
        · cases h
        · omega
    show (wrapL T.toNat c).length ≤ _
    unfold wrapL
    rw [List.length_cons, List.length_append, lenO_length]
    have := lsz_le c.length
    omega
  · show 0 ≤ _; omega

/-! ### The contents of an object identifier -/
theorem denc_any (s : ByteArray) (w : World) (hs : s.size ≤ 1099511627) :
    Calls Tryz.prog 47 #[.string s] w fun e w' => (∃ er : Int, e = .returned (.tuple #[.string (oidS s), .int .i64 er])) ∧ Below w.heap.size w w' := by
  rcases oid_or s.data.toList with ⟨a, h⟩ | h
  · exact (enc_yes h w hs).mono fun e w' ⟨he, hb⟩ => ⟨⟨0, by rw [he, oidS_yes h]; rfl⟩, hb⟩
  · exact (enc_no h w hs).mono fun e w' ⟨he, hb⟩ => ⟨⟨11, by rw [he, oidS_no h]; rfl⟩, hb⟩
theorem renc_any' (s : ByteArray) (w : World) (hs : s.size ≤ 1099511627) :
    Calls Tryz.prog 59 #[.string s] w fun e w' => (∃ er : Int, e = .returned (.tuple #[.string (oidS s), .int .i64 er])) ∧ Below w.heap.size w w' := by
  rcases oid_or s.data.toList with ⟨a, h⟩ | h
  · exact (renc_yes h w hs).mono fun e w' ⟨he, hb⟩ => ⟨⟨0, by rw [he, oidS_yes h]; rfl⟩, hb⟩
  · exact (renc_no h w hs).mono fun e w' ⟨he, hb⟩ => ⟨⟨11, by rw [he, oidS_no h]; rfl⟩, hb⟩
end Go.Proofs.YtpmlkofceidnjaaGreatDoor
namespace Go.Proofs.YtpmlkofceidnjaaGreatDoor
open Go.RowKit

theorem bx1 (V : World) (x : ByteArray) (T : TypeId) : (V.alloc (.cells #[.string x] T)).cell? ⟨V.heap.size, 0, none⟩ = some (.string x) := (one_facts (heap_alloc_new V _)).1
theorem cat128_len : ∀ (N : List Nat), (∀ v ∈ N, v < 34359738368) → (cat e128 N).length ≤ 5 * N.length
  | [], _ => by simp [cat]
  | x :: r, h => by
    have h1 := e128_len x (h x List.mem_cons_self)
    have h2 := cat128_len r (fun v hv => h v (List.mem_cons_of_mem _ hv))
    simp only [cat, List.length_append, List.length_cons]
    omega
theorem enc_len {l : List UInt8} {a : List Nat} (h : Oid l a) : (enc a).length ≤ 55 := by
  obtain ⟨h1, h2, h3, h4⟩ := (good_nums h.1).1
  have h5 := cat128_len (numsOf a) (fun v hv => by
    generalize numsOf a = N at hv h3 h4
    cases N with
    | nil => cases hv
    | cons x r =>
      rcases List.mem_cons.1 hv with rfl | hv
      · have : v ≤ 2147483727 := h3
        omega
      · have := h4 v hv
        omega)
  show (cat e128 (numsOf a)).length ≤ 55
  omega
theorem oidS_size (s : ByteArray) : (oidS s).size ≤ 55 := by
  rcases oid_or s.data.toList with ⟨a, h⟩ | h
  · rw [oidS_yes h, strOf_size]; exact enc_len h
  · rw [oidS_no h]; show 0 ≤ _; omega
set_option maxRecDepth 100000 in
set_option maxHeartbeats 1000000 in
theorem roid_any (s : ByteArray) (w : World) (hs : s.size ≤ 1099511627) :
    Calls Tryz.prog 43 #[.string s] w fun e w' => e = .returned (.string (wr1 6 (oidS s))) ∧ Below w.heap.size w w' := by
  have H := Lib.hid (fun W => renc_any' s W hs)
  have HZ := Lib.hid (show (oidS s).size ≤ 1099511627776 from Nat.le_trans (oidS_size s) (by omega))
  obtain ⟨c, hc⟩ : ∃ c, c = oidS s := ⟨_, rfl⟩
  rw [← hc] at H HZ ⊢
  have HC := Lib.hid (fun g W h => rw1 6 g c W h HZ.out)
  clear hc hs
  go_enter Tryz.func43, Tryz.ntmps43
  go_wp2_with (first
    | (go_at_call 59; (with_reducible refine (H.out _).mono ?_); rintro e w1 ⟨⟨er, rfl⟩, hb⟩; have HB := Lib.hid hb; clear hb)
    | (go_at_call 30; (with_reducible refine (HC.out _ _ (bx1 _ _ _)).mono ?_); rintro e w2 ⟨rfl, hb⟩; have HB2 := Lib.hid (below_next HB.out (below_next (belowNew _ _) hb)); clear hb))
  go_ret
  exact ⟨rfl, HB2.out⟩

end Go.Proofs.YtpmlkofceidnjaaGreatDoor


namespace Go.Proofs.YtpmlkofceidnjaaGreatDoor
open Go.RowKit

theorem str_dig (d : UInt8) (w : World) : (convert 53 9 (.slice (some ⟨w.heap.size, 0, none⟩) 1 1)).run Tryz.prog (w.alloc (.cells #[.int .u8 ((d.toNat : Nat) : Int)] 5)) = .ok (.string (strOf [d])) (w.alloc (.cells #[.int .u8 ((d.toNat : Nat) : Int)] 5)) :=
  own_str (l := [d]) ⟨rfl, .inr ⟨w.heap.size, 1, _, rfl, Nat.le_refl _, heap_alloc_new w _, Nat.le_refl _, by decide, rfl, rfl⟩⟩

set_option maxRecDepth 100000 in
set_option maxHeartbeats 1000000 in
theorem dec_small (n : Nat) (h : n < 10) (w : World) :
    Calls Tryz.prog 63 #[.int .i64 (n : Int)] w fun e w' => e = .returned (.string (strOf (Lib.decDigits n))) ∧ Below w.heap.size w w' := by
  have d1 : decide ((n : Int) < 10) = true := by simp; omega
  obtain ⟨d, hd⟩ : ∃ d : UInt8, d = UInt8.ofNat (48 + n) := ⟨_, rfl⟩
  have hdn : wrap64 (48 + (n : Int)) % 256 = ((d.toNat : Nat) : Int) := by rw [hd]; unfold wrap64; simp; omega
  have hs := str_dig d
  have HD := Lib.hid (show Lib.decDigits n = [d] by rw [Lib.decDigits_one h, hd])
  clear h hd
  go_enter Tryz.func63, Tryz.ntmps63
  go_wp2_with fail
  go_ret
  exact ⟨by rw [HD.out]; rfl, belowNew _ _⟩
theorem conv_later (d : UInt8) (w w1 : World) (hb : Below (w.alloc (.cells #[.int .u8 ((d.toNat : Nat) : Int)] 5)).drew.heap.size (w.alloc (.cells #[.int .u8 ((d.toNat : Nat) : Int)] 5)).drew w1) :
    (convert 53 9 (.slice (some ⟨w.heap.size, 0, none⟩) 1 1)).run Tryz.prog w1 = .ok (.string (strOf [d])) w1 :=
  own_str (B := w.heap.size) (l := [d]) (own_below (w := (w.alloc (.cells #[.int .u8 ((d.toNat : Nat) : Int)] 5)).drew) (World.ownsRow.drew ⟨rfl, .inr ⟨w.heap.size, 1, _, rfl, Nat.le_refl _, heap_alloc_new w _, Nat.le_refl _, by decide, rfl, rfl⟩⟩) hb)
theorem str_dig_drew (d : UInt8) (w : World) : (convert 53 9 (.slice (some ⟨w.heap.size, 0, none⟩) 1 1)).run Tryz.prog (w.alloc (.cells #[.int .u8 ((d.toNat : Nat) : Int)] 5)).drew = .ok (.string (strOf [d])) (w.alloc (.cells #[.int .u8 ((d.toNat : Nat) : Int)] 5)).drew :=
  own_str (B := w.heap.size) (l := [d]) (World.ownsRow.drew ⟨rfl, .inr ⟨w.heap.size, 1, _, rfl, Nat.le_refl _, heap_alloc_new w _, Nat.le_refl _, by decide, rfl, rfl⟩⟩)
set_option maxRecDepth 100000 in
set_option maxHeartbeats 1000000 in
theorem dec_bound (k : Nat) : ∀ (n : Nat) (w : World), n < 10 ^ (k + 1) → n ≤ 9223372036854775807 →
    Calls Tryz.prog 63 #[.int .i64 (n : Int)] w fun e w' => e = .returned (.string (strOf (Lib.decDigits n))) ∧ Below w.heap.size w w' := by
  induction k with
  | zero => intro n w h _; exact dec_small n (by simpa using h) w
  | succ k ih =>
    intro n w h hn
    by_cases h10 : n < 10
    · exact dec_small n h10 w
    · have d1 : decide ((n : Int) < 10) = false := by simp; omega
      obtain ⟨q, hq⟩ : ∃ q, q = n / 10 := ⟨_, rfl⟩
      obtain ⟨d, hd⟩ : ∃ d : UInt8, d = UInt8.ofNat (48 + n % 10) := ⟨_, rfl⟩
      have hqi : (n : Int) / 10 = (q : Int) := by rw [hq]; omega
      have HIH := Lib.hid (fun w => ih q w (by rw [hq]; rw [Nat.pow_succ] at h; omega) (by omega))
      have hqw : IntKind.i64.wrap (q : Int) = (q : Int) := by rw [wrap_i64]; omega
      have hdn : IntKind.u8.wrap (IntKind.i64.wrap (48 + (n : Int).tmod 10)) = ((d.toNat : Nat) : Int) := by
        rw [hd, wrap_i64, Int.tmod_eq_emod_of_nonneg (by omega)]
        simp [IntKind.wrap, IntKind.bits, IntKind.signed]
        omega
      have hs := str_dig_drew d
      have HD := Lib.hid (show Lib.decDigits n = Lib.decDigits q ++ [d] by
        conv => lhs; rw [Lib.decDigits]
        rw [dif_neg h10, hq, hd])
      have hcat : ∀ w, (Op.stringOp .add (strOf (Lib.decDigits q)) (strOf [d])).run Tryz.prog w = .ok (.string (strOf (Lib.decDigits n))) w := fun w => by
        rw [run_string_add_sum w _ _ (by
          rw [strOf_size, strOf_size, Lib.decDigits_length]
          have := Lib.nDigits_le20 q (by omega)
          simp; omega), str_cat, HD.out]
      clear hq hd ih h
      go_enter Tryz.func63, Tryz.ntmps63
      go_upto_region 3 with fail
      go_region_with (first
        | (go_at_call 63; (with_reducible refine (HIH.out _).mono ?_); rintro e w1 ⟨rfl, hb1⟩; have hs1 := conv_later d w w1 hb1; have HB1 := Lib.hid (show Below w.heap.size w w1 from (belowNew w _).drew.trans (hb1.mono (by simp))); clear hb1)
        | (go_at_call 63; (with_reducible refine (HIH.out _).mono ?_); rintro e w1 ⟨rfl, hb1⟩; have hs1 := str_dig d w1; have HB1 := Lib.hid (show Below w.heap.size w w1 from (Below.refl _ w).drew.trans (hb1.mono (by simp))); clear hb1))
      all_goals
        go_wp2_with fail
        go_ret
        first
        | exact ⟨rfl, HB1.out⟩
        | exact ⟨rfl, HB1.out.alloc HB1.out.size _⟩
theorem decno_any (n : Nat) (w : World) (hn : n ≤ 9223372036854775807) :
    Calls Tryz.prog 63 #[.int .i64 (n : Int)] w fun e w' => e = .returned (.string (strOf (Lib.decDigits n))) ∧ Below w.heap.size w w' :=
  dec_bound 18 n w (by omega) hn
end Go.Proofs.YtpmlkofceidnjaaGreatDoor
namespace Go.Proofs.YtpmlkofceidnjaaGreatDoor
open Go.RowKit

/-- The numbers L can be read from the address a0 on. -/
def WLies (w : World) (a0 : Option Addr) (L : List Nat) : Prop :=
  L = [] ∨ ∃ b off, a0 = some ⟨b, off, none⟩ ∧ ∀ i, i < L.length → w.cell? ⟨b, off + i, none⟩ = some (.int .u32 ((L.getD i 0 : Nat) : Int))
theorem WLies.below {w w' : World} {a0 : Option Addr} {L : List Nat} (h : WLies w a0 L) (hb : Below w.heap.size w w') : WLies w' a0 L := by
  rcases h with h | ⟨b, off, h1, h2⟩
  · exact .inl h
  · refine .inr ⟨b, off, h1, fun i hi => ?_⟩
    rw [← h2 i hi]
    exact hb.cell (World.block_lt_of_cell? _ _ (h2 i hi))
theorem WLies.take {w : World} {a0 : Option Addr} {L : List Nat} (h : WLies w a0 L) (k : Nat) : WLies w a0 (L.take k) := by
  rcases h with h | ⟨b, off, h1, h2⟩
  · exact .inl (by rw [h]; simp)
  · refine .inr ⟨b, off, h1, fun i hi => ?_⟩
    rw [List.length_take] at hi
    rw [h2 i (by omega), List.getD_eq_getElem?_getD, List.getD_eq_getElem?_getD, List.getElem?_take_of_lt (by omega)]
theorem txt_len (a : List Nat) (h : ∀ v ∈ a, v ≤ 2147483647) : (txt a).length ≤ 11 * a.length := by
  by_cases h0 : a = []
  · subst h0; simp [txt]
  · have e := congrArg List.length (txt_dot a h0)
    have key : ∀ a : List Nat, (∀ v ∈ a, v ≤ 2147483647) → (cat fdot a).length ≤ 11 * a.length := by
      intro a
      induction a with
      | nil => intro _; simp [cat]
      | cons v a ih =>
        intro h
        have h1 := dec_len 10 v (Nat.lt_of_le_of_lt (h v (by simp)) (by decide)) (by omega)
        have h2 := ih (fun x hx => h x (by simp [hx]))
        simp only [cat, fdot, List.length_append, List.length_cons, List.length_nil]; omega
    have := key a h
    rw [List.length_append] at e
    simp at e; omega
theorem add_str (a b : List UInt8) (h : a.length + b.length ≤ 9223372036854775807) (w : World) : (Op.stringOp .add (strOf a) (strOf b)).run Tryz.prog w = .ok (.string (strOf (a ++ b))) w := by
  rw [run_string_add_sum w _ _ (by rw [strOf_size, strOf_size]; exact h), str_cat]
theorem add_dot (a : List UInt8) (h : a.length ≤ 1000) (w : World) : (Op.stringOp .add (strOf a) ⟨#[46]⟩).run Tryz.prog w = .ok (.string (strOf (a ++ [46]))) w := add_str a [46] (by simp; omega) w
theorem dot_add (a : List UInt8) (h : a.length ≤ 1000) (w : World) : (Op.stringOp .add ⟨#[46]⟩ (strOf a)).run Tryz.prog w = .ok (.string (strOf (46 :: a))) w := add_str [46] a (by simp; omega) w
end Go.Proofs.YtpmlkofceidnjaaGreatDoor
namespace Go.Proofs.YtpmlkofceidnjaaGreatDoor
open Go.RowKit

def oidVal (a : List Nat) : Value := .tuple #[.string (strOf (txt a)), .int .i64 0]
def OwnS (w : World) (B : Nat) (v : Value) (ss : List ByteArray) : Prop := w.ownsRow B 9 1 v ss.length (ss.map Value.string)
theorem strs_one (ss : List ByteArray) : ∀ v ∈ ss.map Value.string, v.oneCell' = true := by
  intro v hv; obtain ⟨b, _, rfl⟩ := List.mem_map.1 hv; rfl
def decS (n : Nat) : ByteArray := strOf (Lib.decDigits n)
theorem owns_two (w : World) (x y : ByteArray) : OwnS (w.alloc (.cells #[.string x, .string y] 9)) w.heap.size (.slice (some ⟨w.heap.size, 0, none⟩) 2 2) [x, y] :=
  ⟨rfl, .inr ⟨w.heap.size, 2, _, rfl, Nat.le_refl _, heap_alloc_new w _, Nat.le_refl _, by decide, rfl, rfl⟩⟩
theorem owns_form {w : World} {B : Nat} {v : Value} {ss : List ByteArray} (h : OwnS w B v ss) (h0 : ss ≠ []) :
    ∃ g cp, v = .slice (some ⟨g, 0, none⟩) ss.length cp ∧ g < w.heap.size ∧ ss.length ≤ cp ∧ ∀ (j : Nat) x, ss[j]? = some x → w.cell? ⟨g, 0 + j, none⟩ = some (.string x) := by
  rcases h.2 with ⟨_, h1⟩ | ⟨g, cap, cur, rfl, hB, hg, hn, _, hcs, htk⟩
  · exact absurd (List.eq_nil_of_length_eq_zero h1) h0
  · refine ⟨g, cap, rfl, (Array.getElem?_eq_some_iff.1 hg).1, hn, fun j x hx => ?_⟩
    have hj := (List.getElem?_eq_some_iff.1 hx).1
    rw [Nat.zero_add, cell_of_row w g j _ _ _ hg]
    have : (cur.toList.take (ss.length * 1))[j]? = some (.string ss[j]) := by rw [htk]; simp [hj]
    rw [List.getElem?_take_of_lt (by omega)] at this
    rw [List.getElem?_eq_getElem hj] at hx
    rw [← Option.some.inj hx]
    simpa using this
theorem strs_round {w wr w2 : World} {B : Nat} {v v' : Value} {D : List ByteArray} {y : ByteArray} {X : Obj} (hB : w.heap.size ≤ B) (hown : OwnS wr B v D) (hb : Below w.heap.size w wr)
    (hown2 : w2.ownsRow B 9 1 v' (D.length + 1) (D.map Value.string ++ [.string y])) (hgr2 : (wr.alloc X).grownBy w2 v.ownBlock) : OwnS w2 B v' (D ++ [y]) ∧ Below w.heap.size w w2 := by
  refine ⟨?_, ?_⟩
  · unfold OwnS
    rw [List.length_append, List.map_append]; exact hown2
  · exact (Below.alloc hb hb.size X).grown hgr2 (by simp; have := hb.size; omega) (fun k e => Nat.le_trans hB (World.ownsRow.lt hown k e).1)
theorem nums_yes {c : ByteArray} {N : List Nat} (hg : GoodN N) (hN : c.data.toList = cat e128 N) (w : World) (hs : c.size ≤ 1099511627) :
    Calls Tryz.prog 60 #[.string c] w fun e w' => (∃ g cap, e = .returned (.tuple #[.slice (some ⟨g, 0, none⟩) N.length cap, .bool true]) ∧ ILie w' g N ∧ N.length ≤ cap) ∧ Below w.heap.size w w' := by
  refine (nums_any c w hs).mono ?_
  rintro e w' ⟨h, hb⟩
  refine ⟨?_, hb⟩
  rcases h with ⟨M, g, cap, h1, h2, h3, h4, h5, h6⟩ | ⟨h1, _⟩
  · obtain rfl : M = N := code_inj e128_code e128_ne (h2.symm.trans hN)
    exact ⟨g, cap, h3, h4, h6⟩
  · exact absurd (dec_iff hg hN) (h1 _)
theorem nums_no {c : ByteArray} (h : ∀ a, ¬ Dec c.data.toList a) (w : World) (hs : c.size ≤ 1099511627) :
    Calls Tryz.prog 60 #[.string c] w fun e w' => (∃ v, e = .returned (.tuple #[v, .bool false])) ∧ Below w.heap.size w w' := by
  refine (nums_any c w hs).mono ?_
  rintro e w' ⟨h', hb⟩
  refine ⟨?_, hb⟩
  rcases h' with ⟨M, g, cap, h1, h2, _⟩ | ⟨_, h2⟩
  · exact absurd (dec_iff h1 h2) (h _)
  · exact h2
theorem itoaS (n : Nat) (w : World) (hn : n ≤ 9223372036854775807) (ht : Pow10 w) :
    Calls Tryz.prog 61 #[.int .i64 (n : Int)] w fun e w' => e = .returned (.string (decS n)) ∧ Below w.heap.size w w' := itoa_any n w hn ht

set_option maxRecDepth 100000 in
set_option maxHeartbeats 1000000 in
theorem decode_no {c : ByteArray} (h : ∀ a, ¬ Dec c.data.toList a) (w : World) (hs : c.size ≤ 1099511627) :
    Calls Tryz.prog 45 #[.string c] w fun e w' => e = .returned noVal ∧ Below w.heap.size w w' := by
  have HH := Lib.hid h
  clear h
  go_enter Tryz.func45, Tryz.ntmps45
  go_wp2_with (go_at_call 60; (with_reducible refine (nums_no HH.out _ hs).mono ?_); rintro e w1 ⟨⟨v, rfl⟩, hb1⟩; have HB1 := Lib.hid hb1; clear hb1)
  go_ret2
  exact ⟨rfl, HB1.out⟩

theorem join_dec (a : List Nat) : Lib.join ((a.map decS).map (·.data.toList)) [46] = txt a := by
  rw [← join_txt, List.map_map]
  congr 1

set_option maxRecDepth 100000 in
set_option maxHeartbeats 2000000 in
theorem decode_yes {c : ByteArray} {N : List Nat} (hg : GoodN N) (hN : c.data.toList = cat e128 N) (w : World) (hs : c.size ≤ 1099511627) (ht : Pow10 w) :
    Calls Tryz.prog 45 #[.string c] w fun e w' => e = .returned (oidVal (arcsN N)) ∧ Below w.heap.size w w' := by
  obtain ⟨i0, hi, hz0, hz1, hz2⟩ := info_parts strInfo
  have HG := Lib.hid hg
  have HN := Lib.hid hN
  have HT := Lib.hid ht
  obtain ⟨m, M, rfl⟩ : ∃ m M, N = m :: M := by
    cases N with
    | nil => exact absurd hg.1 (by simp)
    | cons m M => exact ⟨m, M, rfl⟩
  have hM : M.length ≤ 10 := by have := hg.2.1; simp at this; omega
  have hm : m ≤ 2147483727 := by simpa using hg.2.2.1
  have HMM := Lib.hid (show ∀ v ∈ M, v ≤ 2147483647 from by simpa using hg.2.2.2)
  obtain ⟨q, hq⟩ : ∃ q, q = m / 40 := ⟨_, rfl⟩
  have hqi : (m : Int) / 40 = (q : Int) := by omega
  obtain ⟨f, hf⟩ : ∃ f, f = min q 2 := ⟨_, rfl⟩
  have hfi : min (q : Int) 2 = (f : Int) := by omega
  have hfb : f ≤ 2 := by omega
  have hf40 : 40 * f ≤ m := by omega
  obtain ⟨z, hz⟩ : ∃ z, z = m - 40 * f := ⟨_, rfl⟩
  have hzi : (m : Int) - 40 * (f : Int) = (z : Int) := by omega
  have hzb : z ≤ 2147483727 := by omega
  have HAR := Lib.hid (show ∀ k, (arcsN (m :: M.take k)).map decS = [decS f, decS z] ++ (M.take k).map decS from fun k => by rw [hz, hf, hq]; simp [arcsN])
  clear hq hf hz hg hN ht hf40
  go_enter Tryz.func45, Tryz.ntmps45
  go_upto_region 5 with (go_at_call 60; (with_reducible refine (nums_yes HG.out HN.out _ hs).mono ?_); rintro e w1 ⟨⟨g, cap, rfl, hl, hcp⟩, hb1⟩; have HB1 := Lib.hid hb1; have HL := Lib.hid hl; have hc0 := hl.cell 0 (by simp); simp only [List.length_cons] at hcp; simp only [List.getD_cons_zero] at hc0; clear hb1 hl)
  have hwr2 : IntKind.i64.wrap (40 * (f : Int)) = 40 * (f : Int) := by rw [wrap_i64]; omega
  have hwr3 : IntKind.i64.wrap (z : Int) = (z : Int) := by rw [wrap_i64]; omega
  have HB1D := Lib.hid (show Below w.heap.size w w1.drew from Below.drew HB1.out)
  have HT1 := Lib.hid (HT.out.below HB1D.out)
  have BF := Lib.hid (show f ≤ 9223372036854775807 by omega)
  have BZ := Lib.hid (show z ≤ 9223372036854775807 by omega)
  go_region_with (first
    | (go_at_call 61; (with_reducible refine (itoaS f _ BF.out HT1.out).mono ?_); rintro e w2 ⟨rfl, hb2⟩; have HB2 := Lib.hid (below_next HB1D.out hb2); have HT2 := Lib.hid (HT.out.below HB2.out); have HL2 := Lib.hid (HL.out.below ((Below.refl _ w1).drew.trans hb2)); have hc2 := HL2.out.cell 0 (by simp); simp only [List.getD_cons_zero] at hc2; clear hb2)
    | (go_at_call 61; (with_reducible refine (itoaS z _ BZ.out HT2.out).mono ?_); rintro e w3 ⟨rfl, hb3⟩; have HB3 := Lib.hid (below_next HB2.out hb3); have HL3 := Lib.hid (HL2.out.below hb3); clear hb3))
  all_goals
    have HO3 := Lib.hid (owns_two w3 (decS f) (decS z))
    have HB4 := Lib.hid (belowNew w3 (.cells #[.string (decS f), .string (decS z)] 9))
    clear hwr2 hwr3 hc0 hc2
    go_wp2_with fail
  all_goals
    go_loopw [7, 35] (fun u i wr => ∃ (k : Nat) (D : List ByteArray), k ≤ M.length ∧ i = .int .i64 (k : Int) ∧ D = (arcsN (m :: M.take k)).map decS ∧ D.length = k + 2 ∧ OwnS wr w3.heap.size u D ∧ Below w3.heap.size w3 wr) (fun _ i _ => M.length - (intOf i).toNat)
    case atStart => exact ⟨0, _, by omega, rfl, rfl, by rw [HAR.out]; rfl, by rw [HAR.out]; exact HO3.out, HB4.out⟩
    case round =>
      obtain ⟨k, D, hk, rfl, hD, hDl, ho, hb⟩ := hrel
      have HB := Lib.hid hb
      have HO := Lib.hid ho
      have HD := Lib.hid hD
      clear hb ho hD
      by_cases hlt : k < M.length
      · have dk : decide ((k : Int) < (M.length : Int)) = true := by simp; omega
        have hcx : wr.cell? ⟨g, 1 + k, none⟩ = some (.int .i64 ((M.getD k 0 : Nat) : Int)) := by
          have h1 := (HL3.out.below HB.out).2 (k + 1) (by simp; omega)
          rw [Nat.add_comm 1 k, h1]
          simp
        have hxb : M.getD k 0 ≤ 2147483647 := by
          rw [List.getD_eq_getElem?_getD, List.getElem?_eq_getElem hlt]
          exact HMM.out _ (by simp)
        have HN2 := Lib.hid (show D ++ [decS (M.getD k 0)] = (arcsN (m :: M.take (k + 1))).map decS by
          rw [HD.out, HAR.out, HAR.out, List.append_assoc, List.take_add_one, List.getD_eq_getElem?_getD, List.getElem?_eq_getElem hlt, List.map_append]
          rfl)
        generalize M.getD k 0 = x at hcx hxb HN2
        have BX := Lib.hid (show x ≤ 9223372036854775807 by omega)
        have HTR := Lib.hid (HT.out.below (below_next HB3.out HB.out))
        go_wp2_with (first
          | (go_at_call 61; (with_reducible refine (itoaS x _ BX.out HTR.out).mono ?_); rintro e w5 ⟨rfl, hb5⟩; have HO5 := Lib.hid (own_below HO.out hb5); have HB5 := Lib.hid (below_next HB.out hb5); clear hb5)
          | (at_builtin; (refine wpList_append_own _ rfl (.tmp 39) (.tmp 42) 37 rfl w3.heap.size 9 i0 (.string ⟨#[]⟩) 1 16 Tryz.underlying37 hi hz0 hz1 hz2 rfl (by decide) _ D.length (D.map Value.string) rfl (HO5.out.alloc _) ⟨w5.heap.size, 0, none⟩ 1 1 [.string (decS x)] rfl rfl (news_row w5 #[.string (decS x)] 9) (strs_one [decS x]) (by unfold maxLen; omega) (by omega) (by have := HB5.out.size; simp; omega) ?_); intro v' w6 hown2 hgr2 _; obtain ⟨P1, P2⟩ := strs_round (Nat.le_refl _) HO5.out HB5.out hown2 hgr2; have HP1 := Lib.hid P1; have HP2 := Lib.hid P2; clear hown2 hgr2 P1 P2))
        all_goals
          go_roundw
          case rel => exact ⟨k + 1, D ++ [decS x], by omega, by go_num, HN2.out, by simp; omega, HP1.out, HP2.out⟩
          case measure => simp [intOf]; omega
      · obtain rfl : k = M.length := by omega
        have dk : decide ((M.length : Int) < (M.length : Int)) = false := by simp
        obtain ⟨h, cp, rfl, hh1, hh2, hh3⟩ := owns_form HO.out (fun e => by rw [e] at hDl; simp at hDl)
        have HDD := Lib.hid (show D = (arcsN (m :: M)).map decS by rw [HD.out, List.take_of_length_le (Nat.le_refl _)])
        have HJ := Lib.hid (show Lib.join (D.map (·.data.toList)) [46] = txt (arcsN (m :: M)) by rw [HDD.out, join_dec])
        have hjl : (Lib.join (D.map (·.data.toList)) [46]).length ≤ 140737488355328 := by
          rw [HJ.out]
          refine Nat.le_trans (txt_len _ (goodN_arcs HG.out).1.2.2.1) ?_
          have := (goodN_arcs HG.out).1.2.1
          omega
        have HJL := Lib.hid hjl
        have hDb : D.length ≤ 12 := by omega
        have HH3 := Lib.hid hh3
        clear hjl hh3 hlt hDl hk
        go_wp2_with (go_at_call 62; (with_reducible refine (join_any h 0 cp D ⟨#[46]⟩ _ HH3.out hh1 (by omega) hh2 HJL.out).mono ?_); rintro e w5 ⟨rfl, hb5⟩; have HB5 := Lib.hid (below_next HB.out hb5); clear hb5)
        go_ret2
        refine ⟨?_, below_next HB3.out HB5.out⟩
        show _ = Ending.returned (oidVal (arcsN (m :: M)))
        rw [oidVal, ← HJ.out]
        rfl
end Go.Proofs.YtpmlkofceidnjaaGreatDoor
